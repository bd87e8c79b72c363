import PyProof.Rows.All
import Wide.All
import OpenK.AllK
import Wide.FinOn
import Lean
import PyProof.EqAt
import PyProof.EqKinds
import PyProof.TupleCall
import PyProof.TupleKey
import PyProof.DictRoadsH
import PyProof.FactsAll.bool_1
import PyProof.AttrMissHeap
import KE.KDictOf
import PyProof.ListMulRoad
import PyProof.FactsAll.tuple_2
import KE.KSortTup
import PyProof.TupleOfSeq
import PyProof.ListRange
import PyProof.DictTable
import PyProof.Rows.TupTab
import PyProof.FactsAll.range_1
import KE.KDictList
import PyProof.SetRoads
import PyProof.DictTruth
import PySem.Challenge.RW_soundrules_k39_whole_neither_way_nor_tak
noncomputable section
set_option Elab.async false
set_option linter.all false
set_option maxRecDepth 100000
set_option maxHeartbeats 4000000
theorem Qqq:type_of% @List.mem_cons_of_mem:=@List.mem_cons_of_mem
theorem Qqx:type_of% @List.length_append:=@List.length_append
theorem Qqz:type_of% @PySem.wpAny_bind:=@PySem.wpAny_bind
theorem Qqj:type_of% @List.mem_cons_self:=@List.mem_cons_self
theorem Qqk:type_of% @List.mem_singleton:=@List.mem_singleton
theorem Qqv:type_of% @List.length_map:=@List.length_map
theorem Qqw:type_of% @List.getElem?_eq_some_iff:=@List.getElem?_eq_some_iff
theorem Qqy:type_of% @List.length_cons:=@List.length_cons
theorem Qq0:type_of% @PySem.Heap.get?_push_of_some:=@PySem.Heap.get?_push_of_some
theorem Qq1:type_of% @Nat.le_refl:=@Nat.le_refl
theorem Qq2:type_of% @Nat.le_trans:=@Nat.le_trans
theorem Qq3:type_of% @List.size_toArray:=@List.size_toArray
theorem Qq4:type_of% @List.mem_cons:=@List.mem_cons
theorem Qq5:type_of% @PySem.wpAny_pure:=@PySem.wpAny_pure
theorem Qq6:type_of% @List.length_singleton:=@List.length_singleton
theorem Qq7:type_of% @List.getElem?_set_ne:=@List.getElem?_set_ne
theorem Qq8:type_of% @List.map_cons:=@List.map_cons
theorem Qq9:type_of% @PySem.Heap.lt_size:=@PySem.Heap.lt_size
theorem Qwq:type_of% @List.mem_append:=@List.mem_append
theorem Qwx:type_of% @Nat.lt_of_lt_of_le:=@Nat.lt_of_lt_of_le
theorem Qwz:type_of% @List.getElem?_eq_getElem:=@List.getElem?_eq_getElem
theorem Qwj:type_of% @decide_eq_false:=@decide_eq_false
theorem Qwk:type_of% @Option.map_eq_some_iff:=@Option.map_eq_some_iff
theorem Qwv:type_of% @List.getElem?_set_self:=@List.getElem?_set_self
theorem Qww:type_of% @PySem.Heap.get?_push_size:=@PySem.Heap.get?_push_size
theorem Qwy:type_of% @List.mem_map:=@List.mem_map
theorem Qw0:type_of% @List.getD_eq_getElem?_getD:=@List.getD_eq_getElem?_getD
theorem Qw1:type_of% @Option.some.inj:=@Option.some.inj
theorem Qw2:type_of% @Nat.lt_of_le_of_lt:=@Nat.lt_of_le_of_lt
theorem Qw3:type_of% @List.getElem?_append_left:=@List.getElem?_append_left
theorem Qw4:type_of% @decide_eq_true:=@decide_eq_true
theorem Qw5:type_of% @List.getElem?_map:=@List.getElem?_map
theorem Qw6:type_of% @Bool.false_ne_true:=@Bool.false_ne_true
theorem Qw7:type_of% @Option.some.injEq:=@Option.some.injEq
theorem Qw8:type_of% @of_decide_eq_true:=@of_decide_eq_true
theorem Qw9:type_of% @List.not_mem_nil:=@List.not_mem_nil
theorem Qxq:type_of% @Nat.ne_of_lt:=@Nat.ne_of_lt
theorem Qxx:type_of% @List.append_nil:=@List.append_nil
theorem Qxz:type_of% @List.mem_append_right:=@List.mem_append_right
theorem Qxj:type_of% @List.nodup_cons:=@List.nodup_cons
theorem Qxk:type_of% @Nat.zero_le:=@Nat.zero_le
theorem Qxv:type_of% @List.mem_of_getElem?:=@List.mem_of_getElem?
theorem Qxw:type_of% @List.lookup_cons:=@List.lookup_cons
theorem Qxy:type_of% @List.getElem?_append_right:=@List.getElem?_append_right
theorem Qx0:type_of% @List.length_set:=@List.length_set
theorem Qx1:type_of% @List.map_append:=@List.map_append
theorem Qx2:type_of% @List.length_nil:=@List.length_nil
theorem Qx3:type_of% @List.append_assoc:=@List.append_assoc
theorem Qx4:type_of% @List.length_replicate:=@List.length_replicate
theorem Qx5:type_of% @Option.bind_eq_some_iff:=@Option.bind_eq_some_iff
theorem Qx6:type_of% @beq_eq_false_iff_ne:=@beq_eq_false_iff_ne
theorem Qx7:type_of% @List.all_eq_true:=@List.all_eq_true
theorem Qx8:type_of% @List.cons.inj:=@List.cons.inj
theorem Qx9:type_of% @Option.isSome_iff_exists:=@Option.isSome_iff_exists
theorem Qzq:type_of% @Nat.le_of_ble_eq_true:=@Nat.le_of_ble_eq_true
theorem Qzx:type_of% @Bool.and_eq_true:=@Bool.and_eq_true
theorem Qzz:type_of% @Nat.lt_irrefl:=@Nat.lt_irrefl
theorem Qzj:type_of% @List.getElem?_replicate:=@List.getElem?_replicate
theorem Qzk:type_of% @List.mem_append_left:=@List.mem_append_left
theorem Qzv:type_of% @Bool.and_eq_true_iff:=@Bool.and_eq_true_iff
theorem Qzw:type_of% @List.find?_cons:=@List.find?_cons
theorem Qzy:type_of% @List.length_take:=@List.length_take
theorem Qz0:type_of% @List.mem_flatMap:=@List.mem_flatMap
theorem Qz1:type_of% @List.getElem?_take_of_lt:=@List.getElem?_take_of_lt
theorem Qz2:type_of% @PySem.wpAny_mono:=@PySem.wpAny_mono
theorem Qz3:type_of% @PySem.Heap.size_push:=@PySem.Heap.size_push
theorem Qz4:type_of% @congrArg:=@congrArg
theorem Qz5:type_of% @PySem.wpAny_field:=@PySem.wpAny_field
theorem Qz6:type_of% @List.pairwise_cons:=@List.pairwise_cons
theorem Qz7:type_of% @PySem.wpAny_call_entry:=@PySem.wpAny_call_entry
theorem Qz8:type_of% @Nat.le_of_lt:=@Nat.le_of_lt
theorem Qz9:type_of% @List.flatten_append:=@List.flatten_append
theorem Qjq:type_of% @PySem.mem_of_lookup:=@PySem.mem_of_lookup
theorem Qjx:type_of% @PySem.wpAny_holding:=@PySem.wpAny_holding
theorem Qjz:type_of% @Nat.pow_le_pow_right:=@Nat.pow_le_pow_right
theorem Qjj:type_of% @PySem.wpAny_callSpecial?_slot:=@PySem.wpAny_callSpecial?_slot
theorem Qjk:type_of% @Nat.ne_of_gt:=@Nat.ne_of_gt
theorem Qjv:type_of% @PySem.wpAny_seqItems:=@PySem.wpAny_seqItems
theorem Qjw:type_of% @PySem.wpAny_newObj_type:=@PySem.wpAny_newObj_type
theorem Qjy:type_of% @PySem.wpAny_truthy_bool:=@PySem.wpAny_truthy_bool
theorem Qj0:type_of% @PyProof.Rows.callWith_type1:=@PyProof.Rows.callWith_type1
theorem Qj1:type_of% @List.map_congr_left:=@List.map_congr_left
theorem Qj2:type_of% @or_false:=@or_false
theorem Qj3:type_of% @List.getElem_mem:=@List.getElem_mem
theorem Qj4:type_of% @PySem.wpAny_setField_rec:=@PySem.wpAny_setField_rec
theorem Qj5:type_of% @List.forIn_nil:=@List.forIn_nil
theorem Qj6:type_of% @PySem.sizeLine_eq:=@PySem.sizeLine_eq
theorem Qj7:type_of% @PySem.wpAny_passesOwn:=@PySem.wpAny_passesOwn
theorem Qj8:type_of% @Nat.not_lt_zero:=@Nat.not_lt_zero
theorem Qj9:type_of% @Option.isSome_map:=@Option.isSome_map
theorem Qkq:type_of% @List.nil_append:=@List.nil_append
theorem Qkx:type_of% @List.map_map:=@List.map_map
theorem Qkz:type_of% @Array.length_toList:=@Array.length_toList
theorem Qkj:type_of% @List.length_reverse:=@List.length_reverse
theorem Qkk:type_of% @List.length_drop:=@List.length_drop
theorem Qkv:type_of% @List.mem_reverse:=@List.mem_reverse
theorem Qkw:type_of% @List.forIn_cons:=@List.forIn_cons
theorem Qky:type_of% @Bool.eq_iff_iff:=@Bool.eq_iff_iff
theorem Qk0:type_of% @Option.map_some:=@Option.map_some
theorem Qk1:type_of% @Int.toNat_natCast:=@Int.toNat_natCast
theorem Qk2:type_of% @Nat.le_of_succ_le:=@Nat.le_of_succ_le
theorem Qk3:type_of% @List.mem_range:=@List.mem_range
theorem Qk4:type_of% @Nat.mul_le_mul:=@Nat.mul_le_mul
abbrev lR(x:PySem.Str):Prop:=(x == ("__debug__" : PySem.Str))=false
abbrev uR(x:PySem.Str):Prop:=(x == ("__classdict__" : PySem.Str))=false
open PySem PySem.Spec PyProof.Rows in
abbrev Ol(e:Expr)(E:PySem.Env):Prop:=starEach [e] E=(false,eval e E)::starEach [] E
namespace L2
open PySem PySem.Spec PyProof.Rows
inductive NK where
 | num (i:Int)
 | txt (x:Str)
 | tup (xs:List NK)
noncomputable instance:DecidableEq NK:=λ_ _=>Classical.propDecidable _
mutual
def Bl(h:Heap):NK->Value->Prop
 | .num i,v=>(∃t,v = .int i t)\/∃b:Bool,v = .bool b/\i=if b then 1 else 0
 | .txt x,v=>∃t,v = .str x t
 | .tup ks,v=>∃a o items n,v = .ref a/\h.get? a=some o/\o.cls = .type "tuple"/\o.data = .seq items n/\oM h ks items.toList
def oM(h:Heap):List NK->List Value->Prop
 | [],vs=>vs=[]
 | k::ks,vs=>∃v r,vs=v::r/\Bl h k v/\oM h ks r
end
mutual
def NK.dep:NK->Nat
 | .num _=>0
 | .txt _=>0
 | .tup ks=>1+NK.rD ks
def NK.rD:List NK->Nat
 | []=>0
 | k::ks=>max (NK.dep k) (NK.rD ks)
end
mutual
def NK.draws:NK->Nat
 | .num _=>1
 | .txt _=>1
 | .tup ks=>NK.pR ks+1
def NK.pR:List NK->Nat
 | []=>0
 | k::ks=>NK.draws k+NK.pR ks
end
section
variable(P:Program)(w:World)
mutual
def NK.hash:NK->Int
 | .num i=>hashInt i
 | .txt x=>(strKind P w).hash x
 | .tup ks=>reduceHash (Builtin.Tuple.tupleHashOf (NK.hashes ks))
def NK.hashes:List NK->List Int
 | []=>[]
 | k::ks=>NK.hash k::NK.hashes ks
end
end
theorem oM.length{h:Heap}:∀{ks:List NK} {vs:List Value},oM h ks vs->vs.length=ks.length
 | [],_,e=>by cases e;rfl
 | k::ks,_,e=>by obtain⟨v,r,rfl,_,q⟩:=e;rw[Qqy,Qqy,q.length]
theorem oM.get{h:Heap}:∀{ks:List NK} {vs:List Value} {j:Nat} {v:Value},oM h ks vs->vs[j]? = some v->∃k,ks[j]? = some k/\Bl h k v
 | [],_,_,_,e,g=>by cases e;simp at g
 | k::ks,_,j,v,e,g=>by
  obtain⟨u,r,rfl,h1,h2⟩:=e;cases j with
  | zero=>simp at g;subst g;exact⟨k,rfl,h1⟩
  | succ j=>obtain⟨k',e1,e2⟩:=oM.get h2 (j:=j) (by simpa using g);exact⟨k',by simpa using e1,e2⟩
theorem NK.Aq:∀{ks:List NK} {j:Nat} {k:NK},ks[j]? = some k->k.dep<=NK.rD ks
 | [],_,_,e=>by simp at e
 | c::ks,j,k,e=>by
  unfold NK.rD;cases j with
  | zero=>simp at e;subst e;exact Nat.le_max_left _ _
  | succ j=>exact Qq2 (NK.Aq (j:=j) (by simpa using e)) (Nat.le_max_right _ _)
mutual
theorem Bl.inj{h:Heap}:∀{x y:NK} {v:Value},Bl h x v->Bl h y v->x=y
 | .num i,.num j,v,a,b=>by
  rcases a with ⟨t,rfl⟩|⟨c,rfl,rfl⟩
  ·rcases b with ⟨t',e⟩|⟨c,e,_⟩
   ·cases e;rfl
   ·cases e
  ·rcases b with ⟨t',e⟩|⟨c,e,rfl⟩
   ·cases e
   ·cases e;rfl
 | .num i,.txt x,v,a,b=>by obtain⟨t,rfl⟩:=b;rcases a with ⟨t',e⟩|⟨c,e,_⟩<;>cases e
 | .num i,.tup ks,v,a,b=>by obtain⟨_,_,_,_,rfl,_⟩:=b;rcases a with ⟨t',e⟩|⟨c,e,_⟩<;>cases e
 | .txt x,.num i,v,a,b=>by obtain⟨t,rfl⟩:=a;rcases b with ⟨t',e⟩|⟨c,e,_⟩<;>cases e
 | .txt x,.txt y,v,a,b=>by obtain⟨t,rfl⟩:=a;obtain⟨t',e⟩:=b;cases e;rfl
 | .txt x,.tup ks,v,a,b=>by obtain⟨t,rfl⟩:=a;obtain⟨_,_,_,_,e,_⟩:=b;cases e
 | .tup ks,.num i,v,a,b=>by obtain⟨_,_,_,_,rfl,_⟩:=a;rcases b with ⟨t',e⟩|⟨c,e,_⟩<;>cases e
 | .tup ks,.txt y,v,a,b=>by obtain⟨_,_,_,_,rfl,_⟩:=a;obtain⟨t',e⟩:=b;cases e
 | .tup ks,.tup ls,v,a,b=>by
  obtain⟨p,o,items,n,rfl,h1,_,h3,h4⟩:=a;obtain⟨p',o',items',n',e,h1',_,h3',h4'⟩:=b;cases e;rw[h1] at h1';cases h1';rw[h3] at h3';cases h3';rw[oM.inj h4 h4']
theorem oM.inj{h:Heap}:∀{x y:List NK} {v:List Value},oM h x v->oM h y v->x=y
 | [],[],_,_,_=>rfl
 | [],k::ks,_,a,b=>by cases a;obtain⟨_,_,e,_⟩:=b;cases e
 | k::ks,[],_,a,b=>by cases b;obtain⟨_,_,e,_⟩:=a;cases e
 | k::ks,l::ls,_,a,b=>by
  obtain⟨v,r,rfl,h1,h2⟩:=a;obtain⟨v',r',e,h1',h2'⟩:=b;cases e;rw[Bl.inj h1 h1',oM.inj h2 h2']
end
mutual
theorem Bl.keeps{h h':Heap}{d:Addr}{o:Obj}{es ep}(ho:h.get? d=some o)(hd:o.data = .dict es ep)(hs:Heap.SameBut d h h'):∀{k:NK} {v:Value},Bl h k v->Bl h' k v
 | .num _,_,e=>e
 | .txt _,_,e=>e
 | .tup ks,_,e=>by
  obtain⟨a,o',items,n,rfl,h1,h2,h3,h4⟩:=e;have hne:a≠d:=by rintro rfl;rw[h1] at ho;cases ho;rw[h3] at hd;cases hd
  exact⟨a,o',items,n,rfl,(hs.2 a hne).trans h1,h2,h3,oM.keeps ho hd hs h4⟩
theorem oM.keeps{h h':Heap}{d:Addr}{o:Obj}{es ep}(ho:h.get? d=some o)(hd:o.data = .dict es ep)(hs:Heap.SameBut d h h'):∀{ks:List NK} {vs:List Value},oM h ks vs->oM h' ks vs
 | [],_,e=>e
 | k::ks,_,e=>by obtain⟨v,r,rfl,h1,h2⟩:=e;exact⟨v,r,rfl,Bl.keeps ho hd hs h1,oM.keeps ho hd hs h2⟩
end
section
variable{P:Program}{w:World}
theorem PL{A:Around}{E:Value->Shared->Prop}{s:Shared}{b:Bool}{Q:Int->Shared->Prop}(h:Q (hashInt (if b then 1 else 0)) { s with toks:=s.toks+1 }):wpAny (model P w) A (pyHash (.bool b)) Q E s:=by
 have hT:s.TypeIs (.bool b) "bool":=rfl;have hr:=rawHash_range (if b then 1 else 0);unfold pyHash;have hv:[Value.bool b].any Value.onHeap=false:=rfl;refine Qqz ?_;rw[cRoomFor,if_neg (by rw[hv];exact Qw6)];refine Qq5 ?_;refine Qqz (wpAny_specialOf hT F.slot_bool_hash.lookup ?_);show wpAny _ _ (if (some (Value.builtin "int.__hash__") == some Value.none)=true then _ else _) Q E s;rw[if_neg (by rw[beq_builtin_none];exact Qw6)];refine Qqz (wpAny_specialOf hT F.slot_bool_hash.lookup ?_);show wpAny _ _ (callSpecialIfBoundUnlessNone? (.bool b) "__hash__" _ >>= _) Q E s;refine Qqz (wpAny_callSpecialIfBoundUnlessNone?_slot hT F.slot_bool_hash
  (Qz7 F.slot_bool_hash hT entry_int_hash
   (show wpAny _ _ (do ret (<-mkInt (rawHash (if b then 1 else 0)))) _ _ s from wpAny_ret_mkInt ?_) (args_int_hash _)))
 show wpAny _ _ (if (decide (-(2:Int)^63<=rawHash (if b then 1 else 0))&&decide (rawHash (if b then 1 else 0)<2^63))=true then _ else _) Q E _;rw[if_pos (by rw[Qw4 hr.1,Qw4 hr.2];rfl)];exact Qq5 h
mutual
theorem S8:∀(k:NK) (v:Value) (A:Around) (E:Value->Shared->Prop) (s:Shared) (Q:Int->Shared->Prop),A.units+k.dep<cLine->Bl s.heap k v->Q (k.hash P w) { s with toks:=s.toks+k.draws }->wpAny (model P w) A (pyHash v) Q E s
 | .num i,v,A,E,s,Q,hu,e,h=>by
  rcases e with ⟨t,rfl⟩|⟨b,rfl,rfl⟩
  ·exact wpAny_pyHash_int h
  ·exact PL h
 | .txt x,v,A,E,s,Q,hu,e,h=>by
  obtain⟨t,rfl⟩:=e;exact wpAny_pyHash_str h
 | .tup ks,v,A,E,s,Q,hu,e,h=>by
  obtain⟨a,o,items,n,rfl,ho,hc,hd,hi⟩:=e;have hT:s.TypeIs (.ref a) "tuple":=⟨o,ho,hc⟩;have abJ:(NK.tup ks).dep=1+NK.rD ks:=by rw[NK.dep]
  rw[abJ] at hu;have hu0:A.units<cLine:=by omega
  have hin:A.in1.units+NK.rD ks<cLine:=by show A.units+1+NK.rD ks<cLine;omega
  unfold pyHash
  first|unfold pyHashByItsType|skip
  first|refine Qqz (wpAny_cRoomFor_or (.inr hu0) ?_)|skip
  refine Qqz (wpAny_specialOf hT F.slot_tuple_hash.lookup ?_);show wpAny _ _ (if (some (Value.builtin "tuple.__hash__") == some Value.none)=true then _ else _) Q E s;rw[if_neg (by rw[beq_builtin_none];exact Qw6)];refine Qqz (wpAny_specialOf hT F.slot_tuple_hash.lookup ?_);show wpAny _ _ (callSpecialIfBoundUnlessNone? (.ref a) "__hash__" _ >>= _) Q E s;refine Qqz (wpAny_callSpecialIfBoundUnlessNone?_slot hT F.slot_tuple_hash (Qz7 F.slot_tuple_hash hT F.entry_tuple_hash ?_ (F.args_tuple_hash_1 _)));show wpAny _ _ (Builtin.Tuple.tupleItemsOf (.ref a) >>= _) _ _ s;refine Qqz (wpAny_tupleItemsOf ho hd ?_);refine Qqz ?_;rw[<-Array.forIn_toList];refine HN ks items.toList A.in1 _ s _ _ #[] hin hi (λx b s' R q=>?_) ?_
  ·first
    | exact Qqz (Qz2 q (λz s2 hz=>Qq5 hz) λ_ _ z=>z)
    | exact Qqz (Qz2 q (λz s2 hz=>Qqz (Qq5 (Qq5 hz))) λ_ _ z=>z)
  ·show wpAny _ _ (retInt (Builtin.Tuple.tupleHashOf ((#[]:Array Int).toList++NK.hashes P w ks))) _ _ _;have hh:(NK.tup ks).hash P w=reduceHash (Builtin.Tuple.tupleHashOf (NK.hashes P w ks)):=by rw[NK.hash]
   have hdr:(NK.tup ks).draws=NK.pR ks+1:=by rw[NK.draws]
   rw[hh,hdr] at h;rw[show(#[]:Array Int).toList++NK.hashes P w ks=NK.hashes P w ks from rfl];refine wpAny_ret_mkInt ?_;show wpAny _ _ (if (decide (-(2:Int)^63<=Builtin.Tuple.tupleHashOf (NK.hashes P w ks))&&decide (Builtin.Tuple.tupleHashOf (NK.hashes P w ks)<2^63))=true then _ else _) Q E _;unfold reduceHash at h;by_cases hr:(decide (-(2:Int)^63<=Builtin.Tuple.tupleHashOf (NK.hashes P w ks))&&decide (Builtin.Tuple.tupleHashOf (NK.hashes P w ks)<2^63))=true
   ·rw[if_pos hr];rw[if_pos hr] at h;exact Qq5 (by simpa[Nat.add_assoc] using h)
   ·rw[if_neg hr];rw[if_neg hr] at h;exact Qqz (wpAny_rule (Qq5 (by simpa[Nat.add_assoc] using h)))
theorem HN:∀(ks:List NK) (vs:List Value) (A:Around) (E:Value->Shared->Prop) (s:Shared) (body:Value->Array Int->Sem (ForInStep (Array Int))) (Q:Array Int->Shared->Prop) (acc:Array Int),A.units+NK.rD ks<cLine->oM s.heap ks vs->
  (∀x b s' (R:ForInStep (Array Int)->Shared->Prop),wpAny (model P w) A (pyHash x) (λz s2=>R (.yield (b.push z)) s2) E s'->wpAny (model P w) A (body x b) R E s')->
  Q (acc.toList++NK.hashes P w ks).toArray { s with toks:=s.toks+NK.pR ks }->wpAny (model P w) A (forIn vs acc body) Q E s
 | [],vs,A,E,s,body,Q,acc,hu,e,hb,q=>by
  cases e;rw[Qj5];refine Qq5 ?_;have:(acc.toList++NK.hashes P w []).toArray=acc:=by rw[NK.hashes];simp
  rw[this] at q;have e0:NK.pR []=0:=by rw[NK.pR]
  rw[e0] at q;exact q
 | k::ks,vs,A,E,s,body,Q,acc,hu,e,hb,q=>by
  obtain⟨v,r,rfl,h1,h2⟩:=e;have abJ:NK.rD (k::ks)=max k.dep (NK.rD ks):=by rw[NK.rD]
  rw[abJ] at hu;rw[Qkw];refine Qqz (hb v acc s _ (S8 k v A E s _ (by omega) h1 ?_));refine HN ks r A E { s with toks:=s.toks+k.draws } body Q (acc.push (k.hash P w)) (by omega) h2 hb ?_;have e1:NK.hashes P w (k::ks)=k.hash P w::NK.hashes P w ks:=by rw[NK.hashes]
  have e2:NK.pR (k::ks)=k.draws+NK.pR ks:=by rw[NK.pR]
  rw[e1,e2] at q
  simpa[Nat.add_assoc] using q
end
theorem ad5:∀(n:Nat) (x y:NK) (u v:Value) (A:Around) (s:Shared),x.dep<=n->A.units+n+1<cLine->Bl s.heap x u->Bl s.heap y v->SeqAt.EqAt A s u v (decide (x=y))
 | n,.num i,.num j,u,v,A,s,hn,hu,hx,hy=>by
  have e:decide (NK.num i=NK.num j)=(i == j):=by rw[Qky];simp
  rw[e];rcases hx with ⟨t,rfl⟩|⟨b,rfl,rfl⟩
  ·rcases hy with ⟨t',rfl⟩|⟨c,rfl,rfl⟩
   ·exact SeqAt.EqAt.int_int i t j t'
   ·exact SeqAt.EqAt.int_bool i t c
  ·rcases hy with ⟨t',rfl⟩|⟨c,rfl,rfl⟩
   ·exact SeqAt.EqAt.bool_int b j t'
   ·have:((if b then (1:Int) else 0) == (if c then 1 else 0))=(b == c):=by cases b<;>cases c<;>rfl
    rw[this];exact SeqAt.EqAt.bool_bool b c
 | n,.num i,.txt z,u,v,A,s,hn,hu,hx,hy=>by
  rw[Qwj (λe=>by cases e)];obtain⟨t,rfl⟩:=hy;rcases hx with ⟨t',rfl⟩|⟨b,rfl,rfl⟩
  ·exact SeqAt.EqAt.int_str i t' _ t
  ·exact SeqAt.EqAt.bool_str b _ t
 | n,.num i,.tup ks,u,v,A,s,hn,hu,hx,hy=>by
  rw[Qwj (λe=>by cases e)];obtain⟨a,o,items,m,rfl,h1,h2,h3,_⟩:=hy;have p:s.heap.IsTuple a items:=⟨o,h1,h2,m,h3⟩;rcases hx with ⟨t',rfl⟩|⟨b,rfl,rfl⟩
  ·exact SeqAt.EqAt.int_tuple i t' p (by omega)
  ·exact SeqAt.EqAt.bool_tuple b p (by omega)
 | n,.txt z,.num i,u,v,A,s,hn,hu,hx,hy=>by
  rw[Qwj (λe=>by cases e)];obtain⟨t,rfl⟩:=hx;rcases hy with ⟨t',rfl⟩|⟨b,rfl,rfl⟩
  ·exact SeqAt.EqAt.str_int _ t i t'
  ·exact SeqAt.EqAt.str_bool _ t b
 | n,.txt z,.txt z',u,v,A,s,hn,hu,hx,hy=>by
  have e:decide (NK.txt z=NK.txt z')=(z == z'):=by rw[Qky];simp
  rw[e];obtain⟨t,rfl⟩:=hx;obtain⟨t',rfl⟩:=hy;exact SeqAt.EqAt.str_str _ t _ t'
 | n,.txt z,.tup ks,u,v,A,s,hn,hu,hx,hy=>by
  rw[Qwj (λe=>by cases e)];obtain⟨t,rfl⟩:=hx;obtain⟨a,o,items,m,rfl,h1,h2,h3,_⟩:=hy;have p:s.heap.IsTuple a items:=⟨o,h1,h2,m,h3⟩;exact SeqAt.EqAt.str_tuple _ t p (by omega)
 | n,.tup ks,.num i,u,v,A,s,hn,hu,hx,hy=>by
  rw[Qwj (λe=>by cases e)];obtain⟨a,o,items,m,rfl,h1,h2,h3,_⟩:=hx;have p:s.heap.IsTuple a items:=⟨o,h1,h2,m,h3⟩;rcases hy with ⟨t',rfl⟩|⟨b,rfl,rfl⟩
  ·exact SeqAt.EqAt.tuple_int i t' p (by omega)
  ·exact SeqAt.EqAt.tuple_bool b p (by omega)
 | n,.tup ks,.txt z,u,v,A,s,hn,hu,hx,hy=>by
  rw[Qwj (λe=>by cases e)];obtain⟨a,o,items,m,rfl,h1,h2,h3,_⟩:=hx;have p:s.heap.IsTuple a items:=⟨o,h1,h2,m,h3⟩;obtain⟨t,rfl⟩:=hy;exact SeqAt.EqAt.tuple_str _ t p (by omega)
 | 0,.tup ks,.tup ls,u,v,A,s,hn,hu,hx,hy=>by
  rw[NK.dep] at hn;omega
 | n+1,.tup ks,.tup ls,u,v,A,s,hn,hu,hx,hy=>by
  have hx0:=hx;have hy0:=hy;obtain⟨a,o,items,m,rfl,h1,h2,h3,h4⟩:=hx;obtain⟨a',o',items',m',rfl,h1',h2',h3',h4'⟩:=hy;have p:s.heap.IsTuple a items:=⟨o,h1,h2,m,h3⟩;have p':s.heap.IsTuple a' items':=⟨o',h1',h2',m',h3'⟩;rw[NK.dep] at hn;by_cases haa:a=a'
  ·subst haa;rw[Qw4 (Bl.inj hx0 hy0)];exact SeqAt.EqAt.same _
  ·refine SeqAt.EqAt.of_refs haa ?_;have l1:=h4.length;have l2:=h4'.length;rw[Qkz] at l1 l2;have hu0:A.units<cLine:=by omega
   have:=SeqAt.RcAt.tuples (e:=λj=>decide (ks[j]? = ls[j]?)) p p' hu0 λj q1 q2=>?_
   ·have e:((List.range (min items.size items'.size)).all (λj=>decide (ks[j]? = ls[j]?))&&items.size == items'.size)=decide (NK.tup ks=NK.tup ls):=by
     rw[Qky];simp only[Qzx,Qx7,Qk3,decide_eq_true_eq,beq_iff_eq,NK.tup.injEq];constructor
     ·rintro⟨g1,g2⟩;apply List.ext_getElem?;intro j;by_cases hj:j<min items.size items'.size
      ·exact g1 j hj
      ·rw[List.getElem?_eq_none (by omega),List.getElem?_eq_none (by omega)]
     ·rintro rfl;exact⟨λ_ _=>rfl,by omega⟩
    rw[<-e];exact this
   ·have g1:items.toList[j]? = some items[j]:=by simp
    have g2:items'.toList[j]? = some items'[j]:=by simp
    obtain⟨k,r1,r2⟩:=h4.get g1;obtain⟨l,r3,r4⟩:=h4'.get g2;have e:decide (ks[j]? = ls[j]?)=decide (k=l):=by rw[r1,r3];simp
    rw[e];exact ad5 n k l _ _ A.in1 s (Qq2 (NK.Aq r1) (by omega)) (by show A.units+1+n+1<cLine;omega) r2 r4
theorem Mw:∀(n:Nat) (k:NK) (v:Value) (A:Around) (E:Value->Shared->Prop) (s:Shared) (Q:Bool->Shared->Prop),k.dep<=n->Bl s.heap k v->Q true s->wpAny (model P w) A (eqIsQuiet n v) Q E s
 | n,.num i,v,A,E,s,Q,hn,e,h=>by
  rcases e with ⟨t,rfl⟩|⟨b,rfl,rfl⟩
  ·rw[eqIsQuiet_byValue n rfl];exact Qq5 h
  ·rw[eqIsQuiet_byValue n rfl];exact Qq5 h
 | n,.txt x,v,A,E,s,Q,hn,e,h=>by
  obtain⟨t,rfl⟩:=e;rw[eqIsQuiet_byValue n rfl];exact Qq5 h
 | 0,.tup ks,v,A,E,s,Q,hn,e,h=>by
  rw[NK.dep] at hn;omega
 | n+1,.tup ks,v,A,E,s,Q,hn,e,h=>by
  obtain⟨a,o,items,m,rfl,ho,hc,hd,hi⟩:=e;rw[NK.dep] at hn;have hT:s.TypeIs (.ref a) "tuple":=⟨o,ho,hc⟩;unfold eqIsQuiet;refine Qqz (wpAny_specialOf hT F.slot_tuple_eq.lookup ?_);show wpAny _ _ (isInstance (.ref a) (.type "tuple") >>= _) _ _ s;refine Qqz (wpAny_isInstance hT isSubtype_tuple_tuple ?_);simp only[Bool.not_true,Bool.false_eq_true,if_false];refine Qqz (Qjv ho hd ?_);refine Qqz ?_;show wpAny _ _ (forIn items _ _) _ _ s;rw[<-Array.forIn_toList];refine wpAny_forIn_list _ (λrest r s'=>r.1=none/\s'=s/\∀v∈rest,∃k:NK,k.dep<=n/\Bl s.heap k v) _ ?_ ?_ _ _ ⟨rfl,rfl,λv hv=>?_⟩
  ·rintro v rest r s' ⟨hr,rfl,hall⟩;obtain⟨k,hk1,hk2⟩:=hall v Qqj;refine Qqz (Mw n k v A E _ _ hk1 hk2 ?_);simp only[Bool.not_true,Bool.false_eq_true,if_false];exact Qq5 ⟨rfl,rfl,λu hu'=>hall u (Qqq _ hu')⟩
  ·rintro⟨r1,r2⟩ s' ⟨hr,rfl,_⟩;simp only at hr;subst hr;exact Qq5 h
  ·obtain⟨j,hj,rfl⟩:=List.mem_iff_getElem.mp hv;obtain⟨k,r1,r2⟩:=hi.get (Qwz hj);exact⟨k,Qq2 (NK.Aq r1) (by omega),r2⟩
noncomputable def qP(P:Program)(w:World):HeapKind P w NK where
 is:=λh k a=>Bl h k (.ref a)/\k.dep<=8
 hash:=NK.hash P w
 draws:=NK.draws
 room:=λA=>A.units+10<cLine
 inj:=λhx hy=>hx.1.inj hy.1
 keeps:=λx ho hd hs=>⟨x.1.keeps ho hd hs,x.2⟩
 pyHash:=λhu hk h=>S8 _ _ _ _ _ _ (by have:=hk.2;omega) hk.1 h
 eqBool:=λhu hx hy h=>ad5 8 _ _ _ _ _ _ hx.2 (by omega) hx.1 hy.1 P w _ _ h
 quiet:=λhk h=>Mw 8 _ _ _ _ _ _ hk.2 hk.1 h
end
abbrev Key:=Sum Int Str
def zX:Key->Value->Bool
 | .inl k,v=>Value.isInt k v
 | .inr x,v=>Value.isStrOf x v
def af4(w:World):Key->Int
 | .inl k=>hashInt k
 | .inr x=>hashStr w x
theorem eZ:∀{k:Key} {v:Value},zX k v=true->(∃i t,k=Sum.inl i/\v=Value.int i t)\/(∃x t,k=Sum.inr x/\v=Value.str x t)
 | .inl i,v,h=>by
  obtain⟨t,e⟩:=Value.isInt_shape (k:=i) (v:=v) h;exact .inl ⟨i,t,rfl,e⟩
 | .inr x,v,h=>by
  obtain⟨t,e⟩:=Value.isStrOf_shape (x:=x) (v:=v) h;exact .inr ⟨x,t,rfl,e⟩
theorem Pu(i:Int)(t:Tok):zX (.inl i) (.int i t)=true:=by simp[zX,Value.isInt]
theorem Pq(x:Str)(t:Tok):zX (.inr x) (.str x t)=true:=by simp[zX,Value.isStrOf]
theorem abu(a b:Int):decide ((Sum.inl a:Key)=Sum.inl b)=(a == b):=by
 by_cases e:a=b
 ·subst e;simp
 ·have h:¬(Sum.inl a:Key)=Sum.inl b:=λq=>e (Sum.inl.inj q);rw[Qwj h];exact(Qx6.mpr e).symm
theorem abq(a b:Str):decide ((Sum.inr a:Key)=Sum.inr b)=decide (a=b):=by
 by_cases e:a=b
 ·subst e;simp
 ·have h:¬(Sum.inr a:Key)=Sum.inr b:=λq=>e (Sum.inr.inj q);rw[Qwj h,Qwj e]
theorem abt(a:Int)(b:Str):decide ((Sum.inl a:Key)=Sum.inr b)=false:=Qwj (λq=>nomatch q)
theorem abr(a:Str)(b:Int):decide ((Sum.inr a:Key)=Sum.inl b)=false:=Qwj (λq=>nomatch q)
def d9(prog:Program)(w:World):PySem.KeyKind prog w Key where
 is:=zX
 hash:=af4 w
 inj:=λv a b ha hb=>by
  rcases eZ ha with ⟨i,t,rfl,rfl⟩|⟨x,t,rfl,rfl⟩
  ·rcases eZ hb with ⟨j,u,rfl,e⟩|⟨y,u,rfl,e⟩
   ·injection e with e1 _;rw[e1]
   ·exact nomatch e
  ·rcases eZ hb with ⟨j,u,rfl,e⟩|⟨y,u,rfl,e⟩
   ·exact nomatch e
   ·injection e with e1 _;rw[e1]
 byValue:=λk v h=>by
  rcases eZ h with ⟨i,t,rfl,rfl⟩|⟨x,t,rfl,rfl⟩<;>rfl
 pyHash:=λhv h=>by
  rcases eZ hv with ⟨i,t,rfl,rfl⟩|⟨x,t,rfl,rfl⟩
  ·exact wpAny_pyHash_int h
  ·exact wpAny_pyHash_str h
 eqBool:=λhu hv h=>by
  rcases eZ hu with ⟨i,t,rfl,rfl⟩|⟨x,t,rfl,rfl⟩
  ·rcases eZ hv with ⟨j,u,rfl,rfl⟩|⟨y,u,rfl,rfl⟩
   ·rw[abu] at h;exact wpAny_eqBool_int h
   ·rw[abt] at h;exact SeqAt.EqAt.int_str i t y u _ _ _ _ h
  ·rcases eZ hv with ⟨j,u,rfl,rfl⟩|⟨y,u,rfl,rfl⟩
   ·rw[abr] at h;exact SeqAt.EqAt.str_int x t j u _ _ _ _ h
   ·rw[abq] at h;exact wpAny_eqBool_str h
 «strs»:=λk x t v h=>by
  rcases eZ h with ⟨i,u,rfl,e⟩|⟨y,u,rfl,e⟩
  ·exact nomatch e
  ·injection e with e1 _
   subst e1;cases v<;>rfl
theorem HS(prog:Program)(w:World)(i:Int)(t:Tok):(d9 prog w).is (.inl i) (.int i t)=true:=Pu i t
theorem HR(prog:Program)(w:World)(x:Str)(t:Tok):(d9 prog w).is (.inr x) (.str x t)=true:=Pq x t
inductive V where
 | non|bl (b:Bool)|int (i:Int)|str (x:Str)|byt (b:Array UInt8)|flt (b:UInt64)|ref (a:Addr)|ty (n:String)
 deriving DecidableEq
def RelV:V->Value->Prop
 | .non,u=>u=Value.none
 | .bl b,u=>u=Value.bool b
 | .int i,u=>∃t,u=Value.int i t
 | .str x,u=>∃t,u=Value.str x t
 | .byt b,u=>∃t,u=Value.bytes b t
 | .flt b,u=>∃t,u=Value.float b t
 | .ref a,u=>u=Value.ref a
 | .ty n,u=>u=Value.type n
abbrev Vals:List V->List Value->Prop:=Paired RelV
theorem Vals.length{xs:List V}{us:List Value}(r:Vals xs us):xs.length=us.length:=Paired.length r
theorem Vals.get:∀{xs:List V} {us:List Value} {i:Nat} {x:V},Vals xs us->xs[i]? = some x->∃u,us[i]? = some u/\RelV x u
 | _,_,_,_,.nil,e=>by simp at e
 | _,_,0,_,.cons r _,e=>by simp at e;subst e;exact⟨_,rfl,r⟩
 | _,_,i+1,x,.cons _ t,e=>by
  obtain⟨u,h1,h2⟩:=Vals.get (i:=i) (x:=x) t (by simpa using e);exact⟨u,by simpa using h1,h2⟩
theorem Vals.set{x:V}{u:Value}(r:RelV x u):∀{xs:List V} {us:List Value} (i:Nat),Vals xs us->Vals (xs.set i x) (us.set i u)
 | _,_,_,.nil=>.nil
 | _,_,0,.cons _ t=>.cons r t
 | _,_,i+1,.cons q t=>.cons q (Vals.set r i t)
theorem Vals.append:∀{xs ys:List V} {us ws:List Value},Vals xs us->Vals ys ws->Vals (xs++ys) (us++ws)
 | _,_,_,_,.nil,s=>s
 | _,_,_,_,.cons r t,s=>.cons r (Vals.append t s)
theorem Vals.take:∀{xs:List V} {us:List Value} (n:Nat),Vals xs us->Vals (xs.take n) (us.take n)
 | _,_,0,_=>.nil
 | _,_,_+1,.nil=>.nil
 | _,_,n+1,.cons r t=>.cons r (Vals.take n t)
theorem Vals.drop:∀{xs:List V} {us:List Value} (n:Nat),Vals xs us->Vals (xs.drop n) (us.drop n)
 | _,_,0,r=>r
 | _,_,_+1,.nil=>.nil
 | _,_,n+1,.cons _ t=>Vals.drop n t
def vI:Option V->Option Value->Prop
 | some v,some u=>RelV v u
 | none,none=>True
 | _,_=>False
def KV{κ:Type}:List (κ×V)->List (κ×Value)->Prop:=Paired λ(p:κ×V) (q:κ×Value)=>p.1=q.1/\RelV p.2 q.2
def kV:Key->V
 | .inl i=>.int i
 | .inr x=>.str x
inductive HO where
 /-- a list -/
 | lst (xs:List V)
 /-- a tuple (never changes) -/
 | tup (xs:List V)
 /-- a dict whose keys are ints and texts;one whose keys are tuples of ints and texts (the empty one is both) -/
 | dK (kvs:List (Key×V))|dT (kvs:List (List Key×V))|dN (kvs:List (NK×V×V))
 /-- a set of ints: its members,its size -/
 | set (S:Int->Bool) (n:Nat)
 /-- an instance of the class at C,its dict at dx,its attributes -/
 | ins (C dx:Addr) (fs:List (Str×V))
 /-- the dict of the instance at x -/
 | own (x:Addr)
 /-- the dict of an exception -/
 | xd (fs:List (Str×V))
 /-- a bound method,f of x -/
 | met (f x:Addr)
 /-- a range object lo,lo+1,.. below hi -/
 | rng (lo hi:Int)
 /-- a thing that is known to the object (the script;a dict while a loop walks it): read,never written while it is so -/
 | lD (o:Obj) (u:HO)
 /-- a code object's table -/
 | ZL (ps:Array Value)
 /-- a code object's table: whatever it holds,the codes made at these places are known and bear these names -/
 | tab (qs:List (Pos×Str))
 /-- any other thing,by what is true of its one object (a def of one's own: aeO a S n:=HO.ext λh=>..) -/
 | ext (φ:Heap->Prop)
abbrev Hp:=Addr->Option HO
def upd(H:Hp)(a:Addr)(o:HO):Hp:=λb=>if b=a then some o else H b
theorem aW{H:Hp}{a:Addr}{o:HO}:upd H a o a=some o:=by unfold upd;rw[if_pos rfl]
theorem bG{H:Hp}{a b:Addr}{o:HO}(h:b≠a):upd H a o b=H b:=by unfold upd;rw[if_neg h]
theorem Vt{H:Hp}{a:Addr}{o u:HO}:upd (upd H a o) a u=upd H a u:=by funext b;unfold upd;split<;>rfl
theorem ad2{H:Hp}{a b:Addr}{o u:HO}(h:H a=some o)(h':H b=some u)(d:o≠u):a≠b:=by intro e;subst e;rw[h] at h';exact d (Qw1 h')
theorem cV{H:Hp}{a b:Addr}{o:HO}(h:H a=some o)(h':H b=none):a≠b:=by intro e;subst e;rw[h] at h';cases h'
def BX(h:Heap)(a:Addr)(items:Array Value):Prop:=∃o,h.get? a=some o/\o.cls = .type "tuple"/\(∃n,o.data = .seq items n)/\o.dict=none
theorem BX.is{h:Heap}{a:Addr}{items:Array Value}(x:BX h a items):IsTup h a items:=let ⟨o,h1,h2,h3,_⟩:=x;⟨o,h1,h2,h3⟩
theorem BX.new(h:Heap)(items:Array Value):BX (h.push { cls:=.type "tuple",data:=.seq items }) h.objs.size items:=⟨_,Qww _ rfl,rfl,⟨_,rfl⟩,rfl⟩
section
variable(P:Program)(w:World)
def gr(H:Hp)(h:Heap)(a:Addr):HO->Prop
 | .lst xs=>xs.length<=sizeLine/\∃(its:List Value) (n:Nat),Vals xs its/\h.get? a=some { cls:=.type "list",data:=.seq its.toArray n }
 | .tup xs=>xs.length<=sizeLine/\∃its:List Value,Vals xs its/\BX h a its.toArray
 | .dK kvs=>kvs.length<=sizeLine/\(a == sysModules)=false/\∃vs,KV kvs vs/\h.DictOf (d9 P w) a vs
 | .dT kvs=>kvs.length<=sizeLine/\(a == sysModules)=false/\∃xs:List (List Key×Addr×Value),
   Paired (λ(p:List Key×V) (q:List Key×Addr×Value)=>p.1=q.1/\H q.2.1=some (.tup (p.1.map kV))/\RelV p.2 q.2.2) kvs xs/\
   ∃o es ep,h.get? a=some o/\o.ExactDict/\o.data = .dict es ep/\es.toList=xs.map (entryOfKey (tupleKind (d9 P w)))/\(xs.map (·.1)).Nodup
 | .dN kvs=>kvs.length<=sizeLine/\(a == sysModules)=false/\∃xs:List (NK×Addr×Value),
   Paired (λ(p:NK×V×V) (q:NK×Addr×Value)=>p.1=q.1/\p.2.1 = .ref q.2.1/\RelV p.2.2 q.2.2) kvs xs/\
   ∃o es ep,h.get? a=some o/\o.ExactDict/\o.data = .dict es ep/\es.toList=xs.map (entryOfKey (qP P w))/\(xs.map (·.1)).Nodup
 | .set S n=>h.SetOf (intKind P w) a S n
 | .ins C dx fs=>H dx=some (.own a)/\fs.length<=1000/\dx≠a/\h.get? a=some (PySem.W.instObj C dx)/\
   ∃mA,h.Ns1 dx mA/\(∀f,vI (fs.lookup f) (mA f))/\PySem.Within mA (fs.map (·.1))
 | .own _=>∃o,h.get? a=some o
 | .xd fs=>∃mA,h.Ns1 a mA/\∀f,vI (fs.lookup f) (mA f)
 | .rng lo hi=>∃t u v,h.get? a=some { cls:=.type "range",data:=.fields #[.int lo t,.int hi u,.int 1 v] }
 | .lD o u=>h.get? a=some o/\gr H h a u
 | .ZL ps=>h.get? a=some { cls:=.none,data:=.fields ps }
 | .tab qs=>∃ps:Array Value,h.get? a=some { cls:=.none,data:=.fields ps }/\TriplesOk ps.toList/\∀q∈qs,codeAmong q.1 ps.toList=none\/∃(c:Addr) (o:Obj) (u:HO) (vs:Array Value) (t:Tok),codeAmong q.1 ps.toList=some (.ref c)/\H c=some (.lD o u)/\o.data = .fields vs/\vs[1]? = some (.str q.2 t)
 | .met f x=>h.get? a=some (PySem.W.methodObj (.ref f) (.ref x))
 | .ext φ=>φ h/\(∃o,h.get? a=some o)/\∀h1 h2:Heap,φ h1->(∀o,h1.get? a=some o->h2.get? a=some o)->φ h2
def uo(H:Hp)(h:Heap):Prop:=∀a o,H a=some o->gr P w H h a o
end
section
variable{P:Program}{w:World}{H H':Hp}{h h':Heap}{a:Addr}{o:HO}
theorem gr.lt(x:gr P w H h a o):a<h.objs.size:=by
 cases o with
 | lst xs=>obtain⟨_,_,_,_,e⟩:=x;exact Qq9 e
 | tup xs=>obtain⟨_,_,_,p⟩:=x;exact p.is.lt
 | dK kvs=>obtain⟨_,_,_,_,o,_,_,e,_⟩:=x;exact Qq9 e
 | dT kvs=>obtain⟨_,_,_,_,o,_,_,e,_⟩:=x;exact Qq9 e
 | dN kvs=>obtain⟨_,_,_,_,o,_,_,e,_⟩:=x;exact Qq9 e
 | set S n=>obtain⟨o,_,_,_,e,_⟩:=x;exact Qq9 e
 | ins C dx fs=>obtain⟨_,_,_,e,_⟩:=x;exact Qq9 e
 | own y=>obtain⟨_,e⟩:=x;exact Qq9 e
 | xd fs=>obtain⟨_,⟨_,_,_,e,_⟩,_⟩:=x;exact Qq9 e
 | rng lo hi=>obtain⟨_,_,_,e⟩:=x;exact Qq9 e
 | lD ob u=>obtain⟨e,_⟩:=x;exact Qq9 e
 | ZL ps=>exact Qq9 (show h.get? a=some _ from x)
 | tab qs=>obtain⟨_,e,_⟩:=x;exact Qq9 e
 | met f y=>exact Qq9 (show h.get? a=some _ from x)
 | ext φ=>obtain⟨_,⟨_,e⟩,_⟩:=x;exact Qq9 e
theorem Paired.abh{α β:Type}{F G:α->β->Prop}:∀{l₁:List α} {l₂:List β},Paired F l₁ l₂->(∀a b,F a b->G a b)->Paired G l₁ l₂
 | _,_,.nil,_=>.nil
 | _,_,.cons r t,f=>.cons (f _ _ r) (Paired.abh t f)
theorem gr.stay(x:gr P w H h a o)(k:∀b u,(b=a\/H b=some (.own a))->h.get? b=some u->h'.get? b=some u)
  (ho:∀b,H b=some (.own a)->H' b=some (.own a)) (ht:∀b xs,H b=some (.tup xs)->H' b=some (.tup xs))
  (hz:∀(b:Addr) (o:Obj) (u:HO) (vs:Array Value),o.data = .fields vs->H b=some (.lD o u)->H' b=some (.lD o u):=by intro _ _ _ _ _ q;exact q):gr P w H' h' a o:=by
 induction o with
 | lst xs=>obtain⟨z,its,n,r,e⟩:=x;exact⟨z,its,n,r,k _ _ (.inl rfl) e⟩
 | tup xs=>obtain⟨z,its,r,ob,e,c⟩:=x;exact⟨z,its,r,ob,k _ _ (.inl rfl) e,c⟩
 | dK kvs=>obtain⟨z,y,vs,r,ob,es,ep,e,c⟩:=x;exact⟨z,y,vs,r,ob,es,ep,k _ _ (.inl rfl) e,c⟩
 | dT kvs=>
  obtain⟨z,y,xs,r,ob,es,ep,e,c⟩:=x;exact⟨z,y,xs,Paired.abh r λp q z=>⟨z.1,ht _ _ z.2.1,z.2.2⟩,ob,es,ep,k _ _ (.inl rfl) e,c⟩
 | dN kvs=>obtain⟨z,y,xs,r,ob,es,ep,e,c⟩:=x;exact⟨z,y,xs,r,ob,es,ep,k _ _ (.inl rfl) e,c⟩
 | set S n=>obtain⟨ob,es,ep,t,e,c⟩:=x;exact⟨ob,es,ep,t,k _ _ (.inl rfl) e,c⟩
 | ins C dx fs=>
  obtain⟨d,z,ne,e,mA,⟨od,es,ep,e2,c⟩,r⟩:=x;exact⟨ho _ d,z,ne,k _ _ (.inl rfl) e,mA,⟨od,es,ep,k _ _ (.inr d) e2,c⟩,r⟩
 | own y=>obtain⟨ob,e⟩:=x;exact⟨ob,k _ _ (.inl rfl) e⟩
 | xd fs=>obtain⟨mA,⟨od,es,ep,e,c⟩,r⟩:=x;exact⟨mA,⟨od,es,ep,k _ _ (.inl rfl) e,c⟩,r⟩
 | rng lo hi=>obtain⟨t,u,v,e⟩:=x;exact⟨t,u,v,k _ _ (.inl rfl) e⟩
 | lD ob u ih=>obtain⟨e,q⟩:=x;exact⟨k _ _ (.inl rfl) e,ih q⟩
 | ZL ps=>
  have e:h.get? a=some { cls:=.none,data:=.fields ps }:=x;show h'.get? a=some { cls:=.none,data:=.fields ps };exact k a _ (.inl rfl) e
 | tab qs=>
  obtain⟨ps,e,t,r⟩:=x;refine⟨ps,k a _ (.inl rfl) e,t,λq hq=>?_⟩;rcases r q hq with z|⟨c,o,u,vs,t,h1,h2,h3,h4⟩
  ·exact .inl z
  ·exact .inr ⟨c,o,u,vs,t,h1,hz c o u vs h3 h2,h3,h4⟩
 | met f y=>
  have e:h.get? a=some (PySem.W.methodObj (.ref f) (.ref y)):=x;show h'.get? a=some (PySem.W.methodObj (.ref f) (.ref y));exact k a _ (.inl rfl) e
 | ext φ=>obtain⟨p,⟨o,e⟩,st⟩:=x;exact⟨st _ _ p λo q=>k _ _ (.inl rfl) q,⟨o,k _ _ (.inl rfl) e⟩,st⟩
theorem uo.lt(x:uo P w H h)(e:H a=some o):a<h.objs.size:=(x a o e).lt
theorem uo.fresh(x:uo P w H h)(e:h.objs.size<=a):H a=none:=by
 cases q:H a with
 | none=>rfl
 | some u=>exact absurd (Qwx (x.lt q) e) (Qzz _)
theorem uo.kept(x:uo P w H h)(k:∀b u,h.get? b=some u->h'.get? b=some u):uo P w H h':=λa o e=>
 (x a o e).stay (λb u _ q=>k b u q) (λ_ q=>q) λ_ _ q=>q
theorem uo.laid(x:uo P w H h)(k:∀b u,h.get? b=some u->h'.get? b=some u)(hp:h.objs.size<=a)(new:gr P w (upd H a o) h' a o):uo P w (upd H a o) h':=λb u e=>by
 have hn:=x.fresh hp;by_cases hb:b=a
 ·subst hb;rw[aW] at e;cases e;exact new
 ·rw[bG hb] at e;exact(x b u e).stay (λc v _ q=>k c v q) (λc q=>by rw[bG (cV q hn)];exact q) (λc xs q=>by rw[bG (cV q hn)];exact q) λc _ _ _ _ q=>by rw[bG (cV q hn)];exact q
end
def Rd(H:Hp)(a:Addr)(u:HO):Prop:=H a=some u\/∃o,H a=some (.lD o u)
theorem Rd.ok{P:Program}{w:World}{H:Hp}{h:Heap}{a:Addr}{u:HO}(r:Rd H a u)(x:uo P w H h):gr P w H h a u:=by
 rcases r with r|⟨o,r⟩
 ·exact x a u r
 ·obtain⟨_,q⟩:=x a _ r;exact q
def Mut:Option HO->Prop
 | some (.lst _)=>True
 | some (.dK _)=>True
 | some (.dT _)=>True
 | some (.dN _)=>True
 | some (.set _ _)=>True
 | some (.ins _ _ _)=>True
 | some (.ext _)=>True
 | _=>False
section
variable{P:Program}{w:World}{H:Hp}{h h':Heap}{x e:Addr}{o':HO}
theorem uo.write(ok:uo P w H h)(mu:Mut (H x))(he:e=x\/H e=some (.own x))(k:∀b u,b≠e->h.get? b=some u->h'.get? b=some u)(heo:∃u,h'.get? e=some u)
  (new:gr P w (upd H x o') h' x o'):uo P w (upd H x o') h':=λb u q=>by
 have adZ:∀c y,H c=some (.own y)->c≠x:=λc y r z=>by subst z;rw[r] at mu;exact mu
 have afY:∀c xs,H c=some (.tup xs)->c≠x:=λc xs r z=>by subst z;rw[r] at mu;exact mu
 by_cases hb:b=x
 ·subst hb;rw[aW] at q;cases q;exact new
 ·rw[bG hb] at q;by_cases hbe:b=e
  ·have q':H b=some (.own x):=by
    rcases he with z|z
    ·exact absurd (hbe.trans z) hb
    ·rw[hbe];exact z
   rw[q] at q';cases q';obtain⟨v,hv⟩:=heo;exact⟨v,by rw[hbe];exact hv⟩
  ·refine(ok b u q).stay (λc v hc r=>k c v ?_ r) (λc r=>by rw[bG (adZ c b r)];exact r) (λc xs r=>by rw[bG (afY c xs r)];exact r) λc _ _ _ _ r=>by rw[bG (λz=>by subst z;rw[r] at mu;exact mu)];exact r
   rcases hc with rfl|hc
   ·exact hbe
   ·rintro rfl;rcases he with z|z
    ·exact adZ c b hc z
    ·rw[hc] at z;cases z;exact hb rfl
end
structure Un(fs ex:List Addr)(H H':Hp)(h h':Heap):Prop where
 keep:∀b o,h.get? b=some o->H b=none->b ∉ fs->b ∉ ex->h'.get? b=some o
 slot:∀b o,h.get? b=some o->H b=none->b∈fs->b ∉ ex->∃sl,h'.get? b=some { o with slots:=sl }
 free:∀b o,h.get? b=some o->H b=none->b ∉ ex->H' b=none
 there:∀b o,h.get? b=some o->b ∉ ex->∃o',h'.get? b=some o'
 tups:∀b xs,H b=some (.tup xs)->H' b=some (.tup xs)
 wQ:∀b o u,H b=some (.lD o u)->H' b=some (.lD o u)
 DK:∀b ps,H b=some (.ZL ps)->∃more,H' b=some (.ZL (ps++more))
 tabs:∀b qs,H b=some (.tab qs)->H' b=some (.tab qs)
section
variable{fs fs' ex ex':List Addr}{H H1 H2:Hp}{h h1 h2 h':Heap}{a x e:Addr}{o:HO}
theorem Un.any(u:Un fs ex H H1 h h1){b:Addr}{ob:Obj}(q:h.get? b=some ob)(n:H b=none)(hx:b ∉ ex):∃sl,h1.get? b=some { ob with slots:=sl }:=by
 by_cases hb:b∈fs
 ·exact u.slot b ob q n hb hx
 ·exact⟨ob.slots,u.keep b ob q n hb hx⟩
theorem Un.kept(k:∀b u,h.get? b=some u->h'.get? b=some u):Un fs ex H H h h':=
 ⟨λb ob q _ _ _=>k b ob q,λb ob q _ _ _=>⟨ob.slots,k b ob q⟩,λ_ _ _ n _=>n,λb ob q _=>⟨ob,k b ob q⟩,λ_ _ q=>q,λ_ _ _ q=>q,λ_ ps q=>⟨#[],by rw[q];simp⟩,λ_ _ q=>q⟩
theorem Un.refl:Un fs ex H H h h:=Un.kept λ_ _ q=>q
theorem Un.laid(k:∀b u,h.get? b=some u->h'.get? b=some u)(hp:h.objs.size<=a)(hn:H a=none):Un fs ex H (upd H a o) h h' where
 keep:=λb u q _ _ _=>k b u q
 slot:=λb u q _ _ _=>⟨u.slots,k b u q⟩
 free:=λb u q n _=>by rw[bG (Qxq (Qwx (Qq9 q) hp))];exact n
 there:=λb u q _=>⟨u,k b u q⟩
 tups:=λb xs q=>by rw[bG (cV q hn)];exact q
 wQ:=λb u xs q=>by rw[bG (cV q hn)];exact q
 DK:=λb ps q=>⟨#[],by rw[bG (cV q hn),q];simp⟩
 tabs:=λb qs q=>by rw[bG (cV q hn)];exact q
theorem Un.write(mu:Mut (H x))(he:e=x\/H e=some (.own x))(k:∀b u,b≠e->h.get? b=some u->h'.get? b=some u)(heo:∃u,h'.get? e=some u):Un fs ex H (upd H x o) h h':=by
 have hx:∀b,H b=none->b≠x:=λb n z=>by subst z;rw[n] at mu;exact mu
 have hb:∀b,H b=none->b≠e:=λb n z=>by
  subst z;rcases he with r|r
  ·exact hx b n r
  ·rw[n] at r;cases r
 have hm:∀b u,H b=some u->¬Mut (some u)->b≠x:=λb u q nm z=>by subst z;rw[q] at mu;exact nm mu
 refine⟨λb u q n _ _=>k b u (hb b n) q,λb u q n _ _=>⟨u.slots,k b u (hb b n) q⟩,λb u q n _=>by rw[bG (hx b n)];exact n,λb u q _=>?_,
  λb xs q=>by rw[bG (hm b _ q λz=>z)];exact q,λb u xs q=>by rw[bG (hm b _ q λz=>z)];exact q,λb ps q=>⟨#[],by rw[bG (hm b _ q λz=>z),q];simp⟩,λb qs q=>by rw[bG (hm b _ q λz=>z)];exact q⟩
 by_cases hbe:b=e
 ·subst hbe;exact heo
 ·exact⟨u,k b u hbe q⟩
end
def trk(h:Heap)(H:Hp):List Addr:=(List.range h.objs.size).filter λa=>(H a).isSome
def BR(h:Heap)(H:Hp):Heap:=PySem.W.hideAll h (trk h H)
theorem PK(h:Heap)(H:Hp):(BR h H).objs.size=h.objs.size:=PySem.W.hideAll_size _ _
theorem T4{h:Heap}{H:Hp}{b:Addr}{o:Obj}(e:h.get? b=some o)(n:H b=none):(BR h H).get? b=some o:=
 PySem.W.hideAll_get _ e λhm=>by
  have q:(H b).isSome=true:=(List.mem_filter.mp hm).2;rw[n] at q;simp at q
theorem WR{h:Heap}{H:Hp}{b:Addr}{o:Obj}(e:(BR h H).get? b=some o):h.get? b=some o/\H b=none:=by
 have e':h.get? b=some o:=PySem.W.of_hideAll (trk h H) e;refine⟨e',?_⟩;cases q:H b with
 | none=>rfl
 | some x=>
  have hm:b∈trk h H:=List.mem_filter.mpr ⟨Qk3.mpr (Qq9 e'),by simp[q]⟩;have z:(BR h H).get? b=none:=PySem.W.hideAll_none (trk h H) hm;rw[z] at e;cases e
def X5(g h:Heap)(L:Addr):List (Addr×Obj):=(List.range h.objs.size).filterMap λa=>if a=L\/(g.get? a).isSome=true then none else (h.get? a).map λo=>(a,o)
def rest(g h:Heap)(L d:Addr):List (Addr×Obj):=(X5 g h L).filter λp=>decide (p.1≠d)
structure Mod(K:PySem.W.Frag)(mg:Str->Option Value)(base:Heap):Prop where
 Ju:K.In base
 glob:base.Ns mainGlobals mg
 blt:∃mb,base.Ns builtinsNs mb/\∀x:Str,x ≠ "__name__"->mb x=bootBuiltins x
 nolimit:base.NoLimit
structure Cx where
 prog:Program
 w:World
 K:PySem.W.Frag
 mg:Str->Option Value
 base:Heap
 A:Around
 N:List Str
 s₀:Shared
 H₀:Hp
 env:Env
 outer:List Env
 stack:List Env
 ex:List Addr
 fn:Str->Bool
 calm:Bool
 pn:List (Addr×Obj)
 xe:Value->Shared->Prop
def frs(l:List Env):List Addr:=l.filterMap (·.frame)
abbrev Cx.fs(X:Cx):List Addr:=frs X.outer
def vH(sc:Scope)(x:Str):Prop:=sc.names.lookup x=some .local\/sc.names.lookup x=some .cell\/sc.names.lookup x=some .free
def Loc(sc:Scope)(x:Str):Prop:=sc.names.lookup x=some .local\/sc.names.lookup x=some .cell
def Look(env:Env)(h:Heap)(m:Str->Option Value)(x:Str)(u:Value):Prop:=
 (env.kindOf x=some .local/\m x=some u)\/((env.kindOf x=some .cell\/env.kindOf x=some .free)/\∃c,env.cells.lookup x=some c/\h.IsCell c (some u))
structure Cx.Ok(X:Cx):Prop where
 mod:Mod X.K X.mg X.base
 kind:X.env.scope.kind = .function
 glob:X.env.globals=mainGlobals
 blt:X.env.builtins=builtinsNs
 above:X.s₀.heap.objs.size<=X.env.locals
 inj:∀x y c,X.env.cells.lookup x=some c->X.env.cells.lookup y=some c->x=y
 has:∀x,(X.env.kindOf x=some .cell\/X.env.kindOf x=some .free)->∃c,X.env.cells.lookup x=some c
 cab:∀x c,X.fn x=true->X.env.cells.lookup x=some c->X.s₀.heap.objs.size<=c
 hd:X.calm=true->X.A.handled=none
 frames:X.A.frames=some X.stack
 cu:X.stack=X.outer\/(X.stack=X.env::X.outer/\X.env.frame=some X.env.locals)
 exf:∀b∈X.ex,b≠X.env.locals/\∀x c,X.env.cells.lookup x=some c->c≠b
 bs:∀b o,X.base.get? b=some o->X.s₀.heap.get? b=some o/\X.H₀ b=none
 Ux:X.base.objs.size<=X.s₀.heap.objs.size
 SN:∀b o,X.base.get? b=some o->b ∉ X.ex
 Uc:∀b∈X.ex,b ∉ X.fs
 uZ:X.s₀.heap.FunFrames X.base X.outer
 YZ:∀b∈X.fs,X.H₀ b=none
structure Inv(X:Cx)(pins:List (Addr×Obj))(σ:List (Option V))(H:Hp)(s:Shared):Prop where
 ok:X.Ok
 os:s.os=X.s₀.os
 bare:AllBare s.gens
 base:Un X.fs X.ex X.H₀ H X.s₀.heap s.heap
 loc:∃m,s.heap.Ns X.env.locals m/\∀(i:Nat) (x:Str) (v:V),X.N[i]? = some x->σ[i]? = some (some v)->vH X.env.scope x->∃u,RelV v u/\Look X.env s.heap m x u
 cell:∀x c,X.env.cells.lookup x=some c->∃v,s.heap.IsCell c v
 free:H X.env.locals=none
 rn:∀x c,X.env.cells.lookup x=some c->H c=none\/(X.fn x=false/\∃o u,H c=some (.lD o u))
 pin:∀p∈X.pn++pins,s.heap.get? p.1=some p.2/\H p.1=none/\p.1≠X.env.locals/\p.1 ∉ X.fs/\∀v,p.2.data ≠ .cell v
 hok:uo X.prog X.w H s.heap
 len:σ.length=X.N.length
section
variable{X:Cx}{pins:List (Addr×Obj)}{σ:List (Option V)}{H H':Hp}{s:Shared}{h':Heap}
theorem Cx.Ok.af0(ok:X.Ok){b:Addr}{o:Obj}(e:X.base.get? b=some o):b ∉ X.fs:=λhb=>by
 have:=(ok.uZ.mem hb).1;rw[e] at this;cases this
theorem Inv.bs(I:Inv X pins σ H s):∀b o,X.base.get? b=some o->s.heap.get? b=some o/\H b=none:=λb o e=>
 ⟨I.base.keep b o (I.ok.bs b o e).1 (I.ok.bs b o e).2 (I.ok.af0 e) (I.ok.SN b o e),I.base.free b o (I.ok.bs b o e).1 (I.ok.bs b o e).2 (I.ok.SN b o e)⟩
theorem Inv.bk(I:Inv X pins σ H s):∀b o,X.base.get? b=some o->s.heap.get? b=some o:=λb o e=>(I.bs b o e).1
theorem Inv.mod(I:Inv X pins σ H s):Mod X.K X.mg X.base:=I.ok.mod
theorem Inv.Px(I:Inv X pins σ H s):X.K.In s.heap:=I.ok.mod.Ju.keeps I.bk
theorem Inv.lt(I:Inv X pins σ H s):X.env.locals<s.heap.objs.size:=let ⟨_,hn,_⟩:=I.loc;hn.lt
theorem Inv.sz(I:Inv X pins σ H s):X.s₀.heap.objs.size<=s.heap.objs.size:=Qq2 I.ok.above (Qz8 I.lt)
theorem Inv.afZ(I:Inv X pins σ H s){a:Addr}(h:s.heap.objs.size<=a):a ∉ X.fs:=λhb=>by
 obtain⟨_,o,ho,_⟩:=I.ok.uZ.mem hb;exact absurd (Qwx (Qq9 ho) (Qq2 I.sz h)) (Qzz _)
theorem Inv.Y7(I:Inv X pins σ H s):∀x c,X.env.cells.lookup x=some c->c≠X.env.locals:=λx c e z=>by
 obtain⟨v,o,ho,hd⟩:=I.cell x c e;obtain⟨m,⟨o',es,ep,ho',hd',_⟩,_⟩:=I.loc;rw[z,ho'] at ho;cases ho;rw[hd'] at hd;cases hd
theorem Inv.uZ(I:Inv X pins σ H s):s.heap.FunFrames X.base X.outer:=by
 have all:∀(l:List Env),(∀b∈frs l,b∈X.fs)->X.s₀.heap.FunFrames X.base l->s.heap.FunFrames X.base l:=by
  intro l
  induction l with
  | nil=>intro _ _;trivial
  | cons env r ih=>
   intro hs hl;obtain⟨hk,⟨L,o,hf,hn,ho,hd⟩,hr⟩:=hl;have hL:L∈X.fs:=hs L (by unfold frs;rw[List.filterMap_cons,hf];exact Qqj);obtain⟨sl,e⟩:=I.base.slot L o ho (I.ok.YZ L hL) hL λz=>I.ok.Uc L z hL;exact⟨hk,⟨L,_,hf,hn,e,hd⟩,ih (λb hb=>hs b (by unfold frs;rw[List.filterMap_cons,hf];exact Qqq _ hb)) hr⟩
 exact all X.outer (λ_ hb=>hb) I.ok.uZ
theorem Inv.stack(I:Inv X pins σ H s):s.heap.FunFrames X.base X.stack:=by
 rcases I.ok.cu with e|⟨e,hf⟩
 ·rw[e];exact I.uZ
 ·rw[e];obtain⟨m,hn,_⟩:=I.loc;refine .cons (by rw[I.ok.kind];decide) hf hn ?_ I.uZ;exact Heap.get?_none_of_le (Qq2 I.ok.Ux I.ok.above)
theorem Inv.DW(I:Inv X pins σ H s):∀b∈frs X.stack,b∈X.env.locals::X.fs:=λb hb=>by
 rcases I.ok.cu with e|⟨e,hf⟩
 ·rw[e] at hb;exact Qqq _ hb
 ·rw[e] at hb;unfold frs at hb;rw[List.filterMap_cons,hf] at hb;exact hb
theorem Inv.LR(I:Inv X pins σ H s):∀b∈frs X.stack,H b=none:=λb hb=>by
 rcases Qq4.mp (I.DW b hb) with e|hb
 ·rw[e];exact I.free
 ·obtain⟨_,o,ho,_⟩:=I.ok.uZ.mem hb;exact I.base.free b o ho (I.ok.YZ b hb) λz=>I.ok.Uc b z hb
theorem Inv.step{g':Array GenState}{t':Nat}{d':Drawn}{ch:List Addr}(I:Inv X pins σ H s)
  (hch:∀b∈ch,(b∈X.ex\/X.s₀.heap.objs.size<=b)/\b≠X.env.locals/\(∀x c,X.env.cells.lookup x=some c->c≠b)/\∀p∈X.pn++pins,p.1≠b)
  (keep:∀b o,b≠X.env.locals->b ∉ X.fs->b ∉ ch->s.heap.get? b=some o->H b=none->h'.get? b=some o)
  (slot:∀b o,b≠X.env.locals->b∈X.fs->b ∉ ch->s.heap.get? b=some o->H b=none->∃sl,h'.get? b=some { o with slots:=sl }) (free:∀b o,b ∉ ch->s.heap.get? b=some o->H b=none->H' b=none)
  (there:∀b o,b ∉ ch->s.heap.get? b=some o->∃o',h'.get? b=some o')
  (tups:∀b xs,H b=some (.tup xs)->H' b=some (.tup xs)) (wQ:∀b o u,H b=some (.lD o u)->H' b=some (.lD o u)) (DK:∀b ps,H b=some (.ZL ps)->∃more,H' b=some (.ZL (ps++more)))
  (ns:∀m,s.heap.Ns X.env.locals m->h'.Ns X.env.locals m) (hok:uo X.prog X.w H' h') (hg:AllBare g')
  (tabs:∀(b:Addr) (qs:List (Pos×Str)),H b=some (.tab qs)->H' b=some (.tab qs):=by intro _ _ q;exact q) :
  Inv X pins σ H' { s with heap:=h',gens:=g',drawn:=d',toks:=t' }:=by
 have neL:∀b o,X.s₀.heap.get? b=some o->b≠X.env.locals:=λb o e=>Qxq (Qwx (Qq9 e) I.ok.above);have neC:∀b o,X.s₀.heap.get? b=some o->b ∉ X.ex->b ∉ ch:=λb o e hx hb=>by
  rcases(hch b hb).1 with z|z
  ·exact hx z
  ·exact absurd (Qwx (Qq9 e) z) (Qzz _)
 have cellK:∀x c,X.env.cells.lookup x=some c->∀v,s.heap.IsCell c v->h'.IsCell c v:=λx c e v ⟨o,ho,hd⟩=>by
  have nch:c ∉ ch:=λz=>(hch c z).2.2.1 x c e rfl;rcases I.rn x c e with hn|⟨_,fo,fu,hz⟩
  ·by_cases hc:c∈X.fs
   ·obtain⟨sl,q⟩:=slot c o (I.Y7 x c e) hc nch ho hn;exact⟨_,q,hd⟩
   ·exact⟨o,keep c o (I.Y7 x c e) hc nch ho hn,hd⟩
  ·have e1:=(I.hok c _ hz).1;rw[ho] at e1;cases e1;exact⟨o,(hok c _ (wQ c o fu hz)).1,hd⟩
 refine⟨I.ok,I.os,hg,⟨λb o e n hb hx=>?_,λb o e n hb hx=>?_,λb o e n hx=>?_,λb o e hx=>?_,λb xs e=>tups b xs (I.base.tups b xs e),λb o xs e=>wQ b o xs (I.base.wQ b o xs e),λb ps e=>?_,λb qs e=>tabs b qs (I.base.tabs b qs e)⟩,?_,λx c e=>?_,?_,λx c e=>?_,λp hp=>?_,hok,I.len⟩
 ·exact keep b o (neL b o e) hb (neC b o e hx) (I.base.keep b o e n hb hx) (I.base.free b o e n hx)
 ·obtain⟨sl,e1⟩:=I.base.slot b o e n hb hx;obtain⟨sl',e2⟩:=slot b _ (neL b o e) hb (neC b o e hx) e1 (I.base.free b o e n hx);exact⟨sl',e2⟩
 ·obtain⟨o',e1⟩:=I.base.there b o e hx;exact free b o' (neC b o e hx) e1 (I.base.free b o e n hx)
 ·obtain⟨o',e1⟩:=I.base.there b o e hx;exact there b o' (neC b o e hx) e1
 ·obtain⟨m1,e1⟩:=I.base.DK b ps e;obtain⟨m2,e2⟩:=DK b _ e1;exact⟨m1++m2,by rw[e2,Array.append_assoc]⟩
 ·obtain⟨m,hn,hl⟩:=I.loc;refine⟨m,ns m hn,λi x v e1 e2 e3=>?_⟩;obtain⟨u,r,l⟩:=hl i x v e1 e2 e3;refine⟨u,r,?_⟩;rcases l with l|⟨k,c,e,z⟩
  ·exact .inl l
  ·exact .inr ⟨k,c,e,cellK x c e _ z⟩
 ·obtain⟨v,z⟩:=I.cell x c e;exact⟨v,cellK x c e v z⟩
 ·obtain⟨m,⟨o,_,_,ho,_⟩,_⟩:=I.loc;exact free _ o (λz=>(hch _ z).2.1 rfl) ho I.free
 ·rcases I.rn x c e with hn|⟨h1,fo,fu,hz⟩
  ·obtain⟨v,o,ho,hd⟩:=I.cell x c e;exact .inl (free c o (λz=>(hch c z).2.2.1 x c e rfl) ho hn)
  ·exact .inr ⟨h1,fo,fu,wQ c fo fu hz⟩
 ·obtain⟨e,n,ne,nf,d⟩:=I.pin p hp;have nch:p.1 ∉ ch:=λz=>(hch p.1 z).2.2.2 p hp rfl;exact⟨keep p.1 p.2 ne nf nch e n,free p.1 p.2 nch e n,ne,nf,d⟩
theorem Inv.un{t':Nat}(I:Inv X pins σ H s)(u:Un X.fs [] H H' s.heap h')(hok:uo X.prog X.w H' h'):Inv X pins σ H' { s with heap:=h',toks:=t' }:=by
 obtain⟨m,⟨o,es,ep,ho,r⟩,_⟩:=id I.loc;obtain⟨sl,hL⟩:=u.any ho I.free (by simp);exact I.step (g':=s.gens) (d':=s.drawn) (ch:=[]) (λ_ z=>nomatch z) (λb o _ hb _ e n=>u.keep b o e n hb (by simp)) (λb o _ hb _ e n=>u.slot b o e n hb (by simp)) (λb o _ e n=>u.free b o e n (by simp)) (λb o _ e=>u.there b o e (by simp)) u.tups u.wQ u.DK (λm' hm=>by
  obtain⟨o',es',ep',ho',r'⟩:=hm;rw[ho] at ho';cases ho';exact⟨_,es',ep',hL,r'⟩) hok I.bare u.tabs
theorem Inv.call{g':Array GenState}{t':Nat}{d':Drawn}{ch:List Addr}(I:Inv X pins σ H s)(u:Un (frs X.stack) ch H H' s.heap h')(hok:uo X.prog X.w H' h')(hg:AllBare g')
  (hch:∀b∈ch,(b∈X.ex\/X.s₀.heap.objs.size<=b)/\b≠X.env.locals/\(∀x c,X.env.cells.lookup x=some c->c≠b)/\∀p∈X.pn++pins,p.1≠b) :
  Inv X pins σ H' { s with heap:=h',gens:=g',drawn:=d',toks:=t' }:=by
 obtain⟨m,⟨o,es,ep,ho,r⟩,_⟩:=id I.loc;obtain⟨sl,hL⟩:=u.any ho I.free λz=>(hch _ z).2.1 rfl;exact I.step (ch:=ch) hch (λb o hL hb hc e n=>u.keep b o e n (λz=>(Qq4.mp (I.DW b z)).elim hL hb) hc) (λb o _ _ hc e n=>u.any e n hc) (λb o hc e n=>u.free b o e n hc) (λb o hc e=>u.there b o e hc) u.tups u.wQ u.DK (λm' hm=>by
  obtain⟨o',es',ep',ho',r'⟩:=hm;rw[ho] at ho';cases ho';exact⟨_,es',ep',hL,r'⟩) hok hg u.tabs
theorem Inv.turned{t':Nat}{it:Addr}(I:Inv X pins σ H s)(k:∀b o,b≠it->s.heap.get? b=some o->h'.get? b=some o)(hn:H it=none)(hL:it≠X.env.locals)
  (h1:it∈X.ex\/X.s₀.heap.objs.size<=it) (h2:∀x c,X.env.cells.lookup x=some c->c≠it) (h3:∀p∈X.pn++pins,p.1≠it):Inv X pins σ H { s with heap:=h',toks:=t' }:=by
 have YL:∀b u,H b=some u->b≠it:=λb u e z=>by rw[z,hn] at e;cases e
 refine I.step (g':=s.gens) (d':=s.drawn) (ch:=[it]) (λb hb=>?_) (λb o _ _ hc e _=>k b o (λz=>hc (by simp[z])) e) (λb o _ _ hc e _=>⟨o.slots,k b o (λz=>hc (by simp[z])) e⟩) (λ_ _ _ _ n=>n)
  (λb o hc e=>⟨o,k b o (λz=>hc (by simp[z])) e⟩) (λ_ _ e=>e) (λ_ _ _ e=>e) (λb ps e=>⟨#[],by rw[e];simp⟩) (λm hm=>?_) (λb u e=>?_) I.bare
 ·have e:b=it:=by simpa using hb
  subst e;exact⟨h1,hL,h2,h3⟩
 ·obtain⟨o,es,ep,ho,r⟩:=hm;exact⟨o,es,ep,k _ o (Ne.symm hL) ho,r⟩
 ·refine(I.hok b u e).stay (λc v hc q=>k c v ?_ q) (λ_ q=>q) λ_ _ q=>q;rcases hc with z|z
  ·rw[z];exact YL b u e
  ·exact YL c _ z
theorem Inv.tok(I:Inv X pins σ H s)(t:Nat):Inv X pins σ H { s with toks:=t }:=I.un (h':=s.heap) (t':=t) Un.refl I.hok
theorem Inv.kept{t':Nat}(I:Inv X pins σ H s)(k:∀b u,s.heap.get? b=some u->h'.get? b=some u):Inv X pins σ H { s with heap:=h',toks:=t' }:=I.un (Un.kept k) (I.hok.kept k)
theorem Inv.laid{a:Addr}{o:HO}{t':Nat}(I:Inv X pins σ H s)(k:∀b u,s.heap.get? b=some u->h'.get? b=some u)(hp:s.heap.objs.size<=a)(new:gr X.prog X.w (upd H a o) h' a o) :
  Inv X pins σ (upd H a o) { s with heap:=h',toks:=t' }:=I.un (Un.laid k hp (I.hok.fresh hp)) (I.hok.laid k hp new)
theorem Inv.write{x e:Addr}{o:HO}{t':Nat}(I:Inv X pins σ H s)(mu:Mut (H x))(he:e=x\/H e=some (.own x))(k:∀b u,b≠e->s.heap.get? b=some u->h'.get? b=some u)(heo:∃u,h'.get? e=some u)
  (new:gr X.prog X.w (upd H x o) h' x o):Inv X pins σ (upd H x o) { s with heap:=h',toks:=t' }:=I.un (Un.write mu he k heo) (I.hok.write mu he k heo new)
theorem Inv.Mr{YB:List (Addr×Obj)}(I:Inv X pins σ H s)(h:∀p∈YB,s.heap.get? p.1=some p.2/\H p.1=none/\p.1≠X.env.locals/\p.1 ∉ X.fs/\∀v,p.2.data ≠ .cell v):Inv X YB σ H s:=
 ⟨I.ok,I.os,I.bare,I.base,I.loc,I.cell,I.free,I.rn,λp hp=>(Qwq.mp hp).elim (λz=>I.pin p (Qzk _ z)) (h p),I.hok,I.len⟩
theorem HF{N:List Str}(hN:N.Nodup){i j:Nat}{x:Str}(a:N[i]? = some x)(b:N[j]? = some x):i=j:=by obtain⟨h1,e1⟩:=Qqw.mp a;obtain⟨h2,e2⟩:=Qqw.mp b;exact(List.getElem_inj hN).mp (e1.trans e2.symm)
theorem Cr{M:Model}{A:Around}{E:Value->Shared->Prop}{i:Nat}{x:Str}{v:V}{u:Value}{Q:Unit->Shared->Prop}(I:Inv X pins σ H s)(hN:X.N.Nodup)(hi:X.N[i]? = some x)(hx:Loc X.env.scope x)(r:RelV v u)
  (h:∀s',Inv X pins (σ.set i (some v)) H s'->(∃a,Heap.SameBut a s.heap s'.heap/\(a=X.env.locals\/X.env.cells.lookup x=some a))->Q () s') (hf:X.fn x=true\/X.env.scope.names.lookup x=some .local:=by first|exact .inl rfl|exact .inr rfl|assumption):wpAny M A (storeName X.env x u) Q E s:=by
 obtain⟨m,hn,hl⟩:=id I.loc;have hcls:(X.env.scope.kind == .class||(X.env.scope.kind == .module&&X.env.locals != X.env.globals))=false:=by rw[I.ok.kind];rfl
 have hiσ:i<σ.length:=by rw[I.len];exact(Qqw.mp hi).1
 have Y7:=I.Y7;have tracked:∀{a:Addr} {h':Heap},(∃o,s.heap.get? a=some o/\H a=none)->Heap.SameBut a s.heap h'->uo X.prog X.w H h':=λ{a h'} ha hs b ob e=>by
  obtain⟨_,_,hfree⟩:=ha;refine(I.hok b ob e).stay (λc w' hc q=>(hs.2 c ?_).trans q) (λ_ q=>q) λ_ _ q=>q;rintro rfl;rcases hc with rfl|hc
  ·rw[hfree] at e;cases e
  ·rw[hfree] at hc;cases hc
 rcases hx with hk|hk
 ·refine wpAny_storeName_local hk hn (λh' hn' hs=>?_) hcls;obtain⟨oL,_,_,hoL,_⟩:=id hn;refine h _ ⟨I.ok,I.os,I.bare,⟨λb o e n hb hx=>?_,λb o e n hb hx=>?_,I.base.free,λb o e hx=>?_,I.base.tups,I.base.wQ,I.base.DK,I.base.tabs⟩,⟨_,hn',λj y v' e1 e2 e3=>?_⟩,λy c e=>?_,I.free,I.rn,λp hp=>?_,tracked ⟨oL,hoL,I.free⟩ hs,by simpa using I.len⟩ ⟨_,hs,.inl rfl⟩
  ·exact(hs.2 b (Qxq (Qwx (Qq9 e) I.ok.above))).trans (I.base.keep b o e n hb hx)
  ·obtain⟨sl,e1⟩:=I.base.slot b o e n hb hx;exact⟨sl,(hs.2 b (Qxq (Qwx (Qq9 e) I.ok.above))).trans e1⟩
  ·obtain⟨o',e1⟩:=I.base.there b o e hx;exact⟨o',(hs.2 b (Qxq (Qwx (Qq9 e) I.ok.above))).trans e1⟩
  ·by_cases hj:j=i
   ·subst hj;rw[hi] at e1;cases e1;rw[Qwv hiσ] at e2;cases e2;exact⟨u,r,.inl ⟨hk,by simp⟩⟩
   ·rw[Qq7 (Ne.symm hj)] at e2;obtain⟨u',r',q⟩:=hl j y v' e1 e2 e3;refine⟨u',r',?_⟩;rcases q with ⟨k,e⟩|⟨k,c,e,z⟩
    ·refine .inl ⟨k,?_⟩;have:y≠x:=λe=>hj (HF hN e1 (e ▸ hi));simp[this,e]
    ·exact .inr ⟨k,c,e,z.sameBut hs (Y7 y c e)⟩
  ·obtain⟨w',z⟩:=I.cell y c e;exact⟨w',z.sameBut hs (Y7 y c e)⟩
  ·obtain⟨e,n,ne,nf,d⟩:=I.pin p hp;exact⟨(hs.2 p.1 ne).trans e,n,ne,nf,d⟩
 ·have hfn:X.fn x=true:=by
   rcases hf with z|z
   ·exact z
   ·rw[z] at hk;cases hk
  obtain⟨c,hc⟩:=I.ok.has x (.inl hk);obtain⟨w',z⟩:=I.cell x c hc;refine wpAny_storeName_cell I.ok.kind hk hc z (λh' hc' hs=>?_);obtain⟨oc,hoc,agd⟩:=id z;refine h { s with heap:=h' } ⟨I.ok,I.os,I.bare,⟨λb o e n hb hx=>?_,λb o e n hb hx=>?_,I.base.free,λb o e hx=>?_,I.base.tups,I.base.wQ,I.base.DK,I.base.tabs⟩,⟨m,hn.sameBut hs (Ne.symm (Y7 x c hc)),λj y v' e1 e2 e3=>?_⟩,λy c' e=>?_,I.free,I.rn,λp hp=>?_,tracked ⟨oc,hoc,(I.rn x c hc).resolve_right λz=>by rw[hfn] at z;cases z.1⟩ hs,by simpa using I.len⟩ ⟨c,hs,.inr hc⟩
  ·exact(hs.2 b (Qxq (Qwx (Qq9 e) (I.ok.cab x c hfn hc)))).trans (I.base.keep b o e n hb hx)
  ·obtain⟨sl,e1⟩:=I.base.slot b o e n hb hx;exact⟨sl,(hs.2 b (Qxq (Qwx (Qq9 e) (I.ok.cab x c hfn hc)))).trans e1⟩
  ·obtain⟨o',e1⟩:=I.base.there b o e hx;exact⟨o',(hs.2 b (Qxq (Qwx (Qq9 e) (I.ok.cab x c hfn hc)))).trans e1⟩
  ·by_cases hj:j=i
   ·subst hj;rw[hi] at e1;cases e1;rw[Qwv hiσ] at e2;cases e2;exact⟨u,r,.inr ⟨.inl hk,c,hc,hc'⟩⟩
   ·rw[Qq7 (Ne.symm hj)] at e2;obtain⟨u',r',q⟩:=hl j y v' e1 e2 e3;refine⟨u',r',?_⟩;rcases q with q|⟨k,c',e,z'⟩
    ·exact .inl q
    ·refine .inr ⟨k,c',e,z'.sameBut hs ?_⟩;rintro rfl;exact hj (HF hN e1 (I.ok.inj _ _ _ e hc ▸ hi))
  ·by_cases hcc:c'=c
   ·subst hcc;exact⟨_,hc'⟩
   ·obtain⟨w2,z2⟩:=I.cell y c' e;exact⟨w2,z2.sameBut hs hcc⟩
  ·obtain⟨e,n,ne,nf,d⟩:=I.pin p hp;refine⟨(hs.2 p.1 ?_).trans e,n,ne,nf,d⟩;intro q;rw[q,hoc] at e;have q':oc=p.2:=Qw1 e;exact d w' (by rw[<-q'];exact agd)
theorem uB{M:Model}{A:Around}{E:Value->Shared->Prop}{i:Nat}{x:Str}{v:V}{u:Value}{Q:Unit->Shared->Prop}(I:Inv X pins σ H s)(hN:X.N.Nodup)(hi:X.N[i]? = some x)(hx:Loc X.env.scope x)(r:RelV v u)
  (h:∀s',Inv X pins (σ.set i (some v)) H s'->Q () s') (hf:X.fn x=true\/X.env.scope.names.lookup x=some .local:=by first|exact .inl rfl|exact .inr rfl|assumption):wpAny M A (storeName X.env x u) Q E s:=
 Cr I hN hi hx r (λs' I' _=>h s' I') hf
theorem Inv.call'{s':Shared}{ch:List Addr}(I:Inv X pins σ H s)(ho:s'.os=s.os)(u:Un (frs X.stack) ch H H' s.heap s'.heap)(hok:uo X.prog X.w H' s'.heap)(hg:AllBare s'.gens)
  (hch:∀b∈ch,(b∈X.ex\/X.s₀.heap.objs.size<=b)/\b≠X.env.locals/\(∀x c,X.env.cells.lookup x=some c->c≠b)/\∀p∈X.pn++pins,p.1≠b):Inv X pins σ H' s':=by
 obtain⟨h',g',d',t',o'⟩:=s';have e:o'=s.os:=ho;subst e;exact I.call (g':=g') (t':=t') (d':=d') u hok hg hch
end
abbrev XK:=Value->Option Addr->Hp->Prop
abbrev St:=List (Option V)
abbrev VK:=V->Hp->Prop
abbrev TE:=St->Hp->VK->Prop
abbrev TT:=St->Hp->(Bool->Hp->Prop)->Prop
abbrev TA:=St->Hp->(List V->Hp->Prop)->Prop
structure Ends where
 nx:St->Hp->Prop
 rt:VK
 bk:St->Hp->Prop:=λ_ _=>False
 ct:St->Hp->Prop:=λ_ _=>False
abbrev TS:=Ends->St->Hp->Prop
def EP(X:Cx)(pins:List (Addr×Obj))(σ:St)(Q:VK)(u:Value)(s':Shared):Prop:=∃v H',Inv X pins σ H' s'/\RelV v u/\Q v H'
def TP(X:Cx)(pins:List (Addr×Obj))(σ:St)(Q:Bool->Hp->Prop)(b:Bool)(s':Shared):Prop:=∃H',Inv X pins σ H' s'/\Q b H'
def AP(X:Cx)(pins:List (Addr×Obj))(σ:St)(Q:List V->Hp->Prop)(us:List Value)(s':Shared):Prop:=∃vs H',Inv X pins σ H' s'/\Vals vs us/\Q vs H'
def SP(X:Cx)(pins:List (Addr×Obj))(D:Ends)(f:Flow)(s':Shared):Prop:=
 match f with
 | .next=>∃σ' H',Inv X pins σ' H' s'/\D.nx σ' H'
 | .brk=>∃σ' H',Inv X pins σ' H' s'/\D.bk σ' H'
 | .cont=>∃σ' H',Inv X pins σ' H' s'/\D.ct σ' H'
 | .ret u=>∃v σ' H',Inv X pins σ' H' s'/\RelV v u/\D.rt v H'
def PE(X:Cx)(e:Expr)(t:TE):Prop:=
 ∀(pins:List (Addr×Obj)) (s:Shared) (σ:St) (H:Hp) (Q:VK),Inv X pins σ H s->t σ H Q->wpAny (model X.prog X.w) X.A (eval e X.env) (EP X pins σ Q) X.xe s
def PT(X:Cx)(e:Expr)(t:TT):Prop:=
 ∀(pins:List (Addr×Obj)) (s:Shared) (σ:St) (H:Hp) (Q:Bool->Hp->Prop),Inv X pins σ H s->t σ H Q->wpAny (model X.prog X.w) X.A (isTrue e X.env (eval e X.env)) (TP X pins σ Q) X.xe s
def PW(X:Cx)(e:Expr)(t:TT):Prop:=
 ∀(whole:Sem Value) (pins:List (Addr×Obj)) (s:Shared) (σ:St) (H:Hp) (Q:Bool->Hp->Prop),Inv X pins σ H s->t σ H Q->wpAny (model X.prog X.w) X.A (isTrue e X.env whole) (TP X pins σ Q) X.xe s
theorem PW.pt{X:Cx}{e:Expr}{t:TT}(h:PW X e t):PT X e t:=h _
def PA(X:Cx)(es:List Expr)(t:TA):Prop:=
 ∀(pos:Pos) (pins:List (Addr×Obj)) (s:Shared) (σ:St) (H:Hp) (Q:List V->Hp->Prop),Inv X pins σ H s->t σ H Q->wpAny (model X.prog X.w) X.A (spliced (backTo pos (starEach es X.env))) (AP X pins σ Q) X.xe s
def PS(X:Cx)(st:Stmt)(t:TS):Prop:=
 ∀(pins:List (Addr×Obj)) (s:Shared) (σ:St) (H:Hp) (D:Ends),Inv X pins σ H s->t D σ H->wpAny (model X.prog X.w) X.A (exec st X.env) (SP X pins D) X.xe s
def Gq(X:Cx)(st:List Stmt)(t:TS):Prop:=
 ∀(pins:List (Addr×Obj)) (s:Shared) (σ:St) (H:Hp) (D:Ends),Inv X pins σ H s->t D σ H->wpAny (model X.prog X.w) X.A (execs st X.env) (SP X pins D) X.xe s
theorem fK{α:Type}{t:Sem α}{Q Q':α->Shared->Prop}{M:Model}{A:Around}{E:Value->Shared->Prop}{s:Shared}(h:wpAny M A t Q E s)(hQ:∀a s,Q a s->Q' a s):wpAny M A t Q' E s:=Qz2 h hQ λ_ _ x=>x
section
variable{X:Cx}
def Vy(i:Nat):TE:=λσ H Q=>∃v,σ[i]? = some (some v)/\Q v H
def tC(v:V):TE:=λ_ H Q=>Q v H
theorem iQ{i:Nat}{x:Str}{pos:Pos}(hN:X.N[i]? = some x)(hv:vH X.env.scope x)(hd:lR x:=by decide)(hcd:uR x:=by decide):PE X (.Name x pos) (Vy i):=by
 intro pins s σ H Q I h;obtain⟨v,e,h⟩:=h;obtain⟨m,hn,hl⟩:=I.loc;obtain⟨u,r,l⟩:=hl i x v hN e hv;have fin:EP X pins σ Q u s:=⟨v,H,I,r,h⟩;rcases l with ⟨hk,hm⟩|⟨hk,c,hc,hcell⟩
 ·exact wpAny_Name (wpAny_loadName_local I.ok.kind hk hn hm fin) hd
 ·rcases hk with hk|hk
  ·exact wpAny_Name (wpAny_loadName_cell I.ok.kind hk hc hcell fin) hd
  ·exact wpAny_Name (wpAny_loadName_free I.ok.kind hk hc hcell fin hcd) hd
theorem R6{i j pos}:PE X (.Constant (.int i) j pos) (tC (.int i)):=λ_ _ _ H _ I h=>wpAny_Constant_int ⟨.int i,H,I.tok _,⟨_,rfl⟩,h⟩
theorem adN{b j pos}:PE X (.Constant (.bool b) j pos) (tC (.bl b)):=λ_ _ _ H _ I h=>Constant_bool ⟨.bl b,H,I,rfl,h⟩
theorem aaA{j pos}:PE X (.Constant .none j pos) (tC .non):=λ_ _ _ H _ I h=>Constant_none ⟨.non,H,I,rfl,h⟩
theorem aaw{x j pos}:PE X (.Constant (.str x) j pos) (tC (.str x)):=λ_ _ _ H _ I h=>Calls.Constant_str ⟨.str x,H,I.tok _,⟨_,rfl⟩,h⟩
def Gl(X:Cx)(x:Str):Prop:=X.env.kindOf x=some .globalImplicit
theorem yG{E:Value->Shared->Prop}{pins:List (Addr×Obj)}{s:Shared}{σ:St}{H:Hp}{x:Str}{u:Value}{pos:Pos}{Q:Value->Shared->Prop}(I:Inv X pins σ H s)(hg:Gl X x)(hm:X.mg x=some u)(h:Q u s)
  (hd:lR x:=by decide):wpAny (model X.prog X.w) X.A (eval (.Name x pos) X.env) Q E s:=
 Calls.Name_function_global I.ok.kind hg (Calls.loadGlobal_global (by rw[I.ok.glob];exact I.mod.glob.keeps I.bk) hm h) hd
theorem wI{E:Value->Shared->Prop}{pins:List (Addr×Obj)}{s:Shared}{σ:St}{H:Hp}{x:Str}{u:Value}{pos:Pos}{Q:Value->Shared->Prop}(I:Inv X pins σ H s)(hg:Gl X x)(hm:X.mg x=none)(hv:bootBuiltins x=some u)(h:Q u s)
  (hn:x ≠ "__name__":=by decide) (hd:lR x:=by decide):wpAny (model X.prog X.w) X.A (eval (.Name x pos) X.env) Q E s:=by
 obtain⟨mb,h1,h2⟩:=I.mod.blt;exact Calls.Name_function_global I.ok.kind hg (Calls.loadGlobal_builtin (by rw[I.ok.glob];exact I.mod.glob.keeps I.bk) hm (by rw[I.ok.blt];exact h1.keeps I.bk) ((h2 x hn).trans hv) h) hd
theorem Wv{x:Str}{v:V}{u:Value}{pos:Pos}(hg:Gl X x)(hm:X.mg x=some u)(r:RelV v u)(hd:lR x:=by decide):PE X (.Name x pos) (tC v):=
 λ_ _ _ H _ I h=>yG I hg hm ⟨v,H,I,r,h⟩ hd
theorem Wy{x:Str}{v:V}{u:Value}{pos:Pos}(hg:Gl X x)(hm:X.mg x=none)(hv:bootBuiltins x=some u)(r:RelV v u)(hn:x ≠ "__name__":=by decide)(hd:lR x:=by decide):PE X (.Name x pos) (tC v):=
 λ_ _ _ H _ I h=>wI I hg hm hv ⟨v,H,I,r,h⟩ hn hd
variable{a b:Expr}{ta tb:TE}{pos:Pos}
def tB(t:TE):TT:=λσ H Q=>t σ H λx H1=>∃c,x = .bl c/\Q c H1
theorem aaj{e:Expr}{t:TE}(h:PE X e t)(he:∀whole,isTrue e X.env whole=(do let v <-whole;standAt e.pos;holding [v] (truthy v)):=by intro _;rfl):PT X e (tB t):=by intro pins s σ H Q I hw;refine isTrue_plain (fK (h pins s σ H _ I hw) λv s1 ⟨x,H1,I1,r1,q1⟩=>?_) (he _);obtain⟨d,rfl,q⟩:=q1;cases r1;exact Qjy ⟨H1,I1,q⟩
variable{tA tB':TT}{rest:List Expr}
def afP(t u:TT):TT:=λσ H Q=>t σ H λc H1=>if c=true then u σ H1 Q else Q false H1
def tOr(t u:TT):TT:=λσ H Q=>t σ H λc H1=>if c=true then Q true H1 else u σ H1 Q
def afI(t:TT):TT:=λσ H Q=>t σ H λc H1=>Q (!c) H1
theorem pw_and1(ha:PT X a tA):PW X (.BoolOp .And [a] pos) tA:=by
 intro wh pins s σ H Q I h;refine isTrue_and (fK (ha pins s σ H Q I h) λc s1 e=>?_);cases c with
 | true=>exact isTrue_and_nil e
 | false=>exact e
theorem pw_or1(ha:PT X a tA):PW X (.BoolOp .Or [a] pos) tA:=by
 intro wh pins s σ H Q I h;refine isTrue_or (fK (ha pins s σ H Q I h) λc s1 e=>?_);cases c with
 | false=>exact isTrue_or_nil e
 | true=>exact e
theorem pw_and(ha:PT X a tA)(hb:PW X (.BoolOp .And (b::rest) pos) tB'):PW X (.BoolOp .And (a::b::rest) pos) (afP tA tB'):=by
 intro wh pins s σ H Q I h;refine isTrue_and (fK (ha pins s σ H _ I h) λc s1 ⟨H1,I1,q1⟩=>?_);cases c with
 | true=>exact hb wh pins s1 σ H1 Q I1 q1
 | false=>exact⟨H1,I1,q1⟩
theorem pw_or(ha:PT X a tA)(hb:PW X (.BoolOp .Or (b::rest) pos) tB'):PW X (.BoolOp .Or (a::b::rest) pos) (tOr tA tB'):=by
 intro wh pins s σ H Q I h;refine isTrue_or (fK (ha pins s σ H _ I h) λc s1 ⟨H1,I1,q1⟩=>?_);cases c with
 | true=>exact⟨H1,I1,q1⟩
 | false=>exact hb wh pins s1 σ H1 Q I1 q1
theorem aak(ha:PT X a tA):PT X (.UnaryOp .Not a pos) (afI tA):=by intro pins s σ H Q I h;exact isTrue_not (ha pins s σ H (λc H1=>Q (!c) H1) I h)
def ac3(ta tb:TE):TE:=λσ H Q=>ta σ H λx H1=>∃c,x = .bl c/\if c=true then tb σ H1 Q else Q (.bl false) H1
def afH(ta tb:TE):TE:=λσ H Q=>ta σ H λx H1=>∃c,x = .bl c/\if c=true then Q (.bl true) H1 else tb σ H1 Q
def acX(ta:TE):TE:=λσ H Q=>ta σ H λx H1=>∃c,x = .bl c/\Q (.bl (!c)) H1
theorem aay{op}{t:TE}(h:PE X a t):PE X (.BoolOp op [a] pos) t:=λpins s σ H Q I hw=>BoolOp_one (h pins s σ H Q I hw)
theorem aaC(ha:PE X a ta)(hb:PE X (.BoolOp .And (b::rest) pos) tb):PE X (.BoolOp .And (a::b::rest) pos) (ac3 ta tb):=by
 intro pins s σ H Q I h;refine BoolOp_and (fK (ha pins s σ H _ I h) λv s1 ⟨x,H1,I1,r1,q1⟩=>?_);obtain⟨c,rfl,q1⟩:=q1;cases r1;refine Qjy ?_;cases c with
 | true=>exact hb pins s1 σ H1 Q I1 q1
 | false=>exact⟨.bl false,H1,I1,rfl,q1⟩
theorem adL(ha:PE X a ta)(hb:PE X (.BoolOp .Or (b::rest) pos) tb):PE X (.BoolOp .Or (a::b::rest) pos) (afH ta tb):=by
 intro pins s σ H Q I h;refine BoolOp_or (fK (ha pins s σ H _ I h) λv s1 ⟨x,H1,I1,r1,q1⟩=>?_);obtain⟨c,rfl,q1⟩:=q1;cases r1;refine Qjy ?_;cases c with
 | false=>exact hb pins s1 σ H1 Q I1 q1
 | true=>exact⟨.bl true,H1,I1,rfl,q1⟩
theorem aaz(ha:PE X a ta):PE X (.UnaryOp .Not a pos) (acX ta):=by intro pins s σ H Q I h;refine UnaryOp_ (fK (ha pins s σ H _ I h) λv s1 ⟨x,H1,I1,r1,q1⟩=>?_);obtain⟨c,rfl,q1⟩:=q1;cases r1;exact not_of (Qjy ⟨.bl (!c),H1,I1,rfl,q1⟩)
def tIf(t:TT)(ta tb:TE):TE:=λσ H Q=>t σ H λc H1=>if c=true then ta σ H1 Q else tb σ H1 Q
theorem R7{c:Expr}(hc:PT X c tA)(ha:PE X a ta)(hb:PE X b tb):PE X (.IfExp c a b pos) (tIf tA ta tb):=by
 intro pins s σ H Q I h;refine wpAny_IfExp (fK (hc pins s σ H _ I h) λd s1 ⟨H1,I1,q1⟩=>?_);cases d with
 | true=>exact ha pins s1 σ H1 Q I1 q1
 | false=>exact hb pins s1 σ H1 Q I1 q1
end
def o7(K:PySem.W.Frag)(H:Hp)(a:Addr)(xs:List V):Prop:=
 Rd H a (.lst xs)\/
  ∃(o:Obj) (its:Array Value) (n:Nat),K.lookup a=some o/\o.cls = .type "list"/\o.dict=none/\o.data = .seq its n/\its.size<=sizeLine/\Vals xs its.toList
def mD(K:PySem.W.Frag)(H:Hp)(a:Addr)(xs:List V):Prop:=
 Rd H a (.tup xs)\/
  ∃(o:Obj) (its:Array Value) (n:Nat),K.lookup a=some o/\o.cls = .type "tuple"/\o.dict=none/\o.data = .seq its n/\its.size<=sizeLine/\Vals xs its.toList
def agK:Value->Option V
 | .none=>some .non
 | .bool b=>some (.bl b)
 | .int i _=>some (.int i)
 | .str x _=>some (.str x)
 | .bytes b _=>some (.byt b)
 | .float b _=>some (.flt b)
 | .ref a=>some (.ref a)
 | .type n=>some (.ty n)
 | _=>none
theorem RelV.abs{x:V}{u:Value}(r:RelV x u):agK u=some x:=by
 cases x with
 | non=>cases r;rfl
 | bl _=>cases r;rfl
 | int _=>obtain⟨t,rfl⟩:=r;rfl
 | str _=>obtain⟨t,rfl⟩:=r;rfl
 | byt _=>obtain⟨t,rfl⟩:=r;rfl
 | flt _=>obtain⟨t,rfl⟩:=r;rfl
 | ref _=>cases r;rfl
 | ty _=>cases r;rfl
theorem RelV.inj{x y:V}{u:Value}(r:RelV x u)(q:RelV y u):x=y:=Qw1 (r.abs.symm.trans q.abs)
theorem Vals.inj:∀{xs ys:List V} {us:List Value},Vals xs us->Vals ys us->xs=ys
 | _,_,_,.nil,.nil=>rfl
 | _,_,_,.cons r t,.cons r' t'=>by rw[r.inj r',Vals.inj t t']
section
variable{X:Cx}{pins:List (Addr×Obj)}{σ:St}{H:Hp}{s:Shared}{a:Addr}{xs ys:List V}
theorem o7.of{K:PySem.W.Frag}(h:H a=some (.lst xs)):o7 K H a xs:=.inl (.inl h)
theorem mD.of{K:PySem.W.Frag}(h:H a=some (.tup xs)):mD K H a xs:=.inl (.inl h)
theorem Inv.list(I:Inv X pins σ H s)(h:o7 X.K H a xs):∃its:List Value,Vals xs its/\PlainL s.heap a its.toArray/\xs.length<=sizeLine:=by
 rcases h with h|⟨o,its,n,hk,hc,hd,hs,hz,r⟩
 ·obtain⟨z,its,n,r,e⟩:=h.ok I.hok;exact⟨its,r,⟨_,n,e,rfl,rfl,rfl⟩,z⟩
 ·refine⟨its.toList,r,⟨o,n,I.Px a o hk,hc,hd,by simpa using hs⟩,?_⟩;have e:=r.length;simp only[Qkz] at e;omega
theorem Inv.tuple(I:Inv X pins σ H s)(h:mD X.K H a xs):∃its:List Value,Vals xs its/\IsTup s.heap a its.toArray/\xs.length<=sizeLine:=by
 rcases h with h|⟨o,its,n,hk,hc,hdn,hs,hz,r⟩
 ·obtain⟨z,its,r,p⟩:=h.ok I.hok;exact⟨its,r,p.is,z⟩
 ·refine⟨its.toList,r,⟨o,I.Px a o hk,hc,n,by simpa using hs⟩,?_⟩;have e:=r.length;simp only[Qkz] at e;omega
theorem Inv.Tg(I:Inv X pins σ H s)(h:o7 X.K H a xs)(h':o7 X.K H a ys):xs=ys:=by
 obtain⟨its,r,⟨o,n,e,_,_,d⟩,_⟩:=I.list h;obtain⟨its',r',⟨o',n',e',_,_,d'⟩,_⟩:=I.list h';rw[e] at e';cases e';rw[d] at d';injection d' with d1 _
 have:its=its':=by simpa using Qz4 Array.toList d1
 subst this;exact r.inj r'
theorem Inv.vP(I:Inv X pins σ H s)(h:mD X.K H a xs)(h':mD X.K H a ys):xs=ys:=by
 obtain⟨its,r,⟨o,e,_,n,d⟩,_⟩:=I.tuple h;obtain⟨its',r',⟨o',e',_,n',d'⟩,_⟩:=I.tuple h';rw[e] at e';cases e';rw[d] at d';injection d' with d1 _
 have:its=its':=by simpa using Qz4 Array.toList d1
 subst this;exact r.inj r'
end
abbrev Cx.wish(X:Cx)(E:Value->Shared->Prop):Cx:={ X with xe:=E }
abbrev Cx.WX(X:Cx):Cx:=X.wish λ_ _=>False
theorem Cx.Ok.wish{X:Cx}(ok:X.Ok)(E:Value->Shared->Prop):(X.wish E).Ok:=
 ⟨ok.mod,ok.kind,ok.glob,ok.blt,ok.above,ok.inj,ok.has,ok.cab,ok.hd,ok.frames,ok.cu,ok.exf,ok.bs,ok.Ux,ok.SN,ok.Uc,ok.uZ,ok.YZ⟩
theorem Cx.Ok.qt{X:Cx}{E:Value->Shared->Prop}(ok:(X.wish E).Ok):X.Ok:=
 ⟨ok.mod,ok.kind,ok.glob,ok.blt,ok.above,ok.inj,ok.has,ok.cab,ok.hd,ok.frames,ok.cu,ok.exf,ok.bs,ok.Ux,ok.SN,ok.Uc,ok.uZ,ok.YZ⟩
section
variable{X:Cx}{pins:List (Addr×Obj)}{σ:St}{H:Hp}{s:Shared}{E:Value->Shared->Prop}
theorem Inv.wish(I:Inv X pins σ H s)(E:Value->Shared->Prop):Inv (X.wish E) pins σ H s:=⟨I.ok.wish E,I.os,I.bare,I.base,I.loc,I.cell,I.free,I.rn,I.pin,I.hok,I.len⟩
theorem Inv.qt(I:Inv (X.wish E) pins σ H s):Inv X pins σ H s:=⟨I.ok.qt,I.os,I.bare,I.base,I.loc,I.cell,I.free,I.rn,I.pin,I.hok,I.len⟩
theorem SP.qt{D:Ends}{f:Flow}{s':Shared}(h:SP (X.wish E) pins D f s'):SP X pins D f s':=by
 cases f with
 | next=>obtain⟨σ',H',I,q⟩:=h;exact⟨σ',H',I.qt,q⟩
 | brk=>obtain⟨σ',H',I,q⟩:=h;exact⟨σ',H',I.qt,q⟩
 | cont=>obtain⟨σ',H',I,q⟩:=h;exact⟨σ',H',I.qt,q⟩
 | ret u=>obtain⟨v,σ',H',I,r,q⟩:=h;exact⟨v,σ',H',I.qt,r,q⟩
theorem Gq.WX{st:List Stmt}{t:TS}(h:Gq X.WX st t):Gq X st t:=λpins s σ H D I hw=>
 Qz2 (h pins s σ H D (I.wish _) hw) (λ_ _ q=>q.qt) λ_ _ z=>False.elim z
end
section
variable{X:Cx}{st:Stmt}{rest:List Stmt}{t u:TS}{e:Expr}{te:TE}{pos:Pos}
def acZ:TS:=λD σ H=>D.nx σ H
def afD(t u:TS):TS:=λD σ H=>t { D with nx:=u D } σ H
theorem Wk:Gq X [] acZ:=λ_ _ σ H _ I h=>wpAny_execs_nil ⟨σ,H,I,h⟩
theorem RQ(h1:PS X st t)(h2:Gq X rest u):Gq X (st::rest) (afD t u):=by
 intro pins s σ H D I h;refine wpAny_execs_cons (fK (h1 pins s σ H { D with nx:=u D } I h) λf s1 q=>?_);cases f with
 | next=>
  obtain⟨σ',H',I',q⟩:=q;exact h2 pins s1 σ' H' D I' q
 | ret v=>exact q
 | brk=>exact q
 | cont=>exact q
theorem Mq(h1:PS X st t):Gq X [st] t:=by
 intro pins s σ H D I h;refine wpAny_execs_cons (fK (h1 pins s σ H D I h) λf s1 q=>?_);cases f with
 | next=>exact wpAny_execs_nil q
 | ret v=>exact q
 | brk=>exact q
 | cont=>exact q
def ac2:TS:=λD σ H=>D.ct σ H
theorem Hr:PS X (.Continue pos) ac2:=λ_ _ σ H _ I h=>wpAny_Continue ⟨σ,H,I,h⟩
theorem Inv.quiet{pins:List (Addr×Obj)}{σ:St}{H:Hp}{s:Shared}(I:Inv X pins σ H s):interactive X.env=false:=by simp[interactive,I.ok.kind]
def ac0(te:TE):TS:=λD σ H=>te σ H λ_ H1=>D.nx σ H1
theorem Ew(he:PE X e te)(hs:swapsWith e none pos.line X.env=pure false:=by rfl):PS X (.Expr e pos) (ac0 te):=by intro pins s σ H D I h;exact wpAny_Expr_any (fK (he pins s σ H _ I h) λv s1 ⟨x,H1,I1,r1,q1⟩=>⟨σ,H1,I1,q1⟩) I.quiet hs
def afF(te:TE):TS:=λD σ H=>te σ H D.rt
theorem Kl(he:PE X e te):PS X (.Return (some e) pos) (afF te):=by intro pins s σ H D I h;exact wpAny_Return_some (fK (he pins s σ H _ I h) λv s1 ⟨x,H1,I1,r1,q1⟩=>⟨x,σ,H1,I1,r1,q1⟩)
def afL(c:TT)(t u:TS):TS:=λD σ H=>c σ H λb H1=>if b=true then t D σ H1 else u D σ H1
theorem adH{c:Expr}{a b:List Stmt}{tc:TT}(hc:PT X c tc)(ha:Gq X a t)(hb:Gq X b u):PS X (.If c a b pos) (afL tc t u):=by
 intro pins s σ H D I h;refine wpAny_If (fK (hc pins s σ H _ I h) λd s1 ⟨H1,I1,q1⟩=>?_);cases d with
 | true=>exact ha pins s1 σ H1 D I1 q1
 | false=>exact hb pins s1 σ H1 D I1 q1
end
abbrev TG:=V->St->Hp->(St->Hp->Prop)->Prop
abbrev Yd:=List V->St->Hp->(St->Hp->Prop)->Prop
def PG(X:Cx)(target:Expr)(t:TG):Prop:=
 ∀(pins:List (Addr×Obj)) (s:Shared) (σ:St) (H:Hp) (v:V) (u:Value) (Q:St->Hp->Prop),Inv X pins σ H s->RelV v u->t v σ H Q->
  wpAny (model X.prog X.w) X.A (assign target X.env u) (λ_ s'=>∃σ' H',Inv X pins σ' H' s'/\Q σ' H') X.xe s
def Zq(X:Cx)(ts:List Expr)(t:Yd):Prop:=
 ∀(pins:List (Addr×Obj)) (s:Shared) (σ:St) (H:Hp) (vs:List V) (us:List Value) (Q:St->Hp->Prop),Inv X pins σ H s->Vals vs us->t vs σ H Q->
  wpAny (model X.prog X.w) X.A (assignInOrder ((assignEach ts X.env).map (·.2)) us) (λ_ s'=>∃σ' H',Inv X pins σ' H' s'/\Q σ' H') X.xe s
abbrev Li:=V->V->V->Hp->(Hp->Prop)->Prop
def aeP(X:Cx)(t:Li):Prop:=
 ∀(pins:List (Addr×Obj)) (s:Shared) (σ:St) (H:Hp) (o i v:V) (ov iv u:Value) (Q:Hp->Prop),Inv X pins σ H s->RelV o ov->RelV i iv->RelV v u->t o i v H Q->
  wpAny (model X.prog X.w) X.A (setItem ov iv u) (λ_ s'=>∃H',Inv X pins σ H' s'/\Q H') X.xe s
abbrev TIp:=V->V->Hp->VK->Prop
def PIp(X:Cx)(op:Operator)(t:TIp):Prop:=
 ∀(pins:List (Addr×Obj)) (s:Shared) (σ:St) (H:Hp) (x y:V) (v u:Value) (Q:VK),Inv X pins σ H s->RelV x v->RelV y u->t x y H Q->
  wpAny (model X.prog X.w) X.A (inplaceOp op v u) (EP X pins σ Q) X.xe s
section
variable{X:Cx}{pos:Pos}
def Ip(i:Nat):TG:=λv σ H Q=>Q (σ.set i (some v)) H
theorem Wu{i:Nat}{x:Str}(hN:X.N.Nodup)(hi:X.N[i]? = some x)(hx:Loc X.env.scope x)(hf:X.fn x=true\/X.env.scope.names.lookup x=some .local:=by first|exact .inl rfl|exact .inr rfl|assumption):PG X (.Name x pos) (Ip i):=by intro pins s σ H v u Q I r h;exact wpAny_assign_Name (uB I hN hi hx r (λs' I'=>⟨_,H,I',h⟩) hf)
def agr:Yd:=λvs σ H Q=>vs=[]/\Q σ H
def aeu(t:TG)(u:Yd):Yd:=λvs σ H Q=>∃v r,vs=v::r/\t v σ H λσ' H'=>u r σ' H' Q
theorem Wt:Zq X [] agr:=by intro pins s σ H vs us Q I r h;obtain⟨e,h⟩:=h;subst e;cases r;exact assignInOrder_nil ⟨σ,H,I,h⟩
theorem R4{e:Expr}{es:List Expr}{t:TG}{u:Yd}(h1:PG X e t)(h2:Zq X es u)
  (hs:(assignEach (e::es) X.env).map (·.2)=assign e X.env::(assignEach es X.env).map (·.2):=by rfl):Zq X (e::es) (aeu t u):=by
 intro pins s σ H vs us Q I r h;obtain⟨v,vr,e1,h⟩:=h;subst e1;cases r with
 | cons r rr=>
  rw[hs];refine assignInOrder_cons (fK (h1 pins s σ H _ _ _ I r h) λ_ s1 ⟨σ1,H1,I1,q1⟩=>?_);exact h2 pins s1 σ1 H1 _ _ Q I1 rr q1
def ago(K:PySem.W.Frag)(n:Nat)(t:Yd):TG:=λv σ H Q=>∃a xs,v = .ref a/\mD K H a xs/\xs.length=n/\t xs σ H Q
theorem aat{es:List Expr}{k:Nat}{t:Yd}{n:Nat}(hc:X.calm=true)(h:Zq X es t)
  (hn:(assignEach es X.env).length=n:=by rfl) (hst:(assignEach es X.env).findIdx? (·.1)=none:=by rfl):PG X (.Tuple es k pos) (ago X.K n t):=by
 intro pins s σ H v u Q I r hw;obtain⟨a,xs,e1,hq,hl,hw⟩:=hw;subst e1;cases r;obtain⟨its,rv,ht,hz⟩:=I.tuple hq;refine assign_Tuple_tuple (I.ok.hd hc) ht (by simp[hn,<-hl,rv.length]) hst λh' hx=>?_;have I1:Inv X pins σ H { s with heap:=h' }:=I.kept (t':=s.toks) λb o e=>hx b o (Qxq (Qq9 e)) e;exact h pins _ σ H xs _ Q I1 (by simpa using rv) hw
def KH(to ti:TE)(t:Li):TG:=λv σ H Q=>to σ H λo H1=>ti σ H1 λi H2=>t o i v H2 λH3=>Q σ H3
theorem aau{o i:Expr}{to ti:TE}{t:Li}(ho:PE X o to)(hi:PE X i ti)(hs:aeP X t)
  (ha:∀v,assign (.Subscript o i pos) X.env v=(do
   let ov <-holding [v] (eval o X.env)
   let iv <-holding [v,ov] (eval i X.env)
   standAt pos
   holding [v,ov,iv] (setItem ov iv v)
   release [v,ov,iv] []):=by intro _;rfl):PG X (.Subscript o i pos) (KH to ti t):=by
 intro pins s σ H v u Q I r h;rw[ha];refine Qqz (Qjx (fK (ho pins s σ H _ I h) λov s1 ⟨x,H1,I1,r1,q1⟩=>?_));refine Qqz (Qjx (fK (hi pins s1 σ H1 _ I1 q1) λiv s2 ⟨y,H2,I2,r2,q2⟩=>?_));refine Qqz (wpAny_standAt (Qqz (Qjx (fK (hs pins s2 σ H2 x y v ov iv u _ I2 r1 r2 r q2) λ_ s3 ⟨H3,I3,q3⟩=>?_))));exact wpAny_release ⟨σ,H3,I3,q3⟩
def VD(te:TE)(g:TG):TS:=λD σ H=>te σ H λx H1=>g x σ H1 D.nx
theorem aan{tg e:Expr}{te:TE}{g:TG}(he:PE X e te)(hg:PG X tg g)(hs:swapsWithSole [tg] e pos.line X.env=pure false:=by rfl)(hw:swappedStores [tg] e X.env=pure none:=by rfl)
  (h1:(assignEach [tg] X.env).map (·.2)=[assign tg X.env]:=by rfl):PS X (.Assign [tg] e pos) (VD te g):=by
 intro pins s σ H D I h;refine wpAny_Assign_stores (fK (he pins s σ H _ I h) λv s1 ⟨x,H1,I1,r1,q1⟩=>?_) hs hw;rw[h1];exact fK (hg pins s1 σ H1 x v _ I1 r1 q1) λ_ s2 q=>q
theorem RW{i:Nat}{x:Str}{e:Expr}{te:TE}{pos':Pos}(hN:X.N.Nodup)(hi:X.N[i]? = some x)(hx:Loc X.env.scope x)(he:PE X e te)(hs:swapsWith e (some (.Name x pos')) pos.line X.env=pure false:=by rfl)(hf:X.fn x=true\/X.env.scope.names.lookup x=some .local:=by first|exact .inl rfl|exact .inr rfl|assumption) :
  PS X (.Assign [.Name x pos'] e pos) (VD te (Ip i)):=by
 intro pins s σ H D I h;refine wpAny_Assign_Name (fK (he pins s σ H _ I h) λv s1 ⟨y,H1,I1,r1,q1⟩=>?_) hs;exact uB I1 hN hi hx r1 (λs2 I2=>⟨_,H1,I2,q1⟩) hf
def afO(i:Nat)(te:TE)(ti:TIp):TS:=λD σ H=>∃x,σ[i]? = some (some x)/\te σ H λy H1=>ti x y H1 λz H2=>D.nx (σ.set i (some z)) H2
theorem aam{i:Nat}{x:Str}{e:Expr}{te:TE}{op:Operator}{ti:TIp}{pos':Pos}(hN:X.N.Nodup)(hi:X.N[i]? = some x)(hx:Loc X.env.scope x)(he:PE X e te)(ho:PIp X op ti)(hf:X.fn x=true\/X.env.scope.names.lookup x=some .local:=by first|exact .inl rfl|exact .inr rfl|assumption) :
  PS X (.AugAssign (.Name x pos') op e pos) (afO i te ti):=by
 intro pins s σ H D I h;obtain⟨v,e1,h⟩:=h;obtain⟨m,hn,hl⟩:=I.loc;have vis:vH X.env.scope x:=by rcases hx with k|k;exact .inl k;exact .inr (.inl k)
 obtain⟨u,r,l⟩:=hl i x v hi e1 vis;refine wpAny_AugAssign_Name ?_;have go:wpAny (model X.prog X.w) X.A (eval e X.env) (λw s₂=>wpAny (model X.prog X.w) X.A (inplaceOp op u w) (λr s₃=>wpAny (model X.prog X.w) X.A (storeName X.env x r) (λ_=>SP X pins D .next) X.xe s₃) X.xe s₂) X.xe s:=by refine fK (he pins s σ H _ I h) λw s1 ⟨y,H1,I1,r1,q1⟩=>?_;refine fK (ho pins s1 σ H1 v y u w _ I1 r r1 q1) λz s2 ⟨zv,H2,I2,r2,q2⟩=>?_;exact uB I2 hN hi hx r2 (λs3 I3=>⟨_,H2,I3,q2⟩) hf
 rcases l with ⟨hk,hm⟩|⟨hk,c,hc,hcell⟩
 ·exact wpAny_loadName_local I.ok.kind hk hn hm go
 ·rcases hk with hk|hk
  ·exact wpAny_loadName_cell I.ok.kind hk hc hcell go
  ·rcases hx with k|k
   ·have:X.env.scope.names.lookup x=some .free:=hk;rw[k] at this;cases this
   ·have:X.env.scope.names.lookup x=some .free:=hk;rw[k] at this;cases this
def ipI(f:Int->Int->Int):TIp:=λx y H Q=>∃i j,x = .int i/\y = .int j/\Q (.int (f i j)) H
theorem abG:PIp X .Add (ipI λi j=>i+j):=by intro pins s σ H x y v u Q I r1 r2 h;obtain⟨i,j,e1,e2,q⟩:=h;subst e1;subst e2;obtain⟨t,rfl⟩:=r1;obtain⟨t',rfl⟩:=r2;exact iadd_int ⟨.int _,H,I.tok _,⟨_,rfl⟩,q⟩
def ZR(c:TT)(tb:TS):TS:=λD σ H=>∃W:Nat->St->Hp->Prop,(∃m,W m σ H)/\∀m σ H,W m σ H->
 c σ H λb H1=>if b=true then ∃N:St->Hp->Prop,(∀σ' H',N σ' H'->∃m',m'<m/\W m' σ' H')/\tb { D with nx:=N,ct:=N,bk:=D.nx } σ H1 else D.nx σ H1
theorem RT{c:Expr}{body:List Stmt}{tc:TT}{tb:TS}(hp:PassesOwn (model X.prog X.w) X.A X.env X.xe)(hc:PT X c tc)(hb:Gq X body tb):PS X (.While c body [] pos) (ZR tc tb):=by
 intro pins s σ H D I h;obtain⟨W,⟨m0,w0⟩,turn⟩:=h;refine wpAny_While (codeAny_whileLoop (λn s'=>∃σ' H',Inv X pins σ' H' s'/\W n σ' H') ?_ m0 ⟨σ,H,I,w0⟩);rintro n s1 ⟨σ1,H1,I1,w1⟩;refine Qj7 hp (fK (hc pins s1 σ1 H1 _ I1 (turn n σ1 H1 w1)) λb s2 ⟨H2,I2,q2⟩=>?_);cases b with
 | true=>
  obtain⟨N,hN,q2⟩:=q2;rw[if_pos rfl];refine Qj7 hp (fK (hb pins s2 σ1 H2 _ I2 q2) λf s3 q3=>?_);cases f with
  | next=>
   obtain⟨σ3,H3,I3,n3⟩:=q3;obtain⟨m',hm,w3⟩:=hN σ3 H3 n3;exact⟨m',hm,σ3,H3,I3,w3⟩
  | cont=>
   obtain⟨σ3,H3,I3,n3⟩:=q3;obtain⟨m',hm,w3⟩:=hN σ3 H3 n3;exact⟨m',hm,σ3,H3,I3,w3⟩
  | brk=>exact q3
  | ret v=>exact q3
 | false=>
  rw[if_neg Qw6];exact wpAny_execs_nil ⟨σ1,H2,I2,q2⟩
end
structure It where
 go:Nat->Hp->Prop
 yld:Nat->Hp->V->Hp->Prop
 stop:Nat->Hp->Prop
def uq(X:Cx)(pins:List (Addr×Obj))(H:Hp)(b:Addr):Prop:=
 H b=none/\b≠X.env.locals/\b ∉ X.fs/\(b∈X.ex\/X.s₀.heap.objs.size<=b)/\(∀x c,X.env.cells.lookup x=some c->c≠b)/\∀p∈X.pn++pins,p.1≠b
theorem Inv.Ub{X:Cx}{pins:List (Addr×Obj)}{σ:St}{H H':Hp}{s:Shared}{b:Addr}(I:Inv X pins σ H s)(hb:s.heap.objs.size<=b)(hn:H' b=none):uq X pins H' b:=by
 refine⟨hn,Qjk (Qwx I.lt hb),I.afZ hb,.inr (Qq2 I.sz hb),λx c e z=>?_,λp hp z=>?_⟩
 ·obtain⟨v,q⟩:=I.cell x c e;exact absurd (Qwx q.lt (by rw[z];exact hb)) (Qzz _)
 ·exact absurd (Qwx (Qq9 (I.pin p hp).1) (by rw[z];exact hb)) (Qzz _)
structure Turn(P:Program)(w:World)(K:PySem.W.Frag)(tg:Expr)(J:It)(fp:List Addr)(it:Addr)(tn:Nat->Heap->Prop):Prop where
 mem:it∈fp
 obj:∀i h,tn i h->∀b∈fp,∃o,h.get? b=some o/\∀v,o.data ≠ .cell v
 keep:∀i h h',tn i h->(∀b∈fp,∀o,h.get? b=some o->h'.get? b=some o)->tn i h'
 item:∀(X:Cx),X.prog=P->X.w=w->X.K=K->X.calm=true->∀(i:Nat) (pins:List (Addr×Obj)) (s:Shared) (σ:St) (H:Hp) (E:Value->Shared->Prop),Inv X pins σ H s->(∀b∈fp,uq X pins H b)->tn i s.heap->J.go i H->
  wpAny (model P w) X.A (pyNext (.ref it)) (λr s1=>∃u,r=some u/\
   wpAny (model P w) X.A (letOwnedTupleGo tg (.ref it) u) (λ_ s2=>∃x H',Inv X pins σ H' s2/\RelV x u/\J.yld i H x H'/\tn (i+1) s2.heap/\∀b∈fp,H' b=none) E s1) E s
 done:∀(X:Cx),X.prog=P->X.w=w->X.K=K->X.calm=true->∀(i:Nat) (pins:List (Addr×Obj)) (s:Shared) (σ:St) (H:Hp) (E:Value->Shared->Prop),Inv X pins σ H s->(∀b∈fp,uq X pins H b)->tn i s.heap->J.stop i H->
  wpAny (model P w) X.A (pyNext (.ref it)) (λr s1=>r=none/\Inv X pins σ H s1) E s
 self:∀(A:Around) (i:Nat) (s:Shared) (Q:Value->Shared->Prop) (E:Value->Shared->Prop),tn i s.heap->Q (.ref it) s->wpAny (model P w) A (pyIter (.ref it)) Q E s
abbrev TI:=St->Hp->(It->Hp->Prop)->Prop
def PIE(X:Cx)(pins:List (Addr×Obj))(σ:St)(tg:Expr)(R:It->Hp->Prop)(itv:Value)(s2:Shared):Prop:=
 ∃(it:Addr) (fp:List Addr) (tn:Nat->Heap->Prop) (J:It) (H':Hp),itv = .ref it/\Inv X pins σ H' s2/\Turn X.prog X.w X.K tg J fp it tn/\tn 0 s2.heap/\(∀b∈fp,uq X pins H' b)/\R J H'
def PI(X:Cx)(tg iter:Expr)(wi:TI):Prop:=
 ∀(pins:List (Addr×Obj)) (s:Shared) (σ:St) (H:Hp) (R:It->Hp->Prop),Inv X pins σ H s->wi σ H R->
  wpAny (model X.prog X.w) X.A (eval iter X.env) (λv s1=>wpAny (model X.prog X.w) X.A (pyIter v) (PIE X pins σ tg R) X.xe s1) X.xe s
theorem Im{M : Model}{A : Around}{E : Value → Shared → Prop}{s : Shared}{tg : Expr}{it : Addr}{u : Value}{o : Obj}{n : String}{vs : Array Value}{Q : Unit → Shared → Prop}(ho : s.heap.get? it = some o)(hc : o.cls = .type n)(hd : o.data = .fields vs)
    (hn : ["enumerate", "zip", "dict_itemiterator", "dict_reverseitemiterator", "odict_iterator", "itertools.zip_longest", "itertools.pairwise"].contains n = false) (hQ : Q () s) : wpAny M A (letOwnedTupleGo tg (.ref it) u) Q E s := by
  unfold letOwnedTupleGo;cases tg <;> first
    | exact Qq5 hQ
    | (cases u <;> first
        | exact Qq5 hQ
        | (refine Qqz (wpAny_load ho ?_)
           rw [hc, hd];show wpAny M A (if (["enumerate", "zip", "dict_itemiterator", "dict_reverseitemiterator", "odict_iterator", "itertools.zip_longest", "itertools.pairwise"].contains n && vs[0]? == some (rawInt _)) = true then _ else _) Q E s;rw [if_neg (by intro h; rw [hn, Bool.false_and] at h; cases h)];exact Qq5 hQ))
def Itl(K:PySem.W.Frag)(a:Addr):It:=
 ⟨λi H=>∃xs x,o7 K H a xs/\xs[i]? = some x,λi H x H'=>H'=H/\∀xs,o7 K H a xs->xs[i]? = some x,λi H=>∃xs,o7 K H a xs/\xs.length<=i⟩
def Itt(K:PySem.W.Frag)(a:Addr):It:=
 ⟨λi H=>∃xs x,mD K H a xs/\xs[i]? = some x,λi H x H'=>H'=H/\∀xs,mD K H a xs->xs[i]? = some x,λi H=>∃xs,mD K H a xs/\xs.length<=i⟩
def Itr(lo:Int)(n:Nat):It:=⟨λi _=>i<n,λi H x H'=>H'=H/\x = .int (lo+i),λi _=>n<=i⟩
theorem N7{P:Program}{w:World}{K:PySem.W.Frag}{tg:Expr}(a it:Addr):Turn P w K tg (Itl K a) [it] it (λi h=>h.IsListIter it a i) where
 mem:=by simp
 obj:=λi h st b hb=>by
  have e:b=it:=by simpa using hb
  subst e;obtain⟨o,e,c,d⟩:=st;exact⟨o,e,λv z=>by rw[d] at z;cases z⟩
 keep:=λi h h' st k=>st.at λo e=>k it (by simp) o e
 item:=by intro X hP hw hK hc i pins s σ H E I hf st hg;subst hP hw hK;obtain⟨xs,x,hq,hx⟩:=hg;obtain⟨its,rv,p,hz⟩:=I.list hq;obtain⟨u,hu,ru⟩:=rv.get hx;obtain⟨f0,f1,f2,f3,f4,f5⟩:=hf it (by simp);refine wpAny_pyNext_list_item st p.isList (x:=u) (by simpa using hu) λh' st' sb=>?_;have I1:Inv X pins σ H { s with heap:=h' }:=I.turned (t':=s.toks) (λb o hb e=>(sb.2 b hb).trans e) f0 f1 f3 f4 f5;obtain⟨o,e,c,d⟩:=id st';exact⟨u,rfl,Im (s:={ s with heap:=h' }) e c d (by decide) ⟨x,H,I1,ru,⟨rfl,λys hy=>by rw[I.Tg hy hq];exact hx⟩,st',λb hb=>(hf b hb).1⟩⟩
 done:=by intro X hP hw hK hc i pins s σ H E I hf st hg;subst hP hw hK;obtain⟨xs,hq,hx⟩:=hg;obtain⟨its,rv,p,hz⟩:=I.list hq;obtain⟨f0,f1,f2,f3,f4,f5⟩:=hf it (by simp);have hl:=rv.length;exact wpAny_pyNext_list_end (I.ok.hd hc) st p.isList (by simp;omega) λh' eb=>⟨rfl,I.turned (t':=s.toks) (λb o hb e=>eb b o hb e) f0 f1 f3 f4 f5⟩
 self:=λ_ _ _ _ _ st h=>wpAny_pyIter_listiter st h
theorem JM{P:Program}{w:World}{K:PySem.W.Frag}{tg:Expr}(a it:Addr):Turn P w K tg (Itt K a) [it] it (λi h=>h.IsTupleIter it a i) where
 mem:=by simp
 obj:=λi h st b hb=>by
  have e:b=it:=by simpa using hb
  subst e;obtain⟨o,e,c,d⟩:=st;exact⟨o,e,λv z=>by rw[d] at z;cases z⟩
 keep:=λi h h' st k=>st.at λo e=>k it (by simp) o e
 item:=by intro X hP hw hK hc i pins s σ H E I hf st hg;subst hP hw hK;obtain⟨xs,x,hq,hx⟩:=hg;obtain⟨its,rv,p,hz⟩:=I.tuple hq;obtain⟨u,hu,ru⟩:=rv.get hx;obtain⟨f0,f1,f2,f3,f4,f5⟩:=hf it (by simp);refine wpAny_pyNext_tuple_item st (show s.heap.IsTuple a its.toArray from p) (x:=u) (by simpa using hu) λh' st' sb=>?_;have I1:Inv X pins σ H { s with heap:=h' }:=I.turned (t':=s.toks) (λb o hb e=>(sb.2 b hb).trans e) f0 f1 f3 f4 f5;obtain⟨o,e,c,d⟩:=id st';exact⟨u,rfl,Im (s:={ s with heap:=h' }) e c d (by decide) ⟨x,H,I1,ru,⟨rfl,λys hy=>by rw[I.vP hy hq];exact hx⟩,st',λb hb=>(hf b hb).1⟩⟩
 done:=by intro X hP hw hK hc i pins s σ H E I hf st hg;subst hP hw hK;obtain⟨xs,hq,hx⟩:=hg;obtain⟨its,rv,p,hz⟩:=I.tuple hq;obtain⟨f0,f1,f2,f3,f4,f5⟩:=hf it (by simp);have hl:=rv.length;exact wpAny_pyNext_tuple_end (I.ok.hd hc) st (show s.heap.IsTuple a its.toArray from p) (by simp;omega) λh' eb=>⟨rfl,I.turned (t':=s.toks) (λb o hb e=>eb b o hb e) f0 f1 f3 f4 f5⟩
 self:=λ_ _ _ _ _ st h=>wpAny_pyIter_tupleiter st h
theorem JN{P:Program}{w:World}{K:PySem.W.Frag}{tg:Expr}(it:Addr)(lo:Int)(n:Nat):Turn P w K tg (Itr lo n) [it] it (λi h=>IsRangeIter h it (lo+(i:Nat)*1) ((n:Int) - (i:Nat)) 1) where
 mem:=by simp
 obj:=λi h st b hb=>by
  have e:b=it:=by simpa using hb
  subst e;exact⟨_,st,λv z=>by
   have z':Data.fields _=Data.cell v:=z;cases z'⟩
 keep:=λi h h' st k=>k it (by simp) _ st
 item:=by intro X hP hw hK hc i pins s σ H E I hf st hg;subst hP hw hK;obtain⟨f0,f1,f2,f3,f4,f5⟩:=hf it (by simp);have W:=Walks.range (prog:=X.prog) (w:=X.w) (I.ok.hd hc) it lo 1 n;refine W.item i s _ _ hg st λv h' tk hv st' kk=>?_;obtain⟨t,rfl⟩:=hv;have I1:Inv X pins σ H { s with heap:=h',toks:=tk }:=I.turned (λb o hb e=>kk b o (by simpa using hb) e) f0 f1 f3 f4 f5;refine⟨_,rfl,Im (s:={ s with heap:=h',toks:=tk }) (n:="range_iterator") st' rfl rfl (by decide) ⟨.int (lo+i),H,I1,⟨t,?_⟩,⟨rfl,rfl⟩,st',λb hb=>(hf b hb).1⟩⟩;rw[Int.mul_one]
 done:=by intro X hP hw hK hc i pins s σ H E I hf st hg;subst hP hw hK;obtain⟨f0,f1,f2,f3,f4,f5⟩:=hf it (by simp);exact wpAny_pyNext_range_end (I.ok.hd hc) st (by have:n<=i:=hg;omega) λh' eb=>⟨rfl,I.turned (t':=s.toks) (λb o hb e=>eb b o hb e) f0 f1 f3 f4 f5⟩
 self:=λ_ _ _ _ _ st h=>wpAny_pyIter_rangeiter st h
section
variable{X:Cx}{tg:Expr}
theorem Rm{pins:List (Addr×Obj)}{σ:St}{H:Hp}{s:Shared}{R:It->Hp->Prop}{E:Value->Shared->Prop}{lo hi:Int}{t u v:Tok}{tk:Nat}(I:Inv X pins σ H s)(h1 : -(2^62)<=lo)(h2:lo<2^62)(h3 : -(2^62)<=hi)(h4:hi<2^62)
  (q:R (Itr lo (hi - lo).toNat) H):wpAny (model X.prog X.w) X.A (pyIter (.ref s.heap.objs.size)) (PIE X pins σ tg R) E { s with heap:=s.heap.push { cls:=.type "range",data:=.fields #[.int lo t,.int hi u,.int 1 v] },toks:=tk }:=by
 refine wpAny_pyIter_range (IsRange.new ..) (small_one h1 h2 h3 h4) ?_;have I1:Inv X pins σ H { s with heap:=s.heap.push { cls:=.type "range",data:=.fields #[.int lo t,.int hi u,.int 1 v] },toks:=tk }:=I.kept λb o e=>Qq0 _ e;refine⟨(s.heap.push { cls:=.type "range",data:=.fields #[.int lo t,.int hi u,.int 1 v] }).objs.size,[(s.heap.push { cls:=.type "range",data:=.fields #[.int lo t,.int hi u,.int 1 v] }).objs.size],_,_,H,rfl,
  I1.kept (t':=tk) λb o e=>Qq0 _ e,JN _ lo (hi - lo).toNat,?_,λb hb=>?_,q⟩
 ·have e1:lo+((0:Nat):Int)*1=lo:=by simp
  have e2:(((hi - lo).toNat:Nat):Int) - ((0:Nat):Int)=Builtin.Range.rangeSize lo hi 1:=by rw[rangeSize_one];split<;>omega
  show IsRangeIter _ _ (lo+((0:Nat):Int)*1) ((((hi - lo).toNat:Nat):Int) - ((0:Nat):Int)) 1;rw[e1,e2];exact Qww _ rfl
 ·have e:b=(s.heap.push { cls:=.type "range",data:=.fields #[.int lo t,.int hi u,.int 1 v] }).objs.size:=by simpa using hb
  subst e;exact I1.Ub (Qq1 _) (I1.hok.fresh (Qq1 _))
def aeg(ta:TA):TI:=λσ H R=>ta σ H λvs H1=>∃j:Int,vs=[.int j]/\-(2^62)<=j/\j<2^62/\R (Itr 0 j.toNat) H1
theorem Oz{a:Expr}{ta:TA}{p pos:Pos}(hg:Gl X "range")(hm:X.mg "range" = none)(ha:PA X [a] ta)(hs:starEach [a] X.env=[(false,eval a X.env)]:=by rfl):PI X tg (.Call (.Name "range" p) [a] [] pos) (aeg ta):=by
 intro pins s σ H R I h;refine Call_ (wI I hg hm boot_range (Qj0 (fK (ha pos pins s σ H _ I h) λus s1 ⟨vs,H1,I1,r1,q1⟩=>?_) hs rfl));obtain⟨j,e,q1,q2,q⟩:=q1;subst e;cases r1 with
 | cons r rr=>
  cases rr;obtain⟨t,rfl⟩:=r;exact call_range_1 (Rm I1 (by omega) (by omega) q1 q2 (by simpa using q))
def afM(wi:TI)(g:TG)(tb:TS):TS:=λD σ H=>wi σ H λJ H1=>∃W:Nat->Nat->St->Hp->Prop,(∃m,W 0 m σ H1)/\∀i m σ H,W i m σ H->
 (J.stop i H/\D.nx σ H)\/(J.go i H/\∃N:St->Hp->Prop,(∀σ' H',N σ' H'->∃m',m'<m/\W (i+1) m' σ' H')/\∀x H',J.yld i H x H'->g x σ H' λσ2 H2=>tb { D with nx:=N,ct:=N,bk:=D.nx } σ2 H2)
def zA(fp:List Addr)(h:Heap):List (Addr×Obj):=fp.filterMap λb=>(h.get? b).map λo=>(b,o)
theorem pJ{fp:List Addr}{h:Heap}{b:Addr}{o:Obj}(hb:b∈fp)(e:h.get? b=some o):(b,o)∈zA fp h:=List.mem_filterMap.mpr ⟨b,hb,by rw[e];rfl⟩
theorem O8{fp:List Addr}{h:Heap}{p:Addr×Obj}(hp:p∈zA fp h):p.1∈fp/\h.get? p.1=some p.2:=by
 obtain⟨b,hb,e⟩:=List.mem_filterMap.mp hp;cases q:h.get? b with
 | none=>rw[q] at e;cases e
 | some o=>
  rw[q] at e;have e':(b,o)=p:=Qw1 e;subst e';exact⟨hb,q⟩
theorem Inv.pinned{pins:List (Addr×Obj)}{σ:St}{H:Hp}{s:Shared}{fp:List Addr}(I:Inv X pins σ H s)(hf:∀b∈fp,uq X pins H b)(ho:∀b∈fp,∃o,s.heap.get? b=some o/\∀v,o.data ≠ .cell v):Inv X (pins++zA fp s.heap) σ H s:=
 I.Mr λp hp=>(Qwq.mp hp).elim (λz=>I.pin p (Qxz _ z)) λz=>by
  obtain⟨hb,e⟩:=O8 z;obtain⟨f0,f1,f2,_⟩:=hf p.1 hb;obtain⟨o,e',d⟩:=ho p.1 hb;rw[e] at e';cases e';exact⟨e,f0,f1,f2,d⟩
theorem Inv.uy{pins pl:List (Addr×Obj)}{σ:St}{H:Hp}{s:Shared}(I:Inv X (pins++pl) σ H s):Inv X pins σ H s:=I.Mr λp hp=>I.pin p (Qxz _ (Qzk _ hp))
theorem aal{iter:Expr}{body:List Stmt}{wi:TI}{g:TG}{tb:TS}{pos:Pos}(hp:PassesOwn (model X.prog X.w) X.A X.env X.xe)(hc:X.calm=true)(hi:PI X tg iter wi)(hg:PG X tg g)(hb:Gq X body tb)
  (hs:∀x,foldedSetIterable iter X.env x=pure x:=by intro _;rfl):PS X (.For tg iter body [] pos) (afM wi g tb):=by
 intro pins s σ H D I h;refine wpAny_For (fK (hi pins s σ H _ I h) λv s1 h1=>fK h1 λitv s2 h2=>?_) hs;obtain⟨it,fp,tn,J,H2,e,I2,T,st2,f2,W,⟨m0,w0⟩,turn⟩:=h2;subst e
 -- what stays true of the iterator's objects through the loop
 have stat:∀{H':Hp},(∀b∈fp,H' b=none)->∀b∈fp,uq X pins H' b:=λhn b hb=>⟨hn b hb,(f2 b hb).2⟩;refine codeAny_forLoop_any (λn s'=>∃i σ' H',Inv X pins σ' H' s'/\tn i s'.heap/\(∀b∈fp,H' b=none)/\W i n σ' H') ?_ m0 ⟨0,σ,H2,I2,st2,λb hb=>(f2 b hb).1,w0⟩;rintro n s3 ⟨i,σ3,H3,I3,st3,fr3,w3⟩;rcases turn i n σ3 H3 w3 with ⟨stop,qn⟩|⟨go,N,hN,step⟩
 ·refine Qj7 hp (fK (T.done X rfl rfl rfl hc i pins s3 σ3 H3 X.xe I3 (stat fr3) st3 stop) λr s4 ⟨hr,I4⟩=>?_);subst hr;exact wpAny_execs_nil ⟨σ3,H3,I4,qn⟩
 ·refine Qj7 hp (fK (T.item X rfl rfl rfl hc i pins s3 σ3 H3 X.xe I3 (stat fr3) st3 go) λr s4 ⟨u,hr,h4⟩=>?_);subst hr;refine Qj7 hp (fK h4 λ_ s5 ⟨x,H5,I5,r5,y5,st5,fr5⟩=>?_);have I5':=I5.pinned (stat fr5) (T.obj _ _ st5);refine Qj7 hp (fK (hg _ s5 σ3 H5 x u _ I5' r5 (step x H5 y5)) λ_ s6 ⟨σ6,H6,I6,q6⟩=>?_);refine Qj7 hp (fK (hb _ s6 σ6 H6 _ I6 q6) λf s7 q7=>?_);have again:∀{σ7:St} {H7:Hp},Inv X (pins++zA fp s5.heap) σ7 H7 s7->N σ7 H7->∃m,m<n/\∃i σ' H',Inv X pins σ' H' s7/\tn i s7.heap/\(∀b∈fp,H' b=none)/\W i m σ' H':=λ{σ7 H7} I7 n7=>by
   obtain⟨m',hm,w7⟩:=hN σ7 H7 n7;refine⟨m',hm,i+1,σ7,H7,I7.uy,T.keep _ _ _ st5 λb hb o e=>(I7.pin (b,o) (Qxz _ (Qxz _ (pJ hb e)))).1,λb hb=>?_,w7⟩;obtain⟨o,e,d⟩:=T.obj _ _ st5 b hb;exact(I7.pin (b,o) (Qxz _ (Qxz _ (pJ hb e)))).2.1
  cases f with
  | next=>obtain⟨σ7,H7,I7,n7⟩:=q7;exact again I7 n7
  | cont=>obtain⟨σ7,H7,I7,n7⟩:=q7;exact again I7 n7
  | brk=>obtain⟨σ7,H7,I7,q7⟩:=q7;exact⟨σ7,H7,I7.uy,q7⟩
  | ret v=>obtain⟨x7,σ7,H7,I7,r7,q7⟩:=q7;exact⟨x7,σ7,H7,I7.uy,r7,q7⟩
end
abbrev R2:=V->V->Hp->VK->Prop
def mF(X:Cx)(f:Value->Value->Sem Value)(r:R2):Prop:=
 ∀(pins:List (Addr×Obj)) (s:Shared) (σ:St) (H:Hp) (x y:V) (v u:Value) (Q:VK),Inv X pins σ H s->RelV x v->RelV y u->r x y H Q->
  wpAny (model X.prog X.w) X.A (f v u) (EP X pins σ Q) X.xe s
def UnR(X:Cx)(f:Value->Sem Value)(r:V->Hp->VK->Prop):Prop:=
 ∀(pins:List (Addr×Obj)) (s:Shared) (σ:St) (H:Hp) (x:V) (v:Value) (Q:VK),Inv X pins σ H s->RelV x v->r x H Q->
  wpAny (model X.prog X.w) X.A (f v) (EP X pins σ Q) X.xe s
def j5(X:Cx)(f:Value)(r:List V->Hp->VK->Prop):Prop:=
 ∀(pins:List (Addr×Obj)) (s:Shared) (σ:St) (H:Hp) (xs:List V) (us:List Value) (Q:VK),Inv X pins σ H s->Vals xs us->r xs H Q->
  wpAny (model X.prog X.w) X.A (call f us) (EP X pins σ Q) X.xe s
def Vz(r:R2)(ta tb:TE):TE:=λσ H Q=>ta σ H λx H1=>tb σ H1 λy H2=>r x y H2 Q
def tUn(r:V->Hp->VK->Prop)(ta:TE):TE:=λσ H Q=>ta σ H λx H1=>r x H1 Q
def rI(C:Int->Int->Prop)(g:Int->Int->V):R2:=λx y H Q=>∃i j,x = .int i/\y = .int j/\C i j/\Q (g i j) H
def Jt(g:Int->Int->V):R2:=λx y H Q=>∃i j,x = .int i/\y = .int j/\Q (g i j) H
def rU(g:Int->V):V->Hp->VK->Prop:=λx H Q=>∃i,x = .int i/\Q (g i) H
section
variable{X:Cx}{a b c:Expr}{ta tb tc:TE}{pos:Pos}
theorem ab8(ha:PE X a ta)(hb:PE X b tb){pins:List (Addr×Obj)}{s:Shared}{σ:St}{H:Hp}{R:V->V->Hp->Prop}(I:Inv X pins σ H s)
  (h:ta σ H λx H1=>tb σ H1 λy H2=>R x y H2) {Q:Value->Shared->Prop} {f:Value->Value->Sem Value}
  (hf:∀v u s2 x y H2,Inv X pins σ H2 s2->RelV x v->RelV y u->R x y H2->wpAny (model X.prog X.w) X.A (f v u) Q X.xe s2) :
  wpAny (model X.prog X.w) X.A (eval a X.env) (λv s₁=>wpAny (model X.prog X.w) X.A (eval b X.env) (λu s₂=>wpAny (model X.prog X.w) X.A (f v u) Q X.xe s₂) X.xe s₁) X.xe s:=by
 refine fK (ha pins s σ H _ I h) λv s1 ⟨x,H1,I1,r1,q1⟩=>?_;refine fK (hb pins s1 σ H1 _ I1 q1) λu s2 ⟨y,H2,I2,r2,q2⟩=>?_;exact hf v u s2 x y H2 I2 r1 r2 q2
theorem YD{op:Operator}{r:R2}(ho:mF X (binaryOp op) r)(ha:PE X a ta)(hb:PE X b tb):PE X (.BinOp a op b pos) (Vz r ta tb):=by intro pins s σ H Q I h;exact wpAny_BinOp (ab8 ha hb I h λv u s2 x y H2 I2 rx ry q=>ho pins s2 σ H2 x y v u Q I2 rx ry q)
theorem YC{op:UnaryOp}{r:V->Hp->VK->Prop}(ho:UnR X (unaryOp op) r)(ha:PE X a ta):PE X (.UnaryOp op a pos) (tUn r ta):=by intro pins s σ H Q I h;exact UnaryOp_ (fK (ha pins s σ H _ I h) λv s1 ⟨x,H1,I1,r1,q1⟩=>ho pins s1 σ H1 x v Q I1 r1 q1)
theorem opI{f:Value->Value->Sem Value}{C:Int->Int->Prop}{g:Int->Int->Int}
  (rule:∀(i j:Int) (t u:Tok) (s:Shared) (Q:Value->Shared->Prop) (E:Value->Shared->Prop),C i j->Q (.int (g i j) s.toks) { s with toks:=s.toks+1 }->wpAny (model X.prog X.w) X.A (f (.int i t) (.int j u)) Q E s) :
  mF X f (rI C λi j=>.int (g i j)):=by
 intro pins s σ H x y v u Q I rx ry h;obtain⟨i,j,rfl,rfl,hc,q⟩:=h;obtain⟨t,rfl⟩:=rx;obtain⟨t',rfl⟩:=ry;exact rule i j t t' s _ _ hc ⟨.int (g i j),H,I.tok _,⟨_,rfl⟩,q⟩
theorem aaV{f:Value->Value->Sem Value}{g:Int->Int->Int}
  (rule:∀(i j:Int) (t u:Tok) (s:Shared) (Q:Value->Shared->Prop) (E:Value->Shared->Prop),Q (.int (g i j) s.toks) { s with toks:=s.toks+1 }->wpAny (model X.prog X.w) X.A (f (.int i t) (.int j u)) Q E s) :
  mF X f (Jt λi j=>.int (g i j)):=by
 intro pins s σ H x y v u Q I rx ry h;obtain⟨i,j,rfl,rfl,q⟩:=h;obtain⟨t,rfl⟩:=rx;obtain⟨t',rfl⟩:=ry;exact rule i j t t' s _ _ ⟨.int (g i j),H,I.tok _,⟨_,rfl⟩,q⟩
theorem aaW{f:Value->Value->Sem Value}{g:Int->Int->Bool}
  (rule:∀(i j:Int) (t u:Tok) (s:Shared) (Q:Value->Shared->Prop) (E:Value->Shared->Prop),Q (.bool (g i j)) s->wpAny (model X.prog X.w) X.A (f (.int i t) (.int j u)) Q E s) :
  mF X f (Jt λi j=>.bl (g i j)):=by
 intro pins s σ H x y v u Q I rx ry h;obtain⟨i,j,rfl,rfl,q⟩:=h;obtain⟨t,rfl⟩:=rx;obtain⟨t',rfl⟩:=ry;exact rule i j t t' s _ _ ⟨.bl (g i j),H,I,rfl,q⟩
def aeT(i j:Int):Prop:=0<j/\j<1073741824
def Yl(i j:Int):Prop:=0<=j/\j<=1000000/\i.natAbs<2^64
theorem JL(k:Nat):(0:Int)<=2^k:=by rw[two_pow_cast];exact Int.natCast_nonneg _
theorem aaU:mF X (binaryOp .Add) (Jt λi j=>.int (i+j)):=aaV λ_ _ _ _ _ _ _ q=>add_int q
theorem aaF:mF X (binaryOp .Sub) (Jt λi j=>.int (i - j)):=aaV λ_ _ _ _ _ _ _ q=>sub_int q
theorem aaK:mF X (binaryOp .Mod) (rI (λ_ j=>0<j) λi j=>.int (i % j)):=opI λi j _ _ _ _ _ hc q=>by
 have h1:(0:Int)<j:=hc;exact mod_int' (by omega) (by rw[Int.fmod_eq_emod_of_nonneg i (by omega)];exact q)
theorem aaI:mF X (binaryOp .Pow) (rI Yl λi j=>.int (i^j.toNat)):=opI λ_ _ _ _ _ _ _ hc q=>pow_int_small hc.1 hc.2.1 hc.2.2 q
theorem aaH:mF X (binaryOp .LShift) (rI Yl λi j=>.int (i*2^j.toNat)):=opI λ_ _ _ _ _ _ _ hc q=>lshift_int_small hc.1 hc.2.1 hc.2.2 q
theorem aaG:mF X (binaryOp .RShift) (rI (λ_ j=>0<=j) λi j=>.int (i / 2^j.toNat)):=opI λi j _ _ _ _ _ hc q=>
 rshift_int hc (by rw[Int.fdiv_eq_ediv_of_nonneg i (JL _)];exact q)
theorem aaT:mF X (binaryOp .BitAnd) (Jt λi j=>.int (Builtin.bitAnd i j)):=aaV λ_ _ _ _ _ _ _ q=>and_int q
theorem unI{f:Value->Sem Value}{g:Int->Int}
  (rule:∀(i:Int) (t:Tok) (s:Shared) (Q:Value->Shared->Prop) (E:Value->Shared->Prop),Q (.int (g i) s.toks) { s with toks:=s.toks+1 }->wpAny (model X.prog X.w) X.A (f (.int i t)) Q E s) :
  UnR X f (rU λi=>.int (g i)):=by
 intro pins s σ H x v Q I rx h;obtain⟨i,rfl,q⟩:=h;obtain⟨t,rfl⟩:=rx;exact rule i t s _ _ ⟨.int (g i),H,I.tok _,⟨_,rfl⟩,q⟩
theorem QM:UnR X (unaryOp .USub) (rU λi=>.int (-i)):=unI λ_ _ _ _ _ q=>neg_int q
end
theorem abZ{i j:Bool}:decide (V.bl i=V.bl j)=(i == j):=by rw[Qky];simp
section
variable{X:Cx}{a b c:Expr}{ta tb tc:TE}{pos:Pos}
theorem wU{pins:List (Addr×Obj)}{σ:St}{H:Hp}{s:Shared}{Q:VK}{k k':Bool}(I:Inv X pins σ H s)(q:Q (.bl k) H)(e:k=k'):EP X pins σ Q (.bool k') s:=by subst e;exact⟨.bl k,H,I,rfl,q⟩
theorem adO:mF X (compareOp .Lt) (Jt λi j=>.bl (decide (i<j))):=aaW λ_ _ _ _ _ _ _ q=>lt_int q
theorem adP:mF X (compareOp .LtE) (Jt λi j=>.bl (decide (i<=j))):=aaW λ_ _ _ _ _ _ _ q=>le_int q
theorem adQ:mF X (compareOp .Gt) (Jt λi j=>.bl (decide (j<i))):=aaW λ_ _ _ _ _ _ _ q=>gt_int q
theorem O4:mF X (compareOp .Lt) (λx y H Q=>∃i j,x = .str i/\y = .str j/\Q (.bl (decide (i.cps.toList<j.cps.toList))) H):=by intro pins s σ H x y v u Q I rx ry h;obtain⟨i,j,rfl,rfl,q⟩:=h;obtain⟨t,rfl⟩:=rx;obtain⟨t',rfl⟩:=ry;exact lt_str (wU I q rfl)
theorem O6:mF X (compareOp .In) (λx y H Q=>∃i j,x = .str i/\y = .str j/\Q (.bl (!(Builtin.Str.occurrences j i 0 j.length 1).isEmpty)) H):=by intro pins s σ H x y v u Q I rx ry h;obtain⟨i,j,rfl,rfl,q⟩:=h;obtain⟨t,rfl⟩:=rx;obtain⟨t',rfl⟩:=ry;exact in_str (wU I q rfl)
theorem aaM:mF X (compareOp .Is) (λx y H Q=>y = .non/\Q (.bl (decide (x = .non))) H):=by
 intro pins s σ H x y v u Q I rx ry h;obtain⟨rfl,q⟩:=h;cases ry;refine is_none_gen (wU I q ?_);cases x<;>first
  | (cases rx;rfl)
  | (obtain⟨t,rfl⟩:=rx;rfl)
theorem WL:mF X (compareOp .IsNot) (λx y H Q=>y = .non/\Q (.bl (!decide (x = .non))) H):=by
 intro pins s σ H x y v u Q I rx ry h;obtain⟨rfl,q⟩:=h;cases ry;refine isnot_none_gen (wU I q ?_);cases x<;>first
  | (cases rx;rfl)
  | (obtain⟨t,rfl⟩:=rx;rfl)
theorem mF.or{f:Value->Value->Sem Value}{r r':R2}(h:mF X f r)(h':mF X f r'):mF X f (λx y H Q=>r x y H Q\/r' x y H Q):=by
 intro pins s σ H x y v u Q I rx ry q;rcases q with q|q
 ·exact h pins s σ H x y v u Q I rx ry q
 ·exact h' pins s σ H x y v u Q I rx ry q
theorem Ms{op:CmpOp}{r:R2}(ho:mF X (compareOp op) r)(ha:PE X a ta)(hb:PE X b tb)(hm:behindInMarks op b=false):PE X (.Compare a [op] [b] pos) (Vz r ta tb):=by intro pins s σ H Q I h;exact wpAny_Compare1 (ab8 ha hb I h λv u s2 x y H2 I2 rx ry q=>ho pins s2 σ H2 x y v u Q I2 rx ry q) hm
def Ys(t:TE):TT:=λσ H Q=>t σ H λx H'=>∃k,x = .bl k/\Q k H'
theorem Mp{op:CmpOp}{r:R2}(ho:mF X (compareOp op) r)(ha:PE X a ta)(hb:PE X b tb)(hm:behindInMarks op b=false):PT X (.Compare a [op] [b] pos) (Ys (Vz r ta tb)):=by
 intro pins s σ H Q I h;refine wpAny_isTrue_Compare1 (fK (ha pins s σ H _ I h) λv s1 ⟨x,H1,I1,r1,q1⟩=>fK (hb pins s1 σ H1 _ I1 q1) λu s2 ⟨y,H2,I2,r2,q2⟩=>
  fK (ho pins s2 σ H2 x y v u _ I2 r1 r2 q2) λc s3 ⟨z,H3,I3,r3,k,e,q3⟩=>?_) hm
 subst e;cases r3;exact Qjy ⟨H3,I3,q3⟩
def QX(r r':R2)(ta tb tc:TE):TE:=λσ H Q=>ta σ H λx H1=>tb σ H1 λy H2=>r x y H2 λz H3=>∃k,z = .bl k/\
 (if k=true then tc σ H3 λw' H4=>r' y w' H4 Q else Q (.bl false) H3)
theorem RP{op op':CmpOp}{r r':R2}(ho:mF X (compareOp op) r)(ho':mF X (compareOp op') r')(ha:PE X a ta)(hb:PE X b tb)(hc:PE X c tc)
  (hm:lastMarks [op,op'] [b,c]=false:=by with_unfolding_all rfl):PT X (.Compare a [op,op'] [b,c] pos) (Ys (QX r r' ta tb tc)):=by
 intro pins s σ H Q I h;refine isTrue_chain (fK (ha pins s σ H _ I h) λv s1 ⟨x,H1,I1,r1,q1⟩=>test_link (fK (hb pins s1 σ H1 _ I1 q1) λu s2 ⟨y,H2,I2,r2,q2⟩=>
  fK (ho pins s2 σ H2 x y v u _ I2 r1 r2 q2) λd s3 ⟨z,H3,I3,r3,k,e,q3⟩=>?_)) hm
 subst e;cases r3;refine Qjy ?_;cases k with
 | false=>
  obtain⟨k',e',q'⟩:=q3;cases e';exact ite_ff ⟨H3,I3,q'⟩
 | true=>
  refine ite_tt (test_last (fK (hc pins s3 σ H3 _ I3 q3) λw' s4 ⟨z',H4,I4,r4,q4⟩=>fK (ho' pins s4 σ H4 y z' u w' _ I4 r2 r4 q4) λd' s5 ⟨z2,H5,I5,r5,k2,e2,q5⟩=>?_));subst e2;cases r5;exact Qjy ⟨H5,I5,q5⟩
theorem abE{κ:Type}{kvs:List (κ×V)}{vs:List (κ×Value)}(r:KV kvs vs):(!vs.isEmpty) = !kvs.isEmpty:=by cases r<;>rfl
theorem abD{xs:List V}{its:List Value}(r:Vals xs its):(!its.toArray.isEmpty) = !xs.isEmpty:=by cases r<;>simp
theorem zP:(sizeLine:Nat)<2^63:=by rw[Qj6];decide
theorem Kp:mF X (binaryOp .Add) (λx y H Q=>∃i j,x = .str i/\y = .str j/\i.length+j.length<=sizeLine/\Q (.str (i++j)) H):=by intro pins s σ H x y v u Q I rx ry h;obtain⟨i,j,rfl,rfl,hz,q⟩:=h;obtain⟨t,rfl⟩:=rx;obtain⟨t',rfl⟩:=ry;exact add_str (λt' tk=>⟨.str (i++j),H,I.tok _,⟨_,rfl⟩,q⟩) hz
theorem vals1{x:V}{us:List Value}(r:Vals [x] us):∃u,us=[u]/\RelV x u:=by
 cases r with
 | cons r1 r2=>cases r2;exact⟨_,rfl,r1⟩
theorem vals2{x y:V}{us:List Value}(r:Vals [x,y] us):∃u w',us=[u,w']/\RelV x u/\RelV y w':=by
 cases r with
 | cons r1 r2=>
  cases r2 with
  | cons r3 r4=>cases r4;exact⟨_,_,rfl,r1,r3⟩
def aeR(K:PySem.W.Frag)(x:V)(H:Hp)(n:Nat):Prop:=
 match x with
 | .str y=>y.length<=sizeLine/\n=y.length
 | .byt y=>y.size<=sizeLine/\n=y.size
 | .ref p=>(∃xs,o7 K H p xs/\n=xs.length)\/∃xs,mD K H p xs/\n=xs.length
 | _=>False
theorem Uu:j5 X (.builtin "len") (λxs H Q=>∃x n,xs=[x]/\aeR X.K x H n/\Q (.int n) H):=by
 intro pins s σ H xs us Q I r h;obtain⟨x,n,rfl,e,q⟩:=h;obtain⟨u,rfl,rx⟩:=vals1 r;have hl:=zP;have hs:sizeLine=16777216:=Qj6;cases x with
 | str y=>
  obtain⟨t,rfl⟩:=rx;obtain⟨hy,e'⟩:y.length<=sizeLine/\n=y.length:=e;subst e';exact len_str (by omega) ⟨.int _,H,I.tok _,⟨_,rfl⟩,q⟩
 | byt y=>
  obtain⟨t,rfl⟩:=rx;obtain⟨hy,e'⟩:y.size<=sizeLine/\n=y.size:=e;subst e';exact PySem.W.len_bytes (by omega) ⟨.int _,H,I.tok _,⟨_,rfl⟩,q⟩
 | ref p=>
  cases rx;have e':(∃xs,o7 X.K H p xs/\n=xs.length)\/∃xs,mD X.K H p xs/\n=xs.length:=e;rcases e' with ⟨xs,hx,e'⟩|⟨xs,hx,e'⟩
  ·subst e';obtain⟨its,r',pl,hz⟩:=I.list hx;have hlen:=r'.length;exact Calls.call_len_list pl.isList (by simp only[Qq3];omega) ⟨.int xs.length,H,I.tok _,⟨_,by simp only[Qq3];rw[hlen]⟩,q⟩
  ·subst e';obtain⟨its,r',pl,hz⟩:=I.tuple hx;have hlen:=r'.length;exact len_tuple pl (by simp only[Qq3];omega) ⟨.int xs.length,H,I.tok _,⟨_,by simp only[Qq3];rw[hlen]⟩,q⟩
 | _=>exact(show False from e).elim
theorem Jf:j5 X (.builtin "divmod") (λxs H Q=>∃i j,xs=[.int i,.int j]/\aeT i j/\∀p,H p=none->Q (.ref p) (upd H p (.tup [.int (i / j),.int (i % j)]))):=by intro pins s σ H xs us Q I r h;obtain⟨i,j,rfl,⟨h1,h2⟩,q⟩:=h;obtain⟨u,w',rfl,⟨t,rfl⟩,⟨t',rfl⟩⟩:=vals2 r;refine divmod_int (by omega) ?_ (.inl (PyProof.noPylong_small (by omega)));rw[Int.fdiv_eq_ediv_of_nonneg i (by omega),Int.fmod_eq_emod_of_nonneg i (by omega)];have hn:H s.heap.objs.size=none:=I.hok.fresh (Qq1 _);refine⟨.ref s.heap.objs.size,_,?_,rfl,q _ hn⟩;refine I.laid (λb o e=>Qq0 _ e) (Qq1 _) ⟨by simp only[Qqy,Qx2];rw[Qj6];decide,[.int (i / j) s.toks,.int (i % j) (s.toks+1)],.cons ⟨_,rfl⟩ (.cons ⟨_,rfl⟩ .nil),?_⟩;exact⟨_,Qww s.heap rfl,rfl,⟨0,rfl⟩,rfl⟩
end
theorem vI.some_of{v:V}{o:Option Value}(r:vI (some v) o):∃u,o=some u/\RelV v u:=by
 cases o with
 | none=>exact(show False from r).elim
 | some u=>exact⟨u,rfl,r⟩
structure gm(k:Nat)(A:Around):Prop where
 hd:A.handled=none
 dp:A.depth+3*k+5<recursionLimit
 un:A.units+16*k+200<cLine
theorem gm.mono{j k:Nat}{A:Around}(r:gm k A)(h:j<=k):gm j A:=⟨r.hd,by have:=r.dp;omega,by have:=r.un;omega⟩
theorem gm.deeper{k:Nat}{A:Around}(r:gm (k+1) A)(env:Env):gm k (A.deeper env):=
 ⟨r.hd,by have:=r.dp;show A.depth+1+3*k+5<_;omega,by have:=r.un;show A.units+3+16*k+200<_;omega⟩
theorem gm.depth{k:Nat}{A:Around}(r:gm k A):A.depth<recursionLimit:=by have:=r.dp;omega
theorem gm.units{k:Nat}{A:Around}(r:gm k A):A.units+64<cLine:=by have:=r.un;omega
def acY:TA:=λ_ H Q=>Q [] H
def Cq(ta:TE)(tr:TA):TA:=λσ H Q=>ta σ H λx H1=>tr σ H1 λxs H2=>Q (x::xs) H2
section
variable{X:Cx}{e:Expr}{es:List Expr}{te:TE}{t:TA}{pos:Pos}
theorem tV:PA X [] acY:=λ_ _ _ _ H Q I h=>Calls.spliced_nil ⟨[],H,I,.nil,h⟩
theorem iD(ha:PE X e te)(hr:PA X es t)(hs:starEach (e::es) X.env=(false,eval e X.env)::starEach es X.env:=by rfl):PA X (e::es) (Cq te t):=by intro pos pins s σ H Q I h;rw[hs];show wpAny _ _ (spliced ((false,eval e X.env)::backTo pos (starEach es X.env))) _ _ s;refine Calls.spliced_cons (fK (ha pins s σ H _ I h) λu s1 ⟨x,H1,I1,r1,q1⟩=>?_);exact fK (hr pos pins s1 σ H1 _ I1 q1) λus s2 ⟨xs,H2,I2,r2,q2⟩=>⟨x::xs,H2,I2,.cons r1 r2,q2⟩
def afC(t:TA):TE:=λσ H Q=>t σ H λxs H1=>xs.length<=sizeLine/\∀p,H1 p=none->Q (.ref p) (upd H1 p (.tup xs))
def afJ(t:TA):TE:=λσ H Q=>t σ H λxs H1=>xs.length<=sizeLine/\∀p,H1 p=none->Q (.ref p) (upd H1 p (.lst xs))
theorem aav{x1}(h:PA X es t):PE X (.Tuple es x1 pos) (afC t):=by intro pins s σ H Q I hq;refine wpAny_Tuple_spliced (fK (h pos pins s σ H _ I hq) λus s1 ⟨xs,H1,I1,r,z,q⟩=>⟨by rw[<-r.length];exact z,?_⟩);have hf:H1 s1.heap.objs.size=none:=I1.hok.fresh (Qq1 _);refine⟨.ref s1.heap.objs.size,upd H1 s1.heap.objs.size (.tup xs),I1.laid (t':=s1.toks) (λb u e=>Qq0 _ e) (Qq1 _) ?_,rfl,q _ hf⟩;exact⟨z,us,r,BX.new _ _⟩
theorem aaB(h:PA X es t):PE X (.List es pos) (afJ t):=by intro pins s σ H Q I hq;refine wpAny_List_spliced (fK (h pos pins s σ H _ I hq) λus s1 ⟨xs,H1,I1,r,z,q⟩=>⟨by rw[<-r.length];exact z,?_⟩);have hf:H1 s1.heap.objs.size=none:=I1.hok.fresh (Qq1 _);refine⟨.ref s1.heap.objs.size,upd H1 s1.heap.objs.size (.lst xs),I1.laid (t':=s1.toks) (λb u e=>Qq0 _ e) (Qq1 _) ?_,rfl,q _ hf⟩;exact⟨z,us,0,r,Qww _ rfl⟩
end
abbrev Sp:=List V->Hp->VK->XK->Prop
abbrev Qv:=List Env->Hp->Shared->XK->Value->Shared->Prop
structure Jo(P:Program)(w:World)(K:PySem.W.Frag)(mg:Str->Option Value)(base:Heap)(A:Around)(outer:List Env)(s:Shared)(H:Hp):Prop where
 frames:A.frames=some outer
 mod:Mod K mg base
 bs:∀b o,base.get? b=some o->s.heap.get? b=some o/\H b=none
 Ux:base.objs.size<=s.heap.objs.size
 uZ:s.heap.FunFrames base outer
 YZ:∀b∈frs outer,H b=none
 hok:uo P w H s.heap
 bare:AllBare s.gens
def CE(outer:List Env)(P:Program)(w:World)(H:Hp)(s:Shared)(Q:VK)(u:Value)(s':Shared):Prop:=
 ∃v H',s'.os=s.os/\AllBare s'.gens/\Un (frs outer) [] H H' s.heap s'.heap/\uo P w H' s'.heap/\RelV v u/\Q v H'
def CR(CX:Qv)(outer:List Env)(P:Program)(w:World)(H:Hp)(s:Shared)(Q:VK)(E:XK)(r:Result)(s':Shared):Prop:=
 match r with
 | .ok (.ret u)=>CE outer P w H s Q u s'
 | .ok _=>False
 | .error e=>CX outer H s E e s'
structure lX(P:Program)(w:World)(K:PySem.W.Frag)(mg:Str->Option Value)(base:Heap)(CX:Qv)(k:Nat)(f:Addr)(fd:FuncData)(ps:List Str)(sp:Sp):Prop where
 len:∀vs H Q E,sp vs H Q E->vs.length=ps.length
 run:∀(A:Around) (outer:List Env) (s:Shared) (H:Hp) (args:Args) (us:List Value) (vs:List V) (Q:VK) (E:XK),gm k A->Jo P w K mg base A outer s H->BindsTo s fd args (ps.zip us)->Vals vs us->sp vs H Q E->
  codeAny (model P w) A (.call (.ref f) args) (CR CX outer P w H s Q E) s
section
variable{X:Cx}{pins:List (Addr×Obj)}{σ:St}{H:Hp}{s s':Shared}
theorem Inv.env0(I:Inv X pins σ H s):Jo X.prog X.w X.K X.mg X.base X.A X.stack s H:=
 ⟨I.ok.frames,I.ok.mod,I.bs,Qq2 I.ok.Ux I.sz,I.stack,I.LR,I.hok,I.bare⟩
theorem Inv.after{Q:VK}{u:Value}(I:Inv X pins σ H s)(h:CE X.stack X.prog X.w H s Q u s'):EP X pins σ Q u s':=by obtain⟨v,H',os,bare,un,hok,r,q⟩:=h;obtain⟨hh,g,d,t,os'⟩:=s';obtain rfl:os'=s.os:=os;exact⟨v,H',I.call (h':=hh) (g':=g) (d':=d) (t':=t) (ch:=[]) un hok bare (λb z=>absurd z (by simp)),r,q⟩
end
def Yt(sp:Sp)(Ui:List V)(E:XK)(t:TA):TE:=λσ H Q=>t σ H λvs H1=>sp (vs++Ui) H1 Q E
def Binds(K:PySem.W.Frag)(fd:FuncData)(ps:List Str)(ds:List Value):Prop:=
 ∀(s:Shared) (us:List Value),K.In s.heap->(us++ds).length=ps.length->BindsTo s fd ⟨us,[]⟩ (ps.zip (us++ds))
theorem Binds.all{K:PySem.W.Frag}{fd:FuncData}{ps:List Str}(h:∀us:List Value,us.length=ps.length->bindArgs fd ⟨us,[]⟩=pure (ps.zip us)):Binds K fd ps []:=λs us _ hl=>by
 rw[Qxx] at hl ⊢;exact .of_eq (h us hl)
def Passes(CX:Qv)(X:Cx)(E:XK):Prop:=∀(pins:List (Addr×Obj)) (σ:St) (H:Hp) (s:Shared) (e:Value) (s':Shared),Inv X pins σ H s->CX X.stack H s E e s'->X.xe e s'
section
variable{X:Cx}{CX:Qv}{k:Nat}{f C:Addr}{fd:FuncData}{ps:List Str}{sp:Sp}{Ui:List V}{ds:List Value}{E:XK}{x m:Str}{p pos apos:Pos}{e o:Expr}{es:List Expr}{ta:TE}{t:TA}
theorem Rb{pins:List (Addr×Obj)}{σ:St}{H:Hp}{s:Shared}{Q:VK}{us:List Value}{vs:List V}(F:lX X.prog X.w X.K X.mg X.base CX k f fd ps sp)(hr:gm k X.A)(hb:Binds X.K fd ps ds)(hd:Vals Ui ds)(hx:Passes CX X E)
  (I:Inv X pins σ H s) (r:Vals vs us) (h:sp (vs++Ui) H Q E):wpAny (model X.prog X.w) X.A (call (.ref f) us) (EP X pins σ Q) X.xe s:=by
 have r2:Vals (vs++Ui) (us++ds):=r.append hd;have hl:(us++ds).length=ps.length:=by rw[<-r2.length];exact F.len _ _ _ _ h
 refine wpAny_call (codeAny_mono (F.run X.A X.stack s H ⟨us,[]⟩ (us++ds) (vs++Ui) Q E hr I.env0 (hb s us I.Px hl) r2 h) λr s' hq=>?_);cases r with
 | error e=>exact hx pins σ H s e s' I hq
 | ok fl=>
  cases fl with
  | ret u=>exact I.after hq
  | next=>exact False.elim hq
  | brk=>exact False.elim hq
  | cont=>exact False.elim hq
theorem Fd(F:lX X.prog X.w X.K X.mg X.base CX k f fd ps sp)(hr:gm k X.A)(hg:Gl X x)(hm:X.mg x=some (.ref f))(hk:PySem.W.keepIn X.K (.ref f)=true)(hb:Binds X.K fd ps ds)(hd:Vals Ui ds)(hx:Passes CX X E)
  (ha:PA X (e::es) t) (hdb:lR x:=by decide) (he:starEach (e::es) X.env=(false,eval e X.env)::starEach es X.env:=by rfl) (hpl:(backTo pos (starEach es X.env)).any (·.1)=false:=by rfl) :
  PE X (.Call (.Name x p) (e::es) [] pos) (Yt sp Ui E t):=by
 intro pins s σ H Q I h;refine wpAny_Call_Name_kw (yG I hg hm ?_ hdb);refine PySem.W.callWith_K (h₀:=X.base) I.ok.mod.Ju hk (fK (ha pos pins s σ H _ I h) λus s1 ⟨vs,H1,I1,r,q⟩=>⟨I1.Px,?_⟩) he hpl;exact Rb F hr hb hd hx I1 r q
end
structure bF(N P:List Str)(sc:Scope):Prop where
 kind:sc.kind = .function
 co:sc.isCoroutine=false
 gen:sc.isGenerator=false
 nd:N.Nodup
 pre:N.take P.length=P
 par:∀x∈P,sc.names.lookup x=some .local\/sc.names.lookup x=some .cell
 abb:∀y∈sc.names,y.2 ≠ .free
theorem Dr{kindOf:Str->Option NameKind}{x:Str}:∀{binds:List (Str×Value)} {m:Str->Option Value},(∀v,(x,v) ∉ binds)->bindL kindOf binds m x=m x
 | [],_,_=>rfl
 | (n,v)::r,m,h=>by
  unfold bindL;rw[Dr λw hw=>h w (Qqq _ hw)];split
  ·have:x≠n:=by rintro rfl;exact h v Qqj
   simp[this]
  ·rfl
theorem Dt{kindOf:Str->Option NameKind}{x:Str}:∀{binds:List (Str×Value)} {m:Str->Option Value},(∀v,(x,v) ∉ binds)->bindC kindOf binds m x=m x
 | [],_,_=>rfl
 | (n,v)::r,m,h=>by
  unfold bindC;rw[Dt λw hw=>h w (Qqq _ hw)];split
  ·rfl
  ·have:x≠n:=by rintro rfl;exact h v Qqj
   simp[this]
theorem Ds{kindOf:Str->Option NameKind}{x:Str}{v:Value}:∀{P:List Str} {vs:List Value} {i:Nat} {m:Str->Option Value},P.Nodup->P[i]? = some x->vs[i]? = some v->kindOf x=some .local->
  bindL kindOf (P.zip vs) m x=some v
 | [],_,_,_,_,h,_,_=>by simp at h
 | _::_,[],_,_,_,_,h,_=>by simp at h
 | p::P,w::vs,0,m,nd,h1,h2,hk=>by
  simp at h1 h2;subst h1;subst h2;show bindL kindOf ((p,w)::P.zip vs) m p=_;unfold bindL;rw[Dr λv hv=>(Qxj.mp nd).1 (List.of_mem_zip hv).1,if_pos hk];simp
 | p::P,w::vs,i+1,m,nd,h1,h2,hk=>by
  show bindL kindOf ((p,w)::P.zip vs) m x=_;unfold bindL;exact Ds (i:=i) (Qxj.mp nd).2 (by simpa using h1) (by simpa using h2) hk
theorem Du{kindOf:Str->Option NameKind}{x:Str}{v:Value}:∀{P:List Str} {vs:List Value} {i:Nat} {m:Str->Option Value},P.Nodup->P[i]? = some x->vs[i]? = some v->kindOf x≠some .local->
  bindC kindOf (P.zip vs) m x=some v
 | [],_,_,_,_,h,_,_=>by simp at h
 | _::_,[],_,_,_,_,h,_=>by simp at h
 | p::P,w::vs,0,m,nd,h1,h2,hk=>by
  simp at h1 h2;subst h1;subst h2;show bindC kindOf ((p,w)::P.zip vs) m p=_;unfold bindC;rw[Dt λv hv=>(Qxj.mp nd).1 (List.of_mem_zip hv).1,if_neg hk];simp
 | p::P,w::vs,i+1,m,nd,h1,h2,hk=>by
  show bindC kindOf ((p,w)::P.zip vs) m x=_;unfold bindC;exact Du (i:=i) (Qxj.mp nd).2 (by simpa using h1) (by simpa using h2) hk
def start(N:List Str)(vs:List V):St:=vs.map some++List.replicate (N.length - vs.length) none
def Jb(CX:Qv)(P:Program)(w:World)(K:PySem.W.Frag)(mg:Str->Option Value)(base:Heap)(N:List Str)(qual:Str)(scope:Scope)(f:Addr)(cd:Value)(A:Around)(outer:List Env)(s:Shared)(H:Hp)(E:XK):Cx where
 prog:=P
 w:=w
 K:=K
 mg:=mg
 base:=base
 A:=A.deeper (envOfC qual scope s.heap.objs.size f cd)
 N:=N
 s₀:=s
 H₀:=H
 env:=envOfC qual scope s.heap.objs.size f cd
 outer:=outer
 stack:=envOfC qual scope s.heap.objs.size f cd::outer
 ex:=[]
 calm:=true
 fn:=λ_=>true
 pn:=[]
 xe:=λe s'=>wpAny (model P w) (A.deeper (envOfC qual scope s.heap.objs.size f cd)) (leaving (envOfC qual scope s.heap.objs.size f cd) e) (λ_ s''=>CX outer H s E e s'') (λe' s''=>CX outer H s E e' s'') s'
theorem Aw{sc:Scope}{n:Nat}{x:Str}(h:sc.names.lookup x=some .cell):∃c,(cellsFrom n sc.names []).lookup x=some c:=by have q:=PySem.W.cellsFrom_some sc.names n [] (.inl h);exact Qx9.mp q
theorem Pz{CX:Qv}{P:Program}{w:World}{K:PySem.W.Frag}{mg:Str->Option Value}{base:Heap}{N ps:List Str}{qual:Str}{scope:Scope}{f:Addr}{cd:Value}{A:Around}{outer:List Env}{s s1:Shared}{H:Hp}{E:XK}{us:List Value}{vs:List V}
  (S:bF N ps scope) (hd:A.handled=none) (e0:Jo P w K mg base A outer s H) (hl:vs.length=ps.length) (r:Vals vs us)
  (x:InCallC s s.heap.objs.size (bindL (envOfC qual scope s.heap.objs.size f cd).kindOf (ps.zip us) λ_=>none) (cellsFrom (s.heap.objs.size+1) scope.names []) (bindC (envOfC qual scope s.heap.objs.size f cd).kindOf (ps.zip us) λ_=>none) s1) :
  Inv (Jb CX P w K mg base N qual scope f cd A outer s H E) [] (start N vs) H s1:=by
 have hpl:ps.length<=N.length:=by have:=Qz4 List.length S.pre;rw[Qzy] at this;omega
 obtain⟨h1,tk,rfl,hk⟩:=x.done;have Vd:∀b:Addr,b ∉ (Jb CX P w K mg base N qual scope f cd A outer s H E).ex:=λb z=>absurd (show b∈([]:List Addr) from z) (by simp);refine⟨⟨e0.mod,S.kind,rfl,rfl,Qq1 _,λy z c h1 h2=>?_,λy hy=>?_,λy c _ h=>?_,λ_=>hd,Around.frames_deeper e0.frames,.inr ⟨rfl,rfl⟩,λb z=>absurd z (Vd b),e0.bs,e0.Ux,λb _ _=>Vd b,λb z=>absurd z (Vd b),e0.uZ,e0.YZ⟩,
  rfl,e0.bare,Un.kept hk,⟨_,x.toInCall.ns,λi y v h1 h2 h3=>?_⟩,λy c h=>⟨_,x.cell y c h⟩,e0.hok.fresh (Qq1 _),λy c h=>?_,λp hp=>absurd (show p∈([]:List (Addr×Obj)) from hp) (by simp),e0.hok.kept hk,?_⟩
 ·exact name_of_addr x.apart (Qjq h1) (Qjq h2)
 ·have hy:scope.names.lookup y=some .cell\/scope.names.lookup y=some .free:=hy;rcases hy with hy|hy
  ·exact Aw hy
  ·exact absurd rfl (S.abb _ (Qjq hy))
 ·exact Qz8 (x.above y c (Qjq h))
 ·have hi:i<vs.length:=by
   unfold start at h2;by_cases hi:i<vs.length
   ·exact hi
   ·rw[Qxy (by simpa using hi)] at h2;rw[Qzj] at h2;split at h2<;>cases h2
  have ha:vs[i]? = some v:=by
   unfold start at h2;rw[Qw3 (by simpa using hi),Qw5] at h2;cases e:vs[i]? with
   | none=>rw[e] at h2;cases h2
   | some a=>rw[e] at h2;cases h2;rfl
  obtain⟨u,hu,rv⟩:=r.get ha;have hp:ps[i]? = some y:=by rw[<-S.pre,Qz1 (by omega)];exact h1
  have ndP:ps.Nodup:=by rw[<-S.pre];exact S.nd.sublist (List.take_sublist _ _)
  refine⟨u,rv,?_⟩;rcases S.par y (Qxv hp) with k|k
  ·exact .inl ⟨k,Ds ndP hp hu k⟩
  ·obtain⟨c,e⟩:=Aw (n:=s.heap.objs.size+1) k;refine .inr ⟨.inl k,c,e,?_⟩;have q:=x.cell y c e;rw[Du ndP hp hu (by show scope.names.lookup y≠_;rw[k];decide)] at q;exact q
 ·exact .inl (e0.hok.fresh (Qz8 (x.above y c (Qjq h))))
 ·unfold start;show _=N.length;rw[Qqx,Qqv,Qx4];omega
theorem Y0{CX:Qv}{P:Program}{w:World}{K:PySem.W.Frag}{mg:Str->Option Value}{base:Heap}{k:Nat}{f:Addr}{name qual:Str}{params:Arguments}{body:List Stmt}{scope:Scope}{dV kV doc pm cdv ct oc:Value}{an od:Option Addr}
  {osl:Array (Option Value)} {N ps:List Str} {sp:Sp} (lk:K.lookup f=some ⟨oc,od,.func (PySem.W.fnOf name qual params body scope dV kV doc pm an cdv ct),osl⟩) (hcd:PySem.W.codeIn K cdv qual=true) (S:bF N ps scope)
  (len:∀vs H Q E,sp vs H Q E->vs.length=ps.length)
  (hbody:∀(A:Around) (outer:List Env) (s:Shared) (H:Hp) (vs:List V) (Q:VK) (E:XK),gm k (A.deeper (envOfC qual scope s.heap.objs.size f cdv))->sp vs H Q E->
   ∃t,Gq (Jb CX P w K mg base N qual scope f cdv A outer s H E) body t/\t { nx:=λ_ H'=>Q .non H',rt:=Q } (start N vs) H) :
  lX P w K mg base CX (k+1) f (PySem.W.fnOf name qual params body scope dV kV doc pm an cdv ct) ps sp:=by
 refine⟨len,λA outer s H args us vs Q E hr e0 hb r hsp=>?_⟩;have hl:=len _ _ _ _ hsp;have KX:K.In s.heap:=e0.mod.Ju.keeps λb o e=>(e0.bs b o e).1;have lim:s.heap.NoLimit:=e0.mod.nolimit.keeps λb o e=>(e0.bs b o e).1;have hkind:∀y∈ps.zip us,scope.names.lookup y.1=some .local\/(scope.names.lookup y.1=some .cell/\((cellsFrom (s.heap.objs.size+1) scope.names []).lookup y.1).isSome=true):=λ⟨n,v⟩ hy=>by
  rcases S.par n (List.of_mem_zip hy).1 with q|q
  ·exact .inl q
  ·exact .inr ⟨q,PySem.W.cellsFrom_some _ _ _ (.inl q)⟩
 refine codeAny_call_function hr.depth (KX _ _ lk) rfl S.co S.gen rfl (PySem.W.codeRec_of KX hcd) (hb _ _ _ _ ?_);refine wpAny_newFunctionEnv_cells S.kind hkind λenv he s1 x=>?_;subst he;refine⟨lim.keeps x.toInCall.keep,codeAny_func ?_⟩;obtain⟨t,ht,hq⟩:=hbody A outer s H vs Q E (hr.deeper _) hsp;have I:Inv (Jb CX P w K mg base N qual scope f cdv A outer s H E) [] (start N vs) H s1:=Pz S hr.hd e0 hl r x;refine Qz2 (ht [] s1 (start N vs) H _ I hq) (λfl s' hs=>?_) λe s' hs=>hs;have fin:∀{σ':St} {H':Hp} {v:V} {u:Value},Inv (Jb CX P w K mg base N qual scope f cdv A outer s H E) [] σ' H' s'->RelV v u->Q v H'->CE outer P w H s Q u s':=
  λ{σ' H' v u} J rv q=>⟨v,H',J.os,J.bare,J.base,J.hok,rv,q⟩
 cases fl with
 | ret u=>
  obtain⟨v,σ',H',J,rv,q⟩:=hs;exact fin J rv q
 | next=>
  obtain⟨σ',H',J,q⟩:=hs;exact fin (v:=V.non) (u:=Value.none) J rfl q
 | brk=>
  obtain⟨_,_,_,q⟩:=hs;exact False.elim q
 | cont=>
  obtain⟨_,_,_,q⟩:=hs;exact False.elim q
section
variable{X:Cx}{x:Str}{p pos:Pos}{e:Expr}{es:List Expr}{t:TA}{id T:String}{r:List V->Hp->VK->Prop}
def tCB(r:List V->Hp->VK->Prop)(t:TA):TE:=λσ H Q=>t σ H λvs H1=>r vs H1 Q
theorem Hs(hc:j5 X (.builtin id) r)(hg:Gl X x)(hm:X.mg x=none)(hv:bootBuiltins x=some (.builtin id))(ha:PA X (e::es) t)(hn:x ≠ "__name__":=by decide)(hdb:lR x:=by decide)
  (he:starEach (e::es) X.env=(false,eval e X.env)::starEach es X.env:=by rfl) (hpl:(backTo pos (starEach es X.env)).any (·.1)=false:=by rfl):PE X (.Call (.Name x p) (e::es) [] pos) (tCB r t):=by
 intro pins s σ H Q I h;refine wpAny_Call_Name_kw (wI I hg hm hv ?_ hn hdb);exact PyProof.Rows.callWith_builtin1 (fK (ha pos pins s σ H _ I h) λus s1 ⟨vs,H1,I1,r1,q1⟩=>hc pins s1 σ H1 vs us Q I1 r1 q1) he hpl
theorem OJ(hc:j5 X (.type T) r)(hg:Gl X x)(hm:X.mg x=none)(hv:bootBuiltins x=some (.type T))(ha:PA X (e::es) t)(hn:x ≠ "__name__":=by decide)(hdb:lR x:=by decide)
  (he:starEach (e::es) X.env=(false,eval e X.env)::starEach es X.env:=by rfl) (hpl:(backTo pos (starEach es X.env)).any (·.1)=false:=by rfl):PE X (.Call (.Name x p) (e::es) [] pos) (tCB r t):=by
 intro pins s σ H Q I h;refine wpAny_Call_Name_kw (wI I hg hm hv ?_ hn hdb);exact Qj0 (fK (ha pos pins s σ H _ I h) λus s1 ⟨vs,H1,I1,r1,q1⟩=>hc pins s1 σ H1 vs us Q I1 r1 q1) he hpl
end
end L2
namespace HT
open PySem PyProof.Rows
section
variable{prog:Program}{w:World}{A:Around}{E:Value->Shared->Prop}{s:Shared}
theorem XN{t b:Addr}{vs ws:List Value}{Q:Value->Shared->Prop}(ht:IsTup s.heap t vs.toArray)(hb:IsTup s.heap b ws.toArray)(hv:vs≠[])
  (h1:ws=[]->Q (.ref t) s) (h2:ws≠[]->Q (.ref s.heap.objs.size) { s with heap:=s.heap.push { cls:=.type "tuple",data:=.seq (vs++ws).toArray } })
  (hsz:vs.length+ws.length<=sizeLine):wpAny (model prog w) A (binaryOp .Add (.ref t) (.ref b)) Q E s:=by
 obtain⟨⟨cls,dd,data,sl⟩,ho,hc,n,hd⟩:=id ht;obtain⟨⟨cls2,dd2,data2,sl2⟩,ho2,hc2,n2,hd2⟩:=id hb;simp only at hc hd hc2 hd2;subst hc hd hc2 hd2;have e:vs.toArray++ws.toArray=(vs++ws).toArray:=by simp
 by_cases hw:ws=[]
 ·exact concat_meets ⟨_,ho,rfl⟩ ⟨_,ho2,rfl⟩ noFill_tuple_add seq_tuple_add PySem.F.slot_tuple_add PySem.F.entry_tuple_add (PySem.F.args_tuple_add_2 _ _)
   (tuple_addW1 t b vs.toArray ws.toArray n n2 dd dd2 sl sl2 (by simpa using hv) (by simp[hw])) ⟨ho,ho2,h1 hw⟩
 ·refine concat_meets ⟨_,ho,rfl⟩ ⟨_,ho2,rfl⟩ noFill_tuple_add seq_tuple_add PySem.F.slot_tuple_add PySem.F.entry_tuple_add (PySem.F.args_tuple_add_2 _ _)
   (tuple_addW2 t b vs.toArray ws.toArray n n2 dd dd2 sl sl2 (by simpa using hv) (by simpa using hw) (by rw[Qq3,Qq3];exact hsz)) ⟨ho,ho2,?_⟩
  rw[e];exact h2 hw
def jW(n d:Nat):Option Int->Nat
 | none=>d
 | some v=>if v<0 then (v+(n:Int)).toNat else min v.toNat n
theorem Z5(n d:Nat)(hd:d<=n)(o:Option Int):jW n d o<=n:=by
 cases o with
 | none=>exact hd
 | some v=>
  show(if v<0 then (v+(n:Int)).toNat else min v.toNat n)<=n;by_cases hv:v<0
  ·rw[if_pos hv];omega
  ·rw[if_neg hv];exact Nat.min_le_right _ _
theorem Nk(v:Int)(n d:Nat):(if v<0 then max (v+(n:Int)) 0 else min v (n:Int))=((jW n d (some v):Nat):Int):=by
 show(if v<0 then max (v+(n:Int)) 0 else min v (n:Int))=(((if v<0 then (v+(n:Int)).toNat else min v.toNat n):Nat):Int);by_cases hv:v<0
 ·simp only[if_pos hv];omega
 ·simp only[if_neg hv];omega
theorem Lf(lo hi:Option Int)(n:Nat):Builtin.Slice.sliceAdjust lo hi 1 (n:Int)=(((jW n 0 lo:Nat):Int),((jW n n hi:Nat):Int)):=by
 have h1:¬((1:Int)<0):=by omega
 unfold Builtin.Slice.sliceAdjust;simp only[h1,if_false];refine Prod.ext ?_ ?_
 ·cases lo with
  | none=>rfl
  | some v=>exact Nk v n 0
 ·cases hi with
  | none=>rfl
  | some v=>exact Nk v n n
theorem Km(i j:Nat):Builtin.Slice.slicePlaces (i:Int) (j:Int) 1=j - i:=by
 unfold Builtin.Slice.slicePlaces;have h1:(1:Int) > 0:=by omega
 simp only[h1,if_true,Int.ediv_one];split<;>omega
theorem za{v:Value}{o:Option Int}{Q:Option Int->Shared->Prop}(p:IsPart v o)(h:Q o s):wpAny (model prog w) A (Builtin.Slice.slicePartIndex v) Q E s:=by
 cases p with
 | none=>exact slicePart_none h
 | int i t=>exact slicePart_int h
theorem vX{sl:Addr}{vl vu:Value}{lo hi:Option Int}{n:Nat}{Q:Int×Int×Nat->Shared->Prop}(hs:s.heap.IsSliceOf sl vl vu .none)(pl:IsPart vl lo)(pu:IsPart vu hi)
  (h:Q (((jW n 0 lo:Nat):Int),1,jW n n hi - jW n 0 lo) s):wpAny (model prog w) A (Builtin.Slice.sliceApplied (.ref sl) (pure (n:Int))) Q E s:=by
 obtain⟨os,hos,hcs,hds⟩:=id hs;unfold Builtin.Slice.sliceApplied Builtin.Slice.sliceFields;refine Qqz (Qqz (Qz5 hos hds (x:=vl) rfl (Qqz (Qz5 hos hds (x:=vu) rfl (Qqz (Qz5 hos hds (x:=.none) rfl (Qq5 ?_)))))));refine Qqz (slicePart_none ?_);show wpAny _ _ (if ((1:Int) == 0)=true then _ else _) _ _ s;rw[if_neg (by decide)];refine Qqz (za pl (Qqz (za pu (Qqz (Qq5 ?_)))));show wpAny _ _ (match Builtin.Slice.sliceAdjust lo hi 1 (n:Int) with|(lo,hi)=>pure (lo,(1:Int),Builtin.Slice.slicePlaces lo hi 1)) _ _ s;rw[Lf lo hi n];show wpAny _ _ (pure (((jW n 0 lo:Nat):Int),(1:Int),Builtin.Slice.slicePlaces ((jW n 0 lo:Nat):Int) ((jW n n hi:Nat):Int) 1)) _ _ s;rw[Km];exact Qq5 h
theorem R3(xs:Array Value)(i k:Nat):((List.range k).filterMap λ(m:Nat)=>xs[((i:Int)+(m:Int)*1).toNat]?).toArray=((xs.toList.drop i).take k).toArray:=by
 have e:(λ(m:Nat)=>xs[((i:Int)+(m:Int)*1).toNat]?)=λm=>xs[i+m]?:=by
  funext m
  have:((i:Int)+(m:Int)*1).toNat=i+m:=by omega
  rw[this]
 rw[e];have:=pick_run xs i k;rw[List.filterMap_map] at this;have e2:((λx=>xs[x]?) ∘ λx=>i+x)=λm=>xs[i+m]?:=rfl;rw[e2] at this;rw[this]
theorem uX{t sl:Addr}{items:Array Value}{vl vu:Value}{lo hi:Option Int}{Q:Value->Shared->Prop}(ht:IsTup s.heap t items)(hs:s.heap.IsSliceOf sl vl vu .none)(pl:IsPart vl lo)(pu:IsPart vu hi)
  (hw:¬(jW items.size 0 lo=0/\jW items.size items.size hi=items.size))
  (h:Q (.ref s.heap.objs.size) { s with heap:=s.heap.push { cls:=.type "tuple",data:=.seq ((items.toList.drop (jW items.size 0 lo)).take (jW items.size items.size hi - jW items.size 0 lo)).toArray } })
  (hsz:items.size<=sizeLine):wpAny (model prog w) A (getItem (.ref t) (.ref sl)) Q E s:=by
 have M3:sizeOk (.seq ((items.toList.drop (jW items.size 0 lo)).take (jW items.size items.size hi - jW items.size 0 lo)).toArray):=by show((items.toList.drop (jW items.size 0 lo)).take (jW items.size items.size hi - jW items.size 0 lo)).toArray.size<=sizeLine;rw[Qq3,Qzy,Qkk,Qkz];omega
 have hj:jW items.size items.size hi<=items.size:=Z5 _ _ (Qq1 _) hi;obtain⟨os,hos,hcs,hds⟩:=id hs;have hTs:s.TypeIs (.ref sl) "slice":=⟨os,hos,hcs⟩;unfold getItem
 try with_reducible refine Qjx ?_
 first|refine Qqz (Qq5 ?_)|skip
 refine Qqz (wpAny_sequenceKey ht.typeIs (by decide) ?_);refine Qqz (Qjj (name:=Str.ofString "__getitem__") ht.typeIs PyProof.Rows.slot_tuple_getitem
  (Qz7 PyProof.Rows.slot_tuple_getitem ht.typeIs entry_tuple_getitem ?_ (args_tuple_getitem _ _)))
 show wpAny _ _ (Builtin.Tuple.tupleItemsOf (.ref t) >>= _) _ _ s;refine Qqz (tupleItemsOf_ ht ?_);refine Qqz (wpAny_typeOf hTs ?_);rw[if_pos (by decide)];refine Qqz (vX hs pl pu ?_);have hno:¬((((jW items.size 0 lo:Nat):Int) == 0&&(1:Int) == 1&&(jW items.size items.size hi - jW items.size 0 lo) == items.size)=true):=by intro q;rw[Qzx,Qzx] at q;have q1:((jW items.size 0 lo:Nat):Int)=0:=eq_of_beq q.1.1;have q2:jW items.size items.size hi - jW items.size 0 lo=items.size:=eq_of_beq q.2;exact hw ⟨by omega,by omega⟩
 show wpAny _ _ (if (((jW items.size 0 lo:Nat):Int) == 0&&(1:Int) == 1&&(jW items.size items.size hi - jW items.size 0 lo) == items.size)=true then _ else _) _ _ s;rw[if_neg hno,R3]
 first
  | exact Qqz (m:=Builtin.Tuple.tupleExact _) (Qjw (Qq5 ⟨_,rfl,Qq5 h⟩) M3)
  | exact Qqz (m:=Builtin.Tuple.tupleExact _) (Qjw (Qqz (Qq5 (Qq5 ⟨_,rfl,Qq5 h⟩))) M3)
  | exact Qqz (Qqz (m:=Builtin.Tuple.tupleExact _) (Qjw (Qq5 (Qq5 ⟨_,rfl,Qq5 h⟩)) M3))
  | exact Qqz (Qqz (m:=Builtin.Tuple.tupleExact _) (Qjw (Qq5 ⟨_,rfl,Qq5 h⟩) M3))
end
end HT
namespace L2
open PySem PySem.Spec PyProof.Rows
abbrev TO:=St->Hp->(Option Int->Hp->Prop)->Prop
def PO(X:Cx)(e:Option Expr)(t:TO):Prop:=
 ∀(pins:List (Addr×Obj)) (s:Shared) (σ:St) (H:Hp) (Q:Option Int->Hp->Prop),Inv X pins σ H s->t σ H Q->
  wpAny (model X.prog X.w) X.A (evalPart e X.env) (λu s'=>∃o H',Inv X pins σ H' s'/\IsPart u o/\Q o H') X.xe s
def VB:TO:=λ_ H Q=>Q none H
def acW(t:TE):TO:=λσ H Q=>t σ H λx H1=>∃i,x = .int i/\Q (some i) H1
section
variable{X:Cx}{e:Expr}{te:TE}{lo hi:Option Expr}{tl th:TO}{pos p2:Pos}
theorem Wn:PO X none VB:=by intro pins s σ H Q I h;rw[evalPart_none];exact Qq5 ⟨none,H,I,.none,h⟩
theorem Wm(h:PE X e te):PO X (some e) (acW te):=by intro pins s σ H Q I hw;rw[evalPart_some];refine fK (h pins s σ H _ I hw) λu s1 ⟨x,H1,I1,r1,q1⟩=>?_;obtain⟨i,rfl,q⟩:=q1;obtain⟨t,rfl⟩:=r1;exact⟨some i,H1,I1,.int i t,q⟩
def Zj(X:Cx)(r:V->Option Int->Option Int->Hp->VK->Prop):Prop:=
 ∀(pins:List (Addr×Obj)) (s:Shared) (σ:St) (H:Hp) (x:V) (v vl vu:Value) (lo hi:Option Int) (sl:Addr) (Q:VK),Inv X pins σ H s->RelV x v->s.heap.IsSliceOf sl vl vu .none->IsPart vl lo->IsPart vu hi->r x lo hi H Q->
  ∃T id,typeLookup (.type T) "__getitem__" = pure (some (.builtin id))/\s.TypeIs v T/\wpAny (model X.prog X.w) X.A (getItem v (.ref sl)) (EP X pins σ Q) X.xe s
theorem Zj.or{r r':V->Option Int->Option Int->Hp->VK->Prop}(h:Zj X r)(h':Zj X r'):Zj X (λx lo hi H Q=>r x lo hi H Q\/r' x lo hi H Q):=by
 intro pins s σ H x v vl vu lo hi sl Q I rx hs pl pu q;rcases q with q|q
 ·exact h pins s σ H x v vl vu lo hi sl Q I rx hs pl pu q
 ·exact h' pins s σ H x v vl vu lo hi sl Q I rx hs pl pu q
def tSl(r:V->Option Int->Option Int->Hp->VK->Prop)(te:TE)(tl th:TO):TE:=λσ H Q=>te σ H λx H1=>tl σ H1 λl H2=>th σ H2 λu H3=>r x l u H3 Q
theorem R5{r:V->Option Int->Option Int->Hp->VK->Prop}(hr:Zj X r)(he:PE X e te)(hl:PO X lo tl)(hu:PO X hi th):PE X (.Subscript e (.Slice lo hi none p2) pos) (tSl r te tl th):=by intro pins s σ H Q I h;refine Subscript_ (fK (he pins s σ H _ I h) λv s1 ⟨x,H1,I1,r1,q1⟩=>?_);refine wpAny_Slice (fK (hl pins s1 σ H1 _ I1 q1) λvl s2 ⟨l,H2,I2,pl,q2⟩=>fK (hu pins s2 σ H2 _ I2 q2) λvu s3 ⟨u,H3,I3,pu,q3⟩=>?_);rw[evalPart_none];refine Qq5 ?_;have I4:Inv X pins σ H3 { s3 with heap:=s3.heap.push { cls:=.type "slice",data:=.fields #[vl,vu,.none] } }:=I3.kept (t':=s3.toks) λb ob q=>Qq0 _ q;obtain⟨T,id,hT,ht,hg⟩:=hr pins { s3 with heap:=s3.heap.push { cls:=.type "slice",data:=.fields #[vl,vu,.none] } } σ H3 x v vl vu l u s3.heap.objs.size Q I4 r1 (Heap.IsSliceOf.new ..) pl pu q3;show wpAny (model X.prog X.w) X.A (subscriptTail e (.Slice lo hi none p2) v (.ref s3.heap.objs.size)) (EP X pins σ Q) X.xe { s3 with heap:=s3.heap.push { cls:=.type "slice",data:=.fields #[vl,vu,.none] } };exact tail_any (ops:=[.ref s3.heap.objs.size,v]) ht hT hg (by with_unfolding_all rfl)
def Ar(xs:List V)(lo hi:Option Int):List V:=(xs.drop (HT.jW xs.length 0 lo)).take (HT.jW xs.length xs.length hi - HT.jW xs.length 0 lo)
theorem xK(xs:List V)(lo hi:Option Int):(Ar xs lo hi).length<=xs.length:=by unfold Ar;rw[Qzy,Qkk];omega
def adi(K:PySem.W.Frag):V->Option Int->Option Int->Hp->VK->Prop:=λx lo hi H Q=>∃a xs,x = .ref a/\mD K H a xs/\
 ¬(HT.jW xs.length 0 lo=0/\HT.jW xs.length xs.length hi=xs.length)/\∀p,H p=none->Q (.ref p) (upd H p (.tup (Ar xs lo hi)))
theorem ZZ:Zj X (adi X.K):=by
 intro pins s σ H x v vl vu lo hi sl Q I rx hs pl pu h;obtain⟨a,xs,rfl,hx,hw,q⟩:=h;cases rx;obtain⟨its,r,ht,hz⟩:=I.tuple hx;have hlen:its.toArray.size=xs.length:=by rw[Qq3];exact r.length.symm
 refine⟨"tuple",_,PyProof.Rows.slot_tuple_getitem.lookup,ht.typeIs,?_⟩;refine HT.uX ht hs pl pu (by rw[hlen];exact hw) ?_ (by rw[hlen];exact hz);rw[hlen];refine⟨.ref s.heap.objs.size,_,I.laid (t':=s.toks) (o:=.tup (Ar xs lo hi)) (λb ob q=>Qq0 _ q) (Qq1 _) ?_,rfl,q _ (I.hok.fresh (Qq1 _))⟩;exact⟨Qq2 (xK xs lo hi) hz,_,(r.drop (HT.jW xs.length 0 lo)).take (HT.jW xs.length xs.length hi - HT.jW xs.length 0 lo),BX.new _ _⟩
def Yx(K:PySem.W.Frag):R2:=λx y H Q=>∃a b xs ys,x = .ref a/\y = .ref b/\mD K H a xs/\mD K H b ys/\xs≠[]/\xs.length+ys.length<=sizeLine/\
 (ys=[]->Q (.ref a) H)/\(ys≠[]->∀p,H p=none->Q (.ref p) (upd H p (.tup (xs++ys))))
theorem Vals.Fi{xs:List V}{us:List Value}(r:Vals xs us):us=[]↔xs=[]:=by
 cases r with
 | nil=>simp
 | cons _ _=>simp
theorem WN:mF X (binaryOp .Add) (Yx X.K):=by intro pins s σ H x y v u Q I rx ry h;obtain⟨a,b,xs,ys,rfl,rfl,ha,hb,hx,hz,q1,q2⟩:=h;cases rx;cases ry;obtain⟨its,r1,p1,_⟩:=I.tuple ha;obtain⟨its2,r2,p2,_⟩:=I.tuple hb;refine HT.XN p1 p2 (λz=>hx (r1.Fi.mp z)) (λz=>⟨.ref a,H,I,rfl,q1 (r2.Fi.mp z)⟩) (λz=>?_) (by rw[<-r1.length,<-r2.length];exact hz);refine⟨.ref s.heap.objs.size,_,I.laid (t':=s.toks) (o:=.tup (xs++ys)) (λb ob q=>Qq0 _ q) (Qq1 _) ?_,rfl,q2 (λw=>z (r2.Fi.mpr w)) _ (I.hok.fresh (Qq1 _))⟩;exact⟨by rw[Qqx];exact hz,_,r1.append r2,BX.new _ _⟩
end
def YS(n:Nat)(i:Int):Option Nat:=if 0<=i then (if i<n then some i.toNat else none) else if -(n:Int)<=i then some (i+n).toNat else none
def xj{α:Type}(xs:List α)(i:Int):Option α:=(YS xs.length i).bind λj=>xs[j]?
theorem MP{n:Nat}{i:Int}{j:Nat}(h:YS n i=some j):seqIndex? i n=some j/\j<n/\-(n:Int)<=i/\i<n:=by
 unfold YS at h;by_cases h0:0<=i
 ·rw[if_pos h0] at h;by_cases h1:i<n
  ·rw[if_pos h1] at h;have e:i.toNat=j:=Qw1 h;exact⟨by rw[seqIndex_of h0 h1,e],by omega,by omega,h1⟩
  ·rw[if_neg h1] at h;cases h
 ·rw[if_neg h0] at h;by_cases h1 : -(n:Int)<=i
  ·rw[if_pos h1] at h;have e:(i+n).toNat=j:=Qw1 h;exact⟨by rw[seqIndex_neg (by omega) h1,e],by omega,h1,by omega⟩
  ·rw[if_neg h1] at h;cases h
theorem Gi{α:Type}{xs:List α}{i:Int}{v:α}(h:xj xs i=some v):∃j,seqIndex? i xs.length=some j/\xs[j]? = some v/\j<xs.length/\-(xs.length:Int)<=i/\i<xs.length:=by
 unfold xj at h;cases e:YS xs.length i with
 | none=>rw[e] at h;cases h
 | some j=>
  rw[e] at h;obtain⟨h1,h2,h3,h4⟩:=MP e;exact⟨j,h1,h,h2,h3,h4⟩
theorem lq{α:Type}{xs:List α}{j:Nat}{v:α}(h:xs[j]? = some v):xj xs (j:Int)=some v:=by
 have hj:j<xs.length:=(Qqw.mp h).1;have e:YS xs.length (j:Int)=some j:=by unfold YS;rw[if_pos (by omega),if_pos (by omega)];simp
 unfold xj;rw[e];exact h
def vJ(b:Expr):Prop:=∀o i,subscripted b false o i=operate [o,i] (getItem o i)
def Yk(X:Cx)(r:R2):Prop:=
 ∀(value slice:Expr) (pins:List (Addr×Obj)) (s:Shared) (σ:St) (H:Hp) (x y:V) (v u:Value) (Q:VK),Inv X pins σ H s->RelV x v->RelV y u->r x y H Q->
  subscripted slice false v u=operate [v,u] (getItem v u)->wpAny (model X.prog X.w) X.A (subscriptTail value slice v u) (EP X pins σ Q) X.xe s
def MtR(X:Cx)(id:String)(r:V->List V->Hp->VK->Prop):Prop:=
 ∀(pins:List (Addr×Obj)) (s:Shared) (σ:St) (H:Hp) (x:V) (xs:List V) (v:Value) (us:List Value) (Q:VK),Inv X pins σ H s->RelV x v->Vals xs us->r x xs H Q->
  wpAny (model X.prog X.w) X.A (call (.builtin id) (v::us)) (EP X pins σ Q) X.xe s
section
variable{X:Cx}{a b:Expr}{ta tb:TE}{pos:Pos}
theorem Yk.or{r r':R2}(h:Yk X r)(h':Yk X r'):Yk X (λx y H Q=>r x y H Q\/r' x y H Q):=by
 intro value slice pins s σ H x y v u Q I rx ry q hs;rcases q with q|q
 ·exact h value slice pins s σ H x y v u Q I rx ry q hs
 ·exact h' value slice pins s σ H x y v u Q I rx ry q hs
theorem YF{r:R2}(hr:Yk X r)(ha:PE X a ta)(hb:PE X b tb)(hs:vJ b):PE X (.Subscript a b pos) (Vz r ta tb):=by intro pins s σ H Q I h;exact Subscript_ (ab8 ha hb I h λv u s2 x y H2 I2 rx ry q=>hr a b pins s2 σ H2 x y v u Q I2 rx ry q (hs _ _))
def adt(K:PySem.W.Frag):R2:=λx y H Q=>∃p xs i v,x = .ref p/\y = .int i/\o7 K H p xs/\xj xs i=some v/\Q v H
def adp(K:PySem.W.Frag):R2:=λx y H Q=>∃p xs i v,x = .ref p/\y = .int i/\mD K H p xs/\xj xs i=some v/\Q v H
def adq:R2:=λx y H Q=>∃z i c,x = .str z/\y = .int i/\z.length<=sizeLine/\xj z.cps.toList i=some c/\Q (.str ⟨#[c]⟩) H
theorem Xh:Yk X (adt X.K):=by
 intro value slice pins s σ H x y v u Q I rx ry h hs;obtain⟨p,xs,i,z,rfl,rfl,hq,he,q⟩:=h;cases rx;obtain⟨t,rfl⟩:=ry;obtain⟨its,r,pl,hz⟩:=I.list hq;obtain⟨j,h1,h2,h3,h4,h5⟩:=Gi he;obtain⟨w,ew,Kc⟩:=r.get h2;have hl:=r.length;have hn:=zP;have fin:EP X pins σ Q w s:=⟨z,H,I,Kc,q⟩;by_cases h0:0<=i
 ·have hj:i.toNat=j:=by
   rw[seqIndex_of h0 h5] at h1;exact Qw1 h1
  exact item_listR pl.isList h0 (by omega) (by rw[hj];simpa using ew) fin hs
 ·have hj:(i+(its.toArray.size:Int)).toNat=j:=by
   rw[seqIndex_neg (by omega) h4] at h1;rw[Qq3,<-hl];exact Qw1 h1
  exact subscriptTail_builtinR (x:=w) pl.isList.typeIs slot_list_getitem.lookup
   (wpAny_getItem_list_neg (Q:=λr s'=>r=w/\EP X pins σ Q r s') pl.isList (by omega) (by rw[Qq3]<;>omega) (by omega) (by rw[hj];simpa using ew) ⟨rfl,fin⟩) hs
theorem abx:Yk X (adp X.K):=by
 intro value slice pins s σ H x y v u Q I rx ry h hs;obtain⟨p,xs,i,z,rfl,rfl,hq,he,q⟩:=h;cases rx;obtain⟨t,rfl⟩:=ry;obtain⟨its,r,pl,hz⟩:=I.tuple hq;obtain⟨j,h1,h2,h3,h4,h5⟩:=Gi he;obtain⟨w,ew,Kc⟩:=r.get h2;have hl:=r.length;have hn:=zP;have fin:EP X pins σ Q w s:=⟨z,H,I,Kc,q⟩;exact subscriptTail_builtinR (x:=w) pl.typeIs slot_tuple_getitem.lookup
  (getItem_tuple (j:=j) (Q:=λr s'=>r=w/\EP X pins σ Q r s') pl (by omega) (by omega) (by rw[Qq3,<-hl];exact h1) (by simpa using ew) ⟨rfl,fin⟩) hs
theorem aby:Yk X adq:=by
 intro value slice pins s σ H x y v u Q I rx ry h hs;obtain⟨z,i,c,rfl,rfl,hz,he,q⟩:=h;obtain⟨t,rfl⟩:=rx;obtain⟨t',rfl⟩:=ry;obtain⟨j,h1,h2,h3,h4,h5⟩:=Gi he;have hl:z.cps.toList.length=z.length:=by simp[Str.length]
 rw[hl] at h1 h4 h5;have hn:=zP;exact tail_any (typeIs_str s z t) slot_str_getitem.lookup (getItem_str (c:=c) (by
  have e1:decide (i < -(2^63:Int))=false:=Qwj (by omega);have e2:decide (i ≥ 2^63)=false:=Qwj (by omega);rw[e1,e2,Bool.or_false]) (by rw[h1];simpa using h2) ⟨.str ⟨#[c]⟩,H,I.tok _,⟨_,rfl⟩,q⟩) hs
def rIx(K:PySem.W.Frag):R2:=λx y H Q=>adt K x y H Q\/adp K x y H Q\/adq x y H Q
theorem TF:Yk X (rIx X.K):=Xh.or (abx.or aby)
theorem Ku(its:List Value)(n j:Nat)(u:Value):Obj.mapSeq (·.setIfInBounds j u) { cls:=.type "list",data:=.seq its.toArray n } = { cls:=.type "list",data:=.seq (its.set j u).toArray n }:=by simp[Obj.mapSeq]
theorem Inv.lst{pins:List (Addr×Obj)}{σ:St}{H:Hp}{s:Shared}{p:Addr}{xs:List V}(I:Inv X pins σ H s)(h:H p=some (.lst xs)) :
  ∃(its:List Value) (n:Nat),Vals xs its/\s.heap.get? p=some { cls:=.type "list",data:=.seq its.toArray n }/\xs.length<=sizeLine:=by
 obtain⟨z,its,n,r,e⟩:=I.hok p _ h;exact⟨its,n,r,e,z⟩
theorem Inv.abn{pins:List (Addr×Obj)}{σ:St}{H:Hp}{s:Shared}{p:Addr}{xs ys:List V}{its its':List Value}{n n':Nat}{f:Obj->Obj}(I:Inv X pins σ H s)(h:H p=some (.lst xs))
  (ho:s.heap.get? p=some { cls:=.type "list",data:=.seq its.toArray n }) (hf:f { cls:=.type "list",data:=.seq its.toArray n } = { cls:=.type "list",data:=.seq its'.toArray n' }) (r:Vals ys its') (hz:ys.length<=sizeLine) (t:Nat) :
  Inv X pins σ (upd H p (.lst ys)) { s with heap:=s.heap.update p f,toks:=t }:=by
 have e:(s.heap.update p f).get? p=some { cls:=.type "list",data:=.seq its'.toArray n' }:=by rw[Heap.get?_update_self f ho (by rw[hf]<;>rfl),hf]
 refine I.write (x:=p) (e:=p) (by rw[h];trivial) (.inl rfl) (λb u hb q=>(Heap.get?_update_other _ _ (Ne.symm hb)).trans q) ⟨_,e⟩ ?_;exact⟨hz,its',n',r,e⟩
def adl:V->V->V->Hp->(Hp->Prop)->Prop:=λo i v H Q=>∃p xs k j,o = .ref p/\i = .int k/\H p=some (.lst xs)/\YS xs.length k=some j/\Q (upd H p (.lst (xs.set j v)))
theorem set_list:aeP X adl:=by
 intro pins s σ H o i v ov iv u Q I ro ri rv h;obtain⟨p,xs,k,j,rfl,rfl,hp,hj,q⟩:=h;cases ro;obtain⟨t,rfl⟩:=ri;obtain⟨its,n,r,ho,hz⟩:=I.lst hp;obtain⟨h1,h2,h3,h4⟩:=MP hj;have hl:=r.length;have hn:=zP;have I':Inv X pins σ (upd H p (.lst (xs.set j v))) { s with heap:=s.heap.update p (Obj.mapSeq (·.setIfInBounds j u)) }:=
  I.abn hp ho (Ku its n j u) (r.set rv j) (by rw[Qx0];exact hz) s.toks
 by_cases h0:0<=k
 ·have hk:k.toNat=j:=by
   rw[seqIndex_of h0 h4] at h1;exact Qw1 h1
  exact PySem.W.ki_setAt ho h0 (by omega) (by rw[Qq3,<-hl];exact h4) (by rw[hk];exact⟨_,I',q⟩)
 ·have hk:(k+(its.toArray.size:Int)).toNat=j:=by
   rw[seqIndex_neg (by omega) h3] at h1;rw[Qq3,<-hl];exact Qw1 h1
  exact PySem.W.ki_setBack ho (by omega) (by rw[Qq3,<-hl];exact h3) (by omega) (by rw[hk];exact⟨_,I',q⟩)
theorem Eb(lo hi:Option Int)(n:Nat):(sliceBounds lo hi none n).1=((HT.jW n 0 lo:Nat):Int)/\(sliceBounds lo hi none n).2.1=((HT.jW n n hi:Nat):Int)/\(sliceBounds lo hi none n).2.2=1:=by
 refine⟨?_,?_,rfl⟩
 ·cases lo with
  | none=>simp[sliceBounds,HT.jW]
  | some i=>
   simp only[sliceBounds,HT.jW,Option.getD_none,show(1:Int) > 0 by decide,if_true];by_cases h:i<0
   ·simp only[h,if_true]<;>omega
   ·simp only[h,if_false]<;>omega
 ·cases hi with
  | none=>simp[sliceBounds,HT.jW]
  | some i=>
   simp only[sliceBounds,HT.jW,Option.getD_none,show(1:Int) > 0 by decide,if_true];by_cases h:i<0
   ·simp only[h,if_true]<;>omega
   ·simp only[h,if_false]<;>omega
theorem Bq(its:List Value)(lo hi:Option Int):slicePick its.toArray lo hi none=((its.drop (HT.jW its.length 0 lo)).take (HT.jW its.length its.length hi - HT.jW its.length 0 lo)).toArray:=by obtain⟨h1,h2,h3⟩:=Eb lo hi its.toArray.size;unfold slicePick;rw[h1,h2,h3];simp only[sliceRange_one,pick_run,Qq3]<;>rfl
def adk(K:PySem.W.Frag):V->Option Int->Option Int->Hp->VK->Prop:=λx lo hi H Q=>∃a xs,x = .ref a/\o7 K H a xs/\∀p,H p=none->Q (.ref p) (upd H p (.lst (Ar xs lo hi)))
theorem VH:Zj X (adk X.K):=by intro pins s σ H x v vl vu lo hi sl Q I rx hs pl pu h;obtain⟨a,xs,rfl,hx,q⟩:=h;cases rx;obtain⟨its,r,ht,hz⟩:=I.list hx;have hlen:=r.length;refine⟨"list",_,slot_list_getitem.lookup,ht.isList.typeIs,?_⟩;refine wpAny_getItem_list_slice ht.isList hs pl pu .none (by simp) ?_ (by rw[Qq3]<;>omega);rw[Bq,<-hlen];refine⟨.ref s.heap.objs.size,_,I.laid (t':=s.toks) (o:=.lst (Ar xs lo hi)) (λb ob q=>Qq0 _ q) (Qq1 _) ?_,rfl,q _ (I.hok.fresh (Qq1 _))⟩;exact⟨Qq2 (xK xs lo hi) hz,_,0,(r.drop (HT.jW xs.length 0 lo)).take (HT.jW xs.length xs.length hi - HT.jW xs.length 0 lo),Qww _ rfl⟩
theorem j5.or{f:Value}{r r':List V->Hp->VK->Prop}(h:j5 X f r)(h':j5 X f r'):j5 X f (λxs H Q=>r xs H Q\/r' xs H Q):=by
 intro pins s σ H xs us Q I rs q;rcases q with q|q
 ·exact h pins s σ H xs us Q I rs q
 ·exact h' pins s σ H xs us Q I rs q
theorem Ge:j5 X (.type "list") (λxs H Q=>∃p ys,xs=[.ref p]/\(o7 X.K H p ys\/mD X.K H p ys)/\∀l,H l=none->Q (.ref l) (upd H l (.lst ys))):=by
 intro pins s σ H xs us Q I r h;obtain⟨p,ys,rfl,hq,q⟩:=h;obtain⟨u,rfl,rx⟩:=vals1 r;cases rx;have fin:∀(its:List Value),Vals ys its->ys.length<=sizeLine->∀(h':Heap) (c':Nat),(∀b o',s.heap.get? b=some o'->h'.get? b=some o')->
   h'.get? s.heap.objs.size=some { cls:=.type "list",dict:=none,data:=.seq its.toArray c',slots:=#[] }->EP X pins σ Q (.ref s.heap.objs.size) { s with heap:=h' }:=λits r' hz h' c' kp e=>
  ⟨.ref s.heap.objs.size,_,I.laid (t':=s.toks) kp (Qq1 _) (show gr X.prog X.w _ h' _ (.lst ys) from⟨hz,its,c',r',e⟩),rfl,q _ (I.hok.fresh (Qq1 _))⟩
 rcases hq with hq|hq
 ·obtain⟨its,r',pl,hz⟩:=I.list hq;have hlen:=r'.length;obtain⟨o,ho,hc,n,hd⟩:=pl.isList;exact call_list_seq p (.inl rfl) ho hc hd (λh' c' kp e=>fin its r' hz h' c' kp e) (by simp only[Qq3]<;>omega)
 ·obtain⟨its,r',pl,hz⟩:=I.tuple hq;have hlen:=r'.length;obtain⟨o,ho,hc,n,hd⟩:=pl;exact call_list_seq p (.inr rfl) ho hc hd (λh' c' kp e=>fin its r' hz h' c' kp e) (by simp only[Qq3]<;>omega)
theorem BW:j5 X (.type "tuple") (λxs H Q=>∃p ys,xs=[.ref p]/\((o7 X.K H p ys/\∀l,H l=none->Q (.ref l) (upd H l (.tup ys)))\/(mD X.K H p ys/\Q (.ref p) H))):=by
 intro pins s σ H xs us Q I r h;obtain⟨p,ys,rfl,h⟩:=h;obtain⟨u,rfl,rx⟩:=vals1 r;cases rx;rcases h with ⟨hq,q⟩|⟨hq,q⟩
 ·obtain⟨its,r',pl,hz⟩:=I.list hq;have hlen:=r'.length;refine call_tuple_list pl.isList (λh' kp=>?_) (by simp only[Qq3]<;>omega);have I1:Inv X pins σ H { s with heap:=h' }:=I.kept (t':=s.toks) kp;have I2:Inv X pins σ (upd H h'.objs.size (.tup ys)) { s with heap:=h'.push { cls:=.type "tuple",data:=.seq its.toArray } }:=
   I1.laid (t':=s.toks) (λb o e=>Qq0 _ e) (Qq1 _) (show gr X.prog X.w _ _ _ (.tup ys) from⟨hz,its,r',BX.new _ _⟩)
  exact⟨.ref h'.objs.size,_,I2,rfl,q _ (I1.hok.fresh (Qq1 _))⟩
 ·obtain⟨its,r',pl,hz⟩:=I.tuple hq;exact call_tuple_same pl ⟨.ref p,H,I,rfl,q⟩
def tyV(K:PySem.W.Frag)(T:String)(x:V)(H:Hp):Prop:=match x with
 | .str _=>T = "str"
 | .int _=>T = "int"
 | .ref p=>(T = "list"/\∃xs,o7 K H p xs)\/(T = "tuple"/\∃o,K.lookup p=some o/\o.cls = .type "tuple"/\o.dict=none)\/
   (T = "dict"/\((∃kvs,H p=some (.dK kvs))\/∃kvs,H p=some (.dT kvs)))\/(T = "set"/\∃S n,H p=some (.set S n))
 | _=>False
theorem ZG{pins:List (Addr×Obj)}{σ:St}{H:Hp}{s:Shared}{T:String}{x:V}{v:Value}(I:Inv X pins σ H s)(r:RelV x v)(ty:tyV X.K T x H) :
  s.TypeIs v T/\∀a,v = .ref a->∃ob,s.heap.get? a=some ob/\ob.dict=none:=by
 cases x with
 | str z=>
  obtain⟨t,rfl⟩:=r;cases(show T = "str" from ty);exact⟨typeIs_str s z t,λ_ e=>nomatch e⟩
 | int i=>
  obtain⟨t,rfl⟩:=r;cases(show T = "int" from ty);exact⟨typeIs_int s i t,λ_ e=>nomatch e⟩
 | ref p=>
  cases r;rcases ty with ⟨rfl,xs,hq⟩|⟨rfl,o,hk,hc,hd⟩|⟨rfl,hk⟩|⟨rfl,S,n,hk⟩
  ·obtain⟨its,_,pl,_⟩:=I.list hq;refine⟨pl.isList.typeIs,λa e=>?_⟩;cases e;obtain⟨o,n,e,c,hd,_⟩:=pl;exact⟨o,e,hd⟩
  ·refine⟨⟨o,I.Px p o hk,hc⟩,λa e=>?_⟩;cases e;exact⟨o,I.Px _ o hk,hd⟩
  ·have z:∃o,s.heap.get? p=some o/\o.ExactDict:=by
    rcases hk with ⟨kvs,hk⟩|⟨kvs,hk⟩
    ·obtain⟨_,_,_,_,o,_,_,e,ex,_⟩:=I.hok p _ hk;exact⟨o,e,ex⟩
    ·obtain⟨_,_,_,_,o,_,_,e,ex,_⟩:=I.hok p _ hk;exact⟨o,e,ex⟩
   obtain⟨o,e,ex⟩:=z;refine⟨⟨o,e,ex.1⟩,λa e2=>?_⟩;cases e2;exact⟨o,e,ex.2.1⟩
  ·obtain⟨o,_,_,_,e,ex,_⟩:=I.hok p _ hk;refine⟨⟨o,e,ex.1⟩,λa e2=>?_⟩;cases e2;exact⟨o,e,ex.2.1⟩
 | _=>exact False.elim ty
def tBM(K:PySem.W.Frag)(T:String)(r:V->List V->Hp->VK->Prop)(to:TE)(t:TA):TE:=λσ H Q=>to σ H λx H1=>tyV K T x H1/\t σ H1 λxs H2=>r x xs H2 Q
variable{o e:Expr}{es:List Expr}{to:TE}{t:TA}{name:Str}{apos cpos:Pos}{T id:String}{r:V->List V->Hp->VK->Prop}
theorem Sq(pa:PlainAttrs T)(slot:Slot T name id)(hty:typeOf (.builtin id)=pure (.type "method_descriptor"))(hm:MtR X id r)(ho:PE X o to)(ha:PA X (e::es) t)
  (hbase:attributeBase o name X.env (eval o X.env)=eval o X.env:=by rfl)
  (hfew:((backTo cpos (starEach (e::es) X.env)).all (λx=>!x.1)&&(backToKw cpos (keywordEach [] X.env)).all (λx=>x.1.isSome)
   && decide ((e::es).length+([]:List Keyword).length+(if ([]:List Keyword).isEmpty then 0 else 1)<30))=true:=by rfl)
  (hline:(apos.endLine == cpos.line)=true:=by rfl) (hs:starEach (e::es) X.env=(false,eval e X.env)::starEach es X.env:=by rfl) (hplain:(backTo cpos (starEach es X.env)).any (·.1)=false:=by rfl) :
  PE X (.Call (.Attribute o name apos) (e::es) [] cpos) (tBM X.K T r to t):=by
 intro pins s σ H Q I h;refine wpAny_Call_method_late hbase hfew hline rfl (fK (ho pins s σ H _ I h) λv s1 ⟨x,H1,I1,r1,ty,q1⟩=>?_);obtain⟨h1,h2⟩:=ZG I1 r1 ty;refine⟨T,id,pa,slot,hty,h1,h2,?_⟩;have hA:=ha cpos pins s1 σ H1 _ I1 q1;rw[hs] at hA ⊢;refine Calls.callWith_builtin (by show(false||(backTo cpos (starEach es X.env)).any (·.1))=false;rw[hplain]<;>rfl) (Calls.evalArgs_plain ?_);exact fK hA λus s2 ⟨vs,H2,I2,r2,q2⟩=>hm pins s2 σ H2 x vs v us Q I2 r1 r2 q2
end
def MtM(X:Cx)(id:String)(r:V->List V->Hp->VK->Prop):Prop:=
 ∀(pins:List (Addr×Obj)) (s:Shared) (σ:St) (H:Hp) (x:V) (xs:List V) (v:Value) (us:List Value) (Q:VK),Inv X pins σ H s->RelV x v->Vals xs us->r x xs H Q->
  wpAny (model X.prog X.w) X.A (call (.builtin id) (v::us)) (EP X pins σ Q) X.xe s
theorem Vals.one:∀{x:V} {us:List Value},Vals [x] us->∃u,us=[u]/\RelV x u
 | _,_,.cons r .nil=>⟨_,rfl,r⟩
theorem Vals.two:∀{x y:V} {us:List Value},Vals [x,y] us->∃u v,us=[u,v]/\RelV x u/\RelV y v
 | _,_,_,.cons r (.cons q .nil)=>⟨_,_,rfl,r,q⟩
section
variable{X:Cx}{pins:List (Addr×Obj)}{σ:St}{H:Hp}{s:Shared}{l b:Addr}{xs ys zs:List V}
theorem Inv.ad7{its its':List Value}{n:Nat}{f:Array Value->Array Value}{t':Nat}(I:Inv X pins σ H s)(hH:H l=some (.lst xs))
  (e:s.heap.get? l=some { cls:=.type "list",data:=.seq its.toArray n }) (hf:f its.toArray=its'.toArray) (hv:Vals ys its') (hz:ys.length<=sizeLine) :
  Inv X pins σ (upd H l (.lst ys)) { s with heap:=s.heap.update l (Obj.mapSeq f),toks:=t' }:=by
 have q:=PySem.IsL.update e f;rw[hf] at q;refine I.write (x:=l) (e:=l) (by rw[hH];exact trivial) (.inl rfl) (λb' u hb hu=>(Heap.get?_update_other s.heap (Obj.mapSeq f) (Ne.symm hb)).trans hu) ⟨_,q⟩ ?_;exact⟨hz,its',_,hv,q⟩
theorem Inv.ad8{its:List Value}{t':Nat}(I:Inv X pins σ H s)(hv:Vals ys its)(hz:ys.length<=sizeLine) :
  Inv X pins σ (upd H s.heap.objs.size (.lst ys)) { s with heap:=s.heap.push { cls:=.type "list",data:=.seq its.toArray },toks:=t' }:=
 I.laid (λ_ _ q=>Qq0 _ q) (Qq1 _) ⟨hz,its,0,hv,Qww _ rfl⟩
theorem Inv.fresh(I:Inv X pins σ H s):H s.heap.objs.size=none:=I.hok.fresh (Qq1 _)
theorem Inv.Tf(I:Inv X pins σ H s)(hH:H l=some (.lst xs)):xs.length<=sizeLine/\∃(its:List Value) (n:Nat),Vals xs its/\xs.length=its.length/\s.heap.get? l=some { cls:=.type "list",data:=.seq its.toArray n }:=by obtain⟨z,its,n,r,e⟩:=I.hok l _ hH;exact⟨z,its,n,r,r.length,e⟩
theorem SM{n:Nat}(h:n<=sizeLine):Builtin.List.listTooLong n=false:=by unfold Builtin.List.listTooLong;exact Qwj (by omega)
end
section
variable{X:Cx}{prog:Program}{w:World}{A:Around}{E:Value->Shared->Prop}{s:Shared}
def V6:V->List V->Hp->VK->Prop:=λx vs H Q=>∃l xs y,x = .ref l/\vs=[y]/\H l=some (.lst xs)/\xs.length<sizeLine/\Q .non (upd H l (.lst (xs++[y])))
theorem Dc:MtM X "list.append" V6:=by intro pins s σ H x vs v us Q I rx rv h;obtain⟨l,xs,y,rfl,rfl,hH,hz,q⟩:=h;cases rx;obtain⟨u,rfl,ru⟩:=rv.one;obtain⟨z,its,n,r,hl,e⟩:=I.Tf hH;refine call_meets F.slot_list_append ⟨_,e,rfl⟩ F.entry_list_append (F.args_list_append_2 _ _) (PySem.list_append l its.toArray n u (by rw[Qq3];omega)) ⟨e,?_⟩;refine⟨.non,_,I.ad7 (its':=its++[u]) hH e (by simp) (r.append (.cons ru .nil)) ?_,rfl,q⟩;rw[Qqx,Qq6];omega
def V5:V->List V->Hp->VK->Prop:=λx vs H Q=>∃l b xs zs,x = .ref l/\vs=[.ref b]/\H l=some (.lst xs)/\H b=some (.lst zs)/\xs.length+zs.length<=sizeLine/\Q .non (upd H l (.lst (xs++zs)))
theorem Ph:MtM X "list.extend" V5:=by
 intro pins s σ H x vs v us Q I rx rv h;obtain⟨l,b,xs,zs,rfl,rfl,hH,hB,hz,q⟩:=h;cases rx;obtain⟨u,rfl,ru⟩:=rv.one;cases ru;obtain⟨z,its,n,r,hl,e⟩:=I.Tf hH;obtain⟨z2,its2,n2,r2,hl2,e2⟩:=I.Tf hB;have hsz:its.toArray.size+its2.toArray.size<=sizeLine:=by rw[Qq3,Qq3];omega
 have ael:¬(!its.toArray.isEmpty&&Builtin.List.listTooLong (its.toArray.size+its2.toArray.size))=true:=by rw[SM hsz,Bool.and_false];exact Qw6
 refine call_meets F.slot_list_extend ⟨_,e,rfl⟩ F.entry_list_extend (F.args_list_extend_2 _ _)
  (AutoSeq1.list_extend_list_list_0 l its.toArray n b its2.toArray n2 ael (by rw[Qq3];omega) (by omega)) ⟨e,e2,?_⟩
 refine⟨.non,_,I.ad7 (its':=its++its2) hH e (by simp) (r.append r2) ?_,rfl,q⟩;rw[Qqx];omega
def adx:R2:=λx y H Q=>∃l b xs zs,x = .ref l/\y = .ref b/\H l=some (.lst xs)/\H b=some (.lst zs)/\xs.length+zs.length<=sizeLine/\∀p,H p=none->Q (.ref p) (upd H p (.lst (xs++zs)))
theorem aaS:mF X (binaryOp .Add) adx:=by
 intro pins s σ H x y v u Q I rx ry h;obtain⟨l,b,xs,zs,rfl,rfl,hH,hB,hz,q⟩:=h;cases rx;cases ry;obtain⟨z,its,n,r,hl,e⟩:=I.Tf hH;obtain⟨z2,its2,n2,r2,hl2,e2⟩:=I.Tf hB;refine PySem.P.add_list e e2 ?_ (by rw[Qq3,Qq3];omega);have ea:its.toArray++its2.toArray=(its++its2).toArray:=by simp
 rw[ea];exact⟨.ref _,_,I.ad8 (t':=s.toks) (r.append r2) (by rw[Qqx];omega),rfl,q _ I.fresh⟩
set_option maxRecDepth 100000 in
end
end L2
namespace Att
open PySem PySem.W PySem.Calls PyProof.Rows
theorem yq{P:Params}{h:Heap}:∀(ns:List Int) (vs:List Value),WellAll P h vs (ns.map WData.int)->IntsAre vs ns:=by
 intro ns
 induction ns with
 | nil=>
  intro vs w;rw[List.map_nil] at w;cases w;exact .nil
 | cons n ns ih=>
  intro vs w;rw[Qq8] at w;cases w with
  | cons a b=>
   cases a;exact .cons _ _ (ih _ b)
theorem Oi{l:OpenLaw}{n:Nat}(hn:l.most=some n){P:Params}{h:Heap}{args:List WData}{vals:List Value}
  (hpre:l.row.toRowW.claim.pre args=true) (hwl:WellAll P h vals args) :
  ∃a vs ns,vals=[Value.ref a]/\args=[WData.list (ns.map WData.int)]/\h.get? a=some { cls:=.type "list",data:=.seq vs.toArray }/\IntsAre vs ns/\ns.length<=n:=by
 have hsh:WShape.hasAll [] args [.list .int]=true:=(pre_splitW hpre).1;have hc:l.pre.holds [] { args:=args }=true:=(pre_splitW hpre).2;obtain⟨d,r,rfl,h1,h2⟩:=hasAllW_cons hsh;obtain rfl:=hasAllW_nil h2;obtain⟨xs,rfl,h3⟩:=hasW_list h1;obtain⟨ns,rfl⟩:=items_int h3;have hlen:ns.length<=n:=by
  unfold OpenLaw.pre at hc;have h4:(WTm.not (.lt (.lit (.int (n:Int))) (.len (.arg 0)))).holds [] { args:=[.list (ns.map .int)] }=true:=by have h4:=(holds_andW hc).1;rw[hn] at h4;exact h4
  have h5:=condW_of h4 (w_not (w_lt w_lit (w_len_list (w_arg rfl))));rw[Qqv] at h5;refine Nat.le_of_not_lt λq=>?_;have q':(n:Int)<((ns.length:Nat):Int):=by omega
  first
   | (rw[Qw4 q'] at h5;exact absurd h5 (by decide))
   | (simp at h5;omega)
 cases hwl with
 | cons w1 w2=>
  cases w2;cases w1 with
  | list ho hall=>exact⟨_,_,ns,rfl,rfl,ho,yq ns _ hall,hlen⟩
theorem Ox(l:OpenLaw)(args:List WData):l.row.toRowW.claim.post args (.bool true) args=true:=
 postW_of (r:=l.row.toRowW) (X:=(true == true))
  (show WShape.has [] (.bool true) .bool=true by first|rfl|decide|simp[WShape.has,WShape.arms,WShape.armsAll])
  (show(WTm.eq .res (.lit (.bool true))).value [] { args:=args,res:=some (.bool true),after:=args }=some (.bool (true == true)) from w_eq_bool (w_res rfl) w_lit) rfl
end Att
namespace L2
open PySem PySem.Spec PyProof.Rows
theorem Cj:∀{vs:List Value} {ns:List Int},IntsAre vs ns->Vals (ns.map V.int) vs
 | _,_,.nil=>.nil
 | _,_,.cons n t h=>.cons ⟨t,rfl⟩ (Cj h)
def f9(s:Stmt):Arguments:=match s with
 | .FunctionDef _ a _ _ _ _ _ _ _ _=>a
 | _=>{ posonlyargs:=[],args:=[],vararg:=none,kwonlyargs:=[],kw_defaults:=[],kwarg:=none,defaults:=[] }
def cI(s:Stmt):List Stmt:=match s with
 | .FunctionDef _ _ b _ _ _ _ _ _ _=>b
 | _=>[]
def aK(s:Stmt):Scope:=match s with
 | .FunctionDef _ _ _ _ _ _ sc _ _ _=>sc
 | _=>{ kind:=.function,names:=[],isGenerator:=false,isCoroutine:=false }
abbrev yc:Qv:=λ_ _ _ _ _ _=>False
abbrev E0:XK:=λ_ _ _=>False
theorem Mu{X:Cx}:Passes yc X E0:=λ_ _ _ _ _ _ _ h=>h.elim
structure Qp(K:PySem.W.Frag)(x qual:Str)(st:Stmt)(f:Addr)(fd:FuncData):Prop where
 ex:∃(oc:Value) (od:Option Addr) (kV doc pm:Value) (an:Option Addr) (cdv ct:Value) (osl:Array (Option Value)),
  fd=PySem.W.fnOf x qual (f9 st) (cI st) (aK st) .none kV doc pm an cdv ct/\K.lookup f=some ⟨oc,od,.func fd,osl⟩/\PySem.W.codeIn K cdv qual=true
 kp:PySem.W.keepIn K (.ref f)=true
section
variable{P:Program}{w:World}{K:PySem.W.Frag}{mg:Str->Option Value}{base:Heap}
theorem Qp.ok{x qual:Str}{st:Stmt}{f:Addr}{fd:FuncData}{N ps:List Str}{k:Nat}{sp:Sp}(F:Qp K x qual st f fd)(S:bF N ps (aK st))(len:∀vs H Q E,sp vs H Q E->vs.length=ps.length)
  (hbody:∀(cdv:Value) (A:Around) (outer:List Env) (s:Shared) (H:Hp) (vs:List V) (Q:VK) (E:XK),gm k (A.deeper (envOfC qual (aK st) s.heap.objs.size f cdv))->sp vs H Q E->
   ∃t,Gq (Jb yc P w K mg base N qual (aK st) f cdv A outer s H E).WX (cI st) t/\t { nx:=λ_ H'=>Q .non H',rt:=Q } (start N vs) H):lX P w K mg base yc (k+1) f fd ps sp:=by
 obtain⟨oc,od,kV,doc,pm,an,cdv,ct,osl,rfl,lk,hcd⟩:=F.ex;refine Y0 lk hcd S len λA outer s H vs Q E hr hsp=>?_;obtain⟨t,h,q⟩:=hbody cdv A outer s H vs Q E hr hsp;exact⟨t,h.WX,q⟩
theorem Qp.binds{x qual:Str}{st:Stmt}{f:Addr}{fd:FuncData}{ps:List Str}(F:Qp K x qual st f fd)
  (h:∀(kV doc pm:Value) (an:Option Addr) (cdv ct:Value) (us:List Value),us.length=ps.length->bindArgs (PySem.W.fnOf x qual (f9 st) (cI st) (aK st) .none kV doc pm an cdv ct) ⟨us,[]⟩=pure (ps.zip us)):Binds K fd ps []:=by
 obtain⟨oc,od,kV,doc,pm,an,cdv,ct,osl,rfl,lk,hcd⟩:=F.ex;exact .all (h kV doc pm an cdv ct)
theorem Ab{x qual:Str}{st:Stmt}{f:Addr}{oc:Value}{od an:Option Addr}{osl:Array (Option Value)}{kV doc pm cdv ct:Value}(l:K.lookup f=some ⟨oc,od,.func (PySem.W.fnOf x qual (f9 st) (cI st) (aK st) .none kV doc pm an cdv ct),osl⟩)
  (c:PySem.W.codeIn K cdv qual=true) (k:PySem.W.keepIn K (.ref f)=true):Qp K x qual st f (PySem.W.fnOf x qual (f9 st) (cI st) (aK st) .none kV doc pm an cdv ct):=⟨⟨oc,od,kV,doc,pm,an,cdv,ct,osl,rfl,l,c⟩,k⟩
end
theorem aed{A B:Prop}(h:B):if false=true then A else B:=by rw[if_neg Qw6];exact h
theorem aec{A B:Prop}(h:A):if true=true then A else B:=by rw[if_pos rfl];exact h
def aO(H H':Hp):Prop:=∀b o,H b=some o->H' b=some o
theorem aO.refl(H:Hp):aO H H:=λ_ _ h=>h
theorem aO.trans{H H1 H2:Hp}(a:aO H H1)(b:aO H1 H2):aO H H2:=λc o h=>b c o (a c o h)
theorem aO.free{H H':Hp}(e:aO H H'){l:Addr}(h:H' l=Option.none):H l=Option.none:=by
 cases q:H l with
 | none=>rfl
 | some o=>
  rw[e l o q] at h;cases h
theorem aO.seq{K:PySem.W.Frag}{H H':Hp}{a:Addr}{xs:List V}(e:aO H H')(h:o7 K H a xs):o7 K H' a xs:=by
 rcases h with (h|⟨o,h⟩)|h
 ·exact .inl (.inl (e _ _ h))
 ·exact .inl (.inr ⟨o,e _ _ h⟩)
 ·exact .inr h
section
variable{κ:Type}[DecidableEq κ]
def sY(kvs:List (κ×V))(k:κ):Option V:=(kvs.find? λkv=>decide (kv.1=k)).map (·.2)
def putK(kvs:List (κ×V))(k:κ)(v:V):List (κ×V):=
 if (kvs.any λkv=>decide (kv.1=k))=true then kvs.map (λkv=>if kv.1=k then (kv.1,v) else kv) else kvs++[(k,v)]
theorem uw{p:κ×V}{r:List (κ×V)}{k:κ}(e:p.1=k):sY (p::r) k=some p.2:=by simp[sY,Qzw,e]
theorem ux{p:κ×V}{r:List (κ×V)}{k:κ}(e:¬p.1=k):sY (p::r) k=sY r k:=by simp[sY,Qzw,e]
theorem yR(k:κ):∀kvs:List (κ×V),(kvs.any λkv=>decide (kv.1=k))=(sY kvs k).isSome
 | []=>rfl
 | p::r=>by
  rw[List.any_cons];by_cases e:p.1=k
  ·simp only[uw e,Qw4 e,Bool.true_or,Option.isSome_some]
  ·rw[ux e,Qwj e,Bool.false_or];exact yR k r
theorem qU(kvs:List (κ×V))(k:κ)(v:V):(putK kvs k v).length<=kvs.length+1:=by
 unfold putK;split
 ·rw[Qqv];omega
 ·rw[Qqx,Qqy,Qx2];omega
theorem vI.my{o:Option V}{u:Option Value}(r:vI o u):o.isSome=u.isSome:=by
 cases o with
 | none=>cases u with
  | none=>rfl
  | some _=>exact(show False from r).elim
 | some _=>cases u with
  | none=>exact(show False from r).elim
  | some _=>rfl
theorem vI.getD{o:Option V}{u:Option Value}{d:V}{d':Value}(r:vI o u)(rd:RelV d d'):RelV (o.getD d) (u.getD d'):=by
 cases o with
 | none=>cases u with
  | none=>exact rd
  | some _=>exact(show False from r).elim
 | some _=>cases u with
  | none=>exact(show False from r).elim
  | some _=>exact r
theorem KV.val{kvs:List (κ×V)}{vs:List (κ×Value)}(r:KV kvs vs)(k:κ):vI (sY kvs k) (valueAt vs k):=by
 unfold KV at r
 induction r with
 | nil=>exact True.intro
 | @cons p q ps qs h t ih=>
  obtain⟨h1,h2⟩:=h;by_cases e:p.1=k
  ·have e':q.1=k:=h1.symm.trans e;have b:valueAt (q::qs) k=some q.2:=by simp[valueAt,Qzw,e']
   rw[uw e,b];exact h2
  ·have e':¬q.1=k:=λz=>e (h1.trans z);have b:valueAt (q::qs) k=valueAt qs k:=by simp[valueAt,Qzw,e']
   rw[ux e,b];exact ih
theorem KV.any{kvs:List (κ×V)}{vs:List (κ×Value)}(r:KV kvs vs)(k:κ):(kvs.any λkv=>decide (kv.1=k))=vs.any λkv=>decide (kv.1=k):=by
 unfold KV at r
 induction r with
 | nil=>rfl
 | cons h t ih=>rw[List.any_cons,List.any_cons,ih,h.1]
theorem KV.repl{kvs:List (κ×V)}{vs:List (κ×Value)}(r:KV kvs vs)(k:κ){y:V}{u:Value}(ry:RelV y u) :
  KV (kvs.map λkv=>if kv.1=k then (kv.1,y) else kv) (vs.map λkv=>if kv.1=k then (kv.1,u) else kv):=by
 unfold KV at r ⊢
 induction r with
 | nil=>exact .nil
 | @cons p q ps qs h t ih=>
  rw[Qq8,Qq8];refine .cons ?_ ih;obtain⟨h1,h2⟩:=h;by_cases e:p.1=k
  ·rw[if_pos e,if_pos (h1.symm.trans e)];exact⟨h1,ry⟩
  ·rw[if_neg e,if_neg (λz=>e (h1.trans z))];exact⟨h1,h2⟩
theorem KV.put{kvs:List (κ×V)}{vs:List (κ×Value)}(r:KV kvs vs)(k:κ){y:V}{u:Value}(ry:RelV y u):KV (putK kvs k y) (stored vs k u):=by
 unfold putK stored;rw[r.any k];by_cases e:(vs.any λkv=>decide (kv.1=k))=true
 ·rw[if_pos e,if_pos e];exact r.repl k ry
 ·rw[if_neg e,if_neg e];exact Paired.snoc r ⟨rfl,ry⟩
theorem KV.keys{kvs:List (κ×V)}{vs:List (κ×Value)}(r:KV kvs vs):kvs.map (·.1)=vs.map (·.1):=by
 unfold KV at r
 induction r with
 | nil=>rfl
 | cons h t ih=>rw[Qq8,Qq8,ih,h.1]
theorem KV.length{kvs:List (κ×V)}{vs:List (κ×Value)}(r:KV kvs vs):kvs.length=vs.length:=Paired.length r
end
theorem Df{P:Program}{w:World}{k:Key}{u:Value}(r:RelV (kV k) u):(d9 P w).is k u=true:=by
 cases k with
 | inl i=>obtain⟨t,e⟩:=(show ∃t,u=Value.int i t from r);subst e;exact HS P w i t
 | inr x=>obtain⟨t,e⟩:=(show ∃t,u=Value.str x t from r);subst e;exact HR P w x t
theorem Dg{P:Program}{w:World}:∀{ks:List Key} {us:List Value},Vals (ks.map kV) us->ItemsAre (d9 P w) ks us
 | [],_,r=>by rw[List.map_nil] at r;cases r;exact .nil
 | k::ks,_,r=>by
  rw[Qq8] at r;cases r with
  | cons h t=>exact .cons (Df h) (Dg t)
abbrev KT(H:Hp):List (List Key×V)->List (List Key×Addr×Value)->Prop:=Paired λp q=>p.1=q.1/\H q.2.1=some (.tup (p.1.map kV))/\RelV p.2 q.2.2
theorem KT.val{H:Hp}{kvs:List (List Key×V)}{xs:List (List Key×Addr×Value)}(r:KT H kvs xs)(k:List Key):vI (sY kvs k) ((atKey xs k).map (·.2)):=by
 induction r with
 | nil=>exact True.intro
 | @cons p q ps qs h t ih=>
  obtain⟨h1,_,h2⟩:=h;by_cases e:p.1=k
  ·have e':q.1=k:=h1.symm.trans e;have b:atKey (q::qs) k=some q.2:=by simp[atKey,Qzw,e']
   rw[uw e,b];exact h2
  ·have e':¬q.1=k:=λz=>e (h1.trans z);have b:atKey (q::qs) k=atKey qs k:=by simp[atKey,Qzw,e']
   rw[ux e,b];exact ih
theorem KT.repl{H:Hp}{kvs:List (List Key×V)}{xs:List (List Key×Addr×Value)}(r:KT H kvs xs)(k:List Key){y:V}{u:Value}(ry:RelV y u) :
  KT H (kvs.map λkv=>if kv.1=k then (kv.1,y) else kv) (xs.map (putAt k u)):=by
 induction r with
 | nil=>exact .nil
 | @cons p q ps qs h t ih=>
  rw[Qq8,Qq8];refine .cons ?_ ih;obtain⟨h1,h2,h3⟩:=h;unfold putAt;by_cases e:p.1=k
  ·rw[if_pos e,if_pos (h1.symm.trans e)];exact⟨h1,h2,ry⟩
  ·rw[if_neg e,if_neg (λz=>e (h1.trans z))];exact⟨h1,h2,h3⟩
theorem KT.put{H:Hp}{kvs:List (List Key×V)}{xs:List (List Key×Addr×Value)}(r:KT H kvs xs)(k:List Key){b:Addr}{y:V}{u:Value}(hb:H b=some (.tup (k.map kV)))(ry:RelV y u) :
  KT H (putK kvs k y) (storedH xs k b u):=by
 have e:(kvs.any λkv=>decide (kv.1=k))=(atKey xs k).isSome:=by rw[yR,(r.val k).my,Qj9]
 unfold putK storedH;rw[e];by_cases q:(atKey xs k).isSome=true
 ·rw[if_pos q,if_pos q];exact r.repl k ry
 ·rw[if_neg q,if_neg q];exact Paired.snoc r ⟨rfl,hb,ry⟩
theorem KT.keeps{H H':Hp}{kvs:List (List Key×V)}{xs:List (List Key×Addr×Value)}(r:KT H kvs xs)(ht:∀b ys,H b=some (.tup ys)->H' b=some (.tup ys)):KT H' kvs xs:=
 Paired.abh r λ_ _ z=>⟨z.1,ht _ _ z.2.1,z.2.2⟩
section
variable{P:Program}{w:World}{H:Hp}{h:Heap}{a:Addr}
theorem Yv{u:HO}(ok:uo P w H h)(e:Rd H a u):gr P w H h a u:=e.ok ok
theorem An{kvs:List (Key×V)}(ok:uo P w H h)(e:Rd H a (.dK kvs)):kvs.length<=sizeLine/\(a == sysModules)=false/\∃vs,KV kvs vs/\h.DictOf (d9 P w) a vs:=
 show gr P w H h a (.dK kvs) from Yv ok e
theorem aeD{kvs:List (Key×V)}(ok:uo P w H h)(e:H a=some (.dK kvs)):kvs.length<=sizeLine/\(a == sysModules)=false/\∃vs,KV kvs vs/\h.DictOf (d9 P w) a vs:=An ok (.inl e)
theorem zW{ks:List Key}(ok:uo P w H h)(e:H a=some (.tup (ks.map kV))):(tupleKind (d9 P w)).is h ks a:=by obtain⟨_,its,r,o,h1,h2,⟨n,h3⟩,_⟩:=(show gr P w H h a (.tup (ks.map kV)) from ok a _ e);exact⟨o,its.toArray,n,h1,h2,h3,by simpa using Dg r⟩
theorem Dk{kvs:List (List Key×V)}(ok:uo P w H h)(e:Rd H a (.dT kvs)):kvs.length<=sizeLine/\(a == sysModules)=false/\
  ∃xs,KT H kvs xs/\h.DictOfH (tupleKind (d9 P w)) a xs:=by
 obtain⟨z,y,xs,r,o,es,ep,h1,h2,h3,h4,h5⟩:=(show gr P w H h a (.dT kvs) from Yv ok e);refine⟨z,y,xs,r,o,es,ep,h1,h2,h3,h4,λx hx=>?_,h5⟩;have all:∀{l:List (List Key×V)} {m:List (List Key×Addr×Value)},KT H l m->∀x∈m,(tupleKind (d9 P w)).is h x.1 x.2.1:=by
  intro l m q
  induction q with
  | nil=>intro x hx;exact nomatch hx
  | @cons p q ps qs hq t ih=>
   intro x hx;rcases Qq4.mp hx with e|hx
   ·subst e;exact zW ok (by rw[<-hq.1];exact hq.2.1)
   ·exact ih x hx
 exact all r x hx
theorem aeB{kvs:List (List Key×V)}(ok:uo P w H h)(e:H a=some (.dT kvs)):kvs.length<=sizeLine/\(a == sysModules)=false/\
  ∃xs,KT H kvs xs/\h.DictOfH (tupleKind (d9 P w)) a xs:=Dk ok (.inl e)
end
def Jq(H:Hp)(a:Addr)(y:V)(r:Option V):Prop:=
 (∃kvs k,Rd H a (.dK kvs)/\y=kV k/\r=sY kvs k)\/∃kvs k b,Rd H a (.dT kvs)/\y = .ref b/\H b=some (.tup (k.map kV))/\r=sY kvs k
def Vb(H:Hp)(a:Addr)(y v:V)(H':Hp):Prop:=
 (∃kvs k,H a=some (.dK kvs)/\y=kV k/\kvs.length<sizeLine/\H'=upd H a (.dK (putK kvs k v)))\/
 ∃kvs k b,H a=some (.dT kvs)/\y = .ref b/\H b=some (.tup (k.map kV))/\kvs.length<sizeLine/\H'=upd H a (.dT (putK kvs k v))
theorem Vb.k{H:Hp}{a:Addr}{kvs:List (Key×V)}{k:Key}{v:V}(e:H a=some (.dK kvs))(hl:kvs.length<sizeLine):Vb H a (kV k) v (upd H a (.dK (putK kvs k v))):=.inl ⟨kvs,k,e,rfl,hl,rfl⟩
section
variable{X:Cx}{pins:List (Addr×Obj)}{σ:St}{H:Hp}{s:Shared}{a:Addr}{y v:V}{u r:Value}{o:Option V}{A:Around}{E:Value->Shared->Prop}
theorem Inv.big(I:Inv X pins σ H s):sysModules<s.heap.objs.size:=by have h:mainGlobals<s.heap.objs.size:=(I.mod.glob.keeps I.bk).lt;exact Nat.lt_trans (by decide) h
theorem Qe{Q:Value->Shared->Prop}(hu:A.units+1<cLine)(I:Inv X pins σ H s)(g:Jq H a y (some v))(ry:RelV y u)(h:∀w' s',Inv X pins σ H s'->RelV v w'->Q w' s') :
  wpAny (model X.prog X.w) A (getItem (.ref a) u) Q E s:=by
 rcases g with ⟨kvs,k,e,ey,l⟩|⟨kvs,k,b,e,ey,eb,l⟩
 ·subst ey;obtain⟨z,hd,vs,rel,dd⟩:=An I.hok e;obtain⟨w',hw,Kc⟩:=vI.some_of (v:=v) (o:=valueAt vs k) (by rw[l];exact rel.val k);exact wpAny_getItem_of (Df ry) dd.mapOf hw (h w' _ (I.tok _) Kc)
 ·subst ey;cases(show u=Value.ref b from ry);obtain⟨z,hd,xs,rel,dd⟩:=Dk I.hok e;obtain⟨w',hw,Kc⟩:=vI.some_of (v:=v) (o:=(atKey xs k).map (·.2)) (by rw[l];exact rel.val k);obtain⟨p,hp,hp2⟩:=Qwk.mp hw;refine wpAny_getItem_heap (tupleKind_room_in1 hu) (zW I.hok eb) dd hp ?_;rw[hp2];exact h w' _ (I.tok _) Kc
theorem agv{Q:Value->Shared->Prop}(hu:A.units+1<cLine)(I:Inv X pins σ H s)(g:Jq H a y o)(ry:RelV y u)(h:∀s',Inv X pins σ H s'->Q (.bool o.isSome) s') :
  wpAny (model X.prog X.w) A (compareOp .In u (.ref a)) Q E s:=by
 rcases g with ⟨kvs,k,e,ey,l⟩|⟨kvs,k,b,e,ey,eb,l⟩
 ·subst ey;obtain⟨z,hd,vs,rel,dd⟩:=An I.hok e;refine wpAny_in_of (Df ry) hd dd.mapOf ?_;rw[<-(rel.val k).my,<-l];exact h _ (I.tok _)
 ·subst ey;cases(show u=Value.ref b from ry);obtain⟨z,hd,xs,rel,dd⟩:=Dk I.hok e;refine wpAny_in_heap (tupleKind_room_in1 hu) (zW I.hok eb) hd dd ?_;have q:=(rel.val k).my;rw[Qj9] at q;rw[<-q,<-l];exact h _ (I.tok _)
theorem yO{h':Heap}{t':Nat}{ob:HO}(I:Inv X pins σ H s)(mu:Mut (H a))(hs:Heap.SameBut a s.heap h')(he:∃q,h'.get? a=some q)(new:gr X.prog X.w (upd H a ob) h' a ob) :
  Inv X pins σ (upd H a ob) { s with heap:=h',toks:=t' }:=
 I.write (x:=a) (e:=a) mu (.inl rfl) (λb q hb z=>(hs.2 b hb).trans z) he new
theorem abV{P:Program}{w:World}{H':Hp}{h':Heap}{kvs:List (Key×V)}{vs:List (Key×Value)}(z:kvs.length<=sizeLine)(hd:(a == sysModules)=false)(rel:KV kvs vs)(dd:h'.DictOf (d9 P w) a vs) :
  gr P w H' h' a (.dK kvs):=⟨z,hd,vs,rel,dd⟩
theorem Qd{H':Hp}{Q:Unit->Shared->Prop}(hu:A.units+1<cLine)(I:Inv X pins σ H s)(g:Vb H a y v H')(ry:RelV y u)(rv:RelV v r)(h:∀s',Inv X pins σ H' s'->Q () s') :
  wpAny (model X.prog X.w) A (setItem (.ref a) u r) Q E s:=by
 rcases g with ⟨kvs,k,e,ey,l,eH⟩|⟨kvs,k,b,e,ey,eb,l,eH⟩
 ·subst ey eH;obtain⟨z,hd,vs,rel,dd⟩:=aeD I.hok e;have hz:vs.length<=sizeLine:=by rw[<-rel.length];exact z
  have hl:(putK kvs k v).length<=sizeLine:=by have:=qU kvs k v;omega
  refine wpAny_setItem_pairs (hsz:=hz) (Df ry) dd λh' Y6 hs=>h _ ?_;have he:∃q,h'.get? a=some q:=let ⟨q,_,_,hq,_⟩:=Y6;⟨q,hq⟩
  exact yO I (by rw[e];exact True.intro) hs he (abV hl hd (rel.put k rv) Y6)
 ·subst ey eH;cases(show u=Value.ref b from ry);obtain⟨z,hd,xs,rel,dd⟩:=aeB I.hok e;have hz:xs.length<=sizeLine:=by rw[<-Paired.length rel];exact z
  have hl:(putK kvs k v).length<=sizeLine:=by have:=qU kvs k v;omega
  refine wpAny_setItem_heap (hsz:=hz) (tupleKind_room_in1 hu) (zW I.hok eb) dd λh' Y6 hs=>h _ ?_;obtain⟨q,es,ep,hq,h2,h3,h4,_,h5⟩:=Y6;refine yO I (by rw[e];exact True.intro) hs ⟨q,hq⟩ ⟨hl,hd,_,(rel.put k eb rv).keeps λc ys ec=>?_,q,es,ep,hq,h2,h3,h4,h5⟩;rw[bG (ad2 ec e (λz=>nomatch z))];exact ec
end
def Qn(i:Expr):Prop:=∀ov iv,subscripted i false ov iv=operate [ov,iv] (getItem ov iv)
theorem LQ{prog:Program}{w:World}{A:Around}{E:Value->Shared->Prop}{s:Shared}{env:Env}{value slice:Expr}{pos:Pos}{T id:String}{Q:Value->Shared->Prop}
  (hl:typeLookup (.type T) "__getitem__" = pure (some (.builtin id))) (hs:Qn slice)
  (h:wpAny (model prog w) A (eval value env) (λo s₁=>wpAny (model prog w) A (eval slice env) (λi s₂=>s₂.TypeIs o T/\wpAny (model prog w) A (getItem o i) Q E s₂) E s₁) E s) :
  wpAny (model prog w) A (eval (.Subscript value slice pos) env) Q E s:=by
 refine Subscript_ (Qz2 h (λo s₁ h₁=>Qz2 h₁ (λi s₂ h₂=>?_) λ_ _ x=>x) λ_ _ x=>x);obtain⟨hT,h₂⟩:=h₂;unfold subscriptTail;refine Qqz ?_;rw[getitemInPython_of_ne hT.not_modules];refine Qqz (wpAny_specialOf hT hl ?_);have fin:wpAny (model prog w) A (subscripted slice false o i) (λr s₃=>wpAny (model prog w) A (letTemporaryGo value o r >>= λ_=>pure r) Q E s₃) E s₂:=by rw[hs o i];exact wpAny_operating (Qz2 h₂ (λr s₃ h₃=>Qqz (wpAny_letTemporaryGo (Qq5 h₃))) λ_ _ x=>x)
 first
  | exact Qq5 (Qqz fin)
  | exact Qqz (Qq5 (Qqz fin))
  | exact Qqz fin
theorem Ja{X:Cx}{pins:List (Addr×Obj)}{σ:St}{H:Hp}{s:Shared}{a:Addr}{y:V}{o:Option V}(I:Inv X pins σ H s)(g:Jq H a y o):s.TypeIs (.ref a) "dict":=by
 rcases g with ⟨kvs,k,e,_,_⟩|⟨kvs,k,b,e,_,_,_⟩
 ·obtain⟨_,_,vs,_,dd⟩:=An I.hok e;exact dd.typeIs
 ·obtain⟨_,_,xs,_,dd⟩:=Dk I.hok e;exact dd.typeIs
def ac1(td ty:TE):TE:=λσ H Q=>td σ H λx H1=>ty σ H1 λy H2=>∃a v,x = .ref a/\Jq H2 a y (some v)/\Q v H2
def ac9(td ty tv:TE):TS:=λD σ H=>tv σ H λv H1=>td σ H1 λx H2=>ty σ H2 λy H3=>∃a H4,x = .ref a/\Vb H3 a y v H4/\D.nx σ H4
section
variable{X:Cx}{o i e value:Expr}{pos pos' tpos:Pos}{td ty tv:TE}
theorem Wx(hu:X.A.units+1<cLine)(ho:PE X o td)(hi:PE X i ty)(hs:Qn i):PE X (.Subscript o i pos) (ac1 td ty):=by intro pins s σ H Q I h;refine LQ PySem.F.slot_dict_getitem.lookup hs (fK (ho pins s σ H _ I h) λu s1 ⟨x,H1,I1,rx,q1⟩=>fK (hi pins s1 σ H1 _ I1 q1) λiv s2 ⟨y,H2,I2,ry,a,v,ex,g,q2⟩=>?_);subst ex;obtain rfl:u=Value.ref a:=rx;exact⟨Ja I2 g,Qe hu I2 g ry λw' s3 I3 Kc=>⟨v,H2,I3,Kc,q2⟩⟩
theorem Wl(hu:X.A.units+1<cLine)(ho:PE X o td)(hi:PE X i ty)(hv:PE X value tv)(hs:swapsWith value (some (.Subscript o i pos')) pos.line X.env=pure false) :
  PS X (.Assign [.Subscript o i pos'] value pos) (ac9 td ty tv):=by
 intro pins s σ H D I h;refine wpAny_Assign_Subscript (fK (hv pins s σ H _ I h) λr s1 ⟨v,H1,I1,rv,q1⟩=>fK (ho pins s1 σ H1 _ I1 q1) λu s2 ⟨x,H2,I2,rx,q2⟩=>fK (hi pins s2 σ H2 _ I2 q2) λiv s3 ⟨y,H3,I3,ry,a,H4,ex,g,q3⟩=>?_) hs;subst ex;obtain rfl:u=Value.ref a:=rx;exact Qd hu I3 g ry rv λs4 I4=>⟨σ,H4,I4,q3⟩
end
theorem Uk{P:Program}{w:World}{H:Hp}(h:Heap)(hb:sysModules<h.objs.size):gr P w H (h.push { cls:=.type "dict",data:=.dict #[] }) h.objs.size (.dK []):=
 ⟨Qxk _,Qx6.mpr (Ne.symm (Qxq hb)),[],.nil,Heap.DictOf.new h⟩
def ZS:TE:=λ_ H Q=>∀p,H p=none->Q (.ref p) (upd H p (.dK []))
section
variable{X:Cx}{pos:Pos}
theorem R8:PE X (.Dict [] [] pos) ZS:=λpins s σ H Q I h=>
 wpAny_Dict_empty ⟨.ref s.heap.objs.size,_,I.laid (a:=s.heap.objs.size) (o:=.dK []) (t':=s.toks) (λ_ _ q=>Qq0 _ q) (Qq1 _) (Uk s.heap I.big),rfl,h _ (I.hok.fresh (Qq1 _))⟩
end
structure M2(X:Cx)(o:Expr)(m:Str)(apos:Pos)(e f:Expr)(cpos:Pos):Prop where
 base:attributeBase o m X.env (eval o X.env)=eval o X.env
 few:((backTo cpos (starEach [e,f] X.env)).all (λx=>!x.1)&&(backToKw cpos (keywordEach [] X.env)).all (λx=>x.1.isSome)
  && decide (([e,f]:List Expr).length+([]:List Keyword).length+(if ([]:List Keyword).isEmpty then 0 else 1)<30))=true
 line:(apos.endLine == cpos.line)=true
 trees:backTo cpos (starEach [e,f] X.env)=[(false,eval e X.env),(false,eval f X.env)]
def IsD(H:Hp)(a:Addr):Prop:=(∃kvs,Rd H a (.dK kvs))\/∃kvs,Rd H a (.dT kvs)
theorem abF{X:Cx}{pins:List (Addr×Obj)}{σ:St}{H:Hp}{s:Shared}{a:Addr}(I:Inv X pins σ H s)(d:IsD H a) :
  s.TypeIs (.ref a) "dict"/\(∀b,Value.ref a = .ref b->∃ob,s.heap.get? b=some ob/\ob.dict=none)/\(a == sysModules)=false:=by
 rcases d with ⟨kvs,e⟩|⟨kvs,e⟩
 ·obtain⟨_,hd,vs,_,dd⟩:=An I.hok e;refine⟨dd.typeIs,λb q=>?_,hd⟩;cases q;obtain⟨ob,_,_,h1,h2,_⟩:=dd;exact⟨ob,h1,h2.2.1⟩
 ·obtain⟨_,hd,xs,_,dd⟩:=Dk I.hok e;refine⟨dd.typeIs,λb q=>?_,hd⟩;cases q;obtain⟨ob,_,_,h1,h2,_⟩:=dd;exact⟨ob,h1,h2.2.1⟩
section
variable{X:Cx}{pins:List (Addr×Obj)}{σ:St}{H:Hp}{s:Shared}{a:Addr}{y d:V}{u r:Value}{o:Option V}{A:Around}{E:Value->Shared->Prop}
theorem ab2{Q:Value->Shared->Prop}(hu:A.units+1<cLine)(I:Inv X pins σ H s)(g:Jq H a y o)(ry:RelV y u)(rd:RelV d r)(h:∀w' s',Inv X pins σ H s'->RelV (o.getD d) w'->Q w' s') :
  wpAny (model X.prog X.w) A (call (.builtin "dict.get") [.ref a,u,r]) Q E s:=by
 rcases g with ⟨kvs,k,e,ey,l⟩|⟨kvs,k,b,e,ey,eb,l⟩
 ·subst ey;obtain⟨z,hd,vs,rel,dd⟩:=An I.hok e;refine call_meetsIn PySem.F.slot_dict_get dd.typeIs PySem.F.entry_dict_get (PySem.F.args_dict_get_3 _ _ _) (meets_dict_get_default (d9 X.prog X.w) a (Df ry) hd r) ⟨_,dd.mapOf,h _ _ (I.tok _) ?_⟩;rw[l];exact(rel.val k).getD rd
 ·subst ey;cases(show u=Value.ref b from ry);obtain⟨z,hd,xs,rel,dd⟩:=Dk I.hok e;refine call_meetsIn PySem.F.slot_dict_get dd.typeIs PySem.F.entry_dict_get (PySem.F.args_dict_get_3 _ _ _) (meetsH_dict_get_default (tupleKind (d9 X.prog X.w)) a b hd r) ⟨tupleKind_room_in1 hu,k,xs,zW I.hok eb,dd,h _ _ (I.tok _) ?_⟩;rw[l];exact(rel.val k).getD rd
end
def ZV(td ty tx:TE):TE:=λσ H Q=>td σ H λx H1=>∃a,x = .ref a/\IsD H1 a/\ty σ H1 λy H2=>tx σ H2 λz H3=>∃o,Jq H3 a y o/\Q (o.getD z) H3
section
variable{X:Cx}{o e f:Expr}{apos cpos:Pos}{td ty tx:TE}
theorem Sd(hu:X.A.units+1<cLine)(ho:PE X o td)(he:PE X e ty)(hf:PE X f tx)(m:M2 X o "get" apos e f cpos):PE X (.Call (.Attribute o "get" apos) [e,f] [] cpos) (ZV td ty tx):=by
 intro pins s σ H Q I h;refine wpAny_Call_method m.base m.few m.line PySem.F.plainAttrs_dict PySem.F.slot_dict_get PySem.F.type_dict_get (fK (ho pins s σ H _ I h) λu s1 ⟨x,H1,I1,rx,a,ex,d,q1⟩=>?_);subst ex;obtain rfl:u=Value.ref a:=rx;obtain⟨t1,t2,_⟩:=abF I1 d;refine⟨t1,t2,?_⟩;rw[m.trees];refine Calls.callWith_builtin rfl (Calls.evalArgs_plain (Calls.spliced_cons (fK (he pins s1 σ H1 _ I1 q1) λiv s2 ⟨y,H2,I2,ry,q2⟩=>
  Calls.spliced_cons (fK (hf pins s2 σ H2 _ I2 q2) λfv s3 ⟨z,H3,I3,rz,ov,g,q3⟩=>Calls.spliced_nil ?_))))
 exact ab2 hu I3 g ry rz λw' s4 I4 Kc=>⟨_,H3,I4,Kc,q3⟩
end
def gJ(env:Env):List (Str×NameKind)->List (Str×Addr)->List (Str×Addr)
 | [],acc=>acc
 | (n,k)::r,acc=>if k == .free then gJ env r ((n,(env.cells.lookup n).getD 0)::acc) else gJ env r acc
theorem Av{env:Env}(f:Str×NameKind->List (Str×Addr)->Sem (ForInStep (List (Str×Addr))))
  (hf:∀n k cs,f (n,k) cs=if k == .free then (do let a <-cellOf env n;pure (.yield ((n,a)::cs))) else pure (.yield cs)) :
  ∀(names:List (Str×NameKind)) (acc:List (Str×Addr)),(∀n,(n,NameKind.free)∈names->∃c,env.cells.lookup n=some c)->forIn names acc f=pure (gJ env names acc)
 | [],acc,_=>by rw[Qj5];rfl
 | (n,k)::r,acc,h=>by
  have ih:=Av f hf r;have hr:∀n,(n,NameKind.free)∈r->∃c,env.cells.lookup n=some c:=λm hm=>h m (Qqq _ hm);rw[Qkw,hf];cases hk:k == NameKind.free with
  | true=>
   have hk':k = .free:=by simpa using hk
   obtain⟨c,hc⟩:=h n (by rw[hk'];exact Qqj);rw[if_pos rfl];unfold cellOf;rw[hc];simp only[pure_bind];rw[ih _ hr]
   conv=>rhs;unfold gJ
   rw[if_pos hk,hc]
   rfl
  | false=>
   rw[if_neg (by simp)];simp only[pure_bind];rw[ih _ hr]
   conv=>rhs;unfold gJ
   rw[if_neg (by simp[hk])]
theorem uh{scope:Scope}{env:Env}(h:∀n,(n,NameKind.free)∈scope.names->∃c,env.cells.lookup n=some c):closureFor scope env=pure (gJ env scope.names []):=by
 simp only[closureFor];rw[Av (env:=env) _ (λn k cs=>by cases hk:k == NameKind.free<;>simp[hk]) _ _ h]
 rfl
theorem vp{env:Env}:∀(names:List (Str×NameKind)) (acc:List (Str×Addr)) (x:Str) (c:Addr),(∀n,(n,NameKind.free)∈names->∃c,env.cells.lookup n=some c)->
  (∀y d,acc.lookup y=some d->env.cells.lookup y=some d)->(gJ env names acc).lookup x=some c->env.cells.lookup x=some c
 | [],acc,x,c,_,ha,h=>ha x c h
 | (n,k)::r,acc,x,c,hn,ha,h=>by
  have hr:∀n,(n,NameKind.free)∈r->∃c,env.cells.lookup n=some c:=λm hm=>hn m (Qqq _ hm);unfold gJ at h;split at h
  ·rename_i hk;have hk':k = .free:=by simpa using hk
   obtain⟨d,hd⟩:=hn n (by rw[hk'];exact Qqj);refine vp r _ x c hr (λy e he=>?_) h;rw[Qxw] at he;cases hy:y == n with
   | true=>
    rw[hy] at he;have e1:y=n:=by simpa using hy
    rw[e1,hd];rw[hd] at he;exact he
   | false=>
    rw[hy] at he;exact ha y e he
  ·exact vp r acc x c hr ha h
theorem wZ{env:Env}:∀(names:List (Str×NameKind)) (acc:List (Str×Addr)) (x:Str),(acc.lookup x).isSome=true->((gJ env names acc).lookup x).isSome=true
 | [],acc,x,h=>h
 | (n,k)::r,acc,x,h=>by
  unfold gJ;split
  ·refine wZ r _ x ?_;rw[Qxw];split
   ·rfl
   ·exact h
  ·exact wZ r acc x h
theorem vo{env:Env}:∀(names:List (Str×NameKind)) (acc:List (Str×Addr)) (x:Str),(x,NameKind.free)∈names->((gJ env names acc).lookup x).isSome=true
 | [],acc,x,h=>nomatch h
 | (n,k)::r,acc,x,h=>by
  unfold gJ;rcases Qq4.mp h with e|h
  ·obtain⟨e1,e2⟩:=Prod.mk.inj e;subst e1 e2;rw[if_pos (by rfl)];refine wZ r _ x ?_;rw[Qxw];simp
  ·split
   ·exact vo r _ x h
   ·exact vo r acc x h
theorem gj:∀(names:List (Str×NameKind)) (n:Nat) (acc:List (Str×Addr)),cellsFrom n names acc=cellsFrom n names []++acc
 | [],n,acc=>rfl
 | (x,k)::r,n,acc=>by
  unfold cellsFrom;split
  ·rw[gj r (n+1) ((x,n)::acc),gj r (n+1) [(x,n)],Qx3]
   rfl
  ·exact gj r n acc
theorem oE:∀(names:List (Str×NameKind)) (n:Nat) (x:Str) (c:Addr),(x,c)∈cellsFrom n names []->(x,NameKind.cell)∈names
 | [],n,x,c,h=>nomatch h
 | (y,k)::r,n,x,c,h=>by
  unfold cellsFrom at h;split at h
  ·rename_i hk;have hk':k = .cell:=by simpa using hk
   rw[gj] at h;rcases Qwq.mp h with h|h
   ·exact Qqq _ (oE r _ x c h)
   ·have e:=Qqk.mp h;cases e;rw[hk'];exact Qqj
  ·exact Qqq _ (oE r _ x c h)
theorem pK{α:Type}:∀(l m:List (Str×α)) (x:Str),(l++m).lookup x=match l.lookup x with|some v=>some v|none=>m.lookup x
 | [],m,x=>rfl
 | (k,v)::r,m,x=>by
  rw[List.cons_append,Qxw,Qxw];cases h:x == k with
  | true=>rfl
  | false=>exact pK r m x
theorem qT{α:Type}:∀(l:List (Str×α)) (x:Str),(∀v,(x,v) ∉ l)->l.lookup x=none
 | [],x,_=>rfl
 | (k,v)::r,x,h=>by
  rw[Qxw];cases e:x == k with
  | true=>
   have e':x=k:=by simpa using e
   exact absurd (by rw[e'];exact Qqj) (h v)
  | false=>exact qT r x λw hw=>h w (Qqq _ hw)
theorem lookup_mem{α:Type}:∀(l:List (Str×α)) (x:Str) (v:α),l.lookup x=some v->(x,v)∈l
 | [],x,v,h=>nomatch h
 | (k,w)::r,x,v,h=>by
  rw[Qxw] at h;cases e:x == k with
  | true=>
   rw[e] at h;cases h;have e':x=k:=by simpa using e
   rw[e'];exact Qqj
  | false=>
   rw[e] at h;exact Qqq _ (lookup_mem r x v h)
theorem jm{α:Type}:∀(l:List (Str×α)) (x:Str) (v:α),(l.map (·.1)).Nodup->(x,v)∈l->l.lookup x=some v
 | [],x,v,_,h=>nomatch h
 | (k,w)::r,x,v,nd,h=>by
  rw[Qxw];have nd':=Qxj.mp nd;rcases Qq4.mp h with e|h
  ·cases e;simp
  ·have hne:¬x=k:=λe=>nd'.1 (by rw[<-e];exact Qwy.mpr ⟨(x,v),h,rfl⟩);have hb:(x == k)=false:=by simpa using hne
   rw[hb];exact jm r x v nd'.2 h
theorem HH{M:Model}{A:Around}{E:Value->Shared->Prop}{s:Shared}{scope:Scope}{globals:Addr}{cl:List (Str×Addr)}{qual:Str}{outer:Env}{Q:Env->Shared->Prop}
  (hQ:∀h',h'.Ns s.heap.objs.size (λ_=>none)->(∀b o,s.heap.get? b=some o->h'.get? b=some o)->CellsOk h' (s.heap.objs.size+1) (cellsFrom (s.heap.objs.size+1) scope.names [])->
   Q { scope,locals:=s.heap.objs.size,globals,cells:=cellsFrom (s.heap.objs.size+1) scope.names cl,qual,func:=none,code:=outer.code,frame:=outer.frame,builtins:=outer.builtins } { s with heap:=h' }) :
  wpAny M A (newFunctionEnv scope globals cl [] qual none .none (some outer)) Q E s:=by
 simp only[newFunctionEnv,Option.isSome_some,if_true];refine Qqz (wpAny_alloc ?_);refine Qqz (wpAny_layCells _ (λname kind cells=>by cases hkc:kind == NameKind.cell<;>simp[hkc]) _ _ _ _ ?_);have ok:=cellsFrom_ok scope.names (s.heap.push { cls:=.type "dict",data:=.dict #[] }) (s.heap.objs.size+1) [] ⟨λ_ _ hm=>(nomatch hm),List.Pairwise.nil⟩ (by rw[Qz3];exact Qq1 _);rw[Qz3] at ok;rw[show({ s with heap:=s.heap.push { cls:=.type "dict",data:=.dict #[] } }:Shared).heap.objs.size=s.heap.objs.size+1 from Qz3 ..];refine Qqz ?_;rw[Qj5];refine Qq5 (Qq5 (hQ _ ?_ ?_ ?_))
 ·exact(Heap.Ns.new s.heap (.type "dict")).keeps (pushCells_keeps _ _)
 ·exact λb o e=>pushCells_keeps _ _ b o (Qq0 _ e)
 ·exact ok
def cxC(X:Cx)(scope:Scope)(N':List Str)(cells:List (Str×Addr))(C:Addr)(s0:Shared)(H0:Hp)(fp:List Addr):Cx:=
 { X with N:=N',s₀:=s0,H₀:=H0,env:=compEnvC scope cells C X.env,outer:=X.stack,stack:=X.stack,ex:=fp,fn:=λx=>decide (scope.names.lookup x=some .cell),pn:=[],xe:=λ_ _=>False }
theorem qR{env:Env}:∀(names:List (Str×NameKind)) (x:Str),
  (names.map λ(n,k)=>if (k == NameKind.free&&env.scope.kind == .function&&env.kindOf n == some .cell) then (n,NameKind.cell) else (n,k)).lookup x =
   (names.lookup x).map λk=>if (k == NameKind.free&&env.scope.kind == .function&&env.kindOf x == some .cell) then NameKind.cell else k
 | [],x=>rfl
 | (n,k)::r,x=>by
  show List.lookup x ((if (k == NameKind.free&&env.scope.kind == .function&&env.kindOf n == some .cell)=true then (n,NameKind.cell) else (n,k))::_)=_;cases hx:x == n with
  | true=>
   have e:x=n:=by simpa using hx
   subst e;simp only[Qxw,hx,Qk0];split<;>simp[Qxw]
  | false=>
   simp only[Qxw,hx];rw[<-qR r x];split<;>simp only[Qxw,hx]
def Up(names:List (Str×NameKind)):List Str->List Str->Bool
 | _,[]=>true
 | [],_::_=>false
 | x'::N',x::N=>((names.lookup x').isNone||(x' == x&&names.lookup x' == some .free))&&Up names N' N
theorem Jc{names:List (Str×NameKind)}:∀{N' N:List Str},Up names N' N=true->∀(i:Nat) (x:Str),i<N.length->N'[i]? = some x->(names.lookup x).isSome=true->N[i]? = some x/\names.lookup x=some .free
 | _,[],_,i,x,h,_,_=>absurd h (Qj8 _)
 | [],_::_,h,_,_,_,_,_=>by cases h
 | x'::N',y::N,h,i,x,hi,e,hs=>by
  unfold Up at h;have h1:=(Qzv.mp h).1;have h2:=(Qzv.mp h).2;cases i with
  | zero=>
   have e':x'=x:=by simpa using e
   subst e';rcases Bool.or_eq_true_iff.mp h1 with q|q
   ·cases z:names.lookup x' with
    | none=>rw[z] at hs;cases hs
    | some k=>rw[z] at q;cases q
   ·have q1:=(Qzv.mp q).1;have q2:=(Qzv.mp q).2;have e1:x'=y:=by simpa using q1
    have e2:names.lookup x'=some .free:=by simpa using q2
    exact⟨by rw[e1];rfl,e2⟩
  | succ i=>exact Jc h2 i x (by simpa using hi) (by simpa using e) hs
structure m9(X:Cx)(scope:Scope)(N':List Str):Prop where
 kind:scope.kind = .function
 nd:(scope.names.map (·.1)).Nodup
 free:∀x∈scope.names,x.2 = .free->X.env.kindOf x.1=some .cell\/X.env.kindOf x.1=some .free
 chk:Up scope.names N' X.N=true
 len:X.N.length<=N'.length
def PIf(X:Cx)(ifs:List Expr)(t:TT):Prop:=
 ∀(pins:List (Addr×Obj)) (s:Shared) (σ:St) (H:Hp) (Q:Bool->Hp->Prop),Inv X pins σ H s->t σ H Q->
  wpAny (model X.prog X.w) X.A (forIn ifs true λc r=>if r=true then do let ok <-isTrue c X.env (eval c X.env);pure (ForInStep.yield ok) else pure (ForInStep.yield r)) (TP X pins σ Q) X.xe s
theorem Wr{X:Cx}:PIf X [] (λ_ H Q=>Q true H):=λpins s σ H Q I h=>by
 rw[Qj5];exact Qq5 ⟨H,I,h⟩
theorem Wq{X:Cx}{c:Expr}{t:TT}(h:PT X c t):PIf X [c] t:=λpins s σ H Q I hw=>by
 rw[Qkw,if_pos rfl];refine Qqz (Qqz (fK (h pins s σ H Q I hw) λb s' q=>?_));refine Qq5 ?_;show wpAny _ _ (forIn [] b _) _ _ _;rw[Qj5];exact Qq5 q
def uN(n:Nat)(σ:St):St:=σ++List.replicate n none
def tLC(n:Nat)(wi:TI)(g:TG)(tc:TT)(te:TE):TE:=λσ H Q=>wi σ H λJ H1=>∀d,H1 d=none->∃W:Nat->Nat->St->Hp->Prop,(∃m,W 0 m (uN (n - σ.length) σ) (upd H1 d (.lst [])))/\∀i m σ' H',W i m σ' H'->
 (J.stop i H'/\Q (.ref d) H')\/(J.go i H'/\∃N:St->Hp->Prop,(∀σ2 H2,N σ2 H2->∃m',m'<m/\W (i+1) m' σ2 H2)/\∀x H2,J.yld i H' x H2->g x σ' H2 λσ3 H3=>tc σ3 H3 λb H4=>
  if b=true then te σ3 H4 λy H5=>∃ys,H5 d=some (.lst ys)/\ys.length<sizeLine/\N σ3 (upd H5 d (.lst (ys++[y]))) else N σ3 H4)
section
variable{prog:Program}{w:World}{A:Around}{R:Result->Shared->Prop}{s:Shared}
theorem FT{elt target iter:Expr}{ifs:List Expr}{scope:Scope}{pos:Pos}{it acc:Value}{env:Env}(I:Nat->Shared->Prop)
  (turn:∀n s,I n s->wpAny (model prog w) A (pyNext it) (λr s₁=>match r with
   | none=>R (.ok .next) s₁
   | some v=>wpAny (model prog w) A (letOwnedTupleGo target it v) (λ_ s₁'=>wpAny (model prog w) A (assign target env v) (λ_ s₂=>
     wpAny (model prog w) A (forIn ifs true λc r=>if r=true then do let ok <-isTrue c env (eval c env);pure (ForInStep.yield ok) else pure (ForInStep.yield r)) (λok s₃=>
      if ok=true then wpAny (model prog w) A (eval elt env) (λx s₄=>
       wpAny (model prog w) A (call (.builtin "list.append") [acc,x]) (λ_ s₅=>∃m,m<n/\I m s₅) (λ_ _=>False) s₄) (λ_ _=>False) s₃
      else ∃m,m<n/\I m s₃) (λ_ _=>False) s₂) (λ_ _=>False) s₁') (λ_ _=>False) s₁) (λ_ _=>False) s)
  (n:Nat) (h:I n s) :
  codeAny (model prog w) A (.compLoop (.ListComp elt [⟨target,iter,ifs,0⟩] scope pos) 0 it acc env) R s:=by
 refine codeAny_loop rfl I (λn s hI=>?_) n h;show wpAny _ A ((compTurn (.ListComp elt [⟨target,iter,ifs,0⟩] scope pos) 0 it acc env).onRaise (λx=>do noteFrame x env;theTreesLotGoes x)) _ _ s;refine wpAny_noted ?_;rw[compTurn_list];refine Qqz (wpAny_standAt (Qqz (Qz2 (turn n s hI) (λr s₁ h₁=>?_) λ_ _ h'=>h'.elim)));cases r with
 | none=>exact Qq5 h₁
 | some v=>
  refine Qqz (Qz2 h₁ (λ_ s₁' h₁'=>?_) λ_ _ h'=>h'.elim);refine Qqz (Qz2 h₁' (λ_ s₂ h₂=>Qqz (Qz2 h₂ (λok s₃ h₃=>?_) λ_ _ h'=>h'.elim)) λ_ _ h'=>h'.elim);cases ok with
  | false=>exact Qq5 ⟨rfl,h₃⟩
  | true=>
   exact Qqz (Qqz (Qz2 h₃ (λx s₄ h₄=>Qqz (Qz2 h₄ (λ_ s₅ h₅=>Qq5 (Qq5 ⟨rfl,h₅⟩)) λ_ _ h'=>h'.elim)) λ_ _ h'=>h'.elim))
end
theorem TV{X:Cx}{scope:Scope}{N':List Str}{pins:List (Addr×Obj)}{σ:St}{H:Hp}{s:Shared}{h':Heap}{fp:List Addr}(ok:m9 X scope N')(I:Inv X pins σ H s)(hf:∀b∈fp,uq X pins H b)(hlt:∀b∈fp,b<s.heap.objs.size)
  (hn:h'.Ns s.heap.objs.size (λ_=>none)) (hk:∀b o,s.heap.get? b=some o->h'.get? b=some o) (co:CellsOk h' (s.heap.objs.size+1) (cellsFrom (s.heap.objs.size+1) scope.names [])) :
  Inv (cxC X scope N' (cellsFrom (s.heap.objs.size+1) scope.names (gJ X.env scope.names [])) s.heap.objs.size s H fp) [] (uN (N'.length - σ.length) σ) H { s with heap:=h' }:=by
 have hfree:∀n,(n,NameKind.free)∈scope.names->∃c,X.env.cells.lookup n=some c:=λn hm=>I.ok.has n (ok.free _ hm rfl)
 -- the cells by name
 have pW:∀x c,(cellsFrom (s.heap.objs.size+1) scope.names (gJ X.env scope.names [])).lookup x=some c->
   ((x,c)∈cellsFrom (s.heap.objs.size+1) scope.names []/\(cellsFrom (s.heap.objs.size+1) scope.names []).lookup x=some c)\/((cellsFrom (s.heap.objs.size+1) scope.names []).lookup x=none/\X.env.cells.lookup x=some c):=λx c e=>by
  rw[gj,pK] at e;cases q:(cellsFrom (s.heap.objs.size+1) scope.names []).lookup x with
  | some d=>rw[q] at e;cases e;exact .inl ⟨lookup_mem _ _ _ q,rfl⟩
  | none=>rw[q] at e;exact .inr ⟨rfl,vp _ _ x c hfree (λy d h=>by simp at h) e⟩
 have zG:∀x c,(x,c)∈cellsFrom (s.heap.objs.size+1) scope.names []->s.heap.objs.size+1<=c:=λx c h=>(co.empty x c h).2;have Ss:∀x c,X.env.cells.lookup x=some c->c<s.heap.objs.size:=λx c h=>let ⟨v,q⟩:=I.cell x c h;q.lt
 have Fv:∀x,(relabel scope X.env).names.lookup x=(scope.names.lookup x).map λk=>if (k == NameKind.free&&X.env.scope.kind == .function&&X.env.kindOf x == some .cell) then NameKind.cell else k:=λx=>qR _ _
 have Il:∀x,(x,NameKind.cell)∈scope.names->∃c,(cellsFrom (s.heap.objs.size+1) scope.names []).lookup x=some c:=λx hx=>by
  have q:=PySem.W.cellsFrom_some scope.names (s.heap.objs.size+1) [] (.inl (jm _ _ _ ok.nd hx));exact Qx9.mp q
 have fpC:∀b∈fp,∀x c,(cellsFrom (s.heap.objs.size+1) scope.names (gJ X.env scope.names [])).lookup x=some c->c≠b:=λb hb x c e=>by
  rcases pW x c e with ⟨h1,_⟩|⟨_,h2⟩
  ·have h3:=zG x c h1;have h4:=hlt b hb;rintro rfl;exact absurd (Qwx h4 (Qk2 h3)) (Qzz _)
  ·exact(hf b hb).2.2.2.2.1 x c h2
 refine⟨⟨I.ok.mod,ok.kind,I.ok.glob,I.ok.blt,Qq1 _,λx y c h1 h2=>?_,λx hx=>?_,λx c hx e=>?_,I.ok.hd,I.ok.frames,.inl rfl,λb hb=>⟨Qxq (hlt b hb),λx c e=>fpC b hb x c e⟩,I.bs,Qq2 I.ok.Ux I.sz,λb o e hb=>?_,λb hb=>?_,I.stack,I.LR⟩,
  rfl,I.bare,Un.kept hk,⟨_,hn,λi x v e1 e2 e3=>?_⟩,λx c e=>?_,I.hok.fresh (Qq1 _),λx c e=>?_,λp hp=>absurd (show p∈([]:List (Addr×Obj)) from hp) (by simp),I.hok.kept hk,?_⟩
 ·-- one name a cell
  rcases pW x c h1 with ⟨p1,_⟩|⟨_,p2⟩
  ·rcases pW y c h2 with ⟨q1,_⟩|⟨_,q2⟩
   ·exact name_of_addr co.apart p1 q1
   ·exact absurd (Qwx (Ss y c q2) (Qk2 (zG x c p1))) (Qzz _)
  ·rcases pW y c h2 with ⟨q1,_⟩|⟨_,q2⟩
   ·exact absurd (Qwx (Ss x c p2) (Qk2 (zG y c q1))) (Qzz _)
   ·exact I.ok.inj x y c p2 q2
 ·-- each cell name has one
  show ∃c,(cellsFrom (s.heap.objs.size+1) scope.names (gJ X.env scope.names [])).lookup x=some c;have hx:(relabel scope X.env).names.lookup x=some .cell\/(relabel scope X.env).names.lookup x=some .free:=hx;rw[Fv] at hx;cases q:scope.names.lookup x with
  | none=>rw[q] at hx;rcases hx with hx|hx<;>cases hx
  | some k=>
   rw[q] at hx;rw[gj,pK];cases z:(cellsFrom (s.heap.objs.size+1) scope.names []).lookup x with
   | some d=>exact⟨d,rfl⟩
   | none=>
    have hkf:k = .free:=by
     cases k with
     | free=>rfl
     | cell=>obtain⟨c,hc⟩:=Il x (lookup_mem _ _ _ q);rw[hc] at z;cases z
     | _=>rcases hx with hx|hx<;>simp at hx
    subst hkf;exact Qx9.mp (vo _ _ x (lookup_mem _ _ _ q))
 ·-- its own cells are new
  have hx':scope.names.lookup x=some .cell:=Qw8 hx;rcases pW x c e with ⟨p1,_⟩|⟨p1,_⟩
  ·exact Qk2 (zG x c p1)
  ·obtain⟨d,hd⟩:=Il x (lookup_mem _ _ _ hx');rw[hd] at p1;cases p1
 ·rcases(hf b hb).2.2.2.1 with z|z
  ·exact I.ok.SN b o e z
  ·have h1:=Qq9 e;have h2:=I.ok.Ux;exact absurd (Qwx h1 (Qq2 h2 z)) (Qzz _)
 ·intro hm;rcases Qq4.mp (I.DW b hm) with z|z
  ·exact(hf b hb).2.1 z
  ·exact(hf b hb).2.2.1 z
 ·-- the names
  have hiσ:i<σ.length:=by
   by_cases hi:i<σ.length
   ·exact hi
   ·unfold uN at e2;rw[Qxy (by omega),Qzj] at e2;split at e2<;>cases e2
  have e2':σ[i]? = some (some v):=by
   unfold uN at e2
   rwa [Qw3 hiσ] at e2
  have vis:(scope.names.lookup x).isSome=true:=by
   have e3:(relabel scope X.env).names.lookup x=some .local\/(relabel scope X.env).names.lookup x=some .cell\/(relabel scope X.env).names.lookup x=some .free:=e3;rw[Fv] at e3;cases q:scope.names.lookup x with
   | none=>rw[q] at e3;rcases e3 with z|z|z<;>cases z
   | some k=>rfl
  obtain⟨hN,hfr⟩:=Jc ok.chk i x (by rw[<-I.len];exact hiσ) e1 vis;have hm:=lookup_mem _ _ _ hfr;have hkk:=ok.free _ hm rfl;obtain⟨m,hns,hl⟩:=I.loc;obtain⟨u,ru,lk⟩:=hl i x v hN e2' (hkk.elim (λz=>.inr (.inl z)) λz=>.inr (.inr z));refine⟨u,ru,.inr ⟨?_,?_⟩⟩
  ·show(relabel scope X.env).names.lookup x=some .cell\/(relabel scope X.env).names.lookup x=some .free;rw[Fv,hfr];by_cases hc:(NameKind.free == NameKind.free&&X.env.scope.kind == .function&&X.env.kindOf x == some .cell)=true
   ·left;rw[Qk0,if_pos hc]
   ·right;rw[Qk0,if_neg hc]
  ·rcases lk with ⟨hl1,_⟩|⟨_,c,hc,hcell⟩
   ·rcases hkk with z|z<;>(rw[z] at hl1;cases hl1)
   ·refine⟨c,?_,hcell.keeps hk⟩;show(cellsFrom (s.heap.objs.size+1) scope.names (gJ X.env scope.names [])).lookup x=some c;rw[gj,pK];have hno:(cellsFrom (s.heap.objs.size+1) scope.names []).lookup x=none:=qT _ _ λd hd=>by
     have h1:=jm _ _ _ ok.nd (oE _ _ _ _ hd);rw[hfr] at h1;cases h1
    rw[hno];obtain⟨d,hd⟩:=Qx9.mp (vo (env:=X.env) scope.names [] x hm);have h2:=vp _ _ x d hfree (λy d h=>by simp at h) hd;rw[hc] at h2;show(gJ X.env scope.names []).lookup x=some c;rw[hd,h2]
 ·rcases pW x c e with ⟨p1,_⟩|⟨_,p2⟩
  ·exact⟨_,(co.empty x c p1).1⟩
  ·obtain⟨v,q⟩:=I.cell x c p2;exact⟨v,q.keeps hk⟩
 ·rcases pW x c e with ⟨p1,_⟩|⟨p0,p2⟩
  ·exact .inl (I.hok.fresh (Qk2 (zG x c p1)))
  ·rcases I.rn x c p2 with z|⟨_,z⟩
   ·exact .inl z
   ·refine .inr ⟨?_,z⟩;show decide (scope.names.lookup x=some .cell)=false;refine Qwj λq=>?_;obtain⟨d,hd⟩:=Aw (n:=s.heap.objs.size+1) q;rw[p0] at hd;cases hd
 ·show(uN (N'.length - σ.length) σ).length=N'.length;unfold uN;rw[Qqx,Qx4];have h1:=ok.len;have h2:=I.len;omega
abbrev jV(X:Cx)(scope:Scope)(N':List Str)(X':Cx):Prop:=
 ∃(cells:List (Str×Addr)) (C:Addr) (s0:Shared) (H0:{ H:Hp // ∀b qs,X.H₀ b=some (.tab qs)->H b=some (.tab qs) }) (fp:List Addr),X'=cxC X scope N' cells C s0 H0.1 fp
theorem Dn{X:Cx}{elt tg iter:Expr}{ifs:List Expr}{scope:Scope}{N':List Str}{pos:Pos}{g:TG}{tc:TT}{te:TE}{use:Option (Value->Sem Unit)}{QQ:Value->Shared->Prop}
  (ok:m9 X scope N') (hc:X.calm=true)
  (bg:∀X',jV X scope N' X'->PG X' tg g) (bc:∀X',jV X scope N' X'->PIf X' ifs tc) (be:∀X',jV X scope N' X'->PE X' elt te)
  {pins:List (Addr×Obj)} {s2:Shared} {σ:St} {H2:Hp} {Q:VK} {it:Addr} {fp:List Addr} {tn:Nat->Heap->Prop} {J:It} (I2:Inv X pins σ H2 s2) (T:Turn X.prog X.w X.K tg J fp it tn) (st2:tn 0 s2.heap) (f2:∀b∈fp,uq X pins H2 b)
  (q:∀d,H2 d=none->∃W:Nat->Nat->St->Hp->Prop,(∃m,W 0 m (uN (N'.length - σ.length) σ) (upd H2 d (.lst [])))/\∀i m σ' H',W i m σ' H'->
   (J.stop i H'/\Q (.ref d) H')\/(J.go i H'/\∃N:St->Hp->Prop,(∀σ2 H2,N σ2 H2->∃m',m'<m/\W (i+1) m' σ2 H2)/\∀x H2,J.yld i H' x H2->g x σ' H2 λσ3 H3=>tc σ3 H3 λb H4=>
    if b=true then te σ3 H4 λy H5=>∃ys,H5 d=some (.lst ys)/\ys.length<sizeLine/\N σ3 (upd H5 d (.lst (ys++[y]))) else N σ3 H4))
  (fin:∀d C m s' H',Inv X pins σ H' s'->Q (.ref d) H'->s'.heap.Ns C m->H' C=none->C≠X.env.locals->X.s₀.heap.objs.size<=C->(∀x c,X.env.cells.lookup x=some c->c≠C)->(∀p∈X.pn++pins,p.1≠C)->
   compPost (model X.prog X.w) X.A X.xe use QQ (.ref d) C (.ok .next) s') :
  wpAny (model X.prog X.w) X.A (newList []) (λacc s₃=>wpAny (model X.prog X.w) X.A (newFunctionEnv scope X.env.globals (gJ X.env scope.names []) [] X.env.qual none .none (some X.env)) (λcenv s₄=>
   codeAny (model X.prog X.w) X.A (.compStart (.ListComp elt [⟨tg,iter,ifs,0⟩] scope pos) 0 (.ref it) acc { cenv with scope:=relabel scope X.env }) (compPost (model X.prog X.w) X.A X.xe use QQ acc cenv.locals) s₄) X.xe s₃) X.xe s2:=by
 have hd2:H2 s2.heap.objs.size=none:=I2.fresh;refine Qjw (HH λh' hns hkeep hco=>?_)
 -- the state behind the list
 obtain⟨W,⟨m0,w0⟩,turn⟩:=q s2.heap.objs.size hd2;have I3:Inv X pins σ (upd H2 s2.heap.objs.size (.lst [])) { s2 with heap:=s2.heap.push { cls:=.type "list",data:=.seq ([]:List Value).toArray } }:=I2.ad8 (t':=s2.toks) .nil (Qxk _);have Dd:∀b∈fp,b<s2.heap.objs.size:=λb hb=>by
  obtain⟨o,e,_⟩:=T.obj _ _ st2 b hb;exact Qq9 e
 have f3:∀b∈fp,uq X pins (upd H2 s2.heap.objs.size (.lst [])) b:=λb hb=>by
  refine⟨?_,(f2 b hb).2⟩;rw[bG (Qxq (Dd b hb))];exact(f2 b hb).1
 have lt3:∀b∈fp,b<({ s2 with heap:=s2.heap.push { cls:=.type "list",data:=.seq ([]:List Value).toArray } }:Shared).heap.objs.size:=λb hb=>by
  show b<(s2.heap.push _).objs.size;rw[Qz3];exact Nat.lt_succ_of_lt (Dd b hb)
 have st3:tn 0 h':=T.keep _ _ _ st2 λb hb o e=>hkeep b o (Qq0 _ e);have I4:=TV (fp:=fp) ok I3 f3 lt3 hns hkeep hco;generalize hs3:({ s2 with heap:=s2.heap.push { cls:=.type "list",data:=.seq ([]:List Value).toArray } }:Shared)=s3 at *;have sz3:s3.heap.objs.size=s2.heap.objs.size+1:=by rw[<-hs3];exact Qz3 ..
 generalize hX':cxC X scope N' (cellsFrom (s3.heap.objs.size+1) scope.names (gJ X.env scope.names [])) s3.heap.objs.size s3 (upd H2 s2.heap.objs.size (.lst [])) fp=X' at I4;have at':jV X scope N' X':=⟨_,_,_,⟨_,I3.base.tabs⟩,_,hX'.symm⟩;have hg:=bg X' at';have hif:=bc X' at';have he:=be X' at';have eP:X'.prog=X.prog:=by rw[<-hX'];rfl
 have eW:X'.w=X.w:=by rw[<-hX'];rfl
 have eK:X'.K=X.K:=by rw[<-hX'];rfl
 have eA:X'.A=X.A:=by rw[<-hX'];rfl
 have eC:X'.calm=true:=by rw[<-hX'];exact hc
 have eX:X'.xe=λ_ _=>False:=by rw[<-hX'];rfl
 have ePn:X'.pn=[]:=by rw[<-hX'];rfl
 have eEx:X'.ex=fp:=by rw[<-hX'];rfl
 have eL:X'.env.locals=s3.heap.objs.size:=by rw[<-hX'];rfl
 have eFs:X'.fs=frs X.stack:=by rw[<-hX'];rfl
 have agu:compEnvC scope (cellsFrom (s3.heap.objs.size+1) scope.names (gJ X.env scope.names [])) s3.heap.objs.size X.env=X'.env:=by rw[<-hX'];rfl
 have eS0:X'.s₀=s3:=by rw[<-hX'];rfl
 have eH0:X'.H₀=upd H2 s2.heap.objs.size (.lst []):=by rw[<-hX'];rfl
 -- what is true of the iterator's objects in the block
 have stat:∀{H':Hp},(∀b∈fp,H' b=none)->∀b∈fp,uq X' [] H' b:=λ{H'} hn b hb=>by
  refine⟨hn b hb,?_,?_,.inl (by rw[eEx];exact hb),λx c e=>?_,λp hp=>?_⟩
  ·rw[eL];exact Qxq (lt3 b hb)
  ·have:=I4.ok.Uc b (by rw[eEx];exact hb);exact this
  ·exact(I4.ok.exf b (by rw[eEx];exact hb)).2 x c e
  ·rw[ePn] at hp;exact absurd hp (by simp)
 -- the outer context again
 have back:∀σ' H' s',Inv X' [] σ' H' s'->Inv X pins σ H' s':=λσ' H' s' J'=>by
  have hb:=J'.base;rw[eFs,eEx,eS0,eH0] at hb;have hos:=J'.os;rw[eS0] at hos;have hok:=J'.hok;rw[eP,eW] at hok;exact I3.call' (ch:=fp) hos hb hok J'.bare λb hbm=>⟨(f3 b hbm).2.2.2.1,(f3 b hbm).2.1,(f3 b hbm).2.2.2.2.1,(f3 b hbm).2.2.2.2.2⟩
 have loop:∀s4:Shared,s4 = { s3 with heap:=h' }->codeAny (model X.prog X.w) X.A (.compLoop (.ListComp elt [⟨tg,iter,ifs,0⟩] scope pos) 0 (.ref it) (.ref s2.heap.objs.size) X'.env) (compPost (model X.prog X.w) X.A X.xe use QQ (.ref s2.heap.objs.size) s3.heap.objs.size) s4:=by
  rintro s4 rfl;refine FT (λn s'=>∃i σ' H',Inv X' [] σ' H' s'/\tn i s'.heap/\(∀b∈fp,H' b=none)/\W i n σ' H') ?_ m0 ⟨0,_,_,I4,st3,λb hb=>(f3 b hb).1,w0⟩;rintro n s5 ⟨i,σ5,H5,I5,st5,fr5,w5⟩;rcases turn i n σ5 H5 w5 with ⟨stop,qn⟩|⟨go,N,hN,step⟩
  ·have td:=T.done X' eP eW eK eC i [] s5 σ5 H5 (λ_ _=>False) I5 (stat fr5) st5 stop;rw[eA] at td;refine fK td λr s6 ⟨hr,I6⟩=>?_;subst hr;obtain⟨mC,hnC,_⟩:=id I6.loc;rw[eL] at hnC;have lc:X.env.locals<s3.heap.objs.size:=by
    have:=I3.lt;exact this
   refine fin _ _ mC s6 H5 (back _ _ _ I6) qn hnC ?_ (Qjk lc) I3.sz (λx c e=>?_) (λp hp=>?_)
   ·have:=I6.free;rw[eL] at this;exact this
   ·obtain⟨v,z⟩:=I3.cell x c e;exact Qxq z.lt
   ·exact Qxq (Qq9 (I3.pin p hp).1)
  ·have ti:=T.item X' eP eW eK eC i [] s5 σ5 H5 (λ_ _=>False) I5 (stat fr5) st5 go;rw[eA] at ti;refine fK ti λr s6 ⟨u,hr,h6⟩=>?_;subst hr;refine fK h6 λ_ s7 ⟨x,H7,I7,r7,y7,st7,fr7⟩=>?_;have I7':=I7.pinned (stat fr7) (T.obj _ _ st7);have hg':=hg _ s7 σ5 H7 x u _ I7' r7 (step x H7 y7);rw[eP,eW,eA,eX] at hg';refine fK hg' λ_ s8 ⟨σ8,H8,I8,q8⟩=>?_;have aen:=hif _ s8 σ8 H8 _ I8 q8;rw[eP,eW,eA,eX] at aen;refine fK aen λb s9 ⟨H9,I9,q9⟩=>?_;have again:∀{σz:St} {Hz:Hp} {sz:Shared},Inv X' ([]++zA fp s7.heap) σz Hz sz->N σz Hz->∃m,m<n/\∃i σ' H',Inv X' [] σ' H' sz/\tn i sz.heap/\(∀b∈fp,H' b=none)/\W i m σ' H':=λ{σz Hz sz} Iz nz=>by
    obtain⟨m',hm,wz⟩:=hN σz Hz nz;refine⟨m',hm,i+1,σz,Hz,Iz.uy,T.keep _ _ _ st7 λb hb o e=>(Iz.pin (b,o) (Qxz _ (Qxz _ (pJ hb e)))).1,λb hb=>?_,wz⟩;obtain⟨o,e,d⟩:=T.obj _ _ st7 b hb;exact(Iz.pin (b,o) (Qxz _ (Qxz _ (pJ hb e)))).2.1
   cases b with
   | false=>
    rw[if_neg Qw6] at q9 ⊢;exact again I9 q9
   | true=>
    rw[if_pos rfl] at q9 ⊢;have he':=he _ s9 σ8 H9 _ I9 q9;rw[eP,eW,eA,eX] at he';refine fK he' λy sa ⟨yv,Ha,Ia,ra,ys,hys,hlen,qa⟩=>?_;have ap:=Dc (X:=X') _ sa σ8 Ha (.ref s2.heap.objs.size) [yv] (.ref s2.heap.objs.size) [y] (λv H'=>v = .non/\N σ8 H') Ia rfl (.cons ra .nil) ⟨_,ys,yv,rfl,rfl,hys,hlen,rfl,qa⟩;rw[eP,eW,eA,eX] at ap;refine fK ap λ_ sb ⟨vb,Hb,Ib,rb,_,nb⟩=>?_;exact again Ib nb
 show codeAny _ _ (.compStart _ 0 (.ref it) (.ref s2.heap.objs.size) (compEnvC scope (cellsFrom (s3.heap.objs.size+1) scope.names (gJ X.env scope.names [])) s3.heap.objs.size X.env)) (compPost (model X.prog X.w) X.A X.xe use QQ (.ref s2.heap.objs.size) s3.heap.objs.size) _;rw[agu];exact codeAny_compStart_list (loop _ rfl) (T.self X.A 0 _ _ _ st3 (loop _ rfl))
theorem adM{X:Cx}{elt tg iter:Expr}{ifs:List Expr}{scope:Scope}{N':List Str}{pos:Pos}{wi:TI}{g:TG}{tc:TT}{te:TE}
  (ok:m9 X scope N') (hc:X.calm=true) (hi:PI X tg iter wi)
  (bg:∀X',jV X scope N' X'->PG X' tg g) (bc:∀X',jV X scope N' X'->PIf X' ifs tc) (be:∀X',jV X scope N' X'->PE X' elt te)
  (hs:∀x,foldedSetIterable iter X.env x=pure x:=by intro _;rfl) :
  PE X (.ListComp elt [⟨tg,iter,ifs,0⟩] scope pos) (tLC N'.length wi g tc te):=by
 intro pins s σ H Q I h;rw[eval_ListComp];have hfree:∀n,(n,NameKind.free)∈scope.names->∃c,X.env.cells.lookup n=some c:=λn hm=>I.ok.has n (ok.free _ hm rfl);refine wpAny_comprehension_free (use:=none) rfl hs (uh hfree) ok.kind (λx hx hl=>jm _ _ _ ok.nd (by rw[<-hl];exact hx)) ?_;refine fK (hi pins s σ H _ I h) λv s1 h1=>fK h1 λitv s2 h2=>?_;obtain⟨it,fp,tn,J,H2,e,I2,T,st2,f2,q⟩:=h2;subst e;refine Dn ok hc bg bc be I2 T st2 f2 q λd C m s' H' I' hq hn hC hL h0 hcell hpin=>?_;refine⟨m,hn,λh' hs'=>?_⟩;have I'':Inv X pins σ H' { s' with heap:=h',toks:=s'.toks }:=I'.turned (it:=C) (λb o hb e=>(hs'.2 b hb).trans e) hC hL (.inr h0) hcell hpin;exact⟨.ref d,H',I'',rfl,hq⟩
theorem RV{X:Cx}{elt tg iter:Expr}{ifs:List Expr}{scope:Scope}{N':List Str}{pos spos py:Pos}{wi:TI}{g:TG}{tc:TT}{te:TE}{i:Nat}{y:Str}
  (ok:m9 X scope N') (hc:X.calm=true) (hi:PI X tg iter wi)
  (bg:∀X',jV X scope N' X'->PG X' tg g) (bc:∀X',jV X scope N' X'->PIf X' ifs tc) (be:∀X',jV X scope N' X'->PE X' elt te)
  (hN:X.N.Nodup) (hy:X.N[i]? = some y) (hx:Loc X.env.scope y)
  (hsw:swapsWith (.ListComp elt [⟨tg,iter,ifs,0⟩] scope pos) (some (.Name y py)) spos.line X.env=pure true)
  (hf:X.fn y=true\/X.env.scope.names.lookup y=some .local:=by first|exact .inl rfl|exact .inr rfl|assumption)
  (hs:∀x,foldedSetIterable iter X.env x=pure x:=by intro _;rfl) :
  PS X (.Assign [.Name y py] (.ListComp elt [⟨tg,iter,ifs,0⟩] scope pos) spos) (VD (tLC N'.length wi g tc te) (Ip i)):=by
 intro pins s σ H D I h;rw[exec_Assign_Name_used _ _ _ _ hsw];refine Qqz (wpAny_standAt (Qqz ?_));have hfree:∀n,(n,NameKind.free)∈scope.names->∃c,X.env.cells.lookup n=some c:=λn hm=>I.ok.has n (ok.free _ hm rfl);show wpAny _ X.A (do let _ <-comprehension (.ListComp elt [⟨tg,iter,ifs,0⟩] scope pos) scope X.env _ (newList []) false (eval iter X.env) (some (assign (.Name y py) X.env))) _ _ s;refine Qqz (Qz2 (wpAny_comprehension_free (use:=some (assign (.Name y py) X.env)) (Q:=λ_ s'=>SP X pins D .next s') rfl hs (uh hfree) ok.kind (λx hx hl=>jm _ _ _ ok.nd (by rw[<-hl];exact hx)) ?_) (λ_ s' hq=>Qq5 (Qq5 hq)) λ_ _ e=>e);refine fK (hi pins s σ H _ I h) λv s1 h1=>fK h1 λitv s2 h2=>?_;obtain⟨it,fp,tn,J,H2,e,I2,T,st2,f2,q⟩:=h2;subst e;refine Dn (Q:=λx H1=>Ip i x σ H1 D.nx) ok hc bg bc be I2 T st2 f2 q λd C m s' H' I' hq hn hC hL h0 hcell hpin=>?_;refine wpAny_assign_Name (Cr (v:=.ref d) I' hN hy hx rfl (λs'' I'' sb=>?_) hf);obtain⟨a,hsb,ha⟩:=sb;have haC:C≠a:=by
  rcases ha with z|z
  ·rw[z];exact hL
  ·exact(hcell y a z).symm
 refine⟨m,hn.sameBut hsb haC,λh' hs'=>?_⟩;have I3:Inv X pins (σ.set i (some (.ref d))) H' { s'' with heap:=h',toks:=s''.toks }:=I''.turned (it:=C) (λb o hb e=>(hs'.2 b hb).trans e) hC hL (.inr h0) hcell hpin;exact⟨_,H',I3,hq⟩
end L2
namespace Ev
open PySem PySem.Spec PyProof.Rows L2
inductive D where
 | non
 | bl (b:Bool)
 | int (i:Int)
 | str (x:List Nat)
 | tup (xs:List D)
 | lst (xs:List D)
 | arr (xs:List D)
 | dct (kvs:List (D×D))
 | iz (kvs:List (D×D))
 | clo (st:Stmt) (ds:List D)
 deriving Inhabited
abbrev Fg:=PySem.W.Frag
def strOf(x:List Nat):Str:=⟨x.toArray⟩
def ql:D->Option Key
 | .int i=>some (.inl i)
 | .str x=>some (.inr (strOf x))
 | _=>none
mutual
def rR:D->Option NK
 | .int i=>some (.num i)
 | .bl b=>some (.num (if b then 1 else 0))
 | .str x=>some (.txt (strOf x))
 | .tup xs=>(Bx xs).map .tup
 | _=>none
def Bx:List D->Option (List NK)
 | []=>some []
 | d::ds=>match rR d,Bx ds with
  | some k,some ks=>some (k::ks)
  | _,_=>none
end
def defName(s:Stmt):Str:=match s with
 | .FunctionDef n _ _ _ _ _ _ _ _ _=>n
 | _=>""
def freeOf(s:Stmt):List Str:=(((aK s).names.filter (·.2 == .free)).map (·.1)).reverse
def Vc(F:Hp)(c:Addr)(v:V):Prop:=∃(o:Obj) (u:HO) (w:Value),F c=some (.lD o u)/\o.data = .cell (some w)/\RelV v w
def qd(F:Hp):List (Str×Addr)->List V->Prop
 | [],vs=>vs=[]
 | (_,c)::r,vs=>∃v vs',vs=v::vs'/\Vc F c v/\qd F r vs'
def acx(F:Hp)(c:Addr)(q:Str):Prop:=∃(o:Obj) (u:HO) (vs:Array Value) (t:Tok),F c=some (.lD o u)/\o.data = .fields vs/\vs[1]? = some (.str q t)
def agP(F:Hp)(st:Stmt)(a:Addr)(vs:List V):Prop:=∃(u:HO) (q:Str) (cl:List (Str×Addr)) (doc pm ctv:Value) (c:Addr),
 F a=some (.lD (PySem.W.fnMade (defName st) q (f9 st) (cI st) (aK st) cl doc pm c ctv) u)/\acx F c q/\cl.map (·.1)=freeOf st/\(cl.map (·.2)).Nodup/\qd F cl vs
theorem aO.cells{F F':Hp}(e:aO F F'):∀{cl:List (Str×Addr)} {vs:List V},qd F cl vs->qd F' cl vs
 | [],_,h=>h
 | (_,c)::r,_,⟨v,vs',h0,⟨o,u,w,h1,h2⟩,h3⟩=>⟨v,vs',h0,⟨o,u,w,e _ _ h1,h2⟩,aO.cells e h3⟩
def Mark(K:Fg)(st:Stmt)(a:Addr):Prop:=∃(n:Str) (p:Pos) (oc:Value) (od:Option Addr) (fd:FuncData) (sl:Array (Option Value)),st = .Global [n] p/\PySem.W.nsIn K mainGlobals n=some (some (.ref a))/\K.lookup a=some ⟨oc,od,.func fd,sl⟩
def aef(st:Stmt):Bool:=match st with
 | .Global _ _=>true
 | _=>false
def Clo(K:Fg)(F:Hp)(st:Stmt)(a:Addr)(vs:List V):Prop:=agP F st a vs/\aef st=false\/Mark K st a
theorem aO.clo{K:Fg}{F F':Hp}{st:Stmt}{a:Addr}{vs:List V}(e:aO F F')(h:Clo K F st a vs):Clo K F' st a vs:=by
 rcases h with ⟨h,hg⟩|h
 rotate_left
 ·exact .inr h
 refine .inl ⟨?_,hg⟩;obtain⟨u,q,cl,doc,pm,ctv,c,h1,⟨o,u2,ws,t,h2,h3⟩,h4,h5,h6⟩:=h;exact⟨u,q,cl,doc,pm,ctv,c,e _ _ h1,⟨o,u2,ws,t,e _ _ h2,h3⟩,h4,h5,aO.cells e h6⟩
mutual
def Rep(K:Fg)(F:Hp):D->V->Prop
 | .non,v=>v = .non
 | .bl b,v=>v = .bl b
 | .int i,v=>v = .int i
 | .str x,v=>v = .str (strOf x)/\x.length<=sizeLine
 | .tup xs,v=>xs.length<=sizeLine/\∃a vs,v = .ref a/\mD K F a vs/\bL K F xs vs
 | .lst xs,v=>xs.length<=sizeLine/\∃a vs,v = .ref a/\F a=some (.lst vs)/\bL K F xs vs
 | .arr xs,v=>xs.length<=sizeLine/\∃a vs,v = .ref a/\o7 K F a vs/\bL K F xs vs
 | .dct kvs,v=>kvs.length<=sizeLine/\∃a ks,v = .ref a/\Rd F a (.dK ks)/\dX K F kvs ks
 | .iz kvs,v=>kvs.length<=sizeLine/\∃a ks,v = .ref a/\Rd F a (.dN ks)/\dB K F kvs ks
 | .clo st ds,v=>∃a vs,v = .ref a/\Clo K F st a vs/\bL K F ds vs
def bL(K:Fg)(F:Hp):List D->List V->Prop
 | [],vs=>vs=[]
 | d::ds,vs=>∃v r,vs=v::r/\Rep K F d v/\bL K F ds r
def dX(K:Fg)(F:Hp):List (D×D)->List (Key×V)->Prop
 | [],vs=>vs=[]
 | (k,d)::ds,vs=>∃q v r,vs=(q,v)::r/\ql k=some q/\Rep K F d v/\dX K F ds r
def dB(K:Fg)(F:Hp):List (D×D)->List (NK×V×V)->Prop
 | [],vs=>vs=[]
 | (k,d)::ds,vs=>∃q u v r,vs=(q,u,v)::r/\rR k=some q/\q.dep<=8/\Rep K F k u/\Rep K F d v/\dB K F ds r
end
theorem aO.rd{F F':Hp}{a:Addr}{u:HO}(e:aO F F')(h:Rd F a u):Rd F' a u:=by
 rcases h with h|⟨o,h⟩
 ·exact .inl (e _ _ h)
 ·exact .inr ⟨o,e _ _ h⟩
theorem aO.tupK{K:Fg}{F F':Hp}{a:Addr}{xs:List V}(e:aO F F')(h:mD K F a xs):mD K F' a xs:=by
 rcases h with h|h
 ·exact .inl (aO.rd e h)
 ·exact .inr h
mutual
theorem Rep.mono{K:Fg}{F F':Hp}(e:aO F F'):∀(d:D) (v:V),Rep K F d v->Rep K F' d v
 | .non,_,h=>h
 | .bl _,_,h=>h
 | .int _,_,h=>h
 | .str _,_,h=>h
 | .tup xs,v,h=>by
  obtain⟨z,a,vs,rfl,h1,h2⟩:=h;exact⟨z,a,vs,rfl,aO.tupK e h1,bL.mono e xs vs h2⟩
 | .lst xs,v,h=>by
  obtain⟨z,a,vs,rfl,h1,h2⟩:=h;exact⟨z,a,vs,rfl,e _ _ h1,bL.mono e xs vs h2⟩
 | .arr xs,v,h=>by
  obtain⟨z,a,vs,rfl,h1,h2⟩:=h;exact⟨z,a,vs,rfl,e.seq h1,bL.mono e xs vs h2⟩
 | .dct kvs,v,h=>by
  obtain⟨z,a,ks,rfl,h1,h2⟩:=h;exact⟨z,a,ks,rfl,aO.rd e h1,dX.mono e kvs ks h2⟩
 | .iz kvs,v,h=>by
  obtain⟨z,a,ks,rfl,h1,h2⟩:=h;exact⟨z,a,ks,rfl,aO.rd e h1,dB.mono e kvs ks h2⟩
 | .clo st ds,v,h=>by
  obtain⟨a,vs,rfl,h1,h2⟩:=h;exact⟨a,vs,rfl,aO.clo e h1,bL.mono e ds vs h2⟩
theorem bL.mono{K:Fg}{F F':Hp}(e:aO F F'):∀(ds:List D) (vs:List V),bL K F ds vs->bL K F' ds vs
 | [],_,h=>h
 | d::ds,vs,h=>by
  obtain⟨v,r,rfl,h1,h2⟩:=h;exact⟨v,r,rfl,Rep.mono e d v h1,bL.mono e ds r h2⟩
theorem dX.mono{K:Fg}{F F':Hp}(e:aO F F'):∀(ds:List (D×D)) (vs:List (Key×V)),dX K F ds vs->dX K F' ds vs
 | [],_,h=>h
 | (k,d)::ds,vs,h=>by
  obtain⟨q,v,r,rfl,h0,h1,h2⟩:=h;exact⟨q,v,r,rfl,h0,Rep.mono e d v h1,dX.mono e ds r h2⟩
theorem dB.mono{K:Fg}{F F':Hp}(e:aO F F'):∀(ds:List (D×D)) (vs:List (NK×V×V)),dB K F ds vs->dB K F' ds vs
 | [],_,h=>h
 | (k,d)::ds,vs,h=>by
  obtain⟨q,u,v,r,rfl,h0,h3,h4,h1,h2⟩:=h;exact⟨q,u,v,r,rfl,h0,h3,Rep.mono e k u h4,Rep.mono e d v h1,dB.mono e ds r h2⟩
end
theorem bL.length{K:Fg}{F:Hp}:∀{ds:List D} {vs:List V},bL K F ds vs->vs.length=ds.length
 | [],_,h=>by cases h;rfl
 | d::ds,vs,h=>by
  obtain⟨v,r,rfl,_,h2⟩:=h;rw[Qqy,Qqy,h2.length]
theorem bL.get{K:Fg}{F:Hp}:∀{ds:List D} {vs:List V} {i:Nat} {d:D},bL K F ds vs->ds[i]? = some d->∃v,vs[i]? = some v/\Rep K F d v
 | [],_,_,_,_,e=>by simp at e
 | c::ds,vs,i,d,h,e=>by
  obtain⟨v,r,rfl,h1,h2⟩:=h;cases i with
  | zero=>simp at e;subst e;exact⟨v,rfl,h1⟩
  | succ i=>obtain⟨u,e1,e2⟩:=bL.get h2 (i:=i) (by simpa using e);exact⟨u,by simpa using e1,e2⟩
theorem bL.append{K:Fg}{F:Hp}:∀{ds es:List D} {vs ws:List V},bL K F ds vs->bL K F es ws->bL K F (ds++es) (vs++ws)
 | [],es,vs,ws,h,g=>by cases h;exact g
 | d::ds,es,vs,ws,h,g=>by
  obtain⟨v,r,rfl,h1,h2⟩:=h;exact⟨v,r++ws,rfl,h1,bL.append h2 g⟩
theorem bL.drop{K:Fg}{F:Hp}:∀(n:Nat) {ds:List D} {vs:List V},bL K F ds vs->bL K F (ds.drop n) (vs.drop n)
 | 0,_,_,h=>h
 | _+1,[],_,h=>by cases h;exact rfl
 | n+1,d::ds,vs,h=>by
  obtain⟨v,r,rfl,_,h2⟩:=h;exact bL.drop n h2
theorem bL.take{K:Fg}{F:Hp}:∀(n:Nat) {ds:List D} {vs:List V},bL K F ds vs->bL K F (ds.take n) (vs.take n)
 | 0,_,_,_=>rfl
 | _+1,[],_,h=>by cases h;exact rfl
 | n+1,d::ds,vs,h=>by
  obtain⟨v,r,rfl,h1,h2⟩:=h;exact⟨v,r.take n,rfl,h1,bL.take n h2⟩
theorem bL.set{K:Fg}{F:Hp}{d:D}{v:V}(hd:Rep K F d v):∀(i:Nat) {ds:List D} {vs:List V},bL K F ds vs->bL K F (ds.set i d) (vs.set i v)
 | _,[],_,h=>by cases h;exact rfl
 | 0,c::ds,vs,h=>by
  obtain⟨u,r,rfl,_,h2⟩:=h;exact⟨v,r,rfl,hd,h2⟩
 | i+1,c::ds,vs,h=>by
  obtain⟨u,r,rfl,h1,h2⟩:=h;exact⟨u,r.set i v,rfl,h1,bL.set hd i h2⟩
theorem bL.one{K:Fg}{F:Hp}{d:D}{v:V}(h:Rep K F d v):bL K F [d] [v]:=⟨v,[],rfl,h,rfl⟩
abbrev Env:=List (Option (Bool×D))
inductive R (α:Type) where
 | ok (a:α) (env:Env)
 | stuck
abbrev Ev:=Env->R D
abbrev gn:=Env->R Bool
abbrev eN:=Env->R (List D)
structure Cfg where
 K:Fg
 fx:Nat->Option Addr
def j4(K:Fg)(F H:Hp):D->Addr->Prop
 | .lst xs,a=>xs.length<=sizeLine/\∃vs,H a=some (.lst vs)/\bL K F xs vs
 | .dct kvs,a=>kvs.length<=sizeLine/\∃ks,H a=some (.dK ks)/\dX K F kvs ks
 | .iz kvs,a=>kvs.length<=sizeLine/\∃ks,H a=some (.dN ks)/\dB K F kvs ks
 | _,_=>False
theorem j4.mono{K:Fg}{F F' H H':Hp}(e:aO F F'){d:D}{a:Addr}(k:H' a=H a)(h:j4 K F H d a):j4 K F' H' d a:=by
 cases d with
 | lst xs=>obtain⟨z,vs,h1,h2⟩:=h;exact⟨z,vs,k.trans h1,bL.mono e _ _ h2⟩
 | dct kvs=>obtain⟨z,ks,h1,h2⟩:=h;exact⟨z,ks,k.trans h1,dX.mono e _ _ h2⟩
 | iz kvs=>obtain⟨z,ks,h1,h2⟩:=h;exact⟨z,ks,k.trans h1,dB.mono e _ _ h2⟩
 | _=>exact h
theorem j4.some{K:Fg}{F H:Hp}{d:D}{a:Addr}(h:j4 K F H d a):∃o,H a=some o:=by
 cases d with
 | lst xs=>obtain⟨z,vs,h1,h2⟩:=h;exact⟨_,h1⟩
 | dct kvs=>obtain⟨z,ks,h1,h2⟩:=h;exact⟨_,h1⟩
 | iz kvs=>obtain⟨z,ks,h1,h2⟩:=h;exact⟨_,h1⟩
 | _=>exact h.elim
def ir(K:Fg)(F H:Hp)(d:D)(v:V):Prop:=Rep K F d v\/∃a,v = .ref a/\j4 K F H d a
theorem ir.rep{K:Fg}{F H:Hp}{d:D}{v:V}(s:aO F H)(h:ir K F H d v):Rep K H d v:=by
 rcases h with h|⟨a,rfl,h⟩
 ·exact Rep.mono s d v h
 ·cases d with
  | lst xs=>obtain⟨z,vs,h1,h2⟩:=h;exact⟨z,a,vs,rfl,h1,bL.mono s _ _ h2⟩
  | dct kvs=>obtain⟨z,ks,h1,h2⟩:=h;exact⟨z,a,ks,rfl,.inl h1,dX.mono s _ _ h2⟩
  | iz kvs=>obtain⟨z,ks,h1,h2⟩:=h;exact⟨z,a,ks,rfl,.inl h1,dB.mono s _ _ h2⟩
  | _=>exact h.elim
theorem ir.lst{K:Fg}{F H:Hp}{xs:List D}{v:V}(s:aO F H)(h:ir K F H (.lst xs) v):xs.length<=sizeLine/\∃a vs,v = .ref a/\H a=some (.lst vs)/\bL K F xs vs:=by
 rcases h with ⟨z,a,vs,rfl,h1,h2⟩|⟨a,rfl,z,vs,h1,h2⟩
 ·exact⟨z,a,vs,rfl,s _ _ h1,h2⟩
 ·exact⟨z,a,vs,rfl,h1,h2⟩
theorem ir.arr{K:Fg}{F H:Hp}{xs:List D}{v:V}(s:aO F H)(h:ir K F H (.arr xs) v):xs.length<=sizeLine/\∃a vs,v = .ref a/\o7 K H a vs/\bL K F xs vs:=by
 rcases h with ⟨z,a,vs,rfl,h1,h2⟩|⟨a,rfl,h⟩
 ·exact⟨z,a,vs,rfl,s.seq h1,h2⟩
 ·exact h.elim
theorem ir.tup{K:Fg}{F H:Hp}{xs:List D}{v:V}(s:aO F H)(h:ir K F H (.tup xs) v):xs.length<=sizeLine/\∃a vs,v = .ref a/\mD K H a vs/\mD K F a vs/\bL K F xs vs:=by
 rcases h with ⟨z,a,vs,rfl,h1,h2⟩|⟨a,rfl,h⟩
 ·exact⟨z,a,vs,rfl,aO.tupK s h1,h1,h2⟩
 ·exact h.elim
theorem ir.int{K:Fg}{F H:Hp}{i:Int}{v:V}(h:ir K F H (.int i) v):v = .int i:=by
 rcases h with h|⟨a,rfl,h⟩
 ·exact h
 ·exact h.elim
theorem ir.bl{K:Fg}{F H:Hp}{i:Bool}{v:V}(h:ir K F H (.bl i) v):v = .bl i:=by
 rcases h with h|⟨a,rfl,h⟩
 ·exact h
 ·exact h.elim
theorem ir.non{K:Fg}{F H:Hp}{v:V}(h:ir K F H .non v):v = .non:=by
 rcases h with h|⟨a,rfl,h⟩
 ·exact h
 ·exact h.elim
theorem ir.str{K:Fg}{F H:Hp}{x:List Nat}{v:V}(h:ir K F H (.str x) v):v = .str (strOf x)/\x.length<=sizeLine:=by
 rcases h with h|⟨a,rfl,h⟩
 ·exact h
 ·exact h.elim
structure Rel(C:Cfg)(Pr F:Hp)(env:Env)(σ:L2.St)(H:Hp):Prop where
 pr:aO Pr H
 fr:aO F H
 len:env.length=σ.length
 val:∀(i:Nat) (d:D),env[i]? = some (some (false,d))->∃v,σ[i]? = some (some v)/\Rep C.K F d v
 own:∀(i:Nat) (d:D),env[i]? = some (some (true,d))->∃a,σ[i]? = some (some (V.ref a))/\j4 C.K F H d a/\F a=none/\Pr a=none
 apart:∀(i j:Nat) (d e:D) (a:Addr),env[i]? = some (some (true,d))->env[j]? = some (some (true,e))->σ[i]? = some (some (V.ref a))->σ[j]? = some (some (V.ref a))->i=j
 dj:∀b o,F b=some o->Pr b=none
 fix:∀i a,C.fx i=some a->σ[i]? = some (some (V.ref a))
theorem mO{H:Hp}{a:Addr}{o:HO}(h:H a=none):aO H (upd H a o):=λb u e=>by
 rw[bG (cV e h)];exact e
theorem Rel.new{C:Cfg}{Pr F:Hp}{env:Env}{σ:L2.St}{H:Hp}{a:Addr}{o:HO}(r:Rel C Pr F env σ H)(h:H a=none):Rel C Pr (upd F a o) env σ (upd H a o)/\aO F (upd F a o):=by
 have hF:F a=none:=r.fr.free h;have s1:aO F (upd F a o):=mO hF;refine⟨⟨r.pr.trans (mO h),λb u e=>?_,r.len,λi d e1=>?_,λi d e1=>?_,r.apart,λb u e=>?_,r.fix⟩,s1⟩
 ·by_cases hb:b=a
  ·subst hb;rw[aW] at e ⊢;exact e
  ·rw[bG hb] at e ⊢;exact r.fr b u e
 ·obtain⟨v,h1,h2⟩:=r.val i d e1;exact⟨v,h1,Rep.mono s1 d v h2⟩
 ·obtain⟨b,h1,h2,h3,h4⟩:=r.own i d e1;obtain⟨u,hu⟩:=h2.some;have hb:b≠a:=cV hu h;exact⟨b,h1,h2.mono s1 (bG hb),by rw[bG hb];exact h3,h4⟩
 ·by_cases hb:b=a
  ·subst hb;exact r.pr.free h
  ·rw[bG hb] at e;exact r.dj b u e
theorem Rel.fresh{C:Cfg}{Pr F:Hp}{env:Env}{σ:L2.St}{H:Hp}{a:Addr}{o:HO}(r:Rel C Pr F env σ H)(h:H a=none):Rel C Pr F env σ (upd H a o):=by refine⟨r.pr.trans (mO h),r.fr.trans (mO h),r.len,r.val,λi d e1=>?_,r.apart,r.dj,r.fix⟩;obtain⟨b,h1,h2,h3,h4⟩:=r.own i d e1;obtain⟨u,hu⟩:=h2.some;have hb:b≠a:=cV hu h;exact⟨b,h1,h2.mono (aO.refl F) (bG hb),h3,h4⟩
theorem Rel.aside{C:Cfg}{Pr F:Hp}{env:Env}{σ:L2.St}{H:Hp}{a:Addr}{o:HO}(r:Rel C Pr F env σ H)(h:H a=none):Rel C (upd Pr a o) F env σ (upd H a o):=by
 have r':=r.fresh (o:=o) h;have hF:F a=none:=r.fr.free h;refine⟨λb u e=>?_,r'.fr,r.len,r.val,λi d e1=>?_,r.apart,λb u e=>?_,r.fix⟩
 ·by_cases hb:b=a
  ·subst hb;rw[aW] at e ⊢;exact e
  ·rw[bG hb] at e ⊢;exact r.pr b u e
 ·obtain⟨b,h1,h2,h3,h4⟩:=r'.own i d e1;obtain⟨b',h1',h2',_⟩:=r.own i d e1;rw[h1] at h1';cases h1';obtain⟨u,hu⟩:=h2'.some;have hb:b≠a:=cV hu h;exact⟨b,h1,h2,h3,by rw[bG hb];exact h4⟩
 ·have hb:b≠a:=λz=>by rw[z,hF] at e;cases e
  rw[bG hb];exact r.dj b u e
theorem Rel.turn{C:Cfg}{Pr F:Hp}{env:Env}{σ:L2.St}{H:Hp}{a:Addr}{o u:HO}(r:Rel C Pr F env σ H)(h:Pr a=some o):Rel C (upd Pr a u) F env σ (upd H a u):=by
 have hF:F a=none:=by
  cases e:F a with
  | none=>rfl
  | some w=>have:=r.dj a w e;rw[h] at this;cases this
 refine⟨λb w e=>?_,λb w e=>?_,r.len,r.val,λi d e1=>?_,r.apart,λb w e=>?_,r.fix⟩
 ·by_cases hb:b=a
  ·subst hb;rw[aW] at e ⊢;exact e
  ·rw[bG hb] at e ⊢;exact r.pr b w e
 ·have hb:b≠a:=λz=>by rw[z,hF] at e;cases e
  rw[bG hb];exact r.fr b w e
 ·obtain⟨b,h1,h2,h3,h4⟩:=r.own i d e1;have hb:b≠a:=λz=>by rw[z,h] at h4;cases h4
  exact⟨b,h1,h2.mono (aO.refl F) (bG hb),h3,by rw[bG hb];exact h4⟩
 ·have hb:b≠a:=λz=>by rw[z,hF] at e;cases e
  rw[bG hb];exact r.dj b w e
theorem Rel.less{C:Cfg}{Pr Pr' F:Hp}{env:Env}{σ:L2.St}{H:Hp}(r:Rel C Pr F env σ H)(s:aO Pr' Pr):Rel C Pr' F env σ H:=
 ⟨s.trans r.pr,r.fr,r.len,r.val,λi d e=>let ⟨b,h1,h2,h3,h4⟩:=r.own i d e;⟨b,h1,h2,h3,s.free h4⟩,r.apart,λb o e=>s.free (r.dj b o e),r.fix⟩
theorem Rel.freeze{C:Cfg}{Pr F:Hp}{env:Env}{σ:L2.St}{H:Hp}(r:Rel C Pr F env σ H){i:Nat}{d:D}(h:env[i]? = some (some (true,d))) :
  ∃(F':Hp) (v:V),Rel C Pr F' (env.set i (some (false,d))) σ H/\aO F F'/\σ[i]? = some (some v)/\Rep C.K F' d v:=by
 obtain⟨a,h1,h2,h3,h4⟩:=r.own i d h;obtain⟨o,ho⟩:=h2.some;have s1:aO F (upd F a o):=mO h3;have hi:i<env.length:=(Qqw.mp h).1;have rep:Rep C.K (upd F a o) d (.ref a):=by
  cases d with
  | lst xs=>obtain⟨z,vs,g1,g2⟩:=h2;rw[ho] at g1;cases g1;exact⟨z,a,vs,rfl,aW,bL.mono s1 _ _ g2⟩
  | dct kvs=>obtain⟨z,ks,g1,g2⟩:=h2;rw[ho] at g1;cases g1;exact⟨z,a,ks,rfl,.inl aW,dX.mono s1 _ _ g2⟩
  | iz kvs=>obtain⟨z,ks,g1,g2⟩:=h2;rw[ho] at g1;cases g1;exact⟨z,a,ks,rfl,.inl aW,dB.mono s1 _ _ g2⟩
  | _=>exact h2.elim
 refine⟨upd F a o,.ref a,⟨r.pr,λb u e=>?_,by rw[Qx0];exact r.len,λj e he=>?_,λj e he=>?_,λj k e f b hj hk g1 g2=>?_,λb u e=>?_,r.fix⟩,s1,h1,rep⟩
 ·by_cases hb:b=a
  ·subst hb;rw[aW] at e;cases e;exact ho
  ·rw[bG hb] at e;exact r.fr b u e
 ·by_cases hj:j=i
  ·subst hj;rw[Qwv hi] at he;cases he;exact⟨_,h1,rep⟩
  ·rw[Qq7 (Ne.symm hj)] at he;obtain⟨v,g1,g2⟩:=r.val j e he;exact⟨v,g1,Rep.mono s1 e v g2⟩
 ·by_cases hj:j=i
  ·subst hj;rw[Qwv hi] at he;cases he
  ·rw[Qq7 (Ne.symm hj)] at he;obtain⟨b,g1,g2,g3,g4⟩:=r.own j e he;have hb:b≠a:=λz=>hj (r.apart j i e d a he h (by rw[<-z];exact g1) h1);exact⟨b,g1,g2.mono s1 rfl,by rw[bG hb];exact g3,g4⟩
 ·have nj:j≠i:=λz=>by subst z;rw[Qwv hi] at hj;cases hj
  have nk:k≠i:=λz=>by subst z;rw[Qwv hi] at hk;cases hk
  rw[Qq7 (Ne.symm nj)] at hj;rw[Qq7 (Ne.symm nk)] at hk;exact r.apart j k e f b hj hk g1 g2
 ·by_cases hb:b=a
  ·subst hb;exact h4
  ·rw[bG hb] at e;exact r.dj b u e
def tE(C:Cfg)(ev:Ev):TE:=λσ H Q=>∃(Pr F:Hp) (env env':Env) (d:D),Rel C Pr F env σ H/\ev env = .ok d env'/\
 ∀v H' F',Rel C Pr F' env' σ H'->aO F F'->Rep C.K F' d v->Q v H'
def tRd(C:Cfg)(ev:Ev):TE:=λσ H Q=>∃(Pr F:Hp) (env env':Env) (d:D),Rel C Pr F env σ H/\ev env = .ok d env'/\
 ∀v H' F',Rel C Pr F' env' σ H'->aO F F'->ir C.K F' H' d v->Q v H'
def tT(C:Cfg)(ev:gn):TT:=λσ H Q=>∃(Pr F:Hp) (env env':Env) (b:Bool),Rel C Pr F env σ H/\ev env = .ok b env'/\
 ∀H' F',Rel C Pr F' env' σ H'->aO F F'->Q b H'
def tA(C:Cfg)(ev:eN):TA:=λσ H Q=>∃(Pr F:Hp) (env env':Env) (ds:List D),Rel C Pr F env σ H/\ev env = .ok ds env'/\
 ∀vs H' F',Rel C Pr F' env' σ H'->aO F F'->bL C.K F' ds vs->Q vs H'
def PX(X:Cx)(C:Cfg)(e:Expr)(ev:Ev):Prop:=PE X e (tE C ev)
def U6(X:Cx)(C:Cfg)(e:Expr)(ev:Ev):Prop:=PE X e (tRd C ev)
def PXT(X:Cx)(C:Cfg)(e:Expr)(ev:gn):Prop:=PT X e (tT C ev)
def U7(X:Cx)(C:Cfg)(es:List Expr)(ev:eN):Prop:=PA X es (tA C ev)
theorem _root_.L2.PE.imp{X:Cx}{e:Expr}{t t':TE}(h:PE X e t)(i:∀σ H Q,t' σ H Q->t σ H Q):PE X e t':=λpins s σ H Q I q=>h pins s σ H Q I (i σ H Q q)
theorem _root_.L2.PT.imp{X:Cx}{e:Expr}{t t':TT}(h:PT X e t)(i:∀σ H Q,t' σ H Q->t σ H Q):PT X e t':=λpins s σ H Q I q=>h pins s σ H Q I (i σ H Q q)
theorem _root_.L2.PW.imp{X:Cx}{e:Expr}{t t':TT}(h:PW X e t)(i:∀σ H Q,t' σ H Q->t σ H Q):PW X e t':=λwhole pins s σ H Q I q=>h whole pins s σ H Q I (i σ H Q q)
theorem _root_.L2.PA.imp{X:Cx}{e:List Expr}{t t':TA}(h:PA X e t)(i:∀σ H Q,t' σ H Q->t σ H Q):PA X e t':=λpos pins s σ H Q I q=>h pos pins s σ H Q I (i σ H Q q)
theorem _root_.L2.PS.imp{X:Cx}{e:Stmt}{t t':TS}(h:PS X e t)(i:∀D σ H,t' D σ H->t D σ H):PS X e t':=λpins s σ H D I q=>h pins s σ H D I (i D σ H q)
theorem _root_.L2.Gq.imp{X:Cx}{e:List Stmt}{t t':TS}(h:Gq X e t)(i:∀D σ H,t' D σ H->t D σ H):Gq X e t':=λpins s σ H D I q=>h pins s σ H D I (i D σ H q)
def bindR{α β:Type}(x:R α)(f:α->Env->R β):R β:=match x with
 | .ok a env=>f a env
 | .stuck=>.stuck
def iT{α:Type}(o:Option α)(env:Env):R α:=match o with
 | some a=>.ok a env
 | none=>.stuck
theorem aU{α β:Type}{x:R α}{f:α->Env->R β}{b:β}{env':Env}(h:bindR x f = .ok b env'):∃a aL,x = .ok a aL/\f a aL = .ok b env':=by
 cases x with
 | ok a aL=>exact⟨a,aL,rfl,h⟩
 | stuck=>cases h
theorem fU{α:Type}{o:Option α}{env env':Env}{a:α}(h:iT o env = .ok a env'):o=some a/\env'=env:=by
 cases o with
 | some b=>cases h;exact⟨rfl,rfl⟩
 | none=>cases h
section
variable{X:Cx}{C:Cfg}{pos:Pos}
def aM(i:Nat):Ev:=λenv=>match env[i]? with
 | some (some (false,d))=>.ok d env
 | some (some (true,d))=>.ok d (env.set i (some (false,d)))
 | _=>.stuck
theorem aaa(i:Nat){x:Str}(hN:X.N[i]? = some x)(hv:vH X.env.scope x)(hd:lR x:=by decide)(hcd:uR x:=by decide):PX X C (.Name x pos) (aM i):=by
 refine(iQ hN hv hd hcd).imp λσ H Q h=>?_;obtain⟨Pr,F,env,env',d,r,e,q⟩:=h;unfold aM at e;split at e
 ·rename_i d' hd';cases e;obtain⟨v,h1,h2⟩:=r.val i d hd';exact⟨v,h1,q v H F r (aO.refl F) h2⟩
 ·rename_i d' hd';cases e;obtain⟨F',v,r',s',h1,h2⟩:=r.freeze hd';exact⟨v,h1,q v H F' r' s' h2⟩
 ·cases e
theorem PX.b{e:Expr}{ev:Ev}(h:PX X C e ev):U6 X C e ev:=PE.imp h λσ H Q hq=>by
 obtain⟨Pr,F,env,env',d,r,e,q⟩:=hq;exact⟨Pr,F,env,env',d,r,e,λv H' F' r' s' p'=>q v H' F' r' s' (.inl p')⟩
def bh(i:Nat):Ev:=λenv=>match env[i]? with
 | some (some (_,d))=>.ok d env
 | _=>.stuck
theorem Rel.rd{Pr F:Hp}{env:Env}{σ:L2.St}{H:Hp}(r:Rel C Pr F env σ H){i:Nat}{o:Bool}{d:D}(h:env[i]? = some (some (o,d))):∃v,σ[i]? = some (some v)/\ir C.K F H d v:=by
 cases o with
 | true=>obtain⟨a,h1,h2,_⟩:=r.own i d h;exact⟨_,h1,.inr ⟨a,rfl,h2⟩⟩
 | false=>obtain⟨v,h1,h2⟩:=r.val i d h;exact⟨v,h1,.inl h2⟩
theorem Wg(i:Nat){x:Str}(hN:X.N[i]? = some x)(hv:vH X.env.scope x)(hd:lR x:=by decide)(hcd:uR x:=by decide):U6 X C (.Name x pos) (bh i):=by
 refine(iQ hN hv hd hcd).imp λσ H Q h=>?_;obtain⟨Pr,F,env,env',d,r,e,q⟩:=h;unfold bh at e;split at e
 ·rename_i o' d' hd';cases e;obtain⟨v,h1,h2⟩:=r.rd hd';exact⟨v,h1,q v H F r (aO.refl F) h2⟩
 ·cases e
def ji(d:D):Ev:=λenv=>.ok d env
theorem aaf{i:Int}{j:Nat}:PX X C (.Constant (.int i) j pos) (ji (.int i)):=R6.imp λσ H Q h=>by
 obtain⟨Pr,F,env,env',d,r,e,q⟩:=h;cases e;exact q _ _ F r (aO.refl F) rfl
theorem adF{b:Bool}{j:Nat}:PX X C (.Constant (.bool b) j pos) (ji (.bl b)):=adN.imp λσ H Q h=>by
 obtain⟨Pr,F,env,env',d,r,e,q⟩:=h;cases e;exact q _ _ F r (aO.refl F) rfl
theorem aad{j:Nat}:PX X C (.Constant .none j pos) (ji .non):=aaA.imp λσ H Q h=>by
 obtain⟨Pr,F,env,env',d,r,e,q⟩:=h;cases e;exact q _ _ F r (aO.refl F) rfl
def ak:eN:=λenv=>.ok [] env
def aa(a:Ev)(r:eN):eN:=λenv=>bindR (a env) λd aL=>bindR (r aL) λds fG=>.ok (d::ds) fG
theorem Mi:U7 X C [] ak:=tV.imp λσ H Q h=>by
 obtain⟨Pr,F,env,env',d,r,e,q⟩:=h;cases e;exact q _ _ F r (aO.refl F) rfl
theorem Ho{e:Expr}{es:List Expr}{a:Ev}{r:eN}(ha:PX X C e a)(hr:U7 X C es r)(hs:starEach (e::es) X.env=(false,eval e X.env)::starEach es X.env:=by rfl):U7 X C (e::es) (aa a r):=
 (iD ha hr hs).imp λσ H Q h=>by
  obtain⟨Pr,F,env,env',ds,rl,e,q⟩:=h;obtain⟨d1,aL,e1,e2⟩:=aU e;obtain⟨ds2,fG,e3,e4⟩:=aU e2;cases e4;refine⟨Pr,F,env,aL,d1,rl,e1,λv H1 F1 r1 s1 p1=>?_⟩;refine⟨Pr,F1,aL,env',ds2,r1,e3,λvs H2 F2 r2 s2 p2=>?_⟩;exact q _ H2 F2 r2 (s1.trans s2) ⟨v,vs,rfl,Rep.mono s2 d1 v p1,p2⟩
def bY(r:eN):Ev:=λenv=>bindR (r env) λds aL=>if ds.length<=sizeLine then .ok (.tup ds) aL else .stuck
def cC(r:eN):Ev:=λenv=>bindR (r env) λds aL=>if ds.length<=sizeLine then .ok (.lst ds) aL else .stuck
def aP(g:D->D->Option D)(a b:Ev):Ev:=λenv=>bindR (a env) λx aL=>bindR (b aL) λy fG=>iT (g x y) fG
def KY(g:D->Option D)(a:Ev):Ev:=λenv=>bindR (a env) λx aL=>iT (g x) aL
def o9(C:Cfg)(r:R2)(g:D->D->Option D):Prop:=∀(Pr F:Hp) (env:Env) (σ:L2.St) (H:Hp) (x y d:D) (vx vy:V) (Q:VK),Rel C Pr F env σ H->ir C.K F H x vx->ir C.K F H y vy->g x y=some d->
 (∀v H' F',Rel C Pr F' env σ H'->aO F F'->Rep C.K F' d v->Q v H')->r vx vy H Q
def UnD(C:Cfg)(r:V->Hp->VK->Prop)(g:D->Option D):Prop:=∀(Pr F:Hp) (env:Env) (σ:L2.St) (H:Hp) (x d:D) (vx:V) (Q:VK),Rel C Pr F env σ H->ir C.K F H x vx->g x=some d->
 (∀v H' F',Rel C Pr F' env σ H'->aO F F'->Rep C.K F' d v->Q v H')->r vx H Q
theorem Gf{r:R2}{g:D->D->Option D}{a b:Ev}(o:o9 C r g)(σ:L2.St)(H:Hp)(Q:VK)(h:tE C (aP g a b) σ H Q):Vz r (tE C a) (tRd C b) σ H Q:=by obtain⟨Pr,F,env,env',d,rl,e,q⟩:=h;obtain⟨x,aL,e1,e2⟩:=aU e;obtain⟨y,fG,e3,e4⟩:=aU e2;obtain⟨e5,rfl⟩:=fU e4;refine⟨Pr,F,env,aL,x,rl,e1,λvx H1 F1 r1 s1 p1=>⟨Pr,F1,aL,env',y,r1,e3,λvy H2 F2 r2 s2 p2=>?_⟩⟩;exact o Pr F2 env' σ H2 x y d vx vy Q r2 (.inl (Rep.mono s2 x vx p1)) p2 e5 λv H3 F3 r3 s3 p3=>q v H3 F3 r3 ((s1.trans s2).trans s3) p3
def aA(g:D->D->Option D)(i:Nat)(b:Ev):Ev:=λenv=>match env[i]? with
 | some (some (_,_))=>bindR (b env) λy fG=>(match fG[i]? with
  | some (some (_,x))=>iT (g x y) fG
  | _=>.stuck)
 | _=>.stuck
theorem rZ{r:R2}{g:D->D->Option D}{i:Nat}{b:Ev}(o:o9 C r g)(σ:L2.St)(H:Hp)(Q:VK)(h:tE C (aA g i b) σ H Q):Vz r (Vy i) (tRd C b) σ H Q:=by
 obtain⟨Pr,F,env,env',d,rl,e,q⟩:=h;unfold aA at e;split at e
 ·rename_i o0 d0 h0;obtain⟨v,hv,_⟩:=rl.rd h0;obtain⟨y,fG,e1,e2⟩:=aU e;split at e2
  ·rename_i o2 x h2;obtain⟨e5,rfl⟩:=fU e2;refine⟨v,hv,Pr,F,env,env',y,rl,e1,λvy H2 F2 r2 s2 p2=>?_⟩;obtain⟨v',hv',p⟩:=r2.rd h2;rw[hv] at hv';cases hv';exact o Pr F2 env' σ H2 x y d v vy Q r2 p p2 e5 λv H3 F3 r3 s3 p3=>q v H3 F3 r3 (s2.trans s3) p3
  ·cases e2
 ·cases e
theorem adC{op:Operator}{r:R2}{g:D->D->Option D}{x y:Expr}{a b:Ev}(ho:mF X (binaryOp op) r)(o:o9 C r g)(ha:PX X C x a)(hb:U6 X C y b):PX X C (.BinOp x op y pos) (aP g a b):=
 (YD ho ha hb).imp (Gf o)
theorem aac{op:Operator}{r:R2}{g:D->D->Option D}{y:Expr}{b:Ev}{px:Pos}(i:Nat){x:Str}(hN:X.N[i]? = some x)(hv:vH X.env.scope x)(ho:mF X (binaryOp op) r)(o:o9 C r g)(hb:U6 X C y b)
  (hd:lR x:=by decide) (hcd:uR x:=by decide):PX X C (.BinOp (.Name x px) op y pos) (aA g i b):=
 (YD ho (iQ hN hv hd hcd) hb).imp (rZ o)
theorem aah{op:CmpOp}{r:R2}{g:D->D->Option D}{x y:Expr}{a b:Ev}(ho:mF X (compareOp op) r)(o:o9 C r g)(ha:PX X C x a)(hb:U6 X C y b)(hm:behindInMarks op y=false):PX X C (.Compare x [op] [y] pos) (aP g a b):=
 (Ms ho ha hb hm).imp (Gf o)
theorem adA{op:UnaryOp}{r:V->Hp->VK->Prop}{g:D->Option D}{x:Expr}{a:Ev}(ho:UnR X (unaryOp op) r)(o:UnD C r g)(ha:PX X C x a):PX X C (.UnaryOp op x pos) (KY g a):=
 (YC ho ha).imp λσ H Q h=>by
  obtain⟨Pr,F,env,env',d,rl,e,q⟩:=h;obtain⟨x,aL,e1,e2⟩:=aU e;obtain⟨e3,rfl⟩:=fU e2;exact⟨Pr,F,env,env',x,rl,e1,λvx H1 F1 r1 s1 p1=>o Pr F1 env' σ H1 x d vx Q r1 (.inl p1) e3 λv H3 F3 r3 s3 p3=>q v H3 F3 r3 (s1.trans s3) p3⟩
def dg(a:Ev):gn:=λenv=>bindR (a env) λd aL=>match d with
 | .bl b=>.ok b aL
 | _=>.stuck
theorem LK{a:Ev}{σ:L2.St}{H:Hp}{Q:Bool->Hp->Prop}(h:tT C (dg a) σ H Q):tE C a σ H λx H'=>∃k,x = .bl k/\Q k H':=by
 obtain⟨Pr,F,env,env',b,rl,e,q⟩:=h;obtain⟨d,aL,e1,e2⟩:=aU e;refine⟨Pr,F,env,aL,d,rl,e1,λv H1 F1 r1 s1 p1=>?_⟩;cases d with
 | bl c=>cases e2;exact⟨_,p1,q H1 F1 r1 s1⟩
 | _=>cases e2
theorem V7{op:CmpOp}{r:R2}{g:D->D->Option D}{x y:Expr}{a b:Ev}(ho:mF X (compareOp op) r)(o:o9 C r g)(ha:PX X C x a)(hb:U6 X C y b)(hm:behindInMarks op y=false):PXT X C (.Compare x [op] [y] pos) (dg (aP g a b)):=
 (Mp ho ha hb hm).imp λσ H Q h=>by
  have h1:=LK h;exact Gf o σ H _ h1
def pP(a:gn):gn:=λenv=>bindR (a env) λb aL=>.ok (!b) aL
def cW(a b:gn):gn:=λenv=>bindR (a env) λc aL=>if c=true then b aL else .ok false aL
def lA(a b:gn):gn:=λenv=>bindR (a env) λc aL=>if c=true then .ok true aL else b aL
def PXW(X:Cx)(C:Cfg)(e:Expr)(ev:gn):Prop:=PW X e (tT C ev)
theorem PXW.pt{e:Expr}{a:gn}(h:PXW X C e a):PXT X C e a:=PW.pt h
def Ng(a b:Ev):Ev:=λenv=>bindR (a env) λc aL=>match c with
 | .bl true=>b aL
 | .bl false=>.ok (.bl false) aL
 | _=>.stuck
def oG(a b:Ev):Ev:=λenv=>bindR (a env) λc aL=>match c with
 | .bl true=>.ok (.bl true) aL
 | .bl false=>b aL
 | _=>.stuck
def Y4(a:Ev):Ev:=λenv=>bindR (a env) λc aL=>match c with
 | .bl b=>.ok (.bl (!b)) aL
 | _=>.stuck
def aex(t:gn)(a b:Ev):Ev:=λenv=>bindR (t env) λc aL=>if c=true then a aL else b aL
end
def xH(f:D->D->Option Bool):List D->List D->Option Bool
 | [],[]=>some true
 | x::xs,y::ys=>match f x y,xH f xs ys with
  | some a,some b=>some (a&&b)
  | _,_=>none
 | [],_::_=>some false
 | _::_,[]=>some false
def bB:Nat->D->D->Option Bool
 | 0,_,_=>none
 | n+1,.tup xs,.tup ys=>xH (bB n) xs ys
 | n+1,.lst xs,.lst ys=>xH (bB n) xs ys
 | _+1,.dct _,_=>none
 | _+1,.iz _,_=>none
 | _+1,.clo _ _,_=>none
 | _+1,_,.dct _=>none
 | _+1,_,.iz _=>none
 | _+1,_,.clo _ _=>none
 | _+1,.arr _,_=>none
 | _+1,_,.arr _=>none
 | _+1,.non,.non=>some true
 | _+1,.bl a,.bl b=>some (a == b)
 | _+1,.bl a,.int b=>some ((if a then 1 else 0) == b)
 | _+1,.int a,.bl b=>some (a == (if b then 1 else 0))
 | _+1,.int a,.int b=>some (a == b)
 | _+1,.str a,.str b=>some (a == b)
 | _+1,_,_=>some false
mutual
def Sh(h:Heap):D->Value->Prop
 | .non,u=>u = .none
 | .bl b,u=>u = .bool b
 | .int i,u=>∃t,u = .int i t
 | .str x,u=>∃t,u = .str (strOf x) t
 | .tup xs,u=>∃a its,u = .ref a/\IsTup h a its.toArray/\oN h xs its
 | .lst xs,u=>∃a its,u = .ref a/\PlainL h a its.toArray/\oN h xs its
 | .arr xs,u=>∃a its,u = .ref a/\PlainL h a its.toArray/\oN h xs its
 | .dct _,u=>∃a o,u = .ref a/\h.get? a=some o/\o.ExactDict
 | .iz _,u=>∃a o,u = .ref a/\h.get? a=some o/\o.ExactDict
 | .clo _ _,u=>∃a,u = .ref a
def oN(h:Heap):List D->List Value->Prop
 | [],us=>us=[]
 | d::ds,us=>∃u r,us=u::r/\Sh h d u/\oN h ds r
end
theorem oN.length{h:Heap}:∀{ds:List D} {us:List Value},oN h ds us->us.length=ds.length
 | [],_,e=>by cases e;rfl
 | d::ds,us,e=>by obtain⟨u,r,rfl,_,h2⟩:=e;rw[Qqy,Qqy,h2.length]
section
variable{X:Cx}{pins:List (Addr×Obj)}{σ:L2.St}{H:Hp}{s:Shared}
mutual
theorem Rep.sh(I:Inv X pins σ H s):∀(d:D) (v:V) (u:Value),Rep X.K H d v->RelV v u->Sh s.heap d u
 | .non,_,_,h,r=>by cases h;exact r
 | .bl _,_,_,h,r=>by cases h;exact r
 | .int _,_,_,h,r=>by cases h;exact r
 | .str _,_,_,h,r=>by obtain⟨h,_⟩:=h;cases h;exact r
 | .tup xs,v,u,h,r=>by
  obtain⟨z,a,vs,rfl,h1,h2⟩:=h;cases r;obtain⟨its,rv,p,_⟩:=I.tuple h1;exact⟨a,its,rfl,p,bL.sh I xs vs its h2 rv⟩
 | .lst xs,v,u,h,r=>by
  obtain⟨z,a,vs,rfl,h1,h2⟩:=h;cases r;obtain⟨its,rv,p,_⟩:=I.list (o7.of h1);exact⟨a,its,rfl,p,bL.sh I xs vs its h2 rv⟩
 | .arr xs,v,u,h,r=>by
  obtain⟨z,a,vs,rfl,h1,h2⟩:=h;cases r;obtain⟨its,rv,p,_⟩:=I.list h1;exact⟨a,its,rfl,p,bL.sh I xs vs its h2 rv⟩
 | .dct kvs,v,u,h,r=>by
  obtain⟨z,a,ks,rfl,h1,h2⟩:=h;cases r;obtain⟨_,_,vs,_,o,_,_,e,ex,_⟩:=h1.ok I.hok;exact⟨a,o,rfl,e,ex⟩
 | .iz kvs,v,u,h,r=>by
  obtain⟨z,a,ks,rfl,h1,h2⟩:=h;cases r;obtain⟨_,_,vs,_,o,_,_,e,ex,_⟩:=h1.ok I.hok;exact⟨a,o,rfl,e,ex⟩
 | .clo st ds,v,u,h,r=>by
  obtain⟨a,vs,rfl,h1,h2⟩:=h;cases r;exact⟨a,rfl⟩
theorem bL.sh(I:Inv X pins σ H s):∀(ds:List D) (vs:List V) (us:List Value),bL X.K H ds vs->Vals vs us->oN s.heap ds us
 | [],_,_,h,r=>by cases h;cases r;exact rfl
 | d::ds,vs,us,h,r=>by
  obtain⟨v,rr,rfl,h1,h2⟩:=h;cases r with
  | cons q qs=>exact⟨_,_,rfl,Rep.sh I d v _ h1 q,bL.sh I ds rr _ h2 qs⟩
end
end
theorem Ly{h:Heap}{a:Addr}{xs ys:Array Value}(p:IsTup h a xs)(q:IsTup h a ys):xs=ys:=by obtain⟨o,e,_,n,d⟩:=p;obtain⟨o',e',_,n',d'⟩:=q;rw[e] at e';cases e';rw[d] at d';cases d';rfl
theorem My{h:Heap}{a:Addr}{xs ys:Array Value}(p:PlainL h a xs)(q:PlainL h a ys):xs=ys:=by obtain⟨o,e,_,n,d⟩:=p.isList;obtain⟨o',e',_,n',d'⟩:=q.isList;rw[e] at e';cases e';rw[d] at d';cases d';rfl
theorem yu{h:Heap}{a:Addr}{xs ys:Array Value}(p:IsTup h a xs)(q:PlainL h a ys):False:=by obtain⟨o,e,c,n,d⟩:=p;obtain⟨o',e',c',n',d'⟩:=q.isList;rw[e] at e';cases e';rw[c] at c';simp at c'
theorem Al{h:Heap}:∀(n:Nat) (d e:D) (u:Value) (b:Bool),Sh h d u->Sh h e u->bB n d e=some b->b=true
 | 0,_,_,_,_,_,_,hb=>by simp[bB] at hb
 | n+1,d,e,u,b,hd,he,hb=>by
  have all:∀(xs ys:List D) (us:List Value) (b:Bool),oN h xs us->oN h ys us->xH (bB n) xs ys=some b->b=true:=by
   intro xs
   induction xs with
   | nil=>
    intro ys us b h1 h2 hb;cases h1;cases ys with
    | nil=>simp[xH] at hb;exact hb
    | cons y ys=>obtain⟨u,r,q,_⟩:=h2;cases q
   | cons x xs ih=>
    intro ys us b h1 h2 hb;obtain⟨u,r,rfl,h3,h4⟩:=h1;cases ys with
    | nil=>cases h2
    | cons y ys=>
     obtain⟨u',r',q,h5,h6⟩:=h2;cases q;unfold xH at hb;cases q1:bB n x y with
     | none=>rw[q1] at hb;simp at hb
     | some c=>
      cases q2:xH (bB n) xs ys with
      | none=>rw[q1,q2] at hb;simp at hb
      | some c'=>
       rw[q1,q2] at hb;have e1:=Al n x y u c h3 h5 q1;have e2:=ih ys r c' h4 h6 q2;subst e1 e2;simp at hb;exact hb
  cases d with
  | non=>cases hd;cases e<;>simp[Sh] at he;simp[bB] at hb;exact hb
  | bl c=>cases hd;cases e<;>simp[Sh] at he;subst he;simp[bB] at hb;exact hb
  | int i=>obtain⟨t,rfl⟩:=hd;cases e<;>simp[Sh] at he;subst he;simp[bB] at hb;exact hb
  | str x=>
   obtain⟨t,rfl⟩:=hd;cases e with
   | str y=>
    obtain⟨t',q⟩:=he;injection q with q1 _
    unfold strOf at q1;injection q1 with q2
    have q3:=Qz4 Array.toList q2;simp at q3;subst q3;simp[bB] at hb;exact hb
   | _=>simp[Sh] at he
  | tup xs=>
   obtain⟨a,its,rfl,p,hs⟩:=hd;cases e with
   | tup ys=>
    obtain⟨a',its',q,p',hs'⟩:=he;cases q;have e2:its=its':=by simpa using Ly p p'
    subst e2;exact all xs ys its b hs hs' (by simpa only[bB] using hb)
   | lst ys=>
    obtain⟨a',its',q,p',hs'⟩:=he;cases q;exact(yu p p').elim
   | dct kvs=>simp[bB] at hb
   | iz kvs=>simp[bB] at hb
   | clo _ _=>simp[bB] at hb
   | arr kvs=>simp[bB] at hb
   | _=>simp[Sh] at he
  | lst xs=>
   obtain⟨a,its,rfl,p,hs⟩:=hd;cases e with
   | lst ys=>
    obtain⟨a',its',q,p',hs'⟩:=he;cases q;have e2:its=its':=by simpa using My p p'
    subst e2;exact all xs ys its b hs hs' (by simpa only[bB] using hb)
   | tup ys=>
    obtain⟨a',its',q,p',hs'⟩:=he;cases q;exact(yu p' p).elim
   | dct kvs=>simp[bB] at hb
   | iz kvs=>simp[bB] at hb
   | clo _ _=>simp[bB] at hb
   | arr kvs=>simp[bB] at hb
   | _=>simp[Sh] at he
  | dct kvs=>cases e<;>simp[bB] at hb
  | iz kvs=>cases e<;>simp[bB] at hb
  | clo _ _=>cases e<;>simp[bB] at hb
  | arr kvs=>cases e<;>simp[bB] at hb
theorem Nh{h:Heap}:∀(n:Nat) (d d' e:D) (u:Value) (b b':Bool),Sh h d u->Sh h d' u->bB n d e=some b->bB n d' e=some b'->b=b'
 | 0,_,_,_,_,_,_,_,_,hb,_=>by simp[bB] at hb
 | n+1,d,d',e,u,b,b',hd,hd',hb,hb'=>by
  have all:∀(xs xs' ys:List D) (us:List Value) (b b':Bool),oN h xs us->oN h xs' us->xH (bB n) xs ys=some b->xH (bB n) xs' ys=some b'->b=b':=by
   intro xs
   induction xs with
   | nil=>
    intro xs' ys us b b' h1 h2 hb hb';cases h1;cases xs' with
    | nil=>rw[hb] at hb';exact Qw1 hb'
    | cons y ys=>obtain⟨u,r,q,_⟩:=h2;cases q
   | cons x xs ih=>
    intro xs' ys us b b' h1 h2 hb hb';obtain⟨u,r,rfl,h3,h4⟩:=h1;cases xs' with
    | nil=>cases h2
    | cons x' xs'=>
     obtain⟨u',r',q,h5,h6⟩:=h2;cases q;cases ys with
     | nil=>simp[xH] at hb hb';rw[hb,hb']
     | cons y ys=>
      unfold xH at hb hb';cases q1:bB n x y with
      | none=>rw[q1] at hb;simp at hb
      | some c=>
       cases q2:xH (bB n) xs ys with
       | none=>rw[q1,q2] at hb;simp at hb
       | some c2=>
        cases q3:bB n x' y with
        | none=>rw[q3] at hb';simp at hb'
        | some c3=>
         cases q4:xH (bB n) xs' ys with
         | none=>rw[q3,q4] at hb';simp at hb'
         | some c4=>
          rw[q1,q2] at hb;rw[q3,q4] at hb';have e1:=Nh n x x' y u c c3 h3 h5 q1 q3;have e2:=ih xs' ys r c2 c4 h4 h6 q2 q4;subst e1 e2;simp at hb hb';rw[<-hb,<-hb']
  cases d with
  | non=>cases hd;cases d'<;>simp[Sh] at hd';rw[hb] at hb';exact Qw1 hb'
  | bl c=>cases hd;cases d'<;>simp[Sh] at hd';subst hd';rw[hb] at hb';exact Qw1 hb'
  | int i=>obtain⟨t,rfl⟩:=hd;cases d'<;>simp[Sh] at hd';subst hd';rw[hb] at hb';exact Qw1 hb'
  | str x=>
   obtain⟨t,rfl⟩:=hd;cases d' with
   | str y=>
    obtain⟨t',q⟩:=hd';injection q with q1 _
    unfold strOf at q1;injection q1 with q2
    have q3:=Qz4 Array.toList q2;simp at q3;subst q3;rw[hb] at hb';exact Qw1 hb'
   | _=>simp[Sh] at hd'
  | tup xs=>
   obtain⟨a,its,rfl,p,hs⟩:=hd;cases d' with
   | tup xs'=>
    obtain⟨a',its',q,p',hs'⟩:=hd';cases q;have e2:its=its':=by simpa using Ly p p'
    subst e2;cases e with
    | tup ys=>exact all xs xs' ys its b b' hs hs' (by simpa only[bB] using hb) (by simpa only[bB] using hb')
    | _=>first|(simp[bB] at hb;done)|(simp only[bB,Qw7] at hb hb';rw[<-hb,<-hb'])
   | lst ys=>
    obtain⟨a',its',q,p',hs'⟩:=hd';cases q;exact(yu p p').elim
   | dct kvs=>cases e<;>simp[bB] at hb'
   | iz kvs=>cases e<;>simp[bB] at hb'
   | clo _ _=>cases e<;>simp[bB] at hb'
   | arr kvs=>cases e<;>simp[bB] at hb'
   | _=>simp[Sh] at hd'
  | lst xs=>
   obtain⟨a,its,rfl,p,hs⟩:=hd;cases d' with
   | lst xs'=>
    obtain⟨a',its',q,p',hs'⟩:=hd';cases q;have e2:its=its':=by simpa using My p p'
    subst e2;cases e with
    | lst ys=>exact all xs xs' ys its b b' hs hs' (by simpa only[bB] using hb) (by simpa only[bB] using hb')
    | _=>first|(simp[bB] at hb;done)|(simp only[bB,Qw7] at hb hb';rw[<-hb,<-hb'])
   | tup ys=>
    obtain⟨a',its',q,p',hs'⟩:=hd';cases q;exact(yu p' p).elim
   | dct kvs=>cases e<;>simp[bB] at hb'
   | iz kvs=>cases e<;>simp[bB] at hb'
   | clo _ _=>cases e<;>simp[bB] at hb'
   | arr kvs=>cases e<;>simp[bB] at hb'
   | _=>simp[Sh] at hd'
  | dct kvs=>cases e<;>simp[bB] at hb
  | iz kvs=>cases e<;>simp[bB] at hb
  | clo _ _=>cases e<;>simp[bB] at hb
  | arr kvs=>cases e<;>simp[bB] at hb
theorem vW(x y:List Nat):(strOf x == strOf y)=(x == y):=by
 rw[Qky];simp only[beq_iff_eq];constructor
 ·intro e;unfold strOf at e;injection e with e
  simpa using Qz4 Array.toList e
 ·intro e;rw[e]
theorem yN:∀{f:D->D->Option Bool} {xs ys:List D},xs.length≠ys.length->∀b,xH f xs ys=some b->b=false
 | f,[],[],h,b,e=>absurd rfl h
 | f,[],_::_,_,b,e=>by simp[xH] at e;exact e
 | f,_::_,[],_,b,e=>by simp[xH] at e;exact e
 | f,x::xs,y::ys,h,b,e=>by
  unfold xH at e;cases h1:f x y with
  | none=>rw[h1] at e;simp at e
  | some c=>
   cases h2:xH f xs ys with
   | none=>rw[h1,h2] at e;simp at e
   | some d=>
    rw[h1,h2] at e;have:=yN (f:=f) (xs:=xs) (ys:=ys) (by simpa using h) d h2;subst this;simp at e;exact e
theorem ug:∀{f:D->D->Option Bool} (xs ys:List D) (b:Bool),xH f xs ys=some b->∃e:Nat->Bool,(∀(j:Nat) (x y:D),xs[j]? = some x->ys[j]? = some y->f x y=some (e j))/\b=((List.range (min xs.length ys.length)).all e&&xs.length == ys.length)
 | f,[],ys,b,h=>by
  refine⟨λ_=>true,λj x y hx=>by simp at hx,?_⟩;cases ys with
  | nil=>simp[xH] at h;simp[h.symm]
  | cons y ys=>simp[xH] at h;simp[h.symm]
 | f,x::xs,[],b,h=>by
  refine⟨λ_=>true,λj x y _ hy=>by simp at hy,?_⟩;simp[xH] at h;simp[h.symm]
 | f,x::xs,y::ys,b,h=>by
  unfold xH at h;cases h1:f x y with
  | none=>rw[h1] at h;simp at h
  | some c=>
   cases h2:xH f xs ys with
   | none=>rw[h1,h2] at h;simp at h
   | some d=>
    rw[h1,h2] at h;obtain⟨e,he,hd⟩:=ug xs ys d h2;refine⟨λj=>match j with|0=>c|j+1=>e j,λj x' y' hx hy=>?_,?_⟩
    ·cases j with
     | zero=>simp at hx hy;subst hx hy;exact h1
     | succ j=>exact he j x' y' (by simpa using hx) (by simpa using hy)
    ·have hb:b=(c&&d):=by simpa using h.symm
     have hm:min (x::xs).length (y::ys).length=min xs.length ys.length+1:=by simp only[Qqy];omega
     rw[hb,hd,hm,List.range_succ_eq_map,List.all_cons,List.all_map,Bool.and_assoc];have hl:((x::xs).length == (y::ys).length)=(xs.length == ys.length):=by simp
     rw[hl]
     rfl
theorem ni{h:Heap}:∀{ds:List D} {us:List Value} {j:Nat} {u:Value},oN h ds us->us[j]? = some u->∃d,ds[j]? = some d/\Sh h d u
 | [],_,_,_,e,g=>by cases e;simp at g
 | d::ds,us,j,u,e,g=>by
  obtain⟨v,r,rfl,h1,h2⟩:=e;cases j with
  | zero=>simp at g;subst g;exact⟨d,rfl,h1⟩
  | succ j=>obtain⟨c,e1,e2⟩:=ni h2 (j:=j) (by simpa using g);exact⟨c,by simpa using e1,e2⟩
theorem rB:∀(n:Nat) (d e:D) (u v:Value) (b:Bool) (A:Around) (s:Shared),Sh s.heap d u->Sh s.heap e v->bB n d e=some b->A.units+n<cLine->SeqAt.EqAt A s u v b
 | 0,_,_,_,_,_,_,_,_,_,h,_=>by simp[bB] at h
 | n+1,d,e,u,v,b,A,s,hd,he,h,hu=>by
  have hu0:A.units<cLine:=by omega
  have hin:A.in1.units+n<cLine:=by show A.units+1+n<cLine;omega
  cases d with
  | non=>
   cases hd;cases e with
   | non=>cases he;simp[bB] at h;subst h;exact SeqAt.EqAt.same _
   | bl c=>cases he;simp[bB] at h;subst h;exact SeqAt.EqAt.none_bool c
   | int i=>obtain⟨t,rfl⟩:=he;simp[bB] at h;subst h;exact SeqAt.EqAt.none_int i t
   | str x=>obtain⟨t,rfl⟩:=he;simp[bB] at h;subst h;exact SeqAt.EqAt.none_str _ t
   | tup ys=>obtain⟨a,its,rfl,p,_⟩:=he;simp[bB] at h;subst h;exact SeqAt.EqAt.none_tuple p hu0
   | lst ys=>obtain⟨a,its,rfl,p,_⟩:=he;simp[bB] at h;subst h;exact SeqAt.EqAt.none_list p.isList hu0
   | dct kvs=>simp[bB] at h
   | iz kvs=>simp[bB] at h
   | clo _ _=>simp[bB] at h
   | arr kvs=>simp[bB] at h
  | bl c=>
   cases hd;cases e with
   | non=>cases he;simp[bB] at h;subst h;exact SeqAt.EqAt.bool_none c
   | bl c'=>cases he;simp only[bB,Qw7] at h;subst h;exact SeqAt.EqAt.bool_bool c c'
   | int i=>obtain⟨t,rfl⟩:=he;simp only[bB,Qw7] at h;subst h;exact SeqAt.EqAt.bool_int c i t
   | str x=>obtain⟨t,rfl⟩:=he;simp[bB] at h;subst h;exact SeqAt.EqAt.bool_str c _ t
   | tup ys=>obtain⟨a,its,rfl,p,_⟩:=he;simp[bB] at h;subst h;exact SeqAt.EqAt.bool_tuple c p hu0
   | lst ys=>obtain⟨a,its,rfl,p,_⟩:=he;simp[bB] at h;subst h;exact SeqAt.EqAt.bool_list c p.isList hu0
   | dct kvs=>simp[bB] at h
   | iz kvs=>simp[bB] at h
   | clo _ _=>simp[bB] at h
   | arr kvs=>simp[bB] at h
  | int i=>
   obtain⟨t',rfl⟩:=hd;cases e with
   | non=>cases he;simp[bB] at h;subst h;exact SeqAt.EqAt.int_none i t'
   | bl c'=>cases he;simp only[bB,Qw7] at h;subst h;exact SeqAt.EqAt.int_bool i t' c'
   | int j=>obtain⟨t,rfl⟩:=he;simp only[bB,Qw7] at h;subst h;exact SeqAt.EqAt.int_int i t' j t
   | str x=>obtain⟨t,rfl⟩:=he;simp[bB] at h;subst h;exact SeqAt.EqAt.int_str i t' _ t
   | tup ys=>obtain⟨a,its,rfl,p,_⟩:=he;simp[bB] at h;subst h;exact SeqAt.EqAt.int_tuple i t' p hu0
   | lst ys=>obtain⟨a,its,rfl,p,_⟩:=he;simp[bB] at h;subst h;exact SeqAt.EqAt.int_list i t' p.isList hu0
   | dct kvs=>simp[bB] at h
   | iz kvs=>simp[bB] at h
   | clo _ _=>simp[bB] at h
   | arr kvs=>simp[bB] at h
  | str x=>
   obtain⟨t',rfl⟩:=hd;cases e with
   | non=>cases he;simp[bB] at h;subst h;exact SeqAt.EqAt.str_none _ t'
   | bl c'=>cases he;simp[bB] at h;subst h;exact SeqAt.EqAt.str_bool _ t' c'
   | int j=>obtain⟨t,rfl⟩:=he;simp[bB] at h;subst h;exact SeqAt.EqAt.str_int _ t' j t
   | str y=>obtain⟨t,rfl⟩:=he;simp only[bB,Qw7] at h;subst h;rw[<-vW];exact SeqAt.EqAt.str_str _ t' _ t
   | tup ys=>obtain⟨a,its,rfl,p,_⟩:=he;simp[bB] at h;subst h;exact SeqAt.EqAt.str_tuple _ t' p hu0
   | lst ys=>obtain⟨a,its,rfl,p,_⟩:=he;simp[bB] at h;subst h;exact SeqAt.EqAt.str_list _ t' p.isList hu0
   | dct kvs=>simp[bB] at h
   | iz kvs=>simp[bB] at h
   | clo _ _=>simp[bB] at h
   | arr kvs=>simp[bB] at h
  | tup xs=>
   obtain⟨a,its,rfl,p,hs⟩:=hd;cases e with
   | non=>cases he;simp[bB] at h;subst h;exact SeqAt.EqAt.tuple_none p hu0
   | bl c'=>cases he;simp[bB] at h;subst h;exact SeqAt.EqAt.tuple_bool c' p hu0
   | int j=>obtain⟨t,rfl⟩:=he;simp[bB] at h;subst h;exact SeqAt.EqAt.tuple_int j t p hu0
   | str y=>obtain⟨t,rfl⟩:=he;simp[bB] at h;subst h;exact SeqAt.EqAt.tuple_str _ t p hu0
   | tup ys=>
    obtain⟨a',its',rfl,p',hs'⟩:=he;by_cases haa:a=a'
    ·subst haa;have:=Al (n+1) (.tup xs) (.tup ys) (.ref a) b ⟨a,its,rfl,p,hs⟩ ⟨a,its',rfl,p',hs'⟩ h;subst this;exact SeqAt.EqAt.same _
    ·simp only[bB] at h;obtain⟨f,hf,hb⟩:=ug xs ys b h;have l1:=hs.length;have l2:=hs'.length;refine SeqAt.EqAt.of_refs haa ?_;have:=SeqAt.RcAt.tuples (e:=f) p p' hu0 λj h1 h2=>?_
     ·rw[hb];simp only[Qq3] at this;rw[l1,l2] at this;exact this
     ·have g1:its[j]? = some its.toArray[j]:=by simp at h1 ⊢
      have g2:its'[j]? = some its'.toArray[j]:=by simp at h2 ⊢
      obtain⟨x,q1,q2⟩:=ni hs g1;obtain⟨y,q3,q4⟩:=ni hs' g2;exact rB n x y _ _ _ A.in1 s q2 q4 (hf j x y q1 q3) hin
   | lst ys=>obtain⟨a',its',rfl,p',_⟩:=he;simp[bB] at h;subst h;exact SeqAt.EqAt.tuple_list p p'.isList hu0
   | dct kvs=>simp[bB] at h
   | iz kvs=>simp[bB] at h
   | clo _ _=>simp[bB] at h
   | arr kvs=>simp[bB] at h
  | lst xs=>
   obtain⟨a,its,rfl,p,hs⟩:=hd;cases e with
   | non=>cases he;simp[bB] at h;subst h;exact SeqAt.EqAt.list_none p.isList hu0
   | bl c'=>cases he;simp[bB] at h;subst h;exact SeqAt.EqAt.list_bool c' p.isList hu0
   | int j=>obtain⟨t,rfl⟩:=he;simp[bB] at h;subst h;exact SeqAt.EqAt.list_int j t p.isList hu0
   | str y=>obtain⟨t,rfl⟩:=he;simp[bB] at h;subst h;exact SeqAt.EqAt.list_str _ t p.isList hu0
   | lst ys=>
    obtain⟨a',its',rfl,p',hs'⟩:=he;have l1:=hs.length;have l2:=hs'.length;by_cases haa:a=a'
    ·subst haa;have:=Al (n+1) (.lst xs) (.lst ys) (.ref a) b ⟨a,its,rfl,p,hs⟩ ⟨a,its',rfl,p',hs'⟩ h;subst this;exact SeqAt.EqAt.same _
    ·simp only[bB] at h;refine SeqAt.EqAt.of_refs haa ?_;by_cases hl:xs.length=ys.length
     ·obtain⟨f,hf,hb⟩:=ug xs ys b h;have:=SeqAt.RcAt.lists (e:=f) p.isList p'.isList (by simp only[Qq3];omega) hu0 λj h1 h2=>?_
      ·rw[hb,<-hl,Nat.min_self,beq_self_eq_true,Bool.and_true,<-l1];simp only[Qq3] at this;exact this
      ·have g1:its[j]? = some its.toArray[j]:=by simp at h1 ⊢
       have g2:its'[j]? = some its'.toArray[j]:=by simp at h2 ⊢
       obtain⟨x,q1,q2⟩:=ni hs g1;obtain⟨y,q3,q4⟩:=ni hs' g2;exact rB n x y _ _ _ A.in1 s q2 q4 (hf j x y q1 q3) hin
     ·have:=yN hl b h;subst this;exact SeqAt.RcAt.lists_lengths p.isList p'.isList (by simp only[Qq3];rw[l1,l2];simpa using hl) hu0
   | tup ys=>obtain⟨a',its',rfl,p',_⟩:=he;simp[bB] at h;subst h;exact SeqAt.EqAt.list_tuple p.isList p' hu0
   | dct kvs=>simp[bB] at h
   | iz kvs=>simp[bB] at h
   | clo _ _=>simp[bB] at h
   | arr kvs=>simp[bB] at h
  | dct kvs=>cases e<;>simp[bB] at h
  | iz kvs=>cases e<;>simp[bB] at h
  | clo _ _=>cases e<;>simp[bB] at h
  | arr kvs=>cases e<;>simp[bB] at h
theorem uU(n:Nat)(its its':List Value)(xs ys:List D)(f:Nat->Bool)(A:Around)(s:Shared)(hs:oN s.heap xs its)(hs':oN s.heap ys its')(hf:∀(j:Nat) (x y:D),xs[j]? = some x->ys[j]? = some y->bB n x y=some (f j))(hin:A.in1.units+n<cLine)
  (j:Nat) (h1:j<its.toArray.size) (h2:j<its'.toArray.size):SeqAt.EqAt A.in1 s its.toArray[j] its'.toArray[j] (f j):=by
 have g1:its[j]? = some its.toArray[j]:=by simp at h1 ⊢
 have g2:its'[j]? = some its'.toArray[j]:=by simp at h2 ⊢
 obtain⟨x,q1,q2⟩:=ni hs g1;obtain⟨y,q3,q4⟩:=ni hs' g2;exact rB n x y _ _ _ A.in1 s q2 q4 (hf j x y q1 q3) hin
theorem adf(n:Nat)(d e:D)(u v:Value)(b:Bool)(A:Around)(s:Shared)(hd:Sh s.heap d u)(he:Sh s.heap e v)(h:bB (n+1) d e=some b)(hu:A.units+(n+1)<cLine):SeqAt.RcAt A s u v b:=by
 have hu0:A.units<cLine:=by omega
 have hin:A.in1.units+n<cLine:=by show A.units+1+n<cLine;omega
 cases d with
 | non=>
  cases hd;cases e with
  | non=>
   cases he;simp[bB] at h;subst h;exact SeqAt.RcAt.none_none
  | bl c'=>
   cases he;simp[bB] at h;subst h;exact SeqAt.RcAt.none_bool c'
  | int j=>
   obtain⟨t,rfl⟩:=he;simp[bB] at h;subst h;exact SeqAt.RcAt.none_int j t
  | str y=>
   obtain⟨t,rfl⟩:=he;simp[bB] at h;subst h;exact SeqAt.RcAt.none_str _ t
  | tup ys=>
   obtain⟨a',its',rfl,p',hs'⟩:=he;simp[bB] at h;subst h;exact SeqAt.RcAt.none_tuple p' hu0
  | lst ys=>
   obtain⟨a',its',rfl,p',hs'⟩:=he;simp[bB] at h;subst h;exact SeqAt.RcAt.none_list p'.isList hu0
  | arr kvs=>
   simp[bB] at h
  | dct kvs=>
   simp[bB] at h
  | iz kvs=>
   simp[bB] at h
  | clo _ _=>
   simp[bB] at h
 | bl c=>
  cases hd;cases e with
  | non=>
   cases he;simp[bB] at h;subst h;exact SeqAt.RcAt.bool_none c
  | bl c'=>
   cases he;simp only[bB,Qw7] at h;subst h;exact SeqAt.RcAt.bool_bool c c'
  | int j=>
   obtain⟨t,rfl⟩:=he;simp only[bB,Qw7] at h;subst h;exact SeqAt.RcAt.bool_int c j t
  | str y=>
   obtain⟨t,rfl⟩:=he;simp[bB] at h;subst h;exact SeqAt.RcAt.bool_str c _ t
  | tup ys=>
   obtain⟨a',its',rfl,p',hs'⟩:=he;simp[bB] at h;subst h;exact SeqAt.RcAt.bool_tuple c p' hu0
  | lst ys=>
   obtain⟨a',its',rfl,p',hs'⟩:=he;simp[bB] at h;subst h;exact SeqAt.RcAt.bool_list c p'.isList hu0
  | arr kvs=>
   simp[bB] at h
  | dct kvs=>
   simp[bB] at h
  | iz kvs=>
   simp[bB] at h
  | clo _ _=>
   simp[bB] at h
 | int i=>
  obtain⟨t',rfl⟩:=hd;cases e with
  | non=>
   cases he;simp[bB] at h;subst h;exact SeqAt.RcAt.int_none i t'
  | bl c'=>
   cases he;simp only[bB,Qw7] at h;subst h;exact SeqAt.RcAt.int_bool i t' c'
  | int j=>
   obtain⟨t,rfl⟩:=he;simp only[bB,Qw7] at h;subst h;exact SeqAt.RcAt.int_int i t' j t
  | str y=>
   obtain⟨t,rfl⟩:=he;simp[bB] at h;subst h;exact SeqAt.RcAt.int_str i t' _ t
  | tup ys=>
   obtain⟨a',its',rfl,p',hs'⟩:=he;simp[bB] at h;subst h;exact SeqAt.RcAt.int_tuple i t' p' hu0
  | lst ys=>
   obtain⟨a',its',rfl,p',hs'⟩:=he;simp[bB] at h;subst h;exact SeqAt.RcAt.int_list i t' p'.isList hu0
  | arr kvs=>
   simp[bB] at h
  | dct kvs=>
   simp[bB] at h
  | iz kvs=>
   simp[bB] at h
  | clo _ _=>
   simp[bB] at h
 | str x=>
  obtain⟨t',rfl⟩:=hd;cases e with
  | non=>
   cases he;simp[bB] at h;subst h;exact SeqAt.RcAt.str_none _ t'
  | bl c'=>
   cases he;simp[bB] at h;subst h;exact SeqAt.RcAt.str_bool _ t' c'
  | int j=>
   obtain⟨t,rfl⟩:=he;simp[bB] at h;subst h;exact SeqAt.RcAt.str_int _ t' j t
  | str y=>
   obtain⟨t,rfl⟩:=he;simp only[bB,Qw7] at h;subst h;rw[<-vW];exact SeqAt.RcAt.str_str _ t' _ t
  | tup ys=>
   obtain⟨a',its',rfl,p',hs'⟩:=he;simp[bB] at h;subst h;exact SeqAt.RcAt.str_tuple _ t' p' hu0
  | lst ys=>
   obtain⟨a',its',rfl,p',hs'⟩:=he;simp[bB] at h;subst h;exact SeqAt.RcAt.str_list _ t' p'.isList hu0
  | arr kvs=>
   simp[bB] at h
  | dct kvs=>
   simp[bB] at h
  | iz kvs=>
   simp[bB] at h
  | clo _ _=>
   simp[bB] at h
 | tup xs=>
  obtain⟨a,its,rfl,p,hs⟩:=hd;cases e with
  | non=>
   cases he;simp[bB] at h;subst h;exact SeqAt.RcAt.tuple_none p hu0
  | bl c'=>
   cases he;simp[bB] at h;subst h;exact SeqAt.RcAt.tuple_bool c' p hu0
  | int j=>
   obtain⟨t,rfl⟩:=he;simp[bB] at h;subst h;exact SeqAt.RcAt.tuple_int j t p hu0
  | str y=>
   obtain⟨t,rfl⟩:=he;simp[bB] at h;subst h;exact SeqAt.RcAt.tuple_str _ t p hu0
  | tup ys=>
   obtain⟨a',its',rfl,p',hs'⟩:=he;simp only[bB] at h;have l1:=hs.length;have l2:=hs'.length;obtain⟨f,hf,hb⟩:=ug xs ys b h;have:=SeqAt.RcAt.tuples (e:=f) p p' hu0 λj h1 h2=>?_
   ·rw[hb];simp only[Qq3] at this;rw[l1,l2] at this;exact this
   ·exact uU n its its' xs ys f A s hs hs' hf hin j h1 h2
  | lst ys=>
   obtain⟨a',its',rfl,p',hs'⟩:=he;simp[bB] at h;subst h;exact SeqAt.RcAt.tuple_list p p'.isList hu0
  | arr kvs=>
   simp[bB] at h
  | dct kvs=>
   simp[bB] at h
  | iz kvs=>
   simp[bB] at h
  | clo _ _=>
   simp[bB] at h
 | lst xs=>
  obtain⟨a,its,rfl,p,hs⟩:=hd;cases e with
  | non=>
   cases he;simp[bB] at h;subst h;exact SeqAt.RcAt.list_none p.isList hu0
  | bl c'=>
   cases he;simp[bB] at h;subst h;exact SeqAt.RcAt.list_bool c' p.isList hu0
  | int j=>
   obtain⟨t,rfl⟩:=he;simp[bB] at h;subst h;exact SeqAt.RcAt.list_int j t p.isList hu0
  | str y=>
   obtain⟨t,rfl⟩:=he;simp[bB] at h;subst h;exact SeqAt.RcAt.list_str _ t p.isList hu0
  | tup ys=>
   obtain⟨a',its',rfl,p',hs'⟩:=he;simp[bB] at h;subst h;exact SeqAt.RcAt.list_tuple p.isList p' hu0
  | lst ys=>
   obtain⟨a',its',rfl,p',hs'⟩:=he;simp only[bB] at h;have l1:=hs.length;have l2:=hs'.length;by_cases hl:xs.length=ys.length
   ·obtain⟨f,hf,hb⟩:=ug xs ys b h;have:=SeqAt.RcAt.lists (e:=f) p.isList p'.isList (by simp only[Qq3];omega) hu0 λj h1 h2=>?_
    ·rw[hb,<-hl,Nat.min_self,beq_self_eq_true,Bool.and_true,<-l1];simp only[Qq3] at this;exact this
    ·exact uU n its its' xs ys f A s hs hs' hf hin j h1 h2
   ·have:=yN hl b h;subst this;exact SeqAt.RcAt.lists_lengths p.isList p'.isList (by simp only[Qq3];rw[l1,l2];simpa using hl) hu0
  | arr kvs=>
   simp[bB] at h
  | dct kvs=>
   simp[bB] at h
  | iz kvs=>
   simp[bB] at h
  | clo _ _=>
   simp[bB] at h
 | arr kvs=>
  cases e<;>simp[bB] at h
 | dct kvs=>
  cases e<;>simp[bB] at h
 | iz kvs=>
  cases e<;>simp[bB] at h
 | clo _ _=>
  cases e<;>simp[bB] at h
theorem V1(n:Nat)(d e:D)(u v:Value)(b:Bool)(A:Around)(s:Shared)(hd:Sh s.heap d u)(he:Sh s.heap e v)(h:bB (n+1) d e=some b)(hu:A.units+(n+1)<cLine):SeqAt.RcNeAt A s u v (!b):=by
 have hu0:A.units<cLine:=by omega
 have hin:A.in1.units+n<cLine:=by show A.units+1+n<cLine;omega
 cases d with
 | non=>
  cases hd;cases e with
  | non=>
   cases he;simp[bB] at h;subst h;exact SeqAt.RcNeAt.none_none
  | bl c'=>
   cases he;simp[bB] at h;subst h;exact SeqAt.RcNeAt.none_bool c'
  | int j=>
   obtain⟨t,rfl⟩:=he;simp[bB] at h;subst h;exact SeqAt.RcNeAt.none_int j t
  | str y=>
   obtain⟨t,rfl⟩:=he;simp[bB] at h;subst h;exact SeqAt.RcNeAt.none_str _ t
  | tup ys=>
   obtain⟨a',its',rfl,p',hs'⟩:=he;simp[bB] at h;subst h;exact SeqAt.RcNeAt.none_tuple p' hu0
  | lst ys=>
   obtain⟨a',its',rfl,p',hs'⟩:=he;simp[bB] at h;subst h;exact SeqAt.RcNeAt.none_list p'.isList hu0
  | arr kvs=>
   simp[bB] at h
  | dct kvs=>
   simp[bB] at h
  | iz kvs=>
   simp[bB] at h
  | clo _ _=>
   simp[bB] at h
 | bl c=>
  cases hd;cases e with
  | non=>
   cases he;simp[bB] at h;subst h;exact SeqAt.RcNeAt.bool_none c
  | bl c'=>
   cases he;simp only[bB,Qw7] at h;subst h;exact SeqAt.RcNeAt.bool_bool c c'
  | int j=>
   obtain⟨t,rfl⟩:=he;simp only[bB,Qw7] at h;subst h;exact SeqAt.RcNeAt.bool_int c j t
  | str y=>
   obtain⟨t,rfl⟩:=he;simp[bB] at h;subst h;exact SeqAt.RcNeAt.bool_str c _ t
  | tup ys=>
   obtain⟨a',its',rfl,p',hs'⟩:=he;simp[bB] at h;subst h;exact SeqAt.RcNeAt.bool_tuple c p' hu0
  | lst ys=>
   obtain⟨a',its',rfl,p',hs'⟩:=he;simp[bB] at h;subst h;exact SeqAt.RcNeAt.bool_list c p'.isList hu0
  | arr kvs=>
   simp[bB] at h
  | dct kvs=>
   simp[bB] at h
  | iz kvs=>
   simp[bB] at h
  | clo _ _=>
   simp[bB] at h
 | int i=>
  obtain⟨t',rfl⟩:=hd;cases e with
  | non=>
   cases he;simp[bB] at h;subst h;exact SeqAt.RcNeAt.int_none i t'
  | bl c'=>
   cases he;simp only[bB,Qw7] at h;subst h;exact SeqAt.RcNeAt.int_bool i t' c'
  | int j=>
   obtain⟨t,rfl⟩:=he;simp only[bB,Qw7] at h;subst h;exact SeqAt.RcNeAt.int_int i t' j t
  | str y=>
   obtain⟨t,rfl⟩:=he;simp[bB] at h;subst h;exact SeqAt.RcNeAt.int_str i t' _ t
  | tup ys=>
   obtain⟨a',its',rfl,p',hs'⟩:=he;simp[bB] at h;subst h;exact SeqAt.RcNeAt.int_tuple i t' p' hu0
  | lst ys=>
   obtain⟨a',its',rfl,p',hs'⟩:=he;simp[bB] at h;subst h;exact SeqAt.RcNeAt.int_list i t' p'.isList hu0
  | arr kvs=>
   simp[bB] at h
  | dct kvs=>
   simp[bB] at h
  | iz kvs=>
   simp[bB] at h
  | clo _ _=>
   simp[bB] at h
 | str x=>
  obtain⟨t',rfl⟩:=hd;cases e with
  | non=>
   cases he;simp[bB] at h;subst h;exact SeqAt.RcNeAt.str_none _ t'
  | bl c'=>
   cases he;simp[bB] at h;subst h;exact SeqAt.RcNeAt.str_bool _ t' c'
  | int j=>
   obtain⟨t,rfl⟩:=he;simp[bB] at h;subst h;exact SeqAt.RcNeAt.str_int _ t' j t
  | str y=>
   obtain⟨t,rfl⟩:=he;simp only[bB,Qw7] at h;subst h;rw[<-vW];exact SeqAt.RcNeAt.str_str _ t' _ t
  | tup ys=>
   obtain⟨a',its',rfl,p',hs'⟩:=he;simp[bB] at h;subst h;exact SeqAt.RcNeAt.str_tuple _ t' p' hu0
  | lst ys=>
   obtain⟨a',its',rfl,p',hs'⟩:=he;simp[bB] at h;subst h;exact SeqAt.RcNeAt.str_list _ t' p'.isList hu0
  | arr kvs=>
   simp[bB] at h
  | dct kvs=>
   simp[bB] at h
  | iz kvs=>
   simp[bB] at h
  | clo _ _=>
   simp[bB] at h
 | tup xs=>
  obtain⟨a,its,rfl,p,hs⟩:=hd;cases e with
  | non=>
   cases he;simp[bB] at h;subst h;exact SeqAt.RcNeAt.tuple_none p hu0
  | bl c'=>
   cases he;simp[bB] at h;subst h;exact SeqAt.RcNeAt.tuple_bool c' p hu0
  | int j=>
   obtain⟨t,rfl⟩:=he;simp[bB] at h;subst h;exact SeqAt.RcNeAt.tuple_int j t p hu0
  | str y=>
   obtain⟨t,rfl⟩:=he;simp[bB] at h;subst h;exact SeqAt.RcNeAt.tuple_str _ t p hu0
  | tup ys=>
   obtain⟨a',its',rfl,p',hs'⟩:=he;simp only[bB] at h;have l1:=hs.length;have l2:=hs'.length;obtain⟨f,hf,hb⟩:=ug xs ys b h;have:=SeqAt.RcNeAt.tuples (e:=f) p p' hu0 λj h1 h2=>?_
   ·rw[hb];simp only[Qq3] at this;rw[l1,l2] at this;exact this
   ·exact uU n its its' xs ys f A s hs hs' hf hin j h1 h2
  | lst ys=>
   obtain⟨a',its',rfl,p',hs'⟩:=he;simp[bB] at h;subst h;exact SeqAt.RcNeAt.tuple_list p p'.isList hu0
  | arr kvs=>
   simp[bB] at h
  | dct kvs=>
   simp[bB] at h
  | iz kvs=>
   simp[bB] at h
  | clo _ _=>
   simp[bB] at h
 | lst xs=>
  obtain⟨a,its,rfl,p,hs⟩:=hd;cases e with
  | non=>
   cases he;simp[bB] at h;subst h;exact SeqAt.RcNeAt.list_none p.isList hu0
  | bl c'=>
   cases he;simp[bB] at h;subst h;exact SeqAt.RcNeAt.list_bool c' p.isList hu0
  | int j=>
   obtain⟨t,rfl⟩:=he;simp[bB] at h;subst h;exact SeqAt.RcNeAt.list_int j t p.isList hu0
  | str y=>
   obtain⟨t,rfl⟩:=he;simp[bB] at h;subst h;exact SeqAt.RcNeAt.list_str _ t p.isList hu0
  | tup ys=>
   obtain⟨a',its',rfl,p',hs'⟩:=he;simp[bB] at h;subst h;exact SeqAt.RcNeAt.list_tuple p.isList p' hu0
  | lst ys=>
   obtain⟨a',its',rfl,p',hs'⟩:=he;simp only[bB] at h;have l1:=hs.length;have l2:=hs'.length;by_cases hl:xs.length=ys.length
   ·obtain⟨f,hf,hb⟩:=ug xs ys b h;have:=SeqAt.RcNeAt.lists (e:=f) p.isList p'.isList (by simp only[Qq3];omega) hu0 λj h1 h2=>?_
    ·rw[hb,<-hl,Nat.min_self,beq_self_eq_true,Bool.and_true,<-l1];simp only[Qq3] at this;exact this
    ·exact uU n its its' xs ys f A s hs hs' hf hin j h1 h2
   ·have:=yN hl b h;subst this;exact SeqAt.RcNeAt.lists_lengths p.isList p'.isList (by simp only[Qq3];rw[l1,l2];simpa using hl) hu0
  | arr kvs=>
   simp[bB] at h
  | dct kvs=>
   simp[bB] at h
  | iz kvs=>
   simp[bB] at h
  | clo _ _=>
   simp[bB] at h
 | arr kvs=>
  cases e<;>simp[bB] at h
 | dct kvs=>
  cases e<;>simp[bB] at h
 | iz kvs=>
  cases e<;>simp[bB] at h
 | clo _ _=>
  cases e<;>simp[bB] at h
section
variable{X:Cx}{C:Cfg}
def adw(K:Fg):R2:=λx y H Q=>∃dx dy b,Rep K H dx x/\Rep K H dy y/\bB 60 dx dy=some b/\Q (.bl b) H
def adm(K:Fg):R2:=λx y H Q=>∃dx dy b,Rep K H dx x/\Rep K H dy y/\bB 60 dx dy=some b/\Q (.bl (!b)) H
theorem aaR(hu:X.A.units+60<cLine):mF X (compareOp .Eq) (adw X.K):=by intro pins s σ H x y v u Q I rx ry h;obtain⟨dx,dy,b,h1,h2,h3,q⟩:=h;exact adf 59 dx dy v u b X.A s (Rep.sh I dx x v h1 rx) (Rep.sh I dy y u h2 ry) h3 hu X.prog X.w X.xe _ ⟨.bl b,H,I,rfl,q⟩
theorem aaJ(hu:X.A.units+60<cLine):mF X (compareOp .NotEq) (adm X.K):=by intro pins s σ H x y v u Q I rx ry h;obtain⟨dx,dy,b,h1,h2,h3,q⟩:=h;exact V1 59 dx dy v u b X.A s (Rep.sh I dx x v h1 rx) (Rep.sh I dy y u h2 ry) h3 hu X.prog X.w X.xe _ ⟨.bl (!b),H,I,rfl,q⟩
def rm(x y:D):Option D:=(bB 60 x y).map .bl
def PQ(x y:D):Option D:=(bB 60 x y).map λb=>.bl (!b)
theorem adY:o9 C (adw C.K) rm:=by
 intro Pr F env σ H x y d vx vy Q r hx hy h q;unfold rm at h;cases e:bB 60 x y with
 | none=>rw[e] at h;cases h
 | some b=>
  rw[e] at h;cases h;exact⟨x,y,b,hx.rep r.fr,hy.rep r.fr,e,q _ H F r (aO.refl F) rfl⟩
theorem adS:o9 C (adm C.K) PQ:=by
 intro Pr F env σ H x y d vx vy Q r hx hy h q;unfold PQ at h;cases e:bB 60 x y with
 | none=>rw[e] at h;cases h
 | some b=>
  rw[e] at h;cases h;exact⟨x,y,b,hx.rep r.fr,hy.rep r.fr,e,q _ H F r (aO.refl F) rfl⟩
def Qs(x:D):List D->Option Bool
 | []=>some false
 | y::ys=>match bB 59 y x,Qs x ys with
  | some a,some b=>some (a||b)
  | _,_=>none
theorem MT(x:D):∀(ys:List D) (b:Bool),Qs x ys=some b->(∀y∈ys,∃c,bB 59 y x=some c)/\(b=true ↔ ∃y∈ys,bB 59 y x=some true)
 | [],b,h=>by simp[Qs] at h;subst h;simp
 | y::ys,b,h=>by
  unfold Qs at h;cases h1:bB 59 y x with
  | none=>rw[h1] at h;simp at h
  | some c=>
   cases h2:Qs x ys with
   | none=>rw[h1,h2] at h;simp at h
   | some d=>
    rw[h1,h2] at h;obtain⟨i1,i2⟩:=MT x ys d h2;have hb:b=(c||d):=by simpa using h.symm
    refine⟨λz hz=>?_,?_⟩
    ·rcases Qq4.mp hz with rfl|hz
     ·exact⟨c,h1⟩
     ·exact i1 z hz
    ·rw[hb,Bool.or_eq_true];constructor
     ·rintro(hc|hd)
      ·exact⟨y,Qqj,by rw[h1,hc]⟩
      ·obtain⟨z,hz,e⟩:=i2.mp hd;exact⟨z,Qqq _ hz,e⟩
     ·rintro⟨z,hz,e⟩;rcases Qq4.mp hz with rfl|hz
      ·rw[h1] at e;left;simpa using e
      ·right;exact i2.mpr ⟨z,hz,e⟩
open Classical in
noncomputable def Ld(h:Heap)(x:D)(u:Value):Bool:=decide (∃y,Sh h y u/\bB 59 y x=some true)
open Classical in
theorem Gj{h:Heap}{x y:D}{u:Value}{c:Bool}(hy:Sh h y u)(e:bB 59 y x=some c):Ld h x u=c:=by
 unfold Ld;cases c with
 | true=>exact Qw4 ⟨y,hy,e⟩
 | false=>
  refine Qwj ?_;rintro⟨z,hz,e'⟩;have:=Nh 59 z y x u true false hz hy e' e;cases this
theorem KC{s:Shared}{A:Around}{x:D}{v:Value}{ys:List D}{us:List Value}{b:Bool}(hx:Sh s.heap x v)(hs:oN s.heap ys us)(h:Qs x ys=some b)(hu:A.units+59<cLine) :
  (∀w,w∈us.toArray->SeqAt.EqAt A s w v (Ld s.heap x w))/\us.toArray.any (Ld s.heap x)=b:=by
 obtain⟨h1,h2⟩:=MT x ys b h;have item:∀w∈us,∃y∈ys,Sh s.heap y w:=λw hw=>by
  obtain⟨j,hj,e⟩:=List.mem_iff_getElem.mp hw;obtain⟨d,e1,e2⟩:=ni hs (show us[j]? = some w by rw[Qwz hj,e]);exact⟨d,Qxv e1,e2⟩
 have back:∀{ys:List D} {us:List Value},oN s.heap ys us->∀y∈ys,∃w∈us,Sh s.heap y w:=by
  intro ys
  induction ys with
  | nil=>intro us _ y hy;cases hy
  | cons z zs ih=>
   intro us hs y hy;obtain⟨w,r,rfl,g1,g2⟩:=hs;rcases Qq4.mp hy with rfl|hy
   ·exact⟨w,Qqj,g1⟩
   ·obtain⟨w',m,g⟩:=ih g2 y hy;exact⟨w',Qqq _ m,g⟩
 refine⟨λw hw=>?_,?_⟩
 ·obtain⟨y,hy,sy⟩:=item w (by simpa using hw);obtain⟨c,hc⟩:=h1 y hy;rw[Gj sy hc];exact rB 59 y x w v c A s sy hx hc hu
 ·rw[List.any_toArray,Qky,h2,List.any_eq_true];constructor
  ·rintro⟨w,hw,e⟩;obtain⟨y,hy,sy⟩:=item w hw;obtain⟨c,hc⟩:=h1 y hy;rw[Gj sy hc] at e;subst e;exact⟨y,hy,hc⟩
  ·rintro⟨y,hy,e⟩;obtain⟨w,hw,sy⟩:=back hs y hy;exact⟨w,hw,Gj sy e⟩
def Q5:D->Option (List D)
 | .tup xs=>some xs
 | .lst xs=>some xs
 | .arr xs=>some xs
 | _=>none
def Z7(K:Fg)(neg:Bool):R2:=λx y H Q=>∃dx dy ys b,Rep K H dx x/\Rep K H dy y/\Q5 dy=some ys/\Qs dx ys=some b/\Q (.bl (if neg then !b else b)) H
theorem aaP(hu:X.A.units+61<cLine):mF X (compareOp .In) (Z7 X.K false):=by
 intro pins s σ H x y v u Q I rx ry h;obtain⟨dx,dy,ys,b,h1,h2,h3,h4,q⟩:=h;have hx:=Rep.sh I dx x v h1 rx;have hy:=Rep.sh I dy y u h2 ry;have hin:X.A.in1.units+59<cLine:=by show X.A.units+1+59<cLine;omega
 cases dy with
 | tup zs=>
  cases h3;obtain⟨a,its,rfl,p,hs⟩:=hy;obtain⟨g1,g2⟩:=KC (A:=X.A.in1) hx hs h4 hin;refine SeqAt.in_tupleAt (Ld s.heap dx) p g1 ⟨.bl _,H,I,rfl,?_⟩;rw[g2];exact q
 | lst zs=>
  cases h3;obtain⟨a,its,rfl,p,hs⟩:=hy;obtain⟨g1,g2⟩:=KC (A:=X.A.in1) hx hs h4 hin;refine SeqAt.in_listAt (Ld s.heap dx) p.isList g1 ⟨.bl _,H,I,rfl,?_⟩;rw[g2];exact q
 | arr zs=>
  cases h3;obtain⟨a,its,rfl,p,hs⟩:=hy;obtain⟨g1,g2⟩:=KC (A:=X.A.in1) hx hs h4 hin;refine SeqAt.in_listAt (Ld s.heap dx) p.isList g1 ⟨.bl _,H,I,rfl,?_⟩;rw[g2];exact q
 | _=>cases h3
end
theorem o9.or{C:Cfg}{r r':R2}{g g':D->D->Option D}(h:o9 C r g)(h':o9 C r' g'):o9 C (λx y H Q=>r x y H Q\/r' x y H Q) (λx y=>(g x y).or (g' x y)):=by
 intro Pr F env σ H x y d vx vy Q rl hx hy e q;have e:(g x y).or (g' x y)=some d:=e;cases e1:g x y with
 | some c=>
  rw[e1] at e;cases e;exact .inl (h Pr F env σ H x y d vx vy Q rl hx hy e1 q)
 | none=>
  rw[e1] at e;exact .inr (h' Pr F env σ H x y d vx vy Q rl hx hy e q)
section
variable{X:Cx}{C:Cfg}
def abO(x y:D):Option D:=match Q5 y with
 | some ys=>(Qs x ys).map .bl
 | none=>none
theorem aa6:o9 C (Z7 C.K false) abO:=by
 intro Pr F env σ H x y d vx vy Q r hx hy h q;unfold abO at h;cases e1:Q5 y with
 | none=>rw[e1] at h;cases h
 | some ys=>
  rw[e1] at h;cases e:Qs x ys with
  | none=>simp only[e,Option.map_none] at h;cases h
  | some b=>
   simp only[e,Qk0] at h;cases h;exact⟨x,y,ys,b,hx.rep r.fr,hy.rep r.fr,e1,e,q _ H F r (aO.refl F) rfl⟩
def abN(x y:D):Option D:=match x,y with
 | .str [c],.str z=>some (.bl (decide (c∈z)))
 | _,_=>none
abbrev adu:R2:=λx y H Q=>∃i j,x = .str i/\y = .str j/\Q (.bl (!(Builtin.Str.occurrences j i 0 j.length 1).isEmpty)) H
theorem one_sign(c:Nat)(z:List Nat):(!(Builtin.Str.occurrences (strOf z) (strOf [c]) 0 (strOf z).length 1).isEmpty)=decide (c∈z):=by
 have:=StrLaws.found_one (strOf z) c;unfold strOf at this ⊢
 simpa using this
theorem aa5:o9 C adu abN:=by
 intro Pr F env σ H x y d vx vy Q r hx hy h q;unfold abN at h;split at h
 ·rename_i c z;cases h;obtain⟨rfl,_⟩:=hx.str;obtain⟨rfl,_⟩:=hy.str;refine⟨_,_,rfl,rfl,?_⟩;rw[one_sign];exact q _ H F r (aO.refl F) rfl
 ·cases h
def gIn(x y:D):Option D:=(abO x y).or (abN x y)
abbrev adv(K:Fg):R2:=λx y H Q=>Z7 K false x y H Q\/adu x y H Q
theorem aaQ(hu:X.A.units+61<cLine):mF X (compareOp .In) (adv X.K):=(aaP hu).or O6
theorem adW:o9 C (adv C.K) gIn:=aa6.or aa5
def isPlain(x:V):Prop:=x = .non\/∃b,x = .bl b
theorem aaN:mF X (compareOp .Is) (λx y H Q=>isPlain y/\Q (.bl (decide (x=y))) H):=by
 intro pins s σ H x y v u Q I rx ry h;obtain⟨hp,q⟩:=h;rcases hp with rfl|⟨b,rfl⟩
 ·exact aaM pins s σ H x .non v u Q I rx ry ⟨rfl,q⟩
 ·cases ry;refine wpAny_is_plain ?_ (wU I q ?_)
  ·cases x<;>first|(cases rx;rfl)|(obtain⟨t,rfl⟩:=rx;rfl)
  ·cases x with
   | bl c=>cases rx;cases b<;>cases c<;>rfl
   | _=>first|(cases rx;rfl)|(obtain⟨t,rfl⟩:=rx;rfl)
theorem O5:mF X (compareOp .IsNot) (λx y H Q=>isPlain y/\Q (.bl (!decide (x=y))) H):=by
 intro pins s σ H x y v u Q I rx ry h;obtain⟨hp,q⟩:=h;rcases hp with rfl|⟨b,rfl⟩
 ·exact WL pins s σ H x .non v u Q I rx ry ⟨rfl,q⟩
 ·cases ry;refine wpAny_isNot_plain ?_ (wU I q ?_)
  ·cases x<;>first|(cases rx;rfl)|(obtain⟨t,rfl⟩:=rx;rfl)
  ·cases x with
   | bl c=>cases rx;cases b<;>cases c<;>rfl
   | _=>first|(cases rx;rfl)|(obtain⟨t,rfl⟩:=rx;rfl)
def isD:D->D->Option Bool
 | .non,.non=>some true
 | .bl a,.bl b=>some (a == b)
 | _,.non=>some false
 | _,.bl _=>some false
 | _,_=>none
def Fy(x y:D):Option D:=(isD x y).map .bl
def iU(x y:D):Option D:=(isD x y).map λb=>.bl (!b)
theorem YT{F H:Hp}{x y:D}{vx vy:V}{b:Bool}(hx:ir C.K F H x vx)(hy:ir C.K F H y vy)(h:isD x y=some b):isPlain vy/\decide (vx=vy)=b:=by
 have afW:∀a,¬(V.ref a=V.non):=λa e=>by cases e
 cases y with
 | non=>
  obtain rfl:=hy.non;refine⟨.inl rfl,?_⟩;cases x with
  | non=>obtain rfl:=hx.non;simp[isD] at h;simp[h]
  | bl c=>obtain rfl:=hx.bl;simp[isD] at h;simp[h]
  | int i=>obtain rfl:=hx.int;simp[isD] at h;simp[h]
  | str z=>obtain⟨rfl,_⟩:=hx.str;simp[isD] at h;simp[h]
  | tup xs=>rcases hx with ⟨_,a,_,rfl,_⟩|⟨a,rfl,_⟩<;>(simp[isD] at h;simp[h])
  | lst xs=>rcases hx with ⟨_,a,_,rfl,_⟩|⟨a,rfl,_⟩<;>(simp[isD] at h;simp[h])
  | arr xs=>rcases hx with ⟨_,a,_,rfl,_⟩|⟨a,rfl,_⟩<;>(simp[isD] at h;simp[h])
  | dct xs=>rcases hx with ⟨_,a,_,rfl,_⟩|⟨a,rfl,_⟩<;>(simp[isD] at h;simp[h])
  | iz xs=>rcases hx with ⟨_,a,_,rfl,_⟩|⟨a,rfl,_⟩<;>(simp[isD] at h;simp[h])
  | clo st xs=>rcases hx with ⟨a,_,rfl,_⟩|⟨a,rfl,_⟩<;>(simp[isD] at h;simp[h])
 | bl k=>
  obtain rfl:=hy.bl;refine⟨.inr ⟨k,rfl⟩,?_⟩;cases x with
  | non=>obtain rfl:=hx.non;simp[isD] at h;simp[h]
  | bl c=>obtain rfl:=hx.bl;simp only[isD,Qw7] at h;rw[<-h,abZ]
  | int i=>obtain rfl:=hx.int;simp[isD] at h;simp[h]
  | str z=>obtain⟨rfl,_⟩:=hx.str;simp[isD] at h;simp[h]
  | tup xs=>rcases hx with ⟨_,a,_,rfl,_⟩|⟨a,rfl,_⟩<;>(simp[isD] at h;simp[h])
  | lst xs=>rcases hx with ⟨_,a,_,rfl,_⟩|⟨a,rfl,_⟩<;>(simp[isD] at h;simp[h])
  | arr xs=>rcases hx with ⟨_,a,_,rfl,_⟩|⟨a,rfl,_⟩<;>(simp[isD] at h;simp[h])
  | dct xs=>rcases hx with ⟨_,a,_,rfl,_⟩|⟨a,rfl,_⟩<;>(simp[isD] at h;simp[h])
  | iz xs=>rcases hx with ⟨_,a,_,rfl,_⟩|⟨a,rfl,_⟩<;>(simp[isD] at h;simp[h])
  | clo st xs=>rcases hx with ⟨a,_,rfl,_⟩|⟨a,rfl,_⟩<;>(simp[isD] at h;simp[h])
 | _=>cases x<;>simp[isD] at h
theorem adV:o9 C (λx y H Q=>isPlain y/\Q (.bl (decide (x=y))) H) Fy:=by
 intro Pr F env σ H x y d vx vy Q r hx hy h q;unfold Fy at h;cases e:isD x y with
 | none=>rw[e] at h;cases h
 | some b=>
  rw[e] at h;cases h;obtain⟨h1,h2⟩:=YT hx hy e;exact⟨h1,by rw[h2];exact q _ H F r (aO.refl F) rfl⟩
theorem Sw:o9 C (λx y H Q=>isPlain y/\Q (.bl (!decide (x=y))) H) iU:=by
 intro Pr F env σ H x y d vx vy Q r hx hy h q;unfold iU at h;cases e:isD x y with
 | none=>rw[e] at h;cases h
 | some b=>
  rw[e] at h;cases h;obtain⟨h1,h2⟩:=YT hx hy e;exact⟨h1,by rw[h2];exact q _ H F r (aO.refl F) rfl⟩
def gI(c:Int->Int->Bool)(f:Int->Int->D)(x y:D):Option D:=match x,y with
 | .int i,.int j=>if c i j=true then some (f i j) else none
 | _,_=>none
theorem Sy{Cd:Int->Int->Prop}{c:Int->Int->Bool}{f:Int->Int->D}{g:Int->Int->V}(hc:∀i j,c i j=true->Cd i j)(hf:∀i j F,Rep C.K F (f i j) (g i j)):o9 C (rI Cd g) (gI c f):=by
 intro Pr F env σ H x y d vx vy Q r hx hy h q;unfold gI at h;split at h
 ·rename_i i j;split at h
  ·rename_i hcc;cases h;obtain rfl:=hx.int;obtain rfl:=hy.int;exact⟨i,j,rfl,rfl,hc i j hcc,q _ H F r (aO.refl F) (hf i j F)⟩
  ·cases h
 ·cases h
theorem Hu{f:Int->Int->D}{g:Int->Int->V}(hf:∀i j F,Rep C.K F (f i j) (g i j)):o9 C (Jt g) (gI (λ_ _=>true) f):=by
 intro Pr F env σ H x y d vx vy Q r hx hy h q;unfold gI at h;split at h
 ·rename_i i j;rw[if_pos rfl] at h;cases h;obtain rfl:=hx.int;obtain rfl:=hy.int;exact⟨i,j,rfl,rfl,q _ H F r (aO.refl F) (hf i j F)⟩
 ·cases h
def kZ(i j:Int):Bool:=decide (Builtin.Int.intBits i+Builtin.Int.intBits j<=134217728)
theorem WM:mF X (binaryOp .Mult) (rI (λi j=>kZ i j=true) λi j=>.int (i*j)):=
 opI λi j _ _ _ _ _ hc q=>mul_int q (mulOk_of_bits (Qq1 _) (Qq1 _) (Qw8 hc))
def ue:D->D->Option D:=gI kZ λi j=>.int (i*j)
def KH:D->D->Option D:=gI (λ_ _=>true) λi j=>.int (i - j)
def abL:D->D->Option D:=gI (λ_ j=>decide (0<j)) λi j=>.int (i % j)
def KJ:D->D->Option D:=gI (λi j=>decide (0<=j/\j<=1000000/\i.natAbs<2^64)) λi j=>.int (i^j.toNat)
def PN:D->D->Option D:=gI (λi j=>decide (0<=j/\j<=1000000/\i.natAbs<2^64)) λi j=>.int (i*2^j.toNat)
def BV:D->D->Option D:=gI (λ_ j=>decide (0<=j)) λi j=>.int (i / 2^j.toNat)
def Fz:D->D->Option D:=gI (λ_ _=>true) λi j=>.int (Builtin.bitAnd i j)
theorem aa1:o9 C (rI (λi j=>kZ i j=true) λi j=>.int (i*j)) ue:=Sy (λ_ _ h=>h) λ_ _ _=>rfl
theorem aaX:o9 C (Jt λi j=>.int (i - j)) KH:=Hu λ_ _ _=>rfl
theorem aa2:o9 C (rI (λ_ j=>0<j) λi j=>.int (i % j)) abL:=Sy (λ_ _ h=>Qw8 h) λ_ _ _=>rfl
theorem aa0:o9 C (rI Yl λi j=>.int (i^j.toNat)) KJ:=Sy (λi j h=>(show 0<=j/\j<=1000000/\i.natAbs<2^64 from Qw8 h)) λ_ _ _=>rfl
theorem aaZ:o9 C (rI Yl λi j=>.int (i*2^j.toNat)) PN:=Sy (λi j h=>(show 0<=j/\j<=1000000/\i.natAbs<2^64 from Qw8 h)) λ_ _ _=>rfl
theorem aaY:o9 C (rI (λ_ j=>0<=j) λi j=>.int (i / 2^j.toNat)) BV:=Sy (λ_ _ h=>Qw8 h) λ_ _ _=>rfl
theorem aa8:o9 C (Jt λi j=>.int (Builtin.bitAnd i j)) Fz:=Hu λ_ _ _=>rfl
abbrev adn:R2:=λx y H Q=>∃i j,x = .str i/\y = .str j/\Q (.bl (decide (i.cps.toList<j.cps.toList))) H
def aer:D->D->Option D:=gI (λ_ _=>true) λi j=>.bl (decide (i<j))
def abM(x y:D):Option D:=match x,y with
 | .str a,.str b=>some (.bl (decide (a<b)))
 | _,_=>none
def P0(x y:D):Option D:=(aer x y).or (abM x y)
def gLe:D->D->Option D:=gI (λ_ _=>true) λi j=>.bl (decide (i<=j))
def gGt:D->D->Option D:=gI (λ_ _=>true) λi j=>.bl (decide (j<i))
theorem aa3:o9 C adn abM:=by
 intro Pr F env σ H x y d vx vy Q r hx hy h q;unfold abM at h;split at h
 ·cases h;obtain⟨rfl,_⟩:=hx.str;obtain⟨rfl,_⟩:=hy.str;exact⟨_,_,rfl,rfl,q _ H F r (aO.refl F) (by show V.bl _=V.bl _;congr)⟩
 ·cases h
abbrev ado:R2:=λx y H Q=>Jt (λi j=>.bl (decide (i<j))) x y H Q\/adn x y H Q
theorem aaL:mF X (compareOp .Lt) ado:=adO.or O4
theorem aa4:o9 C (Jt λi j=>.bl (decide (i<j))) aer:=Hu λ_ _ _=>rfl
theorem adT:o9 C ado P0:=aa4.or aa3
theorem adU:o9 C (Jt λi j=>.bl (decide (i<=j))) gLe:=Hu λ_ _ _=>rfl
theorem adX:o9 C (Jt λi j=>.bl (decide (j<i))) gGt:=Hu λ_ _ _=>rfl
def Ru(K:Fg):R2:=λx y H Q=>∃a b ys,x = .ref a/\y = .ref b/\mD K H a []/\mD K H b ys/\Q (.ref b) H
theorem Sv:mF X (binaryOp .Add) (Ru X.K):=by
 intro pins s σ H x y v u Q I rx ry h;obtain⟨a,b,ys,rfl,rfl,ha,hb,q⟩:=h;cases rx;cases ry;obtain⟨its,r1,p1,_⟩:=I.tuple ha;obtain⟨its2,r2,p2,_⟩:=I.tuple hb;cases r1;obtain⟨⟨cls,dd,data,sl⟩,ho,hc,n,hd⟩:=id p1;obtain⟨⟨cls2,dd2,data2,sl2⟩,ho2,hc2,n2,hd2⟩:=id p2;simp only at hc hd hc2 hd2;subst hc hd hc2 hd2;exact concat_meets ⟨_,ho,rfl⟩ ⟨_,ho2,rfl⟩ noFill_tuple_add seq_tuple_add PySem.F.slot_tuple_add PySem.F.entry_tuple_add (PySem.F.args_tuple_add_2 _ _)
  (tuple_addW0 a b ([]:List Value).toArray its2.toArray n n2 dd dd2 sl sl2 (by simp)) ⟨ho,ho2,⟨.ref b,H,I,rfl,q⟩⟩
abbrev ady:R2:=λx y H Q=>∃i j,x = .str i/\y = .str j/\i.length+j.length<=sizeLine/\Q (.str (i++j)) H
abbrev adz(K:Fg):R2:=λx y H Q=>Jt (λi j=>.int (i+j)) x y H Q\/ady x y H Q\/adx x y H Q\/Yx K x y H Q\/Ru K x y H Q
theorem WQ:mF X (binaryOp .Add) (adz X.K):=aaU.or (Kp.or (aaS.or (WN.or Sv)))
def dD(x y:D):Option D:=match x,y with
 | .int i,.int j=>some (.int (i+j))
 | .str a,.str b=>if a.length+b.length<=sizeLine then some (.str (a++b)) else none
 | .lst a,.lst b=>if a.length+b.length<=sizeLine then some (.lst (a++b)) else none
 | .tup a,.tup b=>if a.length+b.length<=sizeLine then some (.tup (a++b)) else none
 | _,_=>none
theorem DR(a b:List Nat):strOf a++strOf b=strOf (a++b):=by show(⟨(strOf a).cps++(strOf b).cps⟩:Str)=_;unfold strOf;simp
theorem fQ(a:List Nat):(strOf a).length=a.length:=by show a.toArray.size=a.length;simp
theorem aa9:o9 C (adz C.K) dD:=by
 intro Pr F env σ H x y d vx vy Q r hx hy h q;unfold dD at h;split at h
 ·cases h;obtain rfl:=hx.int;obtain rfl:=hy.int;exact .inl ⟨_,_,rfl,rfl,q _ H F r (aO.refl F) rfl⟩
 ·split at h
  ·rename_i hz;cases h;obtain⟨rfl,_⟩:=hx.str;obtain⟨rfl,_⟩:=hy.str;refine .inr (.inl ⟨_,_,rfl,rfl,by rw[fQ,fQ];exact hz,?_⟩);rw[DR];exact q _ H F r (aO.refl F) ⟨rfl,by rw[Qqx];exact hz⟩
  ·cases h
 ·split at h
  ·rename_i hz;cases h;obtain⟨_,a,vs,rfl,h1,h2⟩:=hx.lst r.fr;obtain⟨_,b,ws,rfl,h3,h4⟩:=hy.lst r.fr;refine .inr (.inr (.inl ⟨a,b,vs,ws,rfl,rfl,h1,h3,by rw[h2.length,h4.length];exact hz,λp hp=>?_⟩));obtain⟨r2,s2⟩:=r.new (o:=.lst (vs++ws)) hp;exact q _ _ _ r2 s2 ⟨by rw[Qqx];exact hz,p,_,rfl,aW,bL.mono s2 _ _ (h2.append h4)⟩
  ·cases h
 ·split at h
  ·rename_i hz;cases h;obtain⟨z1,a,vs,rfl,h1,f1,h2⟩:=hx.tup r.fr;obtain⟨z2,b,ws,rfl,h3,f3,h4⟩:=hy.tup r.fr;by_cases hv:vs=[]
   ·subst hv;have e1:_=0:=h2.length.symm;have e2:=List.eq_nil_of_length_eq_zero e1;subst e2;refine .inr (.inr (.inr (.inr ⟨a,b,ws,rfl,rfl,h1,h3,?_⟩)));exact q _ H F r (aO.refl F) ⟨z2,b,ws,rfl,f3,h4⟩
   ·refine .inr (.inr (.inr (.inl ⟨a,b,vs,ws,rfl,rfl,h1,h3,hv,by rw[h2.length,h4.length];exact hz,λhw=>?_,λhw p hp=>?_⟩)))
    ·subst hw;have e1:_=0:=h4.length.symm;have e2:=List.eq_nil_of_length_eq_zero e1;subst e2;rw[Qxx] at q;exact q _ H F r (aO.refl F) ⟨z1,a,vs,rfl,f1,h2⟩
    ·obtain⟨r2,s2⟩:=r.new (o:=.tup (vs++ws)) hp;exact q _ _ _ r2 s2 ⟨by rw[Qqx];exact hz,p,_,rfl,mD.of aW,bL.mono s2 _ _ (h2.append h4)⟩
  ·cases h
 ·cases h
def Jr(K:Fg)(F H:Hp):List D->List V->Prop
 | [],vs=>vs=[]
 | d::ds,vs=>∃v r,vs=v::r/\ir K F H d v/\Jr K F H ds r
def tAB(C:Cfg)(ev:eN):TA:=λσ H Q=>∃(Pr F:Hp) (env env':Env) (ds:List D),Rel C Pr F env σ H/\ev env = .ok ds env'/\
 ∀vs H' F',Rel C Pr F' env' σ H'->aO F F'->Jr C.K F' H' ds vs->Q vs H'
def Yj(X:Cx)(C:Cfg)(es:List Expr)(ev:eN):Prop:=PA X es (tAB C ev)
def CallD(C:Cfg)(r:List V->Hp->VK->Prop)(g:List D->Option D):Prop:=∀(Pr F:Hp) (env:Env) (σ:L2.St) (H:Hp) (ds:List D) (d:D) (vs:List V) (Q:VK),Rel C Pr F env σ H->Jr C.K F H ds vs->g ds=some d->
 (∀v H' F',Rel C Pr F' env σ H'->aO F F'->Rep C.K F' d v->Q v H')->r vs H Q
def aq(g:List D->Option D)(a:eN):Ev:=λenv=>bindR (a env) λds aL=>iT (g ds) aL
theorem Np{r:List V->Hp->VK->Prop}{g:List D->Option D}{a:eN}(o:CallD C r g)(σ:L2.St)(H:Hp)(Q:VK)(h:tE C (aq g a) σ H Q):tCB r (tAB C a) σ H Q:=by obtain⟨Pr,F,env,env',d,rl,e,q⟩:=h;obtain⟨ds,aL,e1,e2⟩:=aU e;obtain⟨e3,rfl⟩:=fU e2;exact⟨Pr,F,env,env',ds,rl,e1,λvs H1 F1 r1 s1 p1=>o Pr F1 env' σ H1 ds d vs Q r1 p1 e3 λv H2 F2 r2 s2 p2=>q v H2 F2 r2 (s1.trans s2) p2⟩
theorem uM{x:Str}{p pos:Pos}{e:Expr}{es:List Expr}{id:String}{r:List V->Hp->VK->Prop}{g:List D->Option D}{a:eN}(hc:j5 X (.builtin id) r)(o:CallD C r g)(hg:Gl X x)(hm:X.mg x=none)(hv:bootBuiltins x=some (.builtin id))(ha:Yj X C (e::es) a)
  (hn:x ≠ "__name__":=by decide) (hdb:lR x:=by decide) (he:starEach (e::es) X.env=(false,eval e X.env)::starEach es X.env:=by rfl) (hpl:(backTo pos (starEach es X.env)).any (·.1)=false:=by rfl) :
  PX X C (.Call (.Name x p) (e::es) [] pos) (aq g a):=(Hs hc hg hm hv ha hn hdb he hpl).imp (Np o)
theorem wF{x:Str}{p pos:Pos}{e:Expr}{es:List Expr}{T:String}{r:List V->Hp->VK->Prop}{g:List D->Option D}{a:eN}(hc:j5 X (.type T) r)(o:CallD C r g)(hg:Gl X x)(hm:X.mg x=none)(hv:bootBuiltins x=some (.type T))(ha:Yj X C (e::es) a)
  (hn:x ≠ "__name__":=by decide) (hdb:lR x:=by decide) (he:starEach (e::es) X.env=(false,eval e X.env)::starEach es X.env:=by rfl) (hpl:(backTo pos (starEach es X.env)).any (·.1)=false:=by rfl) :
  PX X C (.Call (.Name x p) (e::es) [] pos) (aq g a):=(OJ hc hg hm hv ha hn hdb he hpl).imp (Np o)
theorem oJ{K:Fg}{F H:Hp}{d:D}{vs:List V}(h:Jr K F H [d] vs):∃v,vs=[v]/\ir K F H d v:=by obtain⟨v,r,rfl,h1,h2⟩:=h;cases h2;exact⟨v,rfl,h1⟩
theorem ab7{K:Fg}{F H:Hp}{d e:D}{vs:List V}(h:Jr K F H [d,e] vs):∃v w,vs=[v,w]/\ir K F H d v/\ir K F H e w:=by obtain⟨v,r,rfl,h1,h2⟩:=h;obtain⟨w,rfl,h3⟩:=oJ h2;exact⟨v,w,rfl,h1,h3⟩
def fW:List D->Option D
 | [.str x]=>some (.int x.length)
 | [.tup xs]=>some (.int xs.length)
 | [.lst xs]=>some (.int xs.length)
 | [.arr xs]=>some (.int xs.length)
 | _=>none
theorem ab5:CallD C (λxs H Q=>∃x n,xs=[x]/\aeR C.K x H n/\Q (.int n) H) fW:=by
 intro Pr F env σ H ds d vs Q r hs h q;unfold fW at h;split at h
 ·cases h;obtain⟨v,rfl,hv⟩:=oJ hs;obtain⟨rfl,hz⟩:=hv.str;exact⟨_,_,rfl,⟨by rw[fQ];exact hz,(fQ _).symm⟩,q _ H F r (aO.refl F) rfl⟩
 ·cases h;obtain⟨v,rfl,hv⟩:=oJ hs;obtain⟨_,a,ws,rfl,h1,_,h2⟩:=hv.tup r.fr;exact⟨_,_,rfl,.inr ⟨ws,h1,h2.length.symm⟩,q _ H F r (aO.refl F) rfl⟩
 ·cases h;obtain⟨v,rfl,hv⟩:=oJ hs;obtain⟨_,a,ws,rfl,h1,h2⟩:=hv.lst r.fr;exact⟨_,_,rfl,.inl ⟨ws,o7.of h1,h2.length.symm⟩,q _ H F r (aO.refl F) rfl⟩
 ·cases h;obtain⟨v,rfl,hv⟩:=oJ hs;obtain⟨_,a,ws,rfl,h1,h2⟩:=hv.arr r.fr;exact⟨_,_,rfl,.inl ⟨ws,h1,h2.length.symm⟩,q _ H F r (aO.refl F) rfl⟩
 ·cases h
def dI:List D->Option D
 | [.tup xs]=>some (.tup xs)
 | [.lst xs]=>some (.tup xs)
 | _=>none
abbrev Rn(K:Fg):List V->Hp->VK->Prop:=λxs H Q=>∃p ys,xs=[.ref p]/\((o7 K H p ys/\∀l,H l=none->Q (.ref l) (upd H l (.tup ys)))\/(mD K H p ys/\Q (.ref p) H))
theorem Ur:CallD C (Rn C.K) dI:=by
 intro Pr F env σ H ds d vs Q r hs h q;unfold dI at h;split at h
 ·cases h;obtain⟨v,rfl,hv⟩:=oJ hs;obtain⟨z,a,ws,rfl,h1,f1,h2⟩:=hv.tup r.fr;exact⟨a,ws,rfl,.inr ⟨h1,q _ H F r (aO.refl F) ⟨z,a,ws,rfl,f1,h2⟩⟩⟩
 ·cases h;obtain⟨v,rfl,hv⟩:=oJ hs;obtain⟨z,a,ws,rfl,h1,h2⟩:=hv.lst r.fr;refine⟨a,ws,rfl,.inl ⟨o7.of h1,λl hl=>?_⟩⟩;obtain⟨r2,s2⟩:=r.new (o:=.tup ws) hl;exact q _ _ _ r2 s2 ⟨z,l,ws,rfl,mD.of aW,bL.mono s2 _ _ h2⟩
 ·cases h
def signs(x:List Nat):List D:=x.map λc=>.str [c]
abbrev Ro:List V->Hp->VK->Prop:=λxs H Q=>∃z,xs=[.str z]/\z.length<=sizeLine/\∀l,H l=none->Q (.ref l) (upd H l (.lst (z.cps.toList.map λc=>V.str ⟨#[c]⟩)))
theorem K7(hh:X.calm=true):j5 X (.type "list") Ro:=by
 intro pins s σ H xs us Q I r h;obtain⟨z,rfl,hz,q⟩:=h;obtain⟨u,rfl,⟨t,rfl⟩⟩:=vals1 r;refine call_list_str (I.ok.hd hh) z t (λh' tk acc' c' kp e hacc=>?_) hz;refine⟨.ref s.heap.objs.size,_,I.laid kp (Qq1 _) (show gr X.prog X.w _ h' _ (.lst (z.cps.toList.map λc=>V.str ⟨#[c]⟩)) from⟨?_,acc'.toList,c',?_,by simpa using e⟩),rfl,q _ (I.hok.fresh (Qq1 _))⟩
 ·simpa[Str.length] using hz
 ·obtain⟨hsz,hit⟩:=hacc;have go:∀(cs:List Nat) (vs:List Value),vs.length=cs.length->(∀(j:Nat) (v:Value),vs[j]? = some v->∃(c:Nat) (u:Tok),cs[j]? = some c/\v=Value.str ⟨#[c]⟩ u)->Vals (cs.map λc=>V.str ⟨#[c]⟩) vs:=by
   intro cs
   induction cs with
   | nil=>intro vs hl _;rw[List.eq_nil_of_length_eq_zero hl];exact .nil
   | cons c cs ih=>
    intro vs hl hv;cases vs with
    | nil=>simp at hl
    | cons v vs=>
     obtain⟨c',u,e1,e2⟩:=hv 0 v rfl;simp at e1;subst e1 e2;exact .cons ⟨u,rfl⟩ (ih vs (by simpa using hl) λj w hw=>by simpa using hv (j+1) w (by simpa using hw))
  refine go _ _ (by simpa using hsz) λj v hv=>?_;obtain⟨c,u,e1,e2⟩:=hit j v (by simpa using hv);exact⟨c,u,by simpa using e1,e2⟩
def Dh:List D->Option D
 | [.tup xs]=>some (.lst xs)
 | [.lst xs]=>some (.lst xs)
 | [.str x]=>some (.lst (signs x))
 | _=>none
abbrev Rp(K:Fg):List V->Hp->VK->Prop:=λxs H Q=>(∃p ys,xs=[.ref p]/\(o7 K H p ys\/mD K H p ys)/\∀l,H l=none->Q (.ref l) (upd H l (.lst ys)))\/Ro xs H Q
theorem K8(hh:X.calm=true):j5 X (.type "list") (Rp X.K):=Ge.or (K7 hh)
theorem zr{K:Fg}{F:Hp}:∀x:List Nat,bL K F (signs x) (x.map λc=>V.str ⟨#[c]⟩)
 | []=>rfl
 | c::x=>⟨_,_,rfl,⟨rfl,by rw[Qj6];simp⟩,zr x⟩
theorem XJ:CallD C (Rp C.K) Dh:=by
 intro Pr F env σ H ds d vs Q r hs h q;unfold Dh at h;split at h
 ·cases h;obtain⟨v,rfl,hv⟩:=oJ hs;obtain⟨z,a,ws,rfl,h1,f1,h2⟩:=hv.tup r.fr;refine .inl ⟨a,ws,rfl,.inr h1,λl hl=>?_⟩;obtain⟨r2,s2⟩:=r.new (o:=.lst ws) hl;exact q _ _ _ r2 s2 ⟨z,l,ws,rfl,aW,bL.mono s2 _ _ h2⟩
 ·cases h;obtain⟨v,rfl,hv⟩:=oJ hs;obtain⟨z,a,ws,rfl,h1,h2⟩:=hv.lst r.fr;refine .inl ⟨a,ws,rfl,.inl (o7.of h1),λl hl=>?_⟩;obtain⟨r2,s2⟩:=r.new (o:=.lst ws) hl;exact q _ _ _ r2 s2 ⟨z,l,ws,rfl,aW,bL.mono s2 _ _ h2⟩
 ·rename_i x;cases h;obtain⟨v,rfl,hv⟩:=oJ hs;obtain⟨rfl,hz⟩:=hv.str;refine .inr ⟨_,rfl,by rw[fQ];exact hz,λl hl=>?_⟩;obtain⟨r2,s2⟩:=r.new (o:=.lst ((strOf x).cps.toList.map λc=>V.str ⟨#[c]⟩)) hl;refine q _ _ _ r2 s2 ⟨by simpa[signs] using hz,l,_,rfl,aW,?_⟩;have e:(strOf x).cps.toList=x:=by simp[strOf]
  rw[e];exact zr x
 ·cases h
def uY:List D->Option D
 | [.int i,.int j]=>if 0<j/\j<1073741824 then some (.tup [.int (i / j),.int (i % j)]) else none
 | _=>none
theorem Qh:CallD C (λxs H Q=>∃i j,xs=[.int i,.int j]/\aeT i j/\∀p,H p=none->Q (.ref p) (upd H p (.tup [.int (i / j),.int (i % j)]))) uY:=by
 intro Pr F env σ H ds d vs Q r hs h q;unfold uY at h;split at h
 ·split at h
  ·rename_i hj;cases h;obtain⟨v,w,rfl,hv,hw⟩:=ab7 hs;obtain rfl:=hv.int;obtain rfl:=hw.int;refine⟨_,_,rfl,hj,λp hp=>?_⟩;obtain⟨r2,s2⟩:=r.new (o:=.tup [.int _,.int _]) hp;exact q _ _ _ r2 s2 ⟨by rw[Qj6];simp,p,_,rfl,mD.of aW,⟨_,_,rfl,rfl,_,_,rfl,rfl,rfl⟩⟩
  ·cases h
 ·cases h
def Vu:D->String
 | .non=>"NoneType"
 | .bl _=>"bool"
 | .int _=>"int"
 | .str _=>"str"
 | .tup _=>"tuple"
 | .lst _=>"list"
 | .arr _=>"list"
 | .dct _=>"dict"
 | .iz _=>"dict"
 | .clo _ _=>"NoneType"
def uW(d:D)(T:String):Bool:=Vu d == T||(Vu d == "bool" && T == "int")
theorem abz{d:D}{u c:Value}{b:Bool}{s:Shared}{A:Around}{E:Value->Shared->Prop}{Q:Value->Shared->Prop}(Ju:X.K.In s.heap)(nc:∀st ds,d ≠ .clo st ds)(h:Sh s.heap d u)(e:PySem.W.kitOne X.K (.type (Vu d)) c=some b)(q:∀tk,Q (.bool b) { s with toks:=tk }) :
  wpAny (model X.prog X.w) A (call (.builtin "isinstance") [u,c]) Q E s:=by
 cases d with
 | non=>cases h;exact PySem.W.kia_one PySem.W.kitx_none Ju True.intro e (λz=>nomatch z) q
 | bl y=>cases h;exact PySem.W.kia_one PySem.W.kitx_bool Ju True.intro e (λz=>nomatch z) q
 | int i=>obtain⟨t,rfl⟩:=h;exact PySem.W.kia_one PySem.W.kitx_int Ju True.intro e (λz=>nomatch z) q
 | str y=>obtain⟨t,rfl⟩:=h;exact PySem.W.kia_one PySem.W.kitx_str Ju True.intro e (λz=>nomatch z) q
 | tup xs=>
  obtain⟨a,its,rfl,p,_⟩:=h;obtain⟨o,h1,h2,_⟩:=p;exact PySem.W.kia_one PySem.W.kitx_tuple Ju ⟨o,h1,h2⟩ e (λz=>nomatch z) q
 | lst xs=>
  obtain⟨a,its,rfl,p,_⟩:=h;obtain⟨o,h1,h2,_⟩:=p.isList;exact PySem.W.kia_one PySem.W.kitx_list Ju ⟨o,h1,h2⟩ e (λz=>nomatch z) q
 | arr xs=>
  obtain⟨a,its,rfl,p,_⟩:=h;obtain⟨o,h1,h2,_⟩:=p.isList;exact PySem.W.kia_one PySem.W.kitx_list Ju ⟨o,h1,h2⟩ e (λz=>nomatch z) q
 | dct kvs=>
  obtain⟨a,o,rfl,h1,h2⟩:=h;exact PySem.W.kia_one PySem.W.kitx_dict Ju ⟨o,h1,h2.1⟩ e (λz=>nomatch z) q
 | iz kvs=>
  obtain⟨a,o,rfl,h1,h2⟩:=h;exact PySem.W.kia_one PySem.W.kitx_dict Ju ⟨o,h1,h2.1⟩ e (λz=>nomatch z) q
 | clo st ds=>exact(nc st ds rfl).elim
def T7(T:String)(d:D):Option D:=match d with
 | .clo _ _=>none
 | _=>some (.bl (uW d T))
theorem Xn{T:String}{d e:D}(h:T7 T d=some e):(∀st ds,d ≠ .clo st ds)/\e = .bl (uW d T):=by cases d<;>simp[T7] at h<;>exact⟨λ_ _ z=>(by cases z),h.symm⟩
theorem Uv{T:String}(hk:∀d:D,PySem.W.kitOne X.K (.type (Vu d)) (.type T)=some (uW d T)) :
  j5 X (.builtin "isinstance") (λxs H Q=>∃d x,xs=[x,.ty T]/\(∀st ds,d ≠ .clo st ds)/\Rep X.K H d x/\Q (.bl (uW d T)) H):=by
 intro pins s σ H xs us Q I r h;obtain⟨d,x,rfl,nc,hr,q⟩:=h;obtain⟨u,w,rfl,r1,r2⟩:=vals2 r;cases r2;exact abz (X:=X) I.Px nc (Rep.sh I d x u hr r1) (hk d) λtk=>⟨.bl _,H,I.tok tk,rfl,q⟩
def jB:List D->Option (List (List Nat))
 | []=>some []
 | .str x::r=>(jB r).map (x :: ·)
 | _=>none
def zZ(sep:List Nat):List (List Nat)->List Nat
 | []=>[]
 | x::r=>r.foldl (λacc y=>acc++sep++y) x
theorem Tw(sep:List Nat)(xs:List (List Nat)):Txt.join (strOf sep) (xs.map strOf)=strOf (zZ sep xs):=by
 unfold Txt.join;unfold Builtin.Str.glued;cases xs with
 | nil=>rfl
 | cons x r=>
  show(⟨(r.map strOf).foldl (λacc p=>acc++(strOf sep).cps++p.cps) (strOf x).cps⟩:Str)=strOf (r.foldl (λacc y=>acc++sep++y) x);have go:∀(r:List (List Nat)) (x:List Nat),(r.map strOf).foldl (λacc p=>acc++(strOf sep).cps++p.cps) (strOf x).cps=(strOf (r.foldl (λacc y=>acc++sep++y) x)).cps:=by
   intro r
   induction r with
   | nil=>intro x;rfl
   | cons y r ih=>
    intro x;rw[Qq8,List.foldl_cons,List.foldl_cons];rw[<-ih (x++sep++y)]
    congr 1
    simp[strOf]
  rw[go]
theorem wB{K:Fg}{F:Hp}:∀{ds:List D} {xs:List (List Nat)} {vs:List V},jB ds=some xs->bL K F ds vs->vs=xs.map λx=>V.str (strOf x)
 | [],bs,vs,h,hr=>by simp[jB] at h;subst h;cases hr;rfl
 | d::ds,bs,vs,h,hr=>by
  obtain⟨v,r,rfl,h1,h2⟩:=hr;cases d with
  | str b=>
   simp only[jB] at h;cases e:jB ds with
   | none=>rw[e] at h;cases h
   | some cs=>
    rw[e] at h;cases h;cases h1.1;rw[wB e h2]
    rfl
  | _=>simp[jB] at h
theorem vN:∀{xs:List (List Nat)} {us:List Value},Vals (xs.map λx=>V.str (strOf x)) us->StrsAre us (xs.map strOf)
 | [],_,.nil=>.nil
 | x::xs,_,.cons r t=>by
  obtain⟨k,rfl⟩:=r;exact .cons _ k (vN t)
def joinFits(sep:List Nat)(xs:List (List Nat)):Bool:=decide ((xs.map List.length).sum+xs.length*sep.length<=16777216)
def rJoin(K:Fg):V->List V->Hp->VK->Prop:=λx vs H Q=>∃sep xs p,x = .str (strOf sep)/\vs=[.ref p]/\o7 K H p (xs.map λx=>V.str (strOf x))/\joinFits sep xs=true/\Q (.str (strOf (zZ sep xs))) H
theorem W5:MtR X "str.join" (rJoin X.K):=by
 intro pins s σ H x vs v us Q I rx rv h;obtain⟨sep,xs,p,rfl,rfl,hq,hf,q⟩:=h;obtain⟨t,rfl⟩:=rx;obtain⟨u,rfl,ru⟩:=vals1 rv;cases ru;obtain⟨its,r,pl,_⟩:=I.list hq;have hs:=vN r;refine join_list pl.isList (by simpa using hs) ?_ λt' k=>?_
 ·have hf':=Qw8 hf;have e:((xs.map strOf).map (·.length))=xs.map List.length:=by
   rw[Qkx];apply Qj1;intro z _;exact fQ z
  rw[e,fQ,Qqv];exact hf'
 ·rw[Tw];exact⟨.str _,H,I.tok k,⟨t',rfl⟩,q⟩
theorem G3(sep:List Nat):∀(r:List (List Nat)) (x:List Nat),(r.foldl (λacc y=>acc++sep++y) x).length=x.length+(r.map List.length).sum+r.length*sep.length
 | [],x=>by simp
 | y::r,x=>by
  rw[List.foldl_cons,G3 sep r,Qqx,Qqx,Qq8,List.sum_cons,Qqy,Nat.add_mul];omega
theorem Tz{sep:List Nat}{xs:List (List Nat)}(h:joinFits sep xs=true):(zZ sep xs).length<=sizeLine:=by
 have h':=Qw8 h;rw[Qj6];cases xs with
 | nil=>simp[zZ]
 | cons x r=>
  show(r.foldl (λacc y=>acc++sep++y) x).length<=_;rw[G3];rw[Qq8,List.sum_cons,Qqy,Nat.add_mul] at h';omega
def m6(x y:D):Option D:=match x,y with
 | .str sep,.lst ds=>(match jB ds with
  | some xs=>if joinFits sep xs=true then some (.str (zZ sep xs)) else none
  | none=>none)
 | _,_=>none
theorem Wi{o e:Expr}{a b:Ev}{apos cpos:Pos}(hK:X.K=C.K)(ho:PX X C o a)(he:U6 X C e b)(hbase:attributeBase o "join" X.env (eval o X.env)=eval o X.env:=by rfl)
  (hs:Ol e X.env:=by rfl)
  (hfew:((backTo cpos (starEach [e] X.env)).all (λx=>!x.1)&&(backToKw cpos (keywordEach [] X.env)).all (λx=>x.1.isSome)
   && decide ([e].length+([]:List Keyword).length+(if ([]:List Keyword).isEmpty then 0 else 1)<30))=true:=by rfl)
  (hline:(apos.endLine == cpos.line)=true:=by rfl) (hplain:(backTo cpos (starEach [] X.env)).any (·.1)=false:=by rfl) :
  PX X C (.Call (.Attribute o "join" apos) [e] [] cpos) (aP m6 a b):=by
 refine(Sq PySem.F.plainAttrs_str PySem.F.slot_str_join PySem.F.type_str_join W5 ho (iD he tV hs) hbase hfew hline hs hplain).imp λσ H Q h=>?_;obtain⟨Pr,F,env,env',d,rl,e0,q⟩:=h;obtain⟨x,aL,e1,e2⟩:=aU e0;obtain⟨y,fG,e3,e4⟩:=aU e2;obtain⟨e5,rfl⟩:=fU e4;unfold m6 at e5;split at e5
 ·rename_i sep ds;split at e5
  ·rename_i xs hxs;split at e5
   ·rename_i hf;cases e5;refine⟨Pr,F,env,aL,_,rl,e1,λvx H1 F1 r1 s1 p1=>?_⟩;obtain⟨rfl,_⟩:=p1;refine⟨rfl,Pr,F1,aL,env',_,r1,e3,λvy H2 F2 r2 s2 p2=>?_⟩;obtain⟨z,l,ws,rfl,h1,h2⟩:=p2.lst r2.fr;have e6:=wB hxs h2;subst e6;exact⟨sep,xs,l,rfl,rfl,o7.of h1,hf,q _ H2 F2 r2 (s1.trans s2) ⟨rfl,Tz hf⟩⟩
   ·cases e5
  ·cases e5
 ·cases e5
end
theorem Rel.put{C:Cfg}{Pr F:Hp}{env:Env}{σ:L2.St}{H:Hp}(r:Rel C Pr F env σ H){i:Nat}{d:D}{v:V}(hfx:C.fx i=none)(p:Rep C.K F d v):Rel C Pr F (env.set i (some (false,d))) (σ.set i (some v)) H:=by
 refine⟨r.pr,r.fr,by rw[Qx0,Qx0];exact r.len,λj e he=>?_,λj e he=>?_,λj k e f b hj hk g1 g2=>?_,r.dj,λj a hj=>?_⟩
 ·by_cases hji:j=i
  ·subst hji;have hl:j<env.length:=by
    have:=(Qqw.mp he).1
    rwa [Qx0] at this
   rw[Qwv hl] at he;cases he;exact⟨v,Qwv (by rw[<-r.len];exact hl),p⟩
  ·rw[Qq7 (Ne.symm hji)] at he ⊢;exact r.val j e he
 ·by_cases hji:j=i
  ·subst hji;have hl:j<env.length:=by
    have:=(Qqw.mp he).1
    rwa [Qx0] at this
   rw[Qwv hl] at he;cases he
  ·rw[Qq7 (Ne.symm hji)] at he ⊢;exact r.own j e he
 ·have nn:∀(j:Nat) (e:D),(env.set i (some (false,d)))[j]? = some (some (true,e))->j≠i:=λj e he z=>by
   subst z;have hl:j<env.length:=by
    have:=(Qqw.mp he).1
    rwa [Qx0] at this
   rw[Qwv hl] at he;cases he
  have nj:=nn j e hj;have nk:=nn k f hk;rw[Qq7 (Ne.symm nj)] at hj g1;rw[Qq7 (Ne.symm nk)] at hk g2;exact r.apart j k e f b hj hk g1 g2
 ·have hji:j≠i:=λz=>by rw[z,hfx] at hj;cases hj
  rw[Qq7 (Ne.symm hji)];exact r.fix j a hj
structure U8(K:Fg)(Pr F:Hp)(env:Env)(σ:L2.St)(H:Hp)(d:D)(a:Addr):Prop where
 own:j4 K F H d a
 nF:F a=none
 nP:Pr a=none
 ap:∀(j:Nat) (e:D),env[j]? = some (some (true,e))->σ[j]? = some (some (V.ref a))->False
theorem U8.of{C:Cfg}{Pr F:Hp}{env:Env}{σ:L2.St}{H:Hp}{a:Addr}{o:HO}{d:D}(r:Rel C Pr F env σ H)(h:H a=none)(ho:j4 C.K F (upd H a o) d a):U8 C.K Pr F env σ (upd H a o) d a:=
 ⟨ho,r.fr.free h,r.pr.free h,λj e he hs=>by
  obtain⟨b,h1,h2,_⟩:=r.own j e he;rw[hs] at h1;cases h1;obtain⟨u,hu⟩:=h2.some;rw[h] at hu;cases hu⟩
theorem Rel.RK{C:Cfg}{Pr F:Hp}{env:Env}{σ:L2.St}{H:Hp}(r:Rel C Pr F env σ H){i:Nat}{d:D}{a:Addr}(hfx:C.fx i=none)(n:U8 C.K Pr F env σ H d a):Rel C Pr F (env.set i (some (true,d))) (σ.set i (some (.ref a))) H:=by
 have same:∀(j:Nat) (x:Bool×D),(env.set i (some (true,d)))[j]? = some (some x)->j=i->x=(true,d)/\j<env.length:=λj x he z=>by
  subst z;have hl:j<env.length:=by
   have:=(Qqw.mp he).1
   rwa [Qx0] at this
  rw[Qwv hl] at he;cases he;exact⟨rfl,hl⟩
 refine⟨r.pr,r.fr,by rw[Qx0,Qx0];exact r.len,λj e he=>?_,λj e he=>?_,λj k e f b hj hk g1 g2=>?_,r.dj,λj a hj=>?_⟩
 ·by_cases hji:j=i
  ·have:=(same j _ he hji).1;cases this
  ·rw[Qq7 (Ne.symm hji)] at he ⊢;exact r.val j e he
 ·by_cases hji:j=i
  ·obtain⟨z,hl⟩:=same j _ he hji;cases z;subst hji;exact⟨a,Qwv (by rw[<-r.len];exact hl),n.own,n.nF,n.nP⟩
  ·rw[Qq7 (Ne.symm hji)] at he ⊢;exact r.own j e he
 ·by_cases nj:j=i
  ·by_cases nk:k=i
   ·rw[nj,nk]
   ·obtain⟨z,hl⟩:=same j _ hj nj;subst nj;rw[Qwv (by rw[<-r.len];exact hl)] at g1;cases g1;rw[Qq7 (Ne.symm nk)] at hk g2;exact(n.ap k f hk g2).elim
  ·rw[Qq7 (Ne.symm nj)] at hj g1;by_cases nk:k=i
   ·obtain⟨z,hl⟩:=same k _ hk nk;subst nk;rw[Qwv (by rw[<-r.len];exact hl)] at g2;cases g2;exact(n.ap j e hj g1).elim
   ·rw[Qq7 (Ne.symm nk)] at hk g2;exact r.apart j k e f b hj hk g1 g2
 ·have hji:j≠i:=λz=>by rw[z,hfx] at hj;cases hj
  rw[Qq7 (Ne.symm hji)];exact r.fix j a hj
theorem Rel.keep{C:Cfg}{Pr F:Hp}{env:Env}{σ:L2.St}{H:Hp}{d:D}{a:Addr}(r:Rel C Pr F env σ H)(n:U8 C.K Pr F env σ H d a):∃F',Rel C Pr F' env σ H/\aO F F'/\Rep C.K F' d (.ref a):=by
 obtain⟨o,ho⟩:=n.own.some;have s1:aO F (upd F a o):=mO n.nF;have rep:Rep C.K (upd F a o) d (.ref a):=by
  have h2:=n.own;cases d with
  | lst xs=>obtain⟨z,vs,g1,g2⟩:=h2;rw[ho] at g1;cases g1;exact⟨z,a,vs,rfl,aW,bL.mono s1 _ _ g2⟩
  | dct kvs=>obtain⟨z,ks,g1,g2⟩:=h2;rw[ho] at g1;cases g1;exact⟨z,a,ks,rfl,.inl aW,dX.mono s1 _ _ g2⟩
  | iz kvs=>obtain⟨z,ks,g1,g2⟩:=h2;rw[ho] at g1;cases g1;exact⟨z,a,ks,rfl,.inl aW,dB.mono s1 _ _ g2⟩
  | _=>exact h2.elim
 refine⟨upd F a o,⟨r.pr,λb u e=>?_,r.len,λj e he=>?_,λj e he=>?_,r.apart,λb u e=>?_,r.fix⟩,s1,rep⟩
 ·by_cases hb:b=a
  ·subst hb;rw[aW] at e;cases e;exact ho
  ·rw[bG hb] at e;exact r.fr b u e
 ·obtain⟨v,g1,g2⟩:=r.val j e he;exact⟨v,g1,Rep.mono s1 e v g2⟩
 ·obtain⟨b,g1,g2,g3,g4⟩:=r.own j e he;have hb:b≠a:=λz=>by subst z;exact n.ap j e he g1
  exact⟨b,g1,g2.mono s1 rfl,by rw[bG hb];exact g3,g4⟩
 ·by_cases hb:b=a
  ·subst hb;exact n.nP
  ·rw[bG hb] at e;exact r.dj b u e
theorem Rel.write{C:Cfg}{Pr F:Hp}{env:Env}{σ:L2.St}{H:Hp}{i:Nat}{d d':D}{a:Addr}{u:HO}(r:Rel C Pr F env σ H)(h:env[i]? = some (some (true,d)))(hs:σ[i]? = some (some (V.ref a)))(ho:j4 C.K F (upd H a u) d' a) :
  Rel C Pr F (env.set i (some (true,d'))) σ (upd H a u):=by
 obtain⟨a',h1,h2,h3,h4⟩:=r.own i d h;rw[hs] at h1;cases h1;have hi:i<env.length:=(Qqw.mp h).1;have ne:∀(j:Nat) (e:D) (b:Addr),j≠i->env[j]? = some (some (true,e))->σ[j]? = some (some (V.ref b))->b≠a:=λj e b hj he g z=>hj (r.apart j i e d a he h (by rw[<-z];exact g) hs);refine⟨λb w e=>?_,λb w e=>?_,by rw[Qx0];exact r.len,λj e he=>?_,λj e he=>?_,λj k e f b hj hk g1 g2=>?_,r.dj,r.fix⟩
 ·have hb:b≠a:=λz=>by rw[z,h4] at e;cases e
  rw[bG hb];exact r.pr b w e
 ·have hb:b≠a:=λz=>by rw[z,h3] at e;cases e
  rw[bG hb];exact r.fr b w e
 ·by_cases hj:j=i
  ·subst hj;rw[Qwv hi] at he;cases he
  ·rw[Qq7 (Ne.symm hj)] at he;exact r.val j e he
 ·by_cases hj:j=i
  ·subst hj;rw[Qwv hi] at he;cases he;exact⟨a,hs,ho,h3,h4⟩
  ·rw[Qq7 (Ne.symm hj)] at he;obtain⟨b,g1,g2,g3,g4⟩:=r.own j e he;exact⟨b,g1,g2.mono (aO.refl F) (bG (ne j e b hj he g1)),g3,g4⟩
 ·have un:∀(j:Nat) (e:D),(env.set i (some (true,d')))[j]? = some (some (true,e))->∃e',env[j]? = some (some (true,e')):=λj e he=>by
   by_cases hj:j=i
   ·subst hj;exact⟨d,h⟩
   ·rw[Qq7 (Ne.symm hj)] at he;exact⟨e,he⟩
  obtain⟨e',hj'⟩:=un j e hj;obtain⟨f',hk'⟩:=un k f hk;exact r.apart j k e' f' b hj' hk' g1 g2
def tN(C:Cfg)(ev:Ev):TE:=λσ H Q=>∃(Pr F:Hp) (env env':Env) (d:D),Rel C Pr F env σ H/\ev env = .ok d env'/\
 ∀a H' F',Rel C Pr F' env' σ H'->aO F F'->U8 C.K Pr F' env' σ H' d a->Q (.ref a) H'
def Vl(X:Cx)(C:Cfg)(e:Expr)(ev:Ev):Prop:=PE X e (tN C ev)
section
variable{X:Cx}{C:Cfg}{pos:Pos}
theorem Vl.px{e:Expr}{ev:Ev}(h:Vl X C e ev):PX X C e ev:=PE.imp h λσ H Q hq=>by
 obtain⟨Pr,F,env,env',d,r,e,q⟩:=hq;refine⟨Pr,F,env,env',d,r,e,λa H' F' r' s' n'=>?_⟩;obtain⟨F2,r2,s2,p2⟩:=r'.keep n';exact q _ _ F2 r2 (s'.trans s2) p2
theorem Mh{es:List Expr}{r:eN}(h:U7 X C es r):Vl X C (.List es pos) (cC r):=(aaB h).imp λσ H Q hq=>by
 obtain⟨Pr,F,env,env',d,rl,e,q⟩:=hq;obtain⟨ds,aL,e1,e2⟩:=aU e;split at e2
 ·rename_i hz;cases e2;refine⟨Pr,F,env,env',ds,rl,e1,λvs H1 F1 r1 s1 p1=>⟨by rw[p1.length];exact hz,λp hp=>?_⟩⟩;exact q _ _ F1 (r1.fresh hp) s1 (U8.of r1 hp ⟨hz,vs,aW,p1⟩)
 ·cases e2
abbrev GV:=D->Env->Option Env
abbrev Vm:=List D->Env->Option Env
def tG(C:Cfg)(lo:Nat)(gv:GV):TG:=λv σ H Q=>∃(Pr F:Hp) (env env':Env) (d:D),Rel C Pr F env σ H/\Rep C.K F d v/\gv d env=some env'/\
 ∀σ' H' F',Rel C Pr F' env' σ' H'->aO F F'->σ'.take lo=σ.take lo->Q σ' H'
def tGs(C:Cfg)(lo:Nat)(gv:Vm):Yd:=λvs σ H Q=>∃(Pr F:Hp) (env env':Env) (ds:List D),Rel C Pr F env σ H/\bL C.K F ds vs/\gv ds env=some env'/\
 ∀σ' H' F',Rel C Pr F' env' σ' H'->aO F F'->σ'.take lo=σ.take lo->Q σ' H'
def Yi(X:Cx)(C:Cfg)(lo:Nat)(e:Expr)(gv:GV):Prop:=PG X e (tG C lo gv)
def acr(X:Cx)(C:Cfg)(lo:Nat)(es:List Expr)(gv:Vm):Prop:=Zq X es (tGs C lo gv)
theorem _root_.L2.PG.imp{X:Cx}{e:Expr}{t t':TG}(h:PG X e t)(i:∀v σ H Q,t' v σ H Q->t v σ H Q):PG X e t':=λpins s σ H v u Q I r q=>h pins s σ H v u Q I r (i v σ H Q q)
theorem _root_.L2.Zq.imp{X:Cx}{e:List Expr}{t t':Yd}(h:Zq X e t)(i:∀v σ H Q,t' v σ H Q->t v σ H Q):Zq X e t':=λpins s σ H v u Q I r q=>h pins s σ H v u Q I r (i v σ H Q q)
def aj(i:Nat):GV:=λd env=>some (env.set i (some (false,d)))
theorem RG{lo i:Nat}{x:Str}(hN:X.N.Nodup)(hi:X.N[i]? = some x)(hx:Loc X.env.scope x)(hlo:lo<=i)(hfx:C.fx i=none)(hf:X.fn x=true\/X.env.scope.names.lookup x=some .local:=by first|exact .inl rfl|exact .inr rfl|assumption):Yi X C lo (.Name x pos) (aj i):=
 (Wu hN hi hx hf).imp λv σ H Q h=>by
  obtain⟨Pr,F,env,env',d,r,p,e,q⟩:=h;cases e;exact q _ _ F (r.put hfx p) (aO.refl F) (by rw[List.take_set_of_le hlo])
def cG:Vm:=λds env=>if ds.isEmpty then some env else none
def aH(g:GV)(gs:Vm):Vm:=λds env=>match ds with
 | d::r=>(g d env).bind λe1=>gs r e1
 | []=>none
theorem RD{lo:Nat}:acr X C lo [] cG:=Wt.imp λv σ H Q h=>by
 obtain⟨Pr,F,env,env',ds,r,p,e,q⟩:=h;cases ds with
 | nil=>cases e;cases p;exact⟨rfl,q _ _ F r (aO.refl F) rfl⟩
 | cons d ds=>cases e
def cD(n:Nat)(gs:Vm):GV:=λd env=>match d with
 | .tup ds=>if ds.length=n then gs ds env else none
 | _=>none
theorem Wf{lo:Nat}{es:List Expr}{k:Nat}{gs:Vm}{n:Nat}(hc:X.calm=true)(hK:X.K=C.K)(h:acr X C lo es gs)
  (hn:(assignEach es X.env).length=n:=by rfl) (hst:(assignEach es X.env).findIdx? (·.1)=none:=by rfl):Yi X C lo (.Tuple es k pos) (cD n gs):=(aat hc h hn hst).imp λv σ H Q h=>by
 obtain⟨Pr,F,env,env',d,r,p,e,q⟩:=h;cases d with
 | tup ds=>
  obtain⟨z,a,vs,rfl,h1,h2⟩:=p;unfold cD at e;simp only at e;split at e
  ·rename_i hl;rw[hK];exact⟨a,vs,rfl,aO.tupK r.fr h1,by rw[h2.length];exact hl,Pr,F,env,env',ds,r,h2,e,q⟩
  ·cases e
 | _=>cases e
def Xj(i:Nat)(ix:Ev):GV:=λd env=>match env[i]? with
 | some (some (_,_))=>(match ix env with
  | .ok (.int k) aL=>(match aL[i]? with
   | some (some (true,.lst xs))=>(YS xs.length k).map λj=>aL.set i (some (true,.lst (xs.set j d)))
   | _=>none)
  | _=>none)
 | _=>none
theorem Z9{lo i:Nat}{x:Str}{ix:Expr}{ev:Ev}{px:Pos}(hN:X.N[i]? = some x)(hv:vH X.env.scope x)(h:PX X C ix ev)
  (ha:∀v,assign (.Subscript (.Name x px) ix pos) X.env v=(do
   let ov <-holding [v] (eval (.Name x px) X.env)
   let iv <-holding [v,ov] (eval ix X.env)
   standAt pos
   holding [v,ov,iv] (setItem ov iv v)
   release [v,ov,iv] []):=by intro _;rfl)
  (hd:lR x:=by decide) (hcd:uR x:=by decide):Yi X C lo (.Subscript (.Name x px) ix pos) (Xj i ev):=
 (aau (iQ hN hv hd hcd) h set_list ha).imp λv σ H Q hq=>by
  obtain⟨Pr,F,env,env',d,r,p,e,q⟩:=hq;unfold Xj at e;split at e
  ·rename_i o0 d0 h0;obtain⟨v0,hv0,_⟩:=r.rd h0;split at e
   ·rename_i k aL e1;split at e
    ·rename_i xs h2;obtain⟨j,hj,e3⟩:=Qwk.mp e;subst e3;refine⟨v0,hv0,Pr,F,env,aL,.int k,r,e1,λvi H1 F1 r1 s1 p1=>?_⟩;cases p1;obtain⟨a,g1,⟨z,vs,g2,g3⟩,g4,g5⟩:=r1.own i _ h2;rw[hv0] at g1;cases g1;refine⟨a,vs,k,j,rfl,rfl,g2,by rw[g3.length];exact hj,?_⟩;refine q σ _ F1 (r1.write h2 hv0 ⟨by rw[Qx0];exact z,vs.set j v,aW,bL.set (Rep.mono s1 d v p) j g3⟩) s1 rfl
    ·cases e
   ·cases e
  ·cases e
end
inductive Out where
 | nx (env:Env)
 | rt (o:Bool) (d:D) (env:Env)
 | bk (env:Env)
 | ct (env:Env)
 | stuck
abbrev bU:=Env->Out
def Fin(C:Cfg)(Pr F:Hp)(D:Ends):Out->Prop
 | .nx env'=>∀σ' H' F',Rel C Pr F' env' σ' H'->aO F F'->D.nx σ' H'
 | .rt false d env'=>∀v σ' H' F',Rel C Pr F' env' σ' H'->aO F F'->Rep C.K F' d v->D.rt v H'
 | .rt true d env'=>∀a σ' H' F',Rel C Pr F' env' σ' H'->aO F F'->U8 C.K Pr F' env' σ' H' d a->D.rt (.ref a) H'
 | .bk env'=>∀σ' H' F',Rel C Pr F' env' σ' H'->aO F F'->D.bk σ' H'
 | .ct env'=>∀σ' H' F',Rel C Pr F' env' σ' H'->aO F F'->D.ct σ' H'
 | .stuck=>False
theorem Fin.mono{C:Cfg}{Pr F F1:Hp}{D:Ends}(s:aO F F1):∀{o:Out},Fin C Pr F D o->Fin C Pr F1 D o
 | .nx _,h=>λσ' H' F' r t=>h σ' H' F' r (s.trans t)
 | .rt false _ _,h=>λv σ' H' F' r t=>h v σ' H' F' r (s.trans t)
 | .rt true _ _,h=>λv σ' H' F' r t=>h v σ' H' F' r (s.trans t)
 | .bk _,h=>λσ' H' F' r t=>h σ' H' F' r (s.trans t)
 | .ct _,h=>λσ' H' F' r t=>h σ' H' F' r (s.trans t)
 | .stuck,h=>h
def tS(C:Cfg)(ev:bU):TS:=λD σ H=>∃(Pr F:Hp) (env:Env),Rel C Pr F env σ H/\Fin C Pr F D (ev env)
def Vk(X:Cx)(C:Cfg)(st:Stmt)(ev:bU):Prop:=PS X st (tS C ev)
def sE(X:Cx)(C:Cfg)(st:List Stmt)(ev:bU):Prop:=Gq X st (tS C ev)
def gM{α:Type}(x:R α)(f:α->Env->Out):Out:=match x with
 | .ok a env=>f a env
 | .stuck=>.stuck
theorem di{C:Cfg}{Pr F:Hp}{D:Ends}{α:Type}{x:R α}{f:α->Env->Out}(h:Fin C Pr F D (gM x f)):∃a aL,x = .ok a aL/\Fin C Pr F D (f a aL):=by
 cases x with
 | ok a aL=>exact⟨a,aL,rfl,h⟩
 | stuck=>exact h.elim
section
variable{X:Cx}{C:Cfg}{pos:Pos}
def bV:bU:=λenv=>.nx env
def aB(a b:bU):bU:=λenv=>match a env with
 | .nx e=>b e
 | .rt o d e=>.rt o d e
 | .bk e=>.bk e
 | .ct e=>.ct e
 | .stuck=>.stuck
theorem Rw:sE X C [] bV:=Wk.imp λD σ H h=>by
 obtain⟨Pr,F,env,r,f⟩:=h;exact f σ H F r (aO.refl F)
theorem Eu:Vk X C (.Continue pos) (λenv=>.ct env):=Hr.imp λD σ H h=>by
 obtain⟨Pr,F,env,r,f⟩:=h;exact f σ H F r (aO.refl F)
def eE(t:gn)(a b:bU):bU:=λenv=>gM (t env) λc aL=>if c=true then a aL else b aL
def bw(a:Ev):bU:=λenv=>gM (a env) λd aL=>.rt false d aL
def yW(a:Ev):bU:=λenv=>gM (a env) λd aL=>.rt true d aL
def J4(a:Ev):bU:=λenv=>gM (a env) λ_ aL=>.nx aL
def Th(o:Option Env):Out:=match o with
 | some e=>.nx e
 | none=>.stuck
def aQ(a:Ev)(g:GV):bU:=λenv=>gM (a env) λd aL=>Th (g d aL)
theorem aca{a:Ev}{g:GV}{D:Ends}{σ:L2.St}{H:Hp}(h:tS C (aQ a g) D σ H):VD (tE C a) (tG C 0 g) D σ H:=by
 obtain⟨Pr,F,env,r,f⟩:=h;obtain⟨d,aL,e1,f1⟩:=di f;refine⟨Pr,F,env,aL,d,r,e1,λv H1 F1 r1 s1 p1=>?_⟩;cases e2:g d aL with
 | none=>rw[e2] at f1;exact f1.elim
 | some fG=>rw[e2] at f1;exact⟨Pr,F1,aL,fG,d,r1,p1,e2,λσ2 H2 F2 r2 s2 _=>f1 σ2 H2 F2 r2 (s1.trans s2)⟩
theorem V8{i:Nat}{x:Str}{e:Expr}{a:Ev}{pos':Pos}(hN:X.N.Nodup)(hi:X.N[i]? = some x)(hx:Loc X.env.scope x)(hfx:C.fx i=none)(he:PX X C e a)(hs:swapsWith e (some (.Name x pos')) pos.line X.env=pure false:=by rfl)(hf:X.fn x=true\/X.env.scope.names.lookup x=some .local:=by first|exact .inl rfl|exact .inr rfl|assumption) :
  Vk X C (.Assign [.Name x pos'] e pos) (aQ a (aj i)):=(RW hN hi hx he hs hf).imp λD σ H h=>by
 obtain⟨Pr,F,env,r,f⟩:=h;obtain⟨d,aL,e1,f1⟩:=di f;exact⟨Pr,F,env,aL,d,r,e1,λv H1 F1 r1 s1 p1=>f1 _ H1 F1 (r1.put hfx p1) s1⟩
def dq(i:Nat)(a:Ev):bU:=λenv=>gM (a env) λd aL=>.nx (aL.set i (some (true,d)))
theorem V9{i:Nat}{x:Str}{e:Expr}{a:Ev}{pos':Pos}(hN:X.N.Nodup)(hi:X.N[i]? = some x)(hx:Loc X.env.scope x)(hfx:C.fx i=none)(he:Vl X C e a)(hs:swapsWith e (some (.Name x pos')) pos.line X.env=pure false:=by rfl)(hf:X.fn x=true\/X.env.scope.names.lookup x=some .local:=by first|exact .inl rfl|exact .inr rfl|assumption) :
  Vk X C (.Assign [.Name x pos'] e pos) (dq i a):=(RW hN hi hx he hs hf).imp λD σ H h=>by
 obtain⟨Pr,F,env,r,f⟩:=h;obtain⟨d,aL,e1,f1⟩:=di f;exact⟨Pr,F,env,aL,d,r,e1,λv H1 F1 r1 s1 p1=>f1 _ H1 F1 (r1.RK hfx p1) s1⟩
def d7(i:Nat)(a:Ev):bU:=λenv=>match env[i]? with
 | some (some (true,.lst _))=>gM (a env) λd aL=>(match aL[i]? with
  | some (some (true,.lst xs))=>if xs.length<sizeLine then .nx (aL.set i (some (true,.lst (xs++[d])))) else .stuck
  | _=>.stuck)
 | _=>.stuck
theorem Wb{i:Nat}{x:Str}{e:Expr}{a:Ev}{px apos cpos:Pos}(hN:X.N[i]? = some x)(hv:vH X.env.scope x)(he:PX X C e a)(hK:X.K=C.K)
  (hs:swapsWith (.Call (.Attribute (.Name x px) "append" apos) [e] [] cpos) none pos.line X.env=pure false:=by rfl)
  (hfew:((backTo cpos (starEach [e] X.env)).all (λx=>!x.1)&&(backToKw cpos (keywordEach [] X.env)).all (λx=>x.1.isSome)
   && decide (([e]:List Expr).length+([]:List Keyword).length+(if ([]:List Keyword).isEmpty then 0 else 1)<30))=true:=by rfl)
  (hbase:attributeBase (.Name x px) "append" X.env (eval (.Name x px) X.env)=eval (.Name x px) X.env:=by rfl)
  (hline:(apos.endLine == cpos.line)=true:=by rfl) (hst:Ol e X.env:=by rfl) (hplain:(backTo cpos (starEach [] X.env)).any (·.1)=false:=by rfl)
  (hd:lR x:=by decide) (hcd:uR x:=by decide):Vk X C (.Expr (.Call (.Attribute (.Name x px) "append" apos) [e] [] cpos) pos) (d7 i a):=by
 refine PS.imp (Ew (Sq PySem.F.plainAttrs_list PySem.F.slot_list_append PySem.F.type_list_append Dc (iQ hN hv hd hcd) (iD he tV hst) hbase hfew hline hst hplain) hs) λD σ H h=>?_;obtain⟨Pr,F,env,r,f⟩:=h;unfold d7 at f;split at f
 ·rename_i xs0 h0;obtain⟨d,aL,e1,f1⟩:=di f;obtain⟨a0,hv0,⟨z0,vs0,g0,_⟩,_⟩:=r.own i _ h0;refine⟨_,hv0,.inl ⟨rfl,vs0,o7.of g0⟩,Pr,F,env,aL,d,r,e1,λv H1 F1 r1 s1 p1=>?_⟩;split at f1
  ·rename_i xs h1;split at f1
   ·rename_i hz;obtain⟨a,g1,⟨z,vs,g2,g3⟩,g4,g5⟩:=r1.own i _ h1;rw[hv0] at g1;cases g1;refine⟨a0,vs,v,rfl,rfl,g2,by rw[g3.length];exact hz,?_⟩;exact f1 σ _ F1 (r1.write h1 hv0 ⟨by rw[Qqx];exact hz,vs++[v],aW,g3.append (bL.one p1)⟩) s1
   ·exact f1.elim
  ·exact f1.elim
 ·exact f.elim
def rG(K:Fg)(F:Hp)(ds:List D)(J:It):Prop:=∀(i:Nat) (H:Hp),aO F H->(ds[i]? = none->i=ds.length->J.stop i H)/\∀d,ds[i]? = some d->J.go i H/\∀x H',J.yld i H x H'->
 (H'=H/\Rep K F d x)\/∃p vs es,H p=none/\H'=upd H p (.tup vs)/\x = .ref p/\d = .tup es/\es.length<=sizeLine/\bL K F es vs
def tI(C:Cfg)(ev:eN):TI:=λσ H R=>∃(Pr F:Hp) (env env':Env) (ds:List D),Rel C Pr F env σ H/\ev env = .ok ds env'/\
 ∀J H' F',Rel C Pr F' env' σ H'->aO F F'->rG C.K F' ds J->R J H'
def Zo(X:Cx)(C:Cfg)(tg iter:Expr)(ev:eN):Prop:=PI X tg iter (tI C ev)
theorem _root_.L2.PI.imp{X:Cx}{tg e:Expr}{t t':TI}(h:PI X tg e t)(i:∀σ H R,t' σ H R->t σ H R):PI X tg e t':=λpins s σ H R I q=>h pins s σ H R I (i σ H R q)
theorem rG.item{Pr F F1:Hp}{env:Env}{σ:L2.St}{H:Hp}{ds:List D}{J:It}{i:Nat}{d:D}{x:V}{H':Hp}(r:Rel C Pr F1 env σ H)(s:aO F F1)(y:rG C.K F ds J)(hd:ds[i]? = some d)(hy:J.yld i H x H') :
  ∃F2,Rel C Pr F2 env σ H'/\aO F1 F2/\Rep C.K F2 d x:=by
 rcases((y i H (s.trans r.fr)).2 d hd).2 x H' hy with ⟨rfl,p⟩|⟨p,vs,es,hp,rfl,rfl,rfl,hz,q⟩
 ·exact⟨F1,r,aO.refl F1,Rep.mono s _ _ p⟩
 ·obtain⟨r2,s2⟩:=r.new (o:=.tup vs) hp;exact⟨_,r2,s2,hz,p,vs,rfl,mD.of aW,bL.mono (s.trans s2) _ _ q⟩
def gV(g:GV)(b:bU):List D->bU
 | [],env=>.nx env
 | d::ds,env=>(match g d env with
  | none=>.stuck
  | some e1=>(match b e1 with
   | .nx e2=>gV g b ds e2
   | .ct e2=>gV g b ds e2
   | .bk e2=>.nx e2
   | .rt o d e2=>.rt o d e2
   | .stuck=>.stuck))
def gq(it:eN)(g:GV)(b:bU):bU:=λenv=>gM (it env) λds aL=>gV g b ds aL
theorem Wa{tg iter:Expr}{body:List Stmt}{it:eN}{g:GV}{b:bU}(hp:PassesOwn (model X.prog X.w) X.A X.env X.xe)(hc:X.calm=true)(hi:Zo X C tg iter it)(hg:Yi X C 0 tg g)(hb:sE X C body b)
  (hs:∀x,foldedSetIterable iter X.env x=pure x:=by intro _;rfl):Vk X C (.For tg iter body [] pos) (gq it g b):=(aal hp hc hi hg hb hs).imp λD σ H h=>by
 obtain⟨Pr,F,env,r,f⟩:=h;obtain⟨ds,aL,e1,f1⟩:=di f;refine⟨Pr,F,env,aL,ds,r,e1,λJ H1 F1 r1 s1 y1=>?_⟩;refine⟨λi m σ' H'=>m=ds.length - i/\i<=ds.length/\∃F' env',Rel C Pr F' env' σ' H'/\aO F1 F'/\Fin C Pr F' D (gV g b (ds.drop i) env'),⟨ds.length,rfl,Qxk _,F1,aL,r1,aO.refl _,f1.mono s1⟩,?_⟩;rintro i m σ' H' ⟨rfl,hi,F',env',r',s',f'⟩;by_cases hl:i<ds.length
 ·have hd:ds[i]? = some ds[i]:=Qwz hl;have hdr:ds.drop i=ds[i]::ds.drop (i+1):=List.drop_eq_getElem_cons hl;have yy:=y1 i H' (s'.trans r'.fr);refine .inr ⟨(yy.2 _ hd).1,λσ2 H2=>∃F' env',Rel C Pr F' env' σ2 H2/\aO F1 F'/\Fin C Pr F' D (gV g b (ds.drop (i+1)) env'),λσ2 H2 h2=>⟨ds.length - (i+1),by omega,rfl,hl,h2⟩,λx H2 hy=>?_⟩;obtain⟨F2,r2,s2,p2⟩:=rG.item r' s' y1 hd hy;rw[hdr] at f';have f2:=f'.mono s2;unfold gV at f2;cases eg:g ds[i] env' with
  | none=>rw[eg] at f2;exact f2.elim
  | some e2=>
   rw[eg] at f2;refine⟨Pr,F2,env',e2,ds[i],r2,p2,eg,λσ3 H3 F3 r3 s3 _=>⟨Pr,F3,e2,r3,?_⟩⟩;simp only at f2;have s13:aO F1 F3:=(s'.trans s2).trans s3;cases eb:b e2 with
   | nx e3=>rw[eb] at f2;exact λσ4 H4 F4 r4 s4=>⟨F4,e3,r4,s13.trans s4,f2.mono (s3.trans s4)⟩
   | ct e3=>rw[eb] at f2;exact λσ4 H4 F4 r4 s4=>⟨F4,e3,r4,s13.trans s4,f2.mono (s3.trans s4)⟩
   | bk e3=>rw[eb] at f2;exact λσ4 H4 F4 r4 s4=>f2 σ4 H4 F4 r4 (s3.trans s4)
   | rt o d e3=>rw[eb] at f2;cases o<;>exact λv σ4 H4 F4 r4 s4 p4=>f2 v σ4 H4 F4 r4 (s3.trans s4) p4
   | stuck=>rw[eb] at f2;exact f2.elim
 ·have e:i=ds.length:=by omega
  subst e;rw[List.drop_length] at f';exact .inl ⟨(y1 _ H' (s'.trans r'.fr)).1 (List.getElem?_eq_none (Qq1 _)) rfl,f' σ' H' F' r' (aO.refl F')⟩
def fM(t:gn)(b:bU):Nat->bU
 | 0,_=>.stuck
 | n+1,env=>gM (t env) λc e1=>if c=true then (match b e1 with
   | .nx e2=>fM t b n e2
   | .ct e2=>fM t b n e2
   | .bk e2=>.nx e2
   | .rt o d e2=>.rt o d e2
   | .stuck=>.stuck) else .nx e1
theorem Oo{c:Expr}{body:List Stmt}{t:gn}{b:bU}(n:Nat)(hp:PassesOwn (model X.prog X.w) X.A X.env X.xe)(hc:PXT X C c t)(hb:sE X C body b):Vk X C (.While c body [] pos) (fM t b n):=(RT hp hc hb).imp λD σ H h=>by
 obtain⟨Pr,F,env,r,f⟩:=h;refine⟨λm σ' H'=>∃F' env',Rel C Pr F' env' σ' H'/\aO F F'/\Fin C Pr F' D (fM t b m env'),⟨n,F,env,r,aO.refl _,f⟩,?_⟩;rintro m σ' H' ⟨F',env',r',s',f'⟩;cases m with
 | zero=>exact f'.elim
 | succ m=>
  unfold fM at f';obtain⟨k,e1,e2,f1⟩:=di f';refine⟨Pr,F',env',e1,k,r',e2,λH1 F1 r1 s1=>?_⟩;have f2:=f1.mono s1;show if k=true then _ else _
  split at f2
  ·rename_i hk;rw[if_pos hk];refine⟨λσ2 H2=>∃F' env',Rel C Pr F' env' σ2 H2/\aO F F'/\Fin C Pr F' D (fM t b m env'),λσ2 H2 h2=>⟨m,Nat.lt_succ_self _,h2⟩,Pr,F1,e1,r1,?_⟩;have s13:aO F F1:=s'.trans s1;cases eb:b e1 with
   | nx e3=>rw[eb] at f2;exact λσ4 H4 F4 r4 s4=>⟨F4,e3,r4,s13.trans s4,f2.mono s4⟩
   | ct e3=>rw[eb] at f2;exact λσ4 H4 F4 r4 s4=>⟨F4,e3,r4,s13.trans s4,f2.mono s4⟩
   | bk e3=>rw[eb] at f2;exact λσ4 H4 F4 r4 s4=>f2 σ4 H4 F4 r4 s4
   | rt o d e3=>rw[eb] at f2;cases o<;>exact λv σ4 H4 F4 r4 s4 p4=>f2 v σ4 H4 F4 r4 s4 p4
   | stuck=>rw[eb] at f2;exact f2.elim
  ·rename_i hk;rw[if_neg hk];exact f2 σ' H1 F1 r1 (aO.refl F1)
end
end Ev
namespace L2
open PySem PySem.Spec PyProof.Rows
def Its(z:Str):It:=⟨λi _=>i<z.cps.size,λi H x H'=>H'=H/\∃c,z.cps[i]? = some c/\x = .str ⟨#[c]⟩,λi _=>z.cps.size<=i⟩
theorem N6{P:Program}{w:World}{K:PySem.W.Frag}{tg:Expr}(it:Addr)(z:Str)(t:Tok):Turn P w K tg (Its z) [it] it (λi h=>h.IsStrIter it "str_ascii_iterator" z t i/\i<=z.cps.size) where
 mem:=by simp
 obj:=λi h st b hb=>by
  have e:b=it:=by simpa using hb
  subst e;obtain⟨⟨o,ho,hc,hd⟩,_⟩:=st;exact⟨o,ho,λv z=>by rw[hd] at z;cases z⟩
 keep:=λi h h' st k=>let ⟨⟨o,ho,r⟩,l⟩:=st;⟨⟨o,k it (by simp) o ho,r⟩,l⟩
 item:=by intro X hP hw hK hc i pins s σ H E I hf st hg;subst hP hw hK;obtain⟨f0,f1,f2,f3,f4,f5⟩:=hf it (by simp);have hg':i<z.cps.size:=hg;refine wpAny_pyNext_ascii_item st.1 (c:=z.cps[i]) (by simp[hg']) λh' hit' hs'=>?_;have I1:Inv X pins σ H { s with heap:=h',toks:=s.toks+1 }:=I.turned (λb o hb e=>hs'.extBut b o hb e) f0 f1 f3 f4 f5;obtain⟨o,ho,hcl,hda⟩:=hit';refine⟨_,rfl,Im (s:={ s with heap:=h',toks:=s.toks+1 }) (n:="str_ascii_iterator") ho hcl hda (by decide) ⟨.str ⟨#[z.cps[i]]⟩,H,I1,⟨_,rfl⟩,⟨rfl,_,by simp[hg'],rfl⟩,⟨⟨o,ho,hcl,hda⟩,hg'⟩,λb hb=>(hf b hb).1⟩⟩
 done:=by intro X hP hw hK hc i pins s σ H E I hf st hg;subst hP hw hK;obtain⟨f0,f1,f2,f3,f4,f5⟩:=hf it (by simp);have hg':z.cps.size<=i:=hg;exact wpAny_pyNext_ascii_end (I.ok.hd hc) st.1 (by simp;omega) λh' eb=>⟨rfl,I.turned (t':=s.toks) (λb o hb e=>eb b o hb e) f0 f1 f3 f4 f5⟩
 self:=λ_ _ _ _ _ st h=>wpAny_pyIter_striter_ascii st.1 h
theorem N5{P:Program}{w:World}{K:PySem.W.Frag}{tg:Expr}(it:Addr)(z:Str)(t:Tok):Turn P w K tg (Its z) [it] it (λi h=>h.IsStrIter it "str_iterator" z t i/\i<=z.cps.size) where
 mem:=by simp
 obj:=λi h st b hb=>by
  have e:b=it:=by simpa using hb
  subst e;obtain⟨⟨o,ho,hc,hd⟩,_⟩:=st;exact⟨o,ho,λv z=>by rw[hd] at z;cases z⟩
 keep:=λi h h' st k=>let ⟨⟨o,ho,r⟩,l⟩:=st;⟨⟨o,k it (by simp) o ho,r⟩,l⟩
 item:=by intro X hP hw hK hc i pins s σ H E I hf st hg;subst hP hw hK;obtain⟨f0,f1,f2,f3,f4,f5⟩:=hf it (by simp);have hg':i<z.cps.size:=hg;refine wpAny_pyNext_wide_item st.1 (c:=z.cps[i]) (by simp[hg']) λh' hit' hs'=>?_;have I1:Inv X pins σ H { s with heap:=h',toks:=s.toks+1 }:=I.turned (λb o hb e=>hs'.extBut b o hb e) f0 f1 f3 f4 f5;obtain⟨o,ho,hcl,hda⟩:=hit';refine⟨_,rfl,Im (s:={ s with heap:=h',toks:=s.toks+1 }) (n:="str_iterator") ho hcl hda (by decide) ⟨.str ⟨#[z.cps[i]]⟩,H,I1,⟨_,rfl⟩,⟨rfl,_,by simp[hg'],rfl⟩,⟨⟨o,ho,hcl,hda⟩,hg'⟩,λb hb=>(hf b hb).1⟩⟩
 done:=by intro X hP hw hK hc i pins s σ H E I hf st hg;subst hP hw hK;obtain⟨f0,f1,f2,f3,f4,f5⟩:=hf it (by simp);have hg':z.cps.size<=i:=hg;exact wpAny_pyNext_wide_end (I.ok.hd hc) st.1 (by simp;omega) λh' eb=>⟨rfl,I.turned (t':=s.toks) (λb o hb e=>eb b o hb e) f0 f1 f3 f4 f5⟩
 self:=λ_ _ _ _ _ st h=>wpAny_pyIter_striter_wide st.1 h
section
variable{X:Cx}{tg:Expr}
def af9(K:PySem.W.Frag)(tl:TE):TI:=λσ H R=>tl σ H λx H1=>(∃a,x = .ref a/\(∃xs,o7 K H1 a xs)/\R (Itl K a) H1)\/(∃a,x = .ref a/\(∃xs,mD K H1 a xs)/\R (Itt K a) H1)\/∃z,x = .str z/\R (Its z) H1
theorem aaq{l:Expr}{tl:TE}(hl:PE X l tl):PI X tg l (af9 X.K tl):=by
 intro pins s σ H R I h;refine fK (hl pins s σ H _ I h) λv s1 ⟨x,H1,I1,r1,q1⟩=>?_;have own:∀b ∈ [s1.heap.objs.size],uq X pins H1 b:=λb hb=>by
  have e:b=s1.heap.objs.size:=by simpa using hb
  subst e;exact I1.Ub (Qq1 _) (I1.hok.fresh (Qq1 _))
 rcases q1 with ⟨a,e,⟨xs,hq⟩,q⟩|⟨a,e,⟨xs,hq⟩,q⟩|⟨z,e,q⟩
 ·subst e;cases r1;obtain⟨its,rv,p,hz⟩:=I1.list hq;refine wpAny_pyIter_list p.isList ?_;exact⟨s1.heap.objs.size,[s1.heap.objs.size],_,_,H1,rfl,I1.kept (t':=s1.toks) λb o e=>Qq0 _ e,N7 a _,⟨_,Qww _ rfl,rfl,rfl⟩,own,q⟩
 ·subst e;cases r1;obtain⟨its,rv,p,hz⟩:=I1.tuple hq;refine wpAny_pyIter_tuple (show s1.heap.IsTuple a its.toArray from p) ?_;exact⟨s1.heap.objs.size,[s1.heap.objs.size],_,_,H1,rfl,I1.kept (t':=s1.toks) λb o e=>Qq0 _ e,JM a _,⟨_,Qww _ rfl,rfl,rfl⟩,own,q⟩
 ·subst e;obtain⟨t,rfl⟩:=r1;cases ha:z.cps.all (·< 128)
  ·exact wpAny_pyIter_wide ha ⟨s1.heap.objs.size,[s1.heap.objs.size],_,_,H1,rfl,I1.kept (t':=s1.toks) λb o e=>Qq0 _ e,N5 _ z t,⟨⟨_,Qww _ rfl,rfl,rfl⟩,Qxk _⟩,own,q⟩
  ·exact wpAny_pyIter_ascii ha ⟨s1.heap.objs.size,[s1.heap.objs.size],_,_,H1,rfl,I1.kept (t':=s1.toks) λb o e=>Qq0 _ e,N6 _ z t,⟨⟨_,Qww _ rfl,rfl,rfl⟩,Qxk _⟩,own,q⟩
end
end L2
namespace Ev
open PySem PySem.Spec PyProof.Rows L2
section
variable{X:Cx}{C:Cfg}{pos:Pos}{tg:Expr}
def pq(x:List Nat):List D:=x.map λc=>.str [c]
theorem Jy{F:Hp}{a:Addr}{vs:List V}{ds:List D}(h:mD C.K F a vs)(p:bL C.K F ds vs):rG C.K F ds (Itt C.K a):=λi H s=>by
 refine⟨λ_ e=>⟨vs,aO.tupK s h,by rw[p.length,e];exact Qq1 _⟩,λd hd=>?_⟩;obtain⟨v,h1,h2⟩:=p.get hd;refine⟨⟨vs,v,aO.tupK s h,h1⟩,λx H' hy=>.inl ⟨hy.1,?_⟩⟩;have:=hy.2 vs (aO.tupK s h);rw[h1] at this;cases this;exact h2
theorem Jz{F:Hp}{x:List Nat}:rG C.K F (pq x) (Its (strOf x)):=λi H s=>by
 refine⟨λ_ e=>?_,λd hd=>?_⟩
 ·show x.toArray.size<=i;rw[e];simp[pq]
 ·unfold pq at hd;rw[Qw5] at hd;obtain⟨c,hc,rfl⟩:=Qwk.mp hd;refine⟨?_,λv H' hy=>.inl ⟨hy.1,?_⟩⟩
  ·show i<x.toArray.size;have:=(Qqw.mp hc).1
   simpa using this
  ·obtain⟨c',h1,rfl⟩:=hy.2;have h2:x[i]? = some c':=by simpa[strOf] using h1
   rw[hc] at h2;cases h2;exact⟨rfl,by show 1<=sizeLine;decide⟩
def itD:D->Option (List D)
 | .lst xs=>some xs
 | .arr xs=>some xs
 | .tup xs=>some xs
 | .str x=>some (pq x)
 | _=>none
def iH(a:Ev):eN:=λenv=>bindR (a env) λd aL=>iT (itD d) aL
theorem We{l:Expr}{a:Ev}(hK:X.K=C.K)(h:PX X C l a):Zo X C tg l (iH a):=(aaq h).imp λσ H R hq=>by
 obtain⟨Pr,F,env,env',ds,r,e,q⟩:=hq;obtain⟨d,aL,e1,e2⟩:=aU e;obtain⟨e3,rfl⟩:=fU e2;refine⟨Pr,F,env,env',d,r,e1,λv H1 F1 r1 s1 p1=>?_⟩;rw[hK];cases d with
 | lst xs=>
  cases e3;obtain⟨z,a,vs,rfl,g1,g2⟩:=p1;refine .inl ⟨a,rfl,⟨vs,o7.of (r1.fr _ _ g1)⟩,q _ H1 F1 r1 s1 λi H s=>?_⟩;refine⟨λ_ e=>⟨vs,o7.of (s _ _ g1),by rw[g2.length,e];exact Qq1 _⟩,λd hd=>?_⟩;obtain⟨v,h1,h2⟩:=g2.get hd;refine⟨⟨vs,v,o7.of (s _ _ g1),h1⟩,λx H' hy=>.inl ⟨hy.1,?_⟩⟩;have:=hy.2 vs (o7.of (s _ _ g1));rw[h1] at this;cases this;exact h2
 | arr xs=>
  cases e3;obtain⟨z,a,vs,rfl,g1,g2⟩:=p1;refine .inl ⟨a,rfl,⟨vs,r1.fr.seq g1⟩,q _ H1 F1 r1 s1 λi H s=>?_⟩;refine⟨λ_ e=>⟨vs,s.seq g1,by rw[g2.length,e];exact Qq1 _⟩,λd hd=>?_⟩;obtain⟨v,h1,h2⟩:=g2.get hd;refine⟨⟨vs,v,s.seq g1,h1⟩,λx H' hy=>.inl ⟨hy.1,?_⟩⟩;have:=hy.2 vs (s.seq g1);rw[h1] at this;cases this;exact h2
 | tup xs=>
  cases e3;obtain⟨z,a,vs,rfl,g1,g2⟩:=p1;exact .inr (.inl ⟨a,rfl,⟨vs,aO.tupK r1.fr g1⟩,q _ H1 F1 r1 s1 (Jy g1 g2)⟩)
 | str x=>
  cases e3;obtain⟨rfl,z⟩:=p1;exact .inr (.inr ⟨_,rfl,q _ H1 F1 r1 s1 Jz⟩)
 | _=>cases e3
def mJ(lo c:Int)(n:Nat):List D:=(List.range n).map λ(i:Nat)=>.int (lo+i*c)
theorem yV(lo c:Int)(n:Nat):(mJ lo c n).length=n:=by simp[mJ]
theorem J3{lo c:Int}{n i:Nat}{d:D}(h:(mJ lo c n)[i]? = some d):i<n/\d = .int (lo+i*c):=by
 have hi:i<n:=by
  have:=(Qqw.mp h).1
  rwa [yV] at this
 refine⟨hi,?_⟩;unfold mJ at h;rw[Qw5,List.getElem?_range hi] at h;cases h;rfl
theorem JB{F:Hp}{lo:Int}{n:Nat}:rG C.K F (mJ lo 1 n) (Itr lo n):=λi H s=>by
 refine⟨λ_ e=>by show n<=i;rw[e,yV];exact Qq1 _,λd hd=>?_⟩;obtain⟨hi,rfl⟩:=J3 hd;refine⟨hi,λx H' hy=>.inl ⟨hy.1,?_⟩⟩;show x = .int _;rw[Int.mul_one];exact hy.2
def nq(j:Int):Bool:=decide (-(2^62)<=j)&&decide (j<2^62)
theorem Kd{j:Int}(h:nq j=true) : -(2^62)<=j/\j<2^62:=by unfold nq at h;rw[Qzx] at h;exact⟨Qw8 h.1,Qw8 h.2⟩
def zq:List D->Option (List D)
 | [.int j]=>if nq j=true then some (mJ 0 1 j.toNat) else none
 | [.int i,.int j]=>if nq i=true/\nq j=true then some (mJ i 1 (j - i).toNat) else none
 | [.int i,.int j,.int c]=>if c≠0/\c.natAbs<1073741824/\Builtin.Range.small i j c=true then some (mJ i c (Builtin.Range.rangeSize i j c).toNat) else none
 | _=>none
def lz(a:eN):eN:=λenv=>bindR (a env) λds aL=>iT (zq ds) aL
theorem bL.af7{F:Hp}{i:Int}{vs:List V}(h:bL C.K F [.int i] vs):vs=[.int i]:=by obtain⟨v,r,rfl,h1,h2⟩:=h;cases h1;cases h2;rfl
theorem Kg{a:Expr}{ea:eN}{p pos:Pos}(hg:Gl X "range")(hm:X.mg "range" = none)(ha:U7 X C [a] ea)(hl:∀env ds env',ea env = .ok ds env'->ds.length=1)(hs:starEach [a] X.env=[(false,eval a X.env)]:=by rfl):Zo X C tg (.Call (.Name "range" p) [a] [] pos) (lz ea):=
 (Oz hg hm ha hs).imp λσ H R hq=>by
  obtain⟨Pr,F,env,env',ds,r,e,q⟩:=hq;obtain⟨as,aL,e1,e2⟩:=aU e;obtain⟨e3,rfl⟩:=fU e2;refine⟨Pr,F,env,env',as,r,e1,λvs H1 F1 r1 s1 p1=>?_⟩;have:=hl _ _ _ e1;unfold zq at e3;split at e3
  ·split at e3
   ·rename_i hf;cases e3;have hb:=Kd hf;exact⟨_,p1.af7,hb.1,hb.2,q _ H1 F1 r1 s1 JB⟩
   ·cases e3
  ·simp at this
  ·simp at this
  ·cases e3
theorem Qa(env:Env)(ds:List D)(env':Env)(h:ak env = .ok ds env'):ds.length=0:=by cases h;rfl
theorem K3{a:Ev}{r:eN}{n:Nat}(hr:∀env ds env',r env = .ok ds env'->ds.length=n)(env:Env)(ds:List D)(env':Env)(h:aa a r env = .ok ds env'):ds.length=n+1:=by obtain⟨d,aL,e1,e2⟩:=aU h;obtain⟨ds2,fG,e3,e4⟩:=aU e2;cases e4;rw[Qqy,hr _ _ _ e3]
theorem bL.xj{F:Hp}{K:Fg}{ds:List D}{vs:List V}{k:Int}{d:D}(h:bL K F ds vs)(e:L2.xj ds k=some d):∃v,L2.xj vs k=some v/\Rep K F d v:=by unfold L2.xj at e ⊢;rw[h.length];obtain⟨j,h1,h2⟩:=Qx5.mp e;obtain⟨v,h3,h4⟩:=h.get h2;exact⟨v,by rw[h1];exact h3,h4⟩
def fD:D->D->Option D
 | .lst xs,.int k=>xj xs k
 | .arr xs,.int k=>xj xs k
 | .tup xs,.int k=>xj xs k
 | .str x,.int k=>(xj x k).map λc=>.str [c]
 | _,_=>none
theorem YJ:o9 C (rIx C.K) fD:=by
 intro Pr F env σ H x y d vx vy Q r px py e q;unfold fD at e;split at e
 ·obtain⟨z,a,vs,rfl,h1,h2⟩:=px.lst r.fr;cases py.int;obtain⟨v,e1,p1⟩:=h2.xj e;exact .inl ⟨a,vs,_,v,rfl,rfl,o7.of h1,e1,q _ _ F r (aO.refl F) p1⟩
 ·obtain⟨z,a,vs,rfl,h1,h2⟩:=px.arr r.fr;cases py.int;obtain⟨v,e1,p1⟩:=h2.xj e;exact .inl ⟨a,vs,_,v,rfl,rfl,h1,e1,q _ _ F r (aO.refl F) p1⟩
 ·obtain⟨z,a,vs,rfl,h1,_,h2⟩:=px.tup r.fr;cases py.int;obtain⟨v,e1,p1⟩:=h2.xj e;exact .inr (.inl ⟨a,vs,_,v,rfl,rfl,h1,e1,q _ _ F r (aO.refl F) p1⟩)
 ·obtain⟨rfl,z⟩:=px.str;cases py.int;obtain⟨c,e1,rfl⟩:=Qwk.mp e;exact .inr (.inr ⟨_,_,c,rfl,rfl,by simpa[strOf,Str.length] using z,by simpa[strOf] using e1,q _ _ F r (aO.refl F) ⟨rfl,by show 1<=sizeLine;decide⟩⟩)
 ·cases e
theorem adD{x y:Expr}{a b:Ev}(hK:X.K=C.K)(ha:PX X C x a)(hb:U6 X C y b)(hs:vJ y:=by intro _ _;rfl):PX X C (.Subscript x y pos) (aP fD a b):=by have h:=(YF (pos:=pos) TF ha hb hs);rw[hK] at h;exact h.imp (Gf YJ)
theorem aae{y:Expr}{b:Ev}{px:Pos}(i:Nat){x:Str}(hK:X.K=C.K)(hN:X.N[i]? = some x)(hv:vH X.env.scope x)(hb:U6 X C y b)(hs:vJ y:=by intro _ _;rfl)
  (hd:lR x:=by decide) (hcd:uR x:=by decide):PX X C (.Subscript (.Name x px) y pos) (aA fD i b):=by
 have h:=(YF (pos:=pos) TF (iQ (pos:=px) hN hv hd hcd) hb hs);rw[hK] at h;exact h.imp (rZ YJ)
def cutD{α:Type}(xs:List α)(lo hi:Option Int):List α:=(xs.drop (HT.jW xs.length 0 lo)).take (HT.jW xs.length xs.length hi - HT.jW xs.length 0 lo)
theorem vm{α:Type}(xs:List α)(lo hi:Option Int):(cutD xs lo hi).length<=xs.length:=by unfold cutD;rw[Qzy,Qkk];omega
theorem bL.cut{F:Hp}{K:Fg}{ds:List D}{vs:List V}(h:bL K F ds vs)(lo hi:Option Int):bL K F (cutD ds lo hi) (Ar vs lo hi):=by unfold cutD Ar;rw[h.length];exact bL.take _ (bL.drop _ h)
abbrev Zu:=Env->R (Option Int)
def tP(C:Cfg)(ev:Zu):TO:=λσ H Q=>∃(Pr F:Hp) (env env':Env) (o:Option Int),Rel C Pr F env σ H/\ev env = .ok o env'/\∀H' F',Rel C Pr F' env' σ H'->aO F F'->Q o H'
def PXP(X:Cx)(C:Cfg)(e:Option Expr)(ev:Zu):Prop:=PO X e (tP C ev)
theorem _root_.L2.PO.imp{X:Cx}{e:Option Expr}{t t':TO}(h:PO X e t)(i:∀σ H Q,t' σ H Q->t σ H Q):PO X e t':=λpins s σ H Q I q=>h pins s σ H Q I (i σ H Q q)
def Aj:Zu:=λenv=>.ok none env
def Gu(a:Ev):Zu:=λenv=>bindR (a env) λd aL=>match d with
 | .int i=>.ok (some i) aL
 | _=>.stuck
theorem Ry:PXP X C none Aj:=Wn.imp λσ H Q h=>by
 obtain⟨Pr,F,env,env',d,r,e,q⟩:=h;cases e;exact q H F r (aO.refl F)
def gSl:D->Option Int->Option Int->Option D
 | .lst xs,lo,hi=>some (.lst (cutD xs lo hi))
 | .arr xs,lo,hi=>some (.lst (cutD xs lo hi))
 | .tup xs,lo,hi=>if HT.jW xs.length 0 lo=0/\HT.jW xs.length xs.length hi=xs.length then none else some (.tup (cutD xs lo hi))
 | _,_,_=>none
def wV(a:Ev)(lo hi:Zu):Ev:=λenv=>bindR (a env) λd aL=>bindR (lo aL) λl fG=>bindR (hi fG) λu Xv=>iT (gSl d l u) Xv
theorem ac5{Pr F:Hp}{env:Env}{σ:L2.St}{H:Hp}{x d:D}{v:V}{lo hi:Option Int}{Q:VK}(r:Rel C Pr F env σ H)(p:ir C.K F H x v)(e:gSl x lo hi=some d)(q:∀v H' F',Rel C Pr F' env σ H'->aO F F'->Rep C.K F' d v->Q v H') :
  adk C.K v lo hi H Q\/adi C.K v lo hi H Q:=by
 unfold gSl at e;split at e
 ·cases e;obtain⟨z,a,vs,rfl,h1,h2⟩:=p.lst r.fr;refine .inl ⟨a,vs,rfl,o7.of h1,λb hb=>?_⟩;obtain⟨r2,s2⟩:=r.new (o:=.lst (Ar vs lo hi)) hb;exact q _ _ _ r2 s2 ⟨Qq2 (vm _ _ _) z,b,_,rfl,aW,bL.mono s2 _ _ (h2.cut lo hi)⟩
 ·cases e;obtain⟨z,a,vs,rfl,h1,h2⟩:=p.arr r.fr;refine .inl ⟨a,vs,rfl,h1,λb hb=>?_⟩;obtain⟨r2,s2⟩:=r.new (o:=.lst (Ar vs lo hi)) hb;exact q _ _ _ r2 s2 ⟨Qq2 (vm _ _ _) z,b,_,rfl,aW,bL.mono s2 _ _ (h2.cut lo hi)⟩
 ·obtain⟨z,a,vs,rfl,h1,_,h2⟩:=p.tup r.fr;split at e
  ·cases e
  ·rename_i hn;cases e;refine .inr ⟨a,vs,rfl,h1,by rw[h2.length];exact hn,λb hb=>?_⟩;obtain⟨r2,s2⟩:=r.new (o:=.tup (Ar vs lo hi)) hb;exact q _ _ _ r2 s2 ⟨Qq2 (vm _ _ _) z,b,_,rfl,mD.of aW,bL.mono s2 _ _ (h2.cut lo hi)⟩
 ·cases e
theorem adB{x:Expr}{lo hi:Option Expr}{a:Ev}{el eh:Zu}{p2:Pos}(hK:X.K=C.K)(ha:PX X C x a)(hl:PXP X C lo el)(hh:PXP X C hi eh):PX X C (.Subscript x (.Slice lo hi none p2) pos) (wV a el eh):=by have h:=R5 (pos:=pos) (p2:=p2) (Zj.or VH ZZ) ha hl hh;rw[hK] at h;refine h.imp λσ H Q hq=>?_;obtain⟨Pr,F,env,env',d,r,e,q⟩:=hq;obtain⟨x,aL,e1,e2⟩:=aU e;obtain⟨l,fG,e3,e4⟩:=aU e2;obtain⟨u,Xv,e5,e6⟩:=aU e4;obtain⟨e7,rfl⟩:=fU e6;refine⟨Pr,F,env,aL,x,r,e1,λv H1 F1 r1 s1 p1=>⟨Pr,F1,aL,fG,l,r1,e3,λH2 F2 r2 s2=>⟨Pr,F2,fG,env',u,r2,e5,λH3 F3 r3 s3=>?_⟩⟩⟩;exact ac5 r3 (.inl (Rep.mono (s2.trans s3) _ _ p1)) e7 λv H' F' r' s' p'=>q v H' F' r' (((s1.trans s2).trans s3).trans s') p'
def mH(kvs:List (D×D))(q:Key):Option D:=match kvs with
 | []=>none
 | (k,d)::r=>if ql k=some q then some d else mH r q
def yg(kvs:List (D×D))(q:Key)(d:D):List (D×D):=match kvs with
 | []=>[]
 | (k,e)::r=>(if ql k=some q then (k,d) else (k,e))::yg r q d
def putD(kvs:List (D×D))(k:D)(q:Key)(d:D):List (D×D):=if (mH kvs q).isSome then yg kvs q d else kvs++[(k,d)]
theorem dX.length{K:Fg}{F:Hp}:∀{ds:List (D×D)} {vs:List (Key×V)},dX K F ds vs->vs.length=ds.length
 | [],_,h=>by cases h;rfl
 | (k,d)::ds,vs,h=>by
  obtain⟨q,v,r,rfl,_,_,h2⟩:=h;rw[Qqy,Qqy,h2.length]
theorem dX.val{K:Fg}{F:Hp}(q:Key):∀{ds:List (D×D)} {vs:List (Key×V)},dX K F ds vs->(mH ds q=none/\sY vs q=none)\/∃d v,mH ds q=some d/\sY vs q=some v/\Rep K F d v
 | [],_,h=>by cases h;exact .inl ⟨rfl,rfl⟩
 | (k,d)::ds,vs,h=>by
  obtain⟨q',v,r,rfl,hk,h1,h2⟩:=h;unfold mH;by_cases e:q'=q
  ·subst e;rw[if_pos hk];exact .inr ⟨d,v,rfl,uw rfl,h1⟩
  ·rw[if_neg (λz=>e (Qw1 (hk.symm.trans z))),ux (p:=(q',v)) e];exact dX.val q h2
theorem dX.set{K:Fg}{F:Hp}(q:Key){d:D}{v:V}(hd:Rep K F d v):∀{ds:List (D×D)} {vs:List (Key×V)},dX K F ds vs->dX K F (yg ds q d) (vs.map λkv=>if kv.1=q then (kv.1,v) else kv)
 | [],_,h=>by cases h;exact rfl
 | (k,e)::ds,vs,h=>by
  obtain⟨q',u,r,rfl,hk,h1,h2⟩:=h;unfold yg;by_cases e':q'=q
  ·subst e';rw[if_pos hk];refine⟨q',v,_,?_,hk,hd,dX.set q' hd h2⟩;rw[Qq8,if_pos rfl]
  ·rw[if_neg (λz=>e' (Qw1 (hk.symm.trans z)))];refine⟨q',u,_,?_,hk,h1,dX.set q hd h2⟩;rw[Qq8,if_neg e']
theorem dX.append{K:Fg}{F:Hp}:∀{ds es:List (D×D)} {vs ws:List (Key×V)},dX K F ds vs->dX K F es ws->dX K F (ds++es) (vs++ws)
 | [],es,vs,ws,h,g=>by cases h;exact g
 | (k,d)::ds,es,vs,ws,h,g=>by
  obtain⟨q,v,r,rfl,h0,h1,h2⟩:=h;exact⟨q,v,r++ws,rfl,h0,h1,dX.append h2 g⟩
theorem G6(q:Key)(d:D):∀kvs:List (D×D),(yg kvs q d).length=kvs.length
 | []=>rfl
 | (k,e)::r=>by unfold yg;rw[Qqy,Qqy,G6 q d r]
theorem Hq(kvs:List (D×D))(k:D)(q:Key)(d:D):(putD kvs k q d).length<=kvs.length+1:=by
 unfold putD;split
 ·rw[G6];omega
 ·rw[Qqx];exact Qq1 _
theorem dX.put{K:Fg}{F:Hp}{ds:List (D×D)}{vs:List (Key×V)}{k:D}{q:Key}{d:D}{v:V}(h:dX K F ds vs)(hk:ql k=some q)(hd:Rep K F d v):dX K F (putD ds k q d) (putK vs q v):=by
 unfold putD putK;rw[yR];rcases h.val q with ⟨e1,e2⟩|⟨d',v',e1,e2,_⟩
 ·rw[e1,e2];exact h.append ⟨q,v,[],rfl,hk,hd,rfl⟩
 ·rw[e1,e2];exact dX.set q hd h
theorem Tt{K:Fg}{F:Hp}{k:D}{q:Key}{v:V}(h:ql k=some q)(p:Rep K F k v):v=kV q:=by
 cases k with
 | int i=>cases h;exact p
 | str x=>cases h;exact p.1
 | _=>cases h
theorem Kz{K:Fg}{F H:Hp}{k:D}{q:Key}{v:V}(h:ql k=some q)(p:ir K F H k v):v=kV q:=by
 cases k with
 | int i=>cases h;exact p.int
 | str x=>cases h;exact p.str.1
 | _=>cases h
theorem ir.dct{K:Fg}{F H:Hp}{kvs:List (D×D)}{v:V}(s:aO F H)(h:ir K F H (.dct kvs) v):kvs.length<=sizeLine/\∃a ks,v = .ref a/\Rd H a (.dK ks)/\dX K F kvs ks:=by
 rcases h with ⟨z,a,vs,rfl,h1,h2⟩|⟨a,rfl,z,vs,h1,h2⟩
 ·exact⟨z,a,vs,rfl,aO.rd s h1,h2⟩
 ·exact⟨z,a,vs,rfl,.inl h1,h2⟩
def Yw:R2:=λx y H Q=>∃a v,x = .ref a/\Jq H a y (some v)/\Q v H
def jZ:D->D->Option D
 | .dct kvs,k=>(ql k).bind λq=>mH kvs q
 | _,_=>none
theorem WW:o9 C Yw jZ:=by
 intro Pr F env σ H x y d vx vy Q r px py e q;unfold jZ at e;split at e
 ·obtain⟨z,a,ks,rfl,h1,h2⟩:=px.dct r.fr;obtain⟨k,hk,hv⟩:=Qx5.mp e;cases Kz hk py;rcases h2.val k with ⟨e1,_⟩|⟨d',v',e1,e2,p2⟩
  ·rw[e1] at hv;cases hv
  ·rw[e1] at hv;cases hv;exact⟨a,v',rfl,.inl ⟨ks,k,h1,rfl,e2.symm⟩,q _ _ F r (aO.refl F) p2⟩
 ·cases e
theorem RJ{y:Expr}{b:Ev}{px:Pos}(i:Nat){x:Str}(hu:X.A.units+1<cLine)(hN:X.N[i]? = some x)(hv:vH X.env.scope x)(hb:U6 X C y b)(hs:Qn y:=by intro _ _;rfl)
  (hd:lR x:=by decide) (hcd:uR x:=by decide):PX X C (.Subscript (.Name x px) y pos) (aA jZ i b):=by
 have h:PE X (.Subscript (.Name x px) y pos) (Vz Yw _ _):=Wx (pos:=pos) hu (iQ (pos:=px) hN hv hd hcd) hb hs;exact h.imp (rZ WW)
def FQ:Ev:=λenv=>.ok (.dct []) env
theorem Rz:Vl X C (.Dict [] [] pos) FQ:=R8.imp λσ H Q hq=>by
 obtain⟨Pr,F,env,env',d,r,e,q⟩:=hq;cases e;exact λp hp=>q _ _ F (r.fresh hp) (aO.refl F) (U8.of r hp ⟨Qxk _,[],aW,rfl⟩)
def tu(i:Nat)(k a:Ev):bU:=λenv=>gM (a env) λd aL=>match aL[i]? with
 | some (some (_,_))=>gM (k aL) λkd fG=>(match fG[i]?,ql kd with
  | some (some (true,.dct kvs)),some q=>if kvs.length<sizeLine then .nx (fG.set i (some (true,.dct (putD kvs kd q d)))) else .stuck
  | _,_=>.stuck)
 | _=>.stuck
theorem Rx{i:Nat}{x:Str}{k e:Expr}{ek a:Ev}{px pos':Pos}(hu:X.A.units+1<cLine)(hN:X.N[i]? = some x)(hv:vH X.env.scope x)(hk:PX X C k ek)(he:PX X C e a)
  (hs:swapsWith e (some (.Subscript (.Name x px) k pos')) pos.line X.env=pure false:=by rfl)
  (hd:lR x:=by decide) (hcd:uR x:=by decide):Vk X C (.Assign [.Subscript (.Name x px) k pos'] e pos) (tu i ek a):=
 (Wl hu (iQ hN hv hd hcd) hk he hs).imp λD σ H h=>by
  obtain⟨Pr,F,env,r,f⟩:=h;obtain⟨d,aL,e1,f1⟩:=di f;refine⟨Pr,F,env,aL,d,r,e1,λv H1 F1 r1 s1 p1=>?_⟩;split at f1
  ·rename_i o0 d0 h0;obtain⟨v0,hv0,_⟩:=r1.rd h0;obtain⟨kd,fG,e2,f2⟩:=di f1;refine⟨v0,hv0,Pr,F1,aL,fG,kd,r1,e2,λvk H2 F2 r2 s2 p2=>?_⟩;split at f2
   ·rename_i kvs q h2 hq;split at f2
    ·rename_i hz;obtain⟨b,g1,⟨z,ks,g2,g3⟩,g4,g5⟩:=r2.own i _ h2;rw[hv0] at g1;cases g1;have hz':ks.length<sizeLine:=by rw[g3.length];exact hz
     cases Tt hq p2;refine⟨b,_,rfl,Vb.k g2 hz',?_⟩;refine f2 σ _ F2 (r2.write h2 hv0 ⟨Qq2 (Hq _ _ _ _) hz,_,aW,g3.put hq (Rep.mono s2 _ _ p1)⟩) (s1.trans s2)
    ·exact f2.elim
   ·exact f2.elim
  ·exact f1.elim
def PB(x:List Nat):List (List Nat)->List (List Nat)
 | []=>[x]
 | y::r=>if y<x then y::PB x r else x::y::r
def jl:List (List Nat)->List (List Nat)
 | []=>[]
 | x::r=>PB x (jl r)
theorem wM(x:List Nat):∀l,(PB x l).Perm (x::l)
 | []=>.refl _
 | y::r=>by
  unfold PB;split
  ·exact((wM x r).cons y).trans (.swap x y r)
  ·exact .refl _
theorem iK:∀l,(jl l).Perm l
 | []=>.refl _
 | x::r=>(wM x (jl r)).trans ((iK r).cons x)
theorem xF(x:List Nat):∀l,l.Pairwise (λa b=>a<=b)->(PB x l).Pairwise (λa b=>a<=b)
 | [],_=>List.pairwise_singleton _ _
 | y::r,h=>by
  unfold PB;have h1:=Qz6.mp h;split
  ·rename_i hyx;refine Qz6.mpr ⟨λz hz=>?_,xF x r h1.2⟩;rcases Qq4.mp ((wM x r).mem_iff.mp hz) with rfl|hz
   ·exact List.le_of_lt hyx
   ·exact h1.1 z hz
  ·rename_i hyx;have hxy:x<=y:=List.not_lt.mp hyx;refine Qz6.mpr ⟨λz hz=>?_,h⟩;rcases Qq4.mp hz with rfl|hz
   ·exact hxy
   ·exact List.le_trans hxy (h1.1 z hz)
theorem uC:∀l,(jl l).Pairwise (λa b=>a<=b)
 | []=>.nil
 | x::r=>xF x _ (uC r)
theorem Cz:∀(p:Str) (l:List Str),risingS p l=true->(p::l).Pairwise (λa b=>a.cps.toList<=b.cps.toList)
 | p,[],_=>List.pairwise_singleton _ _
 | p,x::r,h=>by
  have h':(!Spec.ltCps x.cps.toList p.cps.toList&&risingS x r)=true:=h;rw[Qzx,PyProof.Rows.ltCps_eq] at h';have hxp:¬x.cps.toList<p.cps.toList:=by
   have:=h'.1
   simpa using this
  have ih:=Cz x r h'.2;refine Qz6.mpr ⟨λz hz=>?_,ih⟩;have hpx:p.cps.toList<=x.cps.toList:=List.not_lt.mp hxp;rcases Qq4.mp hz with rfl|hz
  ·exact hpx
  ·exact List.le_trans hpx ((Qz6.mp ih).1 z hz)
theorem Og:∀(l:List Str),sortedS l=true->l.Pairwise (λa b=>a.cps.toList<=b.cps.toList)
 | [],_=>.nil
 | x::r,h=>Cz x r h
theorem Od(s:Str):strOf s.cps.toList=s:=by obtain⟨c⟩:=s;simp[strOf]
theorem DX{xs:List (List Nat)}{ss ss':List Str}(e:ss=xs.map strOf)(hp:ss'.Perm ss)(hs:sortedS ss'=true):ss'=(jl xs).map strOf:=by
 subst e;have h1:(ss'.map λs=>s.cps.toList).Perm xs:=by
  have:=hp.map (λs:Str=>s.cps.toList);rw[Qkx] at this;have e2:xs.map ((λs:Str=>s.cps.toList) ∘ strOf)=xs:=by rw[Qj1 (g:=id) (λx _=>by simp[strOf])];simp
  rwa [e2] at this
 have h2:(ss'.map λs=>s.cps.toList)=jl xs:=by refine List.Perm.eq_of_pairwise (le:=λa b=>a<=b) (λa b _ _=>List.le_antisymm) ?_ (uC xs) (h1.trans (iK xs).symm);exact List.pairwise_map.mpr (Og ss' hs)
 rw[<-h2,Qkx];have e3:∀l:List Str,l.map (strOf ∘ λs=>s.cps.toList)=l:=λl=>by
  induction l with
  | nil=>rfl
  | cons a r ih=>rw[Qq8,ih];show strOf a.cps.toList::r=a::r;rw[Od]
 exact(e3 ss').symm
theorem uv:∀{us:List Value} {ss:List Str},StrsAre us ss->Vals (ss.map V.str) us
 | _,_,.nil=>.nil
 | _,_,.cons y t h=>.cons ⟨t,rfl⟩ (uv h)
theorem uJ{K:Fg}{F:Hp}:∀(xs:List (List Nat)),(∀x∈xs,x.length<=sizeLine)->bL K F (xs.map D.str) (xs.map λz=>V.str (strOf z))
 | [],_=>rfl
 | x::xs,h=>⟨_,_,rfl,⟨rfl,h x (Qqj ..)⟩,uJ xs λy hy=>h y (Qqq _ hy)⟩
def Et(K:Fg):List V->Hp->VK->Prop:=λxs H Q=>∃p zs,xs=[.ref p]/\(o7 K H p (zs.map λz=>V.str (strOf z))\/∃ks,Rd H p (.dK ks)/\ks.map (·.1)=zs.map λz=>Sum.inr (strOf z))/\zs.length<64/\∀l,H l=none->Q (.ref l) (upd H l (.lst ((jl zs).map λz=>V.str (strOf z))))
theorem G5{pins:List (Addr×Obj)}{s:Shared}{σ:L2.St}{H:Hp}{Q:VK}{zs:List (List Nat)}{out:Array Value}{ss':List Str}{a:Addr}{e:Nat}{h':Heap}{tk:Nat}(I:Inv X pins σ H s)(hz:zs.length<64)(q:∀l,H l=none->Q (.ref l) (upd H l (.lst ((jl zs).map λz=>V.str (strOf z)))))
  (a1:StrsAre out.toList ss') (a2:ss'.Perm (zs.map strOf)) (a3:sortedS ss'=true) (hk:∀b o,s.heap.get? b=some o->h'.get? b=some o) (ha:s.heap.objs.size<=a) (ho:h'.get? a=some (seqObj "list" out e)):EP X pins σ Q (.ref a) { s with heap:=h',toks:=tk }:=by
 have e1:=DX rfl a2 a3;subst e1;have rv:=uv a1;rw[Qkx] at rv;have hl:((jl zs).map λz=>V.str (strOf z)).length<=sizeLine:=by rw[Qqv,(iK zs).length_eq];exact Qq2 (Qz8 hz) (by decide)
 exact⟨.ref a,_,I.laid (t':=tk) hk ha (show gr X.prog X.w _ h' a (.lst ((jl zs).map λz=>V.str (strOf z))) from⟨hl,out.toList,e,rv,by simpa[seqObj] using ho⟩),rfl,q a (I.hok.fresh ha)⟩
theorem Je(hc:X.calm=true):j5 X (.builtin "sorted") (Et X.K):=by
 intro pins s σ H xs us Q I r h;obtain⟨p,zs,rfl,hq,hz,q⟩:=h;obtain⟨u,rfl,rx⟩:=vals1 r;cases rx;rcases hq with hq|⟨ks,hq,hks⟩
 ·obtain⟨its,r',pl,hzz⟩:=I.list hq;have hS:StrsAre its (zs.map strOf):=vN r';refine sorted_strs pl.isList hS (by rw[<-r'.length,Qqv];exact hz) λout ss' a1 a2 a3=>?_;obtain⟨e,he⟩:=sortedAll_at s.heap its out;exact G5 (tk:=s.toks) I hz q a1 a2 a3 (λb o e=>sortedAll_old e) (Nat.le_succ _) he
 ·obtain⟨hz2,hsys,vs,rkv,hD⟩:=An I.hok hq;obtain⟨ep,hat⟩:=hD.dictAt;have hlen:vs.length=zs.length:=by
   have e1:=rkv.length;have e2:=Qz4 List.length hks;rw[Qqv,Qqv] at e2;omega
  refine Calls.call_function_entry kind_sorted plain_sorted entry_sorted (args_sorted1 _) ?_;unfold Builtin.«sorted»;refine Qqz (m:=checkCount "sorted" 1 1 _) (Qq5 ?_);refine Qqz (PySem.W.kdu_collect (A:=X.A.in1) (PySem.W.kdl_dict (knd:=d9 X.prog X.w) (kvs:=vs) (ep:=ep) hsys) (I.ok.hd hc) hat (by rw[hlen];exact Qq2 (Qz8 hz) (by decide)) λh' tk acc hk hacc=>?_);have hl:acc.toList.length=vs.length:=by rw[Qkz];exact hacc.1
  have hS:StrsAre acc.toList (zs.map strOf):=by
   have keys:∀j:Nat,j<vs.length->∃v t,acc.toList[j]? = some v/\v=Value.str (strOf (zs.getD j [])) t:=λj hj=>by
    have hja:j<acc.size:=by rw[hacc.1];exact hj
    have e1:acc[j]? = some acc[j]:=by simp[hja]
    obtain⟨k,x,hx,hkx⟩:=hacc.2 j _ e1;have e2:(vs.map (·.1))[j]? = some k:=by rw[Qw5,hx];rfl
    rw[<-rkv.keys,hks,Qw5] at e2;obtain⟨z,hzj,rfl⟩:=Qwk.mp e2;rcases eZ (k:=Sum.inr (strOf z)) (v:=acc[j]) hkx with ⟨i,t,z1,_⟩|⟨y,t,z1,z2⟩
    ·cases z1
    ·cases z1;exact⟨_,t,by rw[Array.getElem?_toList];exact e1,by rw[z2,Qw0,hzj];rfl⟩
   have build:∀(us:List Value) (ys:List (List Nat)),us.length=ys.length->(∀j:Nat,j<us.length->∃v t,us[j]? = some v/\v=Value.str (strOf (ys.getD j [])) t)->StrsAre us (ys.map strOf):=λus=>by
    induction us with
    | nil=>intro ys hl _;cases ys with
     | nil=>exact .nil
     | cons _ _=>cases hl
    | cons u us ih=>intro ys hl hk;cases ys with
     | nil=>cases hl
     | cons y ys=>
      obtain⟨v,t,e1,e2⟩:=hk 0 (Nat.succ_pos _);cases e1;rw[e2];exact .cons _ t (ih ys (by simpa using hl) λj hj=>by
       obtain⟨v,t,e1,e2⟩:=hk (j+1) (by simpa using hj);exact⟨v,t,by simpa using e1,by simpa using e2⟩)
   exact build _ _ (by rw[hl,hlen]) λj hj=>keys j (by rw[<-hl];exact hj)
  refine Qqz (wpAny_newList ?_ (by rw[hl,hlen];exact Qq2 (Qz8 hz) (by decide)));have hoL:(h'.push (seqObj "list" acc.toList.toArray 0)).get? h'.objs.size=some (seqObj "list" acc.toList.toArray 0):=Qww _ rfl;show wpAny _ _ _ _ _ { s with heap:=h'.push (seqObj "list" acc.toList.toArray 0),toks:=tk };refine Qqz (Qjx (Qz7 slot_list_sort ⟨_,hoL,rfl⟩ entry_list_sort (list_sort_treeK strKind_oneLt hoL hS.keysOf (λv₁ v₂ rest e=>keyKind_strs (by rw[<-e];exact hS)) (by rw[hl,hlen];exact hz) λst' b1 b2=>⟨_,rfl,?_⟩) (args_list_sort _)));obtain⟨ss',a1,a2,a3⟩:=sorted_out_str hS b1 b2;obtain⟨e,he⟩:=sortedHeap_at (out:=(arrOf st').map (·.2)) hoL;refine Qq5 ⟨_,rfl,?_⟩;have I1:L2.Inv X pins σ H { s with heap:=h',toks:=tk }:=I.kept hk;refine G5 (s:={ s with heap:=h',toks:=tk }) (tk:=tk) I1 hz q a1 a2 a3 (λb o e=>?_) (Qq1 _) he;have lt':=Qq9 e;rw[sortedHeap_old (Qxq lt') (by rw[size_push'];exact Nat.lt_succ_of_lt lt')];exact Qq0 _ e
def jg:List D->Option D
 | [.lst ds]=>(jB ds).bind λzs=>if zs.length<64/\(∀z∈zs,z.length<=sizeLine) then some (.lst ((jl zs).map .str)) else none
 | [.dct kvs]=>(jB (kvs.map (·.1))).bind λzs=>if zs.length<64/\(∀z∈zs,z.length<=sizeLine) then some (.lst ((jl zs).map .str)) else none
 | _=>none
theorem dX.keys{K:Fg}{F:Hp}:∀{kvs:List (D×D)} {ks:List (Key×V)} {zs:List (List Nat)},dX K F kvs ks->jB (kvs.map (·.1))=some zs->ks.map (·.1)=zs.map λz=>Sum.inr (strOf z)
 | [],ks,zs,h,e=>by cases h;simp[jB] at e;subst e;rfl
 | (k,d)::kvs,ks,zs,h,e=>by
  obtain⟨q,v,r,rfl,h0,h1,h2⟩:=h;cases k with
  | str x=>
   cases h0;have e':(jB (kvs.map (·.1))).map (x :: ·)=some zs:=by simpa[jB] using e
   obtain⟨zs',e1,rfl⟩:=Qwk.mp e';rw[Qq8,Qq8,dX.keys h2 e1]
  | _=>simp[jB] at e
theorem J5{Pr F:Hp}{env:Env}{σ:L2.St}{H:Hp}{l:Addr}{zs:List (List Nat)}(r:Rel C Pr F env σ H)(hl:H l=none)(hz:zs.length<64/\∀z∈zs,z.length<=sizeLine) :
  j4 C.K F (upd H l (.lst ((jl zs).map λz=>V.str (strOf z)))) (.lst ((jl zs).map .str)) l:=by
 refine⟨by rw[Qqv,(iK zs).length_eq];exact Qq2 (Qz8 hz.1) (by decide),_,aW,uJ _ λz h=>hz.2 z ((iK zs).mem_iff.mp h)⟩
theorem Qg:CallD C (Et C.K) jg:=by
 intro Pr F env σ H ds d vs Q r p e q;have fin:∀(zs:List (List Nat)) (l:Addr),(zs.length<64/\∀z∈zs,z.length<=sizeLine)->d = .lst ((jl zs).map .str)->H l=none->Q (.ref l) (upd H l (.lst ((jl zs).map λz=>V.str (strOf z)))):=λzs l hz hd hl=>by
  subst hd;obtain⟨F2,r2,s2,p2⟩:=(r.fresh (o:=.lst ((jl zs).map λz=>V.str (strOf z))) hl).keep (U8.of r hl (J5 r hl hz));exact q _ _ F2 r2 s2 p2
 unfold jg at e;split at e
 ·obtain⟨v,w,rfl,p1,p2⟩:=p;cases p2;obtain⟨zs,e1,e2⟩:=Qx5.mp e;split at e2
  ·rename_i hz;cases e2;obtain⟨z,a,ws,rfl,h1,h2⟩:=p1.lst r.fr;have e6:=wB e1 h2;subst e6;exact⟨a,zs,rfl,.inl (o7.of h1),hz.1,λl hl=>fin zs l hz rfl hl⟩
  ·cases e2
 ·obtain⟨v,w,rfl,p1,p2⟩:=p;cases p2;obtain⟨zs,e1,e2⟩:=Qx5.mp e;split at e2
  ·rename_i hz;cases e2;obtain⟨z,a,ks,rfl,h1,h2⟩:=p1.dct r.fr;exact⟨a,zs,rfl,.inr ⟨ks,h1,h2.keys e1⟩,hz.1,λl hl=>fin zs l hz rfl hl⟩
  ·cases e2
 ·cases e
theorem Ov{p:Pos}{e:Expr}{a:eN}(hK:X.K=C.K)(hc:X.calm=true)(hg:Gl X "sorted")(hm:X.mg "sorted" = none)(ha:Yj X C [e] a)(he:Ol e X.env:=by rfl)(hpl:(backTo pos (starEach [] X.env)).any (·.1)=false:=by rfl) :
  PX X C (.Call (.Name "sorted" p) [e] [] pos) (aq jg a):=
 uM (X:=X) (r:=Et C.K) (by rw[<-hK];exact Je hc) Qg hg hm PyProof.Rows.boot_sorted ha (by decide) (by decide) he hpl
end
theorem Rel.pad{C:Cfg}{Pr F:Hp}{env:Env}{σ:L2.St}{H:Hp}(m:Nat)(r:Rel C Pr F env σ H):Rel C Pr F (env++List.replicate m none) (uN m σ) H:=by
 have un:∀(j:Nat) (x:Bool×D),(env++List.replicate m none)[j]? = some (some x)->env[j]? = some (some x):=λj x he=>by
  by_cases hj:j<env.length
  ·rwa [Qw3 hj] at he
  ·rw[Qxy (by omega),Qzj] at he;split at he<;>cases he
 have up:∀(j:Nat) (v:V),σ[j]? = some (some v)->(uN m σ)[j]? = some (some v):=λj v h=>by
  unfold uN;rw[Qw3 (Qqw.mp h).1];exact h
 have dn:∀(j:Nat) (v:V),(uN m σ)[j]? = some (some v)->σ[j]? = some (some v):=λj v he=>by
  unfold uN at he;by_cases hj:j<σ.length
  ·rwa [Qw3 hj] at he
  ·rw[Qxy (by omega),Qzj] at he;split at he<;>cases he
 refine⟨r.pr,r.fr,by unfold uN;rw[Qqx,Qqx,Qx4,Qx4,r.len],λj e he=>?_,λj e he=>?_,λj k e f b hj hk g1 g2=>r.apart j k e f b (un _ _ hj) (un _ _ hk) (dn _ _ g1) (dn _ _ g2),r.dj,λj a h=>up _ _ (r.fix j a h)⟩
 ·obtain⟨v,h1,h2⟩:=r.val j e (un _ _ he);exact⟨v,up _ _ h1,h2⟩
 ·obtain⟨a,h1,h2⟩:=r.own j e (un _ _ he);exact⟨a,up _ _ h1,h2⟩
theorem Rel.cut{C:Cfg}{Pr F:Hp}{env:Env}{σ σ0:L2.St}{H:Hp}(r:Rel C Pr F env σ H)(h:σ.take σ0.length=σ0)(fix:∀i a,C.fx i=some a->σ0[i]? = some (some (V.ref a))):Rel C Pr F (env.take σ0.length) σ0 H:=by
 have hl:σ0.length<=σ.length:=by have:=Qz4 List.length h;rw[Qzy] at this;omega
 have un:∀(j:Nat) (x:Bool×D),(env.take σ0.length)[j]? = some (some x)->env[j]? = some (some x)/\j<σ0.length:=λj x he=>by
  have hj:j<σ0.length:=by have:=(Qqw.mp he).1;rw[Qzy] at this;omega
  rw[Qz1 hj] at he;exact⟨he,hj⟩
 have dn:∀(j:Nat),j<σ0.length->σ[j]? = σ0[j]?:=λj hj=>by
  have:=Qz1 (l:=σ) hj;rw[h] at this;exact this.symm
 refine⟨r.pr,r.fr,by rw[Qzy,r.len];omega,λj e he=>?_,λj e he=>?_,λj k e f b hj hk g1 g2=>r.apart j k e f b (un _ _ hj).1 (un _ _ hk).1 (by rw[dn _ (un _ _ hj).2];exact g1) (by rw[dn _ (un _ _ hk).2];exact g2),r.dj,fix⟩
 ·obtain⟨e1,e2⟩:=un _ _ he;rw[<-dn j e2];exact r.val j e e1
 ·obtain⟨e1,e2⟩:=un _ _ he;rw[<-dn j e2];exact r.own j e e1
def Kv(g:GV)(c:gn)(e:Ev):List D->Env->R (List D)
 | [],env=>.ok [] env
 | d::ds,env=>(match g d env with
  | none=>.stuck
  | some e1=>bindR (c e1) λb e2=>if b=true then bindR (e e2) λy e3=>bindR (Kv g c e ds e3) λys e4=>.ok (y::ys) e4 else Kv g c e ds e2)
def iZ(lo n:Nat)(it:eN)(g:GV)(c:gn)(e:Ev):Ev:=λenv=>bindR (it env) λds aL=>if aL.length=lo then bindR (Kv g c e ds (aL++List.replicate (n - lo) none)) λys fG=>(if ys.length<=sizeLine then .ok (.lst ys) (fG.take lo) else .stuck) else .stuck
def Qm(X:Cx)(C:Cfg)(ifs:List Expr)(ev:gn):Prop:=PIf X ifs (tT C ev)
def gG:gn:=λenv=>.ok true env
theorem RC{X:Cx}{C:Cfg}:Qm X C [] gG:=λpins s σ H Q I h=>by
 obtain⟨Pr,F,env,env',b,r,e,q⟩:=h;cases e;exact Wr pins s σ H Q I (q H F r (aO.refl F))
theorem YM{C:Cfg}{lo n:Nat}{it:eN}{g:GV}{c:gn}{e:Ev}{σ:L2.St}{H:Hp}{Q:VK}(h:tN C (iZ lo n it g c e) σ H Q):tLC n (tI C it) (tG C lo g) (tT C c) (tE C e) σ H Q:=by
 obtain⟨Pr,F,env,env',d,r,ev,q⟩:=h;obtain⟨ds,aL,e1,e2⟩:=aU ev;split at e2
 ·rename_i hlo;obtain⟨ys,fG,e3,e4⟩:=aU e2;split at e4
  ·rename_i hz;cases e4;refine⟨Pr,F,env,aL,ds,r,e1,λJ H1 F1 r1 s1 y1 a ha=>?_⟩;have hσ:σ.length=lo:=r1.len.symm.trans hlo;have hPa:Pr a=none:=r1.pr.free ha;refine⟨λi m σ' H'=>m=ds.length - i/\i<=ds.length/\∃F' IV acc ws rest,Rel C (upd Pr a (.lst ws)) F' IV σ' H'/\aO F1 F'/\bL C.K F' acc ws/\σ'.take lo=σ/\Kv g c e (ds.drop i) IV = .ok rest fG/\acc++rest=ys,
    ⟨ds.length,rfl,Qxk _,F1,aL++List.replicate (n - lo) none,[],[],ys,?_,aO.refl _,rfl,?_,e3,rfl⟩,?_⟩
   ·rw[hσ];exact(r1.aside (o:=.lst []) ha).pad _
   ·unfold uN;rw[<-hσ,List.take_left]
   rintro i m σ' H' ⟨rfl,hi,F',IV,acc,ws,rest,r',s',p',t',l',hacc⟩;have hFa:F' a=none:=by
    cases ez:F' a with
    | none=>rfl
    | some w=>have:=r'.dj a w ez;rw[aW] at this;cases this
   by_cases hl:i<ds.length
   ·have hd:ds[i]? = some ds[i]:=Qwz hl;have hdr:ds.drop i=ds[i]::ds.drop (i+1):=List.drop_eq_getElem_cons hl;have yy:=y1 i H' (s'.trans r'.fr);refine .inr ⟨(yy.2 _ hd).1,λσ2 H2=>∃F' IV acc ws rest,Rel C (upd Pr a (.lst ws)) F' IV σ2 H2/\aO F1 F'/\bL C.K F' acc ws/\σ2.take lo=σ/\Kv g c e (ds.drop (i+1)) IV = .ok rest fG/\acc++rest=ys,
     λσ2 H2 h2=>⟨ds.length - (i+1),by omega,rfl,hl,h2⟩,λx H2 hy=>?_⟩
    obtain⟨F2,r2,s2,p2⟩:=rG.item r' s' y1 hd hy;rw[hdr] at l';unfold Kv at l';cases eg:g ds[i] IV with
    | none=>rw[eg] at l';cases l'
    | some e5=>
     rw[eg] at l';obtain⟨b,e6,c1,l2⟩:=aU l';refine⟨_,F2,IV,e5,ds[i],r2,p2,eg,λσ3 H3 F3 r3 s3 t3=>⟨_,F3,e5,e6,b,r3,c1,λH4 F4 r4 s4=>?_⟩⟩;have t3':σ3.take lo=σ:=t3.trans t';have s24:aO F' F4:=(s2.trans s3).trans s4;cases b with
     | false=>
      show if false=true then _ else _
      rw[if_neg Qw6];rw[if_neg Qw6] at l2;exact⟨F4,e6,acc,ws,rest,r4,s'.trans s24,bL.mono s24 _ _ p',t3',l2,hacc⟩
     | true=>
      show if true=true then _ else _
      rw[if_pos rfl];rw[if_pos rfl] at l2;obtain⟨y,e7,c2,l3⟩:=aU l2;obtain⟨ys2,e8,c3,l4⟩:=aU l3;cases l4;refine⟨_,F4,e6,e7,y,r4,c2,λv H5 F5 r5 s5 p5=>?_⟩;have hlen:acc.length+(ys2.length+1)=ys.length:=by rw[<-hacc,Qqx,Qqy]
      refine⟨ws,r5.pr _ _ aW,by rw[p'.length];omega,F5,e7,acc++[y],ws++[v],ys2,?_,s'.trans (s24.trans s5),(bL.mono (s24.trans s5) _ _ p').append (bL.one p5),t3',c3,by rw[Qx3];exact hacc⟩;have r6:=r5.turn (u:=.lst (ws++[v])) aW
      rwa [Vt] at r6
   ·have ei:i=ds.length:=by omega
    subst ei;rw[List.drop_length] at l';cases l';rw[Qxx] at hacc;subst hacc;refine .inl ⟨(y1 _ H' (s'.trans r'.fr)).1 (List.getElem?_eq_none (Qq1 _)) rfl,?_⟩;have sP:aO Pr (upd Pr a (.lst ws)):=mO hPa;have r7:Rel C Pr F' (fG.take lo) σ H':=by
     have:=(r'.less sP).cut (σ0:=σ) (by rw[hσ];exact t') r1.fix
     rwa [hσ] at this
    refine q a H' F' r7 (s1.trans s') ⟨⟨hz,ws,r'.pr _ _ aW,p'⟩,hFa,hPa,λj e he hs=>?_⟩;have hj:j<σ.length:=(Qqw.mp hs).1;have he':fG[j]? = some (some (true,e)):=by rw[Qz1 (by rw[<-hσ];exact hj)] at he;exact he
    obtain⟨b,g1,_,_,g4⟩:=r'.own j e he';have:σ'[j]? = some (some (V.ref a)):=by rw[<-t',Qz1 (by rw[<-hσ];exact hj)] at hs;exact hs
    rw[this] at g1;cases g1;rw[aW] at g4;cases g4
  ·cases e4
 ·cases e2
section
variable{X:Cx}{C:Cfg}{pos:Pos}
theorem Z8{elt tg iter:Expr}{ifs:List Expr}{scope:Scope}(N':List Str){it:eN}{g:GV}{c:gn}{e:Ev}(lo:Nat)(ok:m9 X scope N')(hc:X.calm=true)(hi:Zo X C tg iter it)
  (bg:∀X',jV X scope N' X'->Yi X' C lo tg g) (bc:∀X',jV X scope N' X'->Qm X' C ifs c) (be:∀X',jV X scope N' X'->PX X' C elt e)
  (hs:∀x,foldedSetIterable iter X.env x=pure x:=by intro _;rfl):Vl X C (.ListComp elt [⟨tg,iter,ifs,0⟩] scope pos) (iZ lo N'.length it g c e):=
 (adM ok hc hi bg bc be hs).imp λσ H Q h=>YM h
theorem Oq{elt tg iter:Expr}{ifs:List Expr}{scope:Scope}(N':List Str){spos py:Pos}{it:eN}{g:GV}{c:gn}{e:Ev}(lo:Nat){i:Nat}{y:Str}(ok:m9 X scope N')(hc:X.calm=true)(hi:Zo X C tg iter it)
  (bg:∀X',jV X scope N' X'->Yi X' C lo tg g) (bc:∀X',jV X scope N' X'->Qm X' C ifs c) (be:∀X',jV X scope N' X'->PX X' C elt e)
  (hN:X.N.Nodup) (hy:X.N[i]? = some y) (hx:Loc X.env.scope y) (hfx:C.fx i=none)
  (hsw:swapsWith (.ListComp elt [⟨tg,iter,ifs,0⟩] scope pos) (some (.Name y py)) spos.line X.env=pure true)
  (hf:X.fn y=true\/X.env.scope.names.lookup y=some .local:=by first|exact .inl rfl|exact .inr rfl|assumption)
  (hs:∀x,foldedSetIterable iter X.env x=pure x:=by intro _;rfl):Vk X C (.Assign [.Name y py] (.ListComp elt [⟨tg,iter,ifs,0⟩] scope pos) spos) (dq i (iZ lo N'.length it g c e)):=
 (RV ok hc hi bg bc be hN hy hx hsw hf hs).imp λD σ H h=>by
  obtain⟨Pr,F,env,r,f⟩:=h;obtain⟨d,aL,e1,f1⟩:=di f;have:tN C (iZ lo N'.length it g c e) σ H λv H1=>Ip i v σ H1 D.nx:=⟨Pr,F,env,aL,d,r,e1,λv H1 F1 r1 s1 p1=>f1 _ H1 F1 (r1.RK hfx p1) s1⟩;exact YM this
end
def lC(K:Fg)(n:Nat)(f:List D->Option D):Sp:=λvs H Q _=>∃(F:Hp) (ds:List D) (d:D),ds.length=n/\aO F H/\bL K F ds vs/\f ds=some d/\
 ∀v H' F',aO H H'->aO F' H'->aO F F'->(∀b o,F' b=some o->F b=some o\/H b=none)->Rep K F' d v->Q v H'
def ZX(K:Fg)(n:Nat)(f:List D->Option D):Sp:=λvs H Q _=>∃(F:Hp) (ds:List D) (d:D),ds.length=n/\aO F H/\bL K F ds vs/\f ds=some d/\
 ∀a H' F',aO H H'->aO F' H'->aO F F'->(∀b o,F' b=some o->F b=some o\/H b=none)->j4 K F' H' d a->F' a=none->H a=none->Q (.ref a) H'
def yX(K:Fg)(n:Nat)(f:List D->Option (D×D)):Sp:=λvs H Q _=>∃(F:Hp) (a:Addr) (r:List V) (x:D) (ds:List D) (d x':D),vs = .ref a::r/\ds.length+1=n/\aO F H/\F a=none/\j4 K F H x a/\bL K F ds r/\f (x::ds)=some (d,x')/\
 ∀v H' F',(∀b o,b≠a->H b=some o->H' b=some o)->aO F' H'->aO F F'->(∀b o,F' b=some o->F b=some o\/H b=none)->j4 K F' H' x' a->Rep K F' d v->Q v H'
theorem Rel.after{C:Cfg}{Pr F F':Hp}{env:Env}{σ:L2.St}{H H':Hp}(r:Rel C Pr F env σ H)(s:aO H H')(sF:aO F' H')(sF':aO F F')(nw:∀b o,F' b=some o->F b=some o\/H b=none):Rel C Pr F' env σ H':=by
 refine⟨r.pr.trans s,sF,r.len,λj e he=>?_,λj e he=>?_,r.apart,λb o e=>?_,r.fix⟩
 ·obtain⟨v,h1,h2⟩:=r.val j e he;exact⟨v,h1,Rep.mono sF' _ _ h2⟩
 ·obtain⟨a,h1,h2,h3,h4⟩:=r.own j e he;obtain⟨o,ho⟩:=h2.some;refine⟨a,h1,h2.mono sF' (by rw[ho,s _ _ ho]),?_,h4⟩;cases e:F' a with
  | none=>rfl
  | some u=>
   rcases nw a u e with z|z
   ·rw[h3] at z;cases z
   ·rw[ho] at z;cases z
 ·rcases nw b o e with z|z
  ·exact r.dj b o z
  ·exact r.pr.free z
theorem Rel.X6{C:Cfg}{Pr F F':Hp}{env:Env}{σ:L2.St}{H H':Hp}{i:Nat}{a:Addr}{d d':D}(r:Rel C Pr F env σ H)(h:env[i]? = some (some (true,d)))(hs:σ[i]? = some (some (V.ref a)))(s:∀b o,b≠a->H b=some o->H' b=some o)(sF:aO F' H')(sF':aO F F')(nw:∀b o,F' b=some o->F b=some o\/H b=none)(ho:j4 C.K F' H' d' a):Rel C Pr F' (env.set i (some (true,d'))) σ H':=by
 obtain⟨a',h1,h2,h3,h4⟩:=r.own i d h;rw[hs] at h1;cases h1;have hi:i<env.length:=(Qqw.mp h).1;obtain⟨oa,hoa⟩:=h2.some;have ne:∀(j:Nat) (e:D) (b:Addr),j≠i->env[j]? = some (some (true,e))->σ[j]? = some (some (V.ref b))->b≠a:=λj e b hj he g z=>hj (r.apart j i e d a he h (by rw[<-z];exact g) hs);have nF:∀b u,F b=none->H b=some u->F' b=none:=λb u e1 e2=>by
  cases e:F' b with
  | none=>rfl
  | some w=>
   rcases nw b w e with z|z
   ·rw[e1] at z;cases z
   ·rw[e2] at z;cases z
 refine⟨λb w e=>?_,sF,by rw[Qx0];exact r.len,λj e he=>?_,λj e he=>?_,λj k e f b hj hk g1 g2=>?_,λb o e=>?_,r.fix⟩
 ·have hb:b≠a:=λz=>by rw[z,h4] at e;cases e
  exact s b w hb (r.pr b w e)
 ·by_cases hj:j=i
  ·subst hj;rw[Qwv hi] at he;cases he
  ·rw[Qq7 (Ne.symm hj)] at he;obtain⟨v,g1,g2⟩:=r.val j e he;exact⟨v,g1,Rep.mono sF' _ _ g2⟩
 ·by_cases hj:j=i
  ·subst hj;rw[Qwv hi] at he;cases he;exact⟨a,hs,ho,nF a oa h3 hoa,h4⟩
  ·rw[Qq7 (Ne.symm hj)] at he;obtain⟨b,g1,g2,g3,g4⟩:=r.own j e he;obtain⟨ob,hob⟩:=g2.some;exact⟨b,g1,g2.mono sF' (by rw[hob,s b ob (ne j e b hj he g1) hob]),nF b ob g3 hob,g4⟩
 ·have un:∀(j:Nat) (e:D),(env.set i (some (true,d')))[j]? = some (some (true,e))->∃e',env[j]? = some (some (true,e')):=λj e he=>by
   by_cases hj:j=i
   ·subst hj;exact⟨d,h⟩
   ·rw[Qq7 (Ne.symm hj)] at he;exact⟨e,he⟩
  obtain⟨e',hj'⟩:=un j e hj;obtain⟨f',hk'⟩:=un k f hk;exact r.apart j k e' f' b hj' hk' g1 g2
 ·rcases nw b o e with z|z
  ·exact r.dj b o z
  ·exact r.pr.free z
section
variable{X:Cx}{C:Cfg}{pos p:Pos}{k n:Nat}{f:Addr}{fd:FuncData}{ps:List Str}{x:Str}{e:Expr}{es:List Expr}
theorem uf{g:List D->Option D}{a:eN}{env env':Env}{d:D}(h:aq g a env = .ok d env'):∃ds,a env = .ok ds env'/\g ds=some d:=by obtain⟨ds,aL,e1,e2⟩:=aU h;obtain⟨e3,rfl⟩:=fU e2;exact⟨ds,e1,e3⟩
theorem aab{g:List D->Option D}{a:eN}(G:lX X.prog X.w X.K X.mg X.base yc k f fd ps (lC C.K n g))(hr:gm k X.A)(hg:Gl X x)(hm:X.mg x=some (.ref f))(hk:PySem.W.keepIn X.K (.ref f)=true)(hb:Binds X.K fd ps [])
  (ha:U7 X C (e::es) a) (hn:∀env ds env',a env = .ok ds env'->ds.length=n) (hdb:lR x:=by decide) (he:starEach (e::es) X.env=(false,eval e X.env)::starEach es X.env:=by rfl) (hpl:(backTo pos (starEach es X.env)).any (·.1)=false:=by rfl) :
  PX X C (.Call (.Name x p) (e::es) [] pos) (aq g a):=(Fd G hr hg hm hk hb .nil Mu ha hdb he hpl).imp λσ H Q hq=>by
 obtain⟨Pr,F,env,env',d,r,e,q⟩:=hq;obtain⟨ds,e1,e2⟩:=uf e;refine⟨Pr,F,env,env',ds,r,e1,λvs H1 F1 r1 s1 p1=>?_⟩;show lC C.K n g (vs++[]) H1 Q E0;rw[Qxx];exact⟨F1,ds,d,hn _ _ _ e1,r1.fr,p1,e2,λv H2 F2 t1 t2 t3 t4 p2=>q v H2 F2 (r1.after t1 t2 t3 t4) (s1.trans t3) p2⟩
theorem Wc{g:List D->Option D}{a:eN}(G:lX X.prog X.w X.K X.mg X.base yc k f fd ps (ZX C.K n g))(hr:gm k X.A)(hg:Gl X x)(hm:X.mg x=some (.ref f))(hk:PySem.W.keepIn X.K (.ref f)=true)(hb:Binds X.K fd ps [])
  (ha:U7 X C (e::es) a) (hn:∀env ds env',a env = .ok ds env'->ds.length=n) (hdb:lR x:=by decide) (he:starEach (e::es) X.env=(false,eval e X.env)::starEach es X.env:=by rfl) (hpl:(backTo pos (starEach es X.env)).any (·.1)=false:=by rfl) :
  Vl X C (.Call (.Name x p) (e::es) [] pos) (aq g a):=(Fd G hr hg hm hk hb .nil Mu ha hdb he hpl).imp λσ H Q hq=>by
 obtain⟨Pr,F,env,env',d,r,e,q⟩:=hq;obtain⟨ds,e1,e2⟩:=uf e;refine⟨Pr,F,env,env',ds,r,e1,λvs H1 F1 r1 s1 p1=>?_⟩;show ZX C.K n g (vs++[]) H1 Q E0;rw[Qxx];refine⟨F1,ds,d,hn _ _ _ e1,r1.fr,p1,e2,λb H2 F2 t1 t2 t3 t4 ho hF hH=>q b H2 F2 (r1.after t1 t2 t3 t4) (s1.trans t3) ⟨ho,hF,r1.pr.free hH,λj e he hs=>?_⟩⟩;obtain⟨c,h1,h2,_⟩:=r1.own j e he;rw[hs] at h1;cases h1;obtain⟨u,hu⟩:=h2.some;rw[hH] at hu;cases hu
def fP(f:List D->Option (D×D))(i:Nat)(a:eN):Ev:=λenv=>match env[i]? with
 | some (some (true,_))=>bindR (a env) λds aL=>(match aL[i]? with
  | some (some (true,x))=>(match f (x::ds) with
   | some (d,x')=>.ok d (aL.set i (some (true,x')))
   | none=>.stuck)
  | _=>.stuck)
 | _=>.stuck
theorem adE{g:List D->Option (D×D)}{a:eN}{i:Nat}{y:Str}{py:Pos}(hN:X.N[i]? = some y)(hv:vH X.env.scope y)(G:lX X.prog X.w X.K X.mg X.base yc k f fd ps (yX C.K n g))(hr:gm k X.A)(hg:Gl X x)(hm:X.mg x=some (.ref f))(hk:PySem.W.keepIn X.K (.ref f)=true)(hb:Binds X.K fd ps [])
  (ha:U7 X C es a) (hn:∀env ds env',a env = .ok ds env'->ds.length+1=n) (hdb:lR x:=by decide) (he:starEach (.Name y py::es) X.env=(false,eval (.Name y py) X.env)::starEach es X.env:=by rfl) (hpl:(backTo pos (starEach es X.env)).any (·.1)=false:=by rfl)
  (hd:lR y:=by decide) (hcd:uR y:=by decide) :
  PX X C (.Call (.Name x p) (.Name y py::es) [] pos) (fP g i a):=(Fd G hr hg hm hk hb .nil Mu (iD (iQ hN hv hd hcd) ha he) hdb he hpl).imp λσ H Q hq=>by
 obtain⟨Pr,F,env,env',d,r,e,q⟩:=hq;unfold fP at e;split at e
 ·rename_i d0 h0;obtain⟨ds,aL,e1,e2⟩:=aU e;split at e2
  ·rename_i z hz;split at e2
   ·rename_i d1 z' hg;cases e2;obtain⟨a0,hs0,_⟩:=r.own i _ h0;refine⟨_,hs0,Pr,F,env,aL,ds,r,e1,λvs H1 F1 r1 s1 p1=>?_⟩;obtain⟨a1,hs1,ho1,hF1,hP1⟩:=r1.own i _ hz;rw[hs0] at hs1;cases hs1;show yX C.K n g (_::vs++[]) H1 Q E0;rw[Qxx];exact⟨F1,a0,vs,z,ds,d,z',rfl,hn _ _ _ e1,r1.fr,hF1,ho1,p1,hg,λv H2 F2 t1 t2 t3 t4 t5 p2=>q v H2 F2 (r1.X6 hz hs0 t1 t2 t3 t4 t5) (s1.trans t3) p2⟩
   ·cases e2
  ·cases e2
 ·cases e
end
def envOf(n:Nat)(ds:List D):Env:=ds.map (λd=>some (false,d))++List.replicate (n - ds.length) none
def Am(n:Nat)(x:D)(ds:List D):Env:=some (true,x)::(ds.map (λd=>some (false,d))++List.replicate (n - (ds.length+1)) none)
def bW(n:Nat)(ev:bU)(ds:List D):Option D:=match ev (envOf n ds) with
 | .rt false d _=>some d
 | .nx _=>some .non
 | _=>none
def runN(n:Nat)(ev:bU)(ds:List D):Option D:=match ev (envOf n ds) with
 | .rt true d _=>some d
 | _=>none
def mV(n:Nat)(ev:bU)(ds:List D):Option (D×D):=match ds with
 | []=>none
 | x::r=>(match ev (Am n x r) with
  | .rt false d env=>(match env[0]? with
   | some (some (true,x'))=>some (d,x')
   | _=>none)
  | .nx env=>(match env[0]? with
   | some (some (true,x'))=>some (.non,x')
   | _=>none)
  | _=>none)
def C0(K:Fg):Cfg:=⟨K,λ_=>none⟩
def C1(K:Fg)(a:Addr):Cfg:=⟨K,λi=>if i=0 then some a else none⟩
def BJ(H F:Hp):Hp:=λb=>if (F b).isSome then none else H b
theorem HQ{H F:Hp}{b:Addr}{o:HO}(h:BJ H F b=some o):H b=some o/\F b=none:=by
 unfold BJ at h;split at h
 ·cases h
 ·rename_i z;exact⟨h,by cases e:F b with|none=>rfl|some w=>rw[e] at z;exact absurd rfl z⟩
theorem zN{H F:Hp}{b:Addr}(h:BJ H F b=none):H b=none\/∃o,F b=some o:=by
 unfold BJ at h;split at h
 ·rename_i z;exact .inr (Qx9.mp z)
 ·exact .inl h
theorem rN{K:Fg}{F H:Hp}{ds:List D}{vs:List V}{N:List Str}(s:aO F H)(p:bL K F ds vs):Rel (C0 K) (BJ H F) F (envOf N.length ds) (start N vs) H:=by
 have un:∀(j:Nat) (x:Bool×D),(envOf N.length ds)[j]? = some (some x)->∃d,x=(false,d)/\ds[j]? = some d:=λj x he=>by
  unfold envOf at he;by_cases hj:j<(ds.map λd=>some (false,d)).length
  ·rw[Qw3 hj,Qw5] at he;obtain⟨d,h1,h2⟩:=Qwk.mp he;cases h2;exact⟨d,rfl,h1⟩
  ·rw[Qxy (by omega),Qzj] at he;split at he<;>cases he
 refine⟨λb o e=>(HQ e).1,s,?_,λj d he=>?_,λj d he=>?_,λj k d e a hj hk=>?_,λb o e=>?_,λi a h=>by cases h⟩
 ·unfold envOf L2.start;rw[Qqx,Qqx,Qqv,Qqv,Qx4,Qx4,p.length]
 ·obtain⟨d',z,hd⟩:=un j _ he;cases z;obtain⟨v,h1,h2⟩:=p.get hd;refine⟨v,?_,h2⟩;unfold L2.start;rw[Qw3 (by rw[Qqv];exact(Qqw.mp h1).1),Qw5,h1]
  rfl
 ·obtain⟨d',z,_⟩:=un j _ he;cases z
 ·obtain⟨d',z,_⟩:=un j _ hj;cases z
 ·unfold BJ;rw[e];rfl
theorem aO.tW{H F F' H':Hp}(s1:aO (BJ H F) H')(s2:aO F F')(s3:aO F' H')(sF:aO F H):aO H H':=λb o e=>by
 cases z:F b with
 | none=>exact s1 b o (by unfold BJ;rw[z];exact e)
 | some w=>
  have:=sF b w z;rw[e] at this;cases this;exact s3 b o (s2 b o z)
theorem tZ{H F F':Hp}(s2:aO F F')(dj:∀b o,F' b=some o->BJ H F b=none)(b:Addr)(o:HO)(h:F' b=some o):F b=some o\/H b=none:=by
 rcases zN (dj b o h) with z|⟨w,z⟩
 ·exact .inr z
 ·have:=s2 b w z;rw[h] at this;cases this;exact .inl z
section
variable{P:Program}{w:World}{K:Fg}{mg:Str->Option Value}{base:Heap}{x qual:Str}{st:Stmt}{f:Addr}{fd:FuncData}{N ps:List Str}{k:Nat}{ev:bU}
abbrev bx(P:Program)(w:World)(K:Fg)(mg:Str->Option Value)(base:Heap)(N:List Str)(qual:Str)(st:Stmt)(f:Addr)(cdv:Value)(A:Around)(outer:List PySem.Env)(s:Shared)(H:Hp)(E:XK):Cx:=(Jb yc P w K mg base N qual (aK st) f cdv A outer s H E).WX
theorem Ul(F:Qp K x qual st f fd)(S:bF N ps (aK st))
  (hb:∀(cdv:Value) (A:Around) (outer:List PySem.Env) (s:Shared) (H:Hp) (E:XK),gm k (A.deeper (envOfC qual (aK st) s.heap.objs.size f cdv))->sE (bx P w K mg base N qual st f cdv A outer s H E) (C0 K) (cI st) ev) :
  lX P w K mg base yc (k+1) f fd ps (lC K ps.length (bW N.length ev)):=by
 refine F.ok S (λvs H Q E h=>?_) (λcdv A outer s H vs Q E hr h=>?_)
 ·obtain⟨F0,ds,d,hl,_,p,_⟩:=h;rw[p.length,hl]
 ·obtain⟨F0,ds,d,hl,sF,p,e,q⟩:=h;refine⟨_,hb cdv A outer s H E hr,BJ H F0,F0,envOf N.length ds,rN sF p,?_⟩;unfold bW at e;split at e
  ·rename_i d' env' h1;cases e;rw[h1];exact λv σ' H' F' r' s' p'=>q v H' F' (aO.tW r'.pr s' r'.fr sF) r'.fr s' (tZ s' r'.dj) p'
  ·rename_i env' h1;cases e;rw[h1];exact λσ' H' F' r' s'=>q .non H' F' (aO.tW r'.pr s' r'.fr sF) r'.fr s' (tZ s' r'.dj) rfl
  ·cases e
theorem Xz(F:Qp K x qual st f fd)(S:bF N ps (aK st))
  (hb:∀(cdv:Value) (A:Around) (outer:List PySem.Env) (s:Shared) (H:Hp) (E:XK),gm k (A.deeper (envOfC qual (aK st) s.heap.objs.size f cdv))->sE (bx P w K mg base N qual st f cdv A outer s H E) (C0 K) (cI st) ev) :
  lX P w K mg base yc (k+1) f fd ps (ZX K ps.length (runN N.length ev)):=by
 refine F.ok S (λvs H Q E h=>?_) (λcdv A outer s H vs Q E hr h=>?_)
 ·obtain⟨F0,ds,d,hl,_,p,_⟩:=h;rw[p.length,hl]
 ·obtain⟨F0,ds,d,hl,sF,p,e,q⟩:=h;refine⟨_,hb cdv A outer s H E hr,BJ H F0,F0,envOf N.length ds,rN sF p,?_⟩;unfold runN at e;split at e
  ·rename_i d' env' h1;cases e;rw[h1];refine λa σ' H' F' r' s' n'=>q a H' F' (aO.tW r'.pr s' r'.fr sF) r'.fr s' (tZ s' r'.dj) n'.own n'.nF ?_;rcases zN n'.nP with z|⟨u,z⟩
   ·exact z
   ·have:=s' a u z;rw[n'.nF] at this;cases this
  ·cases e
theorem Hl{K:Fg}{F H:Hp}{y:D}{a:Addr}{ds:List D}{vs:List V}{N:List Str}(s:aO F H)(hF:F a=none)(ho:j4 K F H y a)(p:bL K F ds vs):Rel (C1 K a) (λb=>if b=a then none else BJ H F b) F (Am N.length y ds) (start N (.ref a::vs)) H:=by
 have un:∀(j:Nat) (x:Bool×D),(Am N.length y ds)[j]? = some (some x)->(j=0/\x=(true,y))\/∃i d,j=i+1/\x=(false,d)/\ds[i]? = some d:=λj x he=>by
  unfold Am at he;cases j with
  | zero=>cases he;exact .inl ⟨rfl,rfl⟩
  | succ i=>
   rw[List.getElem?_cons_succ] at he;by_cases hj:i<(ds.map λd=>some (false,d)).length
   ·rw[Qw3 hj,Qw5] at he;obtain⟨d,h1,h2⟩:=Qwk.mp he;cases h2;exact .inr ⟨i,d,rfl,rfl,h1⟩
   ·rw[Qxy (by omega),Qzj] at he;split at he<;>cases he
 have z0:(start N (.ref a::vs))[0]? = some (some (V.ref a)):=rfl;refine⟨λb o e=>?_,s,?_,λj d he=>?_,λj d he=>?_,λj k d e b hj hk _ _=>?_,λb o e=>?_,λi b h=>?_⟩
 ·have e':(if b=a then none else BJ H F b)=some o:=e;split at e'
  ·cases e'
  ·exact(HQ e').1
 ·unfold Am L2.start;simp only[Qqy,Qqx,Qqv,Qx4,p.length,Qq8];omega
 ·rcases un j _ he with ⟨_,z⟩|⟨i,d',rfl,z,hd⟩
  ·cases z
  ·cases z;obtain⟨v,h1,h2⟩:=p.get hd;refine⟨v,?_,h2⟩;unfold L2.start;rw[Qq8,List.cons_append,List.getElem?_cons_succ,Qw3 (by rw[Qqv];exact(Qqw.mp h1).1),Qw5,h1]
   rfl
 ·rcases un j _ he with ⟨rfl,z⟩|⟨i,d',rfl,z,hd⟩
  ·cases z;exact⟨a,z0,ho,hF,if_pos rfl⟩
  ·cases z
 ·rcases un j _ hj with ⟨rfl,_⟩|⟨i,d',rfl,z,_⟩
  ·rcases un k _ hk with ⟨rfl,_⟩|⟨i,d',rfl,z,_⟩
   ·rfl
   ·cases z
  ·cases z
 ·show(if b=a then none else BJ H F b)=none;split
  ·rfl
  ·unfold BJ;rw[e];rfl
 ·have h':(if i=0 then some a else none)=some b:=h;split at h'
  ·rename_i hi;cases h';rw[hi];exact z0
  ·cases h'
theorem abY{y:Str}{qs:List Str}(F:Qp K x qual st f fd)(S:bF N (y::qs) (aK st))
  (hb:∀(cdv:Value) (A:Around) (outer:List PySem.Env) (s:Shared) (H:Hp) (E:XK) (a:Addr),gm k (A.deeper (envOfC qual (aK st) s.heap.objs.size f cdv))->sE (bx P w K mg base N qual st f cdv A outer s H E) (C1 K a) (cI st) ev) :
  lX P w K mg base yc (k+1) f fd (y::qs) (yX K (qs.length+1) (mV N.length ev)):=by
 refine F.ok S (λvs H Q E h=>?_) (λcdv A outer s H vs Q E hr h=>?_)
 ·obtain⟨F0,a,r,z,ds,d,z',rfl,hl,_,_,_,p,_⟩:=h;rw[Qqy,Qqy,p.length];exact hl
 ·obtain⟨F0,a,r,z,ds,d,z',rfl,hl,sF,hFa,ho,p,e,q⟩:=h;refine⟨_,hb cdv A outer s H E a hr,_,F0,Am N.length z ds,Hl sF hFa ho p,?_⟩;have fin:∀(env':Env) (σ':L2.St) (H' F':Hp) (v:V) (d:D) (z':D),env'[0]? = some (some (true,z'))->Rel (C1 K a) (λb=>if b=a then none else BJ H F0 b) F' env' σ' H'->aO F0 F'->Rep K F' d v->(∀v H' F',(∀b o,b≠a->H b=some o->H' b=some o)->aO F' H'->aO F0 F'->(∀b o,F' b=some o->F0 b=some o\/H b=none)->j4 K F' H' z' a->Rep K F' d v->Q v H')->Q v H':=λenv' σ' H' F' v d z' h0 r' s' p' q=>by
   obtain⟨b,g1,g2,g3,g4⟩:=r'.own 0 z' h0;have g5:=r'.fix 0 a rfl;rw[g1] at g5;cases g5;refine q v H' F' (λc o hc e=>?_) r'.fr s' (λc o e=>?_) g2 p'
   ·cases u:F0 c with
    | none=>exact r'.pr c o (by show(if c=a then none else BJ H F0 c)=some o;rw[if_neg hc];unfold BJ;rw[u];exact e)
    | some w=>
     have:=sF c w u;rw[e] at this;cases this;exact r'.fr c o (s' c o u)
   ·by_cases hc:c=a
    ·subst hc;rw[g3] at e;cases e
    ·have h1:=r'.dj c o e;have h1':(if c=a then none else BJ H F0 c)=none:=h1;rw[if_neg hc] at h1';rcases zN h1' with u|⟨w,u⟩
     ·exact .inr u
     ·have:=s' c w u;rw[e] at this;cases this;exact .inl u
  unfold mV at e;simp only at e;split at e
  ·rename_i d' env' h1;split at e
   ·rename_i z1 h0;cases e;rw[h1];exact λv σ' H' F' r' s' p'=>fin env' σ' H' F' v _ _ h0 r' s' p' q
   ·cases e
  ·rename_i env' h1;split at e
   ·rename_i z1 h0;cases e;rw[h1];exact λσ' H' F' r' s'=>fin env' σ' H' F' .non .non _ h0 r' s' rfl q
   ·cases e
  ·cases e
end
structure Good(X:Cx)(C:Cfg):Prop where
 K:X.K=C.K
 calm:X.calm=true
 un:X.A.units+64<cLine
theorem Good.u1{X:Cx}{C:Cfg}(G:Good X C):X.A.units+1<cLine:=Qw2 (Nat.add_le_add_left (by decide:1<=64) _) G.un
theorem Good.u60{X:Cx}{C:Cfg}(G:Good X C):X.A.units+60<cLine:=Qw2 (Nat.add_le_add_left (by decide:60<=64) _) G.un
theorem Good.u61{X:Cx}{C:Cfg}(G:Good X C):X.A.units+61<cLine:=Qw2 (Nat.add_le_add_left (by decide:61<=64) _) G.un
theorem Good.at{X X':Cx}{C:Cfg}{scope:Scope}{N':List Str}(G:Good X C)(h:jV X scope N' X'):Good X' C:=by obtain⟨_,_,_,_,_,rfl⟩:=h;exact⟨G.K,G.calm,G.un⟩
def Own(P:Program)(w:World)(K:Fg)(mg:Str->Option Value)(base:Heap)(x:Str)(k:Nat)(ps:List Str)(sp:Sp):Prop:=
 ∃f fd,lX P w K mg base yc k f fd ps sp/\mg x=some (.ref f)/\PySem.W.keepIn K (.ref f)=true/\Binds K fd ps []
def Glb(K:Fg)(mg:Str->Option Value)(x:Str)(d:D):Prop:=∃v u,mg x=some u/\RelV v u/\∀F,Rep K F d v
def dH(K:Fg)(mg:Str->Option Value)(x:Str)(st:Stmt)(ps:List Str):Prop:=∃f fd,Qp K x x st f fd/\mg x=some (.ref f)/\Binds K fd ps []
def jN:List Str->Bool
 | []=>true
 | x::r=>!(r.contains x)&&jN r
theorem gA:∀{l:List Str},jN l=true->l.Nodup
 | [],_=>.nil
 | x::r,h=>by
  have h':(!(r.contains x)&&jN r)=true:=h;rw[Qzx] at h';refine Qxj.mpr ⟨λhm=>?_,gA h'.2⟩;have:r.contains x=true:=List.contains_iff_mem.mpr hm;rw[this] at h';exact absurd h'.1 (by decide)
def M7(outer:List (Str×NameKind)):List (Str×NameKind)->Bool
 | []=>true
 | (n,k)::r=>(!decide (k = .free)||decide (outer.lookup n=some .cell)||decide (outer.lookup n=some .free))&&M7 outer r
theorem Iu{outer:List (Str×NameKind)}:∀{l:List (Str×NameKind)},M7 outer l=true->∀x∈l,x.2 = .free->outer.lookup x.1=some .cell\/outer.lookup x.1=some .free
 | [],_,x,hx,_=>by simp at hx
 | (n,k)::r,h,x,hx,hf=>by
  have h':((!decide (k = .free)||decide (outer.lookup n=some .cell)||decide (outer.lookup n=some .free))&&M7 outer r)=true:=h;rw[Qzx,Bool.or_eq_true,Bool.or_eq_true] at h';rcases Qq4.mp hx with rfl|hx
  ·rcases h'.1 with (z|z)|z
   ·have hf':k = .free:=hf;rw[Qw4 hf'] at z;exact absurd z (by decide)
   ·exact .inl (Qw8 z)
   ·exact .inr (Qw8 z)
  ·exact Iu h'.2 x hx hf
theorem pU{X:Cx}{scope:Scope}{N':List Str}(h1:scope.kind = .function:=by rfl)(h2:jN (scope.names.map (·.1))=true:=by rfl)(h3:M7 X.env.scope.names scope.names=true:=by rfl)(h4:Up scope.names N' X.N=true:=by rfl)(h5:Nat.ble X.N.length N'.length=true:=by rfl):m9 X scope N':=
 ⟨h1,gA h2,Iu h3,h4,Qzq h5⟩
section
variable{X:Cx}{C:Cfg}{pos p px:Pos}{x y z:Expr}{a b c:Ev}{t u:gn}{i:Nat}{n:Str}
structure Bi(X:Cx)(C:Cfg)(op:Operator)(g:D->D->Option D):Prop where
 ex:∃r,mF X (binaryOp op) r/\o9 C r g
structure Cm(X:Cx)(C:Cfg)(op:CmpOp)(g:D->D->Option D):Prop where
 ex:∃r,mF X (compareOp op) r/\o9 C r g
theorem j0(G:Good X C):Bi X C .Add dD:=⟨_,WQ,by rw[G.K];exact aa9⟩
theorem aeI:Bi X C .Sub KH:=⟨_,aaF,aaX⟩
theorem Uy:Bi X C .Mult ue:=⟨_,WM,aa1⟩
theorem aeK:Bi X C .Mod abL:=⟨_,aaK,aa2⟩
theorem Y9:Bi X C .Pow KJ:=⟨_,aaI,aa0⟩
theorem aeJ:Bi X C .LShift PN:=⟨_,aaH,aaZ⟩
theorem Y8:Bi X C .RShift BV:=⟨_,aaG,aaY⟩
theorem Zc:Bi X C .BitAnd Fz:=⟨_,aaT,aa8⟩
theorem um(G:Good X C):Cm X C .Eq rm:=⟨_,aaR G.u60,by rw[G.K];exact adY⟩
theorem XR(G:Good X C):Cm X C .NotEq PQ:=⟨_,aaJ G.u60,by rw[G.K];exact adS⟩
theorem agC(G:Good X C):Cm X C .In gIn:=⟨_,aaQ G.u61,by rw[G.K];exact adW⟩
theorem Qj:Cm X C .Is Fy:=⟨_,aaN,adV⟩
theorem vq:Cm X C .IsNot iU:=⟨_,O5,Sw⟩
theorem ab6:Cm X C .Lt P0:=⟨_,aaL,adT⟩
theorem agB:Cm X C .LtE gLe:=⟨_,adP,adU⟩
theorem agD:Cm X C .Gt gGt:=⟨_,adQ,adX⟩
variable{e:Expr}{es:List Expr}{ea:eN}
theorem len0:∀(env:Env) (ds:List D) (env':Env),ak env = .ok ds env'->ds.length=0:=Qa
theorem aY{a:Ev}{r:eN}{m:Nat}(hr:∀env ds env',r env = .ok ds env'->ds.length=m):∀(env:Env) (ds:List D) (env':Env),aa a r env = .ok ds env'->ds.length=m+1:=K3 hr
theorem jY{r:eN}{m:Nat}(hr:∀env ds env',r env = .ok ds env'->ds.length=m):∀(env:Env) (ds:List D) (env':Env),r env = .ok ds env'->ds.length+1=m+1:=λenv ds env' h=>by rw[hr env ds env' h]
theorem af1{elt tg iter:Expr}{ifs:List Expr}{scope:Scope}(N':List Str){it:eN}{g:GV}{cc:gn}{ee:Ev}(lo:Nat)(ok:m9 X scope N')(G:Good X C)(hi:Zo X C tg iter it)
  (bg:∀X',jV X scope N' X'->Yi X' C lo tg g) (bc:∀X',jV X scope N' X'->Qm X' C ifs cc) (be:∀X',jV X scope N' X'->PX X' C elt ee)
  (hs:∀x,foldedSetIterable iter X.env x=pure x:=by intro _;rfl):Vl X C (.ListComp elt [⟨tg,iter,ifs,0⟩] scope pos) (iZ lo N'.length it g cc ee):=Z8 N' lo ok G.calm hi bg bc be hs
theorem afR{elt tg iter:Expr}{ifs:List Expr}{scope:Scope}(N':List Str){spos py:Pos}{it:eN}{g:GV}{cc:gn}{ee:Ev}(lo:Nat)(i:Nat)(ok:m9 X scope N')(G:Good X C)(hi:Zo X C tg iter it)
  (bg:∀X',jV X scope N' X'->Yi X' C lo tg g) (bc:∀X',jV X scope N' X'->Qm X' C ifs cc) (be:∀X',jV X scope N' X'->PX X' C elt ee)
  (hnd:jN X.N=true:=by rfl) (hfx:C.fx i=none:=by rfl) (hy:X.N[i]? = some n:=by rfl) (hx:Loc X.env.scope n:=by first|exact Or.inl rfl|exact Or.inr rfl)
  (hsw:swapsWith (.ListComp elt [⟨tg,iter,ifs,0⟩] scope pos) (some (.Name n py)) spos.line X.env=pure true:=by rfl)
  (hf:X.fn n=true\/X.env.scope.names.lookup n=some .local:=by first|exact .inl rfl|exact .inr rfl)
  (hs:∀x,foldedSetIterable iter X.env x=pure x:=by intro _;rfl):Vk X C (.Assign [.Name n py] (.ListComp elt [⟨tg,iter,ifs,0⟩] scope pos) spos) (dq i (iZ lo N'.length it g cc ee)):=Oq N' lo ok G.calm hi bg bc be (gA hnd) hy hx hfx hsw hf hs
end
section
variable{P:Program}{w:World}{K:Fg}{mg:Str->Option Value}{base:Heap}{x:Str}{st:Stmt}{N ps:List Str}{k:Nat}{ev:bU}
theorem yL{x:Str}{f:Addr}{cdv:Value}{A:Around}{outer:List PySem.Env}{s:Shared}{H:Hp}{E:XK}{C:Cfg}(hC:C.K=K)(hr:gm k (A.deeper (envOfC x (aK st) s.heap.objs.size f cdv))):Good (bx P w K mg base N x st f cdv A outer s H E) C:=⟨hC.symm,rfl,hr.units⟩
theorem cL(F:dH K mg x st ps)(S:bF N ps (aK st))
  (hb:∀(f:Addr) (cdv:Value) (A:Around) (outer:List PySem.Env) (s:Shared) (H:Hp) (E:XK),gm k (A.deeper (envOfC x (aK st) s.heap.objs.size f cdv))->Good (bx P w K mg base N x st f cdv A outer s H E) (C0 K)->sE (bx P w K mg base N x st f cdv A outer s H E) (C0 K) (cI st) ev) :
  Own P w K mg base x (k+1) ps (lC K ps.length (bW N.length ev)):=by
 obtain⟨f,fd,h1,h2,h3⟩:=F;exact⟨f,fd,Ul h1 S λcdv A outer s H E hr=>hb f cdv A outer s H E hr (yL rfl hr),h2,h1.kp,h3⟩
theorem Wz(F:dH K mg x st ps)(S:bF N ps (aK st))
  (hb:∀(f:Addr) (cdv:Value) (A:Around) (outer:List PySem.Env) (s:Shared) (H:Hp) (E:XK),gm k (A.deeper (envOfC x (aK st) s.heap.objs.size f cdv))->Good (bx P w K mg base N x st f cdv A outer s H E) (C0 K)->sE (bx P w K mg base N x st f cdv A outer s H E) (C0 K) (cI st) ev) :
  Own P w K mg base x (k+1) ps (ZX K ps.length (runN N.length ev)):=by
 obtain⟨f,fd,h1,h2,h3⟩:=F;exact⟨f,fd,Xz h1 S λcdv A outer s H E hr=>hb f cdv A outer s H E hr (yL rfl hr),h2,h1.kp,h3⟩
theorem zF{y:Str}{qs:List Str}(F:dH K mg x st (y::qs))(S:bF N (y::qs) (aK st))
  (hb:∀(f:Addr) (cdv:Value) (A:Around) (outer:List PySem.Env) (s:Shared) (H:Hp) (E:XK) (a:Addr),gm k (A.deeper (envOfC x (aK st) s.heap.objs.size f cdv))->Good (bx P w K mg base N x st f cdv A outer s H E) (C1 K a)->sE (bx P w K mg base N x st f cdv A outer s H E) (C1 K a) (cI st) ev) :
  Own P w K mg base x (k+1) (y::qs) (yX K (qs.length+1) (mV N.length ev)):=by
 obtain⟨f,fd,h1,h2,h3⟩:=F;exact⟨f,fd,abY h1 S λcdv A outer s H E a hr=>hb f cdv A outer s H E a hr (yL rfl hr),h2,h1.kp,h3⟩
theorem iC{sc:Scope}(h1:sc.kind = .function:=by rfl)(h2:sc.isCoroutine=false:=by rfl)(h3:sc.isGenerator=false:=by rfl)(h4:jN N=true:=by rfl)(h5:N.take ps.length=ps:=by rfl)
  (h6:(ps.all λx=>decide (sc.names.lookup x=some .local)||decide (sc.names.lookup x=some .cell))=true:=by rfl) (h7:(sc.names.all λy=>!decide (y.2 = .free))=true:=by rfl):bF N ps sc:=by
 refine⟨h1,h2,h3,gA h4,h5,λx hx=>?_,λy hy z=>?_⟩
 ·have:=Qx7.mp h6 x hx;rw[Bool.or_eq_true] at this;rcases this with z|z
  ·exact .inl (Qw8 z)
  ·exact .inr (Qw8 z)
 ·have:=Qx7.mp h7 y hy;rw[Qw4 z] at this;exact absurd this (by decide)
end
open PySem PySem.Spec PySem.W PySem.Calls PyProof.Rows L2
theorem xn:∀(ns:List Int) (i:Int),i∈ns->Builtin.Int.intBits i<=WData.weightAll (ns.map WData.int)
 | [],_,h=>by simp at h
 | n::ns,i,h=>by
  rw[Qq8,WData.weightAll];rcases Qq4.mp h with rfl|h
  ·have e:WData.weight (.int i)=Builtin.Int.intBits i:=by rw[WData.weight];rfl
   rw[e];omega
  ·have:=xn ns i h;omega
def Qq(ns:List Int):Prop:=∀i∈ns,Builtin.Int.intBits i<=2^20
theorem Gh{l:OpenLaw}{n:Nat}{q:Program}{loose:List Str}{XP:(Str->Option Value)->Heap->Prop}{YP:World->Heap->Prop}{d:DefRec}
  (hn:l.most=some n) (hdf:d.params.defaults=[])
  (call:∀(w:World) (s₀ s₁:Shared) (mg mb:Str->Option Value) (fa:Addr) (o:Obj) (pm cd doc:Value) (a:Addr) (vs:List Value) (ns:List Int),
   Ground q loose [] XP w s₀ mg mb s₁.heap->YP w s₁.heap->
   s₁.heap.get? fa=some o->o.data = .func (docDef d.name d.params d.body d.scope pm cd doc)->s₁.heap.CodeRec cd d.name->mg d.name=some (.ref fa)->
   s₁.heap.get? a=some { cls:=.type "list",data:=.seq vs.toArray }->IntsAre vs ns->ns.length<=n->Qq ns->s₁.gens = #[]->
   codeAny (model l.prog w) callerA (.call (.ref fa) ⟨[.ref a],[]⟩) (λr s'=>r = .ok (.ret (.bool true))/\OldK s₁.heap s'.heap/\s'.os=s₁.os/\AllBare s'.gens) s₁) :
  WalkO q loose XP YP l.row.toRowW d [] (λf vs=>PySem.call f vs):=by
 intro w s₀ s₁ mg mb G Y fa o pm cd doc dV kV ho hd hcd hD hmg hg args vals as hpre hlay hrd hwl hlo;obtain rfl:dV = .none:=Dflts.none hD hdf;obtain rfl:kV = .none:=Dflts.noKw hD;obtain⟨a,vs,ns,rfl,rfl,hobj,hints,hlen⟩:=Att.Oi hn hpre hwl;have T6:Qq ns:=λi hi=>by
  have h1:=(layableW_iff.mp (layableW_arg hlay _ (Qqk.mpr rfl))).2.2;rw[WData.weight] at h1;exact Qq2 (xn ns i hi) h1
 refine enter_call (codeAny_mono (call w s₀ s₁ mg mb fa o pm cd doc a vs ns G Y ho (fd_plain hd) hcd hmg hobj hints hlen T6 hg) λr s' hq=>?_);obtain⟨rfl,h2,h3,h4⟩:=hq;exact⟨.inl ⟨.bool true,.bool true,[],rfl,λ_=>rfl,.bool true,Att.Ox l _,λ_=>⟨List.Pairwise.nil,λ_ hm=>(nomatch hm)⟩⟩,h2,h3,h4⟩
section
variable{K:Fg}{h:Heap}{mg:Str->Option Value}
theorem funAt{x:Str}{st:Stmt}{ps:List Str}{f:Addr}{oc:Value}{od an:Option Addr}{osl:Array (Option Value)}{kV doc pm cdv ct:Value}(X:K.In h)(G:h.Ns mainGlobals mg)
  (a:PySem.W.nsIn K mainGlobals x=some (some (.ref f))) (l:K.lookup f=some ⟨oc,od,.func (PySem.W.fnOf x x (f9 st) (cI st) (aK st) .none kV doc pm an cdv ct),osl⟩)
  (c:PySem.W.codeIn K cdv x=true) (k:PySem.W.keepIn K (.ref f)=true)
  (b:∀(kV doc pm:Value) (an:Option Addr) (cdv ct:Value) (us:List Value),us.length=ps.length->bindArgs (PySem.W.fnOf x x (f9 st) (cI st) (aK st) .none kV doc pm an cdv ct) ⟨us,[]⟩=pure (ps.zip us)):dH K mg x st ps:=
 ⟨f,_,Ab l c k,PySem.W.mg_of X G a,(Ab (st:=st) l c k).binds b⟩
theorem Xk{x s:Str}{z:List Nat}{t:Tok}(X:K.In h)(G:h.Ns mainGlobals mg)(a:PySem.W.nsIn K mainGlobals x=some (some (.str s t)))(hs:s=strOf z)(hz:z.length<=sizeLine):Glb K mg x (.str z):=
 ⟨.str s,_,PySem.W.mg_of X G a,⟨t,rfl⟩,λF=>⟨by rw[hs],hz⟩⟩
theorem yo{x:Str}(X:K.In h)(G:h.Ns mainGlobals mg)(e:PySem.W.nsIn K mainGlobals x=some none):mg x=none:=PySem.W.mg_none_of X G e
end
open PySem L2
theorem Iv{g:GV}{b:bU}(P:Env->Prop):∀(ds:List D),(∀d∈ds,∀env,P env->∃e1 e2,g d env=some e1/\b e1 = .nx e2/\P e2)->∀env,P env->∃e',gV g b ds env = .nx e'/\P e'
 | [],_,env,hp=>⟨env,rfl,hp⟩
 | d::ds,h,env,hp=>by
  obtain⟨e1,e2,h1,h2,h3⟩:=h d (Qqj ..) env hp;obtain⟨e',h4,h5⟩:=Iv P ds (λd' hd=>h d' (Qqq _ hd)) e2 h3;refine⟨e',?_,h5⟩;unfold gV;rw[h1];simp only;rw[h2];exact h4
theorem M8{g:GV}{b:bU}{all:List D}(P:List D->Env->Prop)(h:∀done d rest,all=done++d::rest->∀env,P done env->∃e1 e2,g d env=some e1/\b e1 = .nx e2/\P (done++[d]) e2):∀(ds done:List D),all=done++ds->∀env,P done env->∃e',gV g b ds env = .nx e'/\P all e'
 | [],done,ha,env,hp=>⟨env,rfl,by rw[ha,Qxx];exact hp⟩
 | d::ds,done,ha,env,hp=>by
  obtain⟨e1,e2,h1,h2,h3⟩:=h done d ds ha env hp;obtain⟨e',h4,h5⟩:=M8 P h ds (done++[d]) (by rw[Qx3];exact ha) e2 h3;refine⟨e',?_,h5⟩;unfold gV;rw[h1];simp only;rw[h2];exact h4
theorem mz{g:GV}{b:bU}(all:List D)(P:List D->Env->Prop)(h:∀done d rest,all=done++d::rest->∀env,P done env->∃e1 e2,g d env=some e1/\b e1 = .nx e2/\P (done++[d]) e2)(env:Env)(h0:P [] env):∃e',gV g b all env = .nx e'/\P all e':=M8 P h all [] rfl env h0
theorem az{a b:bU}{env e:Env}(h:a env = .nx e):aB a b env=b e:=by unfold aB;rw[h]
theorem ie{a b:bU}{env e:Env}{o:Bool}{d:D}(h:a env = .rt o d e):aB a b env = .rt o d e:=by unfold aB;rw[h]
theorem eU{it:eN}{g:GV}{b:bU}{env e:Env}{ds:List D}(h:it env = .ok ds e):gq it g b env=gV g b ds e:=by unfold gq;rw[h];rfl
theorem bI{a:Ev}{g:GV}{env e e':Env}{d:D}(h:a env = .ok d e)(h':g d e=some e'):aQ a g env = .nx e':=by unfold aQ;rw[h];show Th (g d e)=_;rw[h'];rfl
theorem gf{t:gn}{a b:bU}{env e:Env}(h:t env = .ok true e):eE t a b env=a e:=by unfold eE;rw[h];rfl
theorem dU{t:gn}{a b:bU}{env e:Env}(h:t env = .ok false e):eE t a b env=b e:=by unfold eE;rw[h];rfl
theorem bD{a:Ev}{env e:Env}{d:D}(h:a env = .ok d e):bw a env = .rt false d e:=by unfold bw;rw[h];rfl
theorem aF{g:List D->Option D}{a:eN}{env e:Env}{ds:List D}{d:D}(h:a env = .ok ds e)(h':g ds=some d):aq g a env = .ok d e:=by unfold aq;rw[h];show iT (g ds) e=_;rw[h'];rfl
theorem bH{g:D->D->Option D}{a b:Ev}{env e1 e2:Env}{x y d:D}(h1:a env = .ok x e1)(h2:b e1 = .ok y e2)(h3:g x y=some d):aP g a b env = .ok d e2:=by
 unfold aP;rw[h1];show bindR (b e1) _=_;rw[h2];show iT (g x y) e2=_;rw[h3]
 rfl
theorem bA{g:D->D->Option D}{i:Nat}{b:Ev}{env e2:Env}{x y d:D}{o o':Bool}{x0:D}(h1:env[i]? = some (some (o',x0)))(h2:b env = .ok y e2)(h4:e2[i]? = some (some (o,x)))(h3:g x y=some d):aA g i b env = .ok d e2:=by
 unfold aA;rw[h1];show bindR (b env) _=_;rw[h2];show(match e2[i]? with|some (some (_,x))=>iT (g x y) e2|_=>.stuck)=_;rw[h4];show iT (g x y) e2=_;rw[h3]
 rfl
theorem aJ{a:Ev}{r:eN}{env e1 e2:Env}{d:D}{ds:List D}(h1:a env = .ok d e1)(h2:r e1 = .ok ds e2):aa a r env = .ok (d::ds) e2:=by
 unfold aa;rw[h1];show bindR (r e1) _=_;rw[h2]
 rfl
theorem bK{env:Env}:ak env = .ok [] env:=rfl
theorem Iw{r:eN}{env e:Env}{ds:List D}(h:r env = .ok ds e)(hz:ds.length<=sizeLine):cC r env = .ok (.lst ds) e:=by unfold cC;rw[h];show(if ds.length<=sizeLine then _ else _)=_;rw[if_pos hz]
theorem cP{r:eN}{env e:Env}{ds:List D}(h:r env = .ok ds e)(hz:ds.length<=sizeLine):bY r env = .ok (.tup ds) e:=by unfold bY;rw[h];show(if ds.length<=sizeLine then _ else _)=_;rw[if_pos hz]
theorem nO{f:List D->Option (D×D)}{i:Nat}{a:eN}{env e1:Env}{ds:List D}{x0 x d x':D}(h0:env[i]? = some (some (true,x0)))(h1:a env = .ok ds e1)(h2:e1[i]? = some (some (true,x)))(h3:f (x::ds)=some (d,x')):fP f i a env = .ok d (e1.set i (some (true,x'))):=by unfold fP;rw[h0];show bindR (a env) _=_;rw[h1];show(match e1[i]? with|some (some (true,x))=>(match f (x::ds) with|some (d,x')=>R.ok d (e1.set i (some (true,x')))|none=>R.stuck)|_=>R.stuck)=_;rw[h2];show(match f (x::ds) with|some (d,x')=>R.ok d (e1.set i (some (true,x')))|none=>.stuck)=_;rw[h3]
theorem M6{i j:Int}(h:kZ i j=true):ue (.int i) (.int j)=some (.int (i*j)):=by show gI kZ (λi j=>D.int (i*j)) (.int i) (.int j)=_;unfold gI;simp only;rw[if_pos h]
theorem Ir{a b:List D}(h:a.length+b.length<=sizeLine):dD (.lst a) (.lst b)=some (.lst (a++b)):=by show(if a.length+b.length<=sizeLine then _ else _)=_;rw[if_pos h]
theorem cU{a:Ev}{env e:Env}{b:Bool}(h:a env = .ok (.bl b) e):dg a env = .ok b e:=by unfold dg;rw[h];rfl
theorem qu{i:Nat}{a:Ev}{env e:Env}{d:D}(h:a env = .ok d e):dq i a env = .nx (e.set i (some (true,d))):=by unfold dq;rw[h];rfl
theorem pQ{a:Ev}{env e:Env}{d:D}{ds:List D}(h:a env = .ok d e)(h':itD d=some ds):iH a env = .ok ds e:=by unfold iH;rw[h];show iT (itD d) e=_;rw[h'];rfl
theorem mU{n:Nat}{ev:bU}{x d x':D}{r:List D}{env:Env}(h:ev (Am n x r) = .rt false d env)(h0:env[0]? = some (some (true,x'))):mV n ev (x::r)=some (d,x'):=by unfold mV;simp only;rw[h];simp only;rw[h0]
theorem bO{n:Nat}{ev:bU}{d:D}{ds:List D}{env:Env}(h:ev (envOf n ds) = .rt false d env):bW n ev ds=some d:=by unfold bW;rw[h]
theorem Ue{a b:Ev}{env e:Env}(h:a env = .ok (.bl true) e):oG a b env = .ok (.bl true) e:=by unfold oG;rw[h];rfl
theorem KZ{a b:Ev}{env e:Env}(h:a env = .ok (.bl false) e):oG a b env=b e:=by unfold oG;rw[h];rfl
theorem Xu{a b:gn}{env e:Env}(h:a env = .ok false e):lA a b env=b e:=by unfold lA;rw[h];rfl
theorem Dj{a:gn}{env e:Env}{b:Bool}(h:a env = .ok b e):pP a env = .ok (!b) e:=by unfold pP;rw[h];rfl
theorem yH{g:GV}{e:Ev}(P:Env->Prop)(f:D->D):∀(ds:List D) (env:Env),P env->(∀d∈ds,∀env,P env->∃e1 e2,g d env=some e1/\e e1 = .ok (f d) e2/\P e2)->∃env',Kv g gG e ds env = .ok (ds.map f) env'/\P env'
 | [],env,hp,_=>⟨env,rfl,hp⟩
 | d::ds,env,hp,h=>by
  obtain⟨e1,e2,h1,h2,h3⟩:=h d (Qqj ..) env hp;obtain⟨e3,h4,h5⟩:=yH P f ds e2 h3 λd' hd=>h d' (Qqq _ hd);refine⟨e3,?_,h5⟩;unfold Kv;rw[h1];show bindR (e e1) _=_;rw[h2];show bindR (Kv g gG e ds e2) _=_;rw[h4]
  rfl
theorem vf{lo n:Nat}{it:eN}{g:GV}{c:gn}{e:Ev}{env aL fG:Env}{ds ys:List D}(h1:it env = .ok ds aL)(hl:aL.length=lo)(h2:Kv g c e ds (aL++List.replicate (n - lo) none) = .ok ys fG)(hz:ys.length<=sizeLine):iZ lo n it g c e env = .ok (.lst ys) (fG.take lo):=by unfold iZ;rw[h1];show(if aL.length=lo then _ else _)=_;rw[if_pos hl,h2];show(if ys.length<=sizeLine then _ else _)=_;rw[if_pos hz]
theorem dig(n:Int)(m:Nat)(hm:0<m):∃d:Nat,d<m/\n % (m:Int)=(d:Int):=by have h1:0<=n % (m:Int):=Int.emod_nonneg n (by omega);have h2:n % (m:Int)<m:=Int.emod_lt_of_pos n (by omega);exact⟨(n % (m:Int)).toNat,by omega,by omega⟩
theorem Lb{α:Type}{xs:List α}{d:Nat}(h:d<xs.length):xj xs (d:Int)=some xs[d]:=lq (Qwz h)
end Ev
namespace L2
open PySem PySem.Spec PyProof.Rows
section
variable{X:Cx}{pins:List (Addr×Obj)}{σ:St}{H:Hp}{s:Shared}{h':Heap}
theorem Inv.drawn{t':Nat}{ch:List Addr}{T:Addr}{o:HO}(I:Inv X pins σ H s)(hch:∀b∈ch,uq X pins H b)(k:∀b u,b ∉ ch->s.heap.get? b=some u->h'.get? b=some u)(hT:s.heap.objs.size<=T)
  (new:gr X.prog X.w (upd H T o) h' T o):Inv X pins σ (upd H T o) { s with heap:=h',toks:=t' }:=by
 have nT:H T=none:=I.hok.fresh hT;have YL:∀b u,H b=some u->b ∉ ch:=λb u e z=>by rw[(hch b z).1] at e;cases e
 have up:∀b u,H b=some u->upd H T o b=some u:=λb u e=>by rw[bG (cV e nT)];exact e
 refine I.step (g':=s.gens) (d':=s.drawn) (ch:=ch) (λb hb=>?_) (λb u _ _ hc e _=>k b u hc e) (λb u _ _ hc e _=>⟨u.slots,k b u hc e⟩) (λb u hc e n=>?_)
  (λb u hc e=>⟨u,k b u hc e⟩) (λb xs e=>up b _ e) (λb u v e=>up b _ e) (λb ps e=>⟨#[],by rw[up b _ e];simp⟩) (λm hm=>?_) (λb u e=>?_) I.bare (λb qs e=>up b _ e)
 ·obtain⟨h0,h1,h2,h3,h4,h5⟩:=hch b hb;exact⟨h3,h1,h4,h5⟩
 ·have hb:b≠T:=λz=>by
   subst z;exact absurd (Qq9 e) (Nat.not_lt.mpr hT)
  rw[bG hb];exact n
 ·obtain⟨u,es,ep,ho,r⟩:=hm;have hL:X.env.locals ∉ ch:=λz=>(hch _ z).2.1 rfl;exact⟨u,es,ep,k _ u hL ho,r⟩
 ·by_cases hb:b=T
  ·subst hb;rw[aW] at e;cases e;exact new
  ·rw[bG hb] at e;refine(I.hok b u e).stay (λc v hc q=>k c v ?_ q) (λc q=>up _ _ q) (λc xs q=>up _ _ q) λc _ _ _ _ q=>up _ _ q;rcases hc with z|z
   ·rw[z];exact YL b u e
   ·exact YL c _ z
theorem Inv.Lx{t':Nat}{ch:List Addr}(I:Inv X pins σ H s)(hch:∀b∈ch,uq X pins H b)(k:∀b u,b ∉ ch->s.heap.get? b=some u->h'.get? b=some u):Inv X pins σ H { s with heap:=h',toks:=t' }:=by
 have YL:∀b u,H b=some u->b ∉ ch:=λb u e z=>by rw[(hch b z).1] at e;cases e
 refine I.step (g':=s.gens) (d':=s.drawn) (ch:=ch) (λb hb=>?_) (λb u _ _ hc e _=>k b u hc e) (λb u _ _ hc e _=>⟨u.slots,k b u hc e⟩) (λb u hc e n=>n)
  (λb u hc e=>⟨u,k b u hc e⟩) (λb xs e=>e) (λb u v e=>e) (λb ps e=>⟨#[],by rw[e];simp⟩) (λm hm=>?_) (λb u e=>?_) I.bare
 ·obtain⟨h0,h1,h2,h3,h4,h5⟩:=hch b hb;exact⟨h3,h1,h4,h5⟩
 ·obtain⟨u,es,ep,ho,r⟩:=hm;have hL:X.env.locals ∉ ch:=λz=>(hch _ z).2.1 rfl;exact⟨u,es,ep,k _ u hL ho,r⟩
 ·refine(I.hok b u e).stay (λc v hc q=>k c v ?_ q) (λ_ q=>q) λ_ _ q=>q;rcases hc with z|z
  ·rw[z];exact YL b u e
  ·exact YL c _ z
end
def Ite(z:Str):It:=⟨λi _=>i<z.cps.size,λi H x H'=>∃p c,z.cps[i]? = some c/\H p=none/\H'=upd H p (.tup [.int i,.str ⟨#[c]⟩])/\x = .ref p,λi _=>i=z.cps.size⟩
theorem Cp{P:Program}{w:World}{K:PySem.W.Frag}{elts:List Expr}{k:Nat}{pos:Pos}(e it:Addr)(z:Str)(t:Tok)(ty:String)(hei:e≠it)
  (D:∀A:Around,A.handled=none->Draws P w A it [it] z.cps.size (λi v=>∃c u,z.cps[i]? = some c/\v = .str ⟨#[c]⟩ u) (λi h=>h.IsStrIter it ty z t i)) :
  Turn P w K (.Tuple elts k pos) (Ite z) [e,it] e (λi h=>(∃old,IsEnum h e it i old)/\h.IsStrIter it ty z t i) where
 mem:=by simp
 obj:=λi h st b hb=>by
  obtain⟨⟨old,he⟩,o,ho,hc,hd⟩:=st;rcases Qq4.mp hb with rfl|hb
  ·exact⟨_,he,λv z=>by cases z⟩
  ·rw[Qqk.mp hb];exact⟨o,ho,λv z=>by rw[hd] at z;cases z⟩
 keep:=λi h h' st kk=>by
  obtain⟨⟨old,he⟩,o,ho,r⟩:=st;exact⟨⟨old,kk e (by simp) _ he⟩,o,kk it (by simp) o ho,r⟩
 item:=by
  intro X hP hw hK hc i pins s σ H E I hf st hg;subst hP hw hK;obtain⟨⟨old,he⟩,hit⟩:=st;refine wpAny_pyNext_enum_itemD (A:=X.A) (D X.A.in1 (I.ok.hd hc)) he hit hg hei (by simp[hei]) λx h' tk hv ho hSt agj hsz hk=>?_;obtain⟨c,u,hcz,rfl⟩:=hv;have hT:s.heap.objs.size<=s.heap.objs.size:=Qq1 _;have helt:e<s.heap.objs.size:=Qq9 he;have hilt:it<s.heap.objs.size:=by obtain⟨_,x,_⟩:=hit;exact Qq9 x
  have nT:H s.heap.objs.size=none:=I.hok.fresh hT;refine⟨_,rfl,?_⟩;refine wpAny_letOwnedTupleGo_enum (s:={ s with heap:=h',toks:=tk+1 }) ho λh'' agf hs''=>?_;have sJ:∀b o,b≠e->h'.get? b=some o->h''.get? b=some o:=λb o hb q=>(hs''.2 b hb).trans q;have hnT:s.heap.objs.size ∉ [e,it]:=λhb=>by
   rcases Qq4.mp hb with z|hb
   ·exact Qjk helt z
   ·exact Qjk hilt (Qqk.mp hb)
  refine⟨.ref s.heap.objs.size,upd H s.heap.objs.size (.tup [.int i,.str ⟨#[c]⟩]),I.drawn (t':=tk+1) (ch:=[e,it]) hf (λb o hb q=>sJ b o (λz=>hb (by simp[z])) (hk b o (λz=>hb (by simp[z])) (λz=>hb (by simp[z])) q)) hT ?_,rfl,⟨_,c,hcz,nT,rfl,rfl⟩,⟨⟨_,by simpa using agf⟩,?_⟩,λb hb=>?_⟩
  ·exact⟨by show 2<=sizeLine;decide,[.int i tk,.str ⟨#[c]⟩ u],.cons ⟨_,rfl⟩ (.cons ⟨_,rfl⟩ .nil),_,sJ _ _ (Qjk helt) agj,rfl,⟨_,rfl⟩,rfl⟩
  ·obtain⟨o,q,r⟩:=hSt;exact⟨o,sJ it o hei.symm q,r⟩
  ·have hne:b≠s.heap.objs.size:=λz=>by
    subst z;exact hnT hb
   rw[bG hne];exact(hf b hb).1
 done:=by intro X hP hw hK hc i pins s σ H E I hf st hg;subst hP hw hK;have W:=WalksT.enumerateD (A:=X.A) (D X.A.in1 (I.ok.hd hc)) e hei (by simp[hei]) (by simp);have hg':i=z.cps.size:=hg;subst hg';exact W.done s _ _ st λh' tk hk=>⟨rfl,I.Lx (t':=tk) (ch:=[e,it]) hf λb o hb e=>hk b o hb e⟩
 self:=λA i s Q E st h=>by
  obtain⟨⟨old,he⟩,_⟩:=st;exact wpAny_pyIter_enum he h
section
variable{X:Cx}{tg:Expr}
def aeh(ta:TA):TI:=λσ H R=>ta σ H λvs H1=>∃z,vs=[.str z]/\R (Ite z) H1
theorem Ws{elts:List Expr}{k:Nat}{tp:Pos}{a:Expr}{ta:TA}{p pos:Pos}(hg:Gl X "enumerate")(hm:X.mg "enumerate" = none)(ha:PA X [a] ta)(hs:starEach [a] X.env=[(false,eval a X.env)]:=by rfl):PI X (.Tuple elts k tp) (.Call (.Name "enumerate" p) [a] [] pos) (aeh ta):=by
 intro pins s σ H R I h;refine Call_ (wI I hg hm PyProof.Rows.boot_enumerate (Qj0 (fK (ha pos pins s σ H _ I h) λus s1 ⟨vs,H1,I1,r1,q1⟩=>?_) hs rfl));obtain⟨z,e,q⟩:=q1;subst e;cases r1 with
 | cons r rr=>
  cases rr;obtain⟨t,rfl⟩:=r;refine call_enumerate_str λh' he hit hsz hk=>?_;refine wpAny_pyIter_enum he ?_;have I2:Inv X pins σ H1 { s1 with heap:=h' }:=I1.kept (t':=s1.toks) hk;have own:∀b ∈ [s1.heap.objs.size+1,s1.heap.objs.size],uq X pins H1 b:=λb hb=>by
   rcases Qq4.mp hb with rfl|hb
   ·exact I1.Ub (Nat.le_succ _) (I1.hok.fresh (Nat.le_succ _))
   ·rw[Qqk.mp hb];exact I1.Ub (Qq1 _) (I1.hok.fresh (Qq1 _))
  cases hz:z.cps.all (·< 128)
  ·have hit':h'.IsStrIter s1.heap.objs.size "str_iterator" z t 0:=by simpa[strIterType,hz] using hit
   exact⟨s1.heap.objs.size+1,[s1.heap.objs.size+1,s1.heap.objs.size],_,_,H1,rfl,I2,Cp _ _ z t "str_iterator" (Nat.succ_ne_self _) (λA hA=>Draws.strWide hA _ z t),⟨⟨_,he⟩,hit'⟩,own,q⟩
  ·have hit':h'.IsStrIter s1.heap.objs.size "str_ascii_iterator" z t 0:=by simpa[strIterType,hz] using hit
   exact⟨s1.heap.objs.size+1,[s1.heap.objs.size+1,s1.heap.objs.size],_,_,H1,rfl,I2,Cp _ _ z t "str_ascii_iterator" (Nat.succ_ne_self _) (λA hA=>Draws.strAscii hA _ z t),⟨⟨_,he⟩,hit'⟩,own,q⟩
end
open PySem PySem.Spec PyProof.Rows PySem.Builtin PySem.Builtin.Str
section
variable{X:Cx}{pins:List (Addr×Obj)}{σ:St}{H:Hp}{s:Shared}{a:Addr}{xs:List V}
theorem Inv.ZK(I:Inv X pins σ H s)(h:mD X.K H a xs):∃its:List Value,Vals xs its/\BX s.heap a its.toArray:=by
 rcases h with h|⟨o,its,n,hk,hc,hdn,hs,hz,r⟩
 ·obtain⟨z,its,r,p⟩:=h.ok I.hok;exact⟨its,r,p⟩
 ·exact⟨its.toList,r,⟨o,I.Px a o hk,hc,⟨n,by simpa using hs⟩,hdn⟩⟩
end
section
variable{X:Cx}{o e:Expr}{to te:TE}{name:Str}{apos cpos:Pos}{id:String}{r:V->List V->Hp->VK->Prop}{t:TA}
def afE(te ts:TE):TE:=λσ H Q=>te σ H λx H1=>ts σ H1 λy H2=>∃z,x = .str z/\z.length<=sizeLine/\y = .int (-1)/\Q (.str ⟨z.cps.toList.reverse.toArray⟩) H2
theorem Ke(z:Str)(u:Tok):(⟨((slicePicked z none none (some (-1,u))).filterMap (z.cps[·]?)).toArray⟩:Str)=⟨z.cps.toList.reverse.toArray⟩:=by
 have h:=PyProof.Rows.step_rev_list z u;unfold Txt.sliceBy at h;have h1:¬(((((some ((-1:Int),u)).map (·.1)).getD 1 == 1)&&((slicePicked z none none (some (-1,u))).length == z.length))=true):=by have:((((some ((-1:Int),u)).map (·.1)).getD 1 == 1))=false:=rfl;rw[this];simp
 rw[if_neg h1] at h;have h2:((slicePicked z none none (some (-1,u))).filterMap (z.cps[·]?))=z.cps.toList.reverse:=by
  have h3:((slicePicked z none none (some (-1,u))).filterMap (z.cps[·]?))=(List.range z.length).map λk=>z.cps.getD (z.length - 1 - k) 0:=by simpa using h
  rw[h3];apply List.ext_getElem
  ·simp[Str.length]
  ·intro i h4 h5;have hi:i<z.cps.size:=by simpa[Str.length] using h4
   simp[Str.length,Array.getD,List.getElem_reverse];rw[dif_pos (by omega)]
 rw[h2]
theorem aax{st:Expr}{ts:TE}{p2 pos:Pos}(he:PE X e te)(hst:PE X st ts):PE X (.Subscript e (.Slice none none (some st) p2) pos) (afE te ts):=by
 intro pins s σ H Q I h;refine Subscript_ (fK (he pins s σ H _ I h) λv s1 ⟨x,H1,I1,r1,q1⟩=>?_);refine wpAny_Slice ?_;rw[evalPart_none,evalPart_some];refine Qq5 (Qq5 (fK (hst pins s1 σ H1 _ I1 q1) λw s2 ⟨y,H2,I2,r2,q2⟩=>?_));obtain⟨z,ex,hz,ey,q⟩:=q2;subst ex;subst ey;obtain⟨t,rfl⟩:=r1;obtain⟨t',rfl⟩:=r2;have I4:Inv X pins σ H2 { s2 with heap:=s2.heap.push { cls:=.type "slice",data:=.fields #[.none,.none,.int (-1) t'] } }:=I2.kept (t':=s2.toks) λb ob q=>Qq0 _ q;show wpAny (model X.prog X.w) X.A (subscriptTail e (.Slice none none (some st) p2) (.str z t) (.ref s2.heap.objs.size)) (EP X pins σ Q) X.xe { s2 with heap:=s2.heap.push { cls:=.type "slice",data:=.fields #[.none,.none,.int (-1) t'] } };refine tail_any (ops:=[.ref s2.heap.objs.size,.str z t]) (typeIs_str _ z t) PySem.F.slot_str_getitem.lookup ?_ (by with_unfolding_all rfl);refine wpAny_getItem_str_slice (l:=none) (u:=none) (st:=some (-1,t')) ⟨_,Qww _ rfl,rfl,rfl⟩ rfl ?_;unfold sliceMade;have h1:¬(((((some ((-1:Int),t')).map (·.1)).getD 1 == 1)&&((slicePicked z none none (some (-1,t'))).length == z.length))=true):=by have:((((some ((-1:Int),t')).map (·.1)).getD 1 == 1))=false:=rfl;rw[this];simp
 rw[if_neg h1,Ke];refine⟨?_,⟨.str ⟨z.cps.toList.reverse.toArray⟩,H2,I4.tok _,⟨_,rfl⟩,q⟩⟩;show z.cps.toList.reverse.toArray.size<=sizeLine
 simpa[Str.length] using hz
end
end L2
namespace Ev
open PySem PySem.Spec PyProof.Rows L2 PySem.Builtin
section
variable{X:Cx}{C:Cfg}{pos:Pos}{e x y:Expr}{a b:Ev}
def Xm:D->Option D
 | .int i=>some (.int (-i))
 | _=>none
theorem ZF:UnD C (rU λi=>.int (-i)) Xm:=by
 intro Pr F env σ H x d vx Q r px e q;cases x with
 | int i=>cases e;exact⟨i,px.int,q _ H F r (aO.refl F) rfl⟩
 | _=>cases e
def agq:D->Option D
 | .str z=>some (.str z.reverse)
 | _=>none
def sS(a:Ev):Ev:=λenv=>bindR (a env) λd aL=>iT (agq d) aL
def xJ(x:List Nat):List D:=x.zipIdx.map λp=>.tup [.int (p.2:Nat),.str [p.1]]
def K1(a:eN):eN:=λenv=>bindR (a env) λds aL=>match ds with
 | [.str x]=>.ok (xJ x) aL
 | _=>.stuck
end
theorem Pn{prog:Program}{w:World}{A:Around}{E:Value->Shared->Prop}{s:Shared}{a:Addr}{o:Obj}{xs:Array Value}{k:Nat}{Q:Option Value->Shared->Prop}
  (hx:s.heap.get? a=some o) (hc:o.cls = .type "tuple") (hdat:o.data = .seq xs k) (hd:o.dict=none) (hA:A.handled=none)
  (h:∀h' tk,(∀b u,s.heap.get? b=some u->h'.get? b=some u)->Q none { s with heap:=h',toks:=tk }):wpAny (model prog w) A (getAttr? (.ref a) "keys") Q E s:=by
 obtain⟨hp,g,d,tk,os⟩:=s;obtain⟨oc,od,dt,sl⟩:=o;cases hc;cases hdat;cases hd;have hT:∀tk',(⟨hp,g,d,tk',os⟩:Shared).TypeIs (.ref a) "tuple":=λ_=>⟨_,hx,rfl⟩;have f1:=sub_AttributeError;have f3:=F.slot_tuple_getattribute.lookup;have f4:=F.slot_tuple_getattribute.bind (.ref a);have f5:=am_tuple_getattr_none;have hmiss:typeLookup (.type "tuple") "keys" = pure none:=by rw[typeLookup_type,builtinLookup_eq_fast];kernel_rfl
 unfold getAttr? getAttrBy? getAttrBy
 repeat (any_goals (first|assumption|exact hT _|((with_reducible show wpAny _ _ (call (Value.builtin "tuple.__getattribute__") _ _) _ _ _);refine call_meets F.slot_tuple_getattribute (hT _) am_entry_tuple_getattribute (F.args_tuple_getattribute_2 _ _) (meets_getattribute_miss_tuple a xs k sl "keys" _ hmiss (by decide +kernel) (by decide +kernel)) ⟨hx,hA,λh' tk' e hx'=>?_⟩)|wp_step))
 obtain⟨t',u',he⟩:=hx'.there;show wpAny _ _ (getattributeRaised _ _ _ _ _ _ _) _ _ _;unfold getattributeRaised
 repeat (any_goals (first|assumption|wp_step))
 exact h _ _ hx'.keeps
structure Pr where
 p:Addr
 k:Key
 kv:Value
 v:Value
def U5(h:Heap)(r:Pr):Prop:=h.IsTuple r.p #[r.kv,r.v]/\zX r.k r.kv=true
theorem U5.keep{h h':Heap}{r:Pr}{c d:Addr}(x:U5 h r)(n1:r.p≠c)(n2:r.p≠d)(k:∀b o,b≠c->b≠d->h.get? b=some o->h'.get? b=some o):U5 h' r:=
 let ⟨⟨o,ho,q⟩,y⟩:=x;⟨⟨o,k _ o n1 n2 ho,q⟩,y⟩
def putAll(kvs:List (Key×Value))(rs:List Pr):List (Key×Value):=rs.foldl (λacc r=>stored acc r.k r.v) kvs
theorem jM:plainId "dict.update.loop" = true:=by decide +kernel
theorem rC:entryFor table "dict.update.loop" = some Builtin.«dict.update.loop»:=entryFor_of_tree (by kernel_rfl)
theorem Gy{prog:Program}{w:World}{d it a:Addr}{its:List Value}(hdi:d≠it)(hda:d≠a)(hia:it≠a):∀(rs:List Pr) (i:Nat) (kvs:List (Key×Value)) (A:Around) (R:Result->Shared->Prop) (s:Shared),
  A.handled=none->its.drop i=rs.map (λr=>Value.ref r.p)->s.heap.IsTuple a its.toArray->s.heap.IsTupleIter it a i->s.heap.DictOf (d9 prog w) d kvs->(∀r∈rs,U5 s.heap r/\r.p≠d/\r.p≠it)->kvs.length+rs.length<=sizeLine->
  (∀h' tk,h'.DictOf (d9 prog w) d (putAll kvs rs)->(∀b o,b≠d->b≠it->s.heap.get? b=some o->h'.get? b=some o)->R (.ok (.ret .none)) { s with heap:=h',toks:=tk })->
  wpAny (model prog w) A.in1 (Builtin.«dict.update.loop» ⟨[.ref d,.ref it,rawInt i,.none],[]⟩) (λfin s'=>match fin with|.done f=>R (.ok f) s'|.again c'=>c'.quiet=true/\codeAny (model prog w) A c' R s') (λe s'=>R (.error e) s') s
 | [],i,kvs,A,R,s,hh,hdr,ht,hit,hD,_,_,h=>by
  unfold Builtin.«dict.update.loop»;have hx:its.toArray[i]? = none:=by
   have:its.length<=i:=by have:=Qz4 List.length hdr;rw[Qkk] at this;simp at this;omega
   simp;omega
  refine Qqz (wpAny_pyNext_tuple_end hh hit ht hx λh' hex=>?_);show wpAny _ _ (Builtin.Dict.addKeywords d [] >>= _) _ _ _;refine Qqz (Qq5 (Qq5 ?_));exact h h' s.toks (hD.extBut hex hdi) λb o _ h2 e=>hex b o h2 e
 | r::rs,i,kvs,A,R,s,hh,hdr,ht,hit,hD,hrs,hz,h=>by
  unfold Builtin.«dict.update.loop»;obtain⟨⟨hpt,hkey⟩,n1,n2⟩:=hrs r (Qqj ..);have hlt:i<its.length:=by have:=Qz4 List.length hdr;rw[Qkk,Qq8,Qqy] at this;omega
  have hx0:its[i]? = some (.ref r.p):=by
   have:=Qz4 (λl=>l[0]?) hdr
   simpa using this
  have hx:its.toArray[i]? = some (.ref r.p):=by simpa using hx0
  have agg:its.drop (i+1)=rs.map (λr=>Value.ref r.p):=by
   have:=Qz4 List.tail hdr;rw[List.tail_drop] at this
   simpa using this
  refine Qqz (wpAny_pyNext_tuple_item hit ht hx λh' hit' hs'=>?_);have k1:∀b o,b≠it->s.heap.get? b=some o->h'.get? b=some o:=λb o hb e=>(hs'.2 b hb).trans e;obtain⟨op,hop,hcp,np,hdp⟩:=hpt;have hop':h'.get? r.p=some op:=k1 _ _ n2 hop;dsimp only;refine Qqz (Qjx (Qqz (wpAny_tryCatch ?_)));unfold Builtin.Dict.pairItems;refine Qqz (wpAny_typeOf (T:="tuple") ⟨op,hop',hcp⟩ ?_);rw[if_pos (by decide)];unfold seqItems?;refine Qqz (Qqz (wpAny_load hop' ?_));rw[hdp];refine Qq5 (Qq5 ?_);show wpAny _ _ (holding [r.kv,r.v] (dictSet d r.kv r.v)) _ _ _;have hzk:kvs.length<=sizeLine:=by rw[Qqy] at hz;omega
  refine Qjx (wpAny_dictSet_pairs (knd:=d9 prog w) (kvs:=kvs) (k:=r.k) (hsz:=hzk) hkey (hD.sameBut hs' hdi) λh'' agm hs''=>?_);have k2:∀b o,b≠d->b≠it->s.heap.get? b=some o->h''.get? b=some o:=λb o hb1 hb2 e=>(hs''.2 b hb1).trans (k1 b o hb2 e);have hc:((i:Int)+1)=((i+1:Nat):Int):=by push_cast;rfl
  rw[hc];refine Qq5 ⟨plainId_quiet jM _,codeAny_builtin rC ?_⟩;rw[Around.under_plainId jM _];have hln:(stored kvs r.k r.v).length<=kvs.length+1:=by have:=stored_length_le kvs r.k r.v;exact this
  refine Gy hdi hda hia rs (i+1) (stored kvs r.k r.v) A R _ hh agg ?_ ?_ agm (λq hq=>?_) (by rw[Qqy] at hz;omega) λh3 tk hD3 k3=>?_
  ·obtain⟨o,ho,q⟩:=ht;exact⟨o,k2 a o hda.symm hia.symm ho,q⟩
  ·obtain⟨o,ho,q⟩:=hit';exact⟨o,(hs''.2 it hdi.symm).trans ho,q⟩
  ·obtain⟨p1,p2,p3⟩:=hrs q (Qqq _ hq);exact⟨p1.keep p2 p3 k2,p2,p3⟩
  ·exact h h3 tk hD3 λb o hb1 hb2 e=>k3 b o hb1 hb2 (k2 b o hb1 hb2 e)
section
variable{X:Cx}{C:Cfg}{pos:Pos}
abbrev Pv:=Addr×Key×V
def nA(kvs:List (Key×V))(rs:List Pv):List (Key×V):=rs.foldl (λacc r=>putK acc r.2.1 r.2.2) kvs
def Rt(K:Fg):List V->Hp->VK->Prop:=λxs H Q=>∃(a:Addr) (rs:List Pv),xs=[.ref a]/\mD K H a (rs.map λr=>V.ref r.1)/\(∀r∈rs,mD K H r.1 [kV r.2.1,r.2.2])/\rs.length<=sizeLine/\∀l,H l=none->Q (.ref l) (upd H l (.dK (nA [] rs)))
theorem Ht{pins:List (Addr×Obj)}{σ:L2.St}{H:Hp}{s:Shared}(I:L2.Inv X pins σ H s):∀(rs:List Pv) (us:List Value),Vals (rs.map λr=>V.ref r.1) us->(∀r∈rs,mD X.K H r.1 [kV r.2.1,r.2.2])->∃ps:List Pr,us=ps.map (λr=>Value.ref r.p)/\(∀r∈ps,U5 s.heap r)/\Paired (λ(r:Pv) (q:Pr)=>r.2.1=q.k/\RelV r.2.2 q.v) rs ps
 | [],us,h,_=>by cases h;exact⟨[],rfl,λr hr=>by simp at hr,.nil⟩
 | r::rs,us,h,hp=>by
  cases h with
  | cons h1 h2=>
   cases h1;obtain⟨ps,rfl,q1,q2⟩:=Ht I rs _ h2 λr' hr=>hp r' (Qqq _ hr);obtain⟨its,rv,ht,_⟩:=I.tuple (hp r (Qqj ..));obtain⟨u1,u2,rfl,r1,r2⟩:=rv.two;refine⟨⟨r.1,r.2.1,u1,u2⟩::ps,rfl,λq hq=>?_,.cons ⟨rfl,r2⟩ q2⟩;rcases Qq4.mp hq with rfl|hq
   ·exact⟨ht,Df (P:=X.prog) (w:=X.w) r1⟩
   ·exact q1 q hq
theorem CN:∀{rs:List Pv} {ps:List Pr} {kvs:List (Key×V)} {vs:List (Key×Value)},Paired (λ(r:Pv) (q:Pr)=>r.2.1=q.k/\RelV r.2.2 q.v) rs ps->KV kvs vs->KV (nA kvs rs) (putAll vs ps)
 | _,_,_,_,.nil,h=>h
 | _,_,kvs,vs,.cons (a:=r) (b:=q) ⟨h1,h2⟩ hr,h=>by
  show KV (nA (putK kvs r.2.1 r.2.2) _) (putAll (stored vs q.k q.v) _);refine CN hr ?_;rw[h1];exact h.put q.k h2
theorem xu:∀(rs:List Pv) (kvs:List (Key×V)),(nA kvs rs).length<=kvs.length+rs.length
 | [],kvs=>Qq1 _
 | r::rs,kvs=>by
  have h1:=xu rs (putK kvs r.2.1 r.2.2);have h2:=qU kvs r.2.1 r.2.2;show(nA (putK kvs r.2.1 r.2.2) rs).length<=_;rw[Qqy];omega
theorem Qi(hc:X.calm=true):j5 X (.type "dict") (Rt X.K):=by
 intro pins s σ H xs us Q I r h;obtain⟨a,rs,rfl,hq,hp,hz,q⟩:=h;obtain⟨u,rfl,rx⟩:=vals1 r;cases rx;obtain⟨its,rv,ob,h1,h2,⟨n,h3⟩,h4⟩:=I.ZK hq;obtain⟨ps,rfl,hps,hpr⟩:=Ht I rs its rv hp;have hA:=I.ok.hd hc;have hlt:a<s.heap.objs.size:=Qq9 h1;refine callType_codes (Q₁:=λobj s₁=>obj = .ref s.heap.objs.size/\s₁ = { s with heap:=s.heap.push { cls:=.type "dict",data:=.dict #[] } }) F.kt_called_dict (F.kt_typeCall_dict_1 _) F.entry_dict_init (kt_code_dict_new _ ⟨rfl,rfl⟩) ?_;rintro obj s₁ ⟨rfl,rfl⟩;have hnew:(s.heap.push { cls:=.type "dict",data:=.dict #[] }).DictOf (d9 X.prog X.w) s.heap.objs.size []:=Heap.DictOf.new s.heap;have k0:∀b o,s.heap.get? b=some o->(s.heap.push { cls:=.type "dict",data:=.dict #[] }).get? b=some o:=λb o e=>Qq0 _ e;refine⟨hnew.typeIs,F.args_dict_init_2 _ _,?_⟩;unfold Builtin.«dict.__init__»;refine Qqz ?_;unfold Builtin.Dict.selfAndRest;refine Qqz (wpAny_notOrdered_dict hnew.typeIs ?_);show wpAny _ _ (pure (s.heap.objs.size,[Value.ref a])) _ _ _;refine Qq5 ?_;show wpAny _ _ (Builtin.Dict.updateFrom "dict.__init__" s.heap.objs.size (.ref a) [] .none) _ _ _;unfold Builtin.Dict.updateFrom;refine Qqz (wpAny_typeOf (T:="tuple") ⟨ob,k0 _ _ h1,h2⟩ ?_);rw[if_pos (by decide)];refine Qqz (Pn (k0 _ _ h1) h2 h3 h4 hA λh' tk hk=>?_);simp only[Option.isNone_none,if_true];refine Qqz (wpAny_rule (Qqz ?_));have hT:h'.IsTuple a (ps.map λr=>Value.ref r.p).toArray:=⟨ob,hk _ _ (k0 _ _ h1),h2,n,h3⟩;refine wpAny_pyIter_tuple hT ?_;refine Qq5 ⟨plainId_quiet jM _,codeAny_builtin rC ?_⟩;rw[Around.under_plainId jM _];have hD0:h'.DictOf (d9 X.prog X.w) s.heap.objs.size []:=hnew.keep hk;have abI:s.heap.objs.size<h'.objs.size:=by obtain⟨o,_,_,ho,_⟩:=hD0;exact Qq9 ho
 have halt:a<h'.objs.size:=Qq9 (hk _ _ (k0 _ _ h1));have hda:s.heap.objs.size≠a:=Qjk hlt;refine Gy (Qxq abI) hda (Qjk halt) ps 0 [] X.A.in1 _ _ hA rfl ?_ ⟨_,Qww _ rfl,rfl,rfl⟩ (hD0.push _) (λq hq=>?_) ?_ λh3 tk' hD3 k3=>?_
 ·obtain⟨o,ho,r⟩:=hT;exact⟨o,Qq0 _ ho,r⟩
 ·obtain⟨⟨o,ho,r⟩,y⟩:=hps q hq;have aek:q.p<s.heap.objs.size:=Qq9 ho;refine⟨⟨⟨o,Qq0 _ (hk _ _ (k0 _ _ ho)),r⟩,y⟩,Qxq aek,Qxq (Nat.lt_trans aek abI)⟩
 ·rw[<-Paired.length hpr]
  simpa using hz
 ·refine⟨rfl,?_⟩;have kk:∀b u,s.heap.get? b=some u->h3.get? b=some u:=λb u e=>by
   have hb:b<s.heap.objs.size:=Qq9 e;exact k3 b u (Qxq hb) (Qxq (Nat.lt_trans hb abI)) (Qq0 _ (hk _ _ (k0 _ _ e)))
  have hsys:(s.heap.objs.size == sysModules)=false:=by rw[Qx6];exact Qjk I.big
  refine⟨.ref s.heap.objs.size,upd H s.heap.objs.size (.dK (nA [] rs)),I.laid (t':=tk') kk (Qq1 _) ⟨?_,hsys,_,CN hpr .nil,hD3⟩,rfl,q _ (I.hok.fresh (Qq1 _))⟩;have:=xu rs [];exact Qq2 this (by simpa using hz)
def MK:D->Option (D×D)
 | .tup [k,v]=>(ql k).map λ_=>(k,v)
 | _=>none
def pF:List D->Option (List (D×D))
 | []=>some []
 | d::ds=>match MK d,pF ds with
  | some p,some r=>some (p::r)
  | _,_=>none
def kY(kvs : List (D × D)) : List (D × D) → List (D × D)
  | [] => kvs
  | (k, v) :: r => (match ql k with
    | some q => kY (putD kvs k q v) r
    | none => kY kvs r)
def sO:List D->Option D
 | [.tup ds]=>(pF ds).map λps=>.dct (kY [] ps)
 | _=>none
theorem qN:∀(ps:List (D×D)) (kvs:List (D×D)),(kY kvs ps).length<=kvs.length+ps.length
 | [],kvs=>Qq1 _
 | (k,v)::r,kvs=>by
  unfold kY;split
  ·rename_i q hq;have h1:=qN r (putD kvs k q v);have h2:=Hq kvs k q v;rw[Qqy];omega
  ·have h1:=qN r kvs;rw[Qqy];omega
theorem zE:∀{ds:List D} {ps:List (D×D)},pF ds=some ps->ps.length=ds.length
 | [],ps,h=>by cases h;rfl
 | d::ds,ps,h=>by
  unfold pF at h;split at h
  ·rename_i p r h1 h2;cases h;rw[Qqy,Qqy,zE h2]
  ·cases h
theorem CP{K:Fg}{F:Hp}:∀{ds:List D} {ps:List (D×D)} {vs:List V} {kvs:List (D×D)} {ks:List (Key×V)},pF ds=some ps->bL K F ds vs->dX K F kvs ks->
  ∃rs:List Pv,vs=rs.map (λr=>V.ref r.1)/\(∀r∈rs,mD K F r.1 [kV r.2.1,r.2.2])/\dX K F (kY kvs ps) (nA ks rs)
 | [],ps,vs,kvs,ks,h,hr,hk=>by cases h;cases hr;exact⟨[],rfl,λr hr=>by simp at hr,hk⟩
 | d::ds,ps,vs,kvs,ks,h,hr,hk=>by
  unfold pF at h;split at h
  ·rename_i p r h1 h2;cases h;obtain⟨v,w,rfl,p1,p2⟩:=hr;unfold MK at h1;split at h1
   ·rename_i k x;obtain⟨q,hq,rfl⟩:=Qwk.mp h1;obtain⟨_,a,us,rfl,h3,h4⟩:=p1;obtain⟨u1,w1,rfl,q1,u2,w2,rfl,q2,q3⟩:=h4;cases q3;cases Tt hq q1;obtain⟨rs,rfl,g1,g2⟩:=CP (kvs:=putD kvs k q x) (ks:=putK ks q u2) h2 p2 (hk.put hq q2);refine⟨(a,q,u2)::rs,rfl,λr hr=>?_,?_⟩
    ·rcases Qq4.mp hr with rfl|hr
     ·exact h3
     ·exact g1 r hr
    ·unfold kY;rw[hq];exact g2
   ·cases h1
  ·cases h
theorem XM:CallD C (Rt C.K) sO:=by
 intro Pr F env σ H ds d vs Q r p e q;unfold sO at e;split at e
 ·rename_i ds;obtain⟨v,w,rfl,p1,p2⟩:=p;cases p2;obtain⟨ps,e1,rfl⟩:=Qwk.mp e;obtain⟨z,a,us,rfl,h1,h1F,h2⟩:=p1.tup r.fr;obtain⟨rs,rfl,g1,g2⟩:=CP (kvs:=[]) (ks:=[]) e1 h2 rfl;have hl:rs.length=ds.length:=by
   have:=h2.length
   rwa [Qqv] at this
  refine⟨a,rs,rfl,h1,λr' hr=>aO.tupK r.fr (g1 r' hr),by rw[hl];exact z,λl hlf=>?_⟩;obtain⟨F2,r2,s2,p2⟩:=(r.fresh (o:=.dK (nA [] rs)) hlf).keep (U8.of (d:=.dct (kY [] ps)) r hlf ⟨by
   have h5:=qN ps [];rw[zE e1] at h5;exact Qq2 h5 (by simpa using z),_,aW,g2⟩)
  exact q _ _ F2 r2 s2 p2
 ·cases e
end
end Ev
namespace L2
open PySem PySem.Spec PyProof.Rows PySem.Builtin PySem.Builtin.Str
section
variable{X:Cx}
def Rq:R2:=λx y H Q=>∃a o,y = .ref a/\Jq H a x o/\Q (.bl o.isSome) H
theorem Su(hu:X.A.units+1<cLine):mF X (compareOp .In) Rq:=by intro pins s σ H x y v u Q I rx ry h;obtain⟨a,o,rfl,g,q⟩:=h;cases ry;exact agv hu I g rx λs' I'=>⟨.bl o.isSome,H,I',rfl,q⟩
end
end L2
namespace Ev
open PySem PySem.Spec PyProof.Rows L2 PySem.Builtin
section
variable{X:Cx}{C:Cfg}{pos:Pos}{x y:Expr}{a b:Ev}
def wO(k y:D):Option D:=match y with
 | .dct kvs=>(ql k).map λq=>.bl (mH kvs q).isSome
 | _=>none
theorem Sx:o9 C Rq wO:=by
 intro Pr F env σ H x y d vx vy Q r px py e q;cases y with
 | dct kvs=>
  obtain⟨k,hk,rfl⟩:=Qwk.mp (show(ql x).map (λq=>D.bl (mH kvs q).isSome)=some d from e);obtain⟨z,p,ks,rfl,h1,h2⟩:=py.dct r.fr;cases Kz hk px;refine⟨p,sY ks k,rfl,.inl ⟨ks,k,h1,rfl,rfl⟩,?_⟩;have e2:(sY ks k).isSome=(mH kvs k).isSome:=by rcases h2.val k with ⟨g1,g2⟩|⟨d',v',g1,g2,_⟩<;>rw[g1,g2]<;>rfl
  rw[e2];exact q _ H F r (aO.refl F) rfl
 | _=>cases e
theorem XX(G:Good X C):Cm X C .In wO:=⟨_,Su G.u1,Sx⟩
end
open PySem PySem.Spec PyProof.Rows L2
section
variable{X:Cx}{C:Cfg}{pos:Pos}{x y z:Expr}{a b c:Ev}{apos:Pos}
def Nf(g g':D->D->Option D)(a b c:Ev):Ev:=λenv=>bindR (a env) λu e1=>bindR (b e1) λv e2=>match g u v with
 | some (.bl k)=>if k=true then bindR (c e2) λt e3=>iT (g' v t) e3 else .ok (.bl false) e2
 | _=>.stuck
def T8:D->D->D->Option D
 | .dct kvs,k,t=>(ql k).map λq=>(mH kvs q).getD t
 | _,_,_=>none
def FP(a b c:Ev):Ev:=λenv=>bindR (a env) λd e1=>bindR (b e1) λk e2=>bindR (c e2) λt e3=>match d with
 | .dct kvs=>iT (T8 (.dct kvs) k t) e3
 | _=>.stuck
end
end Ev
namespace ZT
open PySem PySem.Spec PyProof.Rows L2 PySem.Builtin
section
variable{prog:Program}{w:World}{A:Around}{E:Value->Shared->Prop}{s:Shared}
theorem S5{j t:Addr}{n:Nat}{its:Array Value}{x:Value}{Q:Value->Shared->Prop}(hj:s.heap.IsTupleIter j t n)(ht:s.heap.IsTuple t its)(hx:its[n]? = some x)
  (q:∀g,g.IsTupleIter j t (n+1)->Heap.SameBut j s.heap g->Q x { s with heap:=g }):wpAny (model prog w) A (Builtin.SmallTypes.nextOf (.ref j)) Q E s:=by
 obtain⟨u,hu,uc,ud⟩:=id hj;obtain⟨ut,hut,_,m,mt⟩:=ht;unfold Builtin.SmallTypes.nextOf;refine Qqz (Qjj (name:=Str.ofString "__next__") hj.typeIs F.slot_tuple_iterator_next (Qz7 F.slot_tuple_iterator_next hj.typeIs F.entry_tuple_iterator_next ?_ (F.args_tuple_iterator_next_1 _)));show wpAny _ _ (field (.ref j) 0 >>= _) _ _ s;refine Qqz (Qz5 hu ud (x:=.ref t) rfl ?_);show wpAny _ _ (if (Value.ref t == Value.none)=true then _ else _) _ _ s;rw[if_neg (show ¬((Value.ref t == Value.none)=true) from Qw6)];show wpAny _ _ (field (.ref j) 1 >>= _) _ _ s;refine Qqz (Qz5 hu ud (x:=.int n 0) rfl ?_);show wpAny _ _ (seqItems? (.ref t) >>= _) _ _ s;refine Qqz (Qjv hut mt ?_);simp only[Qk1,hx];refine Qqz (wpAny_setField hu ud (by simp) (Qq5 ⟨x,rfl,Qq5 (q _ ?_ (Heap.SameBut.update ..))⟩));exact⟨_,Heap.get?_update_self _ hu (Obj.isFreed_of_fields (Obj.data_mapFields ud _)),(Obj.cls_mapFields ..).trans uc,by rw[Obj.data_mapFields ud];simp[rawInt]⟩
theorem Fj{j t:Addr}{n:Nat}{its:Array Value}{Q:Value->Shared->Prop}(hh:A.handled=none)(hj:s.heap.IsTupleIter j t n)(ht:s.heap.IsTuple t its)(hx:its[n]? = none)
  (q:∀g e,Heap.ExtBut j s.heap g->(∃o,g.get? e=some o/\o.cls = .type "StopIteration")->E (.ref e) { s with heap:=g }):wpAny (model prog w) A (Builtin.SmallTypes.nextOf (.ref j)) Q E s:=by
 obtain⟨u,hu,uc,ud⟩:=id hj;obtain⟨ut,hut,_,m,mt⟩:=ht;unfold Builtin.SmallTypes.nextOf;refine Qqz (Qjj (name:=Str.ofString "__next__") hj.typeIs F.slot_tuple_iterator_next (Qz7 F.slot_tuple_iterator_next hj.typeIs F.entry_tuple_iterator_next ?_ (F.args_tuple_iterator_next_1 _)));show wpAny _ _ (field (.ref j) 0 >>= _) _ _ s;refine Qqz (Qz5 hu ud (x:=.ref t) rfl ?_);show wpAny _ _ (if (Value.ref t == Value.none)=true then _ else _) _ _ s;rw[if_neg (show ¬((Value.ref t == Value.none)=true) from Qw6)];show wpAny _ _ (field (.ref j) 1 >>= _) _ _ s;refine Qqz (Qz5 hu ud (x:=.int n 0) rfl ?_);show wpAny _ _ (seqItems? (.ref t) >>= _) _ _ s;refine Qqz (Qjv hut mt ?_);simp only[Qk1,hx];refine Qqz (wpAny_rule (Qqz (wpAny_setField hu ud (by simp) ?_)));show wpAny _ _ (newExc (.type "StopIteration") [] >>= _) _ _ _;refine Qqz ?_;simp only[newExc,newTuple];refine Qqz (Qjw ?_ (by size_fits));refine Qqz (m:=firstArgMember _ _) (wpAny_of_eq (a:=Value.none) (by first|rfl|(simp only[firstArgMember];rfl)) ?_);refine Qjw ?_ (by size_fits);simp only[raiseNew];refine Qqz (wpAny_handled ?_)
 first|rw[show A.in1.handled=none from hh]|rw[hh]
 refine Qqz (Qq5 (wpAny_throw ?_));exact q _ _ (((Heap.SameBut.update ..).extBut.push _).push _) ⟨_,Qww _ rfl,rfl⟩
end
theorem rW{prog:Program}{w:World}{A:Around}(hh:A.handled=none)(j t:Addr)(hne:t≠j)(its:Array Value) :
  Draws prog w A j [j,t] its.size (λi v=>its[i]? = some v) (λi h=>h.IsTupleIter j t i/\h.IsTuple t its) where
 live:=λ_ _ st=>let ⟨o,ho,_⟩:=st.1;⟨o,ho⟩
 frame:=λ_ _ _ st hk=>by
  obtain⟨⟨o,ho,r⟩,o2,ho2,r2⟩:=st;exact⟨⟨o,hk j (by simp) o ho,r⟩,o2,hk t (by simp) o2 ho2,r2⟩
 item:=λi s Q E hi st hQ=>by
  refine S5 st.1 st.2 (x:=its[i]) (by simp[hi]) λh' hit' hs'=>?_;exact hQ _ h' s.toks (by simp[hi]) ⟨hit',st.2.extBut hs'.extBut hne⟩ hs'
 done:=λs Q E st hE=>Fj hh st.1 st.2 (by simp) hE
structure Ap(z TI TO j1 j2:Addr)(f1 f2:List Addr):Prop where
 a1:TI≠z
 a2:TO≠z
 a3:TI≠TO
 a4:j1≠j2
 b1:j1∈f1
 b2:j2∈f2
 c1:z ∉ f1
 c2:z ∉ f2
 c3:TO ∉ f1
 c4:TO ∉ f2
 c5:TI ∉ f1
 c6:TI ∉ f2
 c7:j2 ∉ f1
 c8:j1 ∉ f2
section
variable{prog:Program}{w:World}{A:Around}{E:Value->Shared->Prop}{s:Shared}{z TI TO j1 j2:Addr}{f1 f2:List Addr}{n1 n2 k:Nat}{P1 P2:Nat->Value->Prop}{S1 S2:Nat->Heap->Prop}{a b:Value}
theorem fO{c d:Addr}{f:List Addr}(h:c∈f)(h':d ∉ f):c≠d:=λe=>h' (e ▸ h)
theorem Qw{Q:Value->Shared->Prop}(D:Ap z TI TO j1 j2 f1 f2)(D1:Draws prog w A j1 f1 n1 P1 S1)(D2:Draws prog w A j2 f2 n2 P2 S2)(k1:k<n1)(k2:k<n2)
  (hz:IsZip s.heap z TI TO .none) (hTI:IsPair s.heap TI (.ref j1) (.ref j2)) (hTO:IsPair s.heap TO a b) (s1:S1 k s.heap) (s2:S2 k s.heap)
  (q:∀x y g tk,P1 k x->P2 k y->IsZip g z TI TO (rawInt s.heap.objs.size)->IsPair g TO x y->S1 (k+1) g->S2 (k+1) g->IsPair g s.heap.objs.size x y->g.objs.size=s.heap.objs.size+1->
   (∀c o,c≠z->c≠TO->c≠j1->c≠j2->s.heap.get? c=some o->g.get? c=some o)->Q (.ref s.heap.objs.size) { s with heap:=g,toks:=tk }) :
  wpAny (model prog w) A (Builtin.«zip.__next__» ⟨[.ref z],[]⟩) (λfin s'=>∃v,fin = .done (.ret v)/\Q v s') E s:=by
 have Xy:j1≠z:=fO D.b1 D.c1;have abW:j2≠z:=fO D.b2 D.c2;have abX:j1≠TO:=fO D.b1 D.c3;have aeE:j2≠TO:=fO D.b2 D.c4;show wpAny _ _ (field (.ref z) 2 >>= _) _ _ _;refine Qqz (Qz5 hz rfl (x:=.bool false) rfl ?_);show wpAny _ _ (field (.ref z) 3 >>= _) _ _ _;refine Qqz (Qz5 hz rfl (x:=.ref TI) rfl ?_);refine Qqz (Qjv hTI rfl ?_);show wpAny _ _ (Builtin.SmallTypes.ownedTupleIsFree (.ref z) >>= _) _ _ _;refine Qqz ?_;unfold Builtin.SmallTypes.ownedTupleIsFree;refine Qqz (Qz5 hz rfl (x:=.none) rfl (Qq5 ?_));simp only[if_true];refine Qqz (wpAny_rule ?_);refine Qqz (Qz5 hz rfl (x:=.ref TO) rfl ?_);refine Qqz (Qj4 hz (by simp) λg1 hz1 e1=>?_)
 replace hz1:IsZip g1 z TI TO .ellipsis:=hz1
 refine Qqz ?_;simp only[List.zipIdx_cons,List.zipIdx_nil,Qkw,Qj5];refine Qqz (Qqz (wpAny_onRaise ?_));show wpAny _ _ (Builtin.SmallTypes.nextOf (.ref j1) >>= _) _ _ _;have s1':S1 k g1:=D1.frame k _ _ s1 λc hc o e=>e1.extBut _ _ (fO hc D.c1) e;refine Qqz (D1.item k { s with heap:=g1 } _ _ k1 s1' λx g2 tk2 px sx e2=>Qq5 ?_);have t2:IsPair g2 TO a b:=e2.extBut _ _ abX.symm (e1.extBut _ _ D.a2 hTO);refine Qqz (Qjv t2 rfl ?_);refine Qqz (wpAny_updateSeq_pair t2 λg3 t3 e3=>?_)
 replace t3:IsPair g3 TO x b:=t3
 refine Qqz (wpAny_letGo (Qq5 ?_));refine Qqz (Qqz (wpAny_onRaise ?_));show wpAny _ _ (Builtin.SmallTypes.nextOf (.ref j2) >>= _) _ _ _;have VP:S2 k g3:=D2.frame k _ _ s2 λc hc o e=>e3.extBut _ _ (fO hc D.c4) (e2.extBut _ _ (fO hc D.c8) (e1.extBut _ _ (fO hc D.c2) e));refine Qqz (D2.item k { s with heap:=g3,toks:=tk2 } _ _ k2 VP λy g4 tk4 py sy e4=>Qq5 ?_);have t4:IsPair g4 TO x b:=e4.extBut _ _ aeE.symm t3;refine Qqz (Qjv t4 rfl ?_);refine Qqz (wpAny_updateSeq_pair t4 λg5 t5 e5=>?_)
 replace t5:IsPair g5 TO x y:=t5
 refine Qqz (wpAny_letGo (Qq5 (Qq5 ?_)));refine Qqz (Qjv t5 rfl ?_);refine Qqz (wpAny_newTuple ?_);have hsz:g5.objs.size=s.heap.objs.size:=by rw[e5.1,e4.1,e3.1,e2.1,e1.1]
 have hz5:IsZip g5 z TI TO .ellipsis:=e5.extBut _ _ D.a2.symm (e4.extBut _ _ abW.symm (e3.extBut _ _ D.a2.symm (e2.extBut _ _ Xy.symm hz1)));have ad9:∀c o,c≠z->c≠TO->c≠j1->c≠j2->s.heap.get? c=some o->g5.get? c=some o:=λc o c1 c2 c3 c4 e=>
  e5.extBut _ _ c2 (e4.extBut _ _ c4 (e3.extBut _ _ c2 (e2.extBut _ _ c3 (e1.extBut _ _ c1 e))))
 have s15:S1 (k+1) g5:=D1.frame _ _ _ sx λc hc o e=>e5.extBut _ _ (fO hc D.c3) (e4.extBut _ _ (fO hc D.c7) (e3.extBut _ _ (fO hc D.c3) e));have s25:S2 (k+1) g5:=D2.frame _ _ _ sy λc hc o e=>e5.extBut _ _ (fO hc D.c4) e;have zlt:z<g5.objs.size:=Qq9 hz5;show wpAny _ _ (Builtin.SmallTypes.ownedTupleHandOut (.ref z) (.ref g5.objs.size) >>= _) _ _ _;refine Qqz ?_;unfold Builtin.SmallTypes.ownedTupleHandOut;have hz6:IsZip (g5.push { cls:=.type "tuple",data:=.seq #[x,y] }) z TI TO .ellipsis:=Qq0 _ hz5;refine Qqz (Qj4 hz6 (by simp) λg7 hz7 e7=>?_)
 replace hz7:IsZip g7 z TI TO (rawInt g5.objs.size):=hz7
 refine Qj4 hz7 (by simp) λg8 hz8 e8=>?_
 replace hz8:IsZip g8 z TI TO (rawInt g5.objs.size):=hz8
 have up:∀c o,c≠z->g5.get? c=some o->g8.get? c=some o:=λc o c1 e=>e8.extBut _ _ c1 (e7.extBut _ _ c1 (Qq0 _ e));have t8:IsPair g8 g5.objs.size x y:=e8.extBut _ _ (Qjk zlt) (e7.extBut _ _ (Qjk zlt) (Qww _ rfl));have l8:g8.objs.size=g5.objs.size+1:=by rw[e8.1,e7.1,Qz3]
 rw[hsz] at hz8 t8 l8;refine Qq5 ⟨_,rfl,?_⟩;show Q (.ref g5.objs.size) _;rw[hsz];exact q x y g8 _ px py hz8 (up _ _ D.a2 t5) (D1.frame _ _ _ s15 λc hc o e=>up c o (fO hc D.c1) e) (D2.frame _ _ _ s25 λc hc o e=>up c o (fO hc D.c2) e) t8 l8 λc o c1 c2 c3 c4 e=>up c o c1 (ad9 c o c1 c2 c3 c4 e)
theorem Vn{Q:Fin->Shared->Prop}(D:Ap z TI TO j1 j2 f1 f2)(D1:Draws prog w A j1 f1 n1 P1 S1)(D2:Draws prog w A j2 f2 n2 P2 S2)(hk:k=n1\/(k<n1/\k=n2))
  (hz:IsZip s.heap z TI TO .none) (hTI:IsPair s.heap TI (.ref j1) (.ref j2)) (hTO:IsPair s.heap TO a b) (s1:S1 k s.heap) (s2:S2 k s.heap)
  (q:∀g e tk,(∀c o,c≠z->c≠TO->c≠j1->c≠j2->s.heap.get? c=some o->g.get? c=some o)->(∃o,g.get? e=some o/\o.cls = .type "StopIteration")->E (.ref e) { s with heap:=g,toks:=tk }) :
  wpAny (model prog w) A (Builtin.«zip.__next__» ⟨[.ref z],[]⟩) Q E s:=by
 have Xy:j1≠z:=fO D.b1 D.c1;have abW:j2≠z:=fO D.b2 D.c2;have abX:j1≠TO:=fO D.b1 D.c3;have aeE:j2≠TO:=fO D.b2 D.c4;show wpAny _ _ (field (.ref z) 2 >>= _) _ _ _;refine Qqz (Qz5 hz rfl (x:=.bool false) rfl ?_);show wpAny _ _ (field (.ref z) 3 >>= _) _ _ _;refine Qqz (Qz5 hz rfl (x:=.ref TI) rfl ?_);refine Qqz (Qjv hTI rfl ?_);show wpAny _ _ (Builtin.SmallTypes.ownedTupleIsFree (.ref z) >>= _) _ _ _;refine Qqz ?_;unfold Builtin.SmallTypes.ownedTupleIsFree;refine Qqz (Qz5 hz rfl (x:=.none) rfl (Qq5 ?_));simp only[if_true];refine Qqz (wpAny_rule ?_);refine Qqz (Qz5 hz rfl (x:=.ref TO) rfl ?_);refine Qqz (Qj4 hz (by simp) λg1 hz1 e1=>?_)
 replace hz1:IsZip g1 z TI TO .ellipsis:=hz1
 refine Qqz ?_;simp only[List.zipIdx_cons,List.zipIdx_nil,Qkw,Qj5];refine Qqz (Qqz (wpAny_onRaise ?_));show wpAny _ _ (Builtin.SmallTypes.nextOf (.ref j1) >>= _) _ _ _;have s1':S1 k g1:=D1.frame k _ _ s1 λc hc o e=>e1.extBut _ _ (fO hc D.c1) e;rcases hk with rfl|⟨k1,rfl⟩
 ·refine Qqz (D1.done { s with heap:=g1 } _ _ s1' λg2 e x2 he=>?_);obtain⟨oe,hoe,hce⟩:=he;have hz2:IsZip g2 z TI TO .ellipsis:=x2 _ _ Xy.symm hz1;have hez:e≠z:=λx=>by subst x;rw[hz2] at hoe;cases hoe;simp at hce
  exact Qj4 hz2 (by simp) λg3 _ e3=>q g3 e s.toks (λc o c1 _ c3 _ x=>e3.extBut _ _ c1 (x2 _ _ c3 (e1.extBut _ _ c1 x))) ⟨oe,e3.extBut _ _ hez hoe,hce⟩
 ·refine Qqz (D1.item k { s with heap:=g1 } _ _ k1 s1' λx g2 tk2 px sx e2=>Qq5 ?_);have t2:IsPair g2 TO a b:=e2.extBut _ _ abX.symm (e1.extBut _ _ D.a2 hTO);refine Qqz (Qjv t2 rfl ?_);refine Qqz (wpAny_updateSeq_pair t2 λg3 t3 e3=>?_);refine Qqz (wpAny_letGo (Qq5 ?_));refine Qqz (Qqz (wpAny_onRaise ?_));show wpAny _ _ (Builtin.SmallTypes.nextOf (.ref j2) >>= _) _ _ _;have VP:S2 k g3:=D2.frame k _ _ s2 λc hc o e=>e3.extBut _ _ (fO hc D.c4) (e2.extBut _ _ (fO hc D.c8) (e1.extBut _ _ (fO hc D.c2) e));refine Qqz (D2.done { s with heap:=g3,toks:=tk2 } _ _ VP λg4 e x4 he=>?_);obtain⟨oe,hoe,hce⟩:=he;have hz4:IsZip g4 z TI TO .ellipsis:=x4 _ _ abW.symm (e3.extBut _ _ D.a2.symm (e2.extBut _ _ Xy.symm hz1));have hez:e≠z:=λx=>by subst x;rw[hz4] at hoe;cases hoe;simp at hce
  exact Qj4 hz4 (by simp) λg5 _ e5=>q g5 e tk2 (λc o c1 c2 c3 c4 x=>e5.extBut _ _ c1 (x4 _ _ c4 (e3.extBut _ _ c2 (e2.extBut _ _ c3 (e1.extBut _ _ c1 x))))) ⟨oe,e5.extBut _ _ hez hoe,hce⟩
theorem yl{Q:Option Value->Shared->Prop}(D:Ap z TI TO j1 j2 f1 f2)(D1:Draws prog w A.in1 j1 f1 n1 P1 S1)(D2:Draws prog w A.in1 j2 f2 n2 P2 S2)(k1:k<n1)(k2:k<n2)
  (hz:IsZip s.heap z TI TO .none) (hTI:IsPair s.heap TI (.ref j1) (.ref j2)) (hTO:IsPair s.heap TO a b) (s1:S1 k s.heap) (s2:S2 k s.heap)
  (q:∀x y g tk,P1 k x->P2 k y->IsZip g z TI TO (rawInt s.heap.objs.size)->IsPair g TO x y->S1 (k+1) g->S2 (k+1) g->IsPair g s.heap.objs.size x y->g.objs.size=s.heap.objs.size+1->
   (∀c o,c≠z->c≠TO->c≠j1->c≠j2->s.heap.get? c=some o->g.get? c=some o)->Q (some (.ref s.heap.objs.size)) { s with heap:=g,toks:=tk }) :
  wpAny (model prog w) A (pyNext (.ref z)) Q E s:=by
 have hT:s.TypeIs (.ref z) "zip":=⟨_,hz,rfl⟩;unfold pyNext;exact Qqz (wpAny_attempt (Qjj (name:=Str.ofString "__next__") hT F.slot_zip_next (Qz7 F.slot_zip_next hT F.entry_zip_next
  (Qw D D1 D2 k1 k2 hz hTI hTO s1 s2 λx y g tk u1 u2 u3 u4 u5 u6 u7 u8 u9=>Qq5 (q x y g tk u1 u2 u3 u4 u5 u6 u7 u8 u9)) (F.args_zip_next_1 _))))
theorem zy{Q:Option Value->Shared->Prop}(D:Ap z TI TO j1 j2 f1 f2)(D1:Draws prog w A.in1 j1 f1 n1 P1 S1)(D2:Draws prog w A.in1 j2 f2 n2 P2 S2)(hk:k=n1\/(k<n1/\k=n2))
  (hz:IsZip s.heap z TI TO .none) (hTI:IsPair s.heap TI (.ref j1) (.ref j2)) (hTO:IsPair s.heap TO a b) (s1:S1 k s.heap) (s2:S2 k s.heap)
  (q:∀g tk,(∀c o,c≠z->c≠TO->c≠j1->c≠j2->s.heap.get? c=some o->g.get? c=some o)->Q none { s with heap:=g,toks:=tk }):wpAny (model prog w) A (pyNext (.ref z)) Q E s:=by
 have hT:s.TypeIs (.ref z) "zip":=⟨_,hz,rfl⟩;unfold pyNext;refine Qqz (wpAny_attempt (Qjj (name:=Str.ofString "__next__") hT F.slot_zip_next (Qz7 F.slot_zip_next hT F.entry_zip_next
  (Vn D D1 D2 hk hz hTI hTO s1 s2 λg e tk hkp he=>?_) (F.args_zip_next_1 _))))
 obtain⟨o,ho,hc⟩:=he;refine Qqz (wpAny_isInstance (T:="StopIteration") (b:=true) ⟨o,ho,hc⟩ isSubtype_stop ?_);exact Qq5 (q _ _ hkp)
end
end ZT
namespace L2
open PySem PySem.Spec PyProof.Rows PySem.Builtin ZT
def Itz(K:PySem.W.Frag)(a1 a2:Addr):It:=
 ⟨λi H=>∃xs ys x y,mD K H a1 xs/\mD K H a2 ys/\xs[i]? = some x/\ys[i]? = some y,
 λi H v H'=>∃p x y,(∀xs,mD K H a1 xs->xs[i]? = some x)/\(∀ys,mD K H a2 ys->ys[i]? = some y)/\H p=none/\H'=upd H p (.tup [x,y])/\v = .ref p,
 λi H=>∃xs ys,mD K H a1 xs/\mD K H a2 ys/\(i=xs.length\/(i<xs.length/\i=ys.length))⟩
structure Apz(z TI TO j1 j2 a1 a2:Addr):Prop where
 t1:TI≠z
 t2:TO≠z
 t3:TI≠TO
 t4:j1≠j2
 b1:z ∉ [j1,a1]
 b2:z ∉ [j2,a2]
 b3:TO ∉ [j1,a1]
 b4:TO ∉ [j2,a2]
 b5:TI ∉ [j1,a1]
 b6:TI ∉ [j2,a2]
 b7:j2 ∉ [j1,a1]
 b8:j1 ∉ [j2,a2]
 c1:a1≠j1
 c2:a2≠j2
theorem Apz.ap{z TI TO j1 j2 a1 a2:Addr}(D:Apz z TI TO j1 j2 a1 a2):Ap z TI TO j1 j2 [j1,a1] [j2,a2]:=⟨D.t1,D.t2,D.t3,D.t4,by simp,by simp,D.b1,D.b2,D.b3,D.b4,D.b5,D.b6,D.b7,D.b8⟩
theorem QR{P:Program}{w:World}{K:PySem.W.Frag}{elts:List Expr}{kk:Nat}{pos:Pos}(z TI TO j1 j2 a1 a2:Addr)(D:Apz z TI TO j1 j2 a1 a2) :
  Turn P w K (.Tuple elts kk pos) (Itz K a1 a2) [z,TI,TO,j1,j2] z (λi h=>IsZip h z TI TO .none/\IsPair h TI (.ref j1) (.ref j2)/\(∃a b,IsPair h TO a b)/\h.IsTupleIter j1 a1 i/\h.IsTupleIter j2 a2 i) where
 mem:=by simp
 obj:=λi h st b hb=>by
  obtain⟨hz,hTI,⟨a,c,hTO⟩,⟨o1,e1,_,d1⟩,o2,e2,_,d2⟩:=st;simp only[Qq4,Qw9,Qj2] at hb;rcases hb with rfl|rfl|rfl|rfl|rfl
  ·exact⟨_,hz,λv q=>by cases q⟩
  ·exact⟨_,hTI,λv q=>by cases q⟩
  ·exact⟨_,hTO,λv q=>by cases q⟩
  ·exact⟨o1,e1,λv q=>by rw[d1] at q;cases q⟩
  ·exact⟨o2,e2,λv q=>by rw[d2] at q;cases q⟩
 keep:=λi h h' st k=>by
  obtain⟨hz,hTI,⟨a,c,hTO⟩,⟨o1,e1,r1⟩,o2,e2,r2⟩:=st;exact⟨k z (by simp) _ hz,k TI (by simp) _ hTI,⟨a,c,k TO (by simp) _ hTO⟩,⟨o1,k j1 (by simp) _ e1,r1⟩,o2,k j2 (by simp) _ e2,r2⟩
 item:=by
  intro X hP hw hK hc i pins s σ H E I hf st hg;subst hP hw hK;obtain⟨hz,hTI,⟨a,b,hTO⟩,i1,i2⟩:=st;obtain⟨xs,ys,x,y,hx,hy,gx,gy⟩:=hg;obtain⟨us,ru,pu,zu⟩:=I.tuple hx;obtain⟨vs,rv,pv,zv⟩:=I.tuple hy;obtain⟨u,hu,rxu⟩:=ru.get gx;obtain⟨v,hv,ryv⟩:=rv.get gy;have lu:i<us.toArray.size:=by rw[Qq3];exact(Qqw.mp hu).1
  have lv:i<vs.toArray.size:=by rw[Qq3];exact(Qqw.mp hv).1
  have D1:Draws X.prog X.w X.A.in1 j1 [j1,a1] _ _ _:=rW (A:=X.A.in1) (show X.A.in1.handled=none from I.ok.hd hc) j1 a1 D.c1 us.toArray;have D2:Draws X.prog X.w X.A.in1 j2 [j2,a2] _ _ _:=rW (A:=X.A.in1) (show X.A.in1.handled=none from I.ok.hd hc) j2 a2 D.c2 vs.toArray;refine yl (A:=X.A) D.ap D1 D2 lu lv hz hTI hTO ⟨i1,pu⟩ ⟨i2,pv⟩ λx' y' g tk px py hz' agk s1 s2 hT hsz hk=>?_;have ex:x'=u:=by have:us.toArray[i]? = some x':=px;rw[List.getElem?_toArray,hu] at this;exact(Qw1 this).symm
  have ey:y'=v:=by have:vs.toArray[i]? = some y':=py;rw[List.getElem?_toArray,hv] at this;exact(Qw1 this).symm
  subst ex ey;refine⟨_,rfl,?_⟩;refine wpAny_letOwnedTupleGo_zip (s:={ s with heap:=g,toks:=tk }) hz' λg' hz'' e'=>?_;have sJ:∀b o,b≠z->g.get? b=some o->g'.get? b=some o:=λb o hb q=>(e'.2 b hb).trans q;have lts:∀b ∈ [z,TI,TO,j1,j2],b<s.heap.objs.size:=λb hb=>by
   simp only[Qq4,Qw9,Qj2] at hb;rcases hb with rfl|rfl|rfl|rfl|rfl
   ·exact Qq9 hz
   ·exact Qq9 hTI
   ·exact Qq9 hTO
   ·obtain⟨_,q,_⟩:=i1;exact Qq9 q
   ·obtain⟨_,q,_⟩:=i2;exact Qq9 q
  have nT:H s.heap.objs.size=none:=I.hok.fresh (Qq1 _);refine⟨.ref s.heap.objs.size,upd H s.heap.objs.size (.tup [x,y]),I.drawn (t':=tk) (ch:=[z,TI,TO,j1,j2]) hf (λb o hb q=>?_) (Qq1 _) ?_,rfl,⟨_,x,y,λzs hq=>by rw[I.vP hq hx];exact gx,λzs hq=>by rw[I.vP hq hy];exact gy,nT,rfl,rfl⟩,⟨hz'',?_,⟨_,_,sJ TO _ D.t2 agk⟩,?_,?_⟩,λb hb=>?_⟩
  ·have n1:b≠z:=λq=>hb (by simp[q]);exact sJ b o n1 (hk b o n1 (λq=>hb (by simp[q])) (λq=>hb (by simp[q])) (λq=>hb (by simp[q])) q)
  ·exact⟨by show 2<=sizeLine;decide,[x',y'],.cons rxu (.cons ryv .nil),_,sJ _ _ (Qjk (lts z (by simp))) hT,rfl,⟨_,rfl⟩,rfl⟩
  ·exact sJ TI _ D.t1 (hk TI _ D.t1 D.t3 (λq=>D.b5 (by simp[q])) (λq=>D.b6 (by simp[q])) hTI)
  ·obtain⟨o,q,r⟩:=s1.1;exact⟨o,sJ j1 o (λq=>D.b1 (by simp[q])) q,r⟩
  ·obtain⟨o,q,r⟩:=s2.1;exact⟨o,sJ j2 o (λq=>D.b2 (by simp[q])) q,r⟩
  ·rw[bG (Qxq (lts b hb))];exact(hf b hb).1
 done:=by intro X hP hw hK hc i pins s σ H E I hf st hg;subst hP hw hK;obtain⟨hz,hTI,⟨a,b,hTO⟩,i1,i2⟩:=st;obtain⟨xs,ys,hx,hy,hi⟩:=hg;obtain⟨us,ru,pu,zu⟩:=I.tuple hx;obtain⟨vs,rv,pv,zv⟩:=I.tuple hy;have l1:=ru.length;have l2:=rv.length;have D1:Draws X.prog X.w X.A.in1 j1 [j1,a1] _ _ _:=rW (A:=X.A.in1) (show X.A.in1.handled=none from I.ok.hd hc) j1 a1 D.c1 us.toArray;have D2:Draws X.prog X.w X.A.in1 j2 [j2,a2] _ _ _:=rW (A:=X.A.in1) (show X.A.in1.handled=none from I.ok.hd hc) j2 a2 D.c2 vs.toArray;refine zy (A:=X.A) (k:=i) D.ap D1 D2 (by rw[Qq3,Qq3];omega) hz hTI hTO ⟨i1,pu⟩ ⟨i2,pv⟩ λg tk hk=>⟨rfl,I.Lx (t':=tk) (ch:=[z,TI,TO,j1,j2]) hf λb o hb e=>?_⟩;exact hk b o (λq=>hb (by simp[q])) (λq=>hb (by simp[q])) (λq=>hb (by simp[q])) (λq=>hb (by simp[q])) e
 self:=λA i s Q E st h=>wpAny_pyIter_zip st.1 h
end L2
namespace ZT
open PySem PySem.Spec PyProof.Rows L2 PySem.Builtin
abbrev h1T(h:Heap)(l1:Addr):Heap:=h.push { cls:=.type "tuple_iterator",data:=.fields #[.ref l1,.int 0 0] }
abbrev h2T(h:Heap)(l1 l2:Addr):Heap:=(h1T h l1).push { cls:=.type "tuple_iterator",data:=.fields #[.ref l2,.int 0 0] }
abbrev h3T(h:Heap)(l1 l2:Addr):Heap:=(h2T h l1 l2).push { cls:=.type "tuple",data:=.seq #[.ref h.objs.size,.ref (h1T h l1).objs.size] }
abbrev h4T(h:Heap)(l1 l2:Addr):Heap:=(h3T h l1 l2).push { cls:=.type "tuple",data:=.seq #[.none,.none] }
abbrev h5T(h:Heap)(l1 l2:Addr):Heap:=(h4T h l1 l2).push { cls:=.type "zip",data:=.fields #[.none,.bool false,.bool false,.ref (h2T h l1 l2).objs.size,.ref (h3T h l1 l2).objs.size] }
theorem abd(l1 l2:Addr)(xs ys:Array Value):Meets (Builtin.«zip.__new__» ⟨[.type "zip",.ref l1,.ref l2],[]⟩) (λ_ R s=>s.heap.IsTuple l1 xs/\s.heap.IsTuple l2 ys/\
   R (.ok (.ret (.ref (h4T s.heap l1 l2).objs.size))) { s with heap:=h5T s.heap l1 l2 }):=
 .of_wp λprog w A R s h=>by
  obtain⟨hp,g,d,tk,os⟩:=s;obtain⟨hl1,hl2,h⟩:=h;have hsub:=sub_zip;have hL1:Heap.IsTuple (Shared.heap ⟨hp,g,d,tk,os⟩) l1 xs:=hl1;have hL2:Heap.IsTuple (Shared.heap ⟨hp.push { cls:=.type "tuple_iterator",data:=.fields #[.ref l1,.int 0 0] },g,d,tk,os⟩) l2 ys:=Heap.IsTuple.push hl2 _
  wp_walk using wpAny_pyIter_tuple hL1,wpAny_pyIter_tuple hL2
  exact⟨_,rfl,h⟩
section
variable{prog:Program}{w:World}{A:Around}{E:Value->Shared->Prop}{s:Shared}
theorem XQ{l1 l2:Addr}{xs ys:Array Value}{Q:Value->Shared->Prop}(hl1:s.heap.IsTuple l1 xs)(hl2:s.heap.IsTuple l2 ys)
  (h:∀g,IsZip g (s.heap.objs.size+4) (s.heap.objs.size+2) (s.heap.objs.size+3) .none->IsPair g (s.heap.objs.size+2) (.ref s.heap.objs.size) (.ref (s.heap.objs.size+1))->
   IsPair g (s.heap.objs.size+3) .none .none->g.IsTupleIter s.heap.objs.size l1 0->g.IsTupleIter (s.heap.objs.size+1) l2 0->g.objs.size=s.heap.objs.size+5->
   (∀c o,s.heap.get? c=some o->g.get? c=some o)->Q (.ref (s.heap.objs.size+4)) { s with heap:=g }) :
  wpAny (model prog w) A (call (.type "zip") [.ref l1,.ref l2]) Q E s:=by
 refine callType_new F.called_zip (by decide) (F.typeCall_zip_2 _ _) (F.newCall_zip_2 _ _) (λobj=>F.args_object_init_3 obj _ _) F.entry_zip_new (abd l1 l2 xs ys) ⟨hl1,hl2,?_⟩;have z1:(h1T s.heap l1).objs.size=s.heap.objs.size+1:=Qz3 ..;have z2:(h2T s.heap l1 l2).objs.size=s.heap.objs.size+2:=by rw[Qz3,z1]
 have z3:(h3T s.heap l1 l2).objs.size=s.heap.objs.size+3:=by rw[Qz3,z2]
 have z4:(h4T s.heap l1 l2).objs.size=s.heap.objs.size+4:=by rw[Qz3,z3]
 have z5:(h5T s.heap l1 l2).objs.size=s.heap.objs.size+5:=by rw[Qz3,z4]
 have g5:(h5T s.heap l1 l2).get? (h4T s.heap l1 l2).objs.size=some _:=Qww _ rfl;have g4:(h5T s.heap l1 l2).get? (h3T s.heap l1 l2).objs.size=some _:=Qq0 _ (Qww _ rfl);have g3:(h5T s.heap l1 l2).get? (h2T s.heap l1 l2).objs.size=some _:=Qq0 _ (Qq0 _ (Qww _ rfl));have g2:(h5T s.heap l1 l2).get? (h1T s.heap l1).objs.size=some _:=Qq0 _ (Qq0 _ (Qq0 _ (Qww _ rfl)));have g1:(h5T s.heap l1 l2).get? s.heap.objs.size=some _:=Qq0 _ (Qq0 _ (Qq0 _ (Qq0 _ (Qww _ rfl))));show _/\_;rw[z2,z3,z4] at g5;rw[z1,z2] at g3;rw[z3] at g4;rw[z1] at g2;rw[z4];exact⟨⟨_,g5,rfl⟩,h _ g5 g3 g4 ⟨_,g1,rfl,rfl⟩ ⟨_,g2,rfl,rfl⟩ z5 λc o x=>Qq0 _ (Qq0 _ (Qq0 _ (Qq0 _ (Qq0 _ x))))⟩
end
end ZT
namespace L2
open PySem PySem.Spec PyProof.Rows PySem.Builtin ZT
section
variable{X:Cx}
def af8(K:PySem.W.Frag)(ta:TA):TI:=λσ H R=>ta σ H λvs H1=>∃a1 a2,vs=[.ref a1,.ref a2]/\(∃xs,mD K H1 a1 xs)/\(∃ys,mD K H1 a2 ys)/\R (Itz K a1 a2) H1
theorem aap{elts:List Expr}{k:Nat}{tp:Pos}{a b:Expr}{ta:TA}{p pos:Pos}(hg:Gl X "zip")(hm:X.mg "zip" = none)(ha:PA X [a,b] ta)(hs:starEach [a,b] X.env=(false,eval a X.env)::starEach [b] X.env:=by rfl)(hs2:starEach [b] X.env=[(false,eval b X.env)]:=by rfl):PI X (.Tuple elts k tp) (.Call (.Name "zip" p) [a,b] [] pos) (af8 X.K ta):=by
 intro pins s σ H R I h;refine Call_ (wI I hg hm PyProof.Rows.boot_zip (Qj0 (fK (ha pos pins s σ H _ I h) λus s1 ⟨vs,H1,I1,r1,q1⟩=>?_) hs (by rw[hs2];rfl)));obtain⟨a1,a2,e,⟨xs,hx⟩,⟨ys,hy⟩,q⟩:=q1;subst e;cases r1 with
 | cons r rr=>
  cases rr with
  | cons r' rr'=>
   cases rr';cases r;cases r';obtain⟨u1,ru1,p1,z1⟩:=I1.tuple hx;obtain⟨u2,ru2,p2,z2⟩:=I1.tuple hy;have lt1:a1<s1.heap.objs.size:=by obtain⟨_,e,_⟩:=p1;exact Qq9 e
   have Dd:a2<s1.heap.objs.size:=by obtain⟨_,e,_⟩:=p2;exact Qq9 e
   refine XQ p1 p2 λg hz hTI hTO i1 i2 hsz hk=>?_;refine wpAny_pyIter_zip hz ?_;have I2:Inv X pins σ H1 { s1 with heap:=g }:=I1.kept (t':=s1.toks) hk;have own:∀b,s1.heap.objs.size<=b->uq X pins H1 b:=λb hb=>I1.Ub hb (I1.hok.fresh hb);generalize hn:s1.heap.objs.size=n at *;have ne:∀{c d:Nat},c<d->(c:Addr)≠d:=λh e=>Qzz _ (by subst e;exact h);have ne':∀{c d:Nat},d<c->(c:Addr)≠d:=λh e=>Qzz _ (by subst e;exact h);have D:Apz (n+4) (n+2) (n+3) n (n+1) a1 a2:={
    t1:=ne (by omega),t2:=ne (by omega),t3:=ne (by omega),t4:=ne (by omega)
    b1:=by simp only[Qq4,Qw9,Qj2,not_or];exact⟨ne' (by omega),ne' (Qwx lt1 (by omega))⟩
    b2:=by simp only[Qq4,Qw9,Qj2,not_or];exact⟨ne' (by omega),ne' (Qwx Dd (by omega))⟩
    b3:=by simp only[Qq4,Qw9,Qj2,not_or];exact⟨ne' (by omega),ne' (Qwx lt1 (by omega))⟩
    b4:=by simp only[Qq4,Qw9,Qj2,not_or];exact⟨ne' (by omega),ne' (Qwx Dd (by omega))⟩
    b5:=by simp only[Qq4,Qw9,Qj2,not_or];exact⟨ne' (by omega),ne' (Qwx lt1 (by omega))⟩
    b6:=by simp only[Qq4,Qw9,Qj2,not_or];exact⟨ne' (by omega),ne' (Qwx Dd (by omega))⟩
    b7:=by simp only[Qq4,Qw9,Qj2,not_or];exact⟨ne' (by omega),ne' (Qwx lt1 (by omega))⟩
    b8:=by simp only[Qq4,Qw9,Qj2,not_or];exact⟨ne (by omega),ne' Dd⟩
    c1:=ne lt1,c2:=ne (Qwx Dd (by omega)) }
   refine⟨n+4,[n+4,n+2,n+3,n,n+1],_,_,H1,rfl,I2,QR _ _ _ _ _ a1 a2 D,⟨hz,hTI,⟨_,_,hTO⟩,i1,i2⟩,λb hb=>own b ?_,q⟩;simp only[Qq4,Qw9,Qj2] at hb;rcases hb with rfl|rfl|rfl|rfl|rfl
   ·exact Nat.le_add_right _ _
   ·exact Nat.le_add_right _ _
   ·exact Nat.le_add_right _ _
   ·exact Qq1 _
   ·exact Nat.le_add_right _ _
end
end L2
namespace Ev
open PySem PySem.Spec PyProof.Rows L2 PySem.Builtin
section
variable{X:Cx}{C:Cfg}{pos:Pos}{e e2:Expr}
def vL(x y:List D):List D:=(x.zip y).map λp=>.tup [p.1,p.2]
def Ai(a:eN):eN:=λenv=>bindR (a env) λds aL=>match ds with
 | [.tup x,.tup y]=>.ok (vL x y) aL
 | _=>.stuck
theorem Er{K:Fg}{F:Hp}:∀{ds:List D} {vs:List V},bL K F ds vs->∀{i:Nat} {d:D},ds[i]? = some d->∃v,vs[i]? = some v/\Rep K F d v
 | [],vs,_,i,d,h=>by simp at h
 | x::ds,vs,r,i,d,h=>by
  obtain⟨v,w,rfl,p,q⟩:=r;cases i with
  | zero=>simp at h;subst h;exact⟨v,rfl,p⟩
  | succ i=>obtain⟨u,h1,h2⟩:=Er q (i:=i) (by simpa using h);exact⟨u,by simpa using h1,h2⟩
end
open PySem PySem.Spec PyProof.Rows L2
section
variable{X:Cx}{C:Cfg}{pos:Pos}{x y z:Expr}{a b c:Ev}{n:Str}
theorem Xl{K:Fg}{h:Heap}{mg:Str->Option Value}{x:Str}{i:Int}{t:Tok}(X:K.In h)(G:h.Ns mainGlobals mg)(a:PySem.W.nsIn K mainGlobals x=some (some (.int i t))):Glb K mg x (.int i):=
 ⟨.int i,_,PySem.W.mg_of X G a,⟨t,rfl⟩,λF=>rfl⟩
def G4(i:Nat)(a:Ev):bU:=λenv=>match env[i]? with
 | some (some (true,.lst _))=>gM (a env) λd aL=>(match aL[i]?,d with
  | some (some (true,.lst xs)),.lst zs=>if xs.length+zs.length<=sizeLine then .nx (aL.set i (some (true,.lst (xs++zs)))) else .stuck
  | _,_=>.stuck)
 | _=>.stuck
end
end Ev
namespace SX
open PySem PySem.Spec PyProof.Rows L2 PySem.Builtin
def led(w:World):Bool:=!(w.params.followText "set-order")
structure TOk(P:Program)(w:World)(es:Array (Int×Value))(t:SetTable)(ys:List Str):Prop where
 el:ElemsOf (strKind P w) es.toList
 tx:∃ss:List Str,StrsAre (es.toList.map (·.2)) ss/\ss.Perm ys
 fit:t.fits es.size=true
 ld:t.led=led w
 pl:es.size≠0->t.plain=false
def Li(P:Program)(w:World)(h:Heap)(a:Addr)(ys:List Str):Prop:=
 ∃o es ep t,h.get? a=some o/\o.ExactSet/\o.data = .set es ep t/\TOk P w es t ys
open PySem PySem.Spec PyProof.Rows L2 PySem.Builtin Ev
def aeO(P:Program)(w:World)(a:Addr)(ys:List Str):HO:=.ext λh=>Li P w h a ys
theorem rM{x y:List Nat}(h:Ev.strOf x=Ev.strOf y):x=y:=by
 have:=Qz4 (λs:Str=>s.cps.toList) h
 simpa[Ev.strOf] using this
end SX
namespace Ev
open PySem PySem.Spec PyProof.Rows L2 PySem.Builtin
section
variable{X:Cx}{C:Cfg}{pos:Pos}
structure PXL(X:Cx)(C:Cfg)(es:List Expr)(ev:eN):Prop where
 go:U7 X C es ev
theorem Wd:PXL X C [] ak:=⟨Mi⟩
end
open PySem L2
theorem nr{α:Type}{a b:α}(h:a=b):a=b:=h
theorem bR{α β:Type}(a:α)(e:Env)(f:α->Env->R β):bindR (.ok a e) f=f a e:=nr rfl
def cu{α:Type}(_:Env):R α:=.stuck
theorem ZW(n:Nat):mJ 0 1 n=(List.range n).map λ(i:Nat)=>D.int (i:Int):=by
 unfold mJ;apply Qj1;intro i _
 congr 1
 omega
theorem afU{n:Nat}(h:n<2^62):zq [.int (n:Int)]=some ((List.range n).map λ(i:Nat)=>D.int (i:Int)):=by
 have hf:nq (n:Int)=true:=by unfold nq;simp only[Qzx,decide_eq_true_eq];omega
 show(if nq (n:Int)=true then some (mJ 0 1 (n:Int).toNat) else none)=_;rw[if_pos hf,Qk1,ZW]
theorem YQ{α:Type}{g:GV}{c:gn}{e:Ev}(enc:α->D)(ext:α->Env)(p:α->Bool)(out:α->D)(env:Env)(k:Nat):∀(l:List α) (vs:Env),vs.length=k->
  (∀a∈l,(ext a).length=k/\(∀vs:Env,vs.length=k->g (enc a) (env++vs)=some (env++ext a))/\c (env++ext a) = .ok (p a) (env++ext a)/\(p a=true->e (env++ext a) = .ok (out a) (env++ext a)))->
  ∃vs',vs'.length=k/\Kv g c e (l.map enc) (env++vs) = .ok ((l.filter p).map out) (env++vs')
 | [],vs,hv,_=>⟨vs,hv,rfl⟩
 | a::l,vs,hv,h=>by
  obtain⟨h1,h2,h3,h4⟩:=h a Qqj;obtain⟨vs',h5,h6⟩:=YQ enc ext p out env k l (ext a) h1 λb hb=>h b (Qqq _ hb);refine⟨vs',h5,?_⟩;rw[Qq8];unfold Kv;rw[h2 vs hv];show bindR (c (env++ext a)) _=_;rw[h3,bR];cases hp:p a with
  | true=>rw[if_pos rfl,h4 hp,bR,h6,bR,List.filter_cons_of_pos hp,Qq8]
  | false=>rw[if_neg Qw6,h6,List.filter_cons_of_neg (by rw[hp];exact Qw6)]
theorem Ug{α:Type}{lo n:Nat}{it:eN}{g:GV}{c:gn}{e:Ev}{env aL:Env}(l:List α)(enc:α->D)(ext:α->Env)(p:α->Bool)(out:α->D)(hit:it env = .ok (l.map enc) aL)(hlo:aL.length=lo)
  (h:∀a∈l,(ext a).length=n - lo/\(∀vs:Env,vs.length=n - lo->g (enc a) (aL++vs)=some (aL++ext a))/\c (aL++ext a) = .ok (p a) (aL++ext a)/\(p a=true->e (aL++ext a) = .ok (out a) (aL++ext a)))
  (hz:l.length<=sizeLine):iZ lo n it g c e env = .ok (.lst ((l.filter p).map out)) aL:=by
 obtain⟨vs',h5,h6⟩:=YQ enc ext p out aL (n - lo) l (List.replicate (n - lo) none) Qx4 h;have:=vf hit hlo h6 (Qq2 (by rw[Qqv];exact List.length_filter_le _ _) hz);rw[this,<-hlo,List.take_left]
theorem abT{α:Type}{lo n:Nat}{it:eN}{e:Ev}{env aL:Env}(l:List α)(enc:α->D)(out:α->D)(hit:it env = .ok (l.map enc) aL)(hlo:aL.length=lo)(hn:n=lo+1)
  (h:∀a∈l,e (aL++[some (false,enc a)]) = .ok (out a) (aL++[some (false,enc a)])) (hz:l.length<=sizeLine):iZ lo n it (aj lo) gG e env = .ok (.lst (l.map out)) aL:=by
 subst hn hlo;have:=Ug (lo:=aL.length) (n:=aL.length+1) (it:=it) (g:=aj aL.length) (c:=gG) (e:=e) (env:=env) l enc (λa=>[some (false,enc a)]) (λ_=>true) out hit rfl (λa ha=>⟨by simp,λvs hv=>?_,rfl,λ_=>h a ha⟩) hz
 ·rw[this,List.filter_eq_self.mpr (λ_ _=>rfl)]
 ·have hv:vs.length=1:=by omega
  obtain⟨v,rfl⟩:=List.length_eq_one_iff.mp hv;unfold aj;rw[List.set_append_right _ _ (Qq1 _),Nat.sub_self]
  rfl
theorem Nb{α:Type}{lo n:Nat}{it:eN}{c:gn}{e:Ev}{env aL:Env}(l:List α)(enc:α->D)(p:α->Bool)(out:α->D)(hit:it env = .ok (l.map enc) aL)(hlo:aL.length=lo)(hn:n=lo+1)
  (hc:∀a∈l,c (aL++[some (false,enc a)]) = .ok (p a) (aL++[some (false,enc a)]))
  (h:∀a∈l,p a=true->e (aL++[some (false,enc a)]) = .ok (out a) (aL++[some (false,enc a)])) (hz:l.length<=sizeLine):iZ lo n it (aj lo) c e env = .ok (.lst ((l.filter p).map out)) aL:=by
 subst hn hlo;refine Ug (lo:=aL.length) (n:=aL.length+1) l enc (λa=>[some (false,enc a)]) p out hit rfl (λa ha=>⟨by simp,λvs hv=>?_,hc a ha,λhp=>h a ha hp⟩) hz;have hv:vs.length=1:=by omega
 obtain⟨v,rfl⟩:=List.length_eq_one_iff.mp hv;unfold aj;rw[List.set_append_right _ _ (Qq1 _),Nat.sub_self]
 rfl
structure SX(X:Cx)(C:Cfg)(e:Expr)(ev:Ev):Prop where
 u:Ev.PX X C e ev
structure Ny(X:Cx)(C:Cfg)(e:Expr)(ev:Ev):Prop where
 u:Ev.U6 X C e ev
structure Ye(X:Cx)(C:Cfg)(e:Expr)(ev:Ev):Prop where
 u:Ev.Vl X C e ev
structure Lj(X:Cx)(C:Cfg)(e:Expr)(ev:gn):Prop where
 u:Ev.PXT X C e ev
structure SXW(X:Cx)(C:Cfg)(e:Expr)(ev:gn):Prop where
 u:Ev.PXW X C e ev
structure Lk(X:Cx)(C:Cfg)(e:List Expr)(ev:eN):Prop where
 u:Ev.U7 X C e ev
structure Ca(X:Cx)(C:Cfg)(e:List Expr)(ev:eN):Prop where
 u:Ev.Yj X C e ev
structure SXL(X:Cx)(C:Cfg)(e:List Expr)(ev:eN):Prop where
 u:Ev.PXL X C e ev
structure Gn(X:Cx)(C:Cfg)(e:Stmt)(ev:bU):Prop where
 u:Ev.Vk X C e ev
structure eV(X:Cx)(C:Cfg)(e:List Stmt)(ev:bU):Prop where
 u:Ev.sE X C e ev
structure Yg(X:Cx)(C:Cfg)(e:List Expr)(ev:gn):Prop where
 u:Ev.Qm X C e ev
structure SXP(X:Cx)(C:Cfg)(e:Option Expr)(ev:Zu):Prop where
 u:Ev.PXP X C e ev
structure SXI(X:Cx)(C:Cfg)(tg e:Expr)(ev:eN):Prop where
 u:Ev.Zo X C tg e ev
structure Zk(X:Cx)(C:Cfg)(lo:Nat)(e:Expr)(ev:GV):Prop where
 u:Ev.Yi X C lo e ev
structure Yh(X:Cx)(C:Cfg)(lo:Nat)(e:List Expr)(ev:Vm):Prop where
 u:Ev.acr X C lo e ev
section
variable{X:Cx}{C:Cfg}{pos p px:Pos}{x y z:Expr}{a b c:Ev}{t u:gn}{i:Nat}{n:Str}{e:Expr}{es:List Expr}{ea:eN}{apos:Pos}{e2:Expr}
theorem aC{e:Expr}{es:List Expr}{a:Ev}{r:eN}(ha:SX X C e a)(hr:Lk X C es r)(hs:starEach (e::es) X.env=(false,eval e X.env)::starEach es X.env:=by rfl):Lk X C (e::es) (aa a r):=⟨Ev.Ho ha.u hr.u hs⟩
theorem aZ(i:Nat)(hN:X.N[i]? = some n:=by rfl)(hv:vH X.env.scope n:=by first|exact Or.inl rfl|exact Or.inr (Or.inl rfl)|exact Or.inr (Or.inr rfl))(hd:lR n:=by decide)(hcd:uR n:=by decide):SX X C (.Name n pos) (aM i):=⟨aaa i hN hv hd hcd⟩
theorem cB{X:Cx}{C:Cfg}{n:Str}{pos:Pos}{es:List Expr}{r:eN}(i:Nat)(hr:Lk X C es r)(hN:X.N[i]? = some n:=by rfl)(hv:vH X.env.scope n:=by first|exact Or.inl rfl|exact Or.inr (Or.inl rfl)|exact Or.inr (Or.inr rfl))(hd:lR n:=by decide)(hcd:uR n:=by decide)(hs:starEach (.Name n pos::es) X.env=(false,eval (.Name n pos) X.env)::starEach es X.env:=by rfl):Lk X C (.Name n pos::es) (aa (aM i) r):=aC (aZ i hN hv hd hcd) hr hs
theorem au  : Lk X C [] ak:=⟨Ev.Mi ⟩
theorem bj{e:Expr}{ev:Ev}(h:SX X C e ev):Ny X C e ev:=⟨Ev.PX.b h.u⟩
theorem aV{i:Int}{j:Nat}:SX X C (.Constant (.int i) j pos) (ji (.int i)):=⟨Ev.aaf ⟩
theorem ao{st:Stmt}{rest:List Stmt}{a b:bU}(h1:Gn X C st a)(h2:eV X C rest b):eV X C (st::rest) (aB a b):=⟨(RQ h1.u h2.u).imp λD σ H h=>by
 obtain⟨Pr,F,env,r,f⟩:=h;refine⟨Pr,F,env,r,?_⟩;unfold aB at f;cases e:a env with
 | nx e1=>rw[e] at f;exact λσ' H' F' r' s'=>⟨Pr,F',e1,r',f.mono s'⟩
 | rt o d e1=>rw[e] at f;cases o<;>exact f
 | bk e1=>rw[e] at f;exact f
 | ct e1=>rw[e] at f;exact f
 | stuck=>rw[e] at f;exact f⟩
theorem aG{st:Stmt}{a:bU}(h1:Gn X C st a):eV X C [st] a:=⟨Mq h1.u⟩
theorem aN{lo:Nat}(i:Nat)(hnd:jN X.N=true:=by rfl)(hlo:Nat.ble lo i=true:=by rfl)(hfx:C.fx i=none:=by rfl)(hi:X.N[i]? = some n:=by rfl)(hx:Loc X.env.scope n:=by first|exact Or.inl rfl|exact Or.inr rfl)(hf:X.fn n=true\/X.env.scope.names.lookup n=some .local:=by first|exact .inl rfl|exact .inr rfl):Zk X C lo (.Name n pos) (aj i):=⟨RG (gA hnd) hi hx (Qzq hlo) hfx hf⟩
theorem bT(z:List Nat){x:Str}{j:Nat}(hz:x=strOf z:=by decide +kernel)(hl:z.length<=sizeLine:=by decide):SX X C (.Constant (.str x) j pos) (ji (.str z)):=⟨by
 subst hz;refine aaw.imp λσ H Q h=>?_;obtain⟨Pr,F,env,env',d,r,e,q⟩:=h;cases e;exact q _ _ F r (aO.refl F) ⟨rfl,hl⟩⟩
theorem cJ(i:Nat)(hN:X.N[i]? = some n:=by rfl)(hv:vH X.env.scope n:=by first|exact Or.inl rfl|exact Or.inr (Or.inl rfl)|exact Or.inr (Or.inr rfl))(hd:lR n:=by decide)(hcd:uR n:=by decide):Ny X C (.Name n pos) (bh i):=⟨Wg i hN hv hd hcd⟩
theorem bN{pos':Pos}(i:Nat)(he:SX X C e a)(hnd:jN X.N=true:=by rfl)(hfx:C.fx i=none:=by rfl)(hi:X.N[i]? = some n:=by rfl)(hx:Loc X.env.scope n:=by first|exact Or.inl rfl|exact Or.inr rfl)(hs:swapsWith e (some (.Name n pos')) pos.line X.env=pure false:=by rfl)(hf:X.fn n=true\/X.env.scope.names.lookup n=some .local:=by first|exact .inl rfl|exact .inr rfl):Gn X C (.Assign [.Name n pos'] e pos) (aQ a (aj i)):=⟨V8 (gA hnd) hi hx hfx he.u hs hf⟩
theorem aX{e:Expr}{a:Ev}(h:SX X C e a):Gn X C (.Return (some e) pos) (bw a):=⟨(Kl h.u).imp λD σ H hq=>by
 obtain⟨Pr,F,env,r,f⟩:=hq;obtain⟨d,aL,e1,f1⟩:=di f;exact⟨Pr,F,env,aL,d,r,e1,λv H1 F1 r1 s1 p1=>f1 v σ H1 F1 r1 s1 p1⟩⟩
theorem bJ{e:Expr}{a:Ev}(h:Ny X C e a)(hs:Ol e X.env:=by rfl):Ca X C [e] (aa a ak):=⟨(iD h.u tV hs).imp λσ H Q hq=>by
 obtain⟨Pr,F,env,env',ds,rl,e,q⟩:=hq;obtain⟨d1,aL,e1,e2⟩:=aU e;cases e2;exact⟨Pr,F,env,env',d1,rl,e1,λv H1 F1 r1 s1 p1=>q _ H1 F1 r1 s1 ⟨v,[],rfl,p1,rfl⟩⟩⟩
theorem bM{k k':Nat}{m:Nat}{ps:List Str}{g:List D->Option D}(O:Own X.prog X.w X.K X.mg X.base n k ps (lC X.K m g))(G:Good X C)(hr:gm k' X.A)(ha:Lk X C (e::es) ea)(hn:∀env ds env',ea env = .ok ds env'->ds.length=m)(hk:Nat.ble k k'=true:=by rfl)(hg:Gl X n:=by rfl)(hdb:lR n:=by decide)(he:starEach (e::es) X.env=(false,eval e X.env)::starEach es X.env:=by rfl)(hpl:(backTo pos (starEach es X.env)).any (·.1)=false:=by rfl):SX X C (.Call (.Name n p) (e::es) [] pos) (aq g ea):=⟨by
 obtain⟨f,fd,h1,h2,h3,h4⟩:=O;rw[G.K] at h1;have h1':lX X.prog X.w X.K X.mg X.base yc k f fd ps (lC C.K m g):=by rw[G.K];exact h1
 exact aab h1' (hr.mono (Qzq hk)) hg h2 h3 h4 ha.u hn hdb he hpl⟩
theorem cA{es:List Expr}{r:eN}{k:Nat}(h:Lk X C es r):SX X C (.Tuple es k pos) (bY r):=⟨(aav h.u).imp λσ H Q hq=>by
 obtain⟨Pr,F,env,env',d,rl,e,q⟩:=hq;obtain⟨ds,aL,e1,e2⟩:=aU e;split at e2
 ·rename_i hz;cases e2;refine⟨Pr,F,env,env',ds,rl,e1,λvs H1 F1 r1 s1 p1=>⟨by rw[p1.length];exact hz,λp hp=>?_⟩⟩;obtain⟨r2,s2⟩:=r1.new (o:=.tup vs) hp;exact q _ _ _ r2 (s1.trans s2) ⟨hz,p,vs,rfl,mD.of aW,bL.mono s2 _ _ p1⟩
 ·cases e2⟩
theorem aD{lo:Nat}{e:Expr}{es:List Expr}{g:GV}{gs:Vm}(h1:Zk X C lo e g)(h2:Yh X C lo es gs)(hs:(assignEach (e::es) X.env).map (·.2)=assign e X.env::(assignEach es X.env).map (·.2):=by rfl):Yh X C lo (e::es) (aH g gs):=⟨(R4 h1.u h2.u hs).imp λv σ H Q h=>by
 obtain⟨Pr,F,env,env',ds,r,p,e,q⟩:=h;cases ds with
 | nil=>cases e
 | cons d ds=>
  obtain⟨u,w,rfl,p1,p2⟩:=p;obtain⟨aL,e1,e2⟩:=Qx5.mp e;refine⟨u,w,rfl,Pr,F,env,aL,d,r,p1,e1,λσ1 H1 F1 r1 s1 t1=>?_⟩;exact⟨Pr,F1,aL,env',ds,r1,bL.mono s1 _ _ p2,e2,λσ2 H2 F2 r2 s2 t2=>q σ2 H2 F2 r2 (s1.trans s2) (t2.trans t1)⟩⟩
theorem fJ{e:Expr}{ev:Ev}(h:Ye X C e ev):SX X C e ev:=⟨Ev.Vl.px h.u⟩
theorem fL(i:Nat)(G:Good X C)(hb:Ny X C y b)(hN:X.N[i]? = some n:=by rfl)(hv:vH X.env.scope n:=by first|exact Or.inl rfl|exact Or.inr (Or.inl rfl)|exact Or.inr (Or.inr rfl))(hs:vJ y:=by intro _ _;rfl)(hd:lR n:=by decide)(hcd:uR n:=by decide):SX X C (.Subscript (.Name n px) y pos) (aA fD i b):=⟨aae i G.K hN hv hb.u hs hd hcd⟩
theorem jX{k k':Nat}{m:Nat}{ps:List Str}{g:List D->Option (D×D)}{v:Str}{pv:Pos}(i:Nat)(O:Own X.prog X.w X.K X.mg X.base n k ps (yX X.K m g))(G:Good X C)(hr:gm k' X.A)(ha:Lk X C es ea)(hn:∀env ds env',ea env = .ok ds env'->ds.length+1=m)(hk:Nat.ble k k'=true:=by rfl)(hN:X.N[i]? = some v:=by rfl)(hv:vH X.env.scope v:=by first|exact Or.inl rfl|exact Or.inr (Or.inl rfl)|exact Or.inr (Or.inr rfl))(hg:Gl X n:=by rfl)(hdb:lR n:=by decide)(he:starEach (.Name v pv::es) X.env=(false,eval (.Name v pv) X.env)::starEach es X.env:=by rfl)(hpl:(backTo pos (starEach es X.env)).any (·.1)=false:=by rfl)(hd:lR v:=by decide)(hcd:uR v:=by decide):SX X C (.Call (.Name n p) (.Name v pv::es) [] pos) (fP g i ea):=⟨by
 obtain⟨f,fd,h1,h2,h3,h4⟩:=O;rw[G.K] at h1;have h1':lX X.prog X.w X.K X.mg X.base yc k f fd ps (yX C.K m g):=by rw[G.K];exact h1
 exact adE hN hv h1' (hr.mono (Qzq hk)) hg h2 h3 h4 ha.u hn hdb he hpl hd hcd⟩
theorem iJ{op:Operator}{g:D->D->Option D}(o:Bi X C op g)(ha:SX X C x a)(hb:Ny X C y b):SX X C (.BinOp x op y pos) (aP g a b):=⟨let ⟨_,h1,h2⟩:=o.ex;adC h1 h2 ha.u hb.u⟩
theorem lZ{e:Expr}{es:List Expr}{a:Ev}{r:eN}(ha:SX X C e a)(hr:SXL X C es r)(hs:starEach (e::es) X.env=(false,eval e X.env)::starEach es X.env:=by rfl):SXL X C (e::es) (aa a r):=⟨⟨Ev.Ho ha.u hr.u.go hs⟩⟩
theorem jc{op:Operator}{g:D->D->Option D}(i:Nat)(o:Bi X C op g)(hb:Ny X C y b)(hN:X.N[i]? = some n:=by rfl)(hv:vH X.env.scope n:=by first|exact Or.inl rfl|exact Or.inr (Or.inl rfl)|exact Or.inr (Or.inr rfl))(hd:lR n:=by decide)(hcd:uR n:=by decide):SX X C (.BinOp (.Name n px) op y pos) (aA g i b):=⟨let ⟨_,h1,h2⟩:=o.ex;aac i hN hv h1 h2 hb.u hd hcd⟩
theorem cY{c:Expr}{a b:List Stmt}{t:gn}{ea eb:bU}(hc:Lj X C c t)(ha:eV X C a ea)(hb:eV X C b eb):Gn X C (.If c a b pos) (eE t ea eb):=⟨(adH hc.u ha.u hb.u).imp λD σ H h=>by
 obtain⟨Pr,F,env,r,f⟩:=h;obtain⟨k,aL,e1,f1⟩:=di f;refine⟨Pr,F,env,aL,k,r,e1,λH1 F1 r1 s1=>?_⟩;split at f1
 ·rename_i hk;rw[if_pos hk];exact⟨Pr,F1,aL,r1,f1.mono s1⟩
 ·rename_i hk;rw[if_neg hk];exact⟨Pr,F1,aL,r1,f1.mono s1⟩⟩
theorem cO{es:List Expr}{r:eN}(h:Lk X C es r):Ye X C (.List es pos) (cC r):=⟨Ev.Mh h.u⟩
theorem bZ  : eV X C [] bV:=⟨Ev.Rw ⟩
theorem jw{tg:Expr}(G:Good X C)(h:SX X C x a):SXI X C tg x (iH a):=⟨We G.K h.u⟩
theorem jL{b:Bool}{j:Nat}:SX X C (.Constant (.bool b) j pos) (ji (.bl b)):=⟨Ev.adF ⟩
theorem xD{elt tg iter:Expr}{ifs:List Expr}{scope:Scope}(N':List Str){it:eN}{g:GV}{cc:gn}{ee:Ev}(lo:Nat)(ok:m9 X scope N')(G:Good X C)(hi:SXI X C tg iter it)(bg:∀X',jV X scope N' X'->Zk X' C lo tg g)(bc:∀X',jV X scope N' X'->Yg X' C ifs cc)(be:∀X',jV X scope N' X'->SX X' C elt ee)(hs:∀x,foldedSetIterable iter X.env x=pure x:=by intro _;rfl):Ye X C (.ListComp elt [⟨tg,iter,ifs,0⟩] scope pos) (iZ lo N'.length it g cc ee):=⟨Ev.af1 N' lo ok G hi.u (λX1 h1=>(bg X1 h1).u) (λX1 h1=>(bc X1 h1).u) (λX1 h1=>(be X1 h1).u) hs⟩
theorem j6(G:Good X C)(hm:X.mg "len" = none)(ha:Ca X C [e] ea)(hg:Gl X "len":=by rfl)(he:Ol e X.env:=by rfl):SX X C (.Call (.Name "len" p) [e] [] pos) (aq fW ea):=⟨uM (by rw[<-G.K];exact Uu) ab5 hg hm PySem.boot_len ha.u (by decide) (by decide) he rfl⟩
theorem dC{e:Expr}{a:Ev}(h:SX X C e a)(he:∀whole,isTrue e X.env whole=(do let v <-whole;standAt e.pos;holding [v] (truthy v)):=by intro _;rfl):Lj X C e (dg a):=⟨(aaj h.u he).imp λσ H Q hq=>LK hq⟩
theorem bQ{lo:Nat}:Yh X C lo [] cG:=⟨Ev.RD ⟩
theorem dY{lo:Nat}{k:Nat}{gs:Vm}{m:Nat}(G:Good X C)(h:Yh X C lo es gs)(hn:(assignEach es X.env).length=m:=by rfl)(hst:(assignEach es X.env).findIdx? (·.1)=none:=by rfl):Zk X C lo (.Tuple es k pos) (cD m gs):=⟨Wf G.calm G.K h.u hn hst⟩
theorem mq{X:Cx}{C:Cfg}:Yg X C [] gG:=⟨Ev.RC ⟩
theorem j8{tg iter:Expr}{body:List Stmt}{it:eN}{g:GV}{bs:bU}(G:Good X C)(hi:SXI X C tg iter it)(hg:Zk X C 0 tg g)(hb:eV X C body bs)(hp:PassesOwn (model X.prog X.w) X.A X.env X.xe:=by exact PassesOwn.never)(hs:∀x,foldedSetIterable iter X.env x=pure x:=by intro _;rfl):Gn X C (.For tg iter body [] pos) (gq it g bs):=⟨Wa hp G.calm hi.u hg.u hb.u hs⟩
theorem sZ{op:CmpOp}{g:D->D->Option D}(o:Cm X C op g)(ha:SX X C x a)(hb:Ny X C y b)(hm:behindInMarks op y=false:=by rfl):Lj X C (.Compare x [op] [y] pos) (dg (aP g a b)):=⟨let ⟨_,h1,h2⟩:=o.ex;V7 h1 h2 ha.u hb.u hm⟩
theorem iM{pos':Pos}(i:Nat)(he:Ye X C e a)(hnd:jN X.N=true:=by rfl)(hfx:C.fx i=none:=by rfl)(hi:X.N[i]? = some n:=by rfl)(hx:Loc X.env.scope n:=by first|exact Or.inl rfl|exact Or.inr rfl)(hs:swapsWith e (some (.Name n pos')) pos.line X.env=pure false:=by rfl)(hf:X.fn n=true\/X.env.scope.names.lookup n=some .local:=by first|exact .inl rfl|exact .inr rfl):Gn X C (.Assign [.Name n pos'] e pos) (dq i a):=⟨V9 (gA hnd) hi hx hfx he.u hs hf⟩
theorem gY(G:Good X C)(hm:X.mg "tuple" = none)(ha:Ca X C [e] ea)(hg:Gl X "tuple":=by rfl)(he:Ol e X.env:=by rfl):SX X C (.Call (.Name "tuple" p) [e] [] pos) (aq dI ea):=⟨wF (T:="tuple") (r:=Rn C.K) (by rw[<-G.K];exact BW) Ur hg hm (by decide +kernel) ha.u (by decide) (by decide) he rfl⟩
theorem lN(G:Good X C)(ha:SX X C x a)(hb:Ny X C y b)(hs:vJ y:=by intro _ _;rfl):SX X C (.Subscript x y pos) (aP fD a b):=⟨adD G.K ha.u hb.u hs⟩
theorem d8{op:CmpOp}{g:D->D->Option D}(i:Nat)(o:Cm X C op g)(hb:Ny X C y b)(hN:X.N[i]? = some n:=by rfl)(hv:vH X.env.scope n:=by first|exact Or.inl rfl|exact Or.inr (Or.inl rfl)|exact Or.inr (Or.inr rfl))(hm:behindInMarks op y=false:=by rfl)(hd:lR n:=by decide)(hcd:uR n:=by decide):Lj X C (.Compare (.Name n px) [op] [y] pos) (dg (aA g i b)):=⟨by
 obtain⟨r,h1,h2⟩:=o.ex;exact(Mp h1 (iQ hN hv hd hcd) hb.u hm).imp λσ H Q h=>rZ h2 σ H _ (LK h)⟩
theorem du{tg e:Expr}{a:Ev}{g:GV}(he:SX X C e a)(hg:Zk X C 0 tg g)(hs:swapsWithSole [tg] e pos.line X.env=pure false:=by rfl)(hw:swappedStores [tg] e X.env=pure none:=by rfl)(h1:(assignEach [tg] X.env).map (·.2)=[assign tg X.env]:=by rfl):Gn X C (.Assign [tg] e pos) (aQ a g):=⟨(aan he.u hg.u hs hw h1).imp λD σ H h=>aca h⟩
theorem rP{e:Expr}{a:Ev}(h:SX X C e a):SXP X C (some e) (Gu a):=⟨(Wm h.u).imp λσ H Q hq=>by
 obtain⟨Pr,F,env,env',o,r,e,q⟩:=hq;obtain⟨d,aL,e1,e2⟩:=aU e;refine⟨Pr,F,env,aL,d,r,e1,λv H1 F1 r1 s1 p1=>?_⟩;cases d with
 | int i=>cases e2;exact⟨i,p1,q H1 F1 r1 s1⟩
 | _=>cases e2⟩
theorem uL{x:Expr}{a:gn}(h:Lj X C x a):Lj X C (.UnaryOp .Not x pos) (pP a):=⟨(aak h.u).imp λσ H Q hq=>by
 obtain⟨Pr,F,env,env',b,rl,e,q⟩:=hq;obtain⟨c,aL,e1,e2⟩:=aU e;cases e2;exact⟨Pr,F,env,env',c,rl,e1,λH1 F1 r1 s1=>q H1 F1 r1 s1⟩⟩
theorem iG{e:Expr}{a:gn}(h:SXW X C e a):Lj X C e a:=⟨Ev.PXW.pt h.u⟩
theorem yK{tg:Expr}(hm:X.mg "range" = none)(ha:Lk X C [e] ea)(hl:∀env ds env',ea env = .ok ds env'->ds.length=1)(hg:Gl X "range":=by rfl)(hs:starEach [e] X.env=[(false,eval e X.env)]:=by rfl):SXI X C tg (.Call (.Name "range" p) [e] [] pos) (lz ea):=⟨Kg hg hm ha.u hl hs⟩
theorem rJ{op:CmpOp}{g:D->D->Option D}(i:Nat)(o:Cm X C op g)(hb:Ny X C y b)(hN:X.N[i]? = some n:=by rfl)(hv:vH X.env.scope n:=by first|exact Or.inl rfl|exact Or.inr (Or.inl rfl)|exact Or.inr (Or.inr rfl))(hm:behindInMarks op y=false:=by rfl)(hd:lR n:=by decide)(hcd:uR n:=by decide):SX X C (.Compare (.Name n px) [op] [y] pos) (aA g i b):=⟨by
 obtain⟨r,h1,h2⟩:=o.ex;exact(Ms h1 (iQ hN hv hd hcd) hb.u hm).imp (rZ h2)⟩
theorem je{j:Nat}:SX X C (.Constant .none j pos) (ji .non):=⟨Ev.aad ⟩
theorem Kh{e:Expr}{es:List Expr}{a:Ev}{r:eN}(ha:SX X C e a)(hr:Ca X C es r)(hs:starEach (e::es) X.env=(false,eval e X.env)::starEach es X.env:=by rfl):Ca X C (e::es) (aa a r):=⟨(iD ha.u hr.u hs).imp λσ H Q h=>by
  obtain⟨Pr,F,env,env',ds,rl,e,q⟩:=h;obtain⟨d1,aL,e1,e2⟩:=aU e;obtain⟨ds2,fG,e3,e4⟩:=aU e2;cases e4;refine⟨Pr,F,env,aL,d1,rl,e1,λv H1 F1 r1 s1 p1=>?_⟩;refine⟨Pr,F1,aL,env',ds2,r1,e3,λvs H2 F2 r2 s2 p2=>?_⟩;exact q _ H2 F2 r2 (s1.trans s2) ⟨v,vs,rfl,.inl (Rep.mono s2 d1 v p1),p2⟩⟩
theorem kW{op:BoolOp}{x:Expr}{a:Ev}(h:SX X C x a):SX X C (.BoolOp op [x] pos) a:=⟨aay h.u⟩
theorem kh{apos cpos:Pos}(i:Nat)(G:Good X C)(he:SX X C e a)(hN:X.N[i]? = some n:=by rfl)(hv:vH X.env.scope n:=by first|exact Or.inl rfl|exact Or.inr (Or.inl rfl)|exact Or.inr (Or.inr rfl))(hs:swapsWith (.Call (.Attribute (.Name n px) "append" apos) [e] [] cpos) none pos.line X.env=pure false:=by rfl) (hfew:((backTo cpos (starEach [e] X.env)).all (λx=>!x.1)&&(backToKw cpos (keywordEach [] X.env)).all (λx=>x.1.isSome)
   && decide (([e]:List Expr).length+([]:List Keyword).length+(if ([]:List Keyword).isEmpty then 0 else 1)<30))=true:=by rfl) (hbase:attributeBase (.Name n px) "append" X.env (eval (.Name n px) X.env)=eval (.Name n px) X.env:=by rfl) (hline:(apos.endLine == cpos.line)=true:=by rfl) (hst:Ol e X.env:=by rfl) (hplain:(backTo cpos (starEach [] X.env)).any (·.1)=false:=by rfl) (hd:lR n:=by decide) (hcd:uR n:=by decide):Gn X C (.Expr (.Call (.Attribute (.Name n px) "append" apos) [e] [] cpos) pos) (d7 i a):=⟨Wb hN hv he.u G.K hs hfew hbase hline hst hplain hd hcd⟩
theorem CJ  : SXP X C none Aj:=⟨Ev.Ry ⟩
theorem Ml{x y:Expr}{rest:List Expr}{a b:Ev}(ha:SX X C x a)(hb:SX X C (.BoolOp .And (y::rest) pos) b):SX X C (.BoolOp .And (x::y::rest) pos) (Ng a b):=⟨(aaC ha.u hb.u).imp λσ H Q hq=>by
  obtain⟨Pr,F,env,env',k,rl,e,q⟩:=hq;obtain⟨c,aL,e1,e2⟩:=aU e;refine⟨Pr,F,env,aL,c,rl,e1,λv H1 F1 r1 s1 p1=>?_⟩;cases c with
  | bl z=>
   refine⟨z,p1,?_⟩;cases z with
   | true=>exact aec ⟨Pr,F1,aL,env',k,r1,e2,λv2 H2 F2 r2 s2 p2=>q v2 H2 F2 r2 (s1.trans s2) p2⟩
   | false=>cases e2;exact aed (q _ H1 F1 r1 s1 rfl)
  | _=>cases e2⟩
theorem uK{x y:Expr}{rest:List Expr}{a b:gn}(ha:Lj X C x a)(hb:SXW X C (.BoolOp .Or (y::rest) pos) b):SXW X C (.BoolOp .Or (x::y::rest) pos) (lA a b):=⟨(pw_or ha.u hb.u).imp λσ H Q hq=>by
  obtain⟨Pr,F,env,env',k,rl,e,q⟩:=hq;obtain⟨c,aL,e1,e2⟩:=aU e;refine⟨Pr,F,env,aL,c,rl,e1,λH1 F1 r1 s1=>?_⟩;split at e2
  ·rename_i hc;rw[if_pos hc];cases e2;exact q H1 F1 r1 s1
  ·rename_i hc;rw[if_neg hc];exact⟨Pr,F1,aL,env',k,r1,e2,λH2 F2 r2 s2=>q H2 F2 r2 (s1.trans s2)⟩⟩
theorem qL{x:Expr}{a:gn}(h:Lj X C x a):SXW X C (.BoolOp .Or [x] pos) a:=⟨pw_or1 h.u⟩
theorem Mj{T:String}{xT:Str}{e:Expr}{a:Ev}{p q pos:Pos}(hg:Gl X "isinstance")(hm:X.mg "isinstance" = none)(hgT:Gl X xT)(hmT:X.mg xT=none)(hvT:bootBuiltins xT=some (.type T))(hk:∀d:D,PySem.W.kitOne X.K (.type (Vu d)) (.type T)=some (uW d T))(hK:X.K=C.K)(ha:SX X C e a)(hn:xT ≠ "__name__":=by decide)(hd:lR xT:=by decide)(he:starEach [e,.Name xT q] X.env=(false,eval e X.env)::starEach [.Name xT q] X.env:=by rfl):SX X C (.Call (.Name "isinstance" p) [e,.Name xT q] [] pos) (KY (T7 T) a):=⟨by
 refine(Hs (Uv hk) hg hm boot_isinstance (iD ha.u (iD (Wy (v:=.ty T) hgT hmT hvT rfl hn hd) tV) he) (by decide) (by decide) he rfl).imp λσ H Q h=>?_;obtain⟨Pr,F,env,env',d,rl,e1,qq⟩:=h;obtain⟨d0,aL,e2,e3⟩:=aU e1;obtain⟨e4,rfl⟩:=fU e3;obtain⟨nc,rfl⟩:=Xn e4;refine⟨Pr,F,env,env',d0,rl,e2,λv H1 F1 r1 s1 p1=>⟨d0,v,rfl,nc,?_,qq _ H1 F1 r1 s1 rfl⟩⟩;rw[hK];exact Rep.mono r1.fr d0 v p1⟩
theorem wD{X:Cx}{C:Cfg}{c:Expr}{t:gn}(h:Lj X C c t):Yg X C [c] t:=⟨Wq h.u⟩
theorem abf{k k':Nat}{m:Nat}{ps:List Str}{g:List D->Option D}(O:Own X.prog X.w X.K X.mg X.base n k ps (ZX X.K m g))(G:Good X C)(hr:gm k' X.A)(ha:Lk X C (e::es) ea)(hn:∀env ds env',ea env = .ok ds env'->ds.length=m)(hk:Nat.ble k k'=true:=by rfl)(hg:Gl X n:=by rfl)(hdb:lR n:=by decide)(he:starEach (e::es) X.env=(false,eval e X.env)::starEach es X.env:=by rfl)(hpl:(backTo pos (starEach es X.env)).any (·.1)=false:=by rfl):Ye X C (.Call (.Name n p) (e::es) [] pos) (aq g ea):=⟨by
 obtain⟨f,fd,h1,h2,h3,h4⟩:=O;rw[G.K] at h1;have h1':lX X.prog X.w X.K X.mg X.base yc k f fd ps (ZX C.K m g):=by rw[G.K];exact h1
 exact Wc h1' (hr.mono (Qzq hk)) hg h2 h3 h4 ha.u hn hdb he hpl⟩
theorem ig{x y:Expr}{rest:List Expr}{a b:gn}(ha:Lj X C x a)(hb:SXW X C (.BoolOp .And (y::rest) pos) b):SXW X C (.BoolOp .And (x::y::rest) pos) (cW a b):=⟨(pw_and ha.u hb.u).imp λσ H Q hq=>by
  obtain⟨Pr,F,env,env',k,rl,e,q⟩:=hq;obtain⟨c,aL,e1,e2⟩:=aU e;refine⟨Pr,F,env,aL,c,rl,e1,λH1 F1 r1 s1=>?_⟩;split at e2
  ·rename_i hc;rw[if_pos hc];exact⟨Pr,F1,aL,env',k,r1,e2,λH2 F2 r2 s2=>q H2 F2 r2 (s1.trans s2)⟩
  ·rename_i hc;rw[if_neg hc];cases e2;exact q H1 F1 r1 s1⟩
theorem mW{x:Str}{v:V}{u:Value}(d:D)(hg:Gl X x)(hm:X.mg x=some u)(rv:RelV v u)(hr:∀F,Rep C.K F d v)(hd:lR x:=by decide):SX X C (.Name x pos) (ji d):=⟨(Wv hg hm rv hd).imp λσ H Q h=>by
  obtain⟨Pr,F,env,env',d,r,e,q⟩:=h;cases e;exact q _ _ F r (aO.refl F) (hr F)⟩
theorem yt{o:Expr}{apos cpos:Pos}(G:Good X C)(ho:SX X C o a)(he:Ny X C e b)(hbase:attributeBase o "join" X.env (eval o X.env)=eval o X.env:=by rfl)(hs:Ol e X.env:=by rfl) (hfew:((backTo cpos (starEach [e] X.env)).all (λx=>!x.1)&&(backToKw cpos (keywordEach [] X.env)).all (λx=>x.1.isSome)
   && decide ([e].length+([]:List Keyword).length+(if ([]:List Keyword).isEmpty then 0 else 1)<30))=true:=by rfl) (hline:(apos.endLine == cpos.line)=true:=by rfl) (hplain:(backTo cpos (starEach [] X.env)).any (·.1)=false:=by rfl):SX X C (.Call (.Attribute o "join" apos) [e] [] cpos) (aP m6 a b):=⟨Wi G.K ho.u he.u hbase hs hfew hline hplain⟩
theorem QC{lo hi:Option Expr}{el eh:Zu}{p2:Pos}(G:Good X C)(ha:SX X C x a)(hl:SXP X C lo el)(hh:SXP X C hi eh):SX X C (.Subscript x (.Slice lo hi none p2) pos) (wV a el eh):=⟨adB G.K ha.u hl.u hh.u⟩
theorem jd{x:Expr}{a:gn}(h:Lj X C x a):SXW X C (.BoolOp .And [x] pos) a:=⟨pw_and1 h.u⟩
theorem Zy(ha:SX X C x a):SX X C (.UnaryOp .USub x pos) (KY Xm a):=⟨adA QM ZF ha.u⟩
theorem JD{op:CmpOp}{g:D->D->Option D}(o:Cm X C op g)(ha:SX X C x a)(hb:Ny X C y b)(hm:behindInMarks op y=false:=by rfl):SX X C (.Compare x [op] [y] pos) (aP g a b):=⟨let ⟨_,h1,h2⟩:=o.ex;aah h1 h2 ha.u hb.u hm⟩
theorem RB  : SXL X C [] ak:=⟨Ev.Wd ⟩
theorem W4{es:List Expr}{a:eN}(h:SXL X C es a):Ye X C (.List es pos) (cC a):=⟨Ev.Mh h.u.go⟩
theorem Gx(i:Nat)(G:Good X C)(hb:Ny X C y b)(hN:X.N[i]? = some n:=by rfl)(hv:vH X.env.scope n:=by first|exact Or.inl rfl|exact Or.inr (Or.inl rfl)|exact Or.inr (Or.inr rfl))(hs:Qn y:=by intro _ _;rfl)(hd:lR n:=by decide)(hcd:uR n:=by decide):SX X C (.Subscript (.Name n px) y pos) (aA jZ i b):=⟨RJ i G.u1 hN hv hb.u hs hd hcd⟩
theorem JC{p2 p3 p4:Pos}{k:Nat}(ha:SX X C x a):SX X C (.Subscript x (.Slice none none (some (.UnaryOp .USub (.Constant (.int 1) k p4) p3)) p2) pos) (sS a):=⟨by
 refine(aax (p2:=p2) (pos:=pos) ha.u (YC (pos:=p3) QM (R6 (i:=1) (j:=k) (pos:=p4)))).imp λσ H Q hq=>?_;obtain⟨Pr,F,env,env',d,r,e,q⟩:=hq;obtain⟨z,aL,e1,e2⟩:=aU e;obtain⟨e3,rfl⟩:=fU e2;cases z with
 | str z=>
  cases e3;refine⟨Pr,F,env,env',.str z,r,e1,λv H1 F1 r1 s1 p1=>?_⟩;obtain⟨rfl,hz⟩:=p1;refine⟨1,rfl,strOf z,rfl,by rw[fQ];exact hz,rfl,q _ H1 F1 r1 s1 ⟨by simp[strOf],by rw[Qkj];exact hz⟩⟩
 | _=>cases e3⟩
theorem Ou  : Ye X C (.Dict [] [] pos) FQ:=⟨Ev.Rz ⟩
theorem Cg(G:Good X C)(hm:X.mg "sorted" = none)(ha:Ca X C [e] ea)(hg:Gl X "sorted":=by rfl)(he:Ol e X.env:=by rfl):SX X C (.Call (.Name "sorted" p) [e] [] pos) (aq jg ea):=⟨Ov G.K G.calm hg hm ha.u he rfl⟩
theorem qM{x y:Expr}{rest:List Expr}{a b:Ev}(ha:SX X C x a)(hb:SX X C (.BoolOp .Or (y::rest) pos) b):SX X C (.BoolOp .Or (x::y::rest) pos) (oG a b):=⟨(adL ha.u hb.u).imp λσ H Q hq=>by
  obtain⟨Pr,F,env,env',k,rl,e,q⟩:=hq;obtain⟨c,aL,e1,e2⟩:=aU e;refine⟨Pr,F,env,aL,c,rl,e1,λv H1 F1 r1 s1 p1=>?_⟩;cases c with
  | bl z=>
   refine⟨z,p1,?_⟩;cases z with
   | true=>cases e2;exact aec (q _ H1 F1 r1 s1 rfl)
   | false=>exact aed ⟨Pr,F1,aL,env',k,r1,e2,λv2 H2 F2 r2 s2 p2=>q v2 H2 F2 r2 (s1.trans s2) p2⟩
  | _=>cases e2⟩
theorem Vo(G:Good X C)(hm:X.mg "list" = none)(ha:Ca X C [e] ea)(hg:Gl X "list":=by rfl)(he:Ol e X.env:=by rfl):SX X C (.Call (.Name "list" p) [e] [] pos) (aq Dh ea):=⟨wF (T:="list") (r:=Rp C.K) (by rw[<-G.K];exact K8 G.calm) XJ hg hm (by decide +kernel) ha.u (by decide) (by decide) he rfl⟩
theorem ac7{elt tg iter:Expr}{ifs:List Expr}{scope:Scope}(N':List Str){spos py:Pos}{it:eN}{g:GV}{cc:gn}{ee:Ev}(lo:Nat)(i:Nat)(ok:m9 X scope N')(G:Good X C)(hi:SXI X C tg iter it)(bg:∀X',jV X scope N' X'->Zk X' C lo tg g)(bc:∀X',jV X scope N' X'->Yg X' C ifs cc)(be:∀X',jV X scope N' X'->SX X' C elt ee)(hnd:jN X.N=true:=by rfl)(hfx:C.fx i=none:=by rfl)(hy:X.N[i]? = some n:=by rfl)(hx:Loc X.env.scope n:=by first|exact Or.inl rfl|exact Or.inr rfl)(hsw:swapsWith (.ListComp elt [⟨tg,iter,ifs,0⟩] scope pos) (some (.Name n py)) spos.line X.env=pure true:=by rfl)(hf:X.fn n=true\/X.env.scope.names.lookup n=some .local:=by first|exact .inl rfl|exact .inr rfl)(hs:∀x,foldedSetIterable iter X.env x=pure x:=by intro _;rfl):Gn X C (.Assign [.Name n py] (.ListComp elt [⟨tg,iter,ifs,0⟩] scope pos) spos) (dq i (iZ lo N'.length it g cc ee)):=⟨Ev.afR N' lo i ok G hi.u (λX1 h1=>(bg X1 h1).u) (λX1 h1=>(bc X1 h1).u) (λX1 h1=>(be X1 h1).u) hnd hfx hy hx hsw hf hs⟩
theorem NB{e2:Expr}(G:Good X C)(hm:X.mg "divmod" = none)(ha:Ca X C [e,e2] ea)(hg:Gl X "divmod":=by rfl)(he:starEach [e,e2] X.env=(false,eval e X.env)::starEach [e2] X.env:=by rfl)(hpl:(backTo pos (starEach [e2] X.env)).any (·.1)=false:=by rfl):SX X C (.Call (.Name "divmod" p) [e,e2] [] pos) (aq uY ea):=⟨uM Jf Qh hg hm (by decide +kernel) ha.u (by decide) (by decide) he hpl⟩
theorem Hn{e:Expr}{a:Ev}(h:Ye X C e a):Gn X C (.Return (some e) pos) (yW a):=⟨(Kl h.u).imp λD σ H hq=>by
 obtain⟨Pr,F,env,r,f⟩:=hq;obtain⟨d,aL,e1,f1⟩:=di f;exact⟨Pr,F,env,aL,d,r,e1,λv H1 F1 r1 s1 p1=>f1 v σ H1 F1 r1 s1 p1⟩⟩
theorem aeq{lo:Nat}{ix:Expr}{ev:Ev}(i:Nat)(h:SX X C ix ev)(hN:X.N[i]? = some n:=by rfl)(hv:vH X.env.scope n:=by first|exact Or.inl rfl|exact Or.inr (Or.inl rfl)|exact Or.inr (Or.inr rfl)) (ha:∀v,assign (.Subscript (.Name n px) ix pos) X.env v=(do
   let ov <-holding [v] (eval (.Name n px) X.env)
   let iv <-holding [v,ov] (eval ix X.env)
   standAt pos
   holding [v,ov,iv] (setItem ov iv v)
   release [v,ov,iv] []):=by intro _;rfl) (hd:lR n:=by decide) (hcd:uR n:=by decide):Zk X C lo (.Subscript (.Name n px) ix pos) (Xj i ev):=⟨Z9 hN hv h.u ha hd hcd⟩
theorem Lw{p:Pos}{e:Expr}{ea:eN}(G:Good X C)(hm:X.mg "dict" = none)(ha:Ca X C [e] ea)(hg:Gl X "dict":=by rfl)(he:Ol e X.env:=by rfl):SX X C (.Call (.Name "dict" p) [e] [] pos) (aq sO ea):=⟨wF (T:="dict") (r:=Rt C.K) (by rw[<-G.K];exact Qi G.calm) XM hg hm (by decide +kernel) ha.u (by decide) (by decide) he rfl⟩
theorem VN{k:Expr}{ek:Ev}{pos':Pos}(i:Nat)(G:Good X C)(hk:SX X C k ek)(he:SX X C e a)(hN:X.N[i]? = some n:=by rfl)(hv:vH X.env.scope n:=by first|exact Or.inl rfl|exact Or.inr (Or.inl rfl)|exact Or.inr (Or.inr rfl))(hs:swapsWith e (some (.Subscript (.Name n px) k pos')) pos.line X.env=pure false:=by rfl)(hd:lR n:=by decide)(hcd:uR n:=by decide):Gn X C (.Assign [.Subscript (.Name n px) k pos'] e pos) (tu i ek a):=⟨Rx G.u1 hN hv hk.u he.u hs hd hcd⟩
theorem Vp(G:Good X C)(ha:SX X C x a)(hb:SX X C y b)(hc:SX X C z c)(m:M2 X x "get" apos y z pos:=by exact⟨by rfl,by rfl,by rfl,by rfl⟩):SX X C (.Call (.Attribute x "get" apos) [y,z] [] pos) (FP a b c):=⟨by
 refine(Sd G.u1 ha.u hb.u hc.u m).imp λσ H Q hq=>?_;obtain⟨Pr,F,env,env',d,rl,e,q⟩:=hq;obtain⟨u,aL,e1,e2⟩:=aU e;obtain⟨k,fG,e3,e4⟩:=aU e2;obtain⟨t,Xv,e5,e6⟩:=aU e4;split at e6
 ·rename_i kvs;obtain⟨e7,rfl⟩:=fU e6;obtain⟨kk,hk,rfl⟩:=Qwk.mp (show(ql k).map (λq=>(mH kvs q).getD t)=some d from e7);refine⟨Pr,F,env,aL,.dct kvs,rl,e1,λvu H1 F1 r1 s1 p1=>?_⟩;obtain⟨z1,a1,ks,rfl,h1,h2⟩:=ir.dct r1.fr (.inl p1);refine⟨a1,rfl,.inl ⟨ks,h1⟩,Pr,F1,aL,fG,k,r1,e3,λvk H2 F2 r2 s2 p2=>⟨Pr,F2,fG,env',t,r2,e5,λvt H3 F3 r3 s3 p3=>?_⟩⟩;obtain⟨z2,a2,ks2,ea,h3,h4⟩:=ir.dct r3.fr (.inl (Rep.mono (s2.trans s3) _ _ p1));cases ea;cases Kz hk (.inl (Rep.mono s3 _ _ p2):ir C.K F3 H3 k vk);refine⟨sY ks2 kk,.inl ⟨ks2,kk,h3,rfl,rfl⟩,?_⟩;rcases h4.val kk with ⟨g1,g2⟩|⟨d',v',g1,g2,g3⟩
  ·rw[g2];rw[g1] at q;exact q _ H3 F3 r3 ((s1.trans s2).trans s3) p3
  ·rw[g2];rw[g1] at q;exact q _ H3 F3 r3 ((s1.trans s2).trans s3) g3
 ·cases e6⟩
theorem Xi{elts:List Expr}{k:Nat}{tp p:Pos}{ea:eN}(hm:X.mg "enumerate" = none)(ha:Lk X C [e] ea)(hg:Gl X "enumerate":=by rfl)(hs:starEach [e] X.env=[(false,eval e X.env)]:=by rfl):SXI X C (.Tuple elts k tp) (.Call (.Name "enumerate" p) [e] [] pos) (K1 ea):=⟨(Ws hg hm ha.u hs).imp λσ H R hq=>by
  obtain⟨Pr,F,env,env',ds,r,e,q⟩:=hq;obtain⟨as,aL,e1,e2⟩:=aU e;refine⟨Pr,F,env,aL,as,r,e1,λvs H1 F1 r1 s1 p1=>?_⟩;split at e2
  ·rename_i x;cases e2;obtain⟨v,w,rfl,⟨rfl,hz⟩,p2⟩:=p1;cases p2;refine⟨strOf x,rfl,q _ H1 F1 r1 s1 λi H2 s2=>⟨λ_ ei=>?_,λd hd=>?_⟩⟩
   ·show i=x.toArray.size;rw[ei];simp[xJ]
   ·unfold xJ at hd;rw[Qw5] at hd;obtain⟨⟨c,j⟩,hc,rfl⟩:=Qwk.mp hd;rw[List.getElem?_zipIdx] at hc;obtain⟨c',hc',h2⟩:=Qwk.mp hc;cases h2;refine⟨?_,λy H3 hy=>.inr ?_⟩
    ·show i<x.toArray.size;have:=(Qqw.mp hc').1
     simpa using this
    ·obtain⟨p,c2,h3,h4,rfl,rfl⟩:=hy;have h5:x[i]? = some c2:=by simpa[strOf] using h3
     rw[hc'] at h5;cases h5;exact⟨p,_,_,h4,rfl,rfl,rfl,by show 2<=sizeLine;decide,_,_,rfl,by simp[Rep],_,_,rfl,⟨rfl,by show 1<=sizeLine;decide⟩,rfl⟩
  ·cases e2⟩
theorem TY{elts:List Expr}{k:Nat}{tp p:Pos}{ea:eN}(G:Good X C)(hm:X.mg "zip" = none)(ha:Lk X C [e,e2] ea)(hg:Gl X "zip":=by rfl)(hs:starEach [e,e2] X.env=(false,eval e X.env)::starEach [e2] X.env:=by rfl)(hs2:starEach [e2] X.env=[(false,eval e2 X.env)]:=by rfl):SXI X C (.Tuple elts k tp) (.Call (.Name "zip" p) [e,e2] [] pos) (Ai ea):=⟨by
 have h:=aap (elts:=elts) (k:=k) (tp:=tp) (p:=p) (pos:=pos) hg hm ha.u hs hs2;rw[G.K] at h;refine h.imp λσ H R hq=>?_;obtain⟨Pr,F,env,env',ds,r,e,q⟩:=hq;obtain⟨as,aL,e1,e2⟩:=aU e;refine⟨Pr,F,env,aL,as,r,e1,λvs H1 F1 r1 s1 p1=>?_⟩;split at e2
 ·rename_i xs ys;cases e2;obtain⟨v,w,rfl,p2,v2,w2,rfl,p3,p4⟩:=p1;cases p4;obtain⟨z1,a1,us,rfl,h1,h2⟩:=p2;obtain⟨z2,a2,ws,rfl,h3,h4⟩:=p3;have l1:=h2.length;have l2:=h4.length;refine⟨a1,a2,rfl,⟨us,aO.tupK r1.fr h1⟩,⟨ws,aO.tupK r1.fr h3⟩,q _ H1 F1 r1 s1 λi H2 s2=>⟨λ_ ei=>⟨us,ws,aO.tupK s2 h1,aO.tupK s2 h3,?_⟩,λd hd=>?_⟩⟩
  ·have:(vL xs ys).length=min xs.length ys.length:=by unfold vL;rw[Qqv,List.length_zip]
   omega
  ·unfold vL at hd;rw[Qw5] at hd;obtain⟨⟨c,j⟩,hc,rfl⟩:=Qwk.mp hd;obtain⟨g1,g2⟩:=List.getElem?_zip_eq_some.mp hc;obtain⟨v1,k1,k2⟩:=Er h2 g1;obtain⟨v2,k3,k4⟩:=Er h4 g2;refine⟨⟨us,ws,v1,v2,aO.tupK s2 h1,aO.tupK s2 h3,k1,k3⟩,λy H3 hy=>.inr ?_⟩;obtain⟨p,x',y',m1,m2,m3,rfl,rfl⟩:=hy;have n1:=m1 us (aO.tupK s2 h1);have n2:=m2 ws (aO.tupK s2 h3);rw[k1] at n1;rw[k3] at n2;cases n1;cases n2;exact⟨p,_,_,m3,rfl,rfl,rfl,by show 2<=sizeLine;decide,_,_,rfl,k2,_,_,rfl,k4,rfl⟩
 ·cases e2⟩
theorem QV{op op':CmpOp}{g g':D->D->Option D}(o:Cm X C op g)(o':Cm X C op' g')(ha:SX X C x a)(hb:SX X C y b)(hc:SX X C z c)(hm:lastMarks [op,op'] [y,z]=false:=by with_unfolding_all rfl):Lj X C (.Compare x [op,op'] [y,z] pos) (dg (Nf g g' a b c)):=⟨by
 obtain⟨r,h1,h2⟩:=o.ex;obtain⟨r',h1',h2'⟩:=o'.ex;refine(RP (pos:=pos) h1 h1' ha.u hb.u hc.u hm).imp λσ H Q' hq'=>?_;have hq:=LK hq';show QX r r' (tE C a) (tE C b) (tE C c) σ H _;generalize(λ(z:V) (H':Hp)=>∃b,z = .bl b/\Q' b H')=Q at *;obtain⟨Pr,F,env,env',d,rl,e,q⟩:=hq;obtain⟨u,aL,e1,e2⟩:=aU e;obtain⟨v,fG,e3,e4⟩:=aU e2;refine⟨Pr,F,env,aL,u,rl,e1,λvu H1 F1 r1 s1 p1=>⟨Pr,F1,aL,fG,v,r1,e3,λvv H2 F2 r2 s2 p2=>?_⟩⟩;split at e4
 ·rename_i k hg;refine h2 Pr F2 fG σ H2 u v (.bl k) vu vv _ r2 (.inl (Rep.mono s2 _ _ p1)) (.inl p2) hg λvz H3 F3 r3 s3 p3=>⟨k,p3,?_⟩;cases k with
  | false=>
   rw[if_neg Qw6] at e4 ⊢;cases e4;exact q _ H3 F3 r3 ((s1.trans s2).trans s3) rfl
  | true=>
   rw[if_pos rfl] at e4 ⊢;obtain⟨t,Xv,e5,e6⟩:=aU e4;obtain⟨e7,rfl⟩:=fU e6;exact⟨Pr,F3,fG,env',t,r3,e5,λvt H4 F4 r4 s4 p4=>h2' Pr F4 env' σ H4 v t d vv vt Q r4 (.inl (Rep.mono (s3.trans s4) _ _ p2)) (.inl p4) e7 λv' H5 F5 r5 s5 p5=>q v' H5 F5 r5 ((((s1.trans s2).trans s3).trans s4).trans s5) p5⟩
 ·cases e4⟩
theorem Z3{e:Expr}{a:Ev}{px apos cpos:Pos}(i:Nat)(G:Good X C)(he:SX X C e a)(hN:X.N[i]? = some n:=by rfl)(hv:vH X.env.scope n:=by first|exact Or.inl rfl|exact Or.inr (Or.inl rfl)|exact Or.inr (Or.inr rfl))(hs:swapsWith (.Call (.Attribute (.Name n px) "extend" apos) [e] [] cpos) none pos.line X.env=pure false:=by rfl) (hfew:((backTo cpos (starEach [e] X.env)).all (λx=>!x.1)&&(backToKw cpos (keywordEach [] X.env)).all (λx=>x.1.isSome)
   && decide (([e]:List Expr).length+([]:List Keyword).length+(if ([]:List Keyword).isEmpty then 0 else 1)<30))=true:=by rfl) (hbase:attributeBase (.Name n px) "extend" X.env (eval (.Name n px) X.env)=eval (.Name n px) X.env:=by rfl) (hline:(apos.endLine == cpos.line)=true:=by rfl) (hst:Ol e X.env:=by rfl) (hplain:(backTo cpos (starEach [] X.env)).any (·.1)=false:=by rfl) (hd:lR n:=by decide) (hcd:uR n:=by decide):Gn X C (.Expr (.Call (.Attribute (.Name n px) "extend" apos) [e] [] cpos) pos) (G4 i a):=⟨by
 refine PS.imp (Ew (Sq PySem.F.plainAttrs_list PySem.F.slot_list_extend PySem.F.type_list_extend Ph (iQ hN hv hd hcd) (iD he.u tV hst) hbase hfew hline hst hplain) hs) λD σ H h=>?_;obtain⟨Pr,F,env,r,f⟩:=h;unfold G4 at f;split at f
 ·rename_i xs0 h0;obtain⟨d,aL,e1,f1⟩:=di f;obtain⟨a0,hv0,⟨z0,vs0,g0,_⟩,_⟩:=r.own i _ h0;refine⟨_,hv0,.inl ⟨rfl,vs0,o7.of g0⟩,Pr,F,env,aL,d,r,e1,λv H1 F1 r1 s1 p1=>?_⟩;split at f1
  ·rename_i xs zs h1;split at f1
   ·rename_i hz;obtain⟨a,g1,⟨z,vs,g2,g3⟩,g4,g5⟩:=r1.own i _ h1;rw[hv0] at g1;cases g1;obtain⟨_,b,ws,rfl,hb,hws⟩:=ir.lst r1.fr (.inl p1);refine⟨a0,b,vs,ws,rfl,rfl,g2,hb,by rw[g3.length,hws.length];exact hz,?_⟩;exact f1 σ _ F1 (r1.write h1 hv0 ⟨by rw[Qqx];exact hz,vs++ws,aW,g3.append hws⟩) s1
   ·exact f1.elim
  ·exact f1.elim
 ·exact f.elim⟩
theorem aag{c x y:Expr}{t:gn}{a b:Ev}(hc:Lj X C c t)(ha:SX X C x a)(hb:SX X C y b):SX X C (.IfExp c x y pos) (aex t a b):=⟨(R7 hc.u ha.u hb.u).imp λσ H Q hq=>by
 obtain⟨Pr,F,env,env',k,rl,e,q⟩:=hq;obtain⟨z,aL,e1,e2⟩:=aU e;refine⟨Pr,F,env,aL,z,rl,e1,λH1 F1 r1 s1=>?_⟩;split at e2
 ·rename_i hz;rw[if_pos hz];exact⟨Pr,F1,aL,env',k,r1,e2,λv2 H2 F2 r2 s2 p2=>q v2 H2 F2 r2 (s1.trans s2) p2⟩
 ·rename_i hz;rw[if_neg hz];exact⟨Pr,F1,aL,env',k,r1,e2,λv2 H2 F2 r2 s2 p2=>q v2 H2 F2 r2 (s1.trans s2) p2⟩⟩
theorem Hj{cd:Expr}{body:List Stmt}{bs:bU}(m:Nat)(G:Good X C)(hc:Lj X C cd t)(hb:eV X C body bs)(hp:PassesOwn (model X.prog X.w) X.A X.env X.xe:=by exact PassesOwn.never):Gn X C (.While cd body [] pos) (fM t bs m):=⟨Oo m hp hc.u hb.u⟩
theorem Wh{x:Expr}{a:Ev}(ha:SX X C x a):SX X C (.UnaryOp .Not x pos) (Y4 a):=⟨(aaz ha.u).imp λσ H Q hq=>by
 obtain⟨Pr,F,env,env',k,rl,e,q⟩:=hq;obtain⟨c,aL,e1,e2⟩:=aU e;refine⟨Pr,F,env,aL,c,rl,e1,λv H1 F1 r1 s1 p1=>?_⟩;cases c with
 | bl z=>cases e2;exact⟨z,p1,q _ H1 F1 r1 s1 rfl⟩
 | _=>cases e2⟩
theorem Bu  : Gn X C (.Continue pos) (λenv=>.ct env):=⟨Ev.Eu ⟩
end
open PySem PySem.W PySem.Calls PyProof.Rows
def gQ(N:Nat)(lt:Nat->Nat->Bool){α:Type}(R:α->Prop):KasT α->Prop
 | .ret a=>R a
 | .ask i j k=>i<N/\j<N/\gQ N lt R (k (lt i j))
theorem gQ.bind{N:Nat}{lt:Nat->Nat->Bool}{α β:Type}{R:β->Prop}{f:α->KasT β}:∀(t:KasT α),gQ N lt (λa=>gQ N lt R (f a)) t->gQ N lt R (t.bind f)
 | .ret _,h=>h
 | .ask i j k,h=>⟨h.1,h.2.1,gQ.bind (k (lt i j)) h.2.2⟩
theorem gQ.wp{N:Nat}{lt:Nat->Nat->Bool}{α:Type}{R:α->Prop}{cmp:Nat->Nat->(Bool->Shared->Prop)->Shared->Prop}{I:Shared->Prop}
  (hc:∀i j C s,i<N->j<N->I s->(∀s',I s'->C (lt i j) s')->cmp i j C s):∀(t:KasT α) (s:Shared),gQ N lt R t->I s->t.kasWp cmp (λa s'=>R a/\I s') s
 | .ret _,_,h,hi=>⟨h,hi⟩
 | .ask i j k,s,h,hi=>hc i j _ s h.1 h.2.1 hi λs' hi'=>gQ.wp hc (k (lt i j)) s' h.2.2 hi'
theorem Ii{N:Nat}{lt:Nat->Nat->Bool}{α:Type}{R:α->Prop}{b:Bool}{x y:KasT α}(h1:b=true->gQ N lt R x)(h2:b=false->gQ N lt R y):gQ N lt R (if b=true then x else y):=by
 cases b with
 | true=>rw[if_pos rfl];exact h1 rfl
 | false=>rw[if_neg (by simp)];exact h2 rfl
section
variable{N:Nat}{r:Nat->Nat}
abbrev kL(r:Nat->Nat)(i j:Nat):Bool:=decide (r i<r j)
abbrev kK(r:Nat->Nat)(p:Array Nat)(i:Nat):Nat:=r (p.getD i 0)
def Vh(r:Nat->Nat)(p:Array Nat)(k:Nat):Prop:=∀i j,i<=j->j<k->kK r p i<=kK r p j
def kDn(r:Nat->Nat)(p:Array Nat)(k:Nat):Prop:=∀i j,i<=j->j<k->kK r p j<=kK r p i
structure KB(N:Nat)(p:Array Nat):Prop where
 pos:1<=N
 perm:p.Perm (List.range N).toArray
theorem KB.size{p:Array Nat}(h:KB N p):p.size=N:=by have:=h.perm.size_eq;simpa using this
theorem KB.lt{p:Array Nat}(h:KB N p)(k:Nat):p.getD k 0<N:=by
 by_cases hk:k<p.size
 ·have e:p.getD k 0=p[k]:=by simp[Array.getD,hk]
  rw[e];have hm:p[k]∈p.toList:=by simp
  have:=(Array.perm_iff_toList_perm.mp h.perm).mem_iff.mp hm
  simpa using this
 ·have e:p.getD k 0=0:=by simp[Array.getD,hk]
  rw[e];exact h.pos
theorem qY{p q:Array Nat}{i j:Nat}(h:p[i]? = q[j]?):kK r p i=kK r q j:=by
 have e:p.getD i 0=q.getD j 0:=by rw[Array.getD_eq_getD_getElem?,Array.getD_eq_getD_getElem?,h]
 unfold kK;rw[e]
theorem zY{p:Array Nat}{i j:Nat}(hj:j<=p.size)(k:Nat):kK r (kas_rev p i j) k=if i<=k/\k<j then kK r p (i+j - 1 - k) else kK r p k:=by
 have e:=getElem?_mirror_all (i:=i) hj k;unfold kas_rev;by_cases c:i<=k/\k<j
 ·rw[if_pos c] at e ⊢;exact qY e
 ·rw[if_neg c] at e ⊢;exact qY e
theorem KB.rev{p:Array Nat}(h:KB N p)(i j:Nat):KB N (kas_rev p i j):=⟨h.pos,(mirror_perm _ _ _ _).trans h.perm⟩
theorem Tv{p:Array Nat}{k d:Nat}(hs:k<p.size)(hd:d<=k)(i:Nat):kK r (bubble p k d) i=if i=k - d then kK r p k else if k - d<i/\i<=k then kK r p (i - 1) else kK r p i:=by
 have e:=getElem?_bubble hs d hd i;by_cases c:i=k - d
 ·rw[if_pos c] at e ⊢;exact qY e
 ·rw[if_neg c] at e ⊢;by_cases c2:k - d<i/\i<=k
  ·rw[if_pos c2] at e ⊢;exact qY e
  ·rw[if_neg c2] at e ⊢;exact qY e
theorem Xg{i j:Nat}(h:kL r i j=true):r i<r j:=Qw8 h
theorem Tu{i j:Nat}(h:kL r i j=false):r j<=r i:=Nat.le_of_not_lt (of_decide_eq_false h)
theorem Ky{p:Array Nat}(B:KB N p){R:Nat->Prop}:∀(f n:Nat),1<=n->n+f<=N->Vh r p n->
  (∀m,n<=m->m<=n+f->Vh r p m->(m<n+f->kK r p m<kK r p (m - 1))->R m)->gQ N (kL r) R (kas_asc p f n)
 | 0,n,_,_,hu,h=>h n (Qq1 _) (Qq1 _) hu (λc=>absurd c (by omega))
 | f+1,n,h1,hn,hu,h=>by
  refine⟨B.lt _,B.lt _,?_⟩;refine Ii (λc=>?_) (λc=>?_)
  ·exact h n (Qq1 _) (by omega) hu (λ_=>Xg c)
  ·have c':kK r p (n - 1)<=kK r p n:=Tu c;refine Ky B f (n+1) (by omega) (by omega) (λi j hij hj=>?_) (λm a b d e=>h m (by omega) (by omega) d (λq=>e (by omega)));by_cases q:j<n
   ·exact hu i j hij q
   ·have q':j=n:=by omega
    subst q';by_cases w:i=j
    ·subst w;exact Qq1 _
    ·exact Qq2 (hu i (j - 1) (by omega) (by omega)) c'
theorem Ih{p:Array Nat}(B:KB N p){R:Nat×Array Nat->Prop}{n:Nat}(h1:1<=n)(hn:n<=N)(hd:kDn r p n)(h:∀m q,KB N q->n<=m->m<=N->Vh r q m->R (m,q)) :
  gQ N (kL r) R (kas_tail3 n N p):=by
 unfold kas_tail3;refine gQ.bind _ (Ky (B.rev 0 n) (N - n) n h1 (by omega) ?_ λm a b c _=>h m _ (B.rev 0 n) a (by omega) c);intro i j hij hj;rw[zY (by rw[B.size];exact hn),zY (by rw[B.size];exact hn),if_pos (by omega),if_pos (by omega)];exact hd _ _ (by omega) (by omega)
theorem yJ{R:Array Nat×Nat×Nat->Prop}:∀(f:Nat) (p:Array Nat) (n q:Nat),KB N p->1<=n->n+f<=N->kDn r p n->q+1<=n->(∀i,n - (q+1)<=i->i<n->kK r p i=kK r p (n - 1))->
  (∀p' m q',KB N p'->n<=m->m<=N->kDn r p' m->q'+1<=m->(∀i,m - (q'+1)<=i->i<m->kK r p' i=kK r p' (m - 1))->R (p',m,q'))->gQ N (kL r) R (kas_desc f p n q)
 | 0,p,n,q,B,h1,hn,hd,hq,he,h=>h p n q B (Qq1 _) (by omega) hd hq he
 | f+1,p,n,q,B,h1,hn,hd,hq,he,h=>by
  refine⟨B.lt _,B.lt _,?_⟩;have one:∀p':Array Nat,(∀k,kK r p' k=kK r p k)->kK r p n<kK r p (n - 1)->kDn r p' (n+1):=by
   intro p' hk c i j hij hj;rw[hk,hk];by_cases w:j<n
   ·exact hd i j hij w
   ·have w':j=n:=by omega
    subst w';by_cases v:i=j
    ·subst v;exact Qq1 _
    ·exact Qq2 (Qz8 c) (hd i (j - 1) (by omega) (by omega))
  refine Ii (λc=>?_) (λc=>?_)
  ·by_cases g:q > 0
   ·rw[if_pos g];refine yJ f _ (n+1) 0 (B.rev _ _) (by omega) (by omega) (one _ (λk=>?_) (Xg c)) (by omega) (λi a b=>by rw[show i=n+1 - 1 by omega]) (λp' m q' x1 x2 x3 x4 x5 x6=>h p' m q' x1 (by omega) x3 x4 x5 x6);rw[zY (by rw[B.size];omega)];split
    ·rename_i w;rw[he _ (by omega) (by omega),he k w.1 w.2]
    ·rfl
   ·rw[if_neg g];exact yJ f _ (n+1) 0 B (by omega) (by omega) (one _ (λk=>rfl) (Xg c)) (by omega) (λi a b=>by rw[show i=n+1 - 1 by omega]) (λp' m q' x1 x2 x3 x4 x5 x6=>h p' m q' x1 (by omega) x3 x4 x5 x6)
  ·refine⟨B.lt _,B.lt _,?_⟩;refine Ii (λd=>h p n q B (Qq1 _) (by omega) hd hq he) (λd=>?_);have eq:kK r p n=kK r p (n - 1):=Nat.le_antisymm (Tu d) (Tu c);refine yJ f p (n+1) (q+1) B (by omega) (by omega) (λi j hij hj=>?_) (by omega) (λi a b=>?_) (λp' m q' x1 x2 x3 x4 x5 x6=>h p' m q' x1 (by omega) x3 x4 x5 x6)
   ·by_cases w:j<n
    ·exact hd i j hij w
    ·have w':j=n:=by omega
     subst w';by_cases v:i=j
     ·subst v;exact Qq1 _
     ·rw[eq];exact hd i (j - 1) (by omega) (by omega)
   ·rw[show n+1 - 1=n by omega];by_cases v:i=n
    ·subst v;rfl
    ·rw[eq];exact he i (by omega) (by omega)
theorem xE{p:Array Nat}(B:KB N p){R:Nat×Array Nat->Prop}{n:Nat}(hn:n+1<=N)(hd:kDn r p (n+1))(h:∀m q,KB N q->1<=m->m<=N->Vh r q m->R (m,q)) :
  gQ N (kL r) R (kas_descPart n N p):=by
 unfold kas_descPart;refine gQ.bind _ (yJ (N - (n+1)) p (n+1) 0 B (by omega) (by omega) hd (by omega) (λi a b=>by rw[show i=n+1 - 1 by omega]) λp' m q B' x2 x3 x4 x5 x6=>?_);dsimp only;split
 ·refine Ih (B'.rev _ _) (by omega) x3 (λi j hij hj=>?_) λm' q' y1 y2 y3 y4=>h m' q' y1 (by omega) y3 y4;have e:∀k,kK r (kas_rev p' (m - (q+1)) m) k=kK r p' k:=λk=>by
   rw[zY (by rw[B'.size];exact x3)];split
   ·rename_i w;rw[x6 _ (by omega) (by omega),x6 k w.1 w.2]
   ·rfl
  rw[e,e];exact x4 i j hij hj
 ·exact Ih B' (by omega) x3 x4 λm' q' y1 y2 y3 y4=>h m' q' y1 (by omega) y3 y4
theorem Tq{p:Array Nat}(B:KB N p){R:Nat×Array Nat->Prop}(h:∀m q,KB N q->1<=m->m<=N->Vh r q m->R (m,q)):gQ N (kL r) R (kas_count N p):=by
 unfold kas_count;have hp:=B.pos;refine gQ.bind _ (Ky B (N - 1) 1 (by omega) (by omega) (λi j a b=>by rw[show i=j by omega];exact Qq1 _) λn a b u c=>?_);by_cases e:n=N
 ·rw[if_pos (by simpa using e)];exact h n p B a (by omega) u
 ·rw[if_neg (by simpa using e)];have c':=c (by omega);by_cases g:n > 1
  ·rw[if_pos g];refine⟨B.lt _,B.lt _,?_⟩;refine Ii (λd=>?_) (λd=>?_)
   ·exact h n p B a (by omega) u
   ·have d':kK r p (n - 1)<=kK r p 0:=Tu d;have al:∀k,k<n->kK r p k=kK r p 0:=λk hk=>Nat.le_antisymm (Qq2 (u k (n - 1) (by omega) (by omega)) d') (u 0 k (by omega) hk);have e:∀k,kK r (kas_rev p 0 n) k=kK r p k:=λk=>by
     rw[zY (by rw[B.size];omega)];split
     ·rename_i w;rw[al _ (by omega),al k w.2]
     ·rfl
    refine xE (B.rev _ _) (by omega) (λi j hij hj=>?_) h;rw[e,e];by_cases w:j<n
    ·rw[al i (by omega),al j w];exact Qq1 _
    ·have w':j=n:=by omega
     subst w';by_cases v:i=j
     ·subst v;exact Qq1 _
     ·rw[al i (by omega)];have:=al (j - 1) (by omega);omega
  ·rw[if_neg g];have n1:n=1:=by omega
   subst n1;refine xE B (by omega) (λi j hij hj=>?_) h;by_cases v:i=j
   ·subst v;exact Qq1 _
   ·have:i=0:=by omega
    have:j=1:=by omega
    subst i j;exact Qz8 c'
theorem zV{p:Array Nat}(B:KB N p){R:Nat->Prop}{k:Nat}(u:Vh r p k):∀(f l h:Nat),l<=h->h<=k->h - l<=f->(∀i,i<l->kK r p i<=kK r p k)->(∀i,h<=i->i<k->kK r p k<=kK r p i)->
  (∀m,m<=k->(∀i,i<m->kK r p i<=kK r p k)->(∀i,m<=i->i<k->kK r p k<=kK r p i)->R m)->gQ N (kL r) R (kas_place p k f l h)
 | 0,l,h,a,b,c,lo,hi,hR=>hR l (by omega) lo (λi x y=>hi i (by omega) y)
 | f+1,l,h,a,b,c,lo,hi,hR=>by
  show gQ N (kL r) R (if l ≥ h then _ else _);by_cases g:l ≥ h
  ·rw[if_pos g];exact hR l (by omega) lo (λi x y=>hi i (by omega) y)
  ·rw[if_neg g];refine⟨B.lt _,B.lt _,?_⟩;refine Ii (λd=>?_) (λd=>?_)
   ·have d':kK r p k<kK r p ((l+h) / 2):=Xg d;exact zV B u f l _ (by omega) (by omega) (by omega) lo (λi x y=>Qq2 (Qz8 d') (u _ i x y)) hR
   ·have d':kK r p ((l+h) / 2)<=kK r p k:=Tu d;exact zV B u f _ h (by omega) b (by omega) (λi x=>Qq2 (u i _ (by omega) (by omega)) d') hi hR
theorem Tr{R:Array Nat->Prop}:∀(f:Nat) (p:Array Nat) (k:Nat),KB N p->k+f=N->Vh r p k->(∀q,KB N q->Vh r q N->R q)->gQ N (kL r) R (kas_bin f p k)
 | 0,p,k,B,e,u,h=>h p B (by rw[<-e];exact u)
 | f+1,p,k,B,e,u,h=>by
  refine gQ.bind _ (zV B u k 0 k (by omega) (Qq1 _) (by omega) (λi x=>absurd x (by omega)) (λi x y=>absurd y (by omega)) λm hm lo hi=>?_);refine Tr f _ (k+1) ⟨B.pos,(bubble_perm _ _ _).trans B.perm⟩ (by omega) (λi j hij hj=>?_) h;rw[Tv (by rw[B.size];omega) (by omega),Tv (by rw[B.size];omega) (by omega)];have e1:k - (k - m)=m:=by omega
  rw[e1];by_cases i1:i=m
  ·rw[if_pos i1];by_cases j1:j=m
   ·rw[if_pos j1];exact Qq1 _
   ·rw[if_neg j1,if_pos (by omega)];exact hi _ (by omega) (by omega)
  ·rw[if_neg i1];by_cases i2:m<i/\i<=k
   ·rw[if_pos i2,if_neg (by omega),if_pos (by omega)];exact u _ _ (by omega) (by omega)
   ·rw[if_neg i2];by_cases j1:j=m
    ·rw[if_pos j1];exact lo i (by omega)
    ·rw[if_neg j1];by_cases j2:m<j/\j<=k
     ·rw[if_pos j2];exact u _ _ (by omega) (by omega)
     ·rw[if_neg j2];exact u _ _ hij (by omega)
theorem Xf(hN:1<=N):gQ N (kL r) (λq=>KB N q/\Vh r q N) (kas_sort N):=by
 unfold kas_sort;refine gQ.bind _ (Tq ⟨hN,.refl _⟩ λm q B h1 h2 u=>?_);dsimp only;split
 ·exact Tr _ q (max m 1) B (by omega) (by rw[show max m 1=m by omega];exact u) λq' B' u'=>⟨B',u'⟩
 ·exact⟨B,by rw[show N=m by omega];exact u⟩
end
open PySem PySem.Spec PyProof.Rows PySem.Calls PySem.W L2
def ltB:D->D->Option Bool
 | .bl a,.bl b=>some (decide (b2i a<b2i b))
 | .int a,.int b=>some (decide (a<b))
 | .str a,.str b=>some (decide (a<b))
 | _,_=>none
def Vf:List D->List D->Option Bool
 | [],[]=>some false
 | [],_::_=>some true
 | _::_,[]=>some false
 | x::xs,y::ys=>match bB 40 x y with
  | some true=>Vf xs ys
  | some false=>ltB x y
  | none=>none
def ltA(t:Bool):D->D->Option Bool
 | .int a,.int b=>some (decide (a<b))
 | .str a,.str b=>some (decide (a<b))
 | .tup xs,.tup ys=>if t=true then Vf xs ys else none
 | _,_=>none
def Vg(t:Bool):List D->List D->Option Bool
 | [],[]=>some false
 | [],_::_=>some true
 | _::_,[]=>some false
 | x::xs,y::ys=>match bB 57 x y with
  | some true=>Vg t xs ys
  | some false=>ltA t x y
  | none=>none
def Ve(t:Bool):D->D->Option Bool
 | .tup xs,.tup ys=>Vg t xs ys
 | _,_=>none
abbrev o8:D->D->Option Bool:=Ve true
theorem abk:∀{x y:D} {b:Bool},ltA false x y=some b->ltA true x y=some b:=by intro x y b h;cases x<;>cases y<;>simp only[ltA,reduceCtorEq] at h ⊢<;>first|exact h|(simp at h)
theorem Te:∀{xs ys:List D} {b:Bool},Vg false xs ys=some b->Vg true xs ys=some b
 | [],[],_,h=>h
 | [],_::_,_,h=>h
 | _::_,[],_,h=>h
 | x::xs,y::ys,b,h=>by
  unfold Vg at h ⊢;split at h
  ·exact Te h
  ·exact abk h
  ·cases h
theorem abi{x y:D}{b:Bool}(h:Ve false x y=some b):o8 x y=some b:=by cases x<;>cases y<;>simp only[Ve,reduceCtorEq] at h;exact Te h
def abA:D->Bool
 | .tup (.tup _::_)=>true
 | _=>false
def abC:D->Bool
 | .tup (.int _::_)=>true
 | _=>false
def abB:D->Bool
 | .tup (.str _::_)=>true
 | _=>false
def PJ(x:D):List D->List D
 | []=>[x]
 | y::r=>if o8 y x=some true then y::PJ x r else x::y::r
def lr:List D->List D
 | []=>[]
 | x::r=>PJ x (lr r)
def qb(ds:List D):Prop:=ds.length<2\/(ds.length<64/\((((∀d∈ds,abC d=true)\/∀d∈ds,abB d=true)/\∀x∈ds,∀y∈ds,Ve false x y≠none)\/(∀d∈ds,abA d=true)/\∀x∈ds,∀y∈ds,o8 x y≠none)/\(∀x∈ds,o8 x x=some false)/\
 (∀x∈ds,∀y∈ds,∀z∈ds,o8 x y=some true->o8 y z=some true->o8 x z=some true)/\ds.Pairwise λx y=>o8 x y=some true\/o8 y x=some true)
instance (ds:List D):Decidable (qb ds):=by unfold qb;exact inferInstance
theorem wN(x:D):∀l,(PJ x l).Perm (x::l)
 | []=>.refl _
 | y::r=>by
  unfold PJ;split
  ·exact((wN x r).cons y).trans (.swap x y r)
  ·exact .refl _
theorem mL:∀l,(lr l).Perm l
 | []=>.refl _
 | x::r=>(wN x (lr r)).trans ((mL r).cons x)
structure nZ(S:D->Prop):Prop where
 irr:∀x,S x->o8 x x=some false
 tr:∀x y z,S x->S y->S z->o8 x y=some true->o8 y z=some true->o8 x z=some true
 tot:∀x y,S x->S y->x=y\/o8 x y=some true\/o8 y x=some true
theorem nZ.agG{S:D->Prop}(o:nZ S){x y:D}(hx:S x)(hy:S y)(h:o8 x y=some true):o8 y x≠some true:=λh'=>by
 have:=o.tr x y x hx hy hx h h';rw[o.irr x hx] at this;cases this
theorem nZ.agH{S:D->Prop}(o:nZ S){x y:D}(hx:S x)(hy:S y)(h:o8 y x≠some true)(h':o8 x y≠some true):x=y:=by
 rcases o.tot x y hx hy with e|e|e
 ·exact e
 ·exact absurd e h'
 ·exact absurd e h
theorem nZ.af2{S:D->Prop}(o:nZ S){x y z:D}(hx:S x)(hy:S y)(hz:S z)(h:o8 y x≠some true)(h':o8 z y≠some true):o8 z x≠some true:=λc=>by
 rcases o.tot x y hx hy with e|e|e
 ·subst e;exact h' c
 ·exact h' (o.tr z x y hz hx hy c e)
 ·exact h e
theorem xG{S:D->Prop}(o:nZ S){x:D}(hx:S x):∀l,(∀y∈l,S y)->l.Pairwise (λa b=>o8 b a≠some true)->(PJ x l).Pairwise (λa b=>o8 b a≠some true)
 | [],_,_=>List.pairwise_singleton _ _
 | y::r,hl,h=>by
  unfold PJ;have h1:=Qz6.mp h;have hy:=hl y (Qqj ..);have hr:∀z∈r,S z:=λz hz=>hl z (Qqq _ hz);split
  ·rename_i c;refine Qz6.mpr ⟨λz hz=>?_,xG o hx r hr h1.2⟩;rcases Qq4.mp ((wN x r).mem_iff.mp hz) with rfl|hz
   ·exact o.agG hy hx c
   ·exact h1.1 z hz
  ·rename_i c;refine Qz6.mpr ⟨λz hz=>?_,h⟩;rcases Qq4.mp hz with rfl|hz
   ·exact c
   ·exact o.af2 hx hy (hr z hz) c (h1.1 z hz)
theorem uD{S:D->Prop}(o:nZ S):∀l,(∀y∈l,S y)->(lr l).Pairwise (λa b=>o8 b a≠some true)
 | [],_=>.nil
 | x::r,h=>xG o (h x (Qqj ..)) _ (λy hy=>h y (Qqq _ ((mL r).mem_iff.mp hy))) (uD o r λy hy=>h y (Qqq _ hy))
theorem DY{S:D->Prop}(o:nZ S){l l':List D}(h:∀y∈l,S y)(p:l'.Perm l)(s:l'.Pairwise (λa b=>o8 b a≠some true)):l'=lr l:=by refine List.Perm.eq_of_pairwise (le:=λa b=>o8 b a≠some true) (λa b ha hb x y=>o.agH (h a (p.mem_iff.mp ha)) (h b ((mL l).mem_iff.mp hb)) x y) s (uD o l h) (p.trans (mL l).symm)
theorem nZ.of{ds:List D}(h1:∀x∈ds,o8 x x=some false)(h2:∀x∈ds,∀y∈ds,∀z∈ds,o8 x y=some true->o8 y z=some true->o8 x z=some true)
  (h3:ds.Pairwise λx y=>o8 x y=some true\/o8 y x=some true):nZ (·∈ ds):=by
 refine⟨h1,λx y z a b c=>h2 x a y b z c,λx y hx hy=>?_⟩;obtain⟨i,hi,rfl⟩:=List.mem_iff_getElem.mp hx;obtain⟨j,hj,rfl⟩:=List.mem_iff_getElem.mp hy;have hp:=List.pairwise_iff_getElem.mp h3;rcases Nat.lt_trichotomy i j with c|c|c
 ·exact .inr (hp i j hi hj c)
 ·subst c;exact .inl rfl
 ·exact .inr ((hp j i hj hi c).symm)
theorem wY{α:Type}{p q:α->Bool}:∀(l:List α),(∀x∈l,p x=true->q x=true)->(∃x∈l,q x=true/\p x=false)->l.countP p<l.countP q
 | [],_,h=>by obtain⟨x,hx,_⟩:=h;cases hx
 | a::l,h,e=>by
  have ha:=h a (Qqj ..);have hl:∀x∈l,p x=true->q x=true:=λx hx=>h x (Qqq _ hx);obtain⟨x,hx,e1,e2⟩:=e;rw[List.countP_cons,List.countP_cons];rcases Qq4.mp hx with rfl|hx
  ·have:=List.countP_mono_left hl;rw[e1,e2];simp;omega
  ·have:=wY l hl ⟨x,hx,e1,e2⟩;cases c:p a with
   | true=>rw[ha c];simp;omega
   | false=>simp;omega
def Z6(ds:List D)(i:Nat):Nat:=ds.countP λy=>o8 y (ds.getD i .non) == some true
theorem Rf{ds:List D}(o:nZ (·∈ ds)){i j:Nat}(hi:i<ds.length)(hj:j<ds.length):(o8 (ds.getD i .non) (ds.getD j .non)=some true)↔Z6 ds i<Z6 ds j:=by
 have mi:ds.getD i .non∈ds:=by rw[Qw0,Qwz hi];exact Qj3 ..
 have mj:ds.getD j .non∈ds:=by rw[Qw0,Qwz hj];exact Qj3 ..
 constructor
 ·intro h;refine wY ds (λx hx e=>?_) ⟨_,mi,?_,?_⟩
  ·simp only[beq_iff_eq] at e ⊢;exact o.tr _ _ _ hx mi mj e h
  ·simpa using h
  ·rw[o.irr _ mi];rfl
 ·intro h;rcases o.tot _ _ mi mj with e|e|e
  ·unfold Z6 at h;rw[e] at h;exact absurd h (Qzz _)
  ·exact e
  ·have:=wY (p:=λy=>o8 y (ds.getD j .non) == some true) (q:=λy=>o8 y (ds.getD i .non) == some true) ds (λx hx c=>by simp only[beq_iff_eq] at c ⊢;exact o.tr _ _ _ hx mj mi c e) ⟨_,mj,by simpa using e,by rw[o.irr _ mj];rfl⟩;unfold Z6 at h;omega
mutual
theorem Sh.kept{h h':Heap}(k:∀b o,h.get? b=some o->h'.get? b=some o):∀(d:D) (u:Value),Sh h d u->Sh h' d u
 | .non,_,e=>e
 | .bl _,_,e=>e
 | .int _,_,e=>e
 | .str _,_,e=>e
 | .tup xs,u,e=>by obtain⟨a,its,rfl,⟨o,e1,e2,e3⟩,h2⟩:=e;exact⟨a,its,rfl,⟨o,k _ _ e1,e2,e3⟩,oN.kept k xs its h2⟩
 | .lst xs,u,e=>by obtain⟨a,its,rfl,⟨o,n,e1,e2⟩,h2⟩:=e;exact⟨a,its,rfl,⟨o,n,k _ _ e1,e2⟩,oN.kept k xs its h2⟩
 | .arr xs,u,e=>by obtain⟨a,its,rfl,⟨o,n,e1,e2⟩,h2⟩:=e;exact⟨a,its,rfl,⟨o,n,k _ _ e1,e2⟩,oN.kept k xs its h2⟩
 | .dct _,u,e=>by obtain⟨a,o,rfl,e1,e2⟩:=e;exact⟨a,o,rfl,k _ _ e1,e2⟩
 | .iz _,u,e=>by obtain⟨a,o,rfl,e1,e2⟩:=e;exact⟨a,o,rfl,k _ _ e1,e2⟩
 | .clo _ _,u,e=>e
theorem oN.kept{h h':Heap}(k:∀b o,h.get? b=some o->h'.get? b=some o):∀(ds:List D) (us:List Value),oN h ds us->oN h' ds us
 | [],_,e=>e
 | d::ds,us,e=>by obtain⟨u,r,rfl,e1,e2⟩:=e;exact⟨u,r,rfl,Sh.kept k d u e1,oN.kept k ds r e2⟩
end
section
variable{P:Program}{w:World}{A:Around}{E:Value->Shared->Prop}{s:Shared}{Q:Bool->Shared->Prop}
theorem V2{x y:D}{u v:Value}{b:Bool}{Q:Value->Shared->Prop}(hx:Sh s.heap x u)(hy:Sh s.heap y v)(h:ltB x y=some b)(q:Q (.bool b) s):wpAny (model P w) A (richCompare .Lt u v) Q E s:=by
 cases x<;>cases y<;>simp only[ltB,reduceCtorEq,Qw7] at h
 ·cases hx;cases hy;subst h;exact(lt_bool q:wpAny (model P w) A (compareOp .Lt _ _) Q E s)
 ·obtain⟨t,rfl⟩:=hx;obtain⟨t',rfl⟩:=hy;subst h;exact(lt_int q:wpAny (model P w) A (compareOp .Lt _ _) Q E s)
 ·obtain⟨t,rfl⟩:=hx;obtain⟨t',rfl⟩:=hy;subst h;exact(show wpAny (model P w) A (compareOp .Lt (.str (strOf _) t) (.str (strOf _) t')) Q E s from lt_str q)
section
open PySem.SeqAt
open PySem.AutoSeq1 (wpAny_loadPart')
open PySem.MeetsSeq PySem.MeetsSeq2 PySem.MeetsSeq3
theorem JP(l b:Addr)(items items2:Array Value)(n n2:Nat)(dd dd2:Option Addr)(sl sl2:Array (Option Value))(xs ys:List D)(r:Bool)(hr:Vf xs ys=some r) :
  Meets (Builtin.«tuple.__lt__» ⟨[.ref l,.ref b],[]⟩)
   (λA R s=>s.heap.get? l=some { cls:=.type "tuple",dict:=dd,data:=.seq items n,slots:=sl }/\s.heap.get? b=some { cls:=.type "tuple",dict:=dd2,data:=.seq items2 n2,slots:=sl2 }/\
    oN s.heap xs items.toList/\oN s.heap ys items2.toList/\A.units+41<cLine/\R (.ok (.ret (.bool r))) s):=
 .of_wp λprog w A R s h=>by
  obtain⟨hp,g,d,tk,os⟩:=s;obtain⟨hl,hb,hi,hj,hu,h⟩:=h;have f2:=AutoSeq1.sub_tuple_tuple;have z1:items.size=xs.length:=by rw[<-hi.length];simp
  have z2:items2.size=ys.length:=by rw[<-hj.length];simp
  wp_walk using wpAny_loadPart' hl,wpAny_loadPart' hb,wpAny_forIn_list _ (λrest b s'=>b.1=none/\s'=⟨hp,g,d,tk,os⟩/\∃(vs ws:List Value) (xs' ys':List D),rest=vs.zip ws/\
   oN hp xs' vs/\oN hp ys' ws/\xs'.length+items2.size=ys'.length+items.size/\Vf xs' ys'=some r) _
  case turn=>
   rintro⟨y,x⟩ rest b s' ⟨hb',rfl,vs,ws,xs',ys',hz,hvi,hwi,hlen,hR⟩;cases xs' with
   | nil=>cases hvi;rw[List.zip_nil_left] at hz;cases hz
   | cons a xs'=>
    obtain⟨u,vs,rfl,ha,aej⟩:=hvi;cases ys' with
    | nil=>cases hwi;rw[List.zip_nil_right] at hz;cases hz
    | cons c ys'=>
     obtain⟨v,ws,rfl,hc,aei⟩:=hwi;rw[List.zip_cons_cons] at hz;injection hz with hyx hrest
     injection hyx with hy hx
     subst hy hx;simp only[Qqy] at hlen;unfold Vf at hR;split at hR
     ·rename_i e;refine Qqz (rB 40 a c _ _ true A.in1 ⟨hp,g,d,tk,os⟩ ha hc e (by show A.units+1+40<cLine;omega) prog w _ _ ?_)
      wp_walk
      exact⟨rfl,rfl,_,_,_,_,hrest,aej,aei,by omega,hR⟩
     ·rename_i e;refine Qqz (rB 40 a c _ _ false A.in1 ⟨hp,g,d,tk,os⟩ ha hc e (by show A.units+1+40<cLine;omega) prog w _ _ ?_);have hri:=λ(Q:Value->Shared->Prop) E (q:Q (.bool r) ⟨hp,g,d,tk,os⟩)=>V2 (P:=prog) (w:=w) (A:=A.in1) (E:=E) (s:=⟨hp,g,d,tk,os⟩) ha hc hR q
      wp_walk using hri
      exact⟨_,rfl,by simpa using h⟩
     ·cases hR
  case fin=>
   rintro⟨b1,b2⟩ s' ⟨hb',rfl,vs,ws,xs',ys',hz,hvi,hwi,hlen,hR⟩;simp only at hb';subst hb';have hv:r=decide (items.size<items2.size):=by
    cases xs' with
    | nil=>
     cases ys' with
     | nil=>
      simp only[Qx2] at hlen;cases hR;exact(Qwj (by omega)).symm
     | cons c ys'=>
      simp only[Qx2,Qqy] at hlen;cases hR;exact(Qw4 (by omega)).symm
    | cons a xs'=>
     cases ys' with
     | nil=>
      simp only[Qx2,Qqy] at hlen;cases hR;exact(Qwj (by omega)).symm
     | cons c ys'=>
      obtain⟨u,vs,rfl,ha,aej⟩:=hvi;obtain⟨v,ws,rfl,hc,aei⟩:=hwi;rw[List.zip_cons_cons] at hz;cases hz
   rw[hv] at h
   wp_walk
   exact⟨_,rfl,by simpa[Builtin.Tuple.tupleCompareSizes] using h⟩
  case h=>
   exact⟨rfl,rfl,items.toList,items2.toList,xs,ys,rfl,hi,hj,by omega,hr⟩
end
theorem W7{xs ys:List D}{u v:Value}{r:Bool}{Q:Value->Shared->Prop}(hx:Sh s.heap (.tup xs) u)(hy:Sh s.heap (.tup ys) v)(hu:A.units+41<cLine)(hr:Vf xs ys=some r)(q:Q (.bool r) s):wpAny (model P w) A (compareOp .Lt u v) Q E s:=by
 obtain⟨a,its,rfl,⟨⟨cls,dd,data,sl⟩,ho,hc,n,hd⟩,h2⟩:=hx;obtain⟨a',its',rfl,⟨⟨cls2,dd2,data2,sl2⟩,ho2,hc2,n2,hd2⟩,h2'⟩:=hy;simp only at hc hd hc2 hd2;subst hc hd hc2 hd2;exact richCompare_meets_room (op:=.Lt) ⟨_,ho,rfl⟩ ⟨_,ho2,rfl⟩ PySem.F.slot_tuple_lt PySem.F.entry_tuple_lt (PySem.F.args_tuple_lt_2 _ _) (JP a a' its.toArray its'.toArray n n2 dd dd2 sl sl2 xs ys r hr)
  ⟨ho,ho2,by simpa using h2,by simpa using h2',hu,show Value.bool r≠Value.notImplemented/\Q (.bool r) s from⟨(λx=>nomatch x),q⟩⟩ (by omega)
theorem abl(hu:A.units+57<cLine){t:Bool}{x y:D}{u v:Value}{b c:Bool}(ht:t=true->c=false)(hx:Sh s.heap x u)(hy:Sh s.heap y v)(h:ltA t x y=some b)(q:Q b s):wpAny (model P w) A (oneLt' c u v) Q E s:=by
 cases x<;>cases y<;>simp only[ltA,reduceCtorEq,Qw7] at h
 ·obtain⟨t,rfl⟩:=hx;obtain⟨t',rfl⟩:=hy;subst h;cases c with
  | true=>exact oneLt_int q
  | false=>exact kat_one _ _ (lt_int q)
 ·obtain⟨t,rfl⟩:=hx;obtain⟨t',rfl⟩:=hy;subst h;cases c with
  | true=>exact oneLt_str q
  | false=>exact kat_one _ _ (lt_str q)
 ·split at h
  ·rename_i e;cases ht e;exact kat_one _ _ (W7 hx hy (by omega) h q)
  ·cases h
theorem Ti(hu:A.units+57<cLine){t c:Bool}(ht:t=true->c=false):∀(xs ys:List D) (us vs:List Value) (i:Nat) (b fin:Bool),oN s.heap xs us->oN s.heap ys vs->Vg t xs ys=some b->fin=decide (us.length<vs.length)->Q b s->KatLex P w A c fin Q (us.zip vs) i s
 | [],[],us,vs,i,b,fin,hx,hy,h,hf,q=>by
  cases hx;cases hy;cases h;cases hf;exact q
 | [],y::ys,us,vs,i,b,fin,hx,hy,h,hf,q=>by
  obtain⟨v,r,rfl,_,_⟩:=hy;cases hx;cases h;subst hf;show Q (decide (0<r.length+1)) s;rw[Qw4 (by omega)];exact q
 | x::xs,[],us,vs,i,b,fin,hx,hy,h,hf,q=>by
  obtain⟨v,r,rfl,_,_⟩:=hx;cases hy;cases h;subst hf;show Q (decide (r.length+1<0)) s;rw[Qwj (by omega)];exact q
 | x::xs,y::ys,us,vs,i,b,fin,hx,hy,h,hf,q=>by
  obtain⟨u,us,rfl,hx1,hx2⟩:=hx;obtain⟨v,vs,rfl,hy1,hy2⟩:=hy;rw[List.zip_cons_cons];unfold Vg at h;split at h
  ·rename_i e;refine kat_cons (rB 57 x y u v true A s hx1 hy1 e hu P w _ _ (kat_yes (Ti hu ht xs ys us vs (i+1) b fin hx2 hy2 h ?_ q)));rw[hf,Qqy,Qqy];simp
  ·rename_i e;exact kat_cons (rB 57 x y u v false A s hx1 hy1 e hu P w _ _ (kat_no (abl hu (λz=>by rw[ht z];rfl) hx1 hy1 h q)))
  ·cases h
theorem abj(hu:A.units+57<cLine){t:Bool}{x y:D}{u v:Value}{b c:Bool}(ht:t=true->c=false)(hx:Sh s.heap x u)(hy:Sh s.heap y v)(h:Ve t x y=some b)(q:Q b s):wpAny (model P w) A (keyLt' (tuples' c) u v) Q E s:=by cases x<;>cases y<;>simp only[Ve,reduceCtorEq] at h;rename_i xs ys;obtain⟨a,its,rfl,⟨o,e1,_,n,e2⟩,h2⟩:=hx;obtain⟨a',its',rfl,⟨o',e1',_,n',e2'⟩,h2'⟩:=hy;exact kat_lt e1 e2 e1' e2' (Ti hu ht xs ys its its' 0 b _ h2 h2' h (by simp) q)
theorem oN.getD{h:Heap}:∀{ds:List D} {us:List Value} {i:Nat},oN h ds us->i<ds.length->Sh h (ds.getD i .non) (us.getD i .none)
 | [],_,_,_,c=>absurd c (Qj8 _)
 | d::ds,us,i,e,c=>by
  obtain⟨u,r,rfl,e1,e2⟩:=e;cases i with
  | zero=>exact e1
  | succ i=>simpa using oN.getD e2 (i:=i) (by simpa using c)
theorem Af{h:Heap}:∀{ds:List D} {us:List Value},oN h ds us->(∀d∈ds,abC d=true)->∃fs,KatTups h us fs/\fs.length=us.length/\∀v∈fs,∃i t,v = .int i t
 | [],_,e,_=>by cases e;exact⟨[],trivial,rfl,λv hv=>by cases hv⟩
 | d::ds,us,e,hd=>by
  obtain⟨u,r,rfl,e1,e2⟩:=e;obtain⟨fs,k1,k2,k3⟩:=Af e2 λx hx=>hd x (Qqq _ hx);have hd1:=hd d (Qqj ..);cases d with
  | tup xs=>cases xs with
   | nil=>cases hd1
   | cons x xs=>cases x with
    | int i=>
     obtain⟨a,its,rfl,⟨o,g1,g2,n,g3⟩,g4⟩:=e1;obtain⟨v,its',rfl,⟨t,rfl⟩,_⟩:=g4;refine⟨.int i t::fs,KatTups.cons g1 g2 g3 (by simp) k1,by simp[k2],λv hv=>?_⟩;rcases Qq4.mp hv with rfl|hv
     ·exact⟨i,t,rfl⟩
     ·exact k3 v hv
    | _=>cases hd1
  | _=>cases hd1
theorem Ae{h:Heap}:∀{ds:List D} {us:List Value},oN h ds us->(∀d∈ds,abB d=true)->∃fs,KatTups h us fs/\fs.length=us.length/\∀v∈fs,∃i t,v = .str i t
 | [],_,e,_=>by cases e;exact⟨[],trivial,rfl,λv hv=>by cases hv⟩
 | d::ds,us,e,hd=>by
  obtain⟨u,r,rfl,e1,e2⟩:=e;obtain⟨fs,k1,k2,k3⟩:=Ae e2 λx hx=>hd x (Qqq _ hx);have hd1:=hd d (Qqj ..);cases d with
  | tup xs=>cases xs with
   | nil=>cases hd1
   | cons x xs=>cases x with
    | str i=>
     obtain⟨a,its,rfl,⟨o,g1,g2,n,g3⟩,g4⟩:=e1;obtain⟨v,its',rfl,⟨t,rfl⟩,_⟩:=g4;refine⟨.str (strOf i) t::fs,KatTups.cons g1 g2 g3 (by simp) k1,by simp[k2],λv hv=>?_⟩;rcases Qq4.mp hv with rfl|hv
     ·exact⟨_,t,rfl⟩
     ·exact k3 v hv
    | _=>cases hd1
  | _=>cases hd1
theorem Ad{h:Heap}:∀{ds:List D} {us:List Value},oN h ds us->(∀d∈ds,abA d=true)->∃fs,KatTups h us fs/\fs.length=us.length/\∀v∈fs,∃a o,v = .ref a/\h.get? a=some o/\o.cls = .type "tuple"
 | [],_,e,_=>by cases e;exact⟨[],trivial,rfl,λv hv=>by cases hv⟩
 | d::ds,us,e,hd=>by
  obtain⟨u,r,rfl,e1,e2⟩:=e;obtain⟨fs,k1,k2,k3⟩:=Ad e2 λx hx=>hd x (Qqq _ hx);have hd1:=hd d (Qqj ..);cases d with
  | tup xs=>cases xs with
   | nil=>cases hd1
   | cons x xs=>cases x with
    | tup zs=>
     obtain⟨a,its,rfl,⟨o,g1,g2,n,g3⟩,g4⟩:=e1;obtain⟨v,its',rfl,⟨a',its2,rfl,⟨o',q1,q2,_⟩,_⟩,_⟩:=g4;refine⟨.ref a'::fs,KatTups.cons g1 g2 g3 (by simp) k1,by simp[k2],λv hv=>?_⟩;rcases Qq4.mp hv with rfl|hv
     ·exact⟨a',o',rfl,q1,q2⟩
     ·exact k3 v hv
    | _=>cases hd1
  | _=>cases hd1
theorem Xe{ds:List D}{us:List Value}{Q:SortKind->Shared->Prop}(hs:oN s.heap ds us)(h2:2<=ds.length)(hk:(((∀d∈ds,abC d=true)\/∀d∈ds,abB d=true)/\∀x∈ds,∀y∈ds,Ve false x y≠none)\/(∀d∈ds,abA d=true)/\∀x∈ds,∀y∈ds,o8 x y≠none)
  (h:∀c t,(t=true->c=false)->(∀x∈ds,∀y∈ds,Ve t x y≠none)->Q (tuples' c) s) :
  wpAny (model P w) A (keyKind' us.toArray) Q E s:=by
 rcases hk with ⟨hk|hk,hn⟩|⟨hk,hn⟩
 ·obtain⟨fs,k1,k2,k3⟩:=Af hs hk;refine kat_kind (T:=.type "int") k1 (by rw[k2,hs.length];omega) (λv hv=>?_) (by decide) (h _ false (λz=>by cases z) hn);obtain⟨i,t,rfl⟩:=k3 v hv;exact Looks.of_pure rfl
 ·obtain⟨fs,k1,k2,k3⟩:=Ae hs hk;refine kat_kind (T:=.type "str") k1 (by rw[k2,hs.length];omega) (λv hv=>?_) (by decide) (h _ false (λz=>by cases z) hn);obtain⟨i,t,rfl⟩:=k3 v hv;exact Looks.of_pure rfl
 ·obtain⟨fs,k1,k2,k3⟩:=Ad hs hk;refine kat_kind (T:=.type "tuple") k1 (by rw[k2,hs.length];omega) (λv hv=>?_) (by decide) (h _ true (λ_=>by decide) hn);obtain⟨a,o,rfl,q1,q2⟩:=k3 v hv;exact λA Q E s' hk q=>wpAny_typeOf_ref (hk _ _ q1) (by rw[q2];exact q)
def Laid(ds:List D)(p:List Nat):Prop:=p.Perm (List.range ds.length)/\lr ds=p.map λi=>ds.getD i .non
theorem Xb{ds:List D}(o:nZ (·∈ ds)){p:Array Nat}(B:KB ds.length p)(u:Vh (Z6 ds) p ds.length):Laid ds p.toList:=by
 have hp:p.toList.Perm (List.range ds.length):=by simpa using Array.perm_iff_toList_perm.mp B.perm
 have hl:p.toList.length=ds.length:=by rw[hp.length_eq,List.length_range]
 refine⟨hp,(DY o (λy h=>h) ?_ ?_).symm⟩
 ·have:=hp.map λi=>ds.getD i D.non;refine this.trans (.of_eq ?_);refine List.ext_getElem (by simp) λi h1 h2=>?_;simp[Qw0,h2]
 ·refine List.pairwise_map.mpr (List.pairwise_iff_getElem.mpr λi j hi hj hij=>?_);have hi':i<ds.length:=by omega
  have hj':j<ds.length:=by omega
  have e1:p.getD i 0=p.toList[i]:=by simp[Array.getD,show i<p.size by rw[B.size];exact hi']
  have e2:p.getD j 0=p.toList[j]:=by simp[Array.getD,show j<p.size by rw[B.size];exact hj']
  have:=u i j (Qz8 hij) hj';unfold kK at this;rw[e1,e2] at this;intro c;have c':=(Rf o (by have:=B.lt j;rw[e2] at this;exact this) (by have:=B.lt i;rw[e1] at this;exact this)).mp c;omega
theorem Q3{ds:List D}(h:ds.length<2):lr ds=ds:=by
 match ds,h with
 | [],_=>rfl
 | [_],_=>rfl
theorem Tn{ds:List D}(h:ds.length<2):Laid ds (List.range ds.length):=by refine⟨.refl _,?_⟩;rw[Q3 h];refine List.ext_getElem (by simp) λi h1 h2=>?_;simp[Qw0,h1]
theorem HY{a:Addr}{ds:List D}{vs:List Value}{n:Nat}{h₀:Heap}{R:PySem.Fin->Shared->Prop}(ho:s.heap.get? a=some (seqObj "list" vs.toArray n))(k₀:∀b o,h₀.get? b=some o->b<a/\s.heap.get? b=some o)
  (hs:oN h₀ ds vs) (ok:qb ds) (hu:A.units+57<cLine)
  (h:∀p:List Nat,Laid ds p->R (.done (.ret .none)) { s with heap:=sortedHeap s.heap a vs (p.map λi=>vs.getD i Value.none).toArray }) :
  wpAny (model P w) A (Builtin.«list.sort» ⟨[.ref a],[]⟩) R E s:=by
 have hlen:=hs.length;have h64:vs.length<64:=by rcases ok with q|q<;>omega
 rw[list_sort_plain];have ha:a<s.heap.objs.size:=Qq9 ho;refine Qqz (listItems_at ho rfl ?_);refine Qqz (listUpdate_at ho rfl ?_ (by rw[Qq3,Qj6];omega) (Qxk _));obtain⟨e1,ho1⟩:∃e1,(s.heap.update a (Obj.mapSeq λ_=>(#[]:Array Value))).get? a=some (seqObj "list" #[] e1):=⟨_,get?_update_seq ho λ_=>#[]⟩;refine Qqz (seqEpoch_at ho1 rfl ?_);refine Qqz (wpAny_newTuple ?_ (by show vs.length<=_;rw[Qj6];omega));refine Qqz (wpAny_newList ?_ (Qxk _));refine Qjx ?_;have ho6:(((s.heap.update a (Obj.mapSeq λ_=>(#[]:Array Value))).push (seqObj "tuple" vs.toArray 0)).push (seqObj "list" #[] 0)).get? a=some (seqObj "list" #[] e1):=by rw[Heap.get?_push_ne _ _ _ (by rw[size_push',Heap.size_update];exact Qxq (Nat.lt_succ_of_lt ha)),Heap.get?_push_ne _ _ _ (by rw[Heap.size_update];exact Qxq ha)];exact ho1
 have kept:∀b o,h₀.get? b=some o->(((s.heap.update a (Obj.mapSeq λ_=>(#[]:Array Value))).push (seqObj "tuple" vs.toArray 0)).push (seqObj "list" #[] 0)).get? b=some o:=λb o e=>by
  obtain⟨q1,q2⟩:=k₀ b o e;refine Qq0 _ (Qq0 _ ?_);rw[Heap.get?_update_ne _ _ _ _ (Qxq q1)];exact q2
 have hs':=hs.kept kept;show wpAny (model P w) A _ R E { s with heap:=((s.heap.update a (Obj.mapSeq λ_=>(#[]:Array Value))).push (seqObj "tuple" vs.toArray 0)).push (seqObj "list" #[] 0) };dsimp only;have fin:∀(st':SortSt) (p:List Nat),(arrOf st').map (·.2)=(p.map λi=>vs.getD i Value.none).toArray->failedOf st'=none->Laid ds p->
   wpAny (model P w) A (do
    let touched:=(<-seqEpoch a) != e1
    Builtin.List.listUpdate (.ref a) λ_=>(arrOf st').map (·.2)
    if let some e:=failedOf st' then rule "list.sort.comparison-raised";throw e
    if touched then rule "list.sort.modified";raiseError "ValueError" "list modified during sort"
    ret .none) R E { s with heap:=((s.heap.update a (Obj.mapSeq λ_=>(#[]:Array Value))).push (seqObj "tuple" vs.toArray 0)).push (seqObj "list" #[] 0) }:=by
  intro st' p he hf lp;have lp1:=lp.1.length_eq;rw[List.length_range] at lp1;refine Qqz (seqEpoch_at ho6 rfl ?_);rw[he];refine Qqz (listUpdate_at ho6 rfl ?_ (Qxk _) (by rw[Qq3,Qqv,lp1,Qj6];omega));rw[hf];simp only[bne_self_eq_false,Bool.false_eq_true,if_false];exact Qq5 (h p lp)
 by_cases h2:vs.toArray.size<2
 ·rw[if_pos h2,if_pos h2];refine Qqz (Qq5 ?_);rw[StateT.run_pure];refine Qqz (Qq5 ?_);have h2':ds.length<2:=by rw[Qq3] at h2;omega
  refine fin (SortSt.mk' general' (vs.toArray.zip vs.toArray) #[] 7 none) _ ?_ rfl (Tn h2');show(vs.toArray.zip vs.toArray).map (·.2)=_;rw[<-hlen];apply Array.toList_inj.mp;rw[Array.toList_map,Array.toList_zip];refine List.ext_getElem (by simp) λi q1 q2=>?_;have q3:i<vs.length:=by simpa using q2
  simp[Qw0,q3]
 ·rw[if_neg h2,if_neg h2];have h2':2<=vs.length:=by rw[Qq3] at h2;omega
  rcases ok with q|⟨_,hk,o1,o3,o4⟩
  ·omega
  have o:=nZ.of o1 o3 o4;refine Qqz (Xe hs' (by omega) hk λc t ht o2=>?_);refine Qqz (Qz2 (kat_run (ks:=vs) (Q:=λst' s'=>∃p:Array Nat,arrOf st'=p.map (kas_item (vs.toArray.zip vs.toArray))/\failedOf st'=none/\Laid ds p.toList/\s' = { s with heap:=((s.heap.update a (Obj.mapSeq λ_=>(#[]:Array Value))).push (seqObj "tuple" vs.toArray 0)).push (seqObj "list" #[] 0) })
   (G:=λp s'=>Laid ds p.toList/\s' = { s with heap:=((s.heap.update a (Obj.mapSeq λ_=>(#[]:Array Value))).push (seqObj "tuple" vs.toArray 0)).push (seqObj "list" #[] 0) })
   rfl h2' h64 (λp' st' s' a1 a2 a3 a4=>⟨p',a2,a3,a4.1,a4.2⟩) ?_) ?_ λ_ _ e=>e)
  ·have g:=gQ.wp (N:=ds.length) (lt:=kL (Z6 ds)) (cmp:=kas_ask P w A (tuples' c) vs) (I:=λs'=>s' = { s with heap:=((s.heap.update a (Obj.mapSeq λ_=>(#[]:Array Value))).push (seqObj "tuple" vs.toArray 0)).push (seqObj "list" #[] 0) })
    (λi j C s' hi hj hI hC=>by
     subst hI;have mi:ds.getD i .non∈ds:=by rw[Qw0,Qwz hi];exact Qj3 ..
     have mj:ds.getD j .non∈ds:=by rw[Qw0,Qwz hj];exact Qj3 ..
     have e:Ve t (ds.getD i .non) (ds.getD j .non)=some (kL (Z6 ds) i j):=by
      cases c:Ve t (ds.getD i .non) (ds.getD j .non) with
      | none=>exact absurd c (o2 _ mi _ mj)
      | some b=>
       have r:=Rf o hi hj;have c2:o8 (ds.getD i .non) (ds.getD j .non)=some b:=by
        cases t with
        | true=>exact c
        | false=>exact abi c
       rw[c2] at r;unfold kL;cases b with
       | true=>rw[Qw4 (r.mp rfl)]
       | false=>rw[Qwj (λz=>by cases r.mpr z)]
     exact abj hu ht (hs'.getD hi) (hs'.getD hj) e (hC _ rfl))
    (kas_sort ds.length) _ (Xf (by omega)) rfl
   rw[hlen];rw[kat_ask_eq rfl] at g ⊢;exact kas_wp_mono g λp s' hp=>⟨Xb o hp.1.1 hp.1.2,hp.2⟩
  ·rintro⟨⟨⟩,st'⟩ s' ⟨p,har,hf,lp,rfl⟩;exact fin st' p.toList (kat_snds rfl har) hf lp
end
theorem bL.getD{K:Fg}{F:Hp}:∀{ds:List D} {vs:List V} {i:Nat},bL K F ds vs->i<ds.length->Rep K F (ds.getD i .non) (vs.getD i .non)
 | [],_,_,_,c=>absurd c (Qj8 _)
 | d::ds,us,i,e,c=>by
  obtain⟨u,r,rfl,e1,e2⟩:=e;cases i with
  | zero=>exact e1
  | succ i=>simpa using bL.getD e2 (i:=i) (by simpa using c)
theorem Ck:∀{vs:List V} {us:List Value} {i:Nat},Vals vs us->i<vs.length->RelV (vs.getD i .non) (us.getD i .none)
 | _,_,_,.nil,c=>absurd c (Qj8 _)
 | _,_,0,.cons h _,_=>h
 | _,_,i+1,.cons _ h,c=>by simpa using Ck h (i:=i) (by simpa using c)
theorem CG{K:Fg}{F:Hp}{ds:List D}{vs:List V}(h:bL K F ds vs):∀(p:List Nat),(∀i∈p,i<ds.length)->bL K F (p.map λi=>ds.getD i .non) (p.map λi=>vs.getD i .non)
 | [],_=>rfl
 | i::p,hp=>⟨_,_,rfl,h.getD (hp i (Qqj ..)),CG h p λj hj=>hp j (Qqq _ hj)⟩
theorem Ci{vs:List V}{us:List Value}(h:Vals vs us):∀(p:List Nat),(∀i∈p,i<vs.length)->Vals (p.map λi=>vs.getD i .non) (p.map λi=>us.getD i .none)
 | [],_=>.nil
 | i::p,hp=>.cons (Ck h (hp i (Qqj ..))) (Ci h p λj hj=>hp j (Qqq _ hj))
section
variable{X:Cx}{C:Cfg}{p pos:Pos}{e:Expr}{ea:eN}
def Kf(K:Fg):List V->Hp->VK->Prop:=λxs H Q=>∃F p vs ds,aO F H/\xs=[.ref p]/\(o7 K H p vs\/mD K H p vs)/\bL K F ds vs/\qb ds/\∀l vs',H l=none->bL K F (lr ds) vs'->Q (.ref l) (upd H l (.lst vs'))
theorem K6(hu:X.A.units+60<cLine):j5 X (.builtin "sorted") (Kf X.K):=by
 intro pins s σ H xs us Q I r h;obtain⟨F,p,vs,ds,hF,rfl,hq,hr,ok,q⟩:=h;obtain⟨u,rfl,rx⟩:=vals1 r;cases rx;obtain⟨its,rv,T,o,n,hT,ho,hc,hd⟩:∃(its:List Value),Vals vs its/\∃(T:String) (o:Obj) (n:Nat),(T = "list"\/T = "tuple")/\s.heap.get? p=some o/\o.cls = .type T/\o.data = .seq its.toArray n:=by
  rcases hq with hq|hq
  ·obtain⟨its,rv,⟨o,n,e1,e2,_,e3⟩,_⟩:=I.list hq;exact⟨its,rv,"list",o,n,.inl rfl,e1,e2,e3⟩
  ·obtain⟨its,rv,⟨o,e1,e2,n,e3⟩,_⟩:=I.tuple hq;exact⟨its,rv,"tuple",o,n,.inr rfl,e1,e2,e3⟩
 have hs:oN s.heap ds its:=bL.sh I ds vs its (bL.mono hF _ _ hr) rv;have hlen:=hs.length;have h64:its.length<64:=by rcases ok with z|z<;>omega
 have hvl:vs.length=its.length:=rv.length;refine Calls.call_function_entry kind_sorted plain_sorted entry_sorted (args_sorted1 _) ?_;unfold Builtin.«sorted»;refine Qqz (m:=checkCount "sorted" 1 1 _) (Qq5 ?_);refine Qqz (wpAny_collect_seq p hT ho hc hd (λh' hk=>?_) (by rw[Qq3,Qj6];omega));refine Qqz (wpAny_newList ?_ (by rw[Qj6];simp;omega));have hoL:(h'.push (seqObj "list" its.toArray 0)).get? h'.objs.size=some (seqObj "list" its.toArray 0):=Qww _ rfl;show wpAny _ _ _ _ _ { s with heap:=h'.push (seqObj "list" its.toArray 0) };refine Qqz (Qjx (Qz7 slot_list_sort ⟨_,hoL,rfl⟩ entry_list_sort (HY hoL (h₀:=h') (λb o e=>⟨Qq9 e,Qq0 _ e⟩) (hs.kept hk) ok (by show X.A.units+1+1+57<cLine;omega) λpp lp=>⟨_,rfl,?_⟩) (args_list_sort _)));obtain⟨e,he⟩:=sortedHeap_at (out:=(pp.map λi=>its.getD i Value.none).toArray) hoL;refine Qq5 ⟨_,rfl,?_⟩;have I1:L2.Inv X pins σ H { s with heap:=h' }:=I.kept hk;have hin:∀i∈pp,i<ds.length:=λi hi=>by have:=lp.1.mem_iff.mp hi;simpa using this
 have hpl:pp.length=ds.length:=by rw[lp.1.length_eq,List.length_range]
 have rv2:=Ci rv pp λi hi=>by rw[hvl,hlen];exact hin i hi
 have rr2:=CG hr pp hin;rw[<-lp.2] at rr2;refine⟨.ref h'.objs.size,_,I1.laid (t':=s.toks) (λb o e=>?_) (Qq1 _) (o:=.lst (pp.map λi=>vs.getD i .non)) (show gr X.prog X.w _ _ h'.objs.size _ from⟨?_,_,e,rv2,by simpa[seqObj] using he⟩),rfl,q _ _ (I1.hok.fresh (Qq1 _)) rr2⟩
 ·have lt':=Qq9 e;rw[sortedHeap_old (Qxq lt') (by rw[size_push'];exact Nat.lt_succ_of_lt lt')];exact Qq0 _ e
 ·rw[Qqv,hpl];exact Qq2 (by omega:ds.length<=64) (by decide)
def z9:List D->Option D
 | [.lst ds]=>if qb ds then some (.lst (lr ds)) else none
 | [.tup ds]=>if qb ds then some (.lst (lr ds)) else none
 | _=>none
theorem Us:CallD C (Kf C.K) z9:=by
 intro Pr F env σ H ds d vs Q r p e q;have fin:∀(zs:List D) (l:Addr) (vs':List V),qb zs->bL C.K F (lr zs) vs'->d = .lst (lr zs)->H l=none->Q (.ref l) (upd H l (.lst vs')):=λzs l vs' hz hv hd hl=>by
  subst hd;have hlen:(lr zs).length<64:=by rw[(mL zs).length_eq];rcases hz with z|z<;>omega
  obtain⟨F2,r2,s2,p2⟩:=(r.fresh (o:=.lst vs') hl).keep (U8.of r hl (show j4 C.K F (upd H l (.lst vs')) (.lst (lr zs)) l from⟨Qq2 (Qz8 hlen) (by decide),vs',aW,hv⟩));exact q _ _ F2 r2 s2 p2
 unfold z9 at e;split at e
 ·obtain⟨v,w,rfl,p1,p2⟩:=p;cases p2;split at e
  ·rename_i hz;cases e;obtain⟨z,a,ws,rfl,h1,h2⟩:=p1.lst r.fr;exact⟨F,a,ws,_,r.fr,rfl,.inl (o7.of h1),h2,hz,λl vs' hl hv=>fin _ l vs' hz hv rfl hl⟩
  ·cases e
 ·obtain⟨v,w,rfl,p1,p2⟩:=p;cases p2;split at e
  ·rename_i hz;cases e;obtain⟨z,a,ws,rfl,h1,_,h2⟩:=p1.tup r.fr;exact⟨F,a,ws,_,r.fr,rfl,.inr h1,h2,hz,λl vs' hl hv=>fin _ l vs' hz hv rfl hl⟩
  ·cases e
 ·cases e
end
variable{X:Cx}{C:Cfg}{p pos:Pos}{e:Expr}{ea:eN}
theorem QB(G:Good X C)(hm:X.mg "sorted" = none)(ha:Ca X C [e] ea)(hg:Gl X "sorted":=by rfl)(he:Ol e X.env:=by rfl):SX X C (.Call (.Name "sorted" p) [e] [] pos) (aq z9 ea):=⟨uM (X:=X) (r:=Kf C.K) (by rw[<-G.K];exact K6 G.u60) Us hg hm PyProof.Rows.boot_sorted ha.u (by decide) (by decide) he rfl⟩
open PySem PySem.Spec PySem.W PySem.Calls PyProof.Rows L2
def FA(K:Fg)(x:Str)(st:Stmt):Prop:=∃(f:Addr) (oc kV doc pm cdv ct:Value) (od an:Option Addr) (osl:Array (Option Value)),PySem.W.nsIn K mainGlobals x=some (some (.ref f))/\
 K.lookup f=some ⟨oc,od,.func (PySem.W.fnOf x x (f9 st) (cI st) (aK st) .none kV doc pm an cdv ct),osl⟩/\PySem.W.codeIn K cdv x=true/\PySem.W.keepIn K (.ref f)=true
theorem FA.mk{K:Fg}{x:Str}{st:Stmt}{f:Addr}{oc kV doc pm cdv ct:Value}{od an:Option Addr}{osl:Array (Option Value)}(a:PySem.W.nsIn K mainGlobals x=some (some (.ref f)))
  (l:K.lookup f=some ⟨oc,od,.func (PySem.W.fnOf x x (f9 st) (cI st) (aK st) .none kV doc pm an cdv ct),osl⟩) (c:PySem.W.codeIn K cdv x=true) (k:PySem.W.keepIn K (.ref f)=true):FA K x st:=
 ⟨f,oc,kV,doc,pm,cdv,ct,od,an,osl,a,l,c,k⟩
theorem FA.at{K:Fg}{h:Heap}{mg:Str->Option Value}{x:Str}{st:Stmt}{ps:List Str}(X:K.In h)(G:h.Ns mainGlobals mg)(F:FA K x st)
  (b:∀{kV doc pm:Value} {an:Option Addr} {cdv ct:Value} (us:List Value),us.length=ps.length->bindArgs (PySem.W.fnOf x x (f9 st) (cI st) (aK st) .none kV doc pm an cdv ct) ⟨us,[]⟩=pure (ps.zip us)):dH K mg x st ps:=by
 obtain⟨f,oc,kV,doc,pm,cdv,ct,od,an,osl,a,l,c,k⟩:=F;exact funAt X G a l c k (λ_ _ _ _ _ _ us hl=>b us hl)
open PySem PySem.Spec PyProof.Rows L2
mutual
theorem Sh.isN{h:Heap}:∀(d:D) (u:Value) (k:NK),Sh h d u->rR d=some k->Bl h k u
 | .int i,u,k,e,g=>by rw[rR] at g;cases g;obtain⟨t,rfl⟩:=e;rw[Bl];exact .inl ⟨t,rfl⟩
 | .bl b,u,k,e,g=>by rw[rR] at g;cases g;cases e;rw[Bl];exact .inr ⟨b,rfl,rfl⟩
 | .str x,u,k,e,g=>by rw[rR] at g;cases g;rw[Bl];exact e
 | .tup xs,u,k,e,g=>by
  rw[rR] at g;obtain⟨ks,g1,rfl⟩:=Qwk.mp g;obtain⟨a,its,rfl,⟨o,e1,e2,n,e3⟩,e4⟩:=e;rw[Bl];exact⟨a,o,its.toArray,n,rfl,e1,e2,e3,by simpa using oN.isN xs its ks e4 g1⟩
 | .non,u,k,e,g=>by simp[rR] at g
 | .lst _,u,k,e,g=>by simp[rR] at g
 | .arr _,u,k,e,g=>by simp[rR] at g
 | .dct _,u,k,e,g=>by simp[rR] at g
 | .iz _,u,k,e,g=>by simp[rR] at g
theorem oN.isN{h:Heap}:∀(ds:List D) (us:List Value) (ks:List NK),oN h ds us->Bx ds=some ks->oM h ks us
 | [],us,ks,e,g=>by rw[Bx] at g;cases g;cases e;rw[oM]
 | d::ds,us,ks,e,g=>by
  obtain⟨u,r,rfl,e1,e2⟩:=e;rw[Bx] at g;split at g
  ·rename_i k ks' g1 g2;cases g;rw[oM];exact⟨u,r,rfl,Sh.isN d u k e1 g1,oN.isN ds r ks' e2 g2⟩
  ·cases g
end
structure m8(K:Fg)(H:Hp)(y:V)(kd:D)(q:NK):Prop where
 rep:Rep K H kd y
 nk:rR kd=some q
 dep:q.dep<=8
 tup:∃xs,kd = .tup xs
abbrev KN:List (NK×V×V)->List (NK×Addr×Value)->Prop:=Paired λp q=>p.1=q.1/\p.2.1 = .ref q.2.1/\RelV p.2.2 q.2.2
noncomputable def valN(ks:List (NK×V×V))(q:NK):Option V:=(ks.find? λp=>decide (p.1=q)).map (·.2.2)
noncomputable def putN(ks:List (NK×V×V))(q:NK)(u v:V):List (NK×V×V):=if (valN ks q).isSome then ks.map (λp=>if p.1=q then (p.1,p.2.1,v) else p) else ks++[(q,u,v)]
theorem KN.val{ks:List (NK×V×V)}{xs:List (NK×Addr×Value)}(r:KN ks xs)(q:NK):vI (valN ks q) ((atKey xs q).map (·.2)):=by
 unfold valN atKey
 induction r with
 | nil=>exact True.intro
 | @cons p x ps xs h t ih=>
  rw[Qzw,Qzw];by_cases c:p.1=q
  ·have c2:x.1=q:=h.1 ▸ c;rw[Qw4 c,Qw4 c2];exact h.2.2
  ·have c2:¬x.1=q:=h.1 ▸ c;rw[Qwj c,Qwj c2];exact ih
theorem KN.len{ks:List (NK×V×V)}{xs:List (NK×Addr×Value)}(r:KN ks xs):ks.length=xs.length:=by
 induction r with
 | nil=>rfl
 | cons _ _ ih=>simp[ih]
theorem KN.put{ks:List (NK×V×V)}{xs:List (NK×Addr×Value)}(r:KN ks xs)(q:NK){b:Addr}{v:V}{u:Value}(rv:RelV v u):KN (putN ks q (.ref b) v) (storedH xs q b u):=by
 have hs:=(r.val q).my;rw[Qj9] at hs;unfold putN storedH;rw[<-hs];split
 ·clear hs
  induction r with
  | nil=>exact .nil
  | @cons p x ps xs h t ih=>
   rw[Qq8,Qq8];refine .cons ?_ ?_
   ·unfold putAt;by_cases c:p.1=q
    ·have c2:x.1=q:=h.1 ▸ c;rw[if_pos c,if_pos c2];exact⟨h.1,h.2.1,rv⟩
    ·have c2:¬x.1=q:=h.1 ▸ c;rw[if_neg c,if_neg c2];exact h
   ·rename_i hsome;clear hsome;clear ih
    induction t with
    | nil=>exact .nil
    | @cons p x ps xs h t ih=>
     rw[Qq8,Qq8];refine .cons ?_ ih;unfold putAt;by_cases c:p.1=q
     ·have c2:x.1=q:=h.1 ▸ c;rw[if_pos c,if_pos c2];exact⟨h.1,h.2.1,rv⟩
     ·have c2:¬x.1=q:=h.1 ▸ c;rw[if_neg c,if_neg c2];exact h
 ·exact Paired.snoc r ⟨rfl,rfl,rv⟩
section
variable{X:Cx}{pins:List (Addr×Obj)}{σ:L2.St}{H:Hp}{s:Shared}{a:Addr}{ks:List (NK×V×V)}{kvs:List (D×D)}{y v:V}{kd:D}{q:NK}{u:Value}{A:Around}{E:Value->Shared->Prop}
theorem MJ(I:Inv X pins σ H s):∀{kvs:List (D×D)} {ks:List (NK×V×V)} {xs:List (NK×Addr×Value)},dB X.K H kvs ks->KN ks xs->∀x∈xs,(qP X.prog X.w).is s.heap x.1 x.2.1
 | [],_,_,hr,r,x,hx=>by
  cases hr;cases r;cases hx
 | (k,d)::kvs,_,_,hr,r,x,hx=>by
  obtain⟨q,u,v,rest,rfl,h1,h2,h3,h4,h5⟩:=hr;cases r with
  | @cons _ x0 _ xs' h t=>
   rcases Qq4.mp hx with rfl|hx
   ·obtain⟨g1,g2,g3⟩:=h;simp only at g1 g2 g3;subst g1;subst g2;exact⟨Sh.isN k _ _ (Rep.sh I k _ (.ref x.2.1) h3 rfl) h1,h2⟩
   ·exact MJ I h5 t x hx
theorem Dl(I:Inv X pins σ H s)(e:Rd H a (.dN ks))(hr:dB X.K H kvs ks):ks.length<=sizeLine/\(a == sysModules)=false/\∃xs,KN ks xs/\s.heap.DictOfH (qP X.prog X.w) a xs:=by obtain⟨z,y,xs,r,o,es,ep,h1,h2,h3,h4,h5⟩:=(show gr X.prog X.w H s.heap a (.dN ks) from e.ok I.hok);exact⟨z,y,xs,r,o,es,ep,h1,h2,h3,h4,MJ I hr r,h5⟩
theorem m8.is(k:m8 X.K H y kd q)(I:Inv X pins σ H s)(ry:RelV y u):∃b,y = .ref b/\u = .ref b/\(qP X.prog X.w).is s.heap q b:=by obtain⟨h1,h2,h3,xs,rfl⟩:=k;have h4:=Sh.isN _ _ _ (Rep.sh I _ y u h1 ry) h2;obtain⟨_,b,vs,rfl,_⟩:=h1;cases ry;exact⟨b,rfl,rfl,h4,h3⟩
theorem uI(hu:A.units+12<cLine):(qP X.prog X.w).room A.in1:=by show A.units+1+10<cLine;omega
theorem ab1{Q:Value->Shared->Prop}(hu:A.units+12<cLine)(I:Inv X pins σ H s)(e:Rd H a (.dN ks))(hr:dB X.K H kvs ks)(k:m8 X.K H y kd q)(hv:valN ks q=some v)(ry:RelV y u)
  (h:∀w' s',Inv X pins σ H s'->RelV v w'->Q w' s'):wpAny (model X.prog X.w) A (getItem (.ref a) u) Q E s:=by
 obtain⟨b,rfl,rfl,hk⟩:=k.is I ry;obtain⟨z,hd,xs,rel,dd⟩:=Dl I e hr;obtain⟨w',hw,Kc⟩:=vI.some_of (v:=v) (o:=(atKey xs q).map (·.2)) (by rw[<-hv];exact rel.val q);obtain⟨p,hp,hp2⟩:=Qwk.mp hw;refine wpAny_getItem_heap (uI hu) hk dd hp ?_;rw[hp2];exact h w' _ (I.tok _) Kc
theorem aeF{Q:Value->Shared->Prop}(hu:A.units+12<cLine)(I:Inv X pins σ H s)(e:Rd H a (.dN ks))(hr:dB X.K H kvs ks)(k:m8 X.K H y kd q)(ry:RelV y u)
  (h:∀s',Inv X pins σ H s'->Q (.bool (valN ks q).isSome) s'):wpAny (model X.prog X.w) A (compareOp .In u (.ref a)) Q E s:=by
 obtain⟨b,rfl,rfl,hk⟩:=k.is I ry;obtain⟨z,hd,xs,rel,dd⟩:=Dl I e hr;refine wpAny_in_heap (uI hu) hk hd dd ?_;have q':=(rel.val q).my;rw[Qj9] at q';rw[<-q'];exact h _ (I.tok _)
theorem Um{Q:Value->Shared->Prop}(hu:A.units+12<cLine)(I:Inv X pins σ H s)(e:Rd H a (.dN ks))(hr:dB X.K H kvs ks)(k:m8 X.K H y kd q)(ry:RelV y u)
  (h:∀s',Inv X pins σ H s'->Q (.bool (!(valN ks q).isSome)) s'):wpAny (model X.prog X.w) A (compareOp .NotIn u (.ref a)) Q E s:=by
 obtain⟨b,rfl,rfl,hk⟩:=k.is I ry;obtain⟨z,hd,xs,rel,dd⟩:=Dl I e hr;refine wpAny_notIn_heap (uI hu) hk hd dd ?_;have q':=(rel.val q).my;rw[Qj9] at q';rw[<-q'];exact h _ (I.tok _)
theorem RL(ks:List (NK×V×V))(q:NK)(u v:V):(putN ks q u v).length<=ks.length+1:=by
 unfold putN;split
 ·rw[Qqv];omega
 ·simp
theorem ab0{r:Value}{Q:Unit->Shared->Prop}(hu:A.units+12<cLine)(I:Inv X pins σ H s)(e:H a=some (.dN ks))(hr:dB X.K H kvs ks)(k:m8 X.K H y kd q)(hl:ks.length<sizeLine)(ry:RelV y u)(rv:RelV v r)
  (h:∀s',Inv X pins σ (upd H a (.dN (putN ks q y v))) s'->Q () s'):wpAny (model X.prog X.w) A (setItem (.ref a) u r) Q E s:=by
 obtain⟨b,rfl,rfl,hk⟩:=k.is I ry;obtain⟨z,hd,xs,rel,dd⟩:=Dl I (.inl e) hr;have hz:xs.length<=sizeLine:=by rw[<-rel.len];exact z
 have hl2:(putN ks q (.ref b) v).length<=sizeLine:=by have:=RL ks q (.ref b) v;omega
 refine wpAny_setItem_heap (hsz:=hz) (uI hu) hk dd λh' Y6 hs=>h _ ?_;obtain⟨o,es,ep,hq,h2,h3,h4,_,h5⟩:=Y6;exact yO I (by rw[e];exact True.intro) hs ⟨o,hq⟩ ⟨hl2,hd,_,rel.put q rv,o,es,ep,hq,h2,h3,h4,h5⟩
end
noncomputable def jz(kvs:List (D×D))(q:NK):Option D:=(kvs.find? λp=>decide (rR p.1=some q)).map (·.2)
noncomputable def sG(kvs:List (D×D))(kd:D)(q:NK)(d:D):List (D×D):=if (jz kvs q).isSome then kvs.map (λp=>if rR p.1=some q then (p.1,d) else p) else kvs++[(kd,d)]
theorem dB.len{K:Fg}{F:Hp}:∀{kvs:List (D×D)} {ks:List (NK×V×V)},dB K F kvs ks->ks.length=kvs.length
 | [],_,h=>by cases h;rfl
 | (k,d)::kvs,_,h=>by obtain⟨q,u,v,r,rfl,_,_,_,_,h5⟩:=h;rw[Qqy,Qqy,h5.len]
theorem dB.val{K:Fg}{F:Hp}(q:NK):∀{kvs:List (D×D)} {ks:List (NK×V×V)},dB K F kvs ks->(jz kvs q=none/\valN ks q=none)\/∃d v,jz kvs q=some d/\valN ks q=some v/\Rep K F d v
 | [],_,h=>by cases h;exact .inl ⟨rfl,rfl⟩
 | (k,d)::kvs,_,h=>by
  obtain⟨q0,u,v,r,rfl,h1,h2,h3,h4,h5⟩:=h;unfold jz valN;rw[Qzw,Qzw];by_cases c:q0=q
  ·subst c;have c2:decide (rR k=some q0)=true:=Qw4 h1;rw[c2,Qw4 rfl];exact .inr ⟨d,v,rfl,rfl,h4⟩
  ·have c2:decide (rR k=some q)=false:=Qwj λz=>c (by rw[h1] at z;exact Qw1 z);rw[c2,Qwj c];exact dB.val q h5
theorem dB.snoc{K:Fg}{F:Hp}{kd d:D}{q:NK}{u v:V}(h1:rR kd=some q)(h2:q.dep<=8)(h3:Rep K F kd u)(h4:Rep K F d v):∀{kvs:List (D×D)} {ks:List (NK×V×V)},dB K F kvs ks->dB K F (kvs++[(kd,d)]) (ks++[(q,u,v)])
 | [],_,h=>by cases h;exact⟨q,u,v,[],rfl,h1,h2,h3,h4,rfl⟩
 | (k,e)::kvs,_,h=>by
  obtain⟨q0,u0,v0,r,rfl,g1,g2,g3,g4,g5⟩:=h;exact⟨q0,u0,v0,r++[(q,u,v)],rfl,g1,g2,g3,g4,dB.snoc h1 h2 h3 h4 g5⟩
theorem dB.over{K:Fg}{F:Hp}{d:D}{q:NK}{v:V}(h4:Rep K F d v):∀{kvs:List (D×D)} {ks:List (NK×V×V)},dB K F kvs ks->dB K F (kvs.map λp=>if rR p.1=some q then (p.1,d) else p) (ks.map λp=>if p.1=q then (p.1,p.2.1,v) else p)
 | [],_,h=>by cases h;rfl
 | (k,e)::kvs,_,h=>by
  obtain⟨q0,u0,v0,r,rfl,g1,g2,g3,g4,g5⟩:=h;rw[Qq8,Qq8];have ih:=dB.over (q:=q) h4 g5;by_cases c:q0=q
  ·subst c;rw[if_pos g1,if_pos rfl];exact⟨q0,u0,v,_,rfl,g1,g2,g3,h4,ih⟩
  ·rw[if_neg (λz=>c (by rw[g1] at z;exact Qw1 z)),if_neg c];exact⟨q0,u0,v0,_,rfl,g1,g2,g3,g4,ih⟩
theorem dB.put{K:Fg}{F:Hp}{kvs:List (D×D)}{ks:List (NK×V×V)}{kd d:D}{q:NK}{u v:V}(h:dB K F kvs ks)(h1:rR kd=some q)(h2:q.dep<=8)(h3:Rep K F kd u)(h4:Rep K F d v):dB K F (sG kvs kd q d) (putN ks q u v):=by
 have e:(jz kvs q).isSome=(valN ks q).isSome:=by rcases h.val q with ⟨g1,g2⟩|⟨_,_,g1,g2,_⟩<;>rw[g1,g2]<;>rfl
 unfold sG putN;rw[e];split
 ·exact h.over h4
 ·exact h.snoc h1 h2 h3 h4
theorem Ow(kvs:List (D×D))(kd:D)(q:NK)(d:D):(sG kvs kd q d).length<=kvs.length+1:=by
 unfold sG;split
 ·rw[Qqv];omega
 ·simp
theorem ir.iz{K:Fg}{F H:Hp}{kvs:List (D×D)}{v:V}(s:aO F H)(h:ir K F H (.iz kvs) v):kvs.length<=sizeLine/\∃a ks,v = .ref a/\Rd H a (.dN ks)/\dB K F kvs ks:=by
 rcases h with ⟨z,a,vs,rfl,h1,h2⟩|⟨a,rfl,z,vs,h1,h2⟩
 ·exact⟨z,a,vs,rfl,aO.rd s h1,h2⟩
 ·exact⟨z,a,vs,rfl,.inl h1,h2⟩
def zL(d:D):Option NK:=match d with
 | .tup xs=>(rR (.tup xs)).bind λq=>if q.dep<=8 then some q else none
 | _=>none
theorem tX{d:D}{q:NK}(h:zL d=some q):rR d=some q/\q.dep<=8/\∃xs,d = .tup xs:=by
 unfold zL at h;split at h
 ·obtain⟨p,h1,h2⟩:=Qx5.mp h;split at h2
  ·rename_i hd;cases h2;exact⟨h1,hd,_,rfl⟩
  ·cases h2
 ·cases h
theorem m8.of{C:Cfg}{F H:Hp}{d:D}{q:NK}{v:V}(s:aO F H)(p:ir C.K F H d v)(h:zL d=some q):m8 C.K H v d q:=by obtain⟨h1,h2,h3⟩:=tX h;exact⟨p.rep s,h1,h2,h3⟩
section
variable{X:Cx}{C:Cfg}{pos apos cpos:Pos}
def Rr(K:Fg):R2:=λx y H Q=>∃a ks kvs kd q v,x = .ref a/\Rd H a (.dN ks)/\dB K H kvs ks/\m8 K H y kd q/\valN ks q=some v/\Q v H
noncomputable def Aa:D->D->Option D
 | .iz kvs,k=>(zL k).bind λq=>jz kvs q
 | _,_=>none
theorem WT:o9 C (Rr C.K) Aa:=by
 intro Pr F env σ H x y d vx vy Q r px py e q;unfold Aa at e;split at e
 ·obtain⟨z,a,ks,rfl,h1,h2⟩:=px.iz r.fr;obtain⟨k,hk,hv⟩:=Qx5.mp e;rcases h2.val k with ⟨e1,_⟩|⟨d',v',e1,e2,p2⟩
  ·rw[e1] at hv;cases hv
  ·rw[e1] at hv;cases hv;exact⟨a,ks,_,_,k,v',rfl,h1,dB.mono r.fr _ _ h2,m8.of r.fr py hk,e2,q _ _ F r (aO.refl F) p2⟩
 ·cases e
theorem Ww{o i:Expr}{td ty:TE}(hu:X.A.units+12<cLine)(ho:PE X o td)(hi:PE X i ty)(hs:Qn i):PE X (.Subscript o i pos) (Vz (Rr X.K) td ty):=by intro pins s σ H Q I h;refine LQ PySem.F.slot_dict_getitem.lookup hs (fK (ho pins s σ H _ I h) λu s1 ⟨x,H1,I1,rx,q1⟩=>fK (hi pins s1 σ H1 _ I1 q1) λiv s2 ⟨y,H2,I2,ry,a,ks,kvs,kd,q,v,ex,g1,g2,g3,g4,q2⟩=>?_);subst ex;obtain rfl:u=Value.ref a:=rx;obtain⟨_,_,xs,_,dd⟩:=Dl I2 g1 g2;exact⟨dd.typeIs,ab1 hu I2 g1 g2 g3 g4 ry λw' s3 I3 Kc=>⟨v,H2,I3,Kc,q2⟩⟩
def V4(K:Fg)(neg:Bool):R2:=λx y H Q=>∃a ks kvs kd q,y = .ref a/\Rd H a (.dN ks)/\dB K H kvs ks/\m8 K H x kd q/\Q (.bl (if neg then !(valN ks q).isSome else (valN ks q).isSome)) H
theorem aaO(hu:X.A.units+12<cLine):mF X (compareOp .In) (V4 X.K false):=by intro pins s σ H x y v u Q I rx ry h;obtain⟨a,ks,kvs,kd,q,rfl,g1,g2,g3,q2⟩:=h;cases ry;exact aeF hu I g1 g2 g3 rx λs3 I3=>⟨.bl _,H,I3,rfl,q2⟩
theorem O3(hu:X.A.units+12<cLine):mF X (compareOp .NotIn) (V4 X.K true):=by intro pins s σ H x y v u Q I rx ry h;obtain⟨a,ks,kvs,kd,q,rfl,g1,g2,g3,q2⟩:=h;cases ry;exact Um hu I g1 g2 g3 rx λs3 I3=>⟨.bl _,H,I3,rfl,q2⟩
noncomputable def KQ(k y:D):Option D:=match y with
 | .iz kvs=>(zL k).map λq=>.bl (jz kvs q).isSome
 | _=>none
noncomputable def rT(k y:D):Option D:=match y with
 | .iz kvs=>(zL k).map λq=>.bl (!(jz kvs q).isSome)
 | _=>none
theorem aa7:o9 C (V4 C.K false) KQ:=by
 intro Pr F env σ H x y d vx vy Q r px py e q;cases y with
 | iz kvs=>
  obtain⟨k,hk,rfl⟩:=Qwk.mp (show(zL x).map (λq=>D.bl (jz kvs q).isSome)=some d from e);obtain⟨z,a,ks,rfl,h1,h2⟩:=py.iz r.fr;refine⟨a,ks,kvs,_,k,rfl,h1,dB.mono r.fr _ _ h2,m8.of r.fr px hk,?_⟩;have e2:(valN ks k).isSome=(jz kvs k).isSome:=by rcases h2.val k with ⟨g1,g2⟩|⟨d',v',g1,g2,_⟩<;>rw[g1,g2]<;>rfl
  rw[e2];exact q _ H F r (aO.refl F) rfl
 | _=>cases e
theorem O9:o9 C (V4 C.K true) rT:=by
 intro Pr F env σ H x y d vx vy Q r px py e q;cases y with
 | iz kvs=>
  obtain⟨k,hk,rfl⟩:=Qwk.mp (show(zL x).map (λq=>D.bl (!(jz kvs q).isSome))=some d from e);obtain⟨z,a,ks,rfl,h1,h2⟩:=py.iz r.fr;refine⟨a,ks,kvs,_,k,rfl,h1,dB.mono r.fr _ _ h2,m8.of r.fr px hk,?_⟩;have e2:(valN ks k).isSome=(jz kvs k).isSome:=by rcases h2.val k with ⟨g1,g2⟩|⟨d',v',g1,g2,_⟩<;>rw[g1,g2]<;>rfl
  rw[e2];exact q _ H F r (aO.refl F) rfl
 | _=>cases e
theorem aeG(G:Good X C):Cm X C .In KQ:=⟨_,aaO (by have:=G.un;omega),by rw[G.K];exact aa7⟩
theorem Uw(G:Good X C):Cm X C .NotIn rT:=⟨_,O3 (by have:=G.un;omega),by rw[G.K];exact O9⟩
theorem Uj{P:Program}{w:World}{H:Hp}(h:Heap)(hb:sysModules<h.objs.size):gr P w H (h.push { cls:=.type "dict",data:=.dict #[] }) h.objs.size (.dN []):=
 ⟨Qxk _,Qx6.mpr (Ne.symm (Qxq hb)),[],.nil,_, #[],0,Qww _ rfl,⟨rfl,rfl,rfl⟩,rfl,rfl,List.nodup_nil⟩
noncomputable def ph(i:Nat)(k a:Ev):bU:=λenv=>gM (a env) λd aL=>match aL[i]? with
 | some (some (_,_))=>gM (k aL) λkd fG=>(match fG[i]?,zL kd with
  | some (some (true,.iz kvs)),some q=>if kvs.length<sizeLine then .nx (fG.set i (some (true,.iz (sG kvs kd q d)))) else .stuck
  | _,_=>.stuck)
 | _=>.stuck
def Q9(K:Fg)(td ty tv:TE):TS:=λD σ H=>tv σ H λv H1=>td σ H1 λx H2=>ty σ H2 λy H3=>∃a ks kvs kd q,x = .ref a/\H3 a=some (.dN ks)/\dB K H3 kvs ks/\m8 K H3 y kd q/\ks.length<sizeLine/\D.nx σ (upd H3 a (.dN (putN ks q y v)))
theorem RX{o i value:Expr}{pos':Pos}{td ty tv:TE}(hu:X.A.units+12<cLine)(ho:PE X o td)(hi:PE X i ty)(hv:PE X value tv)(hs:swapsWith value (some (.Subscript o i pos')) pos.line X.env=pure false) :
  PS X (.Assign [.Subscript o i pos'] value pos) (Q9 X.K td ty tv):=by
 intro pins s σ H D I h;refine wpAny_Assign_Subscript (fK (hv pins s σ H _ I h) λr s1 ⟨v,H1,I1,rv,q1⟩=>fK (ho pins s1 σ H1 _ I1 q1) λu s2 ⟨x,H2,I2,rx,q2⟩=>fK (hi pins s2 σ H2 _ I2 q2) λiv s3 ⟨y,H3,I3,ry,a,ks,kvs,kd,q,ex,g1,g2,g3,g4,q3⟩=>?_) hs;subst ex;obtain rfl:u=Value.ref a:=rx;exact ab0 hu I3 g1 g2 g3 g4 ry rv λs4 I4=>⟨σ,_,I4,q3⟩
def QW(K:Fg)(tk tv:TE):TE:=λσ H Q=>∀p,H p=none->tk σ (upd H p (.dN [])) λx H1=>tv σ H1 λy H2=>H2 p=some (.dN [])/\∃kd q,m8 K H2 x kd q/\Q (.ref p) (upd H2 p (.dN [(q,x,y)]))
theorem R9{k v:Expr}{tk tv:TE}(hu:X.A.units+12<cLine)(hk:PE X k tk)(hv:PE X v tv):PE X (.Dict [some k] [v] pos) (QW X.K tk tv):=by intro pins s σ H Q I q;have hn:=I.hok.fresh (Qq1 s.heap.objs.size);have I1:=I.laid (a:=s.heap.objs.size) (o:=.dN []) (h':=s.heap.push { cls:=.type "dict",data:=.dict #[] }) (t':=s.toks) (λ_ _ q=>Qq0 _ q) (Qq1 _) (Uj s.heap I.big);rw[arm_eval_Dict,zip_pairTrees [some k] [v] X.env pos rfl rfl,dictDisplay_pairs (pairTrees [some k] [v] X.env pos) (by intro z;cases z) (by rw[pairTrees_length [some k] [v] X.env pos rfl rfl];simp)];refine Qqz (wpAny_standAt (Qqz ?_));unfold subDict;refine Qqz (wpAny_alloc ?_);refine Qqz (Qjx ?_);rw[if_pos (by rw[pairTrees_length [some k] [v] X.env pos rfl rfl];simp)];refine Qqz (pairTrees_cons_walk (fK (hk pins _ σ _ _ I1 (q _ hn)) λu s1 ⟨x,H1,J1,rx,q1⟩=>fK (hv pins s1 σ H1 _ J1 q1) λw2 s2 ⟨y,H2,J2,ry,e,kd,qq,ka,q2⟩=>pairTrees_nil_walk ?_));refine Qjx ?_;refine Qqz ?_;rw[Qkw];obtain⟨b,rfl,rfl,hkk⟩:=ka.is J2 rx;obtain⟨_,hd,xs,rel,dd⟩:=Dl (kvs:=[]) J2 (.inl e) rfl;cases rel;refine Qqz (Qqz (wpAny_dictSet_heap (hsz:=Qxk _) (show X.A.units+10<cLine by omega) hkk dd λh' Y6 hs=>Qq5 ?_));show wpAny _ _ (forIn ([]:List (Value×Value)) PUnit.unit _) _ _ _;rw[Qj5];refine Qq5 (Qq5 (Qq5 (Qq5 ?_)));obtain⟨o,es,ep,hq,h2,h3,h4,_,h5⟩:=Y6;exact⟨.ref s.heap.objs.size,_,yO (ob:=.dN [(qq,.ref b,y)]) J2 (by rw[e];exact True.intro) hs ⟨o,hq⟩ ⟨by show 1<=sizeLine;decide,hd,[(qq,b,w2)],.cons ⟨rfl,rfl,ry⟩ .nil,o,es,ep,hq,h2,h3,h4,h5⟩,rfl,q2⟩
def rA(k a:Ev):Ev:=λenv=>bindR (k env) λkd e1=>bindR (a e1) λd e2=>match zL kd with
 | some _=>.ok (.iz [(kd,d)]) e2
 | none=>.stuck
def yx:bU:=λ_=>.stuck
theorem QD{y:Expr}{b:Ev}{n:Str}{px:Pos}(i:Nat)(G:Good X C)(hb:Ny X C y b)(hN:X.N[i]? = some n:=by rfl)(hv:vH X.env.scope n:=by first|exact Or.inl rfl|exact Or.inr (Or.inl rfl)|exact Or.inr (Or.inr rfl))(hs:Qn y:=by intro _ _;rfl)
  (hd:lR n:=by decide) (hcd:uR n:=by decide):SX X C (.Subscript (.Name n px) y pos) (aA Aa i b):=⟨by
 have h:PE X (.Subscript (.Name n px) y pos) (Vz (Rr X.K) _ _):=Ww (pos:=pos) (by have:=G.un;omega) (iQ (pos:=px) hN hv hd hcd) hb.u hs;rw[G.K] at h;exact h.imp (rZ WT)⟩
theorem Hk{n:Str}{k e:Expr}{ek a:Ev}{px pos':Pos}(i:Nat)(G:Good X C)(hk:SX X C k ek)(he:SX X C e a)(hN:X.N[i]? = some n:=by rfl)(hv:vH X.env.scope n:=by first|exact Or.inl rfl|exact Or.inr (Or.inl rfl)|exact Or.inr (Or.inr rfl))
  (hs:swapsWith e (some (.Subscript (.Name n px) k pos')) pos.line X.env=pure false:=by rfl)
  (hd:lR n:=by decide) (hcd:uR n:=by decide):Gn X C (.Assign [.Subscript (.Name n px) k pos'] e pos) (ph i ek a):=⟨by
 have h0:PS X (.Assign [.Subscript (.Name n px) k pos'] e pos) (Q9 X.K _ _ _):=RX (by have:=G.un;omega) (iQ hN hv hd hcd) hk.u he.u hs;rw[G.K] at h0;refine h0.imp λD σ H h=>?_;obtain⟨Pr,F,env,r,f⟩:=h;obtain⟨d,aL,e1,f1⟩:=di f;refine⟨Pr,F,env,aL,d,r,e1,λv H1 F1 r1 s1 p1=>?_⟩;split at f1
 ·rename_i o0 d0 h0;obtain⟨v0,hv0,_⟩:=r1.rd h0;obtain⟨kd,fG,e2,f2⟩:=di f1;refine⟨v0,hv0,Pr,F1,aL,fG,kd,r1,e2,λvk H2 F2 r2 s2 p2=>?_⟩;split at f2
  ·rename_i kvs q h2 hq;split at f2
   ·rename_i hz;obtain⟨b,g1,⟨z,ks,g2,g3⟩,g4,g5⟩:=r2.own i _ h2;rw[hv0] at g1;cases g1;have hz':ks.length<sizeLine:=by rw[g3.len];exact hz
    obtain⟨n1,n2,n3⟩:=tX hq;refine⟨b,ks,kvs,kd,q,rfl,g2,dB.mono r2.fr _ _ g3,⟨Rep.mono r2.fr _ _ p2,n1,n2,n3⟩,hz',?_⟩;refine f2 σ _ F2 (r2.write h2 hv0 ⟨Qq2 (Ow _ _ _ _) hz,_,aW,g3.put n1 n2 p2 (Rep.mono s2 _ _ p1)⟩) (s1.trans s2)
   ·exact f2.elim
  ·exact f2.elim
 ·exact f1.elim⟩
theorem CK{k v:Expr}{ek ev:Ev}(G:Good X C)(hk:SX X C k ek)(hv:SX X C v ev):Ye X C (.Dict [some k] [v] pos) (rA ek ev):=⟨by
 have h0:PE X (.Dict [some k] [v] pos) (QW X.K _ _):=R9 (by have:=G.un;omega) hk.u hv.u;rw[G.K] at h0;refine h0.imp λσ H Q hq=>?_;obtain⟨Pr,F,env,env',d,r,e,q⟩:=hq;obtain⟨kd,aL,e1,e2⟩:=aU e;obtain⟨dv,fG,e3,e4⟩:=aU e2;split at e4
 ·rename_i qq hqq;cases e4;obtain⟨n1,n2,n3⟩:=tX hqq;intro p hp;have ra:=r.aside (o:=.dN []) hp;have nP:Pr p=none:=r.pr.free hp;refine⟨upd Pr p (.dN []),F,env,aL,kd,ra,e1,λx H1 F1 r1 s1 p1=>⟨upd Pr p (.dN []),F1,aL,env',dv,r1,e3,λy H2 F2 r2 s2 p2=>⟨r2.pr p _ aW,kd,qq,⟨Rep.mono r2.fr _ _ (Rep.mono s2 _ _ p1),n1,n2,n3⟩,?_⟩⟩⟩;have r3:=r2.turn (u:=.dN [(qq,x,y)]) aW;have nF:F2 p=none:=by
   cases hF:F2 p with
   | none=>rfl
   | some o=>have:=r2.dj p o hF;rw[aW] at this;cases this
  have r4:Rel C Pr F2 env' σ (upd H2 p (.dN [(qq,x,y)])):=r3.less λb o hb=>by
   have hne:b≠p:=λz=>by rw[z,nP] at hb;cases hb
   rw[bG hne,bG hne];exact hb
  refine q p _ F2 r4 (s1.trans s2) ⟨⟨by show 1<=sizeLine;decide,_,aW,⟨qq,x,y,[],rfl,n1,n2,Rep.mono s2 _ _ p1,p2,rfl⟩⟩,nF,nP,λj e he hs=>?_⟩;obtain⟨b,h1,_,_,h4⟩:=r2.own j e he;rw[hs] at h1;cases h1;rw[aW] at h4;cases h4
 ·cases e4⟩
theorem zz{st:Stmt}:Gn X C st yx:=⟨λpins s σ H D I h=>by
 obtain⟨_,_,_,_,f⟩:=h;exact f.elim⟩
end
end Ev
namespace SI
open PySem PySem.Spec PyProof.Rows L2 PySem.Builtin
def Ris(xs:Array Nat):Prop:=∀i j,i<j->j<xs.size->xs.getD i 0<xs.getD j 0
structure Pl(t:SetTable):Prop where
 dm:t.dummies = #[]
 ri:Ris t.place
open SX (led)
structure TOk(P:Program)(w:World)(es:Array (Int×Value))(t:SetTable)(ys:List Int):Prop where
 el:ElemsOf (intKind P w) es.toList
 tx:∃ss:List Int,IntsAre (es.toList.map (·.2)) ss/\ss.Perm ys
 fit:t.fits es.size=true
 ld:t.led=led w
 pl:Pl t
def Li(P:Program)(w:World)(h:Heap)(a:Addr)(ys:List Int):Prop:=
 ∃o es ep t,h.get? a=some o/\o.ExactSet/\o.data = .set es ep t/\TOk P w es t ys
open PySem PySem.Spec PyProof.Rows L2 PySem.Builtin Ev
def aeO(P:Program)(w:World)(a:Addr)(ys:List Int):HO:=.ext λh=>Li P w h a ys
end SI
namespace Ev
open PySem PySem.Spec PyProof.Rows L2 PySem.Builtin
instance (zs:List Int):Decidable (zs.Pairwise (·< ·)):=inferInstance
end Ev
namespace L2
open PySem PySem.Spec PyProof.Rows
structure jF(N P Q:List Str)(sc:Scope):Prop where
 kind:sc.kind = .function
 co:sc.isCoroutine=false
 gen:sc.isGenerator=false
 nd:N.Nodup
 pre:N.take (P.length+Q.length)=P++Q
 par:∀x∈P,sc.names.lookup x=some .local
 fre:∀x,sc.names.lookup x=some .free->x∈Q
 frk:∀x∈Q,sc.names.lookup x=some .free
 SQ:∀y∈sc.names,y.2 ≠ .cell
def cxN(CX:Qv)(P:Program)(w:World)(K:PySem.W.Frag)(mg:Str->Option Value)(base:Heap)(N:List Str)(qual:Str)(scope:Scope)(f:Addr)(cd:Value)(cl:List (Str×Addr))(A:Around)(outer:List Env)(s:Shared)(H:Hp)(E:XK):Cx where
 prog:=P
 w:=w
 K:=K
 mg:=mg
 base:=base
 A:=A.deeper (PySem.W.envX qual scope s.heap.objs.size f cd cl)
 N:=N
 s₀:=s
 H₀:=H
 env:=PySem.W.envX qual scope s.heap.objs.size f cd cl
 outer:=outer
 stack:=PySem.W.envX qual scope s.heap.objs.size f cd cl::outer
 ex:=[]
 calm:=true
 fn:=λ_=>false
 pn:=[]
 xe:=λe s'=>wpAny (model P w) (A.deeper (PySem.W.envX qual scope s.heap.objs.size f cd cl)) (leaving (PySem.W.envX qual scope s.heap.objs.size f cd cl) e) (λ_ s''=>CX outer H s E e s'') (λe' s''=>CX outer H s E e' s'') s'
theorem zO{ps:List Str}{us:List Value}{i:Nat}{x:Str}{u:Value}(nd:ps.Nodup)(h1:ps[i]? = some x)(h2:us[i]? = some u):(ps.zip us).reverse.lookup x=some u:=by
 have go:∀{l:List (Str×Value)},(l.map (·.1)).Nodup->(x,u)∈l->l.lookup x=some u:=by
  intro l
  induction l with
  | nil=>intro _ h;cases h
  | cons p r ih=>
   intro hn hm;rw[Qq8,Qxj] at hn;rcases Qq4.mp hm with e|hm
   ·subst e;simp[Qxw]
   ·rw[Qxw];cases hb:x == p.1 with
    | false=>exact ih hn.2 hm
    | true=>
     have:=eq_of_beq hb;exact absurd (List.mem_map_of_mem (f:=(·.1)) hm) (this ▸ hn.1)
 refine go ?_ (Qkv.mpr ?_)
 ·rw[List.map_reverse];have:∀(a:List Str) (b:List Value),a.Nodup->((a.zip b).map (·.1)).Nodup:=by
   intro a
   induction a with
   | nil=>intro b _;exact .nil
   | cons y a ih=>
    intro b hn;cases b with
    | nil=>exact .nil
    | cons v b=>
     rw[List.zip_cons_cons,Qq8,Qxj];refine⟨λhm=>?_,ih b (Qxj.mp hn).2⟩;obtain⟨q,hq,e⟩:=Qwy.mp hm;have e':q.1=y:=e;exact(Qxj.mp hn).1 (e' ▸ (List.of_mem_zip (a:=q.1) (b:=q.2) hq).1)
  exact List.pairwise_reverse.mpr ((this ps us nd).imp λh=>Ne.symm h)
 ·obtain⟨l1,e1⟩:=Qqw.mp h1;obtain⟨l2,e2⟩:=Qqw.mp h2;refine List.mem_iff_getElem?.mpr ⟨i,?_⟩;rw[List.getElem?_zip_eq_some];exact⟨h1,h2⟩
theorem De:∀{l:List (Str×Addr)} {i:Nat} {x:Str} {c:Addr},(l.map (·.1)).Nodup->l[i]? = some (x,c)->l.lookup x=some c
 | [],_,_,_,_,h=>by simp at h
 | p::r,0,x,c,_,h=>by
  simp at h;subst h;simp[Qxw]
 | p::r,i+1,x,c,hn,h=>by
  rw[Qq8,Qxj] at hn;have hm:r[i]? = some (x,c):=by simpa using h
  rw[Qxw];cases hb:x == p.1 with
  | false=>exact De hn.2 hm
  | true=>
   have:=eq_of_beq hb;exact absurd (List.mem_map_of_mem (f:=(·.1)) (Qxv hm)) (this ▸ hn.1)
theorem mem_lookup:∀{l:List (Str×Addr)} {x:Str} {c:Addr},l.lookup x=some c->∃i:Nat,l[i]? = some (x,c)
 | [],_,_,h=>by simp at h
 | p::r,x,c,h=>by
  rw[Qxw] at h;cases hb:x == p.1 with
  | false=>
   rw[hb] at h;obtain⟨i,e⟩:=mem_lookup h;exact⟨i+1,by simpa using e⟩
  | true=>
   rw[hb] at h;have e1:=eq_of_beq hb;have e2:p.2=c:=by simpa using h
   exact⟨0,by subst e1 e2;rfl⟩
theorem has_lookup:∀{l:List (Str×Addr)} {x:Str},x∈l.map (·.1)->∃c,l.lookup x=some c
 | [],x,h=>by simp at h
 | p::r,x,h=>by
  rw[Qxw];cases hb:x == p.1 with
  | true=>exact⟨_,rfl⟩
  | false=>
   rw[Qq8,Qq4] at h;rcases h with e|h
   ·subst e;simp at hb
   ·exact has_lookup h
theorem TQ{CX:Qv}{P:Program}{w:World}{K:PySem.W.Frag}{mg:Str->Option Value}{base:Heap}{N ps qs:List Str}{qual:Str}{scope:Scope}{f:Addr}{cd:Value}{cl:List (Str×Addr)}{A:Around}{outer:List Env}{s:Shared}{H:Hp}{E:XK}{us:List Value}{vs Dm:List V}{h₁:Heap}{tk:Nat}
  (S:jF N ps qs scope) (hd:A.handled=none) (e0:Jo P w K mg base A outer s H) (hl:vs.length=ps.length) (r:Vals vs us) (hc1:cl.map (·.1)=qs) (hc2:(cl.map (·.2)).Nodup) (hc3:Dm.length=cl.length)
  (hc:∀(i:Nat) x c v,cl[i]? = some (x,c)->Dm[i]? = some v->∃o u w,H c=some (.lD o u)/\o.data = .cell (some w)/\RelV v w)
  (hn:h₁.Ns s.heap.objs.size (λx=>(ps.zip us).reverse.lookup x)) (hk:∀b o,s.heap.get? b=some o->h₁.get? b=some o) :
  Inv (cxN CX P w K mg base N qual scope f cd cl A outer s H E) [] (start N (vs++Dm)) H { s with heap:=h₁,toks:=tk }:=by
 have hlen:(vs++Dm).length=ps.length+qs.length:=by rw[Qqx,hl,hc3,<-hc1,Qqv]
 have hpl:ps.length+qs.length<=N.length:=by have:=Qz4 List.length S.pre;rw[Qzy,Qqx] at this;omega
 have ndQ:(ps++qs).Nodup:=by rw[<-S.pre];exact S.nd.sublist (List.take_sublist _ _)
 have ndP:ps.Nodup:=(List.nodup_append.mp ndQ).1;have ndC:(cl.map (·.1)).Nodup:=by rw[hc1];exact(List.nodup_append.mp ndQ).2.1
 have cv:∀(i:Nat) x c,cl[i]? = some (x,c)->∃v o u w,Dm[i]? = some v/\H c=some (.lD o u)/\o.data = .cell (some w)/\RelV v w/\s.heap.get? c=some o:=λi x c e=>by
  have hi:i<Dm.length:=by rw[hc3];exact(Qqw.mp e).1
  obtain⟨o,u,w,q1,q2,q3⟩:=hc i x c Dm[i] e (Qwz hi);exact⟨_,o,u,w,Qwz hi,q1,q2,q3,(e0.hok c _ q1).1⟩
 have Vd:∀b:Addr,b ∉ (cxN CX P w K mg base N qual scope f cd cl A outer s H E).ex:=λb z=>absurd (show b∈([]:List Addr) from z) (by simp);refine⟨⟨e0.mod,S.kind,rfl,rfl,Qq1 _,λy z c h1 h2=>?_,λy hy=>?_,λy c h _=>?_,λ_=>hd,Around.frames_deeper e0.frames,.inr ⟨rfl,rfl⟩,λb z=>absurd z (Vd b),e0.bs,e0.Ux,λb _ _=>Vd b,λb z=>absurd z (Vd b),e0.uZ,e0.YZ⟩,
  rfl,e0.bare,Un.kept hk,⟨_,hn,λi y v h1 h2 h3=>?_⟩,λy c h=>?_,e0.hok.fresh (Qq1 _),λy c h=>?_,λp hp=>absurd (show p∈([]:List (Addr×Obj)) from hp) (by simp),e0.hok.kept hk,?_⟩
 ·obtain⟨i,e1⟩:=mem_lookup (show cl.lookup y=some c from h1);obtain⟨j,e2⟩:=mem_lookup (show cl.lookup z=some c from h2);have g1:(cl.map (·.2))[i]? = some c:=by rw[Qw5,e1];rfl
  have g2:(cl.map (·.2))[j]? = some c:=by rw[Qw5,e2];rfl
  have hij:i=j:=by obtain⟨l1,f1⟩:=Qqw.mp g1;obtain⟨l2,f2⟩:=Qqw.mp g2;exact(List.getElem_inj hc2).mp (f1.trans f2.symm)
  subst hij;rw[e1] at e2;cases e2;rfl
 ·have hy:scope.names.lookup y=some .cell\/scope.names.lookup y=some .free:=hy;rcases hy with hy|hy
  ·exact absurd rfl (S.SQ _ (Qjq hy))
  ·exact has_lookup (show y∈cl.map (·.1) by rw[hc1];exact S.fre y hy)
 ·cases h
 ·have hi:i<(vs++Dm).length:=by
   unfold start at h2;by_cases hi:i<(vs++Dm).length
   ·exact hi
   ·rw[Qxy (by simpa using hi)] at h2;rw[Qzj] at h2;split at h2<;>cases h2
  have ha:(vs++Dm)[i]? = some v:=by
   unfold start at h2;rw[Qw3 (by simpa using hi),Qw5] at h2;cases e:(vs++Dm)[i]? with
   | none=>rw[e] at h2;cases h2
   | some a=>rw[e] at h2;cases h2;rfl
  have hp:(ps++qs)[i]? = some y:=by rw[<-S.pre,Qz1 (by omega)];exact h1
  by_cases hi1:i<vs.length
  ·rw[Qw3 hi1] at ha;rw[Qw3 (by omega)] at hp;obtain⟨u,hu,rv⟩:=r.get ha;exact⟨u,rv,.inl ⟨S.par y (Qxv hp),zO ndP hp hu⟩⟩
  ·rw[Qxy (by omega)] at ha hp;rw[hl] at ha;obtain⟨li,ei⟩:=Qqw.mp ha;have hci:i - ps.length<cl.length:=by omega
   have hcl:cl[i - ps.length]? = some cl[i - ps.length]:=Qwz hci;have hy:(cl[i - ps.length]).1=y:=by
    have:(cl.map (·.1))[i - ps.length]? = some y:=by rw[hc1];exact hp
    rw[Qw5,hcl] at this;exact Qw1 this
   obtain⟨x',c⟩:∃c,cl[i - ps.length]=(y,c):=⟨_,by rw[<-hy]⟩;rw[c] at hcl;obtain⟨o,u,w,q1,q2,q3⟩:=hc _ _ _ _ hcl ha;refine⟨w,q3,.inr ⟨.inr (S.frk y (Qxv hp)),x',De ndC hcl,o,hk _ _ (e0.hok _ _ q1).1,q2⟩⟩
 ·obtain⟨i,e1⟩:=mem_lookup (show cl.lookup y=some c from h);obtain⟨v,o,u,w,q1,q2,q3,q4,q5⟩:=cv i y c e1;exact⟨_,o,hk _ _ q5,q3⟩
 ·obtain⟨i,e1⟩:=mem_lookup (show cl.lookup y=some c from h);obtain⟨v,o,u,w,q1,q2,q3,q4,q5⟩:=cv i y c e1;exact .inr ⟨rfl,o,u,q2⟩
 ·unfold start;show _=N.length;rw[Qqx,Qqv,Qx4];omega
theorem Ra{CX:Qv}{P:Program}{w:World}{K:PySem.W.Frag}{mg:Str->Option Value}{base:Heap}{k:Nat}{f c:Addr}{name qual:Str}{params:Arguments}{body:List Stmt}{scope:Scope}{doc pm ctv:Value}{u0 u1:HO}{co:Obj}{ab3:Array Value}{t1:Tok}{cl:List (Str×Addr)}
  {N ps qs:List Str} {A:Around} {outer:List Env} {s:Shared} {H:Hp} {args:Args} {us:List Value} {vs Dm:List V} {Q:VK} {E:XK}
  (S:jF N ps qs scope) (hr:gm (k+1) A) (e0:Jo P w K mg base A outer s H) (hb:BindsTo s (PySem.W.fnX name qual params body scope cl .none .none doc pm none (.ref c) ctv) args (ps.zip us)) (hl:vs.length=ps.length) (r:Vals vs us)
  (hc1:cl.map (·.1)=qs) (hc2:(cl.map (·.2)).Nodup) (hc3:Dm.length=cl.length)
  (hc:∀(i:Nat) x c v,cl[i]? = some (x,c)->Dm[i]? = some v->∃o u w,H c=some (.lD o u)/\o.data = .cell (some w)/\RelV v w)
  (hf:H f=some (.lD (PySem.W.fnMade name qual params body scope cl doc pm c ctv) u0)) (hco:H c=some (.lD co u1)) (hcd:co.data = .fields ab3) (hcq:ab3[1]? = some (.str qual t1))
  (hbody:∃t,Gq (cxN CX P w K mg base N qual scope f (.ref c) cl A outer s H E) body t/\t { nx:=λ_ H'=>Q .non H',rt:=Q } (start N (vs++Dm)) H) :
  codeAny (model P w) A (.call (.ref f) args) (CR CX outer P w H s Q E) s:=by
 have KX:K.In s.heap:=e0.mod.Ju.keeps λb o e=>(e0.bs b o e).1;have lim:s.heap.NoLimit:=e0.mod.nolimit.keeps λb o e=>(e0.bs b o e).1;have hloc:∀y∈ps.zip us,scope.names.lookup y.1=some .local:=λy hy=>S.par y.1 (List.of_mem_zip (a:=y.1) (b:=y.2) hy).1;refine codeAny_call_def (fd:=PySem.W.fnX name qual params body scope cl .none .none doc pm none (.ref c) ctv) (body:=body) (binds:=ps.zip us) hr.depth (e0.hok f _ hf).1 rfl lim ⟨c,co,ab3,t1,rfl,(e0.hok c _ hco).1,hcd,hcq⟩ rfl hb S.SQ hloc (λh₁ hns hk₁=>?_) S.co S.gen S.kind;obtain⟨t,ht,hq⟩:=hbody;have I:Inv (cxN CX P w K mg base N qual scope f (.ref c) cl A outer s H E) [] (start N (vs++Dm)) H { s with heap:=h₁,toks:=s.toks+(ps.zip us).length }:=TQ S hr.hd e0 hl r hc1 hc2 hc3 hc hns hk₁;refine Qz2 (ht [] _ (start N (vs++Dm)) H _ I hq) (λfl s' hs=>?_) λe s' hs=>hs;have fin:∀{σ':St} {H':Hp} {v:V} {u:Value},Inv (cxN CX P w K mg base N qual scope f (.ref c) cl A outer s H E) [] σ' H' s'->RelV v u->Q v H'->CE outer P w H s Q u s':=
  λ{σ' H' v u} J rv q=>⟨v,H',J.os,J.bare,J.base,J.hok,rv,q⟩
 cases fl with
 | ret u=>
  obtain⟨v,σ',H',J,rv,q⟩:=hs;exact fin J rv q
 | next=>
  obtain⟨σ',H',J,q⟩:=hs;exact fin (v:=V.non) (u:=Value.none) J rfl q
 | brk=>
  obtain⟨_,_,_,q⟩:=hs;exact False.elim q
 | cont=>
  obtain⟨_,_,_,q⟩:=hs;exact False.elim q
end L2
namespace Ev
open PySem PySem.Spec PyProof.Rows L2
def rH(P:Program)(w:World)(K:Fg)(mg:Str->Option Value)(base:Heap)(k:Nat)(st:Stmt)(g:List D->List D->Option D):Prop:=
 ∀(A:Around) (outer:List PySem.Env) (s:Shared) (H:Hp) (us:List Value) (vs:List V) (Q:VK) (E:XK) (a:Addr) (F:Hp) (lM ds:List D) (d:D),
  gm k A->Jo P w K mg base A outer s H->Vals vs us->aO F H->Rep K F (.clo st lM) (.ref a)->bL K F ds vs->g lM ds=some d->
  (∀v H' F',aO H H'->aO F' H'->aO F F'->(∀b o,F' b=some o->F b=some o\/H b=none)->Rep K F' d v->Q v H')->
  codeAny (model P w) A (.call (.ref a) ⟨us,[]⟩) (CR yc outer P w H s Q E) s
theorem rH.mono{P:Program}{w:World}{K:Fg}{mg:Str->Option Value}{base:Heap}{j k:Nat}{st:Stmt}{g:List D->List D->Option D}(h:rH P w K mg base j st g)(e:j<=k):rH P w K mg base k st g:=
 λA outer s H us vs Q E a F lM ds d hr=>h A outer s H us vs Q E a F lM ds d (hr.mono e)
def runC(n m:Nat)(ev:bU)(lM ds:List D):Option D:=if ds.length=n then (match ev (envOf m (ds++lM)) with
 | .rt false d _=>some d
 | .nx _=>some .non
 | _=>none) else none
abbrev bxN(P:Program)(w:World)(K:Fg)(mg:Str->Option Value)(base:Heap)(N:List Str)(qual:Str)(st:Stmt)(f:Addr)(cdv:Value)(cl:List (Str×Addr))(A:Around)(outer:List PySem.Env)(s:Shared)(H:Hp)(E:XK):Cx:=(cxN yc P w K mg base N qual (aK st) f cdv cl A outer s H E).WX
theorem Dq{F:Hp}:∀{cl:List (Str×Addr)} {vs:List V},qd F cl vs->vs.length=cl.length
 | [],_,h=>by cases h;rfl
 | (_,c)::r,_,⟨v,vs',h0,_,h3⟩=>by subst h0;rw[Qqy,Qqy,Dq h3]
theorem Jd{F:Hp}:∀{cl:List (Str×Addr)} {vs:List V},qd F cl vs->∀(i:Nat) x c v,cl[i]? = some (x,c)->vs[i]? = some v->Vc F c v
 | [],_,_,i,x,c,v,e,_=>by simp at e
 | (_,c0)::r,_,⟨v0,vs',h0,h1,h3⟩,0,x,c,v,e,e2=>by subst h0;simp at e e2;obtain⟨_,rfl⟩:=e;subst e2;exact h1
 | (_,c0)::r,_,⟨v0,vs',h0,h1,h3⟩,i+1,x,c,v,e,e2=>by subst h0;exact Jd h3 i x c v (by simpa using e) (by simpa using e2)
theorem FW{P:Program}{w:World}{K:Fg}{mg:Str->Option Value}{base:Heap}{k:Nat}{st:Stmt}{N ps:List Str}{ev:bU}(S:jF N ps (freeOf st) (aK st))(hgl:aef st=false)
  (hbind:∀{q:Str} {cl:List (Str×Addr)} {doc pm cv ctv:Value} (us:List Value),us.length=ps.length->bindArgs (PySem.W.fnX (defName st) q (f9 st) (cI st) (aK st) cl .none .none doc pm none cv ctv) ⟨us,[]⟩=pure (ps.zip us))
  (hb:∀(q:Str) (f:Addr) (cdv:Value) (cl:List (Str×Addr)) (A:Around) (outer:List PySem.Env) (s:Shared) (H:Hp) (E:XK),gm k (A.deeper (PySem.W.envX q (aK st) s.heap.objs.size f cdv cl))->Good (bxN P w K mg base N q st f cdv cl A outer s H E) (C0 K)->sE (bxN P w K mg base N q st f cdv cl A outer s H E) (C0 K) (cI st) ev) :
  rH P w K mg base (k+1) st (runC ps.length N.length ev):=by
 intro A outer s H us vs Q E a F lM ds d hr e0 r sF hclo p e q;obtain⟨a',Dm,hv,⟨⟨u,qn,cl,doc,pm,ctv,c,h1,⟨co,u2,ws,t,h2,h3,h4⟩,h5,h6,h7⟩,_⟩|⟨n,p,_,_,_,_,rfl,_⟩,pc⟩:=hclo
 rotate_left
 ·cases hgl
 cases hv;unfold runC at e;split at e
 ·rename_i hl;have hlv:vs.length=ps.length:=by rw[p.length];exact hl
  have hlu:us.length=ps.length:=by rw[<-r.length];exact hlv
  refine Ra (N:=N) (ps:=ps) (qs:=freeOf st) (us:=us) (vs:=vs) (Dm:=Dm) S hr e0 (.of_eq (hbind us hlu)) hlv r h5 h6 (Dq h7) (λi x c v e1 e2=>?_) (sF _ _ h1) (sF _ _ h2) h3 h4 ?_
  ·obtain⟨o,u,w,g1,g2⟩:=Jd h7 i x c v e1 e2;exact⟨o,u,w,sF _ _ g1,g2⟩
  ·have hr':=hr.deeper (PySem.W.envX qn (aK st) s.heap.objs.size a (.ref c) cl);refine⟨tS (C0 K) ev,(hb qn a (.ref c) cl A outer s H E hr' ⟨rfl,rfl,hr'.units⟩).WX,BJ H F,F,envOf N.length (ds++lM),rN sF (p.append pc),?_⟩;split at e
   ·rename_i d' env' h1;cases e;rw[h1];exact λv σ' H' F' r' s' p'=>q v H' F' (aO.tW r'.pr s' r'.fr sF) r'.fr s' (tZ s' r'.dj) p'
   ·rename_i env' h1;cases e;rw[h1];exact λσ' H' F' r' s'=>q .non H' F' (aO.tW r'.pr s' r'.fr sF) r'.fr s' (tZ s' r'.dj) rfl
   ·cases e
 ·cases e
def lO(Φ:Stmt->List D->List D->Option D)(i:Nat)(a:eN):Ev:=λenv=>match env[i]? with
 | some (some (false,.clo st lM))=>bindR (a env) λds aL=>iT (Φ st lM ds) aL
 | _=>.stuck
section
variable{X:Cx}{C:Cfg}{pos p:Pos}{k:Nat}{x:Str}{e:Expr}{es:List Expr}
theorem aai{Φ:Stmt->List D->List D->Option D}{a:eN}(i:Nat)(hN:X.N[i]? = some x)(hv:vH X.env.scope x)(G:Good X C)(hΦ:∀st lM ds d,Φ st lM ds=some d->rH X.prog X.w X.K X.mg X.base k st (Φ st))(hr:gm k X.A)
  (hx:∀e s,False->X.xe e s) (ha:U7 X C (e::es) a) (hd:lR x:=by decide) (hcd:uR x:=by decide)
  (he:starEach (e::es) X.env=(false,eval e X.env)::starEach es X.env:=by rfl) (hpl:(backTo pos (starEach es X.env)).any (·.1)=false:=by rfl) :
  PX X C (.Call (.Name x p) (e::es) [] pos) (lO Φ i a):=by
 intro pins s σ H Q I h;obtain⟨Pr,F,env,env',d,r,ev,q⟩:=h;unfold lO at ev;split at ev
 ·rename_i st lM h0;obtain⟨ds,aL,e1,e2⟩:=aU ev;obtain⟨e3,rfl⟩:=fU e2;obtain⟨v,hσ,a0,vs0,rfl,hclo,T3⟩:=r.val i _ h0;have fnAt:∀{F2:Hp} {s2:Shared} {H2:Hp},aO F F2->aO F2 H2->uo X.prog X.w H2 s2.heap->X.K.In s2.heap->PySem.W.FnAt a0 s2.heap:=λt1 t2 hok hin=>by
   obtain⟨⟨u,qn,cl,doc,pm,ctv,c,h1,_⟩,_⟩|⟨n,p,oc,od,fd,sl,_,_,hl⟩:=hclo
   rotate_left
   ·exact⟨_,_,_,_,hin _ _ (by rw[G.K];exact hl)⟩
   exact⟨_,_,_,_,(hok a0 _ (t2 _ _ (t1 _ _ h1))).1⟩
  refine wpAny_Call_Name_kw (Qz2 (iQ hN hv hd hcd pins s σ H (λv H'=>v = .ref a0/\H'=H) I ⟨_,hσ,rfl,rfl⟩) (λu s1 hu=>?_) λ_ _ z=>z);obtain⟨v',H',I1,rv,rfl,rfl⟩:=hu;obtain rfl:u=Value.ref a0:=rv;refine PySem.W.callWith_F (fnAt (aO.refl F) r.fr I1.hok I1.Px) (fK (ha pos pins s1 σ H' (λvs H2=>∃F2,Rel C Pr F2 env' σ H2/\aO F F2/\bL C.K F2 ds vs) I1 ⟨Pr,F,env,env',ds,r,e1,λvs H2 F2 r2 s2 p2=>⟨F2,r2,s2,p2⟩⟩) λus s2 hq=>?_) he hpl;obtain⟨vs,H2,I2,rvs,F2,r2,VP,p2⟩:=hq;refine⟨fnAt VP r2.fr I2.hok I2.Px,?_⟩;have rep2:Rep X.K F2 (.clo st lM) (.ref a0):=by rw[G.K];exact Rep.mono VP _ _ ⟨a0,vs0,rfl,hclo,T3⟩
  refine wpAny_call (codeAny_mono (hΦ st lM ds d e3 X.A X.stack s2 H2 us vs Q E0 a0 F2 lM ds d hr I2.env0 rvs r2.fr rep2 (by rw[G.K];exact p2) e3
   (λv H3 F3 t1 t2 t3 t4 p3=>q v H3 F3 (r2.after t1 t2 t3 t4) (VP.trans t3) (by rw[<-G.K];exact p3))) λrr s' hq=>?_)
  cases rr with
  | error e=>exact hx e s' hq
  | ok fl=>
   cases fl with
   | ret u=>exact I2.after hq
   | next=>exact False.elim hq
   | brk=>exact False.elim hq
   | cont=>exact False.elim hq
 ·cases ev
end
end Ev
namespace L2
open PySem PySem.Spec PyProof.Rows
theorem Le{q:Pos}{a b:Int}{c:Value}(l:List Value)(h:TriplesOk l) :
  codeAmong q (l++[rawInt a,rawInt b,c])=match codeAmong q l with
   | some x=>some x
   | none=>if a == q.line&&b == q.col then some c else none:=by
 fun_induction TriplesOk l with
 | case1=>simp[codeAmong,rawInt]
 | case2 a t b u x rest ih=>
  simp only[List.cons_append,codeAmong];split
  ·rfl
  ·exact ih h
 | case3 l h1 h2=>exact h.elim
structure BZ(base:Heap)(mg:Str->Option Value)(c P:Addr):Prop where
 code:PySem.W.CodeHd base c P
 blt:base.BuiltinsAt mg P
 ne:mainGlobals≠P
def Zx(H:Hp)(c:Addr)(q:Str):Prop:=∃(o:Obj) (u:HO) (vs:Array Value) (t:Tok),H c=some (.lD o u)/\o.data = .fields vs/\vs[1]? = some (.str q t)
theorem Di{X:Cx}{pins:List (Addr×Obj)}{σ:St}{H:Hp}{s:Shared}{i:Nat}{name qual:Str}{args:Arguments}{body:List Stmt}{scope:Scope}{pos:Pos}{c0 P:Addr}{qs:List (Pos×Str)}{Q:Flow->Shared->Prop}
  (I:Inv X pins σ H s) (B:BZ X.base X.mg c0 P) (hcode:X.env.code = .ref c0) (hP:H P=some (.tab qs)) (hq:(pos,qual)∈qs) (hqs:∀q∈qs,q.1.line=pos.line->q.1.col=pos.col->q.2=qual)
  (hd0:args.defaults=[]) (hk0:args.kw_defaults=[]) (ha:annTrees args none X.env=[]) (hqn:qualnameIn X.env name name=qual)
  (hfree:∀n,(n,NameKind.free)∈scope.names->∃c,X.env.cells.lookup n=some c)
  (hN:X.N.Nodup) (hi:X.N[i]? = some name) (hx:Loc X.env.scope name)
  (h:∀(f c:Addr) (H1:Hp) (doc pm ctv:Value) (s':Shared),H f=none->c≠f->aO H H1->H1 f=none->Zx H1 c qual->(∀b o,H1 b=some o->H b=some o\/(b=c/\H c=none))->
   Inv X pins (σ.set i (some (.ref f))) (upd H1 f (.lD (PySem.W.fnMade name qual args body scope (gJ X.env scope.names []) doc pm c ctv) (.own f))) s'->Q .next s')
  (hf:X.fn name=true\/X.env.scope.names.lookup name=some .local:=by first|exact .inl rfl|exact .inr rfl|assumption) :
  wpAny (model X.prog X.w) X.A (exec (.FunctionDef name args body [] none [] scope none name pos) X.env) Q X.xe s:=by
 have hcl:closureFor scope X.env=pure (gJ X.env scope.names []):=uh hfree;have hg:s.heap.Ns mainGlobals X.mg:=I.mod.glob.keeps I.bk;obtain⟨ps,hPo,htr,hall⟩:=I.hok P _ hP;have aep:s.heap.get? P=some (PySem.W.tabObj ps):=hPo;have C:=B.code.keeps I.bk;have hb:=B.blt.keeps I.bk;refine PySem.W.nestDef_K hd0 hk0 ha ?_;rw[hqn]
 -- the function's object is laid and the name stored
 have fin:∀(c:Addr) (H1:Hp) (h':Heap) (tk:Nat) (doc pm ctv:Value),Inv X pins σ H1 { s with heap:=h',toks:=tk }->aO H H1->Zx H1 c qual->(∀b o,H1 b=some o->H b=some o\/(b=c/\H c=none))->s.heap.objs.size<=h'.objs.size->
   wpAny (model X.prog X.w) X.A (storeName X.env name (.ref h'.objs.size)) (λ_ s''=>Q .next s'') X.xe { s with heap:=h'.push (PySem.W.fnMade name qual args body scope (gJ X.env scope.names []) doc pm c ctv),toks:=tk }:=by
  intro c H1 h' tk doc pm ctv I1 sH hc aeo hsz;have hn1:H1 h'.objs.size=none:=I1.hok.fresh (Qq1 _);have I2:Inv X pins σ (upd H1 h'.objs.size (.lD (PySem.W.fnMade name qual args body scope (gJ X.env scope.names []) doc pm c ctv) (.own h'.objs.size))) { s with heap:=h'.push (PySem.W.fnMade name qual args body scope (gJ X.env scope.names []) doc pm c ctv),toks:=tk }:=
   I1.laid (t':=tk) (λb u e=>Qq0 _ e) (Qq1 _) ⟨Qww _ rfl,_,Qww _ rfl⟩
  refine uB I2 hN hi hx (v:=.ref h'.objs.size) rfl (λs' I'=>?_) hf;obtain⟨o,u,vs,t,z,_⟩:=id hc;exact h _ c H1 doc pm ctv s' (I.hok.fresh hsz) (cV z hn1) sH hn1 hc aeo I'
 rcases hall _ hq with hnone|⟨c,o,u,vs,t,hsome,hc1,hc2,hc3⟩
 ·refine PySem.W.makeFunction_K (mg:=X.mg) hcl I.ok.glob hg hcode C aep htr hnone B.ne hb λc' ctv doc h' tk hx' hge hlt hrec hP'=>?_;obtain⟨c2,co,vs,t,ec,ho,hd,hv⟩:=hrec;cases ec;have hnc:H c'=none:=I.hok.fresh hge;have hcP:c'≠P:=λz=>by rw[z,hP] at hnc;cases hnc
  have sH:aO H (upd H c' (.lD co (.own c'))):=λb o e=>by rw[bG (cV e hnc)];exact e
  have I1:Inv X pins σ (upd H c' (.lD co (.own c'))) { s with heap:=h',toks:=tk }:=by
   refine I.un ⟨λb o e n _ _=>?_,λb o e n _ _=>?_,λb o e n _=>?_,λb o e _=>?_,λb xs e=>sH _ _ e,λb o u e=>sH _ _ e,λb ps e=>⟨#[],by rw[sH _ _ e];simp⟩,λb qs e=>sH _ _ e⟩ λb o e=>?_
   ·exact hx' b o (λz=>by rw[z,hP] at n;cases n) e
   ·exact⟨o.slots,hx' b o (λz=>by rw[z,hP] at n;cases n) e⟩
   ·rw[bG (Qxq (Qwx (Qq9 e) hge))];exact n
   ·by_cases hb:b=P
    ·subst hb;exact⟨_,hP'⟩
    ·exact⟨o,hx' b o hb e⟩
   ·by_cases hbc:b=c'
    ·subst hbc;rw[aW] at e;cases e;exact⟨ho,_,ho⟩
    ·rw[bG hbc] at e;by_cases hbP:b=P
     ·subst hbP;rw[hP] at e;cases e;refine⟨_,hP',by rw[Array.toList_append];exact TriplesOk_snoc _ _ _ _ htr,λq hq=>?_⟩;have hsn:=Le (q:=q.1) (a:=pos.line) (b:=pos.col) (c:=.ref c') ps.toList htr;have e4:(ps ++ #[rawInt pos.line,rawInt pos.col,.ref c']).toList=ps.toList++[rawInt pos.line,rawInt pos.col,.ref c']:=by rw[Array.toList_append]
      rw[e4,hsn];rcases hall q hq with z|⟨c,o,u,vs',t',g1,g2,g3,g4⟩
      ·rw[z];by_cases hm:(pos.line:Int) == q.1.line&&(pos.col:Int) == q.1.col
       ·right
        refine⟨c',co,.own c',vs,t,by simp only[hm,if_true],aW,hd,?_⟩;rw[Qzx,beq_iff_eq,beq_iff_eq] at hm;rw[hqs q hq (by omega) (by omega)];exact hv
       ·left
        simp only[hm]
        rfl
      ·rw[g1];exact .inr ⟨c,o,u,vs',t',rfl,sH _ _ g2,g3,g4⟩
     ·refine(I.hok b o e).stay (λx u hx2 g=>hx' x u (λz=>?_) g) (λx g=>sH _ _ g) (λx xs g=>sH _ _ g) λx _ _ _ _ g=>sH _ _ g;rcases hx2 with z2|z2
      ·exact hbP (z2 ▸ z)
      ·rw[z,hP] at z2;cases z2
  exact fin c' _ h' tk doc _ ctv I1 sH ⟨co,_,vs,t,aW,hd,hv⟩ (λb o e=>by
   by_cases hb:b=c'
   ·exact .inr ⟨hb,hnc⟩
   ·rw[bG hb] at e;exact .inl e) (Qq2 hge (Qz8 hlt))
 ·refine PySem.W.makeFunction_hit (mg:=X.mg) (cv:=.ref c) hcl I.ok.glob hg hcode C aep htr hsome hb λctv doc h' tk hk hsz=>?_;exact fin c H h' tk doc _ ctv (I.kept hk) (λ_ _ e=>e) ⟨o,u,vs,t,hc1,hc2,hc3⟩ (λb o e=>.inl e) hsz
open Classical in
noncomputable def jJ(h:Heap)(Cs:List Addr)(H:Hp):Hp:=λb=>if b∈Cs then (match h.get? b with
 | some o=>some (.lD o (.own b))
 | none=>none) else H b
open Classical in
noncomputable def sU(Cs:List Addr)(H:Hp):Hp:=λb=>if b∈Cs then none else H b
section
variable{h:Heap}{Cs:List Addr}{H:Hp}{b:Addr}{o:Obj}{u:HO}
theorem vQ(hb:b∈Cs)(e:h.get? b=some o):jJ h Cs H b=some (.lD o (.own b)):=by unfold jJ;rw[if_pos hb,e]
theorem gR(hb:b ∉ Cs):jJ h Cs H b=H b:=by unfold jJ;rw[if_neg hb]
theorem IW(hb:b∈Cs):sU Cs H b=none:=by unfold sU;rw[if_pos hb]
theorem gH(hb:b ∉ Cs):sU Cs H b=H b:=by unfold sU;rw[if_neg hb]
end
theorem VR{X:Cx}{pins:List (Addr×Obj)}{σ:St}{H:Hp}{s:Shared}{k:Nat}{f:Addr}{fd:FuncData}{ps:List Str}{sp:Sp}{Q Q':VK}{us:List Value}{vs:List V}{Cs:List Addr}
  (F:lX X.prog X.w X.K X.mg X.base yc k f fd ps sp) (hr:gm k X.A) (hb:Binds X.K fd ps []) (hx:∀e s,False->X.xe e s) (I:Inv X pins σ H s) (r:Vals vs us)
  (hC:∀c∈Cs,∃x,X.env.cells.lookup x=some c/\X.fn x=true) (h:sp vs (jJ s.heap Cs H) Q' E0) (hQ:∀v H',Q' v H'->Q v (sU Cs H')) :
  wpAny (model X.prog X.w) X.A (call (.ref f) us) (EP X pins σ Q) X.xe s:=by
 have hl:us.length=ps.length:=by rw[<-r.length];exact F.len _ _ _ _ h
 have cn:∀c∈Cs,H c=none/\(∃o,s.heap.get? c=some o)/\X.s₀.heap.objs.size<=c/\c≠X.env.locals:=λc hc=>by
  obtain⟨x,e1,e2⟩:=hC c hc;refine⟨(I.rn x c e1).resolve_right λz=>(by rw[e2] at z;cases z.1),?_,I.ok.cab x c e2 e1,I.Y7 x c e1⟩;obtain⟨v,o,ho,_⟩:=I.cell x c e1;exact⟨o,ho⟩
 have nin:∀b u,H b=some u->b ∉ Cs:=λb u e hb=>by rw[(cn b hb).1] at e;cases e
 have up:∀b u,H b=some u->jJ s.heap Cs H b=some u:=λb u e=>by rw[gR (nin b u e)];exact e
 have e0:Jo X.prog X.w X.K X.mg X.base X.A X.stack s (jJ s.heap Cs H):=by
  have e1:=I.env0;refine⟨e1.frames,e1.mod,λb o e=>⟨(e1.bs b o e).1,?_⟩,e1.Ux,e1.uZ,λb hb=>?_,λb o e=>?_,e1.bare⟩
  ·rw[gR λhb=>?_]
   ·exact(e1.bs b o e).2
   ·exact absurd (Qwx (Qq9 e) (Qq2 I.ok.Ux (cn b hb).2.2.1)) (Qzz _)
  ·rw[gR λhb2=>?_]
   ·exact e1.YZ b hb
   ·rcases Qq4.mp (I.DW b hb) with z|z
    ·exact(cn b hb2).2.2.2 z
    ·obtain⟨_,o,ho,_⟩:=I.ok.uZ.mem z;exact absurd (Qwx (Qq9 ho) (cn b hb2).2.2.1) (Qzz _)
  ·by_cases hb:b∈Cs
   ·obtain⟨_,⟨ob,ho⟩,_⟩:=cn b hb;rw[vQ hb ho] at e;cases e;exact⟨ho,ob,ho⟩
   ·rw[gR hb] at e;exact(I.hok b o e).stay (λ_ _ _ q=>q) (λc q=>up _ _ q) (λc xs q=>up _ _ q) λc _ _ _ _ q=>up _ _ q
 have hb2:=hb s us I.Px (by rw[Qxx];exact hl);rw[Qxx] at hb2;refine wpAny_call (codeAny_mono (F.run X.A X.stack s (jJ s.heap Cs H) ⟨us,[]⟩ us vs Q' E0 hr e0 hb2 r h) λrr s' hq=>?_);cases rr with
 | error e=>exact hx e s' hq
 | ok fl=>
  cases fl with
  | next=>exact False.elim hq
  | brk=>exact False.elim hq
  | cont=>exact False.elim hq
  | ret u=>
   obtain⟨v,H',os,bare,un,hok,rv,q⟩:=hq;have cz:∀c∈Cs,∀o,s.heap.get? c=some o->H' c=some (.lD o (.own c))/\s'.heap.get? c=some o:=λc hc o ho=>by
    have z:=un.wQ c o _ (vQ hc ho);exact⟨z,(hok c _ z).1⟩
   have un2:Un (frs X.stack) [] H (sU Cs H') s.heap s'.heap:=by
    refine⟨λb o e n hb hx=>?_,λb o e n hb hx=>?_,λb o e n hx=>?_,un.there,λb xs e=>?_,λb o u e=>?_,λb ps e=>?_,λb qs e=>?_⟩
    ·by_cases hb2:b∈Cs
     ·exact(cz b hb2 o e).2
     ·exact un.keep b o e (by rw[gR hb2];exact n) hb hx
    ·by_cases hb2:b∈Cs
     ·exact⟨o.slots,(cz b hb2 o e).2⟩
     ·exact un.slot b o e (by rw[gR hb2];exact n) hb hx
    ·by_cases hb2:b∈Cs
     ·exact IW hb2
     ·rw[gH hb2];exact un.free b o e (by rw[gR hb2];exact n) hx
    ·rw[gH (nin _ _ e)];exact un.tups b xs (up _ _ e)
    ·rw[gH (nin _ _ e)];exact un.wQ b o u (up _ _ e)
    ·rw[gH (nin _ _ e)];exact un.DK b ps (up _ _ e)
    ·rw[gH (nin _ _ e)];exact un.tabs b qs (up _ _ e)
   have agc:uo X.prog X.w (sU Cs H') s'.heap:=λb o e=>by
    by_cases hb:b∈Cs
    ·rw[IW hb] at e;cases e
    ·rw[gH hb] at e;have lD:∀c∈Cs,∃oc,H' c=some (.lD oc (.own c))/\∃w,oc.data = .cell w:=λc hc=>by
      obtain⟨x,e1,e2⟩:=hC c hc;obtain⟨v,oc,ho,hd⟩:=I.cell x c e1;exact⟨oc,(cz c hc oc ho).1,v,hd⟩
     refine(hok b o e).stay (λ_ _ _ q=>q) (λc q=>?_) (λc xs q=>?_) λc oc u vs hv q=>?_
     ·rw[gH λhc=>?_]
      ·exact q
      ·obtain⟨oc,z,_⟩:=lD c hc;rw[q] at z;cases z
     ·rw[gH λhc=>?_]
      ·exact q
      ·obtain⟨oc,z,_⟩:=lD c hc;rw[q] at z;cases z
     ·rw[gH λhc=>?_]
      ·exact q
      ·obtain⟨oc,z,w,hw⟩:=lD c hc;rw[q] at z;cases z;rw[hv] at hw;cases hw
   exact I.after ⟨v,sU Cs H',os,bare,un2,agc,rv,hQ v H' q⟩
end L2
namespace Ev
open PySem PySem.Spec PyProof.Rows L2
theorem Rel.grow{C:Cfg}{Pr F:Hp}{env:Env}{σ:L2.St}{H H':Hp}(r:Rel C Pr F env σ H)(s:aO H H'):Rel C Pr F env σ H':=by refine⟨r.pr.trans s,r.fr.trans s,r.len,r.val,λj e he=>?_,r.apart,r.dj,r.fix⟩;obtain⟨a,h1,h2,h3,h4⟩:=r.own j e he;obtain⟨o,ho⟩:=h2.some;exact⟨a,h1,h2.mono (aO.refl F) (by rw[ho,s _ _ ho]),h3,h4⟩
theorem Rel.unset{C:Cfg}{Pr F:Hp}{env:Env}{σ:L2.St}{H:Hp}{i:Nat}{v:V}(r:Rel C Pr F env σ H)(hfx:C.fx i=none):Rel C Pr F (env.set i none) (σ.set i (some v)) H:=by
 have un:∀(j:Nat) (x:Bool×D),(env.set i none)[j]? = some (some x)->j≠i/\env[j]? = some (some x):=λj x he=>by
  have hj:j≠i:=λz=>by
   subst z;have hl:j<env.length:=by
    have:=(Qqw.mp he).1
    rwa [Qx0] at this
   rw[Qwv hl] at he;cases he
  rw[Qq7 (Ne.symm hj)] at he;exact⟨hj,he⟩
 refine⟨r.pr,r.fr,by rw[Qx0,Qx0];exact r.len,λj e he=>?_,λj e he=>?_,λj k e f b hj hk g1 g2=>?_,r.dj,λj a hj=>?_⟩
 ·obtain⟨nj,he⟩:=un j _ he;rw[Qq7 (Ne.symm nj)];exact r.val j e he
 ·obtain⟨nj,he⟩:=un j _ he;rw[Qq7 (Ne.symm nj)];exact r.own j e he
 ·obtain⟨nj,hj⟩:=un j _ hj;obtain⟨nk,hk⟩:=un k _ hk;rw[Qq7 (Ne.symm nj)] at g1;rw[Qq7 (Ne.symm nk)] at g2;exact r.apart j k e f b hj hk g1 g2
 ·have hji:j≠i:=λz=>by rw[z,hfx] at hj;cases hj
  rw[Qq7 (Ne.symm hji)];exact r.fix j a hj
theorem Rel.M4{C:Cfg}{Pr F:Hp}{env:Env}{σ:L2.St}{H:Hp}{b:Addr}{x:Obj}{u:HO}(r:Rel C Pr F env σ H)(e:H b=some (.lD x u)) :
  ∃Pr',Rel C Pr' F env σ H/\aO Pr Pr'/\(Pr' b=some (.lD x u)\/F b=some (.lD x u)):=by
 cases hF:F b with
 | some o=>
  have:=r.fr b o hF;rw[e] at this;cases this;exact⟨Pr,r,aO.refl Pr,.inr rfl⟩
 | none=>
  refine⟨upd Pr b (.lD x u),⟨λc o h=>?_,r.fr,r.len,r.val,λj d he=>?_,r.apart,λc o h=>?_,r.fix⟩,λc o h=>?_,.inl aW⟩
  ·by_cases hc:c=b
   ·subst hc;rw[aW] at h;cases h;exact e
   ·rw[bG hc] at h;exact r.pr c o h
  ·obtain⟨a,h1,h2,h3,h4⟩:=r.own j d he;refine⟨a,h1,h2,h3,?_⟩;rw[bG λz=>?_]
   ·exact h4
   ·subst z;cases d with
    | lst xs=>obtain⟨_,vs,g,_⟩:=h2;rw[e] at g;cases g
    | dct xs=>obtain⟨_,vs,g,_⟩:=h2;rw[e] at g;cases g
    | iz xs=>obtain⟨_,vs,g,_⟩:=h2;rw[e] at g;cases g
    | _=>exact h2.elim
  ·rw[bG λz=>by rw[z,hF] at h;cases h];exact r.dj c o h
  ·by_cases hc:c=b
   ·subst hc;have:=r.pr c o h;rw[e] at this;cases this;exact aW
   ·rw[bG hc];exact h
def Ut(env:Env):List Nat->Option (List D)
 | []=>some []
 | j::js=>match env[j]?,Ut env js with
  | some (some (false,d)),some ds=>some (d::ds)
  | _,_=>none
def Cw:D->Bool
 | .non=>true
 | .bl _=>true
 | .int _=>true
 | .str _=>true
 | _=>false
theorem Q6{K:Fg}{F F':Hp}{d:D}{v:V}(h:Cw d=true)(r:Rep K F d v):Rep K F' d v:=by cases d<;>first|exact r|cases h
def qw(st1 st2:Stmt)(js1 js2:List Nat)(i1 i2:Nat)(g:List D->Option D)(a1 a2 a3:Ev):bU:=λenv=>
 gM (aa a1 (aa a2 (aa a3 ak)) ((env.set i1 none).set i2 none)) λds aL=>(match Ut aL js1,Ut aL js2 with
  | some c1,some c2=>(match g (ds++[.clo st1 c1,.clo st2 c2]) with
   | some d=>if Cw d=true then .rt false d aL else .stuck
   | none=>.stuck)
  | _,_=>.stuck)
def Qt(env:PySem.Env)(xs:List Str):List (Str×Addr):=xs.map λx=>(x,(env.cells.lookup x).getD 0)
theorem FZ(env:PySem.Env):∀(names:List (Str×NameKind)) (acc:List (Str×Addr)),gJ env names acc=Qt env (((names.filter (·.2 == .free)).map (·.1)).reverse)++acc
 | [],acc=>rfl
 | (n,k)::r,acc=>by
  unfold gJ;cases hk:k == NameKind.free with
  | true=>
   rw[if_pos rfl,FZ env r];simp[List.filter_cons,hk,Qt]
  | false=>
   rw[if_neg (by simp),FZ env r];simp[List.filter_cons,hk]
theorem Nm(env:PySem.Env)(st:Stmt):gJ env (aK st).names []=Qt env (freeOf st):=by rw[FZ,Qxx];rfl
def yC(N:List Str):List Nat->List Str->Prop
 | [],[]=>True
 | j::js,x::xs=>N[j]? = some x/\yC N js xs
 | _,_=>False
theorem Gd{X:Cx}{C:Cfg}{xs0:List Str}{pins:List (Addr×Obj)}{Pr F Fp:Hp}{env:Env}{σ:L2.St}{H:Hp}{s:Shared}(I:Inv X pins σ H s)(r:Rel C Pr F env σ H)
  (hF:∀c o,s.heap.get? c=some o->(∃x,X.env.cells.lookup x=some c/\x∈xs0)->Fp c=some (.lD o (.own c))) (hs:aO F Fp) :
  ∀{js:List Nat} {xs:List Str} {ds:List D},yC X.N js xs->(∀x∈xs,X.env.scope.names.lookup x=some .cell/\x∈xs0)->Ut env js=some ds->∃vs,bL C.K Fp ds vs/\qd Fp (Qt X.env xs) vs
 | [],[],ds,_,_,e=>by cases e;exact⟨[],rfl,rfl⟩
 | [],_::_,_,h,_,_=>h.elim
 | _::_,[],_,h,_,_=>h.elim
 | j::js,x::xs,ds,⟨h1,h2⟩,hx,e=>by
  unfold Ut at e;split at e
  ·rename_i d ds' e1 e2;cases e;obtain⟨vs,q1,q2⟩:=Gd I r hF hs h2 (λy hy=>hx y (Qqq _ hy)) e2;obtain⟨v,g1,g2⟩:=r.val j d e1;obtain⟨hk,hm⟩:=hx x Qqj;obtain⟨m,hn,hl⟩:=I.loc;obtain⟨u,rv,l⟩:=hl j x v h1 g1 (.inr (.inl hk));have hk':X.env.kindOf x=some .cell:=hk;rcases l with ⟨z,_⟩|⟨_,c,hc,oc,ho,hd⟩
   ·rw[hk'] at z;cases z
   ·refine⟨v::vs,⟨v,vs,rfl,Rep.mono hs _ _ g2,q1⟩,v,vs,rfl,⟨oc,.own c,u,?_,hd,rv⟩,q2⟩;rw[hc];exact hF c oc ho ⟨x,hc,hm⟩
  ·cases e
structure Jp(X:Cx)(qs:List (Pos×Str))(i:Nat)(js:List Nat)(st:Stmt)(n:Str)(args:Arguments)(body:List Stmt)(sc:Scope)(pos:Pos)(qual:Str):Prop where
 eq:st = .FunctionDef n args body [] none [] sc none n pos
 hq:(pos,qual)∈qs
 hqs:∀q∈qs,q.1.line=pos.line->q.1.col=pos.col->q.2=qual
 hd0:args.defaults=[]
 hk0:args.kw_defaults=[]
 ha:annTrees args none X.env=[]
 hqn:qualnameIn X.env n n=qual
 fr:∀x∈freeOf st,X.env.scope.names.lookup x=some .cell
 fnd:(freeOf st).Nodup
 hi:X.N[i]? = some n
 hx:X.env.scope.names.lookup n=some .local
 sl:yC X.N js (freeOf st)
theorem HW{n:Str}{st:Stmt}(h:(n,NameKind.free)∈(aK st).names):n∈freeOf st:=by unfold freeOf;exact Qkv.mpr (Qwy.mpr ⟨(n,.free),List.mem_filter.mpr ⟨h,rfl⟩,rfl⟩)
open Classical in
theorem Om{X:Cx}{C:Cfg}{qs:List (Pos×Str)}{c0 P:Addr}{i1 i2:Nat}{js1 js2:List Nat}{st1 st2:Stmt}{n1 n2:Str}{ar1 ar2:Arguments}{bd1 X4:List Stmt}{Q7 Hi:Scope}{ps1 ps2:Pos}{q1 q2:Str}{e1 e2 e3:Expr}{a1 a2 a3:Ev}{x:Str}{p Ez Ey pos rpos:Pos}{k k':Nat}{ps:List Str}{g:List D->Option D}
  (G:Good X C) (B:BZ X.base X.mg c0 P) (hcode:X.env.code = .ref c0) (hT:X.H₀ P=some (.tab qs)) (hfn:∀y,X.fn y=true) (hN:X.N.Nodup) (hfx:∀i,C.fx i=none) (h12:i1≠i2)
  (D1:Jp X qs i1 js1 st1 n1 ar1 bd1 Q7 ps1 q1) (D2:Jp X qs i2 js2 st2 n2 ar2 X4 Hi ps2 q2)
  (O:Own X.prog X.w X.K X.mg X.base x k ps (lC X.K 5 g)) (hr:gm k' X.A) (hkk:k<=k') (hx:∀e s,False->X.xe e s) (hg:Gl X x) (hdb:(x == ("__debug__" : Str))=false)
  (h1:PX X C e1 a1) (h2:PX X C e2 a2) (h3:PX X C e3 a3) (hv1:(n1 == ("__debug__" : Str))=false) (hv2:(n2 == ("__debug__" : Str))=false) (hw1:(n1 == ("__classdict__" : Str))=false) (hw2:(n2 == ("__classdict__" : Str))=false)
  (s1:starEach [e1,e2,e3,.Name n1 Ez,.Name n2 Ey] X.env=(false,eval e1 X.env)::starEach [e2,e3,.Name n1 Ez,.Name n2 Ey] X.env) (s2:starEach [e2,e3,.Name n1 Ez,.Name n2 Ey] X.env=(false,eval e2 X.env)::starEach [e3,.Name n1 Ez,.Name n2 Ey] X.env)
  (s3:starEach [e3,.Name n1 Ez,.Name n2 Ey] X.env=(false,eval e3 X.env)::starEach [.Name n1 Ez,.Name n2 Ey] X.env) (hpl:(backTo pos (starEach [e2,e3,.Name n1 Ez,.Name n2 Ey] X.env)).any (·.1)=false) :
  sE X C [st1,st2,.Return (some (.Call (.Name x p) [e1,e2,e3,.Name n1 Ez,.Name n2 Ey] [] pos)) rpos] (qw st1 st2 js1 js2 i1 i2 g a1 a2 a3):=by
 obtain⟨f,fd,FO,hm,hk,hb⟩:=O;intro pins s σ H D I h;obtain⟨Pr,F,env,r,fin⟩:=h;unfold qw at fin;obtain⟨ds,aL,ea,fin⟩:=di fin;obtain⟨d1,aeA,ea1,ea⟩:=aU ea;obtain⟨ds1,ai1,ea,eb⟩:=aU ea;cases eb;obtain⟨d2,aez,ea2,ea⟩:=aU ea;obtain⟨ds2,ai0,ea,eb⟩:=aU ea;cases eb;obtain⟨d3,envE,ea3,ea⟩:=aU ea;obtain⟨ds3,aiZ,ea,eb⟩:=aU ea;cases eb;cases ea;split at fin
 ·rename_i cp1 cp2 ec1 ec2;split at fin
  ·rename_i d eg;split at fin
   ·rename_i hsc
    -- the first def
    have hP:∀{σ:L2.St} {H:Hp} {s:Shared},Inv X pins σ H s->H P=some (.tab qs):=λI=>I.base.tabs P qs hT;have fr1:∀n,(n,NameKind.free)∈Q7.names->∃c,X.env.cells.lookup n=some c:=λn hn=>I.ok.has n (.inl (D1.fr n (HW (st:=st1) (by rw[D1.eq];exact hn))));have fr2:∀n,(n,NameKind.free)∈Hi.names->∃c,X.env.cells.lookup n=some c:=λn hn=>I.ok.has n (.inl (D2.fr n (HW (st:=st2) (by rw[D2.eq];exact hn))));have eS1:=D1.eq;have eS2:=D2.eq;rw[eS1,eS2];refine wpAny_execs_cons (Di I B hcode (hP I) D1.hq D1.hqs D1.hd0 D1.hk0 D1.ha D1.hqn fr1 hN D1.hi (.inl D1.hx) (λf1 c1 H1 Xx pm1 XD s1' hf1 agi sH1 hH1 hc1 hb1 I1=>?_) (.inl (hfn _)));refine wpAny_execs_cons (Di I1 B hcode (hP I1) D2.hq D2.hqs D2.hd0 D2.hk0 D2.ha D2.hqn fr2 hN D2.hi (.inl D2.hx) (λf2 c2 H2 K4 pm2 K5 VP hf2 agh sH2 hH2 hc2 hb2 I2=>?_) (.inl (hfn _)))
    -- what is known then
    have sA:aO H (upd H1 f1 (.lD (PySem.W.fnMade n1 q1 ar1 bd1 Q7 (gJ X.env Q7.names []) Xx pm1 c1 XD) (.own f1))):=λb o e=>by rw[bG (cV (sH1 _ _ e) hH1)];exact sH1 _ _ e
    have sB:aO (upd H1 f1 (.lD (PySem.W.fnMade n1 q1 ar1 bd1 Q7 (gJ X.env Q7.names []) Xx pm1 c1 XD) (.own f1))) (upd H2 f2 (.lD (PySem.W.fnMade n2 q2 ar2 X4 Hi (gJ X.env Hi.names []) K4 pm2 c2 K5) (.own f2))):=λb o e=>by rw[bG (cV (sH2 _ _ e) hH2)];exact sH2 _ _ e
    have r2:=(((r.grow sA).unset (i:=i1) (v:=.ref f1) (hfx i1)).grow sB).unset (i:=i2) (v:=.ref f2) (hfx i2);obtain⟨co1,cu1,cv1,ct1,g1a,g1b⟩:=hc1;obtain⟨co2,cu2,cv2,ct2,g2a,g2b⟩:=hc2;have k1:(upd H2 f2 (.lD (PySem.W.fnMade n2 q2 ar2 X4 Hi (gJ X.env Hi.names []) K4 pm2 c2 K5) (.own f2))) f1=some (.lD (PySem.W.fnMade n1 q1 ar1 bd1 Q7 (gJ X.env Q7.names []) Xx pm1 c1 XD) (.own f1)):=sB _ _ aW;have k2:(upd H2 f2 (.lD (PySem.W.fnMade n2 q2 ar2 X4 Hi (gJ X.env Hi.names []) K4 pm2 c2 K5) (.own f2))) f2=some (.lD (PySem.W.fnMade n2 q2 ar2 X4 Hi (gJ X.env Hi.names []) K4 pm2 c2 K5) (.own f2)):=aW;have k3:(upd H2 f2 (.lD (PySem.W.fnMade n2 q2 ar2 X4 Hi (gJ X.env Hi.names []) K4 pm2 c2 K5) (.own f2))) c1=some (.lD co1 cu1):=sB _ _ (by rw[bG agi];exact g1a);have k4:(upd H2 f2 (.lD (PySem.W.fnMade n2 q2 ar2 X4 Hi (gJ X.env Hi.names []) K4 pm2 c2 K5) (.own f2))) c2=some (.lD co2 cu2):=by rw[bG agh];exact g2a
    obtain⟨Pr1,r3,sP1,w1⟩:=r2.M4 k1;obtain⟨Pr2,r4,sP2,w2⟩:=r3.M4 k2;obtain⟨Pr3,r5,sP3,w3⟩:=r4.M4 k3;obtain⟨Zm,r6,sP4,w4⟩:=r5.M4 k4;have sP:aO Pr Zm:=((sP1.trans sP2).trans sP3).trans sP4;have l1:i1<σ.length:=by rw[I.len];exact(Qqw.mp D1.hi).1
    have l2:i2<σ.length:=by rw[I.len];exact(Qqw.mp D2.hi).1
    have hσ1:((σ.set i1 (some (V.ref f1))).set i2 (some (V.ref f2)))[i1]? = some (some (V.ref f1)):=by rw[Qq7 (Ne.symm h12),Qwv l1]
    have hσ2:((σ.set i1 (some (V.ref f1))).set i2 (some (V.ref f2)))[i2]? = some (some (V.ref f2)):=by rw[Qwv (by rw[Qx0];exact l2)]
    -- the call
    have hE:PE X (.Call (.Name x p) [e1,e2,e3,.Name n1 Ez,.Name n2 Ey] [] pos) (λσ' H' Q=>σ'=(σ.set i1 (some (V.ref f1))).set i2 (some (V.ref f2))/\Rel C Zm F ((env.set i1 none).set i2 none) σ' H'/\
      ∀v H3 F3,Rel C Zm F3 aL σ' H3->aO F F3->Rep C.K F3 d v->Q v H3):=by
     intro pins s σ' H' Q I ⟨eσ,r,q⟩;subst eσ;refine wpAny_Call_Name_kw (yG I hg hm ?_ hdb);have hA:PA X [e1,e2,e3,.Name n1 Ez,.Name n2 Ey] (Cq (tE C a1) (Cq (tE C a2) (Cq (tE C a3) (Cq (Vy i1) (Cq (Vy i2) acY))))):=
      iD h1 (iD h2 (iD h3 (iD (iQ D1.hi (.inl D1.hx) hv1 hw1) (iD (iQ D2.hi (.inl D2.hx) hv2 hw2) tV rfl) rfl) s3) s2) s1
     refine PySem.W.callWith_K (h₀:=X.base) I.ok.mod.Ju hk (fK (hA pos pins s _ H' (λvs H3=>∃v1 v2 v3 F3,vs=[v1,v2,v3,.ref f1,.ref f2]/\Rel C Zm F3 aL ((σ.set i1 (some (V.ref f1))).set i2 (some (V.ref f2))) H3/\aO F F3/\bL C.K F3 [d1,d2,d3] [v1,v2,v3]) I ?_) λus s4 hq=>?_) s1 hpl
     ·refine⟨Zm,F,_,aeA,d1,r,ea1,λv1 Ha Fa ra sa pa=>⟨Zm,Fa,aeA,aez,d2,ra,ea2,λv2 Hb Fb rb sb pb=>⟨Zm,Fb,aez,aL,d3,rb,ea3,λv3 Hc Fc rc sc pc=>?_⟩⟩⟩;exact⟨_,hσ1,_,hσ2,v1,v2,v3,Fc,rfl,rc,(sa.trans sb).trans sc,_,_,rfl,Rep.mono (sb.trans sc) _ _ pa,_,_,rfl,Rep.mono sc _ _ pb,_,_,rfl,pc,rfl⟩
     ·obtain⟨vs,H3,I3,rv,v1,v2,v3,F3,rfl,r3,sF3,p3⟩:=hq;refine⟨I3.Px,?_⟩;have up:∀{b:Addr} {o:HO},(Zm b=some o\/F b=some o)->H3 b=some o:=λz=>z.elim (λz=>r3.pr _ _ z) λz=>r3.fr _ _ (sF3 _ _ z);have m1:=up (w1.imp (λz=>sP4 _ _ (sP3 _ _ (sP2 _ _ z))) id);have m2:=up (w2.imp (λz=>sP4 _ _ (sP3 _ _ z)) id);have m3:=up (w3.imp (λz=>sP4 _ _ z) id);have m4:=up w4
      let xs0:=freeOf st1++freeOf st2
      let Cs:=(Qt X.env xs0).map (·.2)
      have hC:∀c∈Cs,∃y,X.env.cells.lookup y=some c/\X.fn y=true:=λc hc=>by
       obtain⟨q,hq,rfl⟩:=Qwy.mp hc;obtain⟨y,hy,rfl⟩:=Qwy.mp hq;have hy':X.env.scope.names.lookup y=some .cell:=(Qwq.mp hy).elim (D1.fr y) (D2.fr y);obtain⟨c,hc⟩:=I.ok.has y (.inl hy');exact⟨y,by simp only[hc,Option.getD_some],hfn y⟩
      have cn:∀c∈Cs,H3 c=none:=λc hc=>by
       obtain⟨y,g1,g2⟩:=hC c hc;exact(I3.rn y c g1).resolve_right λz=>by rw[g2] at z;cases z.1
      have nC:∀b u,H3 b=some u->b ∉ Cs:=λb u e hb=>by rw[cn b hb] at e;cases e
      have ZD:∀b u,H3 b=some u->jJ s4.heap Cs H3 b=some u:=λb u e=>by rw[gR (nC b u e)];exact e
      let Sp:=f1::f2::c1::c2::Cs
      let Fp:Hp:=λb=>if b∈Sp then jJ s4.heap Cs H3 b else F3 b
      have Bg:∀b,b∈Sp->Fp b=jJ s4.heap Cs H3 b:=λb hb=>if_pos hb;have Ln:∀b,b ∉ Sp->Fp b=F3 b:=λb hb=>if_neg hb;have sFp:aO F3 Fp:=λb o e=>by
       by_cases hb:b∈Sp
       ·rw[Bg b hb];exact ZD _ _ (r3.fr _ _ e)
       ·rw[Ln b hb];exact e
      have afT:aO Fp (jJ s4.heap Cs H3):=λb o e=>by
       by_cases hb:b∈Sp
       ·rw[Bg b hb] at e;exact e
       ·rw[Ln b hb] at e;exact ZD _ _ (r3.fr _ _ e)
      have hFc:∀c o,s4.heap.get? c=some o->(∃y,X.env.cells.lookup y=some c/\y∈xs0)->Fp c=some (.lD o (.own c)):=λc o e ⟨y,hy,hm⟩=>by
       have hc:c∈Cs:=Qwy.mpr ⟨(y,c),Qwy.mpr ⟨y,hm,by simp only[hy,Option.getD_some]⟩,rfl⟩;rw[Bg c (Qqq _ (Qqq _ (Qqq _ (Qqq _ hc))))];exact vQ hc e
      obtain⟨us1,rp1,ca1⟩:=Gd (xs0:=xs0) I3 r3 hFc sFp D1.sl (λy hy=>⟨D1.fr y hy,Qzk _ hy⟩) ec1;obtain⟨us2,rp2,ca2⟩:=Gd (xs0:=xs0) I3 r3 hFc sFp D2.sl (λy hy=>⟨D2.fr y hy,Qxz _ hy⟩) ec2;have nda:∀xs:List Str,xs.Nodup->(∀y∈xs,X.env.scope.names.lookup y=some .cell)->((Qt X.env xs).map (·.2)).Nodup:=by
       intro xs
       induction xs with
       | nil=>intro _ _;exact .nil
       | cons y ys ih=>
        intro hn hy;show((X.env.cells.lookup y).getD 0::(Qt X.env ys).map (·.2)).Nodup;refine Qxj.mpr ⟨λhm=>?_,ih (Qxj.mp hn).2 λz hz=>hy z (Qqq _ hz)⟩;obtain⟨q,hq,eq⟩:=Qwy.mp hm;obtain⟨z,hz,rfl⟩:=Qwy.mp hq;obtain⟨cy,hcy⟩:=I.ok.has y (.inl (hy y Qqj));obtain⟨cz,hcz⟩:=I.ok.has z (.inl (hy z (Qqq _ hz)));simp only[hcy,hcz,Option.getD_some] at eq;subst eq;exact(Qxj.mp hn).1 (I.ok.inj y z _ hcy hcz ▸ hz)
      have Tc:∀xs:List Str,(Qt X.env xs).map (·.1)=xs:=λxs=>by
       induction xs with
       | nil=>rfl
       | cons y ys ih=>exact Qz4 (y :: ·) ih
      have e5:gJ X.env Q7.names []=Qt X.env (freeOf st1):=by have:=Nm X.env st1;rw[eS1] at this ⊢;exact this
      have e6:gJ X.env Hi.names []=Qt X.env (freeOf st2):=by have:=Nm X.env st2;rw[eS2] at this ⊢;exact this
      have agy:Rep C.K Fp (.clo st1 cp1) (.ref f1):=by
       refine⟨f1,us1,rfl,.inl ⟨⟨.own f1,q1,Qt X.env (freeOf st1),Xx,pm1,XD,c1,?_,⟨co1,cu1,cv1,ct1,?_,g1b⟩,Tc _,nda _ D1.fnd D1.fr,ca1⟩,by rw[eS1];rfl⟩,rp1⟩
       ·rw[Bg f1 Qqj,ZD _ _ m1,<-e5,eS1];rfl
       ·rw[Bg c1 (Qqq _ (Qqq _ Qqj))];exact ZD _ _ m3
      have agx:Rep C.K Fp (.clo st2 cp2) (.ref f2):=by
       refine⟨f2,us2,rfl,.inl ⟨⟨.own f2,q2,Qt X.env (freeOf st2),K4,pm2,K5,c2,?_,⟨co2,cu2,cv2,ct2,?_,g2b⟩,Tc _,nda _ D2.fnd D2.fr,ca2⟩,by rw[eS2];rfl⟩,rp2⟩
       ·rw[Bg f2 (Qqq _ Qqj),ZD _ _ m2,<-e6,eS2];rfl
       ·rw[Bg c2 (Qqq _ (Qqq _ (Qqq _ Qqj)))];exact ZD _ _ m4
      refine VR (Cs:=Cs) (Q':=λv H4=>∃F4,aO (jJ s4.heap Cs H3) H4/\aO F4 H4/\aO Fp F4/\(∀b o,F4 b=some o->Fp b=some o\/jJ s4.heap Cs H3 b=none)/\Rep X.K F4 d v) FO (hr.mono hkk) hb hx I3 rv hC ?_ ?_
      ·refine⟨Fp,[d1,d2,d3]++[.clo st1 cp1,.clo st2 cp2],d,rfl,afT,?_,eg,λv H4 F4 t1 t2 t3 t4 p4=>⟨F4,t1,t2,t3,t4,p4⟩⟩;rw[G.K];exact bL.append (vs:=[v1,v2,v3]) (ws:=[.ref f1,.ref f2]) (bL.mono sFp _ _ p3) ⟨_,_,rfl,agy,_,_,rfl,agx,rfl⟩
      ·rintro v H4 ⟨F4,t1,t2,t3,t4,p4⟩
       let F5:Hp:=λb=>if b∈Sp then F3 b else F4 b
       have Va:∀b,b∈Sp->F5 b=F3 b:=λb hb=>if_pos hb;have Lp:∀b,b ∉ Sp->F5 b=F4 b:=λb hb=>if_neg hb;have nSp:∀b,b ∉ Sp->b ∉ Cs:=λb hb hc=>hb (Qqq _ (Qqq _ (Qqq _ (Qqq _ hc))));have s35:aO F3 F5:=λb o e=>by
        by_cases hb:b∈Sp
        ·rw[Va b hb];exact e
        ·rw[Lp b hb];exact t3 _ _ (sFp _ _ e)
       have hH:aO H3 (sU Cs H4):=λb o e=>by rw[gH (nC _ _ e)];exact t1 _ _ (ZD _ _ e)
       have s5H:aO F5 (sU Cs H4):=λb o e=>by
        by_cases hb:b∈Sp
        ·rw[Va b hb] at e;exact hH _ _ (r3.fr _ _ e)
        ·rw[Lp b hb] at e;rw[gH (nSp b hb)];exact t2 _ _ e
       have nw:∀b o,F5 b=some o->F3 b=some o\/H3 b=none:=λb o e=>by
        by_cases hb:b∈Sp
        ·rw[Va b hb] at e;exact .inl e
        ·rw[Lp b hb] at e;rcases t4 b o e with z|z
         ·rw[Ln b hb] at z;exact .inl z
         ·rw[gR (nSp b hb)] at z;exact .inr z
       exact q v _ F5 (r3.after hH s5H s35 nw) (sF3.trans s35) (by rw[<-G.K];exact Q6 hsc p4)
    have aem:=Mq (Kl (pos:=rpos) hE) pins VP _ _ D I2 ⟨rfl,r6,λv H3 F3 r3 s3 p3=>?_⟩
    ·exact aem
    ·exact fin v _ H3 F3 (r3.less sP) s3 p3
   ·exact fin.elim
  ·exact fin.elim
 ·exact fin.elim
end Ev
namespace L2
open PySem PySem.Spec PyProof.Rows
def spT(T:Hp)(sp:Sp):Sp:=λvs H Q E=>aO T H/\sp vs H Q E
def Bf(T:Hp):Prop:=∀b o,T b=some o->∃qs,o = .tab qs
theorem Sg{X:Cx}{CX:Qv}{T:Hp}{k:Nat}{f:Addr}{fd:FuncData}{ps:List Str}{sp:Sp}{Ui:List V}{ds:List Value}{E:XK}{x:Str}{p pos:Pos}{e:Expr}{es:List Expr}{t:TA}
  (F:lX X.prog X.w X.K X.mg X.base CX k f fd ps (spT T sp)) (hT:aO T X.H₀) (hO:Bf T) (hr:gm k X.A) (hg:Gl X x) (hm:X.mg x=some (.ref f)) (hk:PySem.W.keepIn X.K (.ref f)=true) (hb:Binds X.K fd ps ds) (hd:Vals Ui ds) (hx:Passes CX X E)
  (ha:PA X (e::es) t) (hdb:lR x:=by decide) (he:starEach (e::es) X.env=(false,eval e X.env)::starEach es X.env:=by rfl) (hpl:(backTo pos (starEach es X.env)).any (·.1)=false:=by rfl) :
  PE X (.Call (.Name x p) (e::es) [] pos) (Yt sp Ui E t):=by
 intro pins s σ H Q I h;refine wpAny_Call_Name_kw (yG I hg hm ?_ hdb);refine PySem.W.callWith_K (h₀:=X.base) I.ok.mod.Ju hk (fK (ha pos pins s σ H _ I h) λus s1 ⟨vs,H1,I1,r,q⟩=>⟨I1.Px,?_⟩) he hpl;exact Rb F hr hb hd hx I1 r ⟨λb o e=>by obtain⟨qs,rfl⟩:=hO b o e;exact I1.base.tabs b qs (hT b _ e),q⟩
end L2
namespace Ev
open PySem PySem.Spec PySem.W PySem.Calls PyProof.Rows L2
section
variable{X:Cx}{C:Cfg}{T:Hp}{pos p:Pos}{n:Str}{e:Expr}{es:List Expr}{ea:eN}{P:Program}{w:World}{K:Fg}{mg:Str->Option Value}{base:Heap}{x:Str}{st:Stmt}{N ps:List Str}{k:Nat}{ev:bU}{f:Addr}{fd:FuncData}
theorem Wj{cdv:Value}{A:Around}{outer:List PySem.Env}{s:Shared}{H:Hp}{vs:List V}{Q:VK}{E:XK}(hb:sE (bx P w K mg base N x st f cdv A outer s H E) (C0 K) (cI st) ev)(h:lC K ps.length (bW N.length ev) vs H Q E) :
  ∃t,Gq (Jb yc P w K mg base N x (aK st) f cdv A outer s H E).WX (cI st) t/\t { nx:=λ_ H'=>Q .non H',rt:=Q } (start N vs) H:=by
 obtain⟨F0,ds,d,hl,sF,p,e,q⟩:=h;refine⟨_,hb,BJ H F0,F0,envOf N.length ds,rN sF p,?_⟩;unfold bW at e;split at e
 ·rename_i d' env' h1;cases e;rw[h1];exact λv σ' H' F' r' s' p'=>q v H' F' (aO.tW r'.pr s' r'.fr sF) r'.fr s' (tZ s' r'.dj) p'
 ·rename_i env' h1;cases e;rw[h1];exact λσ' H' F' r' s'=>q .non H' F' (aO.tW r'.pr s' r'.fr sF) r'.fr s' (tZ s' r'.dj) rfl
 ·cases e
theorem VF{vs:List V}{H:Hp}{Q:VK}{E:XK}{n:Nat}{g:List D->Option D}(h:lC K n g vs H Q E):vs.length=n:=by obtain⟨F0,ds,d,hl,_,p,_⟩:=h;rw[p.length,hl]
theorem wX(F:Qp K x x st f fd)(S:bF N ps (aK st))
  (hb:∀(cdv:Value) (A:Around) (outer:List PySem.Env) (s:Shared) (H:Hp) (E:XK),fd.code=cdv->aO T H->gm k (A.deeper (envOfC x (aK st) s.heap.objs.size f cdv))->Good (bx P w K mg base N x st f cdv A outer s H E) (C0 K)->sE (bx P w K mg base N x st f cdv A outer s H E) (C0 K) (cI st) ev) :
  lX P w K mg base yc (k+1) f fd ps (spT T (lC K ps.length (bW N.length ev))):=by
 obtain⟨oc,od,kV,doc,pm,an,cdv,ct,osl,rfl,lk,hcd⟩:=F.ex;refine Y0 lk hcd S (λvs H Q E h=>VF h.2) λA outer s H vs Q E hr h=>?_;obtain⟨t,ht,q⟩:=Wj (hb cdv A outer s H E rfl h.1 hr (yL rfl hr)) h.2;exact⟨t,ht.WX,q⟩
theorem wG(F:dH K mg x st ps)(S:bF N ps (aK st))
  (hb:∀(f:Addr) (cdv:Value) (A:Around) (outer:List PySem.Env) (s:Shared) (H:Hp) (E:XK),aO T H->gm k (A.deeper (envOfC x (aK st) s.heap.objs.size f cdv))->Good (bx P w K mg base N x st f cdv A outer s H E) (C0 K)->sE (bx P w K mg base N x st f cdv A outer s H E) (C0 K) (cI st) ev) :
  Own P w K mg base x (k+1) ps (spT T (lC K ps.length (bW N.length ev))):=by
 obtain⟨f,fd,h1,h2,h3⟩:=F;exact⟨f,fd,wX h1 S λcdv A outer s H E _ hT hr G=>hb f cdv A outer s H E hT hr G,h2,h1.kp,h3⟩
def U9(K:Fg)(mg:Str->Option Value)(x:Str)(st:Stmt)(ps:List Str)(c:Addr):Prop:=∃f fd,Qp K x x st f fd/\mg x=some (.ref f)/\Binds K fd ps []/\fd.code = .ref c
theorem CV{c:Addr}(F:U9 K mg x st ps c)(S:bF N ps (aK st))
  (hb:∀(f:Addr) (A:Around) (outer:List PySem.Env) (s:Shared) (H:Hp) (E:XK),aO T H->gm k (A.deeper (envOfC x (aK st) s.heap.objs.size f (.ref c)))->Good (bx P w K mg base N x st f (.ref c) A outer s H E) (C0 K)->sE (bx P w K mg base N x st f (.ref c) A outer s H E) (C0 K) (cI st) ev) :
  Own P w K mg base x (k+1) ps (spT T (lC K ps.length (bW N.length ev))):=by
 obtain⟨f,fd,h1,h2,h3,h4⟩:=F;refine⟨f,fd,wX h1 S λcdv A outer s H E hc hT hr G=>?_,h2,h1.kp,h3⟩;rw[h4] at hc;subst hc;exact hb f A outer s H E hT hr G
end
abbrev Lh:=List (Str×List (Pos×Str))
def gU(K:Fg)(x:Str):Addr×Addr:=(tabIn K x).getD (0,0)
def lE(K:Fg):Lh->Hp
 | [],_=>none
 | (x,qs)::r,b=>if b=(gU K x).2 then some (.tab qs) else lE K r b
theorem jA(K:Fg):∀l:Lh,Bf (lE K l)
 | [],_,_,h=>by cases h
 | (x,qs)::r,b,o,h=>by
  unfold lE at h;split at h
  ·cases h;exact⟨qs,rfl⟩
  ·exact jA K r b o h
theorem Gz(K:Fg):∀(l:Lh) (b:Addr) (o:HO),lE K l b=some o->∃x qs,(x,qs)∈l/\b=(gU K x).2/\o = .tab qs
 | [],_,_,h=>by cases h
 | (x,qs)::r,b,o,h=>by
  unfold lE at h;split at h
  ·rename_i hb;cases h;exact⟨x,qs,Qqj,hb,rfl⟩
  ·obtain⟨y,ps,h1,h2⟩:=Gz K r b o h;exact⟨y,ps,Qqq _ h1,h2⟩
theorem Pj{P:Program}{w:World}{K:Fg}{mg mb:Str->Option Value}{k:Nat}{fa a:Addr}{fd:FuncData}{x:Str}{f:List D->Option D}{s₁:Shared}{vs:List Value}{ns:List Int}{l:Lh}
  (KX:K.In s₁.heap) (hns:s₁.heap.Ns mainGlobals mg) (hb:s₁.heap.Ns builtinsNs mb) (hbb:∀x:Str,x ≠ "__name__"->mb x=bootBuiltins x) (hlim:s₁.heap.NoLimit) (hg:s₁.gens = #[])
  (ha:s₁.heap.get? a=some { cls:=.type "list",data:=.seq vs.toArray }) (hi:IntsAre vs ns) (hl:ns.length<=sizeLine) (hr:gm k callerA)
  (hbm:∃bm ob,mg "__builtins__" = some (.ref bm)/\bm≠builtinsNs/\s₁.heap.get? bm=some ob/\ob.cls = .type "module"/\ob.dict=some builtinsNs/\ob.data = .plain)
  (hK:noTabs K=true) (hT:∀q∈l,CodeHd s₁.heap (gU K q.1).1 (gU K q.1).2/\s₁.heap.get? (gU K q.1).2=some (tabObj #[]))
  (F:∀base:Heap,K.In base->base.Ns mainGlobals mg->(∀q∈l,BZ base mg (gU K q.1).1 (gU K q.1).2)->lX P w K mg base yc k fa fd [x] (spT (lE K l) (lC K 1 f))) (hbind:∀(s:Shared) (u:Value),BindsTo s fd ⟨[u],[]⟩ [(x,u)])
  (hf:f [.arr (ns.map .int)]=some (.bl true)) :
  codeAny (model P w) callerA (.call (.ref fa) ⟨[.ref a],[]⟩) (λr s'=>r = .ok (.ret (.bool true))/\OldK s₁.heap s'.heap/\s'.os=s₁.os/\AllBare s'.gens) s₁:=by
 have rv:=Cj hi;have lenV:=hi.length;have N8:∀b o,lE K l b=some o->∃qs c,o = .tab qs/\CodeHd s₁.heap c b/\s₁.heap.get? b=some (tabObj #[]):=λb o e=>by
  obtain⟨y,qs,h1,h2,h3⟩:=Gz K l b o e;subst h2;exact⟨qs,_,h3,hT _ h1⟩
 have Vx:∀b o,lE K l b=some o->b≠a:=λb o e z=>by
  obtain⟨qs,c,_,_,h⟩:=N8 b o e;rw[z,ha] at h;cases h
 have core:∀H:Hp,aO (lE K l) H->o7 K H a (ns.map V.int)->uo P w H s₁.heap->(∀b,H b≠none->(b=a/\K.lookup a=none/\∃o xs,H b=some (.lD o (.lst xs)))\/lE K l b=H b)->
   codeAny (model P w) callerA (.call (.ref fa) ⟨[.ref a],[]⟩) (λr s'=>r = .ok (.ret (.bool true))/\OldK s₁.heap s'.heap/\s'.os=s₁.os/\AllBare s'.gens) s₁:=by
  intro H hTH hS hok hA;have yP:∀{b:Addr} {o:Obj},s₁.heap.get? b=some o->H b=none->(BR s₁.heap H).get? b=some o:=λe n=>T4 e n;have Vd:∀{b:Addr} {o:Obj},s₁.heap.get? b=some o->o.cls ≠ .type "list"->o.cls ≠ .none->H b=none:=λ{b o} e d1 d2=>by
   cases q:H b with
   | none=>rfl
   | some u=>
    rcases hA b (by rw[q];simp) with ⟨e',_⟩|e'
    ·subst e';rw[ha] at e;cases e;exact absurd rfl d1
    ·rw[q] at e';obtain⟨_,_,_,_,h⟩:=N8 b u e';rw[e] at h;cases h;exact absurd rfl d2
  have noD:∀{b:Addr} {o:Obj} {es:Array DictEntry} {ep:Nat},s₁.heap.get? b=some o->o.data = .dict es ep->H b=none:=λ{b o es ep} e d=>by
   cases q:H b with
   | none=>rfl
   | some u=>
    rcases hA b (by rw[q];simp) with ⟨e',_⟩|e'
    ·subst e';rw[ha] at e;cases e;have d':Data.seq vs.toArray _=Data.dict es ep:=d;cases d'
    ·rw[q] at e';obtain⟨_,_,_,_,h⟩:=N8 b u e';rw[e] at h;cases h;have d':Data.fields #[]=Data.dict es ep:=d;cases d'
  have nsK:∀{b:Addr} {m:Str->Option Value},s₁.heap.Ns b m->(BR s₁.heap H).Ns b m:=λ{b m} ⟨o,es,ep,e,d,r⟩=>⟨o,es,ep,yP e (noD e d),d,r⟩;have hKb:K.In (BR s₁.heap H):=λb o e=>yP (KX b o e) (by
   cases q:H b with
   | none=>rfl
   | some u=>
    rcases hA b (by rw[q];simp) with ⟨e',hk,_⟩|e'
    ·subst e';rw[hk] at e;cases e
    ·rw[q] at e';obtain⟨_,_,_,_,h⟩:=N8 b u e';rw[KX b o e] at h;cases h;have h2:=Qx7.mp hK (b,tabObj #[]) (mem_of_lookupK e);exact absurd (show false=true from h2) Qw6)
  have hM:Mod K mg (BR s₁.heap H):=⟨hKb,nsK hns,⟨mb,nsK hb,hbb⟩,let ⟨mc,h1,h2⟩:=hlim;⟨mc,nsK h1,h2⟩⟩;have hTB:∀q∈l,BZ (BR s₁.heap H) mg (gU K q.1).1 (gU K q.1).2:=λq hq=>by
   obtain⟨⟨o,us,file,tf,flags,tg,inF,text,tt,e1,r1,rr⟩,h2⟩:=hT q hq;obtain⟨bm,ob,b1,b2,b3,b4,b5,b6⟩:=hbm;refine⟨⟨o,us,file,tf,flags,tg,inF,text,tt,yP e1 (Vd e1 (by rw[r1];decide) (by rw[r1];intro z;cases z)),r1,rr⟩,⟨bm,ob,b1,b2,?_,?_,yP b3 (Vd b3 (by rw[b4];decide) (by rw[b4];intro z;cases z)),b4,b5,b6⟩,?_⟩
   ·intro z;obtain⟨o',es,ep,e,hd,_⟩:=hns;rw[z,e] at b3;cases b3;rw[hd] at b6;cases b6
   ·intro z;rw[z,h2] at b3;cases b3;cases b4
   ·intro z;obtain⟨o',es,ep,e,hd,_⟩:=hns;rw[z,h2] at e;cases e;cases hd
  have e0:Jo P w K mg (BR s₁.heap H) callerA [] s₁ H:=⟨rfl,hM,λb o e=>WR e,Nat.le_of_eq (PK _ _),trivial,λb hb=>absurd (show b∈([]:List Addr) from hb) (by simp),hok,.of_eq hg⟩;have T3:Rep K H (.arr (ns.map .int)) (.ref a):=by
   refine⟨by rw[Qqv];exact hl,a,_,rfl,hS,?_⟩;clear hf hS hi lenV hl rv
   induction ns with
   | nil=>exact rfl
   | cons m ns ih=>exact⟨_,_,rfl,rfl,ih⟩
  refine codeAny_mono ((F _ hKb (nsK hns) hTB).run callerA [] s₁ H ⟨[.ref a],[]⟩ [.ref a] [.ref a] (λv _=>v = .bl true) (λ_ _ _=>False) hr e0 (hbind s₁ (.ref a)) (.cons rfl .nil) ⟨hTH,H,[.arr (ns.map .int)],.bl true,rfl,aO.refl H,⟨_,_,rfl,T3,rfl⟩,hf,λv H' F' _ _ _ _ p=>p⟩) λr s' h=>?_;cases r with
  | error e=>exact h.elim
  | ok fl=>
   cases fl with
   | next=>exact False.elim h
   | brk=>exact False.elim h
   | cont=>exact False.elim h
   | ret u=>
    obtain⟨v,H',os,bare,un,hok',r',q⟩:=h;have q':v = .bl true:=q;subst q';obtain rfl:u=Value.bool true:=r';have all:∀b o,s₁.heap.get? b=some o->s'.heap.get? b=some o\/(isCodeTable s₁.heap b/\o=tabObj #[]/\∃ps,s'.heap.get? b=some (tabObj ps)):=λb o e=>by
     cases q:H b with
     | none=>exact .inl (un.keep b o e q (by intro z;exact absurd (show b∈([]:List Addr) from z) (by simp)) (by simp))
     | some u=>
      rcases hA b (by rw[q];simp) with ⟨_,_,ob,xs,z⟩|e'
      ·have z2:=un.wQ b ob _ z;obtain⟨e1,_⟩:=hok b _ z;obtain⟨e2,_⟩:=hok' b _ z2;rw[e] at e1;cases e1;exact .inl e2
      ·rw[q] at e';obtain⟨qs,c,rfl,h1,h2⟩:=N8 b u e';obtain⟨ps,e3,_⟩:=hok' b _ (un.tabs b qs q);rw[e] at h2;cases h2;exact .inr ⟨(h1.tab e).isCodeTable,rfl,ps,e3⟩
    refine⟨rfl,⟨λb o e=>?_,λb o e=>?_⟩,os,bare⟩
    ·rcases all b o e with z|⟨h1,rfl,ps,h2⟩
     ·exact .inl z
     ·exact .inr (.inl ⟨h1,rfl, #[],ps,rfl,by rw[Array.empty_append];exact h2⟩)
    ·rcases all b o e with z|⟨h1,rfl,ps,h2⟩
     ·exact⟨o,z⟩
     ·exact⟨_,h2⟩
 have Yr:∀H:Hp,∀b o,lE K l b=some o->gr P w H s₁.heap b o:=λH b o e=>by
  obtain⟨qs,c,rfl,_,h⟩:=N8 b o e;exact⟨#[],h,True.intro,λq _=>.inl rfl⟩
 cases hk:K.lookup a with
 | some o=>
  have e:=KX a o hk;rw[ha] at e;cases e;exact core (lE K l) (aO.refl _) (.inr ⟨_,vs.toArray,_,hk,rfl,rfl,rfl,by rw[Qq3,lenV];exact hl,by simpa using rv⟩) (λb u z=>Yr _ b u z) λb z=>.inr rfl
 | none=>
  refine core (λb=>if b=a then some (.lD { cls:=.type "list",data:=.seq vs.toArray } (.lst (ns.map V.int))) else lE K l b) (λb o e=>?_) (.inl (.inr ⟨{ cls:=.type "list",data:=.seq vs.toArray },if_pos rfl⟩)) (λb u z=>?_) λb z=>?_
  ·exact(if_neg (Vx b o e)).trans e
  ·by_cases hb:b=a
   ·have z':=(if_pos hb).symm.trans z;cases z';subst hb;exact⟨ha,by rw[Qqv];exact hl,vs,_,rv,ha⟩
   ·have z':=(if_neg hb).symm.trans z;exact Yr _ b u z'
  ·by_cases hb:b=a
   ·exact .inl ⟨hb,hk,_,_,if_pos hb⟩
   ·exact .inr (if_neg hb).symm
theorem Xq{K:Fg}{h:Heap}{mg:Str->Option Value}{x:Str}{st:Stmt}{ps:List Str}{f c P:Addr}{oc kV doc pm cdv ct:Value}{od an:Option Addr}{osl:Array (Option Value)}(X:K.In h)(G:h.Ns mainGlobals mg)
  (a:PySem.W.nsIn K mainGlobals x=some (some (.ref f))) (l:K.lookup f=some ⟨oc,od,.func (PySem.W.fnOf x x (f9 st) (cI st) (aK st) .none kV doc pm an cdv ct),osl⟩) (c0:PySem.W.codeIn K cdv x=true) (k:PySem.W.keepIn K (.ref f)=true) (ht:tabIn K x=some (c,P))
  (b:∀{kV doc pm:Value} {an:Option Addr} {cdv ct:Value} (us:List Value),us.length=ps.length->bindArgs (PySem.W.fnOf x x (f9 st) (cI st) (aK st) .none kV doc pm an cdv ct) ⟨us,[]⟩=pure (ps.zip us)):U9 K mg x st ps (gU K x).1:=by
 have e3:gU K x=(c,P):=by unfold gU;rw[ht];rfl
 refine⟨f,_,Ab (st:=st) l c0 k,PySem.W.mg_of X G a,(Ab (st:=st) l c0 k).binds λ_ _ _ _ _ _ us hl=>b us hl,?_⟩;rw[e3];exact law_code (fa:=f) X G ht (PySem.W.mg_of X G a) (X _ _ l) rfl
open PySem PySem.Spec PyProof.Rows L2
def nest(s:Stmt)(j:Nat):Stmt:=(cI s).getD j (.Pass ⟨0,0,0,0⟩)
def lL(s:Stmt):Pos:=match s with
 | .FunctionDef _ _ _ _ _ _ _ _ _ p=>p
 | _=>⟨0,0,0,0⟩
def Ma(i:Nat)(a:Ev):bU:=λenv=>match env[i]? with
 | some (some (false,.int k))=>gM (a env) λd aL=>(match d with
  | .int j=>.nx (aL.set i (some (false,.int (k+j))))
  | _=>.stuck)
 | _=>.stuck
section
variable{X:Cx}{C:Cfg}{pos pos':Pos}{x:Str}{e:Expr}{a:Ev}
end
theorem Fl{N ps qs:List Str}{sc:Scope}(h1:sc.kind = .function:=by rfl)(h2:sc.isCoroutine=false:=by rfl)(h3:sc.isGenerator=false:=by rfl)(h4:jN N=true:=by rfl)(h5:N.take (ps.length+qs.length)=ps++qs:=by rfl)
  (h6:(ps.all λx=>decide (sc.names.lookup x=some .local))=true:=by rfl) (h7:(sc.names.all λy=>!decide (y.2 = .cell)&&(!decide (y.2 = .free)||qs.contains y.1))=true:=by rfl) (h8:(qs.all λx=>decide (sc.names.lookup x=some .free))=true:=by rfl):jF N ps qs sc:=by
 refine⟨h1,h2,h3,gA h4,h5,λx hx=>Qw8 (Qx7.mp h6 x hx),λx hx=>?_,λx hx=>Qw8 (Qx7.mp h8 x hx),λy hy z=>?_⟩
 ·have h:=Qx7.mp h7 _ (Qjq hx);rw[Qzx,Bool.or_eq_true] at h;rcases h.2 with z|z
  ·rw[Qw4 rfl] at z;exact absurd z (by decide)
  ·exact List.contains_iff_mem.mp z
 ·have h:=Qx7.mp h7 y hy;rw[Qw4 z] at h;exact absurd h (by simp)
def Ea(N:List Str):List Nat->List Str->Bool
 | [],[]=>true
 | j::js,x::xs=>decide (N[j]? = some x)&&Ea N js xs
 | _,_=>false
theorem Cv{N:List Str}:∀{js:List Nat} {xs:List Str},Ea N js xs=true->yC N js xs
 | [],[],_=>True.intro
 | [],_::_,h=>by cases h
 | _::_,[],h=>by cases h
 | j::js,x::xs,h=>by
  have h':(decide (N[j]? = some x)&&Ea N js xs)=true:=h;rw[Qzx] at h';exact⟨Qw8 h'.1,Cv h'.2⟩
theorem Ni{X:Cx}{qs:List (Pos×Str)}{i:Nat}{js:List Nat}{st:Stmt}{n:Str}{args:Arguments}{body:List Stmt}{sc:Scope}{pos:Pos}{qual:Str}
  (eq:st = .FunctionDef n args body [] none [] sc none n pos:=by rfl) (hq:(pos,qual)∈qs) (hqs:∀q∈qs,q.1.line=pos.line->q.1.col=pos.col->q.2=qual)
  (hd0:args.defaults=[]:=by rfl) (hk0:args.kw_defaults=[]:=by rfl) (ha:annTrees args none X.env=[]:=by rfl) (hqn:qualnameIn X.env n n=qual:=by rfl)
  (fr:((freeOf st).all λx=>decide (X.env.scope.names.lookup x=some .cell))=true:=by rfl) (fnd:jN (freeOf st)=true:=by rfl) (hi:X.N[i]? = some n:=by rfl) (hx:X.env.scope.names.lookup n=some .local:=by rfl) (sl:Ea X.N js (freeOf st)=true:=by rfl) :
  Jp X qs i js st n args body sc pos qual:=⟨eq,hq,hqs,hd0,hk0,ha,hqn,λx hx=>Qw8 (Qx7.mp fr x hx),gA fnd,hi,hx,Cv sl⟩
section
variable{X:Cx}{C:Cfg}{T:Hp}{pos p pos':Pos}{n:Str}{e:Expr}{es:List Expr}{ea:eN}{a:Ev}
theorem Z4(i:Nat)(he:SX X C e a)(hnd:jN X.N=true:=by rfl)(hfx:C.fx i=none:=by rfl)(hi:X.N[i]? = some n:=by rfl)(hx:Loc X.env.scope n:=by first|exact Or.inl rfl|exact Or.inr rfl)
  (hf:X.fn n=true\/X.env.scope.names.lookup n=some .local:=by first|exact .inl rfl|exact .inr rfl):Gn X C (.AugAssign (.Name n pos') .Add e pos) (Ma i a):=⟨(aam (gA hnd) hi hx he.u abG hf).imp λD σ H h=>by
  obtain⟨Pr,F,env,r,f⟩:=h;unfold Ma at f;split at f
  ·rename_i k h0;obtain⟨d,aL,e1,f1⟩:=di f;split at f1
   ·rename_i j;obtain⟨v,h1,h2⟩:=r.val i _ h0;cases h2;exact⟨_,h1,Pr,F,env,aL,.int j,r,e1,λv2 H1 F1 r1 s1 p1=>⟨k,j,rfl,p1,f1 _ H1 F1 (r1.put hfx rfl) s1⟩⟩
   ·exact f1.elim
  ·exact f.elim⟩
theorem pg{k k':Nat}{m:Nat}{ps:List Str}{g:List D->Option D}(O:Own X.prog X.w X.K X.mg X.base n k ps (spT T (lC X.K m g)))(hT:aO T X.H₀)(hO:Bf T)(G:Good X C)(hr:gm k' X.A)(ha:Lk X C (e::es) ea)(hn:∀env ds env',ea env = .ok ds env'->ds.length=m)(hk:Nat.ble k k'=true:=by rfl)
  (hg:Gl X n:=by rfl) (hdb:lR n:=by decide) (he:starEach (e::es) X.env=(false,eval e X.env)::starEach es X.env:=by rfl) (hpl:(backTo pos (starEach es X.env)).any (·.1)=false:=by rfl):SX X C (.Call (.Name n p) (e::es) [] pos) (aq g ea):=
 ⟨by
 obtain⟨f,fd,h1,h2,h3,h4⟩:=O;have h1':lX X.prog X.w X.K X.mg X.base yc k f fd ps (spT T (lC C.K m g)):=by rw[<-G.K];exact h1
 refine(Sg h1' hT hO (hr.mono (Qzq hk)) hg h2 h3 h4 .nil Mu ha.u hdb he hpl).imp λσ H Q hq=>?_;obtain⟨Pr,F,env,env',d,r,e,q⟩:=hq;obtain⟨ds,e1,e2⟩:=uf e;refine⟨Pr,F,env,env',ds,r,e1,λvs H1 F1 r1 s1 p1=>?_⟩;show lC C.K m g (vs++[]) H1 Q E0;rw[Qxx];exact⟨F1,ds,d,hn _ _ _ e1,r1.fr,p1,e2,λv H2 F2 t1 t2 t3 t4 p2=>q v H2 F2 (r1.after t1 t2 t3 t4) (s1.trans t3) p2⟩⟩
theorem JF{k k':Nat}{Φ:Stmt->List D->List D->Option D}(i:Nat)(hΦ:∀st lM ds d,Φ st lM ds=some d->rH X.prog X.w X.K X.mg X.base k st (Φ st))(G:Good X C)(hr:gm k' X.A)(hk:Nat.ble k k'=true)(ha:Lk X C (e::es) ea)
  (hN:X.N[i]? = some n:=by rfl) (hv:vH X.env.scope n:=by first|exact Or.inl rfl|exact Or.inr (Or.inl rfl)|exact Or.inr (Or.inr rfl)) (hx:∀e s,False->X.xe e s:=by exact λ_ _ h=>h.elim)
  (hd:lR n:=by decide) (hcd:uR n:=by decide) (he:starEach (e::es) X.env=(false,eval e X.env)::starEach es X.env:=by rfl) (hpl:(backTo pos (starEach es X.env)).any (·.1)=false:=by rfl) :
  SX X C (.Call (.Name n p) (e::es) [] pos) (lO Φ i ea):=⟨Ev.aai i hN hv G hΦ (hr.mono (Qzq hk)) hx ha.u hd hcd he hpl⟩
end
theorem Nj{X:Cx}{C:Cfg}{qs:List (Pos×Str)}{c0 P:Addr}{i1 i2:Nat}{js1 js2:List Nat}{st1 st2:Stmt}{n1 n2:Str}{ar1 ar2:Arguments}{bd1 X4:List Stmt}{Q7 Hi:Scope}{ps1 ps2:Pos}{q1 q2:Str}{e1 e2 e3:Expr}{a1 a2 a3:Ev}{x:Str}{p Ez Ey pos rpos:Pos}{k k':Nat}{ps:List Str}{g:List D->Option D}
  (G:Good X C) (B:BZ X.base X.mg c0 P) (hcode:X.env.code = .ref c0) (hT:X.H₀ P=some (.tab qs))
  (D1:Jp X qs i1 js1 st1 n1 ar1 bd1 Q7 ps1 q1) (D2:Jp X qs i2 js2 st2 n2 ar2 X4 Hi ps2 q2)
  (O:Own X.prog X.w X.K X.mg X.base x k ps (lC X.K 5 g)) (hr:gm k' X.A) (hkk:Nat.ble k k'=true)
  (h1:SX X C e1 a1) (h2:SX X C e2 a2) (h3:SX X C e3 a3) (hg:Gl X x:=by rfl) (hdb:lR x:=by decide)
  (hfn:∀y,X.fn y=true:=by intro _;rfl) (hN:jN X.N=true:=by rfl) (hfx:∀i,C.fx i=none:=by intro _;rfl) (h12:i1≠i2:=by decide) (hx:∀e s,False->X.xe e s:=by exact λ_ _ h=>h.elim)
  (hv1:lR n1:=by decide) (hv2:lR n2:=by decide) (hw1:uR n1:=by decide) (hw2:uR n2:=by decide)
  (s1:starEach [e1,e2,e3,.Name n1 Ez,.Name n2 Ey] X.env=(false,eval e1 X.env)::starEach [e2,e3,.Name n1 Ez,.Name n2 Ey] X.env:=by rfl) (s2:starEach [e2,e3,.Name n1 Ez,.Name n2 Ey] X.env=(false,eval e2 X.env)::starEach [e3,.Name n1 Ez,.Name n2 Ey] X.env:=by rfl)
  (s3:starEach [e3,.Name n1 Ez,.Name n2 Ey] X.env=(false,eval e3 X.env)::starEach [.Name n1 Ez,.Name n2 Ey] X.env:=by rfl) (hpl:(backTo pos (starEach [e2,e3,.Name n1 Ez,.Name n2 Ey] X.env)).any (·.1)=false:=by rfl) :
  eV X C [st1,st2,.Return (some (.Call (.Name x p) [e1,e2,e3,.Name n1 Ez,.Name n2 Ey] [] pos)) rpos] (qw st1 st2 js1 js2 i1 i2 g a1 a2 a3):=
 ⟨Ev.Om G B hcode hT hfn (gA hN) hfx h12 D1 D2 O hr (Qzq hkk) hx hg hdb h1.u h2.u h3.u hv1 hv2 hw1 hw2 s1 s2 s3 hpl⟩
def FC(K:Fg)(x:Str)(st:Stmt):Prop:=∃(f c P:Addr) (oc kV doc pm ct oc2:Value) (od an od2:Option Addr) (osl O2:Array (Option Value)) (vs:Array Value),PySem.W.nsIn K mainGlobals x=some (some (.ref f))/\
 K.lookup f=some ⟨oc,od,.func (PySem.W.fnOf x x (f9 st) (cI st) (aK st) .none kV doc pm an (.ref c) ct),osl⟩/\PySem.W.codeIn K (.ref c) x=true/\PySem.W.keepIn K (.ref f)=true/\K.lookup c=some ⟨oc2,od2,.fields vs,O2⟩/\vs[11]? = some (.ref P)
theorem FC.mk{K:Fg}{x:Str}{st:Stmt}{f c P:Addr}{oc kV doc pm ct oc2:Value}{od an od2:Option Addr}{osl O2:Array (Option Value)}{vs:Array Value}(a:PySem.W.nsIn K mainGlobals x=some (some (.ref f)))
  (l:K.lookup f=some ⟨oc,od,.func (PySem.W.fnOf x x (f9 st) (cI st) (aK st) .none kV doc pm an (.ref c) ct),osl⟩) (c0:PySem.W.codeIn K (.ref c) x=true) (k:PySem.W.keepIn K (.ref f)=true) (lc:K.lookup c=some ⟨oc2,od2,.fields vs,O2⟩) (v:vs[11]? = some (.ref P)):FC K x st:=
 ⟨f,c,P,oc,kV,doc,pm,ct,oc2,od,an,od2,osl,O2,vs,a,l,c0,k,lc,v⟩
theorem FC.tab{K:Fg}{x:Str}{st:Stmt}(F:FC K x st):∃cp,tabIn K x=some cp:=by obtain⟨f,c,P,oc,kV,doc,pm,ct,oc2,od,an,od2,osl,O2,vs,a,l,c0,k,lc,v⟩:=F;refine⟨(c,P),?_⟩;unfold tabIn;rw[a];simp only[l,lc,v]
theorem FC.at{K:Fg}{h:Heap}{mg:Str->Option Value}{x:Str}{st:Stmt}{ps:List Str}(X:K.In h)(G:h.Ns mainGlobals mg)(F:FC K x st)
  (b:∀{kV doc pm:Value} {an:Option Addr} {cdv ct:Value} (us:List Value),us.length=ps.length->bindArgs (PySem.W.fnOf x x (f9 st) (cI st) (aK st) .none kV doc pm an cdv ct) ⟨us,[]⟩=pure (ps.zip us)):U9 K mg x st ps (gU K x).1:=by
 obtain⟨⟨c',P'⟩,ht⟩:=F.tab;obtain⟨f,c,P,oc,kV,doc,pm,ct,oc2,od,an,od2,osl,O2,vs,a,l,c0,k,lc,v⟩:=F;exact Xq X G a l c0 k ht b
theorem FA.af3{P:Program}{w:World}{K:Fg}{h:Heap}{mg:Str->Option Value}{fa:Addr}{x y:Str}{st:Stmt}{k:Nat}{g:List D->Option D}{tl:Lh}(X:K.In h)(G:h.Ns mainGlobals mg)(hfa:mg x=some (.ref fa))(F:FA K x st)
  (b:∀{kV doc pm:Value} {an:Option Addr} {cdv ct:Value} (s:Shared) (v:Value),BindsTo s (PySem.W.fnOf x x (f9 st) (cI st) (aK st) .none kV doc pm an cdv ct) ⟨[v],[]⟩ [(y,v)])
  (q:∀{fd:FuncData} (base:Heap),(∀z∈tl,BZ base mg (gU K z.1).1 (gU K z.1).2)->Qp K x x st fa fd->lX P w K mg base yc k fa fd [y] (spT (lE K tl) (lC K 1 g))) :
  ∃fd:FuncData,(∀(s:Shared) (v:Value),BindsTo s fd ⟨[v],[]⟩ [(y,v)])/\∀base:Heap,K.In base->base.Ns mainGlobals mg->(∀z∈tl,BZ base mg (gU K z.1).1 (gU K z.1).2)->lX P w K mg base yc k fa fd [y] (spT (lE K tl) (lC K 1 g)):=by
 obtain⟨f,oc,kV,doc,pm,cdv,ct,od,an,osl,a,l,c,k⟩:=F;have e:=hfa.symm.trans (PySem.W.mg_of X G a);cases e;exact⟨_,b,λbase _ _ hB=>q base hB (Ab (st:=st) l c k)⟩
theorem ZC{l:PySem.W.OpenLaw}{n k:Nat}{q:Program}{loose:List Str}{XP:(Str->Option Value)->Heap->Prop}{YP:World->Heap->Prop}{d:DefRec}{K:Params->PySem.W.Frag}{x:Str}{f:List D->Option D}(tl:Lh)
  (hn:l.most=some n) (hn2:n<=sizeLine) (hdf:d.params.defaults=[]) (hr:gm k callerA)
  (hY:∀(w:World) (h:Heap),YP w h->(K w.params).In h)
  (hf:∀ns:List Int,ns.length<=n->Qq ns->f [.arr (ns.map .int)]=some (.bl true))
  (hK:∀w:World,noTabs (K w.params)=true) (hrec:∀y∈tl,∃e,(recsOf q).find? (λe=>e.name == y.1)=some e)
  (F:∀(w:World) (mg:Str->Option Value) (fa:Addr) (h:Heap),(K w.params).In h->h.Ns mainGlobals mg->mg d.name=some (.ref fa)->(∀y∈tl,∃cp,tabIn (K w.params) y.1=some cp)/\
   ∃fd:FuncData,(∀(s:Shared) (u:Value),BindsTo s fd ⟨[u],[]⟩ [(x,u)])/\
    ∀base:Heap,(K w.params).In base->base.Ns mainGlobals mg->(∀y∈tl,BZ base mg (gU (K w.params) y.1).1 (gU (K w.params) y.1).2)->lX l.prog w (K w.params) mg base yc k fa fd [x] (spT (lE (K w.params) tl) (lC (K w.params) 1 f))) :
  PySem.W.WalkO q loose XP YP l.row.toRowW d [] (λf vs=>PySem.call f vs):=by
 refine Gh hn hdf λw s₀ s₁ mg mb fa o pm cd doc a vs ns G Y ho hd hcd hmg hobj hints hlen T6 hg=>?_;have KX:=hY w _ Y;obtain⟨htab,fd,hb,hF⟩:=F w mg fa _ KX G.T.g hmg;refine Pj (l:=tl) KX G.T.g G.T.b G.T.builtins G.T.nolimit hg hobj hints (Qq2 hlen hn2) hr G.T.bmain (hK w) (λy hy=>?_) hF hb (hf ns hlen T6);obtain⟨⟨c,P⟩,e1⟩:=htab y hy;obtain⟨e,e2⟩:=hrec y hy;have e3:gU (K w.params) y.1=(c,P):=by unfold gU;rw[e1];rfl
 rw[e3];exact tab_of G.T KX e2 e1
theorem Ot{X:Cx}{C:Cfg}{pos:Pos}{e:Expr}{a:Ev}(he:SX X C e a)(hs:swapsWith e none pos.line X.env=pure false:=by rfl):Gn X C (.Expr e pos) (J4 a):=⟨(Ew he.u hs).imp λD σ H hq=>by
 obtain⟨Pr,F,env,r,f⟩:=hq;obtain⟨d,aL,e1,f1⟩:=di f;exact⟨Pr,F,env,aL,d,r,e1,λv H1 F1 r1 s1 p1=>f1 σ H1 F1 r1 s1⟩⟩
theorem aey{g:D->D->Option D}{i:Nat}{b:Ev}{env e2:Env}{x y d:D}(h1:env[i]? = some (some (false,x)))(h2:b env = .ok y e2)(h4:e2[i]? = some (some (false,x)))(h3:g x y=some d):aA g i b env = .ok d e2:=bA h1 h2 h4 h3
theorem aiX{g:D->D->Option D}{i:Nat}{b:Ev}{env e2:Env}{x y d:D}(h1:env[i]? = some (some (true,x)))(h2:b env = .ok y e2)(h4:e2[i]? = some (some (true,x)))(h3:g x y=some d):aA g i b env = .ok d e2:=bA h1 h2 h4 h3
theorem Mf{i:Nat}{a:Ev}{env e:Env}{d:D}{xs:List D}(h0:env[i]? = some (some (true,.lst xs)))(h1:a env = .ok d e)(h2:e[i]? = some (some (true,.lst xs)))(hz:xs.length<sizeLine):d7 i a env = .nx (e.set i (some (true,.lst (xs++[d])))):=by unfold d7;rw[h0];simp only[h1,gM,h2,if_pos hz]
theorem IK{f:List D->Option (D×D)}{i:Nat}{a:eN}{env e1:Env}{ds:List D}{x d x':D}(h0:env[i]? = some (some (true,x)))(h1:a env = .ok ds e1)(h2:e1[i]? = some (some (true,x)))(h3:f (x::ds)=some (d,x')):fP f i a env = .ok d (e1.set i (some (true,x'))):=nO h0 h1 h2 h3
theorem zz1:1<=sizeLine:=by decide
theorem Js:2<=sizeLine:=by decide
theorem zz3:3<=sizeLine:=by decide
theorem zz4:4<=sizeLine:=by decide
theorem zz5:5<=sizeLine:=by decide
theorem zz6:6<=sizeLine:=by decide
theorem zz7:7<=sizeLine:=by decide
end Ev
abbrev OD:=Option (Bool×Ev.D)
abbrev Zf(d:Ev.D):OD:=some (false,d)
abbrev Zt(d:Ev.D):OD:=some (true,d)
abbrev Zs(w:List Nat):OD:=some (false,.str w)
abbrev Zb(b:Bool):OD:=some (false,.bl b)
abbrev Zl(l:List Ev.D):OD:=some (true,.lst l)
abbrev Zv(i:Nat)(a:Ev.eN):Ev.eN:=Ev.aa (Ev.aM i) a
abbrev Zi(i:Int):Ev.Ev:=Ev.ji (.int i)
abbrev Zw(w:List Nat):Ev.Ev:=Ev.ji (.str w)
abbrev LD:=List Ev.D->Option Ev.D
abbrev Zn:OD:=none
abbrev Vj:List PySem.Str:=["rule","word"]
abbrev Yb:List PySem.Str:=["_law_pack_here","_law_sounds_here"]
abbrev Zh:List PySem.Str:=["stock","side","rule","other"]
abbrev Zq3:List PySem.Str:=["stock","order"]
abbrev Zq4:List PySem.Str:=["rule","standing","sign"]
abbrev Zq5:List PySem.Str:=["order","standing","sound"]
abbrev Zq6:List PySem.Str:=["side","rule","word"]
abbrev Zq7:List PySem.Str:=["_law_stock_here"]
abbrev Zq8:List PySem.Str:=["_law_side","_law_rule_here","_law_word"]
abbrev Zq9:List PySem.Str:=["_law_stock_here","_law_side","_law_rule_here"]
abbrev acn:List PySem.Str:=["rule","standing","signs"]
abbrev ack:List PySem.Str:=["stock","side","first","lead","shows"]
abbrev acj:List PySem.Str:=["stock","side","rule","other","behind","alone"]
abbrev aci:List PySem.Str:=["stock","order","number"]
abbrev ach:List PySem.Str:=["_law_pack_here","_law_size"]
abbrev acg:List PySem.Str:=["_law_sounds_here","_law_size"]
abbrev aeL:List PySem.Str:=["rule","standing","sign","way","changes","left","right","near","held","put"]
namespace jH
open PySem L2 Ev
section
def top(i:Nat):Stmt:=PySem.Challenge.pw_soundrules_k39_whole_neither_way_nor_tak.main.body.getD i (.Pass ⟨0,0,0,0⟩)
def bC:Stmt:=nest (top 27) 2
def bz:Stmt:=nest (top 27) 3
def dw:Stmt:=nest (top 38) 2
def cQ:Stmt:=nest (top 38) 3
def jO:Ev:=iZ 1 3 (iH (aM 0)) (cD 2 (aH (aj 1) (aH (aj 2) cG))) gG (aM 1)
def jD:bU:=bw (aq dI (aa (jO) ak))
def cH:LD:=bW 1 jD
def jR:bU:=bw (aex (dg (aA rm 0 (Zw [114,105,103,104,116]))) (sS (aM 1)) (aM 1))
def gF:LD:=bW 2 jR
def gO:bU:=aB (aQ (aM 0) (cD 4 (aH (aj 1) (aH (aj 2) (aH (aj 3) (aH (aj 4) cG)))))) (bw (bY (Zv 1 (Zv 2 (Zv 4 (Zv 3 ak))))))
def iV:LD:=bW 5 gO
def ju:Ev:=iZ 3 4 (iH (aM 2)) (aj 3) gG (aq iV (Zv 3 ak))
def eQ:bU:=aB (aQ (aM 0) (cD 2 (aH (aj 1) (aH (aj 2) cG)))) (aB (eE (dg (aA rm 1 (Zw [114,105,103,104,116]))) (bw (aq dI (aa (ju) ak))) bV) (bw (aM 2)))
def cR:LD:=bW 3 eQ
def fB:bU:=bw (aP rm (aP fD (aP fD (aA fD 0 (Zi 1)) (Zi 0)) (Zi 0)) (Zw []))
def fj:LD:=bW 1 fB
def kJ:bU:=bw (oG (aA Fy 0 (ji .non)) (aA gIn 1 (bh 0)))
def dF:LD:=bW 2 kJ
def dh:bU:=aB (aQ (aM 0) (cD 4 (aH (aj 3) (aH (aj 4) (aH (aj 5) (aH (aj 6) cG)))))) (aB (aQ (aM 1) (cD 2 (aH (aj 7) (aH (aj 8) cG)))) (aB (aQ (aM 8) (aj 9)) (aB (eE (cW (dg (aM 7)) (dg (aq dF (Zv 6 (Zv 2 ak))))) (aQ (aA dD 8 (aP fD (aA fD 4 (Zi 0)) (Zi 1))) (aj 9)) bV) (bw (bY (aa (bY (aa (aq dF (Zv 5 (Zv 2 ak))) (Zv 2 ak))) (Zv 9 ak)))))))
def dM:LD:=bW 10 dh
def dR:bU:=aB (aQ (aM 0) (cD 4 (aH (aj 3) (aH (aj 4) (aH (aj 5) (aH (aj 6) cG)))))) (aB (aQ (aM 1) (cD 2 (aH (aj 7) (aH (aj 8) cG)))) (aB (eE (dg (aA rm 8 (Zw []))) (bw (bY (aa (bY (Zv 7 (Zv 2 ak))) (aa (Zw []) ak)))) bV) (aB (aQ (aM 8) (aj 9)) (aB (eE (cW (dg (aM 7)) (dg (aq dF (Zv 6 (Zv 2 ak))))) (aQ (FP (aq sO (aa (bh 4) ak)) (aM 8) (aM 8)) (aj 9)) bV) (aB (eE (dg (aA rm 3 (Zw [111,110,99,101]))) (bw (bY (aa (bY (aa (aq dF (Zv 5 (Zv 8 ak))) (Zv 2 ak))) (Zv 9 ak)))) bV) (aB (eE (dg (aA rm 9 (Zw []))) (bw (bY (aa (bY (Zv 7 (Zv 2 ak))) (Zv 9 ak)))) bV) (bw (bY (aa (bY (aa (aq dF (Zv 5 (Zv 9 ak))) (Zv 2 ak))) (Zv 9 ak))))))))))
def dO:LD:=bW 10 dR
def jt:bU:=aB (aQ (aA fD 1 (Zi 1)) (aj 6)) (aB (eE (dg (aq fj (Zv 0 ak))) (aQ (aq dM (Zv 0 (Zv 1 (Zv 5 ak)))) (cD 2 (aH (aj 1) (aH (aj 7) cG)))) (aQ (aq dO (Zv 0 (Zv 1 (Zv 5 ak)))) (cD 2 (aH (aj 1) (aH (aj 7) cG))))) (aB (aQ (oG (aM 4) (aA PQ 7 (bh 6))) (aj 4)) (d7 3 (aM 7))))
def gb:bU:=aB (dq 3 (cC ak)) (aB (aQ (ji (.bl false)) (aj 4)) (aB (gq (iH (aM 2)) (aj 5) (jt)) (bw (bY (Zv 1 (aa (aP m6 (Zw []) (bh 3)) (Zv 4 ak)))))))
def eY:LD:=bW 8 gb
def lg:bU:=aB (aQ (aq eY (Zv 6 (Zv 7 (Zv 3 ak)))) (cD 3 (aH (aj 8) (aH (aj 3) (aH (aj 9) cG))))) (aB (d7 4 (aM 8)) (d7 5 (aM 9)))
def jb:bU:=aB (aQ (aM 2) (aj 3)) (aB (dq 4 (cC ak)) (aB (dq 5 (cC ak)) (aB (gq (Ai (aa (aq cR (Zv 0 ak)) (Zv 1 ak))) (cD 2 (aH (aj 6) (aH (aj 7) cG))) (lg)) (bw (bY (aa (aq dI (aa (bh 4) ak)) (Zv 3 (aa (aq dI (aa (bh 5) ak)) ak))))))))
def dJ:LD:=bW 10 jb
def qW:bU:=aB (aQ (aq eY (Zv 4 (Zv 5 (aa (aA dD 2 (Zw [35])) ak)))) (cD 3 (aH (aj 6) (aH (aj 2) (aH (aj 7) cG))))) (d7 3 (aM 7))
def nR:bU:=aB (aQ (Zw []) (aj 2)) (aB (dq 3 (cC ak)) (aB (gq (Ai (aa (aq cR (Zv 0 ak)) (Zv 1 ak))) (cD 2 (aH (aj 4) (aH (aj 5) cG))) (qW)) (bw (bY (Zv 2 (aa (aq dI (aa (bh 3) ak)) ak))))))
def eG:LD:=bW 8 nR
def pY:bU:=aB (aQ (aM 0) (cD 4 (aH (aj 4) (aH (aj 5) (aH (aj 6) (aH (aj 7) cG)))))) (aB (aQ (aq dJ (Zv 3 (Zv 4 (Zv 1 ak)))) (cD 3 (aH (aj 4) (aH (aj 8) (aH (aj 9) cG))))) (aB (aQ (aq dJ (Zv 2 (Zv 5 (Zv 1 ak)))) (cD 3 (aH (aj 5) (aH (aj 8) (aH (aj 10) cG))))) (bw (bY (Zv 4 (Zv 5 (aa (oG (aM 6) (aA fD 9 (Zi 1))) (aa (oG (aM 7) (aA fD 10 (Zi 0))) ak))))))))
def gW:List D->LD:=runC 2 11 pY
def o5:bU:=aB (aQ (aM 0) (cD 4 (aH (aj 5) (aH (aj 6) (aH (aj 7) (aH (aj 8) cG)))))) (aB (aQ (oG (aM 7) (aP fD (aP fD (aq eG (Zv 2 (Zv 5 ak))) (Zi 1)) (Zi 1))) (aj 9)) (aB (aQ (oG (aM 8) (aP fD (aP fD (aq eG (Zv 1 (Zv 6 ak))) (Zi 1)) (Zi 0))) (aj 10)) (bw (Ng (aA rm 9 (bh 3)) (aA rm 10 (bh 4))))))
def gK:List D->LD:=runC 1 11 o5
def jT:bU:=aB (aQ (aq dJ (Zv 2 (aa (aA fD 0 (Zi 0)) (Zv 1 ak)))) (cD 3 (aH (aj 4) (aH (aj 5) (aH (aj 6) cG))))) (bw (bY (Zv 4 (aa (aA fD 6 (bh 3)) ak))))
def pX:List D->LD:=runC 2 7 jT
def jr:bU:=aB (aQ (aM 0) (cD 2 (aH (aj 3) (aH (aj 4) cG)))) (bw (oG (aM 4) (aP fD (aP fD (aq eG (Zv 1 (Zv 3 ak))) (Zi 1)) (bh 2))))
def oH:List D->LD:=runC 1 5 jr
open Classical in
def Bj(st:Stmt):List D->LD:=if st=bC then gW else if st=bz then gK else if st=dw then pX else if st=cQ then oH else λ_ _=>none
def t7:bU:=aB (aQ (lO Bj 3 (aa (aA fD 5 (bh 8)) (Zv 9 ak))) (aj 10)) (aB (eE (lA (dg (aA Fy 10 (ji .non))) (dg (aA KQ 10 (bh 7)))) ((λenv=>.ct env)) bV) (aB (eE (dg (lO Bj 4 (Zv 10 ak))) (bw (aq gF (Zv 1 (aa (aP dD (aA fD 6 (bh 8)) (bh 9)) ak)))) bV) (aB (ph 7 (aM 10) (ji (.bl true))) (aB (d7 5 (aM 10)) (d7 6 (aP dD (aA fD 6 (bh 8)) (bh 9)))))))
def sX:bU:=aB (gq (iH (aq cH (Zv 0 ak))) (aj 9) (t7)) (Ma 8 (Zi 1))
def cT:bU:=aB (eE (dg (lO Bj 4 (Zv 2 ak))) (bw (Zw [])) bV) (aB (dq 5 (cC (Zv 2 ak))) (aB (dq 6 (cC (aa (Zw []) ak))) (aB (dq 7 (rA (aM 2) (ji (.bl true)))) (aB (aQ (Zi 0) (aj 8)) (aB (fM (dg (aA P0 8 (aq fW (aa (bh 5) ak)))) (sX) 7000) (bw (ji .non)))))))
def il:LD:=bW 11 cT
def jj:Ev:=iZ 1 5 (iH (aq cR (Zv 0 ak))) (cD 4 (aH (aj 1) (aH (aj 2) (aH (aj 3) (aH (aj 4) cG))))) gG (bY (aa (aq dF (Zv 3 (aa (Zw [35]) ak))) (aa (Zw []) ak)))
def fC:bU:=bw (aq dI (aa (jj) ak))
def bf:LD:=bW 1 fC
def jE:bU:=aB (aQ (aq dJ (Zv 0 (Zv 1 (Zv 2 ak)))) (cD 3 (aH (aj 3) (aH (aj 4) (aH (aj 5) cG))))) (bw (bY (Zv 3 (Zv 4 ak))))
def kE:LD:=bW 6 jE
def iw:bU:=aB (aQ (aq kE (Zv 1 (aa (aA fD 2 (aq fW (aa (bh 4) ak))) (Zv 6 ak)))) (cD 2 (aH (aj 7) (aH (aj 8) cG)))) (aB (eE (dg (aA rT 7 (bh 3))) (aB (ph 3 (aM 7) (aq fW (aa (bh 2) ak))) (d7 2 (aM 7))) bV) (d7 5 (bY (Zv 8 (aa (aA Aa 3 (bh 7)) ak)))))
def iu:bU:=aB (dq 5 (cC ak)) (aB (gq (iH (aq cH (Zv 0 ak))) (aj 6) (iw)) (aB (eE (dg (aP gGt (aq fW (aa (bh 2) ak)) (Zi 600))) (yx) bV) (d7 4 (aq dI (aa (bh 5) ak)))))
def pZ:bU:=aB (dq 2 (cC (aa (aq bf (Zv 1 ak)) ak))) (aB (dq 3 (rA (aA fD 2 (Zi 0)) (Zi 0))) (aB (dq 4 (cC ak)) (aB (fM (dg (aP P0 (aq fW (aa (bh 4) ak)) (aq fW (aa (bh 2) ak)))) (iu) 7000) (bw (bY (Zv 2 (Zv 4 ak)))))))
def pN:LD:=bW 9 pZ
def xM:bU:=bw (aq dI (aa (aq z9 (aa (aP fD (aq pN (Zv 0 (Zv 1 ak))) (Zi 0)) ak)) ak))
def nH:LD:=bW 2 xM
def xf:bU:=aB (aQ (bY (Zv 1 (aa (bY (Zv 2 (Zv 3 ak))) ak))) (aj 6)) (aB (aQ (bY (Zv 1 (aa (bY (Zv 3 ak)) ak))) (aj 7)) (qw bC bz [7,6] [7,6,4,5] 8 9 il (aM 0) (aM 1) (bY (aa (aq bf (Zv 6 ak)) (aa (aq bf (Zv 7 ak)) (aa (ji (.bl false)) (aa (ji (.bl false)) ak)))))))
def gC:LD:=bW 10 xf
def Jg:bU:=bw (aq gC (Zv 0 (Zv 1 (Zv 2 (Zv 3 (aa (ji (.bl true)) (aa (ji (.bl false)) ak)))))))
def nJ:LD:=bW 4 Jg
def Gg:bU:=bw (aq gC (Zv 0 (Zv 1 (Zv 2 (Zv 3 (aa (ji (.bl false)) (aa (ji (.bl true)) ak)))))))
def lV:LD:=bW 4 Gg
def oY:bU:=aB (eE (cW (dg (aq dF (Zv 4 (Zv 8 ak)))) (dg (aq dF (Zv 5 (Zv 9 ak))))) (d7 7 (aM 6)) bV) (aB (d7 7 (aM 9)) (aQ (aM 9) (aj 8)))
def gk:bU:=aB (aQ (aM 0) (cD 4 (aH (aj 2) (aH (aj 3) (aH (aj 4) (aH (aj 5) cG)))))) (aB (aQ (aP fD (aA fD 3 (Zi 0)) (Zi 1)) (aj 6)) (aB (dq 7 (cC ak)) (aB (aQ (Zw [35]) (aj 8)) (aB (gq (iH (aA dD 1 (Zw [35]))) (aj 9) (oY)) (bw (aP m6 (Zw []) (wV (aM 7) Aj (Gu (KY Xm (Zi 1))))))))))
def iy:LD:=bW 10 gk
def nD:bU:=aB (aQ (aM 11) (aj 12)) (aB (eE (cW (dg (aA wO 11 (bh 6))) (cW (dg (aq dF (Zv 4 (Zv 9 ak)))) (dg (aq dF (Zv 5 (aa (aA fD 7 (aA dD 10 (Zi 1))) ak)))))) (aQ (aA jZ 6 (bh 11)) (aj 12)) bV) (aB (d7 8 (aM 12)) (eE (dg (aA rm 2 (Zw [111,110,99,101]))) (aQ (aM 11) (aj 9)) (eE (dg (aA PQ 12 (Zw []))) (aQ (aM 12) (aj 9)) bV))))
def fH:bU:=aB (aQ (aM 0) (cD 4 (aH (aj 2) (aH (aj 3) (aH (aj 4) (aH (aj 5) cG)))))) (aB (aQ (aq sO (aa (bh 3) ak)) (aj 6)) (aB (aQ (aA dD 1 (Zw [35])) (aj 7)) (aB (dq 8 (cC ak)) (aB (aQ (Zw [35]) (aj 9)) (aB (gq (K1 (Zv 1 ak)) (cD 2 (aH (aj 10) (aH (aj 11) cG))) (nD)) (bw (aP m6 (Zw []) (bh 8))))))))
def gB:LD:=bW 13 fH
def fc:bU:=aB (eE (dg (aq fj (Zv 0 ak))) (bw (aq iy (Zv 0 (Zv 1 ak)))) bV) (bw (aq gB (Zv 0 (Zv 1 ak))))
def fZ:LD:=bW 2 fc
def iB:bU:=aB (eE (dg (aA rm 0 (Zw [114,105,103,104,116]))) (bw (sS (aq fZ (aa (aq iV (Zv 1 ak)) (aa (sS (aM 2)) ak))))) bV) (bw (aq fZ (Zv 1 (Zv 2 ak))))
def gD:LD:=bW 3 iB
def La:bU:=bw (Ng (KY (T7 "int") (aM 0)) (Y4 (KY (T7 "bool") (aM 0))))
def Ag:LD:=bW 1 La
def Uz:bU:=aB (eE (lA (pP (dg (aq Ag (Zv 2 ak)))) (pP (dg (Nf gLe P0 (Zi 0) (aM 2) (aq fW (aa (aA fD 1 (Zi 1)) ak)))))) (yx) bV) (aB (J4 (aq nH (Zv 0 (Zv 1 ak)))) (qw dw cQ [1,2] [1,2] 3 4 il (aM 0) (aA fD 1 (Zi 0)) (bY (aa (aq bf (Zv 1 ak)) (aa (ji (.bl false)) ak)))))
def KR:LD:=bW 5 Uz
def nW:bU:=bw (aP abL (aA ue 0 (Zi 915965594177219015054603514932384110774149374281672134266497)) (aP KJ (Zi 10) (Zi 60)))
def iY:LD:=bW 1 nW
def BK:bU:=aQ (aP dD (aA ue 2 (aP KJ (Zi 10) (Zi 60))) (aq iY (aa (aP fD (aP dD (wV (aM 0) (Gu (aM 3)) (Gu (aA dD 3 (Zi 1)))) (cC (aa (aP dD (aP ue (Zi 7919) (bh 3)) (Zi 61)) ak))) (Zi 0)) ak))) (aj 2)
def kI:bU:=aB (aQ (Zi 0) (aj 2)) (aB (gq (iH (cC (aa (aA dD 1 (Zi 1)) (Zv 1 ak)))) (aj 3) (BK)) (yW (cC (Zv 2 ak))))
def pO:LD:=runN 4 kI
def m7:bU:=aB (aQ (aq uY (aa (aA fD 0 (Zi 0)) (aa (bh 1) ak))) (cD 2 (aH (Xj 0 (Zi 0)) (aH (aj 2) cG)))) (bw (aM 2))
def bu:List D->Option (D×D):=mV 3 m7
def zQ:Ev:=iZ 7 8 (lz (aa (Zi 5) ak)) (aj 7) (dg (aP rm (aP Fz (aA BV 5 (bh 7)) (Zi 1)) (Zi 1))) (aA fD 2 (bh 7))
def zT:bU:=aB (aQ (fP bu 0 (aa (Zi 32) ak)) (aj 5)) (aB (aQ (aq jg (aa (zQ) ak)) (aj 6)) (d7 3 (bY (Zv 4 (aa (aq dI (aa (wV (aM 6) Aj (Gu (Zi 4))) ak)) ak)))))
def nU:bU:=aB (aQ (aP fD (cC (aa (Zw [97]) (aa (Zw [97,98]) (aa (Zw [97,98]) (aa (Zw [97,98,99]) (aa (Zw [97,101,112,116]) (aa (Zw [109,110,122]) ak))))))) (fP bu 0 (aa (Zi 6) ak))) (aj 1)) (aB (aQ (cC (aa (Zw [115,116,111,112]) (aa (Zw [115,116,111,112,115]) (aa (Zw [115]) (aa (Zw [111,112,101,110]) (aa (Zw [97,98,99,100,101,102,103,104]) ak)))))) (aj 2)) (aB (dq 3 (cC ak)) (aB (gq (iH (aM 1)) (aj 4) (zT)) (bw (aq dI (aa (bh 3) ak))))))
def nM:List D->Option (D×D):=mV 7 nU
def yp:Ev:=jH.jO
def p7:bU:=bw (aP m6 (Zw []) (yp))
def lW:LD:=bW 1 p7
def zR:Ev:=iZ 4 5 (lz (aa (aq fW (aa (bh 3) ak)) ak)) (aj 4) (dg (aP rm (aP Fz (aA BV 2 (bh 4)) (Zi 1)) (Zi 1))) (aA fD 3 (bh 4))
def lB:bU:=aB (eE (dg (aP rm (fP bu 0 (aa (Zi 2) ak)) (Zi 0))) (bw (ji .non)) bV) (aB (aQ (aP dD (Zi 1) (fP bu 0 (aa (aP KH (aP PN (Zi 2) (aq fW (aa (bh 1) ak))) (Zi 1)) ak))) (aj 2)) (aB (aQ (aP dD (Zw [35]) (bh 1)) (aj 3)) (bw (aq dI (aa (zR) ak)))))
def iW:List D->Option (D×D):=mV 4 lB
def wK:Ev:=iZ 6 7 (iH (aP dD (aq Dh (aa (bh 1) ak)) (cC (aa (Zw []) ak)))) (aj 6) (dg (aA PQ 6 (bh 4))) (aM 6)
def wL:bU:=aB (aQ (aA fD 1 (fP bu 0 (aa (aq fW (aa (bh 1) ak)) ak))) (aj 4)) (aB (dq 5 (wK)) (tu 2 (aM 4) (aA fD 5 (fP bu 0 (aa (aq fW (aa (bh 5) ak)) ak)))))
def wJ:Ev:=iZ 6 7 (iH (aq jg (aa (bh 2) ak))) (aj 6) gG (bY (Zv 6 (aa (aA jZ 2 (bh 6)) ak)))
def jq:bU:=aB (eE (dg (aP rm (fP bu 0 (aa (Zi 5) ak)) (Zi 0))) (bw (bY (aa (bY (aa (Zw []) (aa (aA fD 1 (fP bu 0 (aa (aq fW (aa (bh 1) ak)) ak))) ak))) ak))) bV) (aB (dq 2 (FQ)) (aB (gq (lz (aa (aP dD (Zi 1) (fP bu 0 (aa (Zi 3) ak))) ak)) (aj 3) (wL)) (bw (aq dI (aa (wJ) ak)))))
def jo:List D->Option (D×D):=mV 6 jq
def p8:bU:=aB (aQ (aP fD (cC (aa (Zw [111,110,99,101]) (aa (Zw [97,108,111,110,103]) ak))) (fP bu 0 (aa (Zi 2) ak))) (aj 2)) (aB (aQ (fP jo 0 (Zv 1 ak)) (aj 3)) (bw (bY (Zv 2 (Zv 3 (aa (fP iW 0 (Zv 1 ak)) (aa (fP iW 0 (Zv 1 ak)) ak)))))))
def jx:List D->Option (D×D):=mV 4 p8
def mZ:Ev:=iZ 7 8 (iH (aM 0)) (aj 7) gG (aA dD 6 (bh 7))
def jP:bU:=G4 5 (mZ)
def m5:bU:=aB (dq 5 (cC ak)) (aB (gq (iH (aM 3)) (aj 6) (jP)) (aB (aQ (aM 5) (aj 3)) (aQ (aA dD 2 (bh 3)) (aj 2))))
def xN:bU:=aB (aQ (cC (aa (Zw []) ak)) (aj 2)) (aB (aQ (cC (aa (Zw []) ak)) (aj 3)) (aB (gq (lz (Zv 1 ak)) (aj 4) (m5)) (bw (aM 2))))
def jC:LD:=bW 7 xN
def K9:bU:=bw (aP PQ (aq gD (Zv 0 (Zv 1 (Zv 2 ak)))) (bh 2))
def gh:LD:=bW 3 K9
def Jh:bU:=bw (aP Fy (aq KR (Zv 0 (aa (bY (Zv 1 (aa (bY (Zv 2 ak)) ak))) (aa (Zi 0) ak)))) (ji .non))
def fY:LD:=bW 3 Jh
def qX:bU:=aB (aQ (aq gh (Zv 4 (Zv 6 (Zv 9 ak)))) (aj 10)) (aB (aQ (aq gh (Zv 4 (Zv 6 (aa (aq gD (Zv 4 (Zv 5 (Zv 9 ak)))) ak)))) (aj 11)) (eE (lA (cW (dg (aM 10)) (cW (pP (dg (aM 11))) (dg (aA Fy 8 (ji .non))))) (cW (dg (aM 11)) (cW (pP (dg (aM 10))) (dg (aA Fy 7 (ji .non)))))) (bw (ji (.bl false))) bV))
def Za:bU:=aB (dq 1 (aq pO (Zv 0 (aa (Zi 0) ak)))) (aB (aQ (fP nM 1 ak) (aj 2)) (aB (aQ (aq lW (Zv 2 ak)) (aj 3)) (aB (aQ (aP fD (cC (aa (Zw [108,101,102,116]) (aa (Zw [114,105,103,104,116]) ak))) (fP bu 1 (aa (Zi 2) ak))) (aj 4)) (aB (aQ (fP jx 1 (Zv 3 ak)) (aj 5)) (aB (aQ (fP jx 1 (Zv 3 ak)) (aj 6)) (aB (eE (dg (aP rm (fP bu 1 (aa (Zi 4) ak)) (Zi 1))) (aQ (aM 5) (aj 6)) bV) (aB (aQ (aq nJ (Zv 2 (Zv 4 (Zv 5 (Zv 6 ak))))) (aj 7)) (aB (aQ (aq lV (Zv 2 (Zv 4 (Zv 5 (Zv 6 ak))))) (aj 8)) (aB (eE (cW (dg (aq fY (Zv 2 (Zv 4 (Zv 5 ak))))) (lA (dg (aA iU 7 (ji .non))) (dg (aA iU 8 (ji .non))))) (bw (ji (.bl false))) bV) (aB (eE (cW (dg (aq fY (Zv 2 (Zv 4 (Zv 6 ak))))) (lA (dg (aA iU 7 (ji .non))) (dg (aA iU 8 (ji .non))))) (bw (ji (.bl false))) bV) (aB (gq (iH (aq jC (Zv 3 (aa (aP fD (cC (aa (Zi 6) (aa (Zi 6) (aa (Zi 5) (aa (Zi 4) (aa (Zi 3) ak)))))) (aq fW (aa (bh 3) ak))) ak)))) (aj 9) (qX)) (aB (eE (cW (dg (aA iU 7 (ji .non))) (dg (aq gh (Zv 4 (Zv 6 (Zv 7 ak)))))) (bw (ji (.bl false))) bV) (bw (oG (aA Fy 8 (ji .non)) (aq gh (Zv 4 (Zv 6 (Zv 8 ak))))))))))))))))))
def M9:LD:=bW 12 Za
end
open PySem PySem.Spec PyProof.Rows L2 Ev
abbrev qz:Stmt:=top 2
abbrev mR:Stmt:=top 4
abbrev zm:Stmt:=top 12
abbrev lG:Stmt:=top 16
abbrev wu:Stmt:=top 13
abbrev J9:Stmt:=top 11
abbrev jK:Stmt:=top 18
abbrev lH:Stmt:=top 19
abbrev pB:Stmt:=top 20
abbrev tH:Stmt:=top 21
abbrev qx:Stmt:=top 22
abbrev lF:Stmt:=top 5
abbrev j9:Stmt:=top 17
abbrev wk:Stmt:=top 23
abbrev tK:Stmt:=top 24
abbrev qy:Stmt:=top 25
abbrev j7:Stmt:=top 27
abbrev qC:Stmt:=top 28
abbrev pA:Stmt:=top 29
abbrev oh:Stmt:=top 31
abbrev mQ:Stmt:=top 32
abbrev qJ:Stmt:=top 33
abbrev wA:Stmt:=top 34
abbrev tR:Stmt:=top 36
abbrev Ka:Stmt:=top 38
abbrev qI:Stmt:=top 40
abbrev tO:Stmt:=top 41
abbrev tL:Stmt:=top 42
abbrev qF:Stmt:=top 43
abbrev pC:Stmt:=top 44
abbrev qG:Stmt:=top 45
abbrev ou:Stmt:=top 46
abbrev tM:Stmt:=top 47
abbrev qD:Stmt:=top 48
abbrev tQ:Stmt:=top 49
abbrev qH:Stmt:=top 50
abbrev Q8:Stmt:=top 51
abbrev cX:List (Pos×Str):=[(lL bC,"shortest_where.<locals>.lead"),(lL bz,"shortest_where.<locals>.shows")]
theorem oZ:∀q∈cX,q.1.line=(lL bC).line->q.1.col=(lL bC).col->q.2 = "shortest_where.<locals>.lead":=by decide +kernel
theorem oF:∀q∈cX,q.1.line=(lL bz).line->q.1.col=(lL bz).col->q.2 = "shortest_where.<locals>.shows":=by decide +kernel
abbrev nu:List (Pos×Str):=[(lL dw,"acts.<locals>.lead"),(lL cQ,"acts.<locals>.shows")]
theorem BP:∀q∈nu,q.1.line=(lL dw).line->q.1.col=(lL dw).col->q.2 = "acts.<locals>.lead":=by decide +kernel
theorem z8:∀q∈nu,q.1.line=(lL cQ).line->q.1.col=(lL cQ).col->q.2 = "acts.<locals>.shows":=by decide +kernel
def tabs:Lh:=[("shortest_where",cX),("acts",nu)]
theorem vA:(("shortest_where" : Str),cX)∈tabs:=by unfold tabs;simp
theorem uz{K:Fg}:lE K tabs (gU K "shortest_where").2=some (.tab cX):=if_pos rfl
theorem X3:(("acts" : Str),nu)∈tabs:=by unfold tabs;simp
theorem Vw{K:Fg}(h:((gU K "acts").2 == (gU K "shortest_where").2)=false):lE K tabs (gU K "acts").2=some (.tab nu):=(if_neg (Qx6.mp h)).trans (if_pos rfl)
structure Top(K:Fg)(mg:Str->Option Value):Prop where
 W3:mg "bool" = none
 Mv:mg "dict" = none
 Pg:mg "divmod" = none
 Fo:mg "enumerate" = none
 abe:mg "int" = none
 sI:mg "isinstance" = none
 kj:mg "len" = none
 W2:mg "list" = none
 uQ:mg "range" = none
 wH:mg "sorted" = none
 ik:mg "tuple" = none
 S7:mg "zip" = none
 qZ:∀d:D,PySem.W.kitOne K (.type (Vu d)) (.type "bool")=some (uW d "bool")
 uV:∀d:D,PySem.W.kitOne K (.type (Vu d)) (.type "int")=some (uW d "int")
 cZ:Glb K mg "EDGE" (.str [35])
 fV:Glb K mg "MOST_STANDINGS" (.int 600)
 tne:((gU K "acts").2 == (gU K "shortest_where").2)=false
 GF:dH K mg "sounds_of" qz ["stock"]
 yU:dH K mg "as_it_stands" mR ["side","read"]
 QT:dH K mg "turned" zm ["rule"]
 ye:dH K mg "reading_rules" lG ["order"]
 Ob:dH K mg "puts_in" wu ["rule"]
 ZM:dH K mg "fits" J9 ["signs","sign"]
 uA:dH K mg "read_putting_in" jK Zq4
 yf:dH K mg "read_changing" lH Zq4
 DP:dH K mg "read_signs" pB acn
 JQ:dH K mg "watch_on" tH Zq5
 GC:dH K mg "watch_end" qx ["order","standing"]
 yd:dH K mg "shortest_word" lF ack
 vU:dH K mg "first_standing" j9 ["order"]
 Oa:dH K mg "read_on" wk Zq5
 JR:dH K mg "readings" tK Zq3
 GD:dH K mg "standings" qy Zq3
 vR:U9 K mg "shortest_where" j7 acj (gU K "shortest_where").1
 GJ:dH K mg "makes_way" qC Zh
 DN:dH K mg "takes_from" pA Zh
 Bm:dH K mg "with_put_in" oh Vj
 yS:dH K mg "with_changes" mQ Vj
 GZ:dH K mg "from_left" qJ Vj
 Oc:dH K mg "changed" wA Zq6
 JX:dH K mg "is_whole" tR ["thing"]
 ZP:U9 K mg "acts" Ka aci (gU K "acts").1
 GX:dH K mg "_law_mixed" qI ["_law_cell"]
 JV:dH K mg "_law_pack" tO ["_law_script","_law_k"]
 JS:dH K mg "_law_take" tL ach
 GP:dH K mg "_law_stock" qF ["_law_pack_here"]
 DQ:dH K mg "_law_sounds" pC Zq7
 GQ:dH K mg "_law_signs" qG Yb
 Bo:dH K mg "_law_changes" ou Yb
 JT:dH K mg "_law_rule" tM Yb
 GK:dH K mg "_law_words" qD acg
 JW:dH K mg "_law_acts" tQ Zq8
 GR:dH K mg "_law_never" qH Zq9
section
variable{P:Program}{w:World}{K:Fg}{mg:Str->Option Value}{base:Heap}(Z:Top K mg)(BB:∀y∈tabs,BZ base mg (gU K y.1).1 (gU K y.1).2)
theorem Eh:bF ["stock"] ["stock"] (aK qz):=iC
include Z in
theorem xx:Own P w K mg base "sounds_of" 1 ["stock"] (lC K 1 cH):=by exact cL (k:=0) Z.GF Eh (λf cdv A outer s H E hr G=>(eV.u (aG (aX (gY G Z.ik (bJ (bj (fJ (xD ["stock","sound","marks"] 1 pU G (jw G (aZ 0)) (λX1 h1=>by have G:=G.at h1;obtain⟨_,_,_,_,_,rfl⟩:=h1;exact(dY G (aD (aN 1) (aD (aN 2) bQ)))) (λX1 h1=>by have G:=G.at h1;obtain⟨_,_,_,_,_,rfl⟩:=h1;exact mq) (λX1 h1=>by have G:=G.at h1;obtain⟨_,_,_,_,_,rfl⟩:=h1;exact(aZ 1)))))))))))
theorem yj:bF ["side","read"] ["side","read"] (aK mR):=iC
include Z in
theorem zK:Own P w K mg base "as_it_stands" 1 ["side","read"] (lC K 2 gF):=by exact cL (k:=0) Z.yU yj (λf cdv A outer s H E hr G=>(eV.u (aG (aX (aag (d8 0 (um G) (bj (bT [114,105,103,104,116]))) (JC (aZ 1)) (aZ 1))))))
theorem Oj:bF ["rule","way","changes","left","right"] ["rule"] (aK zm):=iC
include Z in
theorem Hv:Own P w K mg base "turned" 1 ["rule"] (lC K 1 iV):=by
 exact cL (k:=0) Z.QT Oj (λf cdv A outer s H E hr G=>(eV.u (ao (du (aZ 0) (dY G (aD (aN 1) (aD (aN 2) (aD (aN 3) (aD (aN 4) bQ))))))
   (aG (aX (cA (cB 1 (cB 2 (cB 4 (cB 3 au))))))))))
theorem wg:bF ["order","side","rules"] ["order"] (aK lG):=iC
include Z in
theorem lK:Own P w K mg base "reading_rules" 2 ["order"] (lC K 1 cR):=by
 exact cL (k:=1) Z.ye wg (λf cdv A outer s H E hr G=>(eV.u (ao (du (aZ 0) (dY G (aD (aN 1) (aD (aN 2) bQ))))
   (ao (cY (d8 1 (um G) (bj (bT [114,105,103,104,116]))) (aG (aX (gY G Z.ik (bJ (bj (fJ (xD ["order","side","rules","rule"] 3 pU G (jw G (aZ 2)) (λX1 h1=>by have G:=G.at h1;obtain⟨_,_,_,_,_,rfl⟩:=h1;exact(aN 3)) (λX1 h1=>by have G:=G.at h1;obtain⟨_,_,_,_,_,rfl⟩:=h1;exact mq) (λX1 h1=>by have G:=G.at h1;obtain⟨_,_,_,_,_,rfl⟩:=h1;exact(bM (Hv Z) G hr (cB 3 au) (aY len0)))))))))) bZ)
   (aG (aX (aZ 2)))))))
theorem J7:bF ["rule"] ["rule"] (aK wu):=iC
include Z in
theorem CW:Own P w K mg base "puts_in" 1 ["rule"] (lC K 1 fj):=by exact cL (k:=0) Z.Ob J7 (λf cdv A outer s H E hr G=>(eV.u (aG (aX (JD (um G) (lN G (lN G (fL 0 G (bj aV)) (bj aV)) (bj aV)) (bj (bT [])))))))
theorem VL:bF ["signs","sign"] ["signs","sign"] (aK J9):=iC
include Z in
theorem oA:Own P w K mg base "fits" 1 ["signs","sign"] (lC K 2 dF):=by exact cL (k:=0) Z.ZM VL (λf cdv A outer s H E hr G=>(eV.u (aG (aX (qM (rJ 0 Qj (bj je)) (kW (rJ 1 (agC G) (cJ 0))))))))
theorem tD:bF aeL Zq4 (aK jK):=iC
include Z in
theorem uP:Own P w K mg base "read_putting_in" 2 Zq4 (lC K 3 dM):=by
 exact cL (k:=1) Z.uA tD (λf cdv A outer s H E hr G=>(eV.u (ao (du (aZ 0) (dY G (aD (aN 3) (aD (aN 4) (aD (aN 5) (aD (aN 6) bQ))))))
   (ao (du (aZ 1) (dY G (aD (aN 7) (aD (aN 8) bQ))))
   (ao (bN 9 (aZ 8))
   (ao (cY (iG (ig (dC (aZ 7)) (jd (dC (bM (oA Z) G hr (cB 6 (cB 2 au)) (aY (aY len0))))))) (aG (bN 9 (jc 8 (j0 G) (bj (lN G (fL 4 G (bj aV)) (bj aV)))))) bZ)
   (aG (aX (cA (aC (cA (aC (bM (oA Z) G hr (cB 5 (cB 2 au)) (aY (aY len0))) (cB 2 au))) (cB 9 au)))))))))))
theorem wj:bF aeL Zq4 (aK lH):=iC
include Z in
theorem ym:Own P w K mg base "read_changing" 2 Zq4 (lC K 3 dO):=by
 exact cL (k:=1) Z.yf wj (λf cdv A outer s H E hr G=>(eV.u (ao (du (aZ 0) (dY G (aD (aN 3) (aD (aN 4) (aD (aN 5) (aD (aN 6) bQ))))))
   (ao (du (aZ 1) (dY G (aD (aN 7) (aD (aN 8) bQ))))
   (ao (cY (d8 8 (um G) (bj (bT []))) (aG (aX (cA (aC (cA (cB 7 (cB 2 au))) (aC (bT []) au))))) bZ)
   (ao (bN 9 (aZ 8))
   (ao (cY (iG (ig (dC (aZ 7)) (jd (dC (bM (oA Z) G hr (cB 6 (cB 2 au)) (aY (aY len0))))))) (aG (bN 9 (Vp G (Lw G Z.Mv (bJ (cJ 4))) (aZ 8) (aZ 8)))) bZ)
   (ao (cY (d8 3 (um G) (bj (bT [111,110,99,101]))) (aG (aX (cA (aC (cA (aC (bM (oA Z) G hr (cB 5 (cB 8 au)) (aY (aY len0))) (cB 2 au))) (cB 9 au))))) bZ)
   (ao (cY (d8 9 (um G) (bj (bT []))) (aG (aX (cA (aC (cA (cB 7 (cB 2 au))) (cB 9 au))))) bZ)
   (aG (aX (cA (aC (cA (aC (bM (oA Z) G hr (cB 5 (cB 9 au)) (aY (aY len0))) (cB 2 au))) (cB 9 au))))))))))))))
theorem Bs:bF ["rule","standing","signs","puts","acting","sign","held","put"] acn (aK pB):=iC
include Z in
theorem uO:Own P w K mg base "read_signs" 3 acn (lC K 3 eY):=by
 exact cL (k:=2) Z.DP Bs (λf cdv A outer s H E hr G=>(eV.u (ao (iM 3 (cO au))
   (ao (bN 4 jL)
   (ao (j8 G (jw G (aZ 2)) (aN 5) (ao (bN 6 (fL 1 G (bj aV)))
   (ao (cY (dC (bM (CW Z) G hr (cB 0 au) (aY len0))) (aG (du (bM (uP Z) G hr (cB 0 (cB 1 (cB 5 au))) (aY (aY (aY len0)))) (dY G (aD (aN 1) (aD (aN 7) bQ))))) (aG (du (bM (ym Z) G hr (cB 0 (cB 1 (cB 5 au))) (aY (aY (aY len0)))) (dY G (aD (aN 1) (aD (aN 7) bQ))))))
   (ao (bN 4 (qM (aZ 4) (kW (rJ 7 (XR G) (cJ 6)))))
   (aG (kh 3 G (aZ 7)))))))
   (aG (aX (cA (cB 1 (aC (yt G (bT []) (cJ 3)) (cB 4 au)))))))))))
theorem G7:bF ["order","standing","sound","put","behind","acting","rule","own","new","acts_here"] Zq5 (aK tH):=iC
include Z in
theorem pG:Own P w K mg base "watch_on" 4 Zq5 (lC K 3 dJ):=by
 exact cL (k:=3) Z.JQ G7 (λf cdv A outer s H E hr G=>(eV.u (ao (bN 3 (aZ 2))
   (ao (iM 4 (cO au))
   (ao (iM 5 (cO au))
   (ao (j8 G (TY G Z.S7 (aC (bM (lK Z) G hr (cB 0 au) (aY len0)) (cB 1 au))) (dY G (aD (aN 6) (aD (aN 7) bQ))) (ao (du (bM (uO Z) G hr (cB 6 (cB 7 (cB 3 au))) (aY (aY (aY len0)))) (dY G (aD (aN 8) (aD (aN 3) (aD (aN 9) bQ)))))
   (ao (kh 4 G (aZ 8))
   (aG (kh 5 G (aZ 9))))))
   (aG (aX (cA (aC (gY G Z.ik (bJ (cJ 4))) (cB 3 (aC (gY G Z.ik (bJ (cJ 5))) au))))))))))))
theorem Ef:bF ["order","standing","put","acting","rule","own","new","acts_here"] ["order","standing"] (aK qx):=iC
include Z in
theorem qO:Own P w K mg base "watch_end" 4 ["order","standing"] (lC K 2 eG):=by
 obtain⟨JH,JK,cZ⟩:=Z.cZ;exact cL (k:=3) Z.GC Ef (λf cdv A outer s H E hr G=>(eV.u (ao (bN 2 (bT []))
   (ao (iM 3 (cO au))
   (ao (j8 G (TY G Z.S7 (aC (bM (lK Z) G hr (cB 0 au) (aY len0)) (cB 1 au))) (dY G (aD (aN 4) (aD (aN 5) bQ))) (ao (du (bM (uO Z) G hr (cB 4 (cB 5 (aC (jc 2 (j0 G) (bj (mW (.str [35]) rfl cZ.1 cZ.2.1 (λF=>cZ.2.2 F)))) au))) (aY (aY (aY len0)))) (dY G (aD (aN 6) (aD (aN 2) (aD (aN 7) bQ)))))
   (aG (kh 3 G (aZ 7)))))
   (aG (aX (cA (cB 2 (aC (gY G Z.ik (bJ (cJ 3))) au))))))))))
theorem oR:jF ["row","sound","itself","both","standing","own","so_far","own_so_far","put","acting","own_acting"] ["row","sound"] (freeOf bC) (aK bC):=Fl
include Z in
theorem pI:rH P w K mg base 5 bC gW:=by
 exact FW (k:=4) oR rfl (λus hl=>match us,hl with|[_,_],_=>rfl) (λq f cdv cl A outer s H E hr G=>(eV.u (ao (du (aZ 0) (dY G (aD (aN 4) (aD (aN 5) (aD (aN 6) (aD (aN 7) bQ))))))
   (ao (du (bM (pG Z) G hr (cB 3 (cB 4 (cB 1 au))) (aY (aY (aY len0)))) (dY G (aD (aN 4) (aD (aN 8) (aD (aN 9) bQ)))))
   (ao (du (bM (pG Z) G hr (cB 2 (cB 5 (cB 1 au))) (aY (aY (aY len0)))) (dY G (aD (aN 5) (aD (aN 8) (aD (aN 10) bQ)))))
   (aG (aX (cA (cB 4 (cB 5 (aC (qM (aZ 6) (kW (fL 9 G (bj aV)))) (aC (qM (aZ 7) (kW (fL 10 G (bj aV)))) au))))))))))))
theorem n6:jF ["row","itself","both","behind","alone","standing","own","so_far","own_so_far","at_end","own_at_end"] ["row"] (freeOf bz) (aK bz):=Fl
include Z in
theorem oX:rH P w K mg base 5 bz gK:=by
 exact FW (k:=4) n6 rfl (λus hl=>match us,hl with|[_],_=>rfl) (λq f cdv cl A outer s H E hr G=>(eV.u (ao (du (aZ 0) (dY G (aD (aN 5) (aD (aN 6) (aD (aN 7) (aD (aN 8) bQ))))))
   (ao (bN 9 (qM (aZ 7) (kW (lN G (lN G (bM (qO Z) G hr (cB 2 (cB 5 au)) (aY (aY len0))) (bj aV)) (bj aV)))))
   (ao (bN 10 (qM (aZ 8) (kW (lN G (lN G (bM (qO Z) G hr (cB 1 (cB 6 au)) (aY (aY len0))) (bj aV)) (bj aV)))))
   (aG (aX (Ml (rJ 9 (um G) (cJ 3)) (kW (rJ 10 (um G) (cJ 4)))))))))))
theorem Bp:jF ["place","sound","order","number","standing","put","acting"] ["place","sound"] (freeOf dw) (aK dw):=Fl
include Z in
theorem Fq:rH P w K mg base 5 dw pX:=by
 exact FW (k:=4) Bp rfl (λus hl=>match us,hl with|[_,_],_=>rfl) (λq f cdv cl A outer s H E hr G=>(eV.u (ao (du (bM (pG Z) G hr (cB 2 (aC (fL 0 G (bj aV)) (cB 1 au))) (aY (aY (aY len0)))) (dY G (aD (aN 4) (aD (aN 5) (aD (aN 6) bQ)))))
   (aG (aX (cA (cB 4 (aC (fL 6 G (cJ 3)) au))))))))
theorem yZ:jF ["place","order","number","standing","acting_so_far"] ["place"] (freeOf cQ) (aK cQ):=Fl
include Z in
theorem By:rH P w K mg base 5 cQ oH:=by
 exact FW (k:=4) yZ rfl (λus hl=>match us,hl with|[_],_=>rfl) (λq f cdv cl A outer s H E hr G=>(eV.u (ao (du (aZ 0) (dY G (aD (aN 3) (aD (aN 4) bQ))))
   (aG (aX (qM (aZ 4) (kW (lN G (lN G (bM (qO Z) G hr (cB 1 (cB 3 au)) (aY (aY len0))) (bj aV)) (cJ 2)))))))))
include Z in
theorem Ko:∀st lM ds d,Bj st lM ds=some d->rH P w K mg base 5 st (Bj st):=by
 intro st lM ds d e;by_cases h0:st=bC
 ·have z:Bj st=gW:=by unfold Bj;rw[if_pos h0]
  rw[z,h0];exact(pI Z).mono (by decide)
 ·
  by_cases h1:st=bz
  ·have z:Bj st=gK:=by unfold Bj;rw[if_neg h0,if_pos h1]
   rw[z,h1];exact(oX Z).mono (by decide)
  ·
   by_cases h2:st=dw
   ·have z:Bj st=pX:=by unfold Bj;rw[if_neg h0,if_neg h1,if_pos h2]
    rw[z,h2];exact(Fq Z).mono (by decide)
   ·
    by_cases h3:st=cQ
    ·have z:Bj st=oH:=by unfold Bj;rw[if_neg h0,if_neg h1,if_neg h2,if_pos h3]
     rw[z,h3];exact(By Z).mono (by decide)
    ·unfold Bj at e;rw[if_neg h0,if_neg h1,if_neg h2,if_neg h3] at e;cases e
theorem vZ:bF ["stock","side","first","lead","shows","places","words","known","at","sound","place"] ack (aK lF):=iC
include Z in
theorem qe:Own P w K mg base "shortest_word" 6 ack (lC K 5 il):=by
 exact cL (k:=5) Z.yd vZ (λf cdv A outer s H E hr G=>(eV.u (ao (cY (dC (JF 4 (Ko Z) G hr (by rfl) (cB 2 au))) (aG (aX (bT []))) bZ)
   (ao (iM 5 (cO (cB 2 au)))
   (ao (iM 6 (cO (aC (bT []) au)))
   (ao (iM 7 (CK G (aZ 2) jL))
   (ao (bN 8 aV)
   (ao (Hj 7000 G (d8 8 ab6 (bj (j6 G Z.kj (bJ (cJ 5))))) (ao (j8 G (jw G (bM (xx Z) G hr (cB 0 au) (aY len0))) (aN 9) (ao (bN 10 (JF 3 (Ko Z) G hr (by rfl) (aC (fL 5 G (cJ 8)) (cB 9 au))))
   (ao (cY (iG (uK (d8 10 Qj (bj je)) (qL (d8 10 (aeG G) (cJ 7))))) (aG Bu) bZ)
   (ao (cY (dC (JF 4 (Ko Z) G hr (by rfl) (cB 10 au))) (aG (aX (bM (zK Z) G hr (cB 1 (aC (iJ (j0 G) (fL 6 G (cJ 8)) (cJ 9)) au)) (aY (aY len0))))) bZ)
   (ao (Hk 7 G (aZ 10) jL)
   (ao (kh 5 G (aZ 10))
   (aG (kh 6 G (iJ (j0 G) (fL 6 G (cJ 8)) (cJ 9))))))))))
   (aG (Z4 8 aV))))
   (aG (aX je))))))))))
theorem uF:bF ["order"] ["order"] (aK j9):=iC
include Z in
theorem jf:Own P w K mg base "first_standing" 3 ["order"] (lC K 1 bf):=by obtain⟨JH,JK,cZ⟩:=Z.cZ;exact cL (k:=2) Z.vU uF (λf cdv A outer s H E hr G=>(eV.u (aG (aX (gY G Z.ik (bJ (bj (fJ (xD ["order","way","changes","left","right"] 1 pU G (jw G (bM (lK Z) G hr (cB 0 au) (aY len0))) (λX1 h1=>by have G:=G.at h1;obtain⟨_,_,_,_,_,rfl⟩:=h1;exact(dY G (aD (aN 1) (aD (aN 2) (aD (aN 3) (aD (aN 4) bQ)))))) (λX1 h1=>by have G:=G.at h1;obtain⟨_,_,_,_,_,rfl⟩:=h1;exact mq) (λX1 h1=>by have G:=G.at h1;obtain⟨_,_,_,_,_,rfl⟩:=h1;exact(cA (aC (bM (oA Z) G hr (cB 3 (aC (mW (.str [35]) rfl cZ.1 cZ.2.1 (λF=>cZ.2.2 F)) au)) (aY (aY len0))) (aC (bT []) au)))))))))))))
theorem J6:bF ["order","standing","sound","behind","put","acting"] Zq5 (aK wk):=iC
include Z in
theorem Pb:Own P w K mg base "read_on" 5 Zq5 (lC K 3 kE):=by
 exact cL (k:=4) Z.Oa J6 (λf cdv A outer s H E hr G=>(eV.u (ao (du (bM (pG Z) G hr (cB 0 (cB 1 (cB 2 au))) (aY (aY (aY len0)))) (dY G (aD (aN 3) (aD (aN 4) (aD (aN 5) bQ)))))
   (aG (aX (cA (cB 3 (cB 4 au))))))))
theorem G8:bF ["stock","order","found","places","rows","steps","sound","behind","put"] Zq3 (aK tK):=iC
include Z in
theorem Kq:Own P w K mg base "readings" 6 Zq3 (lC K 2 pN):=by
 obtain⟨NT,NZ,fV⟩:=Z.fV;exact cL (k:=5) Z.JR G8 (λf cdv A outer s H E hr G=>(eV.u (ao (iM 2 (cO (aC (bM (jf Z) G hr (cB 1 au) (aY len0)) au)))
   (ao (iM 3 (CK G (fL 2 G (bj aV)) aV))
   (ao (iM 4 (cO au))
   (ao (Hj 7000 G (sZ ab6 (j6 G Z.kj (bJ (cJ 4))) (bj (j6 G Z.kj (bJ (cJ 2))))) (ao (iM 5 (cO au))
   (ao (j8 G (jw G (bM (xx Z) G hr (cB 0 au) (aY len0))) (aN 6) (ao (du (bM (Pb Z) G hr (cB 1 (aC (fL 2 G (bj (j6 G Z.kj (bJ (cJ 4))))) (cB 6 au))) (aY (aY (aY len0)))) (dY G (aD (aN 7) (aD (aN 8) bQ))))
   (ao (cY (d8 7 (Uw G) (cJ 3)) (ao (Hk 3 G (aZ 7) (j6 G Z.kj (bJ (cJ 2))))
   (aG (kh 2 G (aZ 7)))) bZ)
   (aG (kh 5 G (cA (cB 8 (aC (QD 3 G (cJ 7)) au))))))))
   (ao (cY (sZ agD (j6 G Z.kj (bJ (cJ 2))) (bj (mW (.int 600) rfl fV.1 fV.2.1 (λF=>fV.2.2 F)))) (aG zz) bZ)
   (aG (kh 4 G (gY G Z.ik (bJ (cJ 5)))))))))
   (aG (aX (cA (cB 2 (cB 4 au)))))))))))
theorem Eg:bF Zq3 Zq3 (aK qy):=iC
include Z in
theorem Hw:Own P w K mg base "standings" 7 Zq3 (lC K 2 nH):=by exact cL (k:=6) Z.GD Eg (λf cdv A outer s H E hr G=>(eV.u (aG (aX (gY G Z.ik (bJ (bj (QB G Z.wH (bJ (bj (lN G (bM (Kq Z) G hr (cB 0 (cB 1 au)) (aY (aY len0))) (bj aV))))))))))))
theorem uE:bF ["stock","side","rule","other","behind","alone","both","itself","lead","shows"] acj (aK j7):=iC
include Z BB in
theorem oV:Own P w K mg base "shortest_where" 7 acj (spT (lE K tabs) (lC K 6 gC)):=by
 exact CV (k:=6) Z.vR uE (λf A outer s H E hT hr G=>(eV.u (ao (bN 6 (cA (cB 1 (aC (cA (cB 2 (cB 3 au))) au))))
   (ao (bN 7 (cA (cB 1 (aC (cA (cB 3 au)) au))))
   (Nj (qs:=cX) (c0:=(gU K "shortest_where").1) (P:=(gU K "shortest_where").2) G (BB _ vA) rfl (hT _ _ uz) (Ni rfl Qqj oZ) (Ni rfl (Qqq _ Qqj) oF) (qe Z) hr (by rfl) (aZ 0) (aZ 1) (cA (aC (bM (jf Z) G hr (cB 6 au) (aY len0)) (aC (bM (jf Z) G hr (cB 7 au) (aY len0)) (aC jL (aC jL au))))))))))
theorem Ei:bF Zh Zh (aK qC):=iC
include Z BB in
theorem Hx:Own P w K mg base "makes_way" 8 Zh (spT (lE K tabs) (lC K 4 nJ)):=by exact wG (k:=7) Z.GJ Ei (λf cdv A outer s H E hT hr G=>(eV.u (aG (aX (pg (oV Z BB) hT (jA K tabs) G hr (cB 0 (cB 1 (cB 2 (cB 3 (aC jL (aC jL au)))))) (aY (aY (aY (aY (aY (aY len0)))))))))))
theorem Br:bF Zh Zh (aK pA):=iC
include Z BB in
theorem Fe:Own P w K mg base "takes_from" 8 Zh (spT (lE K tabs) (lC K 4 lV)):=by exact wG (k:=7) Z.DN Br (λf cdv A outer s H E hT hr G=>(eV.u (aG (aX (pg (oV Z BB) hT (jA K tabs) G hr (cB 0 (cB 1 (cB 2 (cB 3 (aC jL (aC jL au)))))) (aY (aY (aY (aY (aY (aY len0)))))))))))
theorem zg:bF ["rule","word","way","changes","left","right","new","made_of","ahead","sign"] Vj (aK oh):=iC
include Z in
theorem Bv:Own P w K mg base "with_put_in" 2 Vj (lC K 2 iy):=by
 obtain⟨JH,JK,cZ⟩:=Z.cZ;exact cL (k:=1) Z.Bm zg (λf cdv A outer s H E hr G=>(eV.u (ao (du (aZ 0) (dY G (aD (aN 2) (aD (aN 3) (aD (aN 4) (aD (aN 5) bQ))))))
   (ao (bN 6 (lN G (fL 3 G (bj aV)) (bj aV)))
   (ao (iM 7 (cO au))
   (ao (bN 8 (mW (.str [35]) rfl cZ.1 cZ.2.1 (λF=>cZ.2.2 F)))
   (ao (j8 G (jw G (jc 1 (j0 G) (bj (mW (.str [35]) rfl cZ.1 cZ.2.1 (λF=>cZ.2.2 F))))) (aN 9) (ao (cY (iG (ig (dC (bM (oA Z) G hr (cB 4 (cB 8 au)) (aY (aY len0)))) (jd (dC (bM (oA Z) G hr (cB 5 (cB 9 au)) (aY (aY len0))))))) (aG (kh 7 G (aZ 6))) bZ)
   (ao (kh 7 G (aZ 9))
   (aG (bN 8 (aZ 9))))))
   (aG (aX (yt G (bT []) (bj (QC G (aZ 7) CJ (rP (Zy aV))))))))))))))
theorem yh:bF ["rule","word","way","changes","left","right","becomes","signs","made_of","ahead","at","sound","new"] Vj (aK mQ):=iC
include Z in
theorem zH:Own P w K mg base "with_changes" 2 Vj (lC K 2 gB):=by
 obtain⟨JH,JK,cZ⟩:=Z.cZ;exact cL (k:=1) Z.yS yh (λf cdv A outer s H E hr G=>(eV.u (ao (du (aZ 0) (dY G (aD (aN 2) (aD (aN 3) (aD (aN 4) (aD (aN 5) bQ))))))
   (ao (bN 6 (Lw G Z.Mv (bJ (cJ 3))))
   (ao (bN 7 (jc 1 (j0 G) (bj (mW (.str [35]) rfl cZ.1 cZ.2.1 (λF=>cZ.2.2 F)))))
   (ao (iM 8 (cO au))
   (ao (bN 9 (mW (.str [35]) rfl cZ.1 cZ.2.1 (λF=>cZ.2.2 F)))
   (ao (j8 G (Xi Z.Fo (cB 1 au)) (dY G (aD (aN 10) (aD (aN 11) bQ))) (ao (bN 12 (aZ 11))
   (ao (cY (iG (ig (d8 11 (XX G) (cJ 6)) (ig (dC (bM (oA Z) G hr (cB 4 (cB 9 au)) (aY (aY len0)))) (jd (dC (bM (oA Z) G hr (cB 5 (aC (fL 7 G (bj (jc 10 (j0 G) (bj aV)))) au)) (aY (aY len0)))))))) (aG (bN 12 (Gx 6 G (cJ 11)))) bZ)
   (ao (kh 8 G (aZ 12))
   (aG (cY (d8 2 (um G) (bj (bT [111,110,99,101]))) (aG (bN 9 (aZ 11))) (aG (cY (d8 12 (XR G) (bj (bT []))) (aG (bN 9 (aZ 12))) bZ))))))))
   (aG (aX (yt G (bT []) (cJ 8))))))))))))
theorem Ep:bF Vj Vj (aK qJ):=iC
include Z in
theorem xC:Own P w K mg base "from_left" 3 Vj (lC K 2 fZ):=by
 exact cL (k:=2) Z.GZ Ep (λf cdv A outer s H E hr G=>(eV.u (ao (cY (dC (bM (CW Z) G hr (cB 0 au) (aY len0))) (aG (aX (bM (Bv Z) G hr (cB 0 (cB 1 au)) (aY (aY len0))))) bZ)
   (aG (aX (bM (zH Z) G hr (cB 0 (cB 1 au)) (aY (aY len0))))))))
theorem J8:bF Zq6 Zq6 (aK wA):=iC
include Z in
theorem CZ:Own P w K mg base "changed" 4 Zq6 (lC K 3 gD):=by
 exact cL (k:=3) Z.Oc J8 (λf cdv A outer s H E hr G=>(eV.u (ao (cY (d8 0 (um G) (bj (bT [114,105,103,104,116]))) (aG (aX (JC (bM (xC Z) G hr (aC (bM (Hv Z) G hr (cB 1 au) (aY len0)) (aC (JC (aZ 2)) au)) (aY (aY len0)))))) bZ)
   (aG (aX (bM (xC Z) G hr (cB 1 (cB 2 au)) (aY (aY len0))))))))
theorem Hh:bF ["thing"] ["thing"] (aK tR):=iC
include Z in
theorem Ks:Own P w K mg base "is_whole" 1 ["thing"] (lC K 1 Ag):=by exact cL (k:=0) Z.JX Hh (λf cdv A outer s H E hr G=>(eV.u (aG (aX (Ml (Mj (T:="int") rfl Z.sI rfl Z.abe (by decide +kernel) Z.uV G.K (aZ 0)) (kW (Wh (Mj (T:="bool") rfl Z.sI rfl Z.W3 (by decide +kernel) Z.qZ G.K (aZ 0)))))))))
theorem VM:bF ["stock","order","number","lead","shows"] aci (aK Ka):=iC
include Z BB in
theorem aba:Own P w K mg base "acts" 8 aci (spT (lE K tabs) (lC K 3 KR)):=by
 exact CV (k:=7) Z.ZP VM (λf A outer s H E hT hr G=>(eV.u (ao (cY (iG (uK (uL (dC (bM (Ks Z) G hr (cB 2 au) (aY len0)))) (qL (uL (QV agB ab6 aV (aZ 2) (j6 G Z.kj (bJ (bj (fL 1 G (bj aV)))))))))) (aG zz) bZ)
   (ao (Ot (bM (Hw Z) G hr (cB 0 (cB 1 au)) (aY (aY len0))))
   (Nj (qs:=nu) (c0:=(gU K "acts").1) (P:=(gU K "acts").2) G (BB _ X3) rfl (hT _ _ (Vw Z.tne)) (Ni rfl Qqj BP) (Ni rfl (Qqq _ Qqj) z8) (qe Z) hr (by rfl) (aZ 0) (fL 1 G (bj aV)) (cA (aC (bM (jf Z) G hr (cB 1 au) (aY len0)) (aC jL au))))))))
theorem Eo:bF ["_law_cell"] ["_law_cell"] (aK qI):=iC
include Z in
theorem HD:Own P w K mg base "_law_mixed" 1 ["_law_cell"] (lC K 1 iY):=by exact cL (k:=0) Z.GX Eo (λf cdv A outer s H E hr G=>(eV.u (aG (aX (iJ aeK (jc 0 Uy (bj aV)) (bj (iJ Y9 aV (bj aV))))))))
theorem Hf:bF ["_law_script","_law_k","_law_found","_law_at"] ["_law_script","_law_k"] (aK tO):=iC
include Z in
theorem Kr:Own P w K mg base "_law_pack" 2 ["_law_script","_law_k"] (ZX K 2 pO):=by
 exact Wz (k:=1) Z.JV Hf (λf cdv A outer s H E hr G=>(eV.u (ao (bN 2 aV)
   (ao (j8 G (jw G (fJ (cO (aC (jc 1 (j0 G) (bj aV)) (cB 1 au))))) (aN 3) (aG (bN 2 (iJ (j0 G) (jc 2 Uy (bj (iJ Y9 aV (bj aV)))) (bj (bM (HD Z) G hr (aC (lN G (iJ (j0 G) (QC G (aZ 0) (rP (aZ 3)) (rP (jc 3 (j0 G) (bj aV)))) (bj (fJ (cO (aC (iJ (j0 G) (iJ Uy aV (cJ 3)) (bj aV)) au))))) (bj aV)) au) (aY len0)))))))
   (aG (Hn (cO (cB 2 au))))))))
theorem G9:bF ["_law_pack_here","_law_size","_law_digit"] ach (aK tL):=iC
include Z in
theorem eO:Own P w K mg base "_law_take" 1 ach (yX K 2 bu):=by
 exact zF (k:=0) Z.JS G9 (λf cdv A outer s H E a hr G=>(eV.u (ao (du (NB G Z.Pg (Kh (fL 0 G (bj aV)) (bJ (cJ 1)))) (dY G (aD (aeq 0 aV) (aD (aN 2) bQ))))
   (aG (aX (aZ 2))))))
theorem Ek:bF ["_law_pack_here","_law_sounds_here","_law_known","_law_found","_law_sound","_law_number","_law_marks"] ["_law_pack_here"] (aK qF):=iC
include Z in
theorem HB:Own P w K mg base "_law_stock" 2 ["_law_pack_here"] (yX K 1 nM):=by
 exact zF (k:=1) Z.GP Ek (λf cdv A outer s H E a hr G=>(eV.u (ao (bN 1 (lN G (fJ (W4 (lZ (bT [97]) (lZ (bT [97,98]) (lZ (bT [97,98]) (lZ (bT [97,98,99]) (lZ (bT [97,101,112,116]) (lZ (bT [109,110,122]) RB)))))))) (bj (jX 0 (eO Z) G hr (aC aV au) (jY (aY len0))))))
   (ao (bN 2 (fJ (cO (aC (bT [115,116,111,112]) (aC (bT [115,116,111,112,115]) (aC (bT [115]) (aC (bT [111,112,101,110]) (aC (bT [97,98,99,100,101,102,103,104]) au))))))))
   (ao (iM 3 (cO au))
   (ao (j8 G (jw G (aZ 1)) (aN 4) (ao (bN 5 (jX 0 (eO Z) G hr (aC aV au) (jY (aY len0))))
   (ao (bN 6 (Cg G Z.wH (bJ (bj (fJ (xD ["_law_pack_here","_law_sounds_here","_law_known","_law_found","_law_sound","_law_number","_law_marks","_law_k"] 7 pU G (yK Z.uQ (aC aV au) (aY len0)) (λX1 h1=>by have G:=G.at h1;obtain⟨_,_,_,_,_,rfl⟩:=h1;exact(aN 7)) (λX1 h1=>by have G:=G.at h1;obtain⟨_,_,_,_,_,rfl⟩:=h1;exact(wD (sZ (um G) (iJ Zc (jc 5 Y8 (cJ 7)) (bj aV)) (bj aV)))) (λX1 h1=>by have G:=G.at h1;obtain⟨_,_,_,_,_,rfl⟩:=h1;exact(fL 2 G (cJ 7)))))))))
   (aG (kh 3 G (cA (cB 4 (aC (gY G Z.ik (bJ (bj (QC G (aZ 6) CJ (rP aV))))) au))))))))
   (aG (aX (gY G Z.ik (bJ (cJ 3)))))))))))
theorem Bt:bF Zq7 Zq7 (aK pC):=iC
include Z in
theorem Ff:Own P w K mg base "_law_sounds" 1 Zq7 (lC K 1 lW):=by exact cL (k:=0) Z.DQ Bt (λf cdv A outer s H E hr G=>(eV.u (aG (aX (yt G (bT []) (bj (fJ (xD ["_law_stock_here","_law_sound","_law_marks"] 1 pU G (jw G (aZ 0)) (λX1 h1=>by have G:=G.at h1;obtain⟨_,_,_,_,_,rfl⟩:=h1;exact(dY G (aD (aN 1) (aD (aN 2) bQ)))) (λX1 h1=>by have G:=G.at h1;obtain⟨_,_,_,_,_,rfl⟩:=h1;exact mq) (λX1 h1=>by have G:=G.at h1;obtain⟨_,_,_,_,_,rfl⟩:=h1;exact(aZ 1))))))))))
theorem El:bF ["_law_pack_here","_law_sounds_here","_law_number","_law_signs_here"] Yb (aK qG):=iC
include Z in
theorem xA:Own P w K mg base "_law_signs" 2 Yb (yX K 2 iW):=by
 exact zF (k:=1) Z.GQ El (λf cdv A outer s H E a hr G=>(eV.u (ao (cY (sZ (um G) (jX 0 (eO Z) G hr (aC aV au) (jY (aY len0))) (bj aV)) (aG (aX je)) bZ)
   (ao (bN 2 (iJ (j0 G) aV (bj (jX 0 (eO Z) G hr (aC (iJ aeI (iJ aeJ aV (bj (j6 G Z.kj (bJ (cJ 1))))) (bj aV)) au) (jY (aY len0))))))
   (ao (bN 3 (iJ (j0 G) (bT [35]) (cJ 1)))
   (aG (aX (gY G Z.ik (bJ (bj (fJ (xD ["_law_pack_here","_law_sounds_here","_law_number","_law_signs_here","_law_k"] 4 pU G (yK Z.uQ (aC (j6 G Z.kj (bJ (cJ 3))) au) (aY len0)) (λX1 h1=>by have G:=G.at h1;obtain⟨_,_,_,_,_,rfl⟩:=h1;exact(aN 4)) (λX1 h1=>by have G:=G.at h1;obtain⟨_,_,_,_,_,rfl⟩:=h1;exact(wD (sZ (um G) (iJ Zc (jc 2 Y8 (cJ 4)) (bj aV)) (bj aV)))) (λX1 h1=>by have G:=G.at h1;obtain⟨_,_,_,_,_,rfl⟩:=h1;exact(fL 3 G (cJ 4)))))))))))))))
theorem zj:bF ["_law_pack_here","_law_sounds_here","_law_found","_law_turn","_law_one","_law_others"] Yb (aK ou):=iC
include Z in
theorem Bw:Own P w K mg base "_law_changes" 2 Yb (yX K 2 jo):=by
 exact zF (k:=1) Z.Bo zj (λf cdv A outer s H E a hr G=>(eV.u (ao (cY (sZ (um G) (jX 0 (eO Z) G hr (aC aV au) (jY (aY len0))) (bj aV)) (aG (aX (cA (aC (cA (aC (bT []) (aC (fL 1 G (bj (jX 0 (eO Z) G hr (aC (j6 G Z.kj (bJ (cJ 1))) au) (jY (aY len0))))) au))) au)))) bZ)
   (ao (iM 2 Ou)
   (ao (j8 G (yK Z.uQ (aC (iJ (j0 G) aV (bj (jX 0 (eO Z) G hr (aC aV au) (jY (aY len0))))) au) (aY len0)) (aN 3) (ao (bN 4 (fL 1 G (bj (jX 0 (eO Z) G hr (aC (j6 G Z.kj (bJ (cJ 1))) au) (jY (aY len0))))))
   (ao (ac7 ["_law_pack_here","_law_sounds_here","_law_found","_law_turn","_law_one","_law_others","_law_sound"] 6 5 pU G (jw G (iJ (j0 G) (Vo G Z.W2 (bJ (cJ 1))) (bj (fJ (cO (aC (bT []) au)))))) (λX1 h1=>by have G:=G.at h1;obtain⟨_,_,_,_,_,rfl⟩:=h1;exact(aN 6)) (λX1 h1=>by have G:=G.at h1;obtain⟨_,_,_,_,_,rfl⟩:=h1;exact(wD (d8 6 (XR G) (cJ 4)))) (λX1 h1=>by have G:=G.at h1;obtain⟨_,_,_,_,_,rfl⟩:=h1;exact(aZ 6)))
   (aG (VN 2 G (aZ 4) (fL 5 G (bj (jX 0 (eO Z) G hr (aC (j6 G Z.kj (bJ (cJ 5))) au) (jY (aY len0))))))))))
   (aG (aX (gY G Z.ik (bJ (bj (fJ (xD ["_law_pack_here","_law_sounds_here","_law_found","_law_turn","%4","_law_others","_law_one"] 6 pU G (jw G (Cg G Z.wH (bJ (cJ 2)))) (λX1 h1=>by have G:=G.at h1;obtain⟨_,_,_,_,_,rfl⟩:=h1;exact(aN 6)) (λX1 h1=>by have G:=G.at h1;obtain⟨_,_,_,_,_,rfl⟩:=h1;exact mq) (λX1 h1=>by have G:=G.at h1;obtain⟨_,_,_,_,_,rfl⟩:=h1;exact(cA (cB 6 (aC (Gx 2 G (cJ 6)) au))))))))))))))))
theorem Hd:bF ["_law_pack_here","_law_sounds_here","_law_how","_law_changes_here"] Yb (aK tM):=iC
include Z in
theorem zJ:Own P w K mg base "_law_rule" 3 Yb (yX K 2 jx):=by
 exact zF (k:=2) Z.JT Hd (λf cdv A outer s H E a hr G=>(eV.u (ao (bN 2 (lN G (fJ (cO (aC (bT [111,110,99,101]) (aC (bT [97,108,111,110,103]) au)))) (bj (jX 0 (eO Z) G hr (aC aV au) (jY (aY len0))))))
   (ao (bN 3 (jX 0 (Bw Z) G hr (cB 1 au) (jY (aY len0))))
   (aG (aX (cA (cB 2 (cB 3 (aC (jX 0 (xA Z) G hr (cB 1 au) (jY (aY len0))) (aC (jX 0 (xA Z) G hr (cB 1 au) (jY (aY len0))) au)))))))))))
theorem Ej:bF ["_law_sounds_here","_law_size","_law_found","_law_row","_law_turn","_law_longer","_law_word"] acg (aK qD):=iC
include Z in
theorem Hy:Own P w K mg base "_law_words" 1 acg (lC K 2 jC):=by
 exact cL (k:=0) Z.GK Ej (λf cdv A outer s H E hr G=>(eV.u (ao (bN 2 (fJ (cO (aC (bT []) au))))
   (ao (bN 3 (fJ (cO (aC (bT []) au))))
   (ao (j8 G (yK Z.uQ (cB 1 au) (aY len0)) (aN 4) (ao (iM 5 (cO au))
   (ao (j8 G (jw G (aZ 3)) (aN 6) (aG (Z3 5 G (fJ (xD ["_law_sounds_here","_law_size","_law_found","_law_row","_law_turn","_law_longer","_law_word","_law_sound"] 7 pU G (jw G (aZ 0)) (λX1 h1=>by have G:=G.at h1;obtain⟨_,_,_,_,_,rfl⟩:=h1;exact(aN 7)) (λX1 h1=>by have G:=G.at h1;obtain⟨_,_,_,_,_,rfl⟩:=h1;exact mq) (λX1 h1=>by have G:=G.at h1;obtain⟨_,_,_,_,_,rfl⟩:=h1;exact(jc 6 (j0 G) (cJ 7))))))))
   (ao (bN 3 (aZ 5))
   (aG (bN 2 (jc 2 (j0 G) (cJ 3))))))))
   (aG (aX (aZ 2))))))))
theorem Hg:bF Zq8 Zq8 (aK tQ):=iC
include Z in
theorem pH:Own P w K mg base "_law_acts" 5 Zq8 (lC K 3 gh):=by exact cL (k:=4) Z.JW Hg (λf cdv A outer s H E hr G=>(eV.u (aG (aX (JD (XR G) (bM (CZ Z) G hr (cB 0 (cB 1 (cB 2 au))) (aY (aY (aY len0)))) (cJ 2))))))
theorem Em:bF Zq9 Zq9 (aK qH):=iC
include Z BB in
theorem xB:Own P w K mg base "_law_never" 9 Zq9 (spT (lE K tabs) (lC K 3 fY)):=by exact wG (k:=8) Z.GR Em (λf cdv A outer s H E hT hr G=>(eV.u (aG (aX (JD Qj (pg (aba Z BB) hT (jA K tabs) G hr (cB 0 (aC (cA (cB 1 (aC (cA (cB 2 au)) au))) (aC aV au))) (aY (aY (aY len0)))) (bj je))))))
theorem Z2:bF ["_law_script","_law_pack_here","_law_stock_here","_law_sounds_here","_law_side","_law_rule_here","_law_other","_law_way_found","_law_taken","_law_word","_law_alone","_law_both"] ["_law_script"] (aK Q8):=iC
include Z BB in
theorem abR{f:Addr}{fd:FuncData}(F:Qp K "law" "law" Q8 f fd):lX P w K mg base yc 10 f fd ["_law_script"] (spT (lE K tabs) (lC K 1 M9)):=by
 exact wX (k:=9) F Z2 (λcdv A outer s H E _ hT hr G=>(eV.u (ao (iM 1 (abf (Kr Z) G hr (cB 0 (aC aV au)) (aY (aY len0))))
   (ao (bN 2 (jX 1 (HB Z) G hr au (jY len0)))
   (ao (bN 3 (bM (Ff Z) G hr (cB 2 au) (aY len0)))
   (ao (bN 4 (lN G (fJ (cO (aC (bT [108,101,102,116]) (aC (bT [114,105,103,104,116]) au)))) (bj (jX 1 (eO Z) G hr (aC aV au) (jY (aY len0))))))
   (ao (bN 5 (jX 1 (zJ Z) G hr (cB 3 au) (jY (aY len0))))
   (ao (bN 6 (jX 1 (zJ Z) G hr (cB 3 au) (jY (aY len0))))
   (ao (cY (sZ (um G) (jX 1 (eO Z) G hr (aC aV au) (jY (aY len0))) (bj aV)) (aG (bN 6 (aZ 5))) bZ)
   (ao (bN 7 (pg (Hx Z BB) hT (jA K tabs) G hr (cB 2 (cB 4 (cB 5 (cB 6 au)))) (aY (aY (aY (aY len0))))))
   (ao (bN 8 (pg (Fe Z BB) hT (jA K tabs) G hr (cB 2 (cB 4 (cB 5 (cB 6 au)))) (aY (aY (aY (aY len0))))))
   (ao (cY (iG (ig (dC (pg (xB Z BB) hT (jA K tabs) G hr (cB 2 (cB 4 (cB 5 au))) (aY (aY (aY len0))))) (jd (iG (uK (d8 7 vq (bj je)) (qL (d8 8 vq (bj je)))))))) (aG (aX jL)) bZ)
   (ao (cY (iG (ig (dC (pg (xB Z BB) hT (jA K tabs) G hr (cB 2 (cB 4 (cB 6 au))) (aY (aY (aY len0))))) (jd (iG (uK (d8 7 vq (bj je)) (qL (d8 8 vq (bj je)))))))) (aG (aX jL)) bZ)
   (ao (j8 G (jw G (bM (Hy Z) G hr (cB 3 (aC (lN G (fJ (cO (aC aV (aC aV (aC aV (aC aV (aC aV au))))))) (bj (j6 G Z.kj (bJ (cJ 3))))) au)) (aY (aY len0)))) (aN 9) (ao (bN 10 (bM (pH Z) G hr (cB 4 (cB 6 (cB 9 au))) (aY (aY (aY len0)))))
   (ao (bN 11 (bM (pH Z) G hr (cB 4 (cB 6 (aC (bM (CZ Z) G hr (cB 4 (cB 5 (cB 9 au))) (aY (aY (aY len0)))) au))) (aY (aY (aY len0)))))
   (aG (cY (iG (uK (iG (ig (dC (aZ 10)) (ig (uL (dC (aZ 11))) (jd (d8 8 Qj (bj je)))))) (qL (iG (ig (dC (aZ 11)) (ig (uL (dC (aZ 10))) (jd (d8 7 Qj (bj je))))))))) (aG (aX jL)) bZ)))))
   (ao (cY (iG (ig (d8 7 vq (bj je)) (jd (dC (bM (pH Z) G hr (cB 4 (cB 6 (cB 7 au))) (aY (aY (aY len0)))))))) (aG (aX jL)) bZ)
   (aG (aX (qM (rJ 8 Qj (bj je)) (kW (bM (pH Z) G hr (cB 4 (cB 6 (cB 8 au))) (aY (aY (aY len0)))))))))))))))))))))))
end
end jH
namespace iI
open Ev
def jD:bU:=bw (aq dI (aa (iZ 1 3 (iH (aM 0)) (cD 2 (aH (aj 1) (aH (aj 2) cG))) gG (aM 1)) ak))
def cH:LD:=bW 1 jD
def m7:bU:=jH.m7
def bu:List D->Option (D×D):=mV 3 m7
def nU:bU:=aB (aQ (aP fD (cC (aa (Zw [97]) (aa (Zw [97,98]) (aa (Zw [97,98]) (aa (Zw [97,98,99]) (aa (Zw [97,101,112,116]) (aa (Zw [109,110,122]) ak))))))) (fP bu 0 (aa (Zi 6) ak))) (aj 1)) (aB (aQ (cC (aa (Zw [115,116,111,112]) (aa (Zw [115,116,111,112,115]) (aa (Zw [115]) (aa (Zw [111,112,101,110]) (aa (Zw [97,98,99,100,101,102,103,104]) ak)))))) (aj 2)) (aB (dq 3 (cC ak)) (aB (gq (iH (aM 1)) (aj 4) (aB (aQ (fP bu 0 (aa (Zi 32) ak)) (aj 5)) (aB (aQ (aq jg (aa (iZ 7 8 (lz (aa (Zi 5) ak)) (aj 7) (dg (aP rm (aP Fz (aA BV 5 (bh 7)) (Zi 1)) (Zi 1))) (aA fD 2 (bh 7))) ak)) (aj 6)) (d7 3 (bY (Zv 4 (aa (aq dI (aa (wV (aM 6) Aj (Gu (Zi 4))) ak)) ak))))))) (bw (aq dI (aa (bh 3) ak))))))
def nM:List D->Option (D×D):=mV 7 nU
def p7:bU:=bw (aP m6 (Zw []) (iZ 1 3 (iH (aM 0)) (cD 2 (aH (aj 1) (aH (aj 2) cG))) gG (aM 1)))
def lW:LD:=bW 1 p7
def lB:bU:=aB (eE (dg (aP rm (fP bu 0 (aa (Zi 2) ak)) (Zi 0))) (bw (ji .non)) bV) (aB (aQ (aP dD (Zi 1) (fP bu 0 (aa (aP KH (aP PN (Zi 2) (aq fW (aa (bh 1) ak))) (Zi 1)) ak))) (aj 2)) (aB (aQ (aP dD (Zw [35]) (bh 1)) (aj 3)) (bw (aq dI (aa (iZ 4 5 (lz (aa (aq fW (aa (bh 3) ak)) ak)) (aj 4) (dg (aP rm (aP Fz (aA BV 2 (bh 4)) (Zi 1)) (Zi 1))) (aA fD 3 (bh 4))) ak)))))
def iW:List D->Option (D×D):=mV 4 lB
def jq:bU:=aB (eE (dg (aP rm (fP bu 0 (aa (Zi 5) ak)) (Zi 0))) (bw (bY (aa (bY (aa (Zw []) (aa (aA fD 1 (fP bu 0 (aa (aq fW (aa (bh 1) ak)) ak))) ak))) ak))) bV) (aB (dq 2 (FQ)) (aB (gq (lz (aa (aP dD (Zi 1) (fP bu 0 (aa (Zi 3) ak))) ak)) (aj 3) (aB (aQ (aA fD 1 (fP bu 0 (aa (aq fW (aa (bh 1) ak)) ak))) (aj 4)) (aB (dq 5 (iZ 6 7 (iH (aP dD (aq Dh (aa (bh 1) ak)) (cC (aa (Zw []) ak)))) (aj 6) (dg (aA PQ 6 (bh 4))) (aM 6))) (tu 2 (aM 4) (aA fD 5 (fP bu 0 (aa (aq fW (aa (bh 5) ak)) ak))))))) (bw (aq dI (aa (iZ 6 7 (iH (aq jg (aa (bh 2) ak))) (aj 6) gG (bY (Zv 6 (aa (aA jZ 2 (bh 6)) ak)))) ak)))))
def jo:List D->Option (D×D):=mV 6 jq
def p8:bU:=aB (aQ (aP fD (cC (aa (Zw [111,110,99,101]) (aa (Zw [97,108,111,110,103]) ak))) (fP bu 0 (aa (Zi 2) ak))) (aj 2)) (aB (aQ (fP jo 0 (Zv 1 ak)) (aj 3)) (bw (bY (Zv 2 (Zv 3 (aa (fP iW 0 (Zv 1 ak)) (aa (fP iW 0 (Zv 1 ak)) ak)))))))
def jx:List D->Option (D×D):=mV 4 p8
open Ev PySem L2
theorem rY{i:Int}{b:Nat}(h:i.natAbs<2^b):Builtin.Int.intBits i<=b:=by
 unfold Builtin.Int.intBits;split
 ·exact Qxk _
 ·rename_i h0;have hz:i.natAbs≠0:=λz=>h0 (by rw[Int.natAbs_eq_zero.mp z];rfl);exact(Nat.log2_lt hz).mpr h
theorem tY{i j:Int}{a b:Nat}(h1:Builtin.Int.intBits i<=a)(h2:Builtin.Int.intBits j<=b)(h:a+b<=134217728):kZ i j=true:=
 Qw4 (by omega)
theorem XC{α:Type}{xs:List α}{lo hi:Option Int}{x:α}(h:x∈cutD xs lo hi):x∈xs:=List.mem_of_mem_drop (List.mem_of_mem_take h)
theorem UJ{α:Type}(x:α)(r:List α):xj (x::r) 0=some x:=lq (j:=0) rfl
def known:D:=.lst [.str [115,116,111,112],.str [115,116,111,112,115],.str [115],.str [111,112,101,110],.str [97,98,99,100,101,102,103,104]]
def yz:bU:=aQ (aq jg (aa (iZ 7 8 (lz (aa (Zi 5) ak)) (aj 7) (dg (aP rm (aP Fz (aA BV 5 (bh 7)) (Zi 1)) (Zi 1))) (aA fD 2 (bh 7))) ak)) (aj 6)
def mk(d:Nat):D:=match yz [Zn,Zn,Zf known,Zn,Zn,Zf (.int d),Zn] with
 | .nx e=>(match e[6]? with|some (some (_,z))=>z|_=>.non)
 | _=>.non
def AllB(P:Nat->Prop):Nat->Prop
 | 0=>True
 | n+1=>AllB P n/\P n
theorem UL{P:Nat->Prop}:∀{n:Nat},AllB P n->∀d,d<n->P d
 | 0,_,d,h=>absurd h (Qj8 d)
 | n+1,⟨a,b⟩,d,h=>by
  by_cases e:d=n
  ·subst e;exact b
  ·exact UL a d (by omega)
theorem marks(d:Nat)(hd:d<32)(a b c e f:OD):yz [a,b,Zf known,c,e,Zf (.int d),f] = .nx [a,b,Zf known,c,e,Zf (.int d),Zf (mk d)]:=by refine UL (P:=λd=>yz [a,b,Zf known,c,e,Zf (.int (d:Nat)),f] = .nx [a,b,Zf known,c,e,Zf (.int (d:Nat)),Zf (mk d)]) ?_ d hd;refine⟨⟨⟨⟨⟨⟨⟨⟨⟨⟨⟨⟨⟨⟨⟨⟨⟨⟨⟨⟨⟨⟨⟨⟨⟨⟨⟨⟨⟨⟨⟨⟨trivial,?_⟩,?_⟩,?_⟩,?_⟩,?_⟩,?_⟩,?_⟩,?_⟩,?_⟩,?_⟩,?_⟩,?_⟩,?_⟩,?_⟩,?_⟩,?_⟩,?_⟩,?_⟩,?_⟩,?_⟩,?_⟩,?_⟩,?_⟩,?_⟩,?_⟩,?_⟩,?_⟩,?_⟩,?_⟩,?_⟩,?_⟩,?_⟩<;>kernel_rfl
def aee:D->Bool
 | .lst _=>true
 | _=>false
theorem abg(d:Nat)(hd:d<32):∃zs,mk d = .lst zs:=by
 have h:((List.range 32).all λd=>aee (mk d))=true:=by decide +kernel
 have h1:=Qx7.mp h d (Qk3.mpr hd);cases e:mk d with
 | lst zs=>exact⟨zs,rfl⟩
 | _=>rw[e] at h1;cases h1
inductive Rows:List D->List D->Prop where
 | nil:Rows [] []
 | cons {s m:D} {ss rs:List D}:Rows ss rs->Rows (s::ss) (.tup [s,m]::rs)
theorem Rows.snoc{ss rs:List D}(h:Rows ss rs)(s m:D):Rows (ss++[s]) (rs++[.tup [s,m]]):=by
 induction h with
 | nil=>exact .cons .nil
 | cons _ ih=>exact .cons ih
theorem Rows.len{ss rs:List D}(h:Rows ss rs):rs.length=ss.length:=by
 induction h with
 | nil=>rfl
 | cons _ ih=>rw[Qqy,Qqy,ih]
theorem cM{i:Nat}{a:Ev}{env e:Ev.Env}{d:D}{xs x0:List D}(h0:env[i]? = some (Zl x0))(h1:a env = .ok d e)(h2:e[i]? = some (Zl xs))(hz:xs.length<sizeLine):d7 i a env = .nx (e.set i (Zl (xs++[d]))):=by unfold d7;rw[h0];show gM (a env) _=_;rw[h1];show(match e[i]? with|some (some (true,.lst xs))=>if xs.length<sizeLine then Out.nx (e.set i (Zl (xs++[d]))) else .stuck|_=>.stuck)=_;rw[h2];show(if xs.length<sizeLine then _ else _)=_;rw[if_pos hz]
def Cu:bU:=aB (aQ (fP bu 0 (aa (Zi 32) ak)) (aj 5)) (aB yz (d7 3 (bY (Zv 4 (aa (aq dI (aa (wV (aM 6) Aj (Gu (Zi 4))) ak)) ak)))))
theorem J0(n:Int)(b v5 v6:OD)(acc:List D)(s:D)(ha:acc.length<=10):∃m v5' v6',Cu [Zl [.int n],b,Zf known,Zl acc,Zf s,v5,v6] = .nx [Zl [.int (n / 32)],b,Zf known,Zl (acc++[.tup [s,m]]),Zf s,v5',v6']:=by obtain⟨d,hd,e⟩:=dig n 32 (by decide);obtain⟨zs,hz⟩:=abg d hd;refine⟨.tup (cutD zs none (some 4)),Zf (.int d),Zf (.lst zs),?_⟩;unfold Cu;refine(az (e:=[Zl [.int (n / 32)],b,Zf known,Zl acc,Zf s,Zf (.int (n % (32:Nat))),v6]) rfl).trans ?_;rw[e];refine(az (marks d hd _ _ _ _ _)).trans ?_;rw[hz];exact cM (e:=[Zl [.int (n / 32)],b,Zf known,Zl acc,Zf s,Zf (.int d),Zf (.lst zs)]) rfl rfl rfl (Qw2 ha (by decide))
structure XOk(x:List Nat):Prop where
 len:x.length<=4
 pos:0<x.length
 nd:x.Nodup
 ne:35 ∉ x
inductive XSt
 | mk
def XS:XSt:=.mk
instance:Membership (List Nat) XSt:=⟨λ_ x=>XOk x⟩
theorem Be{x:List Nat}(h:x∈XS):XOk x:=h
theorem Dz{x:List Nat}(h:XOk x):x∈XS:=h
theorem jy:∀x∈XS,x.length<=4:=λ_ h=>(Be h).len
theorem U3{x:List Nat}(h:x∈XS):(∃a,x=[a])\/(∃a b,x=[a,b])\/(∃a b c,x=[a,b,c])\/∃a b c d,x=[a,b,c,d]:=by
 have h1:=(Be h).len;have h2:=(Be h).pos
 match x,h1,h2 with
 | [a],_,_=>exact .inl ⟨a,rfl⟩
 | [a,b],_,_=>exact .inr (.inl ⟨a,b,rfl⟩)
 | [a,b,c],_,_=>exact .inr (.inr (.inl ⟨a,b,c,rfl⟩))
 | [a,b,c,d],_,_=>exact .inr (.inr (.inr ⟨a,b,c,d,rfl⟩))
theorem stock(n:Int):∃x rows n',x∈XS/\nM [.lst [.int n]]=some (.tup rows,.lst [.int n'])/\Rows (pq x) rows:=by
 obtain⟨d,hd,e⟩:=dig n 6 (by decide);obtain⟨x,hx,h1⟩:∃x,x∈XS/\∀m:Int,(λ(k:Int) (m:Int)=>gM (iT (fD (.lst [.str [97],.str [97,98],.str [97,98],.str [97,98,99],.str [97,101,112,116],.str [109,110,122]]) (.int k)) ([Zl [.int m],Zn,Zn,Zn,Zn,Zn,Zn]:Ev.Env)) λd aL=>Th (aj 1 d aL)) (d:Int) m = .nx [Zl [.int m],Zs x,Zn,Zn,Zn,Zn,Zn]:=by
  have hc:d=0\/d=1\/d=2\/d=3\/d=4\/d=5:=by omega
  rcases hc with rfl|rfl|rfl|rfl|rfl|rfl
  ·exact⟨[97],Dz ⟨by decide,by decide,by decide,by decide⟩,λm=>rfl⟩
  ·exact⟨[97,98],Dz ⟨by decide,by decide,by decide,by decide⟩,λm=>rfl⟩
  ·exact⟨[97,98],Dz ⟨by decide,by decide,by decide,by decide⟩,λm=>rfl⟩
  ·exact⟨[97,98,99],Dz ⟨by decide,by decide,by decide,by decide⟩,λm=>rfl⟩
  ·exact⟨[97,101,112,116],Dz ⟨by decide,by decide,by decide,by decide⟩,λm=>rfl⟩
  ·exact⟨[109,110,122],Dz ⟨by decide,by decide,by decide,by decide⟩,λm=>rfl⟩
 have hxl:x.length<=4:=jy x hx;obtain⟨e',f1,n',acc,v4,v5,v6,rfl,hr⟩:=mz (g:=aj 4) (pq x) (λdone env=>∃n acc v4 v5 v6,env=[Zl [.int n],Zs x,Zf known,Zl acc,v4,v5,v6]/\Rows done acc)
  (λdone s rest hall env ⟨n,acc,v4,v5,v6,he,hr⟩=>by
   subst he;have hd:done.length<=4:=by have:=Qz4 List.length hall;unfold pq at this;rw[Qqv,Qqx,Qqy] at this;omega
   obtain⟨m,w5,w6,hb⟩:=J0 n (Zs x) v5 v6 acc s (by rw[hr.len];omega);exact⟨_,_,rfl,hb,n / 32,_,_,_,_,rfl,hr.snoc s m⟩)
  [Zl [.int (n / 6)],Zs x,Zf known,Zl [],Zn,Zn,Zn] ⟨_,[],_,_,_,rfl,.nil⟩
 let E0:Ev.Env:=[Zl [.int n'],Zs x,Zf known,Zl acc,v4,v5,v6]
 refine⟨x,acc,n',hx,mU (env:=E0) ?_ rfl,hr⟩;unfold nU;refine(az (e:=[Zl [.int (n / 6)],Zs x,Zn,Zn,Zn,Zn,Zn]) ?_).trans ?_
 ·have h2:=h1 (n / 6);rw[<-e] at h2;exact h2
 refine(az rfl).trans ?_;refine(az rfl).trans ?_;refine(az (e:=E0) ?_).trans ?_
 ·exact(eU rfl).trans f1
 ·rfl
theorem V0{ss rs:List D}(h:Rows ss rs):∀(a v1 v2:OD),∃w1 w2,Kv (cD 2 (aH (aj 1) (aH (aj 2) cG))) gG (aM 1) rs [a,v1,v2] = .ok ss [a,w1,w2]:=by
 induction h with
 | nil=>exact λa v1 v2=>⟨v1,v2,rfl⟩
 | cons _ ih=>
  rename_i s m ss rs _;intro a v1 v2;obtain⟨w1,w2,e⟩:=ih a (Zf s) (Zf m);refine⟨w1,w2,?_⟩;unfold Kv;show bindR (Kv _ gG (aM 1) rs [a,Zf s,Zf m]) _=_;rw[e]
  rfl
theorem Cy{x:List Nat}{rs:List D}(hx:x∈XS)(h:Rows (pq x) rs):iZ 1 3 (iH (aM 0)) (cD 2 (aH (aj 1) (aH (aj 2) cG))) gG (aM 1) [Zf (.tup rs)] = .ok (.lst (pq x)) [Zf (.tup rs)]:=by obtain⟨w1,w2,e⟩:=V0 h (Zf (.tup rs)) none none;exact vf (n:=3) (aL:=[Zf (.tup rs)]) rfl rfl (by exact e) (by unfold pq;rw[Qqv];exact Qq2 (jy x hx) (by decide))
theorem sounds_of{x:List Nat}{rs:List D}(hx:x∈XS)(h:Rows (pq x) rs):cH [.tup rs]=some (.tup (pq x)):=
 bO (bD (aF (aJ (Cy hx h) bK) rfl))
theorem join_eq:∀x∈XS,m6 (.str []) (.lst (pq x))=some (.str x):=by intro x hx;rcases U3 hx with ⟨a,rfl⟩|⟨a,b,rfl⟩|⟨a,b,c,rfl⟩|⟨a,b,c,d,rfl⟩<;>rfl
theorem Kw{x:List Nat}{rs:List D}(hx:x∈XS)(h:Rows (pq x) rs):lW [.tup rs]=some (.str x):=
 bO (bD (bH rfl (Cy hx h) (join_eq x hx)))
theorem Xr{a:eN}{env e:Ev.Env}{ds ys:List D}(h:a env = .ok ds e)(h':zq ds=some ys):lz a env = .ok ys e:=by
 unfold lz;rw[h];show iT (zq ds) e=_;rw[h']
 rfl
theorem lQ(n:Int)(m:Nat)(h0:0<m)(h1:m<1073741824):bu [.lst [.int n],.int (m:Int)]=some (.int (n % m),.lst [.int (n / m)]):=by
 let E0:Ev.Env:=[Zl [.int (n / m)],Zf (.int m),Zf (.int (n % m))]
 refine mU (env:=E0) ?_ rfl;unfold m7;have g:uY [.int n,.int (m:Int)]=some (.tup [.int (n / m),.int (n % m)]):=by show(if 0<(m:Int)/\(m:Int)<1073741824 then _ else _)=_;rw[if_pos (by omega)]
 refine(az (e:=E0) ?_).trans rfl;exact bI (aF (by rfl) g) (by rfl)
def isT:Option D->Bool
 | some (.bl true)=>true
 | _=>false
def M(x:List Nat):Nat:=2*2^x.length - 1
def Q4:bU:=aB (aQ (aP dD (Zw [35]) (bh 1)) (aj 3)) (bw (aq dI (aa (iZ 4 5 (lz (aa (aq fW (aa (bh 3) ak)) ak)) (aj 4) (dg (aP rm (aP Fz (aA BV 2 (bh 4)) (Zi 1)) (Zi 1))) (aA fD 3 (bh 4))) ak)))
def bit(d k:Nat):Bool:=Builtin.bitAnd ((1+(d:Int)) / 2^k) 1 == 1
def sgR(x:List Nat)(d:Nat):D:=.tup ((((List.range (x.length+1)).filter (bit d)).map λk=>(35::x).getD k 0).map λc=>.str [c])
def SG(x:List Nat):List D:=.non::(List.range (M x)).map (sgR x)
theorem VJ(a:OD):∀x∈XS,∀d,d<M x->∃e3,Q4 [a,Zs x,Zf (.int (1+(d:Int))),Zn] = .rt false (sgR x d) [a,Zs x,Zf (.int (1+(d:Int))),e3]:=by
 intro x hx d hd;have hl:=jy x hx;refine⟨Zs (35::x),?_⟩;unfold Q4;refine(az (bI (d:=.str (35::x)) (bH rfl rfl ?_) rfl)).trans ?_
 ·unfold dD;exact if_pos (Qq2 (show 1+x.length<=5 by omega) (by decide))
 ·have h:iZ 4 5 (lz (aa (aq fW (aa (bh 3) ak)) ak)) (aj 4) (dg (aP rm (aP Fz (aA BV 2 (bh 4)) (Zi 1)) (Zi 1))) (aA fD 3 (bh 4)) [a,Zs x,Zf (.int (1+(d:Int))),Zs (35::x)] = .ok (.lst (((List.range (x.length+1)).filter (bit d)).map λk=>.str [(35::x).getD k 0])) [a,Zs x,Zf (.int (1+(d:Int))),Zs (35::x)]:=by
   refine Nb (n:=5) (List.range (x.length+1)) (λ(k:Nat)=>.int (k:Int)) (bit d) (λk=>.str [(35::x).getD k 0]) ?_ rfl rfl (λk hk=>?_) (λk hk _=>?_) (by rw[List.length_range];exact Qq2 (show x.length+1<=5 by omega) (by decide))
   ·exact Xr rfl (afU (Qw2 (show(35::x).length<=5 by rw[Qqy];omega) (by decide)))
   ·refine cU (bH (bH (x:=.int ((1+(d:Int)) / 2^k)) ?_ rfl rfl) rfl rfl);refine bA (i:=2) rfl rfl rfl ?_;unfold BV gI;simp only;rw[if_pos (Qw4 (Int.natCast_nonneg k)),Qk1]
   ·refine bA (i:=3) rfl rfl rfl ?_;show(xj (35::x) (k:Int)).map _=_;have hk':k<(35::x).length:=Qk3.mp hk;rw[lq (v:=(35::x).getD k 0) (by rw[Qw0,Qwz hk'];rfl)]
    rfl
  refine bD (aF (aJ h bK) ?_);unfold sgR;rw[Qkx]
  rfl
theorem signs(n:Int)(x:List Nat)(hx:x∈XS):∃r n',iW [.lst [.int n],.str x]=some (r,.lst [.int n'])/\r∈SG x:=by
 obtain⟨d,hd,e⟩:=dig n 2 (by decide);have t:dg (aP rm (fP bu 0 (aa (Zi 2) ak)) (Zi 0)) [Zl [.int n],Zs x,Zn,Zn] = .ok ((d:Int) == 0) [Zl [.int (n / 2)],Zs x,Zn,Zn]:=by
  rw[<-e]
  rfl
 have hc:d=0\/d=1:=by omega
 rcases hc with rfl|rfl
 ·refine⟨.non,n / 2,mU (env:=[Zl [.int (n / 2)],Zs x,Zn,Zn]) ?_ rfl,Qqj ..⟩;unfold lB;refine(ie ?_).trans rfl;exact(gf t).trans rfl
 ·obtain⟨k,hk,ek⟩:=dig (n / 2) (M x) (by unfold M;have:0<2^x.length:=Nat.two_pow_pos _;omega);obtain⟨e3,h3⟩:=VJ (Zl [.int (n / 2 / (M x:Int))]) x hx k hk;refine⟨sgR x k,n / 2 / (M x:Int),mU (env:=[Zl [.int (n / 2 / (M x:Int))],Zs x,Zf (.int (1+(k:Int))),e3]) ?_ rfl,Qqq _ (Qwy.mpr ⟨k,Qk3.mpr hk,rfl⟩)⟩;unfold lB;refine(az (e:=[Zl [.int (n / 2)],Zs x,Zn,Zn]) ?_).trans ?_
  ·exact(dU t).trans rfl
  ·refine(az (e:=[Zl [.int (n / 2 / (M x:Int))],Zs x,Zf (.int (1+n / 2 % (M x:Int))),Zn]) ?_).trans ?_
   ·have hM:aP KH (aP PN (Zi 2) (aq fW (aa (bh 1) ak))) (Zi 1) [Zl [.int (n / 2)],Zs x,Zn,Zn] = .ok (.int (M x:Int)) [Zl [.int (n / 2)],Zs x,Zn,Zn]:=by
     have hl:=jy x hx;refine bH (x:=.int (2*2^x.length)) (bH rfl rfl ?_) rfl ?_
     ·unfold PN gI;simp only;rw[if_pos (Qw4 ⟨Int.natCast_nonneg _,by omega,by decide⟩),Qk1]
     ·show some (D.int (2*2^x.length - 1))=_;have hp:0<2^x.length:=Nat.two_pow_pos _;have e:((M x:Nat):Int)=2*2^x.length - 1:=by
       unfold M;rw[Int.natCast_sub (by omega),Int.natCast_mul,Int.natCast_pow]
       rfl
      rw[e]
    have ht:bu [.lst [.int (n / 2)],.int (M x:Int)]=some (.int (n / 2 % (M x:Int)),.lst [.int (n / 2 / (M x:Int))]):=by have hl:=jy x hx;have hp:0<2^x.length:=Nat.two_pow_pos _;have hq:2^x.length<=2^4:=Qjz (by decide) hl;exact lQ (n / 2) (M x) (by unfold M;omega) (by unfold M;omega)
    refine bI (bH rfl (nO rfl (aJ hM bK) rfl ht) rfl) rfl
   ·rw[ek];exact h3
def oth(x:List Nat)(c:Nat):List D:=((x.map (λa=>[a])++[[]]).filter λz=>z != [c]).map .str
def PV(x:List Nat):List (Nat×D):=x.flatMap λc=>(oth x c).map λv=>(c,v)
def one:bU:=aQ (aA fD 1 (fP bu 0 (aa (aq fW (aa (bh 1) ak)) ak))) (aj 4)
def others:bU:=dq 5 (iZ 6 7 (iH (aP dD (aq Dh (aa (bh 1) ak)) (cC (aa (Zw []) ak)))) (aj 6) (dg (aA PQ 6 (bh 4))) (aM 6))
def Mm:bU:=tu 2 (aM 4) (aA fD 5 (fP bu 0 (aa (aq fW (aa (bh 5) ak)) ak)))
theorem O1(a b v3 v5:OD):∀x∈XS,∀c∈x,others [a,Zs x,b,v3,Zs [c],v5] = .nx [a,Zs x,b,v3,Zs [c],Zl (oth x c)]:=by
 intro x hx c hc;have hl:=jy x hx;unfold others;refine(qu (e:=[a,Zs x,b,v3,Zs [c],v5]) ?_).trans rfl;have h5:(x.map (λa=>[a])++[[]]).length<=5:=by rw[Qqx,Qqv];exact Nat.succ_le_succ hl
 refine Nb (n:=7) (x.map (λa=>[a])++[[]]) D.str (λz=>z != [c]) D.str ?_ rfl rfl (λz hz=>rfl) (λz hz _=>rfl) (Qq2 h5 (by decide));refine pQ (d:=.lst (((x.map λa=>[a])++[[]]).map D.str)) (bH rfl rfl ?_) rfl;rw[Qx1,Qkx];refine Ir (a:=pq x) ?_;unfold pq;rw[Qqv];exact Qq2 (Nat.succ_le_succ hl) (by decide)
theorem WK:∀x∈XS,∀c∈x,(oth x c).length=x.length:=by
 intro x hx c hc;have h1:=List.length_erase_of_mem hc;rw[(Be hx).nd.erase_eq_filter] at h1;have e:(λz:List Nat=>z != [c]) ∘ (λa=>[a])=λa=>a != c:=by
  funext a
  by_cases h:a=c
  ·subst h;show([a] != [a])=(a != a);rw[bne_self_eq_false,bne_self_eq_false]
  ·show([a] != [c])=(a != c);rw[bne_iff_ne.mpr h,bne_iff_ne.mpr λq=>h (Qx8 q).1]
 unfold oth;rw[Qqv,List.filter_append,List.filter_map,e,Qqx,Qqv,h1];have:=(Be hx).pos;show x.length - 1+1=_;omega
theorem Gm:∀x∈XS,0<x.length:=λ_ h=>(Be h).pos
theorem Oe{i:Nat}{k a:Ev}{env e1 e2:Ev.Env}{d kd x0:D}{o:Bool}{q:Key}{kvs:List (D×D)}(h1:a env = .ok d e1)(h2:e1[i]? = some (some (o,x0)))(h3:k e1 = .ok kd e2)(h4:e2[i]? = some (Zt (.dct kvs)))(h5:ql kd=some q)(hz:kvs.length<sizeLine) :
  tu i k a env = .nx (e2.set i (Zt (.dct (putD kvs kd q d)))):=by
 unfold tu;rw[h1];simp only[gM];rw[h2];simp only;rw[h3];simp only;rw[h4,h5];simp only;rw[if_pos hz]
def RM(kvs:List (D×D))(p:Nat×D):List (D×D):=putD kvs (.str [p.1]) (.inr (strOf [p.1])) p.2
theorem round(n:Int)(x:List Nat)(hx:x∈XS)(kvs:List (D×D))(hk:kvs.length<=10)(v3 v4 v5:OD):∃p n' v4' v5',p∈PV x/\aB one (aB others Mm) [Zl [.int n],Zs x,Zt (.dct kvs),v3,v4,v5] = .nx [Zl [.int n'],Zs x,Zt (.dct (RM kvs p)),v3,v4',v5']:=by
 have hp:=Gm x hx;have hl4:=jy x hx;obtain⟨d,hd,e⟩:=dig n x.length hp;have hc:x[d]∈x:=Qj3 hd;have hol:=WK x hx x[d] hc;obtain⟨d',hd',e'⟩:=dig (n / (x.length:Int)) x.length hp;have hv:d'<(oth x x[d]).length:=by rw[hol];exact hd'
 refine⟨(x[d],(oth x x[d])[d']),n / (x.length:Int) / (x.length:Int),Zs [x[d]],Zl (oth x x[d]),?_,?_⟩
 ·unfold PV;exact Qz0.mpr ⟨x[d],hc,Qwy.mpr ⟨_,Qj3 hv,rfl⟩⟩
 ·refine(az (e:=[Zl [.int (n / (x.length:Int))],Zs x,Zt (.dct kvs),v3,Zs [x[d]],v5]) ?_).trans ?_
  ·unfold one;refine bI (e:=[Zl [.int (n / (x.length:Int))],Zs x,Zt (.dct kvs),v3,v4,v5]) ?_ (by rfl);refine bA (y:=.int (n % (x.length:Int))) (by rfl) ?_ (by rfl) ?_
   ·exact nO (e1:=[Zl [.int n],Zs x,Zt (.dct kvs),v3,v4,v5]) (by rfl) (by rfl) (by rfl) (lQ n x.length hp (by omega))
   ·show(xj x (n % (x.length:Int))).map _=_;rw[e,Lb hd]
    rfl
  ·refine(az (O1 _ _ _ _ x hx x[d] hc)).trans ?_;unfold Mm;refine(Oe (e1:=[Zl [.int (n / (x.length:Int) / (x.length:Int))],Zs x,Zt (.dct kvs),v3,Zs [x[d]],Zl (oth x x[d])])
    ?_ (by rfl) (by rfl) (by rfl) (by rfl) (Qw2 hk (by decide))).trans rfl
   refine bA (y:=.int (n / (x.length:Int) % (x.length:Int))) (by rfl) ?_ (by rfl) ?_
   ·refine nO (e1:=[Zl [.int (n / (x.length:Int))],Zs x,Zt (.dct kvs),v3,Zs [x[d]],Zl (oth x x[d])]) (by rfl) ?_ (by rfl) (lQ _ x.length hp (by omega));refine aJ ?_ bK;refine aF (by rfl) ?_;show some (D.int ((oth x x[d]).length:Int))=_;rw[hol]
   ·show xj (oth x x[d]) (n / (x.length:Int) % (x.length:Int))=_;rw[e',Lb hv]
def Qf(kvs:List (D×D)):Option D:=match jg [.dct kvs] with
 | some (.lst ks)=>if (ks.all λk=>(jZ (.dct kvs) k).isSome) then some (.tup (ks.map λk=>.tup [k,(jZ (.dct kvs) k).getD .non])) else none
 | _=>none
def ab4:bU:=bw (aq dI (aa (iZ 6 7 (iH (aq jg (aa (bh 2) ak))) (aj 6) gG (bY (Zv 6 (aa (aA jZ 2 (bh 6)) ak)))) ak))
theorem Io{kvs:List (D×D)}{ks:List D}(h:jg [.dct kvs]=some (.lst ks)):ks.length<=64:=by
 obtain⟨zs,h1,h2⟩:=Qx5.mp h;split at h2
 ·rename_i hz;cases h2;rw[Qqv,(iK zs).length_eq];omega
 ·cases h2
theorem Ga{kvs:List (D×D)}{ch:D}(h:Qf kvs=some ch)(a b v3 v4 v5:OD):ab4 [a,b,Zt (.dct kvs),v3,v4,v5] = .rt false ch [a,b,Zt (.dct kvs),v3,v4,v5]:=by
 unfold Qf at h;split at h
 ·rename_i ks hs;split at h
  ·rename_i hall;cases h;obtain⟨env',h1,v6,rfl⟩:=yH (g:=aj 6) (e:=bY (Zv 6 (aa (aA jZ 2 (bh 6)) ak))) (λenv=>∃v6,env=[a,b,Zt (.dct kvs),v3,v4,v5,v6]) (λk=>.tup [k,(jZ (.dct kvs) k).getD .non]) ks [a,b,Zt (.dct kvs),v3,v4,v5,Zn] ⟨none,rfl⟩
    (λk hk env ⟨v6,he⟩=>by
     subst he;obtain⟨v,hv⟩:=Qx9.mp (Qx7.mp hall k hk);refine⟨_,[a,b,Zt (.dct kvs),v3,v4,v5,Zf k],rfl,?_,Zf k,rfl⟩;rw[hv];exact cP (aJ (d:=k) (by rfl) (aJ (d:=v) (bA (y:=k) (by rfl) (by rfl) (by rfl) hv) bK)) Ev.Js)
   refine bD (aF (ds:=[.lst (ks.map λk=>.tup [k,(jZ (.dct kvs) k).getD .non])]) (aJ ?_ bK) rfl);refine vf (n:=7) (aL:=[a,b,Zt (.dct kvs),v3,v4,v5]) ?_ (by rfl) h1 ?_
   ·exact pQ (aF (by rfl) hs) rfl
   ·rw[Qqv];exact Qq2 (Io hs) (by decide)
  ·cases h
 ·cases h
structure Gr(x:List Nat)(kvs:List (D×D))(zs:List Nat):Prop where
 keys:kvs.map (·.1)=zs.map λc=>D.str [c]
 nd:zs.Nodup
 mem:∀c∈zs,c∈x
 vals:∀k v,(k,v)∈kvs->∃c,k = .str [c]/\(c,v)∈PV x
theorem rM{a b:List Nat}(h:strOf a=strOf b):a=b:=by
 have:=Qz4 (λs:Str=>s.cps.toList) h
 simpa[strOf] using this
theorem vY(q:Key)(d:D):∀kvs:List (D×D),(yg kvs q d).map (·.1)=kvs.map (·.1)
 | []=>rfl
 | (k,e)::r=>by
  unfold yg;rw[Qq8,Qq8,vY q d r];split<;>rfl
theorem zf{q:Key}{d:D}:∀{kvs:List (D×D)} {k v:D},(k,v)∈yg kvs q d->(k,v)∈kvs\/(ql k=some q/\v=d)
 | [],_,_,h=>by simp[yg] at h
 | (k',e)::r,k,v,h=>by
  unfold yg at h;rcases Qq4.mp h with h|h
  ·split at h
   ·rename_i hk;cases h;exact .inr ⟨hk,rfl⟩
   ·cases h;exact .inl (Qqj ..)
  ·rcases zf h with h|h
   ·exact .inl (Qqq _ h)
   ·exact .inr h
theorem vO{q:Key}:∀{kvs:List (D×D)},mH kvs q=none->∀k v,(k,v)∈kvs->ql k≠some q
 | [],_,k,v,hm=>by simp at hm
 | (k',e)::r,h,k,v,hm=>by
  unfold mH at h;split at h
  ·cases h
  ·rename_i hk;rcases Qq4.mp hm with hm|hm
   ·cases hm;exact hk
   ·exact vO h k v hm
theorem lY{q:Key}{d:D}:∀{kvs:List (D×D)},mH kvs q=some d->∃k,(k,d)∈kvs/\ql k=some q
 | [],h=>by simp[mH] at h
 | (k',e)::r,h=>by
  unfold mH at h;split at h
  ·rename_i hk;cases h;exact⟨k',Qqj ..,hk⟩
  ·obtain⟨k,h1,h2⟩:=lY h;exact⟨k,Qqq _ h1,h2⟩
theorem Gr.put{x:List Nat}{kvs:List (D×D)}{zs:List Nat}(h:Gr x kvs zs){p:Nat×D}(hp:p∈PV x)(hx:p.1∈x):∃zs',Gr x (RM kvs p) zs'/\0<zs'.length/\zs'.length<=zs.length+1:=by
 unfold RM putD;cases e:mH kvs (.inr (strOf [p.1])) with
 | none=>
  simp only[Option.isSome_none,Bool.false_eq_true,if_false];refine⟨zs++[p.1],⟨?_,?_,λc hc=>?_,λk v hm=>?_⟩,by simp,by simp⟩
  ·rw[Qx1,Qx1,h.keys];rfl
  ·refine List.nodup_append.mpr ⟨h.nd,Qxj.mpr ⟨Qw9,.nil⟩,λa ha b hb=>?_⟩;rcases Qqk.mp hb with rfl;rintro rfl;have hm:D.str [p.1]∈kvs.map (·.1):=by rw[h.keys];exact Qwy.mpr ⟨p.1,ha,rfl⟩
   obtain⟨⟨k,v⟩,h1,h2⟩:=Qwy.mp hm;have h2':k = .str [p.1]:=h2;subst h2';exact vO e _ _ h1 rfl
  ·rcases Qwq.mp hc with hc|hc
   ·exact h.mem c hc
   ·rw[Qqk.mp hc];exact hx
  ·rcases Qwq.mp hm with hm|hm
   ·exact h.vals k v hm
   ·have:=Qqk.mp hm;cases this;exact⟨p.1,rfl,hp⟩
 | some w=>
  simp only[Option.isSome_some,if_true];obtain⟨k0,hk0,_⟩:=lY e;have hne:0<zs.length:=by have:=Qz4 List.length h.keys;rw[Qqv,Qqv] at this;rw[<-this];exact List.length_pos_of_mem hk0
  refine⟨zs,⟨by rw[vY];exact h.keys,h.nd,h.mem,λk v hm=>?_⟩,hne,Nat.le_succ _⟩;rcases zf hm with hm|⟨hk,rfl⟩
  ·exact h.vals k v hm
  ·have hin:k∈(yg kvs (.inr (strOf [p.1])) p.2).map (·.1):=Qwy.mpr ⟨_,hm,rfl⟩;rw[vY,h.keys] at hin;obtain⟨c,hc,rfl⟩:=Qwy.mp hin;have:strOf [c]=strOf [p.1]:=by
    have:=Qw1 hk;exact Sum.inr.inj this
   have e2:=rM this;cases e2;exact⟨p.1,rfl,hp⟩
theorem Gp{x:List Nat}{p:Nat×D}(h:p∈PV x):p.1∈x:=by unfold PV at h;obtain⟨c,hc,h⟩:=Qz0.mp h;obtain⟨v,_,rfl⟩:=Qwy.mp h;exact hc
theorem rK(zs:List (List Nat)):jB (zs.map D.str)=some zs:=by
 induction zs with
 | nil=>rfl
 | cons z r ih=>
  rw[Qq8];unfold jB;rw[ih]
  rfl
theorem Oh{x:List Nat}{kvs:List (D×D)}{zs:List Nat}(h:Gr x kvs zs)(h4:zs.length<=4):jg [.dct kvs]=some (.lst ((jl (zs.map λc=>[c])).map .str)):=by
 have e:kvs.map (·.1)=(zs.map λc=>[c]).map D.str:=by rw[h.keys,Qkx];rfl
 show(jB (kvs.map (·.1))).bind _=_;rw[e,rK];show(if _ then _ else _)=_;rw[if_pos];refine⟨by rw[Qqv];omega,λz hz=>?_⟩;obtain⟨c,_,rfl⟩:=Qwy.mp hz;show 1<=sizeLine
 decide
def prs(kvs:List (D×D))(ks:List D):List D:=ks.map λk=>.tup [k,(jZ (.dct kvs) k).getD .non]
theorem Fx{x:List Nat}{kvs:List (D×D)}{zs:List Nat}(h:Gr x kvs zs)(k:D)(hk:k∈(jl (zs.map λc=>[c])).map D.str):∃c v,k = .str [c]/\jZ (.dct kvs) k=some v/\(c,v)∈PV x:=by
 obtain⟨z,hz,rfl⟩:=Qwy.mp hk;obtain⟨c,hc,rfl⟩:=Qwy.mp ((iK _).mem_iff.mp hz);have hm:D.str [c]∈kvs.map (·.1):=by rw[h.keys];exact Qwy.mpr ⟨c,hc,rfl⟩
 obtain⟨⟨k,v⟩,h1,h2⟩:=Qwy.mp hm;have h2':k = .str [c]:=h2;subst h2';cases e:mH kvs (.inr (strOf [c])) with
 | none=>exact absurd rfl (vO e _ _ h1)
 | some w=>
  obtain⟨k',h3,h4⟩:=lY e;obtain⟨c',rfl,h5⟩:=h.vals k' w h3;have e2:strOf [c']=strOf [c]:=Sum.inr.inj (Qw1 h4);cases rM e2;exact⟨c,w,rfl,e,h5⟩
theorem Gb{x:List Nat}{kvs:List (D×D)}{zs:List Nat}(h:Gr x kvs zs)(h4:zs.length<=4):Qf kvs=some (.tup (prs kvs ((jl (zs.map λc=>[c])).map D.str))):=by
 unfold Qf;rw[Oh h h4];simp only;rw[if_pos]
 ·rfl
 ·refine Qx7.mpr λk hk=>?_;obtain⟨c,v,_,e,_⟩:=Fx h k hk;rw[e];rfl
end iI
namespace K20
open Ev PySem L2
open iI (lQ)
theorem Py:∀(zs:List (List Nat)),zZ [] zs=zs.flatten
 | []=>rfl
 | x::r=>by
  show r.foldl (λacc y=>acc++[]++y) x=(x::r).flatten;have go:∀(r:List (List Nat)) (x:List Nat),r.foldl (λacc y=>acc++[]++y) x=x++r.flatten:=by
   intro r
   induction r with
   | nil=>intro x;simp
   | cons y r ih=>intro x;rw[List.foldl_cons,ih];simp
  rw[go];rfl
theorem rK(zs:List (List Nat)):jB (zs.map D.str)=some zs:=by
 induction zs with
 | nil=>rfl
 | cons z r ih=>
  rw[Qq8];unfold jB;rw[ih]
  rfl
theorem QZ{zs:List (List Nat)}{k:Nat}(h:∀z∈zs,z.length<=k):(zs.map List.length).sum<=zs.length*k:=by
 induction zs with
 | nil=>simp
 | cons z r ih=>
  rw[Qq8,List.sum_cons,Qqy,Nat.add_mul];have h1:=h z (Qqj ..);have h2:=ih λy hy=>h y (Qqq _ hy);omega
theorem Ud{a:eN}{env e:Ev.Env}{ds ys:List D}(h:a env = .ok ds e)(h':zq ds=some ys):lz a env = .ok ys e:=by
 unfold lz;rw[h];show iT (zq ds) e=_;rw[h']
 rfl
def texts(x:List Nat):List (List Nat):=[[],[x.headD 0],[x.getLastD 0],[x.headD 0,x.headD 0],[x.headD 0,x.getLastD 0]]
end K20
namespace jk
open Ev
def kJ:bU:=jH.kJ
def dF:LD:=bW 2 kJ
def gO:bU:=jH.gO
def iV:LD:=bW 5 gO
def fB:bU:=jH.fB
def fj:LD:=bW 1 fB
def gk:bU:=aB (aQ (aM 0) (cD 4 (aH (aj 2) (aH (aj 3) (aH (aj 4) (aH (aj 5) cG)))))) (aB (aQ (aP fD (aA fD 3 (Zi 0)) (Zi 1)) (aj 6)) (aB (dq 7 (cC ak)) (aB (aQ (Zw [35]) (aj 8)) (aB (gq (iH (aA dD 1 (Zw [35]))) (aj 9) (aB (eE (cW (dg (aq dF (Zv 4 (Zv 8 ak)))) (dg (aq dF (Zv 5 (Zv 9 ak))))) (d7 7 (aM 6)) bV) (aB (d7 7 (aM 9)) (aQ (aM 9) (aj 8))))) (bw (aP m6 (Zw []) (wV (aM 7) Aj (Gu (KY Xm (Zi 1))))))))))
def iy:LD:=bW 10 gk
def fH:bU:=aB (aQ (aM 0) (cD 4 (aH (aj 2) (aH (aj 3) (aH (aj 4) (aH (aj 5) cG)))))) (aB (aQ (aq sO (aa (bh 3) ak)) (aj 6)) (aB (aQ (aA dD 1 (Zw [35])) (aj 7)) (aB (dq 8 (cC ak)) (aB (aQ (Zw [35]) (aj 9)) (aB (gq (K1 (Zv 1 ak)) (cD 2 (aH (aj 10) (aH (aj 11) cG))) (aB (aQ (aM 11) (aj 12)) (aB (eE (cW (dg (aA wO 11 (bh 6))) (cW (dg (aq dF (Zv 4 (Zv 9 ak)))) (dg (aq dF (Zv 5 (aa (aA fD 7 (aA dD 10 (Zi 1))) ak)))))) (aQ (aA jZ 6 (bh 11)) (aj 12)) bV) (aB (d7 8 (aM 12)) (eE (dg (aA rm 2 (Zw [111,110,99,101]))) (aQ (aM 11) (aj 9)) (eE (dg (aA PQ 12 (Zw []))) (aQ (aM 12) (aj 9)) bV)))))) (bw (aP m6 (Zw []) (bh 8))))))))
def gB:LD:=bW 13 fH
def fc:bU:=aB (eE (dg (aq fj (Zv 0 ak))) (bw (aq iy (Zv 0 (Zv 1 ak)))) bV) (bw (aq gB (Zv 0 (Zv 1 ak))))
def fZ:LD:=bW 2 fc
def iB:bU:=aB (eE (dg (aA rm 0 (Zw [114,105,103,104,116]))) (bw (sS (aq fZ (aa (aq iV (Zv 1 ak)) (aa (sS (aM 2)) ak))))) bV) (bw (aq fZ (Zv 1 (Zv 2 ak))))
def gD:LD:=bW 3 iB
def p6:bU:=bw (bY (aa (aA fD 0 (Zi 0)) (aa (aA fD 0 (Zi 1)) (aa (aA fD 0 (Zi 3)) (aa (aA fD 0 (Zi 2)) ak)))))
open Ev PySem L2
abbrev XS:=iI.XS
open iI (Gm jy Gr PV SG Qf prs one others Mm Ga Fx RM lQ Gp Gb)
theorem acu:∀x∈XS,∀p∈PV x,∃t,p.2 = .str t/\t.length<=1/\∀c∈t,c∈x:=by
 intro x hx p hp;obtain⟨c,hc,h⟩:=Qz0.mp hp;obtain⟨v,hv,rfl⟩:=Qwy.mp h;obtain⟨t,ht,rfl⟩:=Qwy.mp hv;refine⟨t,rfl,?_⟩;rcases Qwq.mp (List.mem_filter.mp ht).1 with h|h
 ·obtain⟨a,ha,rfl⟩:=Qwy.mp h;exact⟨Qq1 1,λc hc=>by rw[Qqk.mp hc];exact ha⟩
 ·rw[Qqk.mp h];exact⟨Qxk 1,λc hc=>absurd hc Qw9⟩
abbrev Pr:=Nat×List Nat
def encC(p:Pr):D:=.tup [.str [p.1],.str p.2]
inductive Ce (x:List Nat):D->Prop
 | put {c:Nat}:c∈x->Ce x (.tup [.tup [.str [],.str [c]]])
 | chg {ps:List Pr}:0<ps.length->ps.length<=4->(∀p∈ps,p.1∈x/\p.2.length<=1/\∀c∈p.2,c∈x)->Ce x (.tup (ps.map encC))
theorem Ex{x:List Nat}{kvs:List (D×D)}(hx:x∈XS):∀(ks:List D),(∀k∈ks,∃c v,k = .str [c]/\jZ (.dct kvs) k=some v/\(c,v)∈PV x)->∃ps:List Pr,prs kvs ks=ps.map encC/\ps.length=ks.length/\∀p∈ps,p.1∈x/\p.2.length<=1/\∀c∈p.2,c∈x
 | [],_=>⟨[],rfl,rfl,λp hp=>by simp at hp⟩
 | k::ks,h=>by
  obtain⟨c,v,rfl,e,hv⟩:=h k (Qqj ..);obtain⟨t,et,ht⟩:=acu x hx _ hv;obtain⟨ps,e1,e2,e3⟩:=Ex hx ks λk hk=>h k (Qqq _ hk);refine⟨(c,t)::ps,?_,by rw[Qqy,Qqy,e2],λp hp=>?_⟩
  ·unfold prs at e1 ⊢;rw[Qq8,e1,e];have et':v = .str t:=et;rw[et']
   rfl
  ·rcases Qq4.mp hp with rfl|hp
   ·exact⟨Gp hv,ht⟩
   ·exact e3 p hp
structure jU(x:List Nat)(w ch l r:D):Prop where
 way:w = .str [111,110,99,101]\/w = .str [97,108,111,110,103]
 chg:Ce x ch
 left:l∈SG x
 right:r∈SG x
def fit(l:D)(a:Nat):Bool:=iI.isT (dF [l,.str [a]])
theorem Ik(a:Nat):∀z:List Nat,Qs (.str [a]) (z.map λc=>.str [c])=some (z.contains a)
 | []=>rfl
 | c::z=>by
  rw[Qq8];unfold Qs;rw[Ik a z];show some (([c] == [a])||z.contains a)=_;rw[List.contains_cons]
  congr 2
  by_cases h:a=c
  ·subst h;simp
  ·rw[beq_false_of_ne h,beq_false_of_ne λq=>h (Qx8 q).1.symm]
theorem fX:∀x∈XS,∀l∈SG x,∀a∈35::x,dF [l,.str [a]]=some (.bl (fit l a)):=by
 intro x hx l hl a ha;have h:∃b,dF [l,.str [a]]=some (.bl b):=by
  rcases Qq4.mp hl with rfl|hl
  ·exact⟨true,rfl⟩
  ·obtain⟨d,_,rfl⟩:=Qwy.mp hl;unfold iI.sgR;generalize(((List.range (x.length+1)).filter (iI.bit d)).map λk=>(35::x).getD k 0)=z;refine⟨z.contains a,bO (env:=[Zf (.tup (z.map λc=>.str [c])),Zs [a]]) (bD ?_)⟩;have e:aA gIn 1 (bh 0) [Zf (.tup (z.map λc=>.str [c])),Zs [a]] = .ok (.bl (z.contains a)) [Zf (.tup (z.map λc=>.str [c])),Zs [a]]:=by
    refine bA rfl rfl rfl ?_;show(Option.map D.bl (Qs (.str [a]) (z.map λc=>.str [c]))).or _=_;rw[Ik]
    rfl
   exact(KZ rfl).trans e
 obtain⟨b,e⟩:=h;unfold fit;rw[e];cases b<;>rfl
open iI (SG cM)
theorem nG{a b:List Nat}(h:a.length+b.length<=100000):dD (.str a) (.str b)=some (.str (a++b)):=by show(if a.length+b.length<=sizeLine then _ else _)=_;rw[if_pos (Qq2 h (by decide))]
theorem dZ{a b:gn}{env:Ev.Env}{p q:Bool}(h1:a env = .ok p env)(h2:b env = .ok q env):cW a b env = .ok (p&&q) env:=by
 unfold cW;rw[h1];cases p with
 | true=>exact h2
 | false=>rfl
theorem MN{zs:List (List Nat)}(h1:zs.length<=80000)(h2:∀z∈zs,z.length<=2):m6 (.str []) (.lst (zs.map .str))=some (.str zs.flatten):=by
 have hf:joinFits [] zs=true:=by refine Qw4 ?_;have:=K20.QZ h2;show _+zs.length*0<=_;omega
 show(match jB (zs.map D.str) with|some xs=>if joinFits [] xs=true then some (D.str (zZ [] xs)) else none|none=>none)=_;rw[K20.rK];show(if joinFits [] zs=true then _ else _)=_;rw[if_pos hf,K20.Py]
theorem Nq{all done rest:List D}{d:D}(h:all=done++d::rest):all[done.length]? = some d:=by rw[h];simp
theorem getD_get{z:List Nat}{n:Nat}(h:n<z.length):z[n]? = some (z.getD n 0):=by rw[Qw0,Qwz h];rfl
theorem aeb{z:List Nat}{n:Nat}(h:n<z.length):fD (.str z) (.int (n:Int))=some (.str [z.getD n 0]):=by
 show(xj z (n:Int)).map _=_;rw[lq (getD_get h)]
 rfl
theorem Z0{z done rest:List _}{d:D}(h:pq z=done++d::rest):d = .str [z.getD done.length 0]/\done.length<z.length:=by have h1:=Nq h;unfold pq at h1;rw[Qw5] at h1;obtain⟨c,hc,rfl⟩:=Qwk.mp h1;have hl:done.length<z.length:=(Qqw.mp hc).1;rw[getD_get hl] at hc;cases hc;exact⟨rfl,hl⟩
theorem Uo{α:Type}(xs:List α):cutD xs none (some (-1))=xs.dropLast:=by
 unfold cutD;have e1:HT.jW xs.length xs.length (some (-1))=((-1:Int)+(xs.length:Int)).toNat:=rfl;have e2:HT.jW xs.length 0 none=0:=rfl;rw[e1,e2,List.drop_zero,List.dropLast_eq_take]
 congr 1
 omega
abbrev ed(w:List Nat):List Nat:=35::(w++[35])
abbrev sg(w:List Nat)(n:Nat):Nat:=(ed w).getD n 0
section
variable{x w:List Nat}{l r:D}
theorem abU:(ed w).length=w.length+2:=by simp
theorem Ed(hw:∀c∈w,c∈x){n:Nat}(h:n<w.length+2):sg w n∈35::x:=by
 have h1:n<(ed w).length:=by rw[abU];exact h
 have:sg w n∈ed w:=Qxv (getD_get h1);rcases Qq4.mp this with e|e
 ·rw[e];exact Qqj ..
 ·rcases Qwq.mp e with e|e
  ·exact Qqq _ (hw _ e)
  ·rw[Qqk.mp e];exact Qqj ..
def pc(l r:D)(c:Nat)(w:List Nat)(n:Nat):List (List Nat):=if (fit l (sg w n)&&fit r (sg w (n+1)))=true then [[c]] else []
def pin(l r:D)(c:Nat)(w:List Nat):Nat->List (List Nat)
 | 0=>[]
 | n+1=>pin l r c w n++(pc l r c w n++[[sg w (n+1)]])
theorem YG(c:Nat)(n:Nat):(pc l r c w n).length<=1/\∀z∈pc l r c w n,z.length=1:=by
 unfold pc;split
 ·exact⟨Qq1 _,λz hz=>by rw[Qqk.mp hz];rfl⟩
 ·exact⟨Qxk _,λz hz=>by simp at hz⟩
theorem EY(c:Nat):∀n,(pin l r c w n).length<=2*n/\∀z∈pin l r c w n,z.length=1
 | 0=>⟨Qq1 _,λz hz=>by simp[pin] at hz⟩
 | n+1=>by
  obtain⟨h1,h2⟩:=EY c n;obtain⟨h3,h4⟩:=YG (l:=l) (r:=r) (w:=w) c n;unfold pin;refine⟨by rw[Qqx,Qqx,Qq6];omega,λz hz=>?_⟩;rcases Qwq.mp hz with hz|hz
  ·exact h2 z hz
  ·rcases Qwq.mp hz with hz|hz
   ·exact h4 z hz
   ·rw[Qqk.mp hz];rfl
theorem aev{zs:List (List Nat)}(h:∀z∈zs,z.length=1):zs.flatten.length=zs.length:=by
 induction zs with
 | nil=>rfl
 | cons z t ih=>rw[List.flatten_cons,Qqx,h z (Qqj ..),ih λy hy=>h y (Qqq _ hy),Qqy];omega
def inn(l r:D)(c:Nat)(w:List Nat):List Nat:=(pin l r c w w.length++pc l r c w w.length).flatten
theorem zB(c:Nat):(pin l r c w (w.length+1)).dropLast=pin l r c w w.length++pc l r c w w.length:=by show(pin l r c w w.length++(pc l r c w w.length++[[sg w (w.length+1)]])).dropLast=_;rw[<-Qx3,List.dropLast_concat]
variable(hx:x∈XS)(hl:l∈SG x)(hr:r∈SG x)(hw:∀c∈w,c∈x)(hn:w.length<=30000)
def QF:bU:=jH.oY
include hx hl hr
theorem Vq{c a s:Nat}(ha:a∈35::x)(hs:s∈35::x)(acc:List D)(hac:acc.length<=80000)(a0 a1 a2 a3:OD) :
  QF [a0,a1,a2,a3,Zf l,Zf r,Zs [c],Zl acc,Zs [a],Zs [s]] =
   .nx [a0,a1,a2,a3,Zf l,Zf r,Zs [c],Zl (acc++((if (fit l a&&fit r s)=true then [.str [c]] else [])++[.str [s]])),Zs [s],Zs [s]]:=by
 have t:cW (dg (aq dF (Zv 4 (Zv 8 ak)))) (dg (aq dF (Zv 5 (Zv 9 ak)))) [a0,a1,a2,a3,Zf l,Zf r,Zs [c],Zl acc,Zs [a],Zs [s]] = .ok (fit l a&&fit r s) [a0,a1,a2,a3,Zf l,Zf r,Zs [c],Zl acc,Zs [a],Zs [s]]:=
  dZ (cU (aF rfl (fX x hx l hl a ha))) (cU (aF rfl (fX x hx r hr s hs)))
 have tl:∀acc:List D,acc.length<=80001->aB (d7 7 (aM 9)) (aQ (aM 9) (aj 8)) [a0,a1,a2,a3,Zf l,Zf r,Zs [c],Zl acc,Zs [a],Zs [s]] = .nx [a0,a1,a2,a3,Zf l,Zf r,Zs [c],Zl (acc++[.str [s]]),Zs [s],Zs [s]]:=λacc hac=>
  (az (cM (i:=7) (e:=[a0,a1,a2,a3,Zf l,Zf r,Zs [c],Zl acc,Zs [a],Zs [s]]) rfl rfl rfl (Qw2 hac (by decide)))).trans rfl
 unfold QF;cases hc:fit l a&&fit r s with
 | true=>
  rw[hc] at t;rw[if_pos rfl];refine(az (e:=[a0,a1,a2,a3,Zf l,Zf r,Zs [c],Zl (acc++[.str [c]]),Zs [a],Zs [s]]) ?_).trans ?_
  ·exact(gf t).trans ((cM (i:=7) (e:=[a0,a1,a2,a3,Zf l,Zf r,Zs [c],Zl acc,Zs [a],Zs [s]]) rfl rfl rfl (Qw2 hac (by decide))).trans rfl)
  ·rw[tl _ (by rw[Qqx,Qq6];omega),Qx3]
 | false=>
  rw[hc] at t;rw[if_neg Qw6];exact(az ((dU t).trans rfl)).trans (tl acc (by omega))
theorem Wo(c n:Nat):((pin l r c w (n+1)).map D.str)=(pin l r c w n).map D.str++((if (fit l (sg w n)&&fit r (sg w (n+1)))=true then [.str [c]] else [])++[.str [sg w (n+1)]]):=by show(pin l r c w n++(pc l r c w n++[[sg w (n+1)]])).map D.str=_;rw[Qx1,Qx1];unfold pc;split<;>rfl
include hw hn
theorem with_put_in(wy:D)(c:Nat):iy [.tup [wy,.tup [.tup [.str [],.str [c]]],l,r],.str w]=some (.str (inn l r c w)):=by
 generalize hR:D.tup [wy,.tup [.tup [.str [],.str [c]]],l,r]=R;generalize hC:D.tup [.tup [.str [],.str [c]]]=ch;obtain⟨e',f1,hd,a9,rfl⟩:=mz (g:=aj 9) (pq (w++[35]))
  (λdone env=>done.length<=w.length+1/\∃a9,env=[Zf R,Zs w,Zf wy,Zf ch,Zf l,Zf r,Zs [c],Zl ((pin l r c w done.length).map .str),Zs [sg w done.length],a9])
  (λdone s rest hall env ⟨hd,a9,he⟩=>by
   subst he;obtain⟨rfl,hdl⟩:=Z0 hall;have aiz:done.length<w.length+1:=by rw[Qqx,Qq6] at hdl;exact hdl
   have hp:=(EY (l:=l) (r:=r) (w:=w) c done.length).1;refine⟨_,_,rfl,Vq hx hl hr (s:=sg w (done.length+1)) (Ed (w:=w) hw (by omega)) (Ed (w:=w) hw (by omega)) _ (by rw[Qqv];omega) _ _ _ _,by rw[Qqx,Qq6];omega,Zs [sg w (done.length+1)],?_⟩;rw[Qqx,Qq6,Wo hx hl hr])
  [Zf R,Zs w,Zf wy,Zf ch,Zf l,Zf r,Zs [c],Zl [],Zs [35],Zn] ⟨Qxk _,Zn,rfl⟩
 have hlen:(pq (w++[35])).length=w.length+1:=by unfold pq;rw[Qqv,Qqx,Qq6]
 rw[hlen] at f1;have hp:=EY (l:=l) (r:=r) (w:=w) c (w.length+1);refine bO (env:=[Zf R,Zs w,Zf wy,Zf ch,Zf l,Zf r,Zs [c],Zf (.lst ((pin l r c w (w.length+1)).map .str)),Zs [sg w (w.length+1)],a9]) ?_;unfold gk;refine(az (e:=[Zf R,Zs w,Zf wy,Zf ch,Zf l,Zf r,Zn,Zn,Zn,Zn]) (by rw[<-hR,<-hC];rfl)).trans ?_;refine(az (e:=[Zf R,Zs w,Zf wy,Zf ch,Zf l,Zf r,Zs [c],Zn,Zn,Zn]) (by rw[<-hC];rfl)).trans ?_;refine(az rfl).trans ?_;refine(az rfl).trans ?_;refine(az ((eU ?_).trans f1)).trans ?_
 ·refine pQ (bA rfl rfl rfl (nG (by show w.length+1<=100000;omega))) rfl
 ·refine bD (bH rfl (y:=.lst ((pin l r c w w.length++pc l r c w w.length).map .str)) ?_ ?_)
  ·have ec:cutD ((pin l r c w (w.length+1)).map D.str) none (some (-1))=(pin l r c w w.length++pc l r c w w.length).map D.str:=by
    rw[Uo,<-List.map_dropLast,zB c]
   rw[<-ec]
   rfl
  ·rw[<-zB c];unfold inn;rw[<-zB c];refine MN ?_ λz hz=>?_
   ·rw[List.length_dropLast];omega
   ·rw[hp.2 z (List.dropLast_subset _ hz)];decide
end
def vK(x:List Nat)(kvs:List (D×D)):Prop:=∀k v,(k,v)∈kvs->∃t:List Nat,v = .str t/\t.length<=1/\∀c∈t,c∈x
theorem vK.put{x:List Nat}{kvs:List (D×D)}(h:vK x kvs)(k:D)(q:Key)(t:List Nat)(h1:t.length<=1)(h2:∀c∈t,c∈x):vK x (putD kvs k q (.str t)):=by
 intro k' v hm;unfold putD at hm;split at hm
 ·rcases iI.zf hm with hm|⟨_,rfl⟩
  ·exact h k' v hm
  ·exact⟨t,rfl,h1,h2⟩
 ·rcases Qwq.mp hm with hm|hm
  ·exact h k' v hm
  ·cases Qqk.mp hm;exact⟨t,rfl,h1,h2⟩
theorem vK.all{x:List Nat}:∀(ps:List Pr) (kvs:List (D×D)),vK x kvs->(∀p∈ps,p.1∈x/\p.2.length<=1/\∀c∈p.2,c∈x)->vK x (kY kvs (ps.map λp=>(.str [p.1],.str p.2)))
 | [],kvs,h,_=>h
 | p::ps,kvs,h,hp=>by
  have h1:=hp p (Qqj ..);exact vK.all ps _ (h.put (.str [p.1]) (.inr (strOf [p.1])) p.2 h1.2.1 h1.2.2) λp hm=>hp p (Qqq _ hm)
theorem CQ:∀(ps:List Pr),pF (ps.map encC)=some (ps.map λp=>(.str [p.1],.str p.2))
 | []=>rfl
 | p::ps=>by
  rw[Qq8];unfold pF;rw[CQ ps]
  rfl
theorem vh{x:List Nat}{ps:List Pr}(hp:∀p∈ps,p.1∈x/\p.2.length<=1/\∀c∈p.2,c∈x):∃kvs,sO [.tup (ps.map encC)]=some (.dct kvs)/\vK x kvs:=by
 refine⟨kY [] (ps.map λp=>(.str [p.1],.str p.2)),?_,vK.all ps [] (λk v h=>by simp at h) hp⟩;show(pF (ps.map encC)).map _=_;rw[CQ]
 rfl
def look(kvs:List (D×D))(s:Nat):Option (List Nat):=match mH kvs (.inr (strOf [s])) with
 | some (.str t)=>some t
 | _=>none
theorem yE{x:List Nat}{kvs:List (D×D)}(h:vK x kvs)(s:Nat):wO (.str [s]) (.dct kvs)=some (.bl (look kvs s).isSome):=by
 show some (D.bl (mH kvs (.inr (strOf [s]))).isSome)=_;unfold look;cases e:mH kvs (.inr (strOf [s])) with
 | none=>rfl
 | some v=>
  obtain⟨k,hk,_⟩:=iI.lY e;obtain⟨t,rfl,_⟩:=h k v hk
  rfl
theorem iR{x:List Nat}{kvs:List (D×D)}(h:vK x kvs){s:Nat}{t:List Nat}(hs:look kvs s=some t):jZ (.dct kvs) (.str [s])=some (.str t)/\t.length<=1/\∀c∈t,c∈x:=by
 unfold look at hs;split at hs
 ·rename_i u e;cases hs;obtain⟨k,hk,_⟩:=iI.lY e;obtain⟨t',h1,h2⟩:=h k _ hk;cases h1;exact⟨e,h2⟩
 ·cases hs
section
variable{x w:List Nat}{l r:D}{kvs:List (D×D)}
def nw(kvs:List (D×D))(l r:D)(w:List Nat)(near n:Nat):List Nat:=if ((look kvs (sg w (n+1))).isSome&&(fit l near&&fit r (sg w (n+2))))=true then (look kvs (sg w (n+1))).getD [] else [sg w (n+1)]
def eF(al:Bool)(w:List Nat)(made:List (List Nat))(n:Nat):Nat:=if al=true then (35::made.flatten).getLastD 0 else sg w n
def cg(al:Bool)(kvs:List (D×D))(l r:D)(w:List Nat):Nat->List (List Nat)
 | 0=>[]
 | n+1=>cg al kvs l r w n++[nw kvs l r w (eF al w (cg al kvs l r w n) n) n]
theorem Mg(hw:∀c∈w,c∈x){n:Nat}(h:n<w.length):sg w (n+1)=w.getD n 0/\sg w (n+1)∈x:=by
 have e:sg w (n+1)=w.getD n 0:=by show(w++[35]).getD n 0=_;rw[Qw0,Qw0,Qw3 h]
 exact⟨e,by rw[e];exact hw _ (Qxv (getD_get h))⟩
theorem SJ(hk:vK x kvs)(hw:∀c∈w,c∈x){n:Nat}(h:n<w.length)(near:Nat):(nw kvs l r w near n).length<=1/\∀c∈nw kvs l r w near n,c∈x:=by
 unfold nw;split
 ·cases e:look kvs (sg w (n+1)) with
  | none=>exact⟨Qxk _,λc hc=>by simp at hc⟩
  | some t=>exact(iR hk e).2
 ·exact⟨Qq1 _,λc hc=>by rw[Qqk.mp hc];exact(Mg hw h).2⟩
theorem Dp(al:Bool)(hk:vK x kvs)(hw:∀c∈w,c∈x):∀n,n<=w.length->(cg al kvs l r w n).length=n/\∀z∈cg al kvs l r w n,z.length<=1/\∀c∈z,c∈x
 | 0,_=>⟨rfl,λz hz=>by simp[cg] at hz⟩
 | n+1,h=>by
  obtain⟨h1,h2⟩:=Dp al hk hw n (by omega);unfold cg;refine⟨by rw[Qqx,Qq6,h1],λz hz=>?_⟩;rcases Qwq.mp hz with hz|hz
  ·exact h2 z hz
  ·rw[Qqk.mp hz];exact SJ hk hw (by omega) _
theorem XH(al:Bool)(hk:vK x kvs)(hw:∀c∈w,c∈x){n:Nat}(h:n<=w.length):(cg al kvs l r w n).flatten.length<=n:=by obtain⟨h1,h2⟩:=Dp (l:=l) (r:=r) al hk hw n h;rw[List.length_flatten];have:=K20.QZ (k:=1) λz hz=>(h2 z hz).1;omega
theorem Ie:∀(a:Nat) (z:List Nat),(a::z).getLastD 0∈a::z
 | a,[]=>Qqj ..
 | a,b::z=>Qqq _ (Ie b z)
theorem S6(al:Bool)(hk:vK x kvs)(hw:∀c∈w,c∈x){n:Nat}(h:n<=w.length):eF al w (cg al kvs l r w n) n∈35::x:=by
 unfold eF;split
 ·rcases Qq4.mp (Ie 35 (cg al kvs l r w n).flatten) with e|e
  ·rw[e];exact Qqj ..
  ·obtain⟨z,hz,hc⟩:=List.mem_flatten.mp e;exact Qqq _ (((Dp (l:=l) (r:=r) al hk hw n h).2 z hz).2 _ hc)
 ·exact Ed hw (by omega)
theorem agJ(n:Nat):dD (.int (n:Int)) (.int 1)=some (.int ((n+1:Nat):Int)):=rfl
theorem zM(made:List (List Nat))(t:List Nat)(n:Nat)(h:t.length<=1):eF true w (made++[t]) (n+1)=if t=[] then eF true w made n else t.headD 0:=by
 unfold eF;rw[if_pos rfl,if_pos rfl]
 match t,h with
 | [],_=>rw[if_pos rfl];simp
 | [a],_=>
  rw[if_neg (by simp)];rw[Qz9];have:∀(b:Nat) (z:List Nat),(b::(z++[a])).getLastD 0=a:=by
   intro b z
   induction z generalizing b with
   | nil=>rfl
   | cons c z ih=>exact ih c
  exact this 35 _
def gZ(al:Bool):D:=if al=true then .str [97,108,111,110,103] else .str [111,110,99,101]
def QL:bU:=jH.nD
variable(hx:x∈XS)(hl:l∈SG x)(hr:r∈SG x)(hw:∀c∈w,c∈x)(hn:w.length<=30000)(hk:vK x kvs)
include hx hl hr hw hn hk
theorem Vs(al:Bool)(n:Nat)(hnn:n<w.length)(a0 a1 a3 a12:OD) :
  ∃b12,QL [a0,a1,Zf (gZ al),a3,Zf l,Zf r,Zf (.dct kvs),Zs (w++[35]),Zl ((cg al kvs l r w n).map .str),Zs [eF al w (cg al kvs l r w n) n],Zf (.int (n:Int)),Zs [sg w (n+1)],a12] =
   .nx [a0,a1,Zf (gZ al),a3,Zf l,Zf r,Zf (.dct kvs),Zs (w++[35]),Zl ((cg al kvs l r w (n+1)).map .str),Zs [eF al w (cg al kvs l r w (n+1)) (n+1)],Zf (.int (n:Int)),Zs [sg w (n+1)],b12]:=by
 have hcl:=(Dp (l:=l) (r:=r) al hk hw n (by omega)).1;have hnm:=S6 (l:=l) (r:=r) al hk hw (n:=n) (by omega);have hno:=SJ (l:=l) (r:=r) hk hw hnn (eF al w (cg al kvs l r w n) n);have hcg:cg al kvs l r w (n+1)=cg al kvs l r w n++[nw kvs l r w (eF al w (cg al kvs l r w n) n) n]:=rfl;have i2:=aeb (z:=w++[35]) (n:=n+1) (by rw[Qqx,Qq6];omega);have h2m:sg w (n+2)∈35::x:=Ed hw (by omega);rw[hcg];generalize hM:cg al kvs l r w n=made at *;generalize hN:eF al w made n=near at *;have hnw:nw kvs l r w near n=if ((look kvs (sg w (n+1))).isSome&&(fit l near&&fit r (sg w (n+2))))=true then (look kvs (sg w (n+1))).getD [] else [sg w (n+1)]:=rfl
 generalize hT:nw kvs l r w near n=t at *;refine⟨Zs t,?_⟩;unfold QL;refine(az rfl).trans ?_;refine(az (e:=[a0,a1,Zf (gZ al),a3,Zf l,Zf r,Zf (.dct kvs),Zs (w++[35]),Zl (made.map .str),Zs [near],Zf (.int (n:Int)),Zs [sg w (n+1)],Zs t]) ?_).trans ?_
 ·have tt:cW (dg (aA wO 11 (bh 6))) (cW (dg (aq dF (Zv 4 (Zv 9 ak)))) (dg (aq dF (Zv 5 (aa (aA fD 7 (aA dD 10 (Zi 1))) ak))))) [a0,a1,Zf (gZ al),a3,Zf l,Zf r,Zf (.dct kvs),Zs (w++[35]),Zl (made.map .str),Zs [near],Zf (.int (n:Int)),Zs [sg w (n+1)],Zs [sg w (n+1)]] = .ok ((look kvs (sg w (n+1))).isSome&&(fit l near&&fit r (sg w (n+2)))) [a0,a1,Zf (gZ al),a3,Zf l,Zf r,Zf (.dct kvs),Zs (w++[35]),Zl (made.map .str),Zs [near],Zf (.int (n:Int)),Zs [sg w (n+1)],Zs [sg w (n+1)]]:=by
   refine dZ (cU (bA rfl rfl rfl (yE hk _))) (dZ (cU (aF rfl (fX x hx l hl _ hnm))) (cU (aF ?_ (fX x hx r hr _ h2m))));refine aJ (d:=r) rfl (aJ ?_ bK);exact bA rfl (bA rfl rfl rfl (agJ n)) rfl i2
  cases hc:(look kvs (sg w (n+1))).isSome&&(fit l near&&fit r (sg w (n+2))) with
  | true=>
   rw[hc] at tt hnw;rw[if_pos rfl] at hnw;obtain⟨u,hu⟩:=Qx9.mp (Qzv.mp hc).1;rw[hu] at hnw;cases hnw;exact(gf tt).trans (bI (bA rfl rfl rfl (iR hk hu).1) rfl)
  | false=>
   rw[hc] at tt hnw;rw[if_neg Qw6] at hnw;rw[hnw];exact(dU tt).trans rfl
 refine(az (e:=[a0,a1,Zf (gZ al),a3,Zf l,Zf r,Zf (.dct kvs),Zs (w++[35]),Zl ((made++[t]).map .str),Zs [near],Zf (.int (n:Int)),Zs [sg w (n+1)],Zs t]) ?_).trans ?_
 ·rw[Qx1];exact(cM (i:=8) (e:=[a0,a1,Zf (gZ al),a3,Zf l,Zf r,Zf (.dct kvs),Zs (w++[35]),Zl (made.map .str),Zs [near],Zf (.int (n:Int)),Zs [sg w (n+1)],Zs t]) rfl rfl rfl (by rw[Qqv,hcl];exact Qw2 (show n<=30000 by omega) (by decide))).trans rfl
 cases al with
 | false=>exact(gf (e:=_) rfl).trans rfl
 | true=>
  refine(dU (e:=_) rfl).trans ?_;rw[zM made t n hno.1,hN]
  match t,hno.1 with
  | [],_=>exact(dU (e:=_) rfl).trans rfl
  | [a],_=>exact(gf (e:=_) rfl).trans rfl
theorem Xw{done rest:List D}{d:D}(h:xJ w=done++d::rest):d = .tup [.int (done.length:Int),.str [sg w (done.length+1)]]/\done.length<w.length:=by have h1:=Nq h;unfold xJ at h1;rw[Qw5] at h1;obtain⟨p,hp,rfl⟩:=Qwk.mp h1;rw[List.getElem?_zipIdx] at hp;obtain⟨c,hc,rfl⟩:=Qwk.mp hp;have hl:done.length<w.length:=(Qqw.mp hc).1;rw[getD_get hl] at hc;cases hc;refine⟨?_,hl⟩;rw[(Mg hw hl).1,Nat.zero_add]
def out(al:Bool)(kvs:List (D×D))(l r:D)(w:List Nat):List Nat:=(cg al kvs l r w w.length).flatten
theorem with_changes(al:Bool)(ch:D)(hd:sO [ch]=some (.dct kvs)):gB [.tup [gZ al,ch,l,r],.str w]=some (.str (out al kvs l r w)):=by
 generalize hR:D.tup [gZ al,ch,l,r]=R;obtain⟨e',f1,hdl,a10,a11,a12,rfl⟩:=mz (g:=cD 2 (aH (aj 10) (aH (aj 11) cG))) (xJ w)
  (λdone env=>done.length<=w.length/\∃a10 a11 a12,env=[Zf R,Zs w,Zf (gZ al),Zf ch,Zf l,Zf r,Zf (.dct kvs),Zs (w++[35]),Zl ((cg al kvs l r w done.length).map .str),Zs [eF al w (cg al kvs l r w done.length) done.length],a10,a11,a12])
  (λdone s rest hall env ⟨hdl,a10,a11,a12,he⟩=>by
   subst he;obtain⟨rfl,hdl⟩:=Xw hx hl hr hw hn hk hall;obtain⟨b12,hb⟩:=Vs hx hl hr hw hn hk al done.length hdl (Zf R) (Zs w) (Zf ch) a12;refine⟨_,_,rfl,hb,by rw[Qqx,Qq6];omega,Zf (.int (done.length:Int)),Zs [sg w (done.length+1)],b12,?_⟩;rw[Qqx,Qq6])
  [Zf R,Zs w,Zf (gZ al),Zf ch,Zf l,Zf r,Zf (.dct kvs),Zs (w++[35]),Zl [],Zs [35],Zn,Zn,Zn] ⟨Qxk _,Zn,Zn,Zn,by cases al<;>rfl⟩
 have hlen:(xJ w).length=w.length:=by unfold xJ;rw[Qqv,List.length_zipIdx]
 rw[hlen] at f1;have hok:=Dp (l:=l) (r:=r) al hk hw w.length (Qq1 _);refine bO (env:=[Zf R,Zs w,Zf (gZ al),Zf ch,Zf l,Zf r,Zf (.dct kvs),Zs (w++[35]),Zl ((cg al kvs l r w w.length).map .str),Zs [eF al w (cg al kvs l r w w.length) w.length],a10,a11,a12]) ?_;unfold fH;refine(az (e:=[Zf R,Zs w,Zf (gZ al),Zf ch,Zf l,Zf r,Zn,Zn,Zn,Zn,Zn,Zn,Zn]) (by rw[<-hR];rfl)).trans ?_;refine(az (e:=[Zf R,Zs w,Zf (gZ al),Zf ch,Zf l,Zf r,Zf (.dct kvs),Zn,Zn,Zn,Zn,Zn,Zn]) ?_).trans ?_
 ·exact bI (aF rfl hd) rfl
 refine(az (e:=[Zf R,Zs w,Zf (gZ al),Zf ch,Zf l,Zf r,Zf (.dct kvs),Zs (w++[35]),Zn,Zn,Zn,Zn,Zn]) ?_).trans ?_
 ·exact bI (bA rfl rfl rfl (nG (by show w.length+1<=100000;omega))) rfl
 refine(az rfl).trans ?_;refine(az rfl).trans ?_;refine(az ((eU rfl).trans f1)).trans ?_;refine bD (bH rfl rfl ?_);exact MN (by rw[hok.1];omega) λz hz=>Qq2 (hok.2 z hz).1 (by decide)
theorem aaD(al:Bool):(∀c∈out al kvs l r w,c∈x)/\(out al kvs l r w).length<=2*w.length+1:=by
 unfold out;refine⟨λc hc=>?_,?_⟩
 ·obtain⟨z,hz,hcz⟩:=List.mem_flatten.mp hc;exact((Dp (l:=l) (r:=r) al hk hw w.length (Qq1 _)).2 z hz).2 c hcz
 ·have:=XH (l:=l) (r:=r) al hk hw (Qq1 _);omega
end
section
variable{x w:List Nat}{l r:D}
theorem YH{c:Nat}(hc:c∈x)(n:Nat):∀z∈pc l r c w n,∀d∈z,d∈x:=by
 unfold pc;split
 ·intro z hz d hd;rw[Qqk.mp hz] at hd;rw[Qqk.mp hd];exact hc
 ·intro z hz;simp at hz
theorem R0{c:Nat}(hc:c∈x)(hw:∀c∈w,c∈x):∀n,n<=w.length->∀z∈pin l r c w n,∀d∈z,d∈x
 | 0,_=>λz hz=>by simp[pin] at hz
 | n+1,h=>by
  intro z hz d hd;unfold pin at hz;rcases Qwq.mp hz with hz|hz
  ·exact R0 hc hw n (by omega) z hz d hd
  ·rcases Qwq.mp hz with hz|hz
   ·exact YH hc n z hz d hd
   ·rw[Qqk.mp hz] at hd;rw[Qqk.mp hd];exact(Mg hw (by omega)).2
theorem abH{c:Nat}(hc:c∈x)(hw:∀c∈w,c∈x):(∀d∈inn l r c w,d∈x)/\(inn l r c w).length<=2*w.length+1:=by
 unfold inn;refine⟨λd hd=>?_,?_⟩
 ·obtain⟨z,hz,Vi⟩:=List.mem_flatten.mp hd;rcases Qwq.mp hz with hz|hz
  ·exact R0 hc hw w.length (Qq1 _) z hz d Vi
  ·exact YH hc _ z hz d Vi
 ·have h1:=EY (l:=l) (r:=r) (w:=w) c w.length;have h2:=YG (l:=l) (r:=r) (w:=w) c w.length;rw[aev λz hz=>(Qwq.mp hz).elim (h1.2 z) (h2.2 z),Qqx];omega
end
theorem acR{w:D}(h:w = .str [111,110,99,101]\/w = .str [97,108,111,110,103]):∃al,w=gZ al:=by
 rcases h with rfl|rfl
 ·exact⟨false,rfl⟩
 ·exact⟨true,rfl⟩
def sides:List D:=[.str [108,101,102,116],.str [114,105,103,104,116]]
theorem Ac{x w:List Nat}{wy ch l r:D}(hx:x∈XS)(h:jU x wy ch l r)(hw:∀c∈w,c∈x)(hn:w.length<=30000):∃o:List Nat,fZ [.tup [wy,ch,l,r],.str w]=some (.str o)/\(∀c∈o,c∈x)/\o.length<=2*w.length+1:=by
 obtain⟨al,rfl⟩:=acR h.way;cases h.chg with
 | put hc=>
  rename_i c;refine⟨inn l r c w,?_,abH hc hw⟩
  ·refine bO (env:=[Zf (.tup [gZ al,.tup [.tup [.str [],.str [c]]],l,r]),Zs w]) ?_;unfold fc;refine ie ?_;refine(gf (cU (aF rfl rfl))).trans ?_;exact bD (aF rfl (with_put_in hx h.left h.right hw hn _ c))
 | chg h0 h4 hp=>
  rename_i ps;obtain⟨kvs,hd,hk⟩:=vh hp;refine⟨out al kvs l r w,?_,aaD hx h.left h.right hw hn hk al⟩;have hpi:fj [.tup [gZ al,.tup (ps.map encC),l,r]]=some (.bl false):=by
   match ps,h0 with
   | p::ps,_=>
    refine bO (env:=[Zf (.tup [gZ al,.tup ((p::ps).map encC),l,r])]) (bD ?_);refine bH (x:=.str [p.1]) ?_ rfl rfl;refine bH (x:=encC p) ?_ rfl rfl;refine bH rfl rfl (lq (j:=0) rfl)
  refine bO (env:=[Zf (.tup [gZ al,.tup (ps.map encC),l,r]),Zs w]) ?_;unfold fc;refine(az ((dU (cU (aF rfl hpi))).trans rfl)).trans ?_;exact bD (aF rfl (with_changes hx h.left h.right hw hn hk al _ hd))
theorem Uq{x w:List Nat}{wy ch l r:D}(hx:x∈XS)(h:jU x wy ch l r)(hw:∀c∈w,c∈x)(hn:w.length<=30000):∀s∈sides,∃o:List Nat,gD [s,.tup [wy,ch,l,r],.str w]=some (.str o)/\(∀c∈o,c∈x)/\o.length<=2*w.length+1:=by
 intro s hs;rcases Qq4.mp hs with rfl|hs
 ·obtain⟨o,h1,h3⟩:=Ac hx h hw hn;refine⟨o,?_,h3⟩
  ·refine bO (env:=[Zs [108,101,102,116],Zf (.tup [wy,ch,l,r]),Zs w]) ?_;unfold iB;refine(az ((dU (by rfl)).trans rfl)).trans ?_;exact bD (aF rfl h1)
 ·rw[Qqk.mp hs];obtain⟨o,h1,h3,h4⟩:=Ac hx (⟨h.way,h.chg,h.right,h.left⟩:jU x wy ch r l) (λc hc=>hw c (Qkv.mp hc)) (by rw[Qkj];exact hn);have rev:∀{a:Ev} {env:Ev.Env},a env = .ok (.str o) env->sS a env = .ok (.str o.reverse) env:=λ{a env} e=>by unfold sS;rw[e];rfl
  refine⟨o.reverse,?_,λc hc=>h3 c (Qkv.mp hc),by rw[Qkj] at h4 ⊢;exact h4⟩
  ·refine bO (env:=[Zs [114,105,103,104,116],Zf (.tup [wy,ch,l,r]),Zs w]) ?_;unfold iB;refine ie ((gf rfl).trans (bD (rev ?_)));exact aF rfl h1
end jk
namespace Bk
open Ev
def kJ:bU:=jH.kJ
def dF:LD:=bW 2 kJ
def gO:bU:=jH.gO
def iV:LD:=bW 5 gO
def fB:bU:=jH.fB
def fj:LD:=bW 1 fB
def gk:bU:=jk.gk
def iy:LD:=bW 10 gk
def fH:bU:=jk.fH
def gB:LD:=bW 13 fH
def fc:bU:=jk.fc
def fZ:LD:=bW 2 fc
def iB:bU:=jk.iB
def gD:LD:=bW 3 iB
open Ev PySem L2
open iI (cM)
open jk (XS sides jU nG)
def cj(x:List Nat)(R:D):Prop:=∃wy ch l r,R = .tup [wy,ch,l,r]/\jU x wy ch l r
def cF(s R:D)(w:List Nat):List Nat:=match jk.gD [s,R,.str w] with
 | some (.str o)=>o
 | _=>[]
section
variable{x:List Nat}{s:D}
theorem agE(hx:x∈XS)(hs:s∈sides){R:D}(hR:cj x R){w:List Nat}(hw:∀c∈w,c∈x)(hn:w.length<=30000) :
  gD [s,R,.str w]=some (.str (cF s R w))/\(∀c∈cF s R w,c∈x)/\(cF s R w).length<=2*w.length+1:=by
 obtain⟨wy,ch,l,r,rfl,h⟩:=hR;obtain⟨o,h1,h3⟩:=jk.Uq hx h hw hn s hs;have e:cF s (.tup [wy,ch,l,r]) w=o:=by unfold cF;rw[h1]
 rw[e];exact⟨h1,h3⟩
def fin(s:D)(Rs:List D)(w:List Nat):List Nat:=Rs.foldl (λv R=>cF s R v) w
variable(hx:x∈XS)(hs:s∈sides){Rs:List D}(hR:∀R∈Rs,cj x R)(h4:Rs.length<=10){w:List Nat}(hw:∀c∈w,c∈x)(hn:(w.length+1)*2^Rs.length<=301)
include hx hs hR h4 hw hn
end
end Bk
namespace K10
open Ev PySem L2
open jk (XS sides jU Ce nG fit fX sg ed pc pin inn nw eF cg out look vK encC gZ Pr)
def J(g:Nat->Nat->List Nat):Nat->List Nat->Nat->List Nat
 | p,[],q=>g p q
 | p,a::t,q=>g p a++a::J g a t q
section
variable{x w:List Nat}{l r:D}{c:Nat}{kvs:List (D×D)}
theorem drop_cons{n:Nat}(h:n<w.length):w.drop n=sg w (n+1)::w.drop (n+1):=by
 have e:sg w (n+1)=w[n]:=by
  have:=(jk.Mg (x:=w) (w:=w) (λc hc=>hc) h).1;rw[this,Qw0,Qwz h]
  rfl
 rw[e];exact List.drop_eq_getElem_cons h
def gP(l r:D)(c a b:Nat):List Nat:=if (fit l a&&fit r b)=true then [c] else []
theorem Mt(n:Nat):(pc l r c w n).flatten=gP l r c (sg w n) (sg w (n+1)):=by unfold pc gP;split<;>rfl
theorem Z1:sg w (w.length+1)=35:=by show(w++[35]).getD w.length 0=35;rw[Qw0];simp
theorem Zr:∀n,n<=w.length->J (gP l r c) 35 w 35=(pin l r c w n).flatten++J (gP l r c) (sg w n) (w.drop n) 35
 | 0,_=>rfl
 | n+1,h=>by
  rw[Zr n (by omega),drop_cons (by omega)];show _++(gP l r c (sg w n) (sg w (n+1))++sg w (n+1)::J (gP l r c) (sg w (n+1)) (w.drop (n+1)) 35)=(pin l r c w n++(pc l r c w n++[[sg w (n+1)]])).flatten++_;rw[Qz9,Qz9,Mt];simp
theorem YW:inn l r c w=J (gP l r c) 35 w 35:=by
 rw[Zr w.length (Qq1 _),List.drop_length];unfold inn;rw[Qz9,Mt,Z1]
 rfl
def hC(kvs:List (D×D))(l r:D)(a b d:Nat):List Nat:=if ((look kvs b).isSome&&(fit l a&&fit r d))=true then (look kvs b).getD [] else [b]
end
end K10
namespace dG
open Ev
def kJ:bU:=jH.kJ
def dF:LD:=bW 2 kJ
def gO:bU:=jH.gO
def iV:LD:=bW 5 gO
def fB:bU:=jH.fB
def fj:LD:=bW 1 fB
def eQ:bU:=aB (aQ (aM 0) (cD 2 (aH (aj 1) (aH (aj 2) cG)))) (aB (eE (dg (aA rm 1 (Zw [114,105,103,104,116]))) (bw (aq dI (aa (iZ 3 4 (iH (aM 2)) (aj 3) gG (aq iV (Zv 3 ak))) ak))) bV) (bw (aM 2)))
def cR:LD:=bW 3 eQ
def fC:bU:=bw (aq dI (aa (iZ 1 5 (iH (aq cR (Zv 0 ak))) (cD 4 (aH (aj 1) (aH (aj 2) (aH (aj 3) (aH (aj 4) cG))))) gG (bY (aa (aq dF (Zv 3 (aa (Zw [35]) ak))) (aa (Zw []) ak)))) ak))
def bf:LD:=bW 1 fC
def dh:bU:=jH.dh
def dM:LD:=bW 10 dh
def dR:bU:=jH.dR
def dO:LD:=bW 10 dR
def gb:bU:=aB (dq 3 (cC ak)) (aB (aQ (ji (.bl false)) (aj 4)) (aB (gq (iH (aM 2)) (aj 5) (aB (aQ (aA fD 1 (Zi 1)) (aj 6)) (aB (eE (dg (aq fj (Zv 0 ak))) (aQ (aq dM (Zv 0 (Zv 1 (Zv 5 ak)))) (cD 2 (aH (aj 1) (aH (aj 7) cG)))) (aQ (aq dO (Zv 0 (Zv 1 (Zv 5 ak)))) (cD 2 (aH (aj 1) (aH (aj 7) cG))))) (aB (aQ (oG (aM 4) (aA PQ 7 (bh 6))) (aj 4)) (d7 3 (aM 7)))))) (bw (bY (Zv 1 (aa (aP m6 (Zw []) (bh 3)) (Zv 4 ak)))))))
def eY:LD:=bW 8 gb
def jb:bU:=aB (aQ (aM 2) (aj 3)) (aB (dq 4 (cC ak)) (aB (dq 5 (cC ak)) (aB (gq (Ai (aa (aq cR (Zv 0 ak)) (Zv 1 ak))) (cD 2 (aH (aj 6) (aH (aj 7) cG))) (aB (aQ (aq eY (Zv 6 (Zv 7 (Zv 3 ak)))) (cD 3 (aH (aj 8) (aH (aj 3) (aH (aj 9) cG))))) (aB (d7 4 (aM 8)) (d7 5 (aM 9))))) (bw (bY (aa (aq dI (aa (bh 4) ak)) (Zv 3 (aa (aq dI (aa (bh 5) ak)) ak))))))))
def dJ:LD:=bW 10 jb
def nR:bU:=aB (aQ (Zw []) (aj 2)) (aB (dq 3 (cC ak)) (aB (gq (Ai (aa (aq cR (Zv 0 ak)) (Zv 1 ak))) (cD 2 (aH (aj 4) (aH (aj 5) cG))) (aB (aQ (aq eY (Zv 4 (Zv 5 (aa (aA dD 2 (Zw [35])) ak)))) (cD 3 (aH (aj 6) (aH (aj 2) (aH (aj 7) cG))))) (d7 3 (aM 7)))) (bw (bY (Zv 2 (aa (aq dI (aa (bh 3) ak)) ak))))))
def eG:LD:=bW 8 nR
def jE:bU:=jH.jE
def kE:LD:=bW 6 jE
def nW:bU:=jH.nW
def iY:LD:=bW 1 nW
def kI:bU:=aB (aQ (Zi 0) (aj 2)) (aB (gq (iH (cC (aa (aA dD 1 (Zi 1)) (Zv 1 ak)))) (aj 3) (aQ (aP dD (aA ue 2 (aP KJ (Zi 10) (Zi 60))) (aq iY (aa (aP fD (aP dD (wV (aM 0) (Gu (aM 3)) (Gu (aA dD 3 (Zi 1)))) (cC (aa (aP dD (aP ue (Zi 7919) (bh 3)) (Zi 61)) ak))) (Zi 0)) ak))) (aj 2))) (yW (cC (Zv 2 ak))))
def pO:LD:=runN 4 kI
def p6:bU:=jk.p6
def FN:LD:=bW 1 p6
open Ev PySem L2
open iI (SG cM)
open jk (XS sides jU nG fit fX vK look iR yE gZ encC vh Ce dZ)
open Bk (cj)
abbrev St:=Bool×List Nat
def aR(s:St):D:=.tup [.bl s.1,.str s.2]
inductive Rl
 | put (c:Nat) (l r:D)
 | chg (al:Bool) (kvs:List (D×D)) (l r:D)
def Bh(kvs:List (D×D))(s:Nat)(b:Bool):List Nat:=if b=true then (look kvs s).getD [s] else [s]
def nrC(al:Bool)(l:D)(s:Nat)(b:Bool)(p:List Nat):Bool:=if al=true then (if p=[] then b else fit l (p.headD 0)) else fit l s
def stp:Rl->St->Nat->St×List Nat
 | .put c l r,s,a=>((fit l a,[a]),s.2++(if (s.1&&fit r a)=true then [c] else []))
 | .chg al kvs l r,s,a=>match s.2 with
  | []=>((s.1,[a]),[])
  | h::_=>((nrC al l h s.1 (Bh kvs h (s.1&&fit r a)),[a]),Bh kvs h (s.1&&fit r a))
def rd(ρ:Rl):St->List Nat->St×List Nat
 | s,[]=>(s,[])
 | s,a::z=>((rd ρ (stp ρ s a).1 z).1,(stp ρ s a).2++(rd ρ (stp ρ s a).1 z).2)
theorem lJ(ρ:Rl):∀(z:List Nat) (s:St) (y:List Nat),rd ρ s (z++y)=((rd ρ (rd ρ s z).1 y).1,(rd ρ s z).2++(rd ρ (rd ρ s z).1 y).2)
 | [],s,y=>rfl
 | a::z,s,y=>by
  show((rd ρ (stp ρ s a).1 (z++y)).1,(stp ρ s a).2++(rd ρ (stp ρ s a).1 (z++y)).2)=_;rw[lJ ρ z];show _=((rd ρ (rd ρ (stp ρ s a).1 z).1 y).1,((stp ρ s a).2++(rd ρ (stp ρ s a).1 z).2)++_);rw[Qx3]
  rfl
theorem wC(ρ:Rl)(s:St)(a:Nat):rd ρ s [a]=stp ρ s a:=by show((stp ρ s a).1,(stp ρ s a).2++[])=_;rw[Qxx]
theorem rO(ρ:Rl)(s:St)(z:List Nat)(a:Nat):rd ρ s (z++[a])=((stp ρ (rd ρ s z).1 a).1,(rd ρ s z).2++(stp ρ (rd ρ s z).1 a).2):=by rw[lJ,wC]
inductive Is (x:List Nat):D->Rl->Prop
 | put {wy l r:D} {c:Nat}:c∈x->l∈SG x->r∈SG x->Is x (.tup [wy,.tup [.tup [.str [],.str [c]]],l,r]) (.put c l r)
 | chg {al:Bool} {ps:List jk.Pr} {kvs:List (D×D)} {l r:D}:0<ps.length->sO [.tup (ps.map encC)]=some (.dct kvs)->vK x kvs->l∈SG x->r∈SG x->Is x (.tup [gZ al,.tup (ps.map encC),l,r]) (.chg al kvs l r)
theorem Zz{w:D}(h:w = .str [111,110,99,101]\/w = .str [97,108,111,110,103]):∃al,w=gZ al:=by
 rcases h with rfl|rfl
 ·exact⟨false,rfl⟩
 ·exact⟨true,rfl⟩
theorem TJ{x:List Nat}{R:D}(h:cj x R):∃ρ,Is x R ρ:=by
 obtain⟨wy,ch,l,r,rfl,h⟩:=h;obtain⟨h1,h2,h3,h4⟩:=h;cases h2 with
 | put hc=>exact⟨_,.put hc h3 h4⟩
 | chg hp hp4 hps=>
  obtain⟨al,rfl⟩:=Zz h1;obtain⟨kvs,hd,hk⟩:=vh hps;exact⟨_,.chg hp hd hk h3 h4⟩
def gw(x:List Nat)(s:St):Prop:=s.2.length<=1/\∀c∈s.2,c∈35::x
theorem RN{x:List Nat}{kvs:List (D×D)}(hk:vK x kvs)(s:Nat)(hs:s∈35::x)(b:Bool):(Bh kvs s b).length<=1/\∀c∈Bh kvs s b,c∈35::x:=by
 unfold Bh;split
 ·cases e:look kvs s with
  | none=>exact⟨Qq1 _,λc hc=>by rw[Qqk.mp hc];exact hs⟩
  | some t=>exact⟨(iR hk e).2.1,λc hc=>Qqq _ ((iR hk e).2.2 c hc)⟩
 ·exact⟨Qq1 _,λc hc=>by rw[Qqk.mp hc];exact hs⟩
theorem JZ{x:List Nat}{R:D}{ρ:Rl}(hR:Is x R ρ){s:St}(hs:gw x s){a:Nat}(ha:a∈35::x):gw x (stp ρ s a).1/\(stp ρ s a).2.length<=2/\∀c∈(stp ρ s a).2,c∈35::x:=by
 have h1:∀b:Bool,gw x (b,[a]):=λb=>⟨Qq1 _,λc hc=>by rw[Qqk.mp hc];exact ha⟩;cases hR with
 | put hc hl hr=>
  refine⟨h1 _,?_,?_⟩
  ·show(s.2++_).length<=2;have:=hs.1;rw[Qqx];split
   ·rw[Qq6];omega
   ·rw[Qx2];omega
  ·intro c hm;rcases Qwq.mp hm with hm|hm
   ·exact hs.2 c hm
   ·split at hm
    ·rw[Qqk.mp hm];exact Qqq _ hc
    ·simp at hm
 | chg hp hd hk hl hr=>
  obtain⟨b,h⟩:=s
  match h,hs with
  | [],hs=>exact⟨h1 _,Qxk _,λc hc=>by simp[stp] at hc⟩
  | s::h,hs=>
   exact⟨h1 _,Qq2 (RN hk s (hs.2 s (Qqj ..)) _).1 (by decide),(RN hk s (hs.2 s (Qqj ..)) _).2⟩
theorem xr{x:List Nat}{R:D}{ρ:Rl}(hR:Is x R ρ):∀(z:List Nat) {s:St},gw x s->(∀a∈z,a∈35::x)->gw x (rd ρ s z).1/\(rd ρ s z).2.length<=2*z.length/\∀c∈(rd ρ s z).2,c∈35::x
 | [],s,hs,_=>⟨hs,Qq1 _,λc hc=>by simp[rd] at hc⟩
 | a::z,s,hs,hz=>by
  obtain⟨h1,h2,h3⟩:=JZ hR hs (hz a (Qqj ..));obtain⟨h4,h5,h6⟩:=xr hR z h1 λb hb=>hz b (Qqq _ hb);refine⟨h4,?_,?_⟩
  ·show((stp ρ s a).2++(rd ρ (stp ρ s a).1 z).2).length<=_;rw[Qqx,Qqy];omega
  ·intro c hc;rcases Qwq.mp (show c∈(stp ρ s a).2++(rd ρ (stp ρ s a).1 z).2 from hc) with hc|hc
   ·exact h3 c hc
   ·exact h6 c hc
theorem agn{x:List Nat}{kvs:List (D×D)}(hk:vK x kvs)(s:Nat):T8 (.dct kvs) (.str [s]) (.str [s])=some (.str ((look kvs s).getD [s])):=by
 show some ((mH kvs (.inr (strOf [s]))).getD (.str [s]))=_;unfold look;cases e:mH kvs (.inr (strOf [s])) with
 | none=>rfl
 | some v=>
  obtain⟨k,hm,_⟩:=iI.lY e;obtain⟨t,rfl,_⟩:=hk k v hm
  rfl
theorem Qc{a b c:Ev}{env e1 e2 e3:Ev.Env}{kvs:List (D×D)}{k t d:D}(h1:a env = .ok (.dct kvs) e1)(h2:b e1 = .ok k e2)(h3:c e2 = .ok t e3)(h:T8 (.dct kvs) k t=some d):FP a b c env = .ok d e3:=by
 unfold FP;rw[h1];simp only[bindR];rw[h2];simp only;rw[h3];simp only;rw[h]
 rfl
theorem XF(wy ch l r:D)(b:Bool)(a:Nat):dO [.tup [wy,ch,l,r],aR (b,[]),.str [a]]=some (.tup [aR (b,[a]),.str []]):=rfl
section
variable{x:List Nat}{l r:D}(hx:x∈XS)(hl:l∈SG x)(hr:r∈SG x)
include hx hl hr
theorem Rh(wy:D)(c:Nat)(b:Bool)(h:List Nat)(hh:h.length<=1)(a:Nat)(ha:a∈35::x) :
  dM [.tup [wy,.tup [.tup [.str [],.str [c]]],l,r],aR (b,h),.str [a]]=some (.tup [aR (stp (.put c l r) (b,h) a).1,.str (stp (.put c l r) (b,h) a).2]):=by
 generalize hR:D.tup [wy,.tup [.tup [.str [],.str [c]]],l,r]=R;generalize hS:aR (b,h)=S;have fl:=fX x hx l hl a ha;have fr:=fX x hx r hr a ha;show _=some (D.tup [.tup [.bl (fit l a),.str [a]],.str (h++(if (b&&fit r a)=true then [c] else []))]);generalize hP:(h++(if (b&&fit r a)=true then [c] else []))=p;refine bO (env:=[Zf R,Zf S,Zs [a],Zf wy,Zf (.tup [.tup [.str [],.str [c]]]),Zf l,Zf r,Zb b,Zs h,Zs p]) ?_;unfold dh;refine(az (e:=[Zf R,Zf S,Zs [a],Zf wy,Zf (.tup [.tup [.str [],.str [c]]]),Zf l,Zf r,Zn,Zn,Zn]) (by rw[<-hR];rfl)).trans ?_;refine(az (e:=[Zf R,Zf S,Zs [a],Zf wy,Zf (.tup [.tup [.str [],.str [c]]]),Zf l,Zf r,Zb b,Zs h,Zn]) (by rw[<-hS];rfl)).trans ?_;refine(az rfl).trans ?_;refine(az (e:=[Zf R,Zf S,Zs [a],Zf wy,Zf (.tup [.tup [.str [],.str [c]]]),Zf l,Zf r,Zb b,Zs h,Zs p]) ?_).trans ?_
 ·have t:cW (dg (aM 7)) (dg (aq dF (Zv 6 (Zv 2 ak)))) [Zf R,Zf S,Zs [a],Zf wy,Zf (.tup [.tup [.str [],.str [c]]]),Zf l,Zf r,Zb b,Zs h,Zs h] = .ok (b&&fit r a) [Zf R,Zf S,Zs [a],Zf wy,Zf (.tup [.tup [.str [],.str [c]]]),Zf l,Zf r,Zb b,Zs h,Zs h]:=
   dZ rfl (cU (aF rfl fr))
  cases hc:b&&fit r a with
  | true=>
   rw[hc] at t hP;rw[if_pos rfl] at hP;rw[<-hP];exact(gf t).trans (bI (bA rfl rfl rfl (nG (by show h.length+1<=100000;omega))) rfl)
  | false=>
   rw[hc] at t hP;rw[if_neg Qw6,Qxx] at hP;rw[<-hP];exact(dU t).trans rfl
 ·refine bD (cP (aJ (cP (aJ (aF (by rfl) fl) (aJ (by rfl) bK)) Ev.Js) (aJ (by rfl) bK)) Ev.Js)
theorem Ri(al:Bool){kvs:List (D×D)}(hk:vK x kvs)(ch:D)(hd:sO [ch]=some (.dct kvs))(b:Bool)(s:Nat)(hs:s∈35::x)(a:Nat)(ha:a∈35::x) :
  dO [.tup [gZ al,ch,l,r],aR (b,[s]),.str [a]]=some (.tup [aR (stp (.chg al kvs l r) (b,[s]) a).1,.str (stp (.chg al kvs l r) (b,[s]) a).2]):=by
 generalize hR:D.tup [gZ al,ch,l,r]=R;generalize hS:aR (b,[s])=S;have fs:=fX x hx l hl s hs;have fr:=fX x hx r hr a ha;have hp:=RN hk s hs (b&&fit r a);show _=some (D.tup [.tup [.bl (nrC al l s b (Bh kvs s (b&&fit r a))),.str [a]],.str (Bh kvs s (b&&fit r a))]);have hP:Bh kvs s (b&&fit r a)=if (b&&fit r a)=true then (look kvs s).getD [s] else [s]:=rfl
 generalize Bh kvs s (b&&fit r a)=p at *;refine bO (env:=[Zf R,Zf S,Zs [a],Zf (gZ al),Zf ch,Zf l,Zf r,Zb b,Zs [s],Zs p]) ?_;unfold dR;refine(az (e:=[Zf R,Zf S,Zs [a],Zf (gZ al),Zf ch,Zf l,Zf r,Zn,Zn,Zn]) (by rw[<-hR];rfl)).trans ?_;refine(az (e:=[Zf R,Zf S,Zs [a],Zf (gZ al),Zf ch,Zf l,Zf r,Zb b,Zs [s],Zn]) (by rw[<-hS];rfl)).trans ?_;refine(az ((dU (by rfl)).trans rfl)).trans ?_;refine(az rfl).trans ?_;refine(az (e:=[Zf R,Zf S,Zs [a],Zf (gZ al),Zf ch,Zf l,Zf r,Zb b,Zs [s],Zs p]) ?_).trans ?_
 ·have t:cW (dg (aM 7)) (dg (aq dF (Zv 6 (Zv 2 ak)))) [Zf R,Zf S,Zs [a],Zf (gZ al),Zf ch,Zf l,Zf r,Zb b,Zs [s],Zs [s]] = .ok (b&&fit r a) [Zf R,Zf S,Zs [a],Zf (gZ al),Zf ch,Zf l,Zf r,Zb b,Zs [s],Zs [s]]:=
   dZ rfl (cU (aF rfl fr))
  cases hc:b&&fit r a with
  | true=>
   rw[hc] at t hP;rw[if_pos rfl] at hP;rw[hP];exact(gf t).trans (bI (Qc (aF rfl hd) rfl rfl (agn hk s)) rfl)
  | false=>
   rw[hc] at t hP;rw[if_neg Qw6] at hP;rw[hP];exact(dU t).trans rfl
 ·cases al with
  | false=>
   refine(ie ?_).trans rfl;refine(gf rfl).trans ?_;refine bD (cP (aJ (cP (aJ (aF rfl fs) (aJ rfl bK)) Ev.Js) (aJ rfl bK)) Ev.Js)
  | true=>
   refine(az ((dU (by rfl)).trans rfl)).trans ?_
   match p,hp with
   | [],_=>rfl
   | [q],hp=>
    have fq:=fX x hx l hl q (hp.2 q (Qqj ..));refine(az ((dU (by rfl)).trans rfl)).trans ?_;exact bD (cP (aJ (cP (aJ (aF rfl fq) (aJ rfl bK)) Ev.Js) (aJ rfl bK)) Ev.Js)
   | _::_::_,hp=>exact absurd hp.1 (by simp)
end
theorem vd{a b:Ev}{env:Ev.Env}{p q:Bool}(h1:a env = .ok (.bl p) env)(h2:b env = .ok (.bl q) env):oG a b env = .ok (.bl (p||q)) env:=by
 cases p with
 | true=>rw[Ue h1];rfl
 | false=>rw[KZ h1,h2];rfl
theorem yD:∀{y z:List Nat},pq y=pq z->y=z
 | [],[],_=>rfl
 | [],_::_,h=>by cases h
 | _::_,[],h=>by cases h
 | a::y,b::z,h=>by
  have h1:D.str [a]::pq y=D.str [b]::pq z:=h;injection h1 with h2 h3
  injection h2 with h4
  injection h4 with h5
  rw[h5,yD h3]
theorem zc(y:List Nat)(a:Nat):pq (y++[a])=pq y++[.str [a]]:=by unfold pq;rw[Qx1];rfl
theorem Ec{z:List Nat}{done rest:List D}{d:D}(h:pq z=done++d::rest):∃a,d = .str [a]/\a∈z/\done.length<z.length:=by
 have hm:d∈pq z:=by rw[h];exact Qxz _ (Qqj ..)
 obtain⟨a,ha,rfl⟩:=Qwy.mp hm;have:=Qz4 List.length h;unfold pq at this;rw[Qqv,Qqx,Qqy] at this;exact⟨a,rfl,ha,by omega⟩
theorem T5(ρ:Rl)(s:St)(a:Nat):(stp ρ s a).1.2=[a]:=by
 cases ρ with
 | put c l r=>rfl
 | chg al kvs l r=>
  obtain⟨b,h⟩:=s;cases h<;>rfl
theorem Ua{ps:List jk.Pr}(hp:0<ps.length){env:Ev.Env}{wy l r:D}(h:env[0]? = some (Zf (.tup [wy,.tup (ps.map encC),l,r]))):aP rm (aP fD (aP fD (aA fD 0 (Zi 1)) (Zi 0)) (Zi 0)) (Zw []) env = .ok (.bl false) env:=by
 match ps,hp with
 | p::ps,_=>
  refine bH (x:=.str [p.1]) ?_ rfl rfl;refine bH (x:=encC p) ?_ rfl rfl;refine bH (x:=.tup ((p::ps).map encC)) ?_ rfl (lq (j:=0) rfl);exact bA h rfl h rfl
section
variable{x:List Nat}{R:D}{ρ:Rl}(hx:x∈XS)(hR:Is x R ρ)
include hx hR
theorem one_sign{s:St}(hs:gw x s){a:Nat}(ha:a∈35::x) :
  (fj [R]=some (.bl true)/\dM [R,aR s,.str [a]]=some (.tup [aR (stp ρ s a).1,.str (stp ρ s a).2]))\/(fj [R]=some (.bl false)/\dO [R,aR s,.str [a]]=some (.tup [aR (stp ρ s a).1,.str (stp ρ s a).2])):=by
 cases hR with
 | put hc hl hr=>exact .inl ⟨rfl,Rh hx hl hr _ _ s.1 s.2 hs.1 a ha⟩
 | chg hp hd hk hl hr=>
  rename_i al ps kvs l r;refine .inr ⟨?_,?_⟩
  ·exact bO (bD (Ua hp rfl))
  ·obtain⟨b,h⟩:=s
   match h,hs with
   | [],hs=>exact XF _ _ _ _ _ _
   | [s],hs=>exact Ri hx hl hr al hk _ hd b s (hs.2 s (Qqj ..)) a ha
   | _::_::_,hs=>exact absurd hs.1 (by simp)
def zp:bU:=jH.jt
theorem VV{s:St}(hs:gw x s){a:Nat}(ha:a∈35::x)(A2 a6 a7:OD)(ps:List D)(hp:ps.length<=400)(t:Bool) :
  ∃u,zp [Zf R,Zf (aR s),A2,Zl ps,Zb t,Zs [a],a6,a7] = .nx [Zf R,(Zf (aR (stp ρ s a).1)),A2,(Zl (ps++[.str (stp ρ s a).2])),Zb (t||u),Zs [a],Zs s.2,(Zs ((stp ρ s a).2))]:=by
 obtain⟨u,hu⟩:∃u,PQ (.str (stp ρ s a).2) (.str s.2)=some (.bl u):=⟨_,rfl⟩;refine⟨u,?_⟩;have h1:=one_sign hx hR hs ha;generalize hq:(stp ρ s a).2=q at *;generalize hs':(stp ρ s a).1=s' at *;unfold zp;refine(az rfl).trans ?_;refine(az (e:=[Zf R,Zf (aR s'),A2,Zl ps,Zb t,Zs [a],Zs s.2,Zs q]) ?_).trans ?_
 ·rcases h1 with ⟨g1,g2⟩|⟨g1,g2⟩
  ·refine(gf (cU (aF rfl g1))).trans ?_;exact bI (aF rfl g2) rfl
  ·refine(dU (cU (aF rfl g1))).trans ?_;exact bI (aF rfl g2) rfl
 let E0:Ev.Env:=[Zf R,Zf (aR s'),A2,Zl ps,Zb (t||u),Zs [a],Zs s.2,Zs q]
 refine(az (e:=E0) ?_).trans ?_
 ·refine bI (vd rfl ?_) rfl;exact bA rfl rfl rfl hu
 ·exact(cM (i:=3) (e:=E0) rfl rfl rfl (Qw2 hp (by decide))).trans rfl
theorem read_signs{s:St}(hs:gw x s){z:List Nat}(hz:∀a∈z,a∈35::x)(hn:z.length<=150):∃t,eY [R,aR s,.str z]=some (.tup [aR (rd ρ s z).1,.str (rd ρ s z).2,.bl t]):=by
 obtain⟨e',f1,hd,dz,pl,t,a5,a6,a7,e1,Vi,e2,e3,e4,rfl⟩:=mz (g:=aj 5) (pq z)
  (λdone env=>done.length<=z.length/\∃dz pl t a5 a6 a7,done=pq dz/\(∀a∈dz,a∈35::x)/\pl.flatten=(rd ρ s dz).2/\pl.length=done.length/\(∀q∈pl,q.length<=2)/\env=[Zf R,(Zf (aR (rd ρ s dz).1)),Zs z,Zl (pl.map .str),Zb t,a5,a6,a7])
  (λdone d rest hall env ⟨hd,dz,pl,t,a5,a6,a7,e1,Vi,e2,e3,e4,he⟩=>by
   subst he;obtain⟨a,rfl,ha,hl⟩:=Ec hall;have hok:=xr hR dz hs Vi;have hst:=JZ hR hok.1 (hz a ha);obtain⟨u,hb⟩:=VV hx hR hok.1 (hz a ha) (Zs z) a6 a7 (pl.map .str) (by rw[Qqv];omega) t;refine⟨_,_,rfl,hb,by rw[Qqx,Qq6];omega,dz++[a],pl++[(stp ρ (rd ρ s dz).1 a).2],(t||u),Zs [a],(Zs ((rd ρ s dz).1.2)),(Zs ((stp ρ (rd ρ s dz).1 a).2)),by rw[zc,e1],?_,?_,?_,?_,?_⟩
   ·intro b hb;rcases Qwq.mp hb with hb|hb
    ·exact Vi b hb
    ·rw[Qqk.mp hb];exact hz a ha
   ·rw[rO,Qz9,e2];simp
   ·rw[Qqx,Qqx,e3]
    rfl
   ·intro q hq;rcases Qwq.mp hq with hq|hq
    ·exact e4 q hq
    ·rw[Qqk.mp hq];exact hst.2.1
   ·rw[rO,Qx1]
    rfl)
  [Zf R,Zf (aR s),Zs z,Zl [],Zb false,Zn,Zn,Zn] ⟨Qxk _,[],[],false,Zn,Zn,Zn,rfl,λa ha=>by simp at ha,rfl,rfl,λq hq=>by simp at hq,rfl⟩
 have hzz:=yD e1;subst hzz;refine⟨t,bO (env:=[Zf R,(Zf (aR (rd ρ s z).1)),Zs z,Zl (pl.map .str),Zb t,a5,a6,a7]) ?_⟩;unfold gb;refine(az rfl).trans ?_;refine(az rfl).trans ?_;refine(az ((eU rfl).trans f1)).trans ?_;have hj:m6 (.str []) (.lst (pl.map .str))=some (.str (rd ρ s z).2):=by rw[jk.MN (by rw[e3];omega) e4,e2]
 exact bD (cP (aJ rfl (aJ (bH rfl rfl hj) (aJ rfl bK))) Ev.zz3)
end
theorem wR{g:GV}{b:bU}{d:D}{ds:List D}{env e1 e2:Ev.Env}(h1:g d env=some e1)(h2:b e1 = .nx e2):gV g b (d::ds) env=gV g b ds e2:=by
 conv=>lhs;unfold gV
 rw[h1];simp only;rw[h2]
def tn:D->D
 | .tup [wy,ch,l,r]=>.tup [wy,ch,r,l]
 | d=>d
def lf:D->D
 | .tup [_,_,l,_]=>l
 | d=>d
def rt:D->Bool
 | .str (114::_)=>true
 | _=>false
def lay(s:D)(Rs:List D):List D:=if rt s=true then Rs.map tn else Rs
theorem Lz{x:List Nat}{R:D}(h:cj x R):cj x (tn R)/\iV [R]=some (tn R)/\FN [R]=some (tn R):=by obtain⟨wy,ch,l,r,rfl,h1,h2,h3,h4⟩:=h;exact⟨⟨wy,ch,r,l,rfl,h1,h2,h4,h3⟩,rfl,rfl⟩
theorem uT(s:D)(Rs:List D):(lay s Rs).length=Rs.length:=by
 unfold lay;split
 ·rw[Qqv]
 ·rfl
theorem zU{x:List Nat}{s:D}{Rs:List D}(h:∀R∈Rs,cj x R):∀R∈lay s Rs,cj x R:=by
 unfold lay;split
 ·intro R hR;obtain⟨Q,hQ,rfl⟩:=Qwy.mp hR;exact(Lz (h Q hQ)).1
 ·exact h
noncomputable def cN(x:List Nat)(R:D):Rl:=open Classical in if h:∃ρ,Is x R ρ then h.choose else .put 0 .non .non
theorem qK{x:List Nat}{R:D}(h:cj x R):Is x R (cN x R):=by unfold cN;rw[dif_pos (TJ h)];exact(TJ h).choose_spec
noncomputable def jG(x:List Nat):List D->List St->List Nat->List St×List Nat
 | R::Rs,s::ss,z=>((rd (cN x R) s z).1::(jG x Rs ss (rd (cN x R) s z).2).1,(jG x Rs ss (rd (cN x R) s z).2).2)
 | _,_,z=>([],z)
noncomputable def Jw(x:List Nat):List D->List St->List Nat->List Nat
 | R::Rs,s::ss,z=>Jw x Rs ss (rd (cN x R) s (z++[35])).2
 | _,_,z=>z
def yr(Rs:List D):List St:=Rs.map λR=>(fit (lf R) 35,[])
section
variable{x:List Nat}{s:D}(hx:x∈XS)(hs:s∈sides){Rs:List D}(hR:∀R∈Rs,cj x R)(h4:Rs.length<=10)
include hx hs hR h4
theorem reading_rules:cR [.tup [s,.tup Rs]]=some (.tup (lay s Rs)):=by
 rcases Qq4.mp hs with rfl|hs
 ·rfl
 ·cases Qqk.mp hs;obtain⟨env',g1,v5,rfl⟩:=yH (g:=aj 3) (e:=aq iV (Zv 3 ak)) (λenv=>∃v5,env=[Zf (.tup [.str [114,105,103,104,116],.tup Rs]),Zs [114,105,103,104,116],Zf (.tup Rs),v5]) tn Rs
   [Zf (.tup [.str [114,105,103,104,116],.tup Rs]),Zs [114,105,103,104,116],Zf (.tup Rs),Zn] ⟨none,rfl⟩
   (λd hd env ⟨v5,he⟩=>by
    subst he;exact⟨[Zf (.tup [.str [114,105,103,104,116],.tup Rs]),Zs [114,105,103,104,116],Zf (.tup Rs),Zf d],_,rfl,aF rfl (Lz (hR d hd)).2.1,_,rfl⟩)
  let E0:Ev.Env:=[Zf (.tup [.str [114,105,103,104,116],.tup Rs]),Zs [114,105,103,104,116],Zf (.tup Rs)]
  refine bO (env:=E0) ?_;unfold eQ;refine(az rfl).trans ?_;refine(ie ?_).trans rfl;refine(gf rfl).trans ?_;refine bD (aF (ds:=[.lst (Rs.map tn)]) (aJ ?_ bK) rfl);exact vf (n:=4) (aL:=E0) rfl rfl g1 (by rw[Qqv];exact Qq2 h4 (by decide))
theorem first_standing:bf [.tup [s,.tup Rs]]=some (.tup ((yr (lay s Rs)).map aR)):=by
 have h1:=reading_rules hx hs hR h4;have h2:=zU (s:=s) hR;have h3:=uT s Rs;generalize lay s Rs=Ls at *;generalize D.tup [s,.tup Rs]=O at *;obtain⟨env',g1,v1,v2,v3,v4,rfl⟩:=yH (g:=cD 4 (aH (aj 1) (aH (aj 2) (aH (aj 3) (aH (aj 4) cG))))) (e:=bY (aa (aq dF (Zv 3 (aa (Zw [35]) ak))) (aa (Zw []) ak))) (λenv=>∃v1 v2 v3 v4,env=[Zf O,v1,v2,v3,v4]) (λR=>aR (fit (lf R) 35,[])) Ls
  [Zf O,Zn,Zn,Zn,Zn] ⟨none,Zn,Zn,Zn,rfl⟩
  (λd hd env ⟨v1,v2,v3,v4,he⟩=>by
   subst he;obtain⟨wy,ch,l,r,rfl,hro⟩:=h2 d hd;exact⟨[Zf O,Zf wy,Zf ch,Zf l,Zf r],[Zf O,Zf wy,Zf ch,Zf l,Zf r],rfl,cP (aJ (aF rfl (fX x hx l hro.left 35 (Qqj ..))) rfl) Ev.Js,_,_,_,_,rfl⟩)
 refine bO (env:=[Zf O]) (bD (aF (ds:=[.lst (Ls.map λR=>aR (fit (lf R) 35,[]))]) (aJ ?_ bK) ?_))
 ·exact vf (n:=5) (aL:=[Zf O]) (pQ (aF rfl h1) rfl) rfl g1 (by rw[Qqv,h3];exact Qq2 h4 (by decide))
 ·unfold yr;rw[Qkx]
  rfl
end
theorem abP(x:List Nat)(Rs:List D):∀s∈yr Rs,gw x s:=by intro s hs;obtain⟨R,_,rfl⟩:=Qwy.mp hs;exact⟨Qxk _,λc hc=>by simp at hc⟩
def vM:bU:=jH.lg
def JG:bU:=jH.qW
section
variable{x:List Nat}(hx:x∈XS)
theorem FJ{n m k:Nat}(h:(n+2)*2^(k+1)<=150)(hm:m<=2*(n+1)):(m+2)*2^k<=150/\n<=73:=by
 have h1:(n+2)*2^(k+1)=(2*(n+1)+2)*2^k:=by
  rw[Nat.pow_succ,<-Nat.mul_assoc,Nat.mul_right_comm]
  congr 1
  omega
 have h2:(m+2)*2^k<=(2*(n+1)+2)*2^k:=Nat.mul_le_mul_right _ (by omega);have h3:1<=2^k:=Nat.one_le_two_pow;have h4:2*(n+1)+2<=(2*(n+1)+2)*2^k:=Nat.le_mul_of_pos_right _ h3;omega
include hx
theorem Yp(A0 A1 A2:OD):∀(Rs:List D) (ss:List St) (z:List Nat) (acc ts:List D) (v6 v7 v8 v9:OD),Rs.length=ss.length->(∀R∈Rs,cj x R)->(∀s∈ss,gw x s)->(∀a∈z,a∈35::x)->(z.length+2)*2^Rs.length<=150->acc.length+Rs.length<=100->ts.length+Rs.length<=100->
  ∃us w6 w7 w8 w9,gV (cD 2 (aH (aj 6) (aH (aj 7) cG))) vM (vL Rs (ss.map aR)) [A0,A1,A2,Zs z,Zl acc,Zl ts,v6,v7,v8,v9] = .nx [A0,A1,A2,(Zs ((jG x Rs ss z).2)),(Zl (acc++(jG x Rs ss z).1.map aR)),Zl us,w6,w7,w8,w9]/\(∀s∈(jG x Rs ss z).1,gw x s)/\(jG x Rs ss z).1.length=Rs.length/\us.length<=100
 | [],[],z,acc,ts,v6,v7,v8,v9,_,_,_,_,_,_,ht=>by
  refine⟨ts,v6,v7,v8,v9,?_,λs hs=>by simp[jG] at hs,rfl,ht⟩;show Ev.Out.nx _=Ev.Out.nx [A0,A1,A2,Zs z,Zl (acc++[]),Zl ts,v6,v7,v8,v9];rw[Qxx]
 | [],_::_,_,_,_,_,_,_,_,h,_,_,_,_,_,_=>by simp at h
 | _::_,[],_,_,_,_,_,_,_,h,_,_,_,_,_,_=>by simp at h
 | R::Rs,s::ss,z,acc,ts,v6,v7,v8,v9,h,hR,hS,hz,hn,ha,ht=>by
  have YX:=qK (hR R (Qqj ..));have hso:=hS s (Qqj ..);obtain⟨o1,o2,o3⟩:=xr YX z hso hz;obtain⟨n1,n2⟩:=FJ hn (m:=(rd (cN x R) s z).2.length) (by omega);obtain⟨t,hrs⟩:=read_signs hx YX hso hz (by omega);rw[Qqy] at ha ht;obtain⟨us,w6,w7,w8,w9,g1,g2,g3,g4⟩:=Yp A0 A1 A2 Rs ss (rd (cN x R) s z).2 (acc++[aR (rd (cN x R) s z).1]) (ts++[.bl t]) (Zf R) (Zf (aR s)) (Zf (aR (rd (cN x R) s z).1)) (Zb t) (by simpa using h) (λQ hQ=>hR Q (Qqq _ hQ)) (λq hq=>hS q (Qqq _ hq)) o3 n1 (by rw[Qqx,Qq6];omega) (by rw[Qqx,Qq6];omega);refine⟨us,w6,w7,w8,w9,?_,?_,?_,g4⟩
  ·show gV _ vM (.tup [R,aR s]::vL Rs (ss.map aR)) _=Ev.Out.nx [A0,A1,A2,(Zs ((jG x Rs ss (rd (cN x R) s z).2).2)),(Zl (acc++(aR (rd (cN x R) s z).1::(jG x Rs ss (rd (cN x R) s z).2).1.map aR))),Zl us,w6,w7,w8,w9];rw[wR rfl ?_,g1,Qx3]
   ·rfl
   ·generalize(rd (cN x R) s z).2=q at *;generalize(rd (cN x R) s z).1=s' at *;unfold vM;refine(az (bI (aF rfl hrs) rfl)).trans ?_
    let E0:Ev.Env:=[A0,A1,A2,Zs q,Zl (acc++[aR s']),Zl ts,Zf R,Zf (aR s),Zf (aR s'),Zb t]
    refine(az (e:=E0) ?_).trans ?_
    ·exact(cM (i:=4) (e:=[A0,A1,A2,Zs q,Zl acc,Zl ts,Zf R,Zf (aR s),Zf (aR s'),Zb t]) rfl rfl rfl (Qw2 (show acc.length<=100 by omega) (by decide))).trans rfl
    ·exact(cM (i:=5) (e:=E0) rfl rfl rfl (Qw2 (show ts.length<=100 by omega) (by decide))).trans rfl
  ·intro q hq;rcases Qq4.mp (show q∈(rd (cN x R) s z).1::(jG x Rs ss (rd (cN x R) s z).2).1 from hq) with rfl|hq
   ·exact o1
   ·exact g2 q hq
  ·show(_::(jG x Rs ss (rd (cN x R) s z).2).1).length=_;rw[Qqy,g3,Qqy]
end
open jk (XS sides jU nG Ce)
open iI (Gm jy Gr PV SG Qf prs one others Mm Ga Fx RM lQ Gp rK Gb)
open jk (Ex)
def S9(i:Int):Int:=i*915965594177219015054603514932384110774149374281672134266497 % 10^60
theorem W6(i:Int):(S9 i).natAbs<2^200:=by
 unfold S9;have h1:0<=i*915965594177219015054603514932384110774149374281672134266497 % 10^60:=Int.emod_nonneg _ (by decide);have h2:i*915965594177219015054603514932384110774149374281672134266497 % 10^60<10^60:=Int.emod_lt_of_pos _ (by decide);have h3:(10:Int)^60<=2^200:=by decide
 omega
theorem mixed{i:Int}(h:Builtin.Int.intBits i<=2^20):iY [.int i]=some (.int (S9 i)):=by
 have hm:kZ i 915965594177219015054603514932384110774149374281672134266497=true:=iI.tY h (iI.rY (b:=200) (by decide)) (by decide);have e1:aA ue 0 (Zi 915965594177219015054603514932384110774149374281672134266497) [Zf (.int i)] = .ok (.int (i*915965594177219015054603514932384110774149374281672134266497)) [Zf (.int i)]:=by
  show iT (gI kZ (λi j=>D.int (i*j)) (.int i) (.int _)) _=_;unfold gI;simp only;rw[if_pos hm]
  rfl
 show(match bw _ [Zf (.int i)] with|.rt false d _=>some d|.nx _=>some .non|_=>none)=_;rw[bD];unfold aP;rw[e1]
 rfl
def mX:bU:=aQ (aP dD (aA ue 2 (aP KJ (Zi 10) (Zi 60))) (aq iY (aa (aP fD (aP dD (wV (aM 0) (Gu (aM 3)) (Gu (aA dD 3 (Zi 1)))) (cC (aa (aP dD (aP ue (Zi 7919) (bh 3)) (Zi 61)) ak))) (Zi 0)) ak))) (aj 2)
theorem CT(ns:List Int)(hl:ns.length<=63)(hb:Qq ns)(k a f:Int)(ha:a.natAbs<2^10)(hf:Builtin.Int.intBits f<=2^20) :
  ∃f':Int,mX [Zf (.arr (ns.map .int)),Zf (.int k),Zf (.int f),Zf (.int a)] = .nx [Zf (.arr (ns.map .int)),Zf (.int k),Zf (.int f'),Zf (.int a)]/\(f=0->f'.natAbs<2^200):=by
 generalize hE:([Zf (.arr (ns.map .int)),Zf (.int k),Zf (.int f),Zf (.int a)]:Ev.Env)=env;have m1:kZ 7919 a=true:=iI.tY (a:=20) (iI.rY (by decide)) (iI.rY ha) (by decide);have m2:kZ f (10^(60:Int).toNat)=true:=iI.tY (b:=200) hf (iI.rY (by decide)) (by decide);have e1:wV (aM 0) (Gu (aM 3)) (Gu (aA dD 3 (Zi 1))) env = .ok (.lst (cutD (ns.map .int) (some a) (some (a+1)))) env:=by rw[<-hE];rfl
 have e2:cC (aa (aP dD (aP ue (Zi 7919) (bh 3)) (Zi 61)) ak) env = .ok (.lst [.int (7919*a+61)]) env:=by refine Iw (aJ (bH (bH rfl (by rw[<-hE];rfl) (M6 m1)) rfl rfl) bK) Ev.zz1
 generalize hL:cutD (ns.map D.int) (some a) (some (a+1))=L at e1;have hLl:L.length<=63:=by rw[<-hL];exact Qq2 (vm _ _ _) (by rw[Qqv];exact hl)
 have e3:aP dD (wV (aM 0) (Gu (aM 3)) (Gu (aA dD 3 (Zi 1)))) (cC (aa (aP dD (aP ue (Zi 7919) (bh 3)) (Zi 61)) ak)) env = .ok (.lst (L++[.int (7919*a+61)])) env:=by exact bH e1 e2 (Ir (by show L.length+1<=sizeLine;exact Qq2 (Nat.succ_le_succ hLl) (by decide)))
 obtain⟨c,hc,hcb⟩:∃c:Int,xj (L++[.int (7919*a+61)]) 0=some (.int c)/\Builtin.Int.intBits c<=2^20:=by
  cases hLc:L with
  | nil=>
   refine⟨7919*a+61,rfl,Qq2 (iI.rY (b:=30) ?_) (by decide)⟩;omega
  | cons y r=>
   have hy:y∈ns.map D.int:=iI.XC (by rw[hL,hLc];exact Qqj ..);obtain⟨i,hi,rfl⟩:=Qwy.mp hy;exact⟨i,iI.UJ _ _,hb i hi⟩
 have e4:aq iY (aa (aP fD (aP dD (wV (aM 0) (Gu (aM 3)) (Gu (aA dD 3 (Zi 1)))) (cC (aa (aP dD (aP ue (Zi 7919) (bh 3)) (Zi 61)) ak))) (Zi 0)) ak) env = .ok (.int (S9 c)) env:=by exact aF (aJ (bH e3 rfl hc) bK) (mixed hcb)
 refine⟨f*10^(60:Int).toNat+S9 c,?_,λh0=>?_⟩
 ·unfold mX;refine bI (e:=env) ?_ (by rw[<-hE];rfl);have e5:aA ue 2 (aP KJ (Zi 10) (Zi 60)) env = .ok (.int (f*10^(60:Int).toNat)) env:=by
   rw[<-hE];exact bA rfl rfl rfl (M6 m2)
  exact bH e5 e4 rfl
 ·rw[h0,Int.zero_mul,Int.zero_add];exact W6 c
theorem pack(ns:List Int)(hl:ns.length<=63)(hb:Qq ns)(k:Int)(h0:0<=k)(h1:k<=500):∃p:Int,pO [.arr (ns.map .int),.int k]=some (.lst [.int p]):=by
 obtain⟨f1,e1,b1⟩:=CT ns hl hb k (k+1) 0 (by omega) (by decide);obtain⟨f2,e2,_⟩:=CT ns hl hb k k f1 (by omega) (Qq2 (iI.rY (b1 rfl)) (by decide));refine⟨f2,?_⟩;have h:kI [Zf (.arr (ns.map .int)),Zf (.int k),Zn,Zn] = .rt true (.lst [.int f2]) [Zf (.arr (ns.map .int)),Zf (.int k),Zf (.int f2),Zf (.int k)]:=by
  unfold kI;refine(az rfl).trans ?_;refine(az (e:=[Zf (.arr (ns.map .int)),Zf (.int k),Zf (.int f2),Zf (.int k)]) ?_).trans rfl;refine(eU rfl).trans ?_;show gV (aj 3) mX [.int (k+1),.int k] _=_;unfold gV;show(match mX [Zf (.arr (ns.map .int)),Zf (.int k),Zf (.int 0),Zf (.int (k+1))] with|.nx e2=>gV (aj 3) mX [.int k] e2|.ct e2=>_|.bk e2=>_|.rt o d e2=>_|.stuck=>_)=_;rw[e1];simp only;unfold gV;show(match mX [Zf (.arr (ns.map .int)),Zf (.int k),Zf (.int f1),Zf (.int k)] with|.nx e2=>gV (aj 3) mX [] e2|.ct e2=>_|.bk e2=>_|.rt o d e2=>_|.stuck=>_)=_;rw[e2]
  rfl
 show(match kI _ with|.rt true d _=>some d|_=>none)=_;have e:envOf 4 [D.arr (ns.map .int),.int k]=[Zf (.arr (ns.map .int)),Zf (.int k),Zn,Zn]:=rfl;rw[e,h]
theorem changes(n:Int)(x:List Nat)(hx:x∈XS):∃ch n',iI.jo [.lst [.int n],.str x]=some (ch,.lst [.int n'])/\Ce x ch:=by
 obtain⟨d,hd,e⟩:=dig n 5 (by decide);have hp:=Gm x hx;have hl4:=jy x hx;have t:dg (aP rm (fP iI.bu 0 (aa (Zi 5) ak)) (Zi 0)) [Zl [.int n],Zs x,Zn,Zn,Zn,Zn] = .ok ((d:Int) == 0) [Zl [.int (n / 5)],Zs x,Zn,Zn,Zn,Zn]:=by
  rw[<-e]
  rfl
 by_cases h0:d=0
 ·subst h0;obtain⟨j,hj,ej⟩:=dig (n / 5) x.length hp;refine⟨.tup [.tup [.str [],.str [x[j]]]],n / 5 / (x.length:Int),mU (env:=[Zl [.int (n / 5 / (x.length:Int))],Zs x,Zn,Zn,Zn,Zn]) ?_ rfl,.put (Qj3 hj)⟩;unfold iI.jq;refine(ie ?_).trans rfl;refine(gf t).trans ?_;refine bD (cP (aJ (cP (aJ rfl (aJ ?_ bK)) Ev.Js) bK) Ev.zz1);refine bA (y:=.int (n / 5 % (x.length:Int))) rfl ?_ rfl ?_
  ·exact nO (e1:=[Zl [.int (n / 5)],Zs x,Zn,Zn,Zn,Zn]) rfl rfl rfl (lQ _ x.length hp (by omega))
  ·show(xj x (n / 5 % (x.length:Int))).map _=_;rw[ej,Lb hj]
   rfl
 ·have t0:((d:Int) == 0)=false:=by rw[Qx6];omega
  rw[t0] at t;obtain⟨j,hj,ej⟩:=dig (n / 5) 3 (by decide);obtain⟨ds,hds,hl1,hl2⟩:∃ds,zq [.int (1+(j:Int))]=some ds/\0<ds.length/\ds.length<=4:=by
   have hc:j=0\/j=1\/j=2:=by omega
   rcases hc with rfl|rfl|rfl
   ·exact⟨_,rfl,by decide,by decide⟩
   ·exact⟨_,rfl,by decide,by decide⟩
   ·exact⟨_,rfl,by decide,by decide⟩
  obtain⟨e',f1,n',kvs,zs,v3,v4,v5,rfl,hk,hz1,hz2⟩:=mz (g:=aj 3) ds
   (λdone env=>∃n kvs zs v3 v4 v5,env=[Zl [.int n],Zs x,Zt (.dct kvs),v3,v4,v5]/\Gr x kvs zs/\zs.length<=done.length/\(0<done.length->0<zs.length))
   (λdone s rest hall env ⟨n,kvs,zs,v3,v4,v5,he,hk,hz1,hz2⟩=>by
    subst he;have hdl:done.length<=4:=by have:=Qz4 List.length hall;rw[Qqx,Qqy] at this;omega
    have hkl:kvs.length=zs.length:=by
     have:=Qz4 List.length hk.keys
     rwa [Qqv,Qqv] at this
    obtain⟨p,n',w4,w5,hpv,hb⟩:=iI.round n x hx kvs (by omega) (Zf s) v4 v5;obtain⟨zs',hk',z1,z2⟩:=hk.put hpv (Gp hpv);exact⟨_,_,rfl,hb,n',_,zs',_,_,_,rfl,hk',by rw[Qqx,Qq6];omega,λ_=>z1⟩)
   [Zl [.int (n / 5 / 3)],Zs x,Zt (.dct []),Zn,Zn,Zn] ⟨_,[],[],_,_,_,rfl,⟨rfl,.nil,λc hc=>by simp at hc,λk v h=>by simp at h⟩,Qq1 _,λh=>h⟩
  have hz3:zs.length<=4:=Qq2 hz1 hl2;have hok:Ce x (.tup (prs kvs ((jl (zs.map λc=>[c])).map D.str))):=by
   obtain⟨ps,e1,e2,e3⟩:=Ex hx _ (Fx hk);have hl:ps.length=zs.length:=by rw[e2,Qqv,(iK _).length_eq,Qqv]
   rw[e1];have:=hz2 hl1;exact .chg (by omega) (by omega) e3
  let E0:Ev.Env:=[Zl [.int n'],Zs x,Zt (.dct kvs),v3,v4,v5]
  refine⟨_,n',mU (env:=E0) ?_ rfl,hok⟩;unfold iI.jq;refine(az ((dU t).trans rfl)).trans ?_;refine(az (e:=[Zl [.int (n / 5)],Zs x,Zt (.dct []),Zn,Zn,Zn]) rfl).trans ?_;refine(az (e:=E0) ?_).trans ?_
  ·refine(eU ?_).trans f1;have a1:aa (aP dD (Zi 1) (fP iI.bu 0 (aa (Zi 3) ak))) ak [Zl [.int (n / 5)],Zs x,Zt (.dct []),Zn,Zn,Zn] = .ok [.int (1+n / 5 % 3)] [Zl [.int (n / 5 / 3)],Zs x,Zt (.dct []),Zn,Zn,Zn]:=by rfl
   unfold lz;rw[a1];show iT (zq [.int (1+n / 5 % ((3:Nat):Int))]) _=_;rw[ej,hds]
   rfl
  ·exact Ga (Gb hk hz3) _ _ _ _ _
theorem rule(n:Int)(x:List Nat)(hx:x∈XS):∃w ch l r n',iI.jx [.lst [.int n],.str x]=some (.tup [w,ch,l,r],.lst [.int n'])/\jU x w ch l r:=by
 obtain⟨d,hd,e⟩:=dig n 2 (by decide);obtain⟨w,hw,h1⟩:∃w,(w = .str [111,110,99,101]\/w = .str [97,108,111,110,103])/\fD (.lst [.str [111,110,99,101],.str [97,108,111,110,103]]) (.int (d:Int))=some w:=by
  have hc:d=0\/d=1:=by omega
  rcases hc with rfl|rfl
  ·exact⟨_,.inl rfl,rfl⟩
  ·exact⟨_,.inr rfl,rfl⟩
 obtain⟨ch,n1,h2,h3⟩:=changes (n / 2) x hx;obtain⟨l,n2,h5,h6⟩:=iI.signs n1 x hx;obtain⟨r,n3,h7,h8⟩:=iI.signs n2 x hx;refine⟨w,ch,l,r,n3,mU (env:=[Zl [.int n3],Zs x,Zf w,Zf ch]) ?_ rfl,⟨hw,h3,h6,h8⟩⟩;unfold iI.p8
 let E2:Ev.Env:=[Zl [.int (n / 2)],Zs x,Zf w,Zn]
 refine(az (e:=E2) ?_).trans ?_
 ·refine bI (d:=w) (e:=[Zl [.int (n / 2)],Zs x,Zn,Zn]) ?_ rfl;refine bH rfl rfl ?_;have e2:n % 2=(d:Int):=e;rw[e2];exact h1
 let E1:Ev.Env:=[Zl [.int n1],Zs x,Zf w,Zf ch]
 refine(az (e:=E1) ?_).trans ?_
 ·exact bI (nO (e1:=E2) rfl rfl rfl h2) rfl
 ·let E0:Ev.Env:=[Zl [.int n2],Zs x,Zf w,Zf ch]
  refine bD (cP (aJ (d:=w) rfl (aJ rfl (aJ (d:=l) (e1:=E0) ?_ (aJ (d:=r) ?_ bK)))) Ev.zz4)
  ·exact nO (e1:=E1) rfl rfl rfl h5
  ·exact nO (e1:=E0) rfl rfl rfl h7
open jk (XS sides jU nG fit fX)
theorem Ah{a:eN}{env e:Ev.Env}{x y:List D}(h:a env = .ok [.tup x,.tup y] e):Ai a env = .ok (vL x y) e:=by unfold Ai;rw[h];rfl
structure qp(x:List Nat)(s:D)(Rs:List D)(ss:List St):Prop where
 hx:x∈XS
 hs:s∈sides
 hR:∀R∈Rs,cj x R
 h4:Rs.length<=4
 hl:ss.length=Rs.length
 hS:∀t∈ss,gw x t
theorem ZJ{n m:Nat}(h:n<=4)(hm:m<=7):(m+2)*2^n<=150:=by have h1:2^n<=2^4:=Qjz (by decide) h;have h2:(m+2)*2^n<=9*2^4:=Qk4 (by omega) h1;omega
section
variable{x:List Nat}{s:D}{Rs:List D}{ss:List St}(o:qp x s Rs ss){z:List Nat}(hz:∀a∈z,a∈35::x)(hn:z.length<=7)
include o hz hn
theorem watch_on:∃us,dJ [.tup [s,.tup Rs],.tup (ss.map aR),.str z]=some (.tup [.tup ((jG x (lay s Rs) ss z).1.map aR),.str (jG x (lay s Rs) ss z).2,.tup us])/\qp x s Rs (jG x (lay s Rs) ss z).1:=by
 have h1:=reading_rules o.hx o.hs o.hR (Qq2 o.h4 (by decide));have h2:=zU (s:=s) o.hR;have h3:=uT s Rs;have h4:=o.h4;have hl:=o.hl;have hx:=o.hx;have hS:=o.hS;have hs:=o.hs;have hR:=o.hR;generalize lay s Rs=Ls at *;generalize D.tup [s,.tup Rs]=O at *;obtain⟨us,w6,w7,w8,w9,g1,g2,g3,g4⟩:=Yp hx (Zf O) (Zf (.tup (ss.map aR))) (Zs z) Ls ss z [] [] none none none none (by omega) h2 hS hz (ZJ (by omega) hn) (by rw[Qx2];omega) (by rw[Qx2];omega);refine⟨us,bO (env:=[Zf O,(Zf (.tup (ss.map aR))),Zs z,(Zs ((jG x Ls ss z).2)),(Zl ([]++(jG x Ls ss z).1.map aR)),Zl us,w6,w7,w8,w9]) ?_,hx,hs,hR,h4,by omega,g2⟩;unfold jb;refine(az (by rfl)).trans ?_;refine(az (by rfl)).trans ?_;refine(az (by rfl)).trans ?_;refine(az ((eU ?_).trans g1)).trans ?_
 ·exact Ah (aJ (aF (by rfl) h1) (by rfl))
 ·rw[Qkq];exact bD (cP (by rfl) Ev.zz3)
theorem read_on:kE [.tup [s,.tup Rs],.tup (ss.map aR),.str z]=some (.tup [.tup ((jG x (lay s Rs) ss z).1.map aR),.str (jG x (lay s Rs) ss z).2])/\qp x s Rs (jG x (lay s Rs) ss z).1:=by
 obtain⟨us,h1,h2⟩:=watch_on o hz hn;refine⟨?_,h2⟩;generalize(jG x (lay s Rs) ss z).1.map aR=T at *;generalize(jG x (lay s Rs) ss z).2=q at *;generalize D.tup [s,.tup Rs]=O at *
 let E0:Ev.Env:=[Zf O,(Zf (.tup (ss.map aR))),Zs z,Zf (.tup T),Zs q,Zf (.tup us)]
 refine bO (env:=E0) ?_;unfold jE;refine(az (e:=E0) ?_).trans ?_
 ·exact bI (aF (by rfl) h1) (by rfl)
 ·exact bD (cP (by rfl) Ev.Js)
omit hz hn
end
end dG
namespace Jx
open Ev PySem L2
open iI (SG cM)
open jk (XS sides jU nG fit fX vK look iR gZ encC sg ed nw eF cg out inn pc pin)
open Bk (cj cF fin)
open dG (Rl stp rd lJ rO wC Is TJ cN qK jG Jw yr lay tn lf Bh nrC aR gw qp rt)
open K10 (J gP YW)
section
variable{l r:D}{c:Nat}{kvs:List (D×D)}
theorem Rj:∀(w:List Nat) (p:Nat) (h:List Nat) (q:Nat),(rd (.put c l r) (fit l p,h) (w++[q])).2=h++J (gP l r c) p w q
 | [],p,h,q=>by
  show(rd (.put c l r) (fit l p,h) [q]).2=_;rw[wC]
  rfl
 | a::t,p,h,q=>by
  show(stp (.put c l r) (fit l p,h) a).2++(rd (.put c l r) (fit l a,[a]) (t++[q])).2=h++(gP l r c p a++a::J (gP l r c) a t q);rw[Rj t a [a] q];show(h++gP l r c p a)++([a]++_)=_;simp
theorem adG(w:List Nat)(near n:Nat):Bh kvs (sg w (n+1)) (fit l near&&fit r (sg w (n+2)))=nw kvs l r w near n:=by
 unfold Bh nw;cases look kvs (sg w (n+1)) with
 | none=>
  simp
 | some t=>
  cases fit l near&&fit r (sg w (n+2))<;>rfl
theorem LC(w:List Nat){n:Nat}(h:n<(w++[35]).length):(w++[35]).take (n+1)=(w++[35]).take n++[sg w (n+1)]:=by
 have e:sg w (n+1)=(w++[35])[n]:=by
  show(w++[35]).getD n 0=_;rw[Qw0,Qwz h]
  rfl
 rw[e,List.take_succ_eq_append_getElem h]
theorem Rk(al:Bool){x w:List Nat}(hk:vK x kvs)(hw:∀c∈w,c∈x):∀n,n<=w.length->rd (.chg al kvs l r) (fit l 35,[]) ((w++[35]).take (n+1))=((fit l (eF al w (cg al kvs l r w n) n),[sg w (n+1)]),(cg al kvs l r w n).flatten)
 | 0,_=>by
  rw[LC w (by rw[Qqx];exact Nat.succ_pos _),List.take_zero,Qkq,wC];show((fit l 35,[sg w 1]),([]:List Nat))=((fit l (eF al w [] 0),[sg w 1]),([]:List (List Nat)).flatten);cases al<;>rfl
 | n+1,h=>by
  have hl:n+1<(w++[35]).length:=by rw[Qqx,Qq6];omega
  rw[LC w hl,rO,Rk al hk hw n (by omega)];have hno:=jk.SJ (l:=l) (r:=r) hk hw (n:=n) (by omega) (eF al w (cg al kvs l r w n) n);show((nrC al l (sg w (n+1)) (fit l (eF al w (cg al kvs l r w n) n)) (Bh kvs (sg w (n+1)) (fit l (eF al w (cg al kvs l r w n) n)&&fit r (sg w (n+2)))),[sg w (n+2)]),(cg al kvs l r w n).flatten++Bh kvs (sg w (n+1)) (fit l (eF al w (cg al kvs l r w n) n)&&fit r (sg w (n+2))))=((fit l (eF al w (cg al kvs l r w n++[nw kvs l r w (eF al w (cg al kvs l r w n) n) n]) (n+1)),[sg w (n+2)]),(cg al kvs l r w n++[nw kvs l r w (eF al w (cg al kvs l r w n) n) n]).flatten);rw[adG];generalize cg al kvs l r w n=made at *;generalize hN:eF al w made n=near at *;generalize nw kvs l r w near n=t at *;have h2:nrC al l (sg w (n+1)) (fit l near) t=fit l (eF al w (made++[t]) (n+1)):=by
   cases al with
   | false=>rfl
   | true=>
    rw[jk.zM made t n hno.1,hN];unfold nrC;rw[if_pos rfl];split<;>rfl
  rw[h2,Qz9];simp
end
section
variable{x:List Nat}{R:D}(hx:x∈XS)(hR:cj x R){w:List Nat}(hw:∀c∈w,c∈x)(hn:w.length<=30000)
noncomputable def Vv(x:List Nat)(R:D)(w:List Nat):List Nat:=(rd (cN x R) (fit (lf R) 35,[]) (w++[35])).2
include hx hR hw hn
theorem from_left:jk.fZ [R,.str w]=some (.str (Vv x R w)):=by
 have hi:=qK hR;unfold Vv;generalize cN x R=ρ at *;cases hi with
 | put hc hl hr=>
  rename_i wy l r c;have e:(rd (.put c l r) (fit (lf (.tup [wy,.tup [.tup [.str [],.str [c]]],l,r])) 35,[]) (w++[35])).2=inn l r c w:=by rw[YW];exact Rj w 35 [] 35
  rw[e];refine bO (env:=[Zf (.tup [wy,.tup [.tup [.str [],.str [c]]],l,r]),Zs w]) ?_;unfold jk.fc;refine ie ?_;refine(gf (cU (aF rfl rfl))).trans ?_;exact bD (aF rfl (jk.with_put_in hx hl hr hw hn _ c))
 | chg hp hd hk hl hr=>
  rename_i al ps kvs l r;have e:(rd (.chg al kvs l r) (fit (lf (.tup [gZ al,.tup (ps.map encC),l,r])) 35,[]) (w++[35])).2=out al kvs l r w:=by
   have h1:=Rk (l:=l) (r:=r) al hk hw w.length (Qq1 _);rw[List.take_of_length_le (by rw[Qqx];exact Qq1 _)] at h1;show(rd (.chg al kvs l r) (fit l 35,[]) (w++[35])).2=_;rw[h1]
   rfl
  rw[e];refine bO (env:=[(Zf (.tup [gZ al,.tup (ps.map encC),l,r])),Zs w]) ?_;unfold jk.fc;have hpi:jk.fj [.tup [gZ al,.tup (ps.map encC),l,r]]=some (.bl false):=bO (bD (dG.Ua hp rfl));refine(az ((dU (cU (aF rfl hpi))).trans rfl)).trans ?_;exact bD (aF rfl (jk.with_changes hx hl hr hw hn hk al _ hd))
theorem Xa:cF (.str [108,101,102,116]) R w=Vv x R w:=by
 have h1:=from_left hx hR hw hn;have h2:jk.gD [.str [108,101,102,116],R,.str w]=some (.str (Vv x R w)):=by refine bO (env:=[Zs [108,101,102,116],Zf R,Zs w]) ?_;unfold jk.iB;refine(az ((dU (by rfl)).trans rfl)).trans ?_;exact bD (aF rfl h1)
 unfold cF;rw[h2]
theorem Rg:cF (.str [114,105,103,104,116]) R w=(Vv x (tn R) w.reverse).reverse:=by
 obtain⟨t1,t2,t3⟩:=dG.Lz hR;have h1:=from_left hx t1 (λc hc=>hw c (Qkv.mp hc)) (by rw[Qkj];exact hn);generalize Vv x (tn R) w.reverse=o at *;have h2:jk.gD [.str [114,105,103,104,116],R,.str w]=some (.str o.reverse):=by
  have rev:∀{a:Ev} {env:Ev.Env} {o:List Nat},a env = .ok (.str o) env->sS a env = .ok (.str o.reverse) env:=λ{a env o} e=>by unfold sS;rw[e];rfl
  refine bO (env:=[Zs [114,105,103,104,116],Zf R,Zs w]) ?_;unfold jk.iB;refine ie ((gf rfl).trans (bD (rev ?_)));refine aF (aJ (aF rfl t2) (aJ (rev rfl) bK)) h1
 unfold cF;rw[h2]
end
theorem Es{x:List Nat}:∀(Ls:List D) (ss:List dG.St),Ls.length=ss.length->jG x Ls ss []=(ss,[])
 | [],[],_=>rfl
 | [],_::_,h=>by simp at h
 | _::_,[],h=>by simp at h
 | L::Ls,s::ss,h=>by
  show(s::(jG x Ls ss []).1,(jG x Ls ss []).2)=_;rw[Es Ls ss (by simpa using h)]
def dW(s:D)(w:List Nat):List Nat:=if rt s=true then w.reverse else w
theorem jQ(s:D)(w:List Nat):dW s (dW s w)=w:=by
 unfold dW;split
 ·rw[List.reverse_reverse]
 ·rfl
end Jx
namespace Qo
open Ev PySem L2
open iI (SG)
open jk (XS sides nG fit)
open Bk (cj fin)
open dG (aR qp gw jG Jw yr lay tn lf rt yD zc Ec)
open Jx (dW jQ Es)
def qS(ss:List dG.St):NK:=.tup (ss.map λs=>.tup [.num (if s.1 then 1 else 0),.txt (strOf s.2)])
theorem ad0:∀ss:List dG.St,Bx (ss.map aR)=some (ss.map λs=>.tup [.num (if s.1 then 1 else 0),.txt (strOf s.2)])
 | []=>rfl
 | (b,z)::ss=>by
  have ih:=ad0 ss;have h1:rR (aR (b,z))=some (.tup [.num (if b then 1 else 0),.txt (strOf z)]):=by simp[aR,rR,Bx]
  rw[Qq8,Qq8];unfold Bx;rw[h1,ih]
theorem Y5:∀ss:List dG.St,NK.rD (ss.map λs=>.tup [.num (if s.1 then 1 else 0),.txt (strOf s.2)])<=1
 | []=>by unfold NK.rD;simp
 | s::ss=>by
  have ih:=Y5 ss;rw[Qq8];unfold NK.rD;have:NK.dep (.tup [.num (if s.1 then 1 else 0),.txt (strOf s.2)])=1:=by simp[NK.dep,NK.rD]
  rw[this];omega
theorem ad1(ss:List dG.St):rR (.tup (ss.map aR))=some (qS ss):=by
 unfold rR;rw[ad0]
 rfl
theorem YK(ss:List dG.St):zL (.tup (ss.map aR))=some (qS ss):=by
 show(rR (.tup (ss.map aR))).bind _=_;rw[ad1];have h:(qS ss).dep<=8:=by unfold qS NK.dep;have:=Y5 ss;omega
 exact if_pos h
theorem Rv:∀(ss tt:List dG.St),(ss.map λs=>NK.tup [.num (if s.1 then 1 else 0),.txt (strOf s.2)])=(tt.map λs=>NK.tup [.num (if s.1 then 1 else 0),.txt (strOf s.2)])->ss=tt
 | [],[],_=>rfl
 | [],_::_,h=>by cases h
 | _::_,[],h=>by cases h
 | (b,z)::ss,(c,y)::tt,h=>by
  rw[Qq8,Qq8] at h;obtain⟨h1,h2⟩:=Qx8 h;have h3:=NK.tup.inj h1;obtain⟨h4,h5⟩:=Qx8 h3;obtain⟨h6,_⟩:=Qx8 h5;have h7:z=y:=SX.rM (NK.txt.inj h6);have h8:=NK.num.inj h4;simp only at h8;have h9:b=c:=by cases b<;>cases c<;>first|rfl|(simp at h8)
  rw[h9,h7,Rv ss tt h2]
theorem zx{ss tt:List dG.St}(h:qS ss=qS tt):ss=tt:=Rv ss tt (NK.tup.inj h)
theorem vg{i:Nat}{k a:Ev}{env e1 e2:Ev.Env}{d kd z:D}{o:Bool}{q:NK}{kvs:List (D×D)}(h1:a env = .ok d e1)(h0:e1[i]? = some (some (o,z)))(h2:k e1 = .ok kd e2)(h3:e2[i]? = some (Zt (.iz kvs)))(h4:zL kd=some q)(h5:kvs.length<sizeLine):ph i k a env = .nx (e2.set i (Zt (.iz (sG kvs kd q d)))):=by unfold ph;simp only[h1,gM,h0,h2,h3,h4,if_pos h5]
end Qo
namespace KB
section
variable{P:Type}(L:P->Nat->P)(S:P->Bool)(x:List Nat)(p0:P)
def pl(w:List Nat):P:=w.foldl L p0
theorem rQ(w:List Nat)(a:Nat):pl L p0 (w++[a])=L (pl L p0 w) a:=by unfold pl;rw[List.foldl_append];rfl
structure Gs(n:Nat)(ps:List P)(ws:List (List Nat)):Prop where
 len:ws.length=ps.length
 nd:ps.Nodup
 z0:ps[0]? = some p0
 w0:ws[0]? = some []
 plo:∀(i:Nat) p w,ps[i]? = some p->ws[i]? = some w->pl L p0 w=p/\(∀a∈w,a∈x)/\w.length<=i
 sf:∀p∈ps,S p=false
 mono:∀(i j:Nat) v w,i<=j->ws[i]? = some v->ws[j]? = some w->v.length<=w.length
 clo:∀(i:Nat) p w a,i<n->ps[i]? = some p->ws[i]? = some w->a∈x->∃(j:Nat) (v:List Nat),ps[j]? = some (L p a)/\ws[j]? = some v/\v.length<=w.length+1
 last:∀w,ws[n]? = some w->∀(j:Nat) v,ws[j]? = some v->v.length<=w.length+1
variable{L S x p0}
theorem jn{α:Type}{l:List α}{a b:α}{i:Nat}(h:(l++[a])[i]? = some b):l[i]? = some b\/(i=l.length/\b=a):=by
 by_cases hi:i<l.length
 ·rw[Qw3 hi] at h;exact .inl h
 ·rw[Qxy (by omega)] at h;have:i - l.length=0:=by
   have:=(Qqw.mp h).1;rw[Qq6] at this;omega
  rw[this] at h;cases h;exact .inr ⟨by omega,rfl⟩
theorem lU{α:Type}{l:List α}{a b:α}{i:Nat}(h:l[i]? = some b):(l++[a])[i]? = some b:=by rw[Qw3 (Qqw.mp h).1];exact h
theorem M5{α:Type}{l:List α}{a:α}:(l++[a])[l.length]? = some a:=by rw[Qxy (Qq1 _),Nat.sub_self];rfl
theorem Gs.start(h:S p0=false):Gs L S x p0 0 [p0] [[]]:=by
 have one:∀{α:Type} {a b:α} {i:Nat},[a][i]? = some b->i=0/\b=a:=λ{α a b i} h=>by
  cases i with
  | zero=>cases h;exact⟨rfl,rfl⟩
  | succ i=>simp at h
 refine⟨rfl,Qxj.mpr ⟨by simp,.nil⟩,rfl,rfl,λi p w h1 h2=>?_,λp hp=>?_,λi j v w _ h1 h2=>?_,λi p w a hi=>absurd hi (Qj8 _),λw h1 j v h2=>?_⟩
 ·obtain⟨rfl,rfl⟩:=one h1;obtain⟨_,rfl⟩:=one h2;exact⟨rfl,λa ha=>by simp at ha,Qq1 _⟩
 ·rw[Qqk.mp hp];exact h
 ·obtain⟨_,rfl⟩:=one h1;exact Qxk _
 ·obtain⟨_,rfl⟩:=one h2;exact Qxk _
theorem Gs.add{n:Nat}{ps:List P}{ws:List (List Nat)}(B:Gs L S x p0 n ps ws){p:P}{w:List Nat}(hp:ps[n]? = some p)(hw:ws[n]? = some w){a:Nat}(ha:a∈x)(hn:L p a ∉ ps)(hs:S (L p a)=false) :
  Gs L S x p0 n (ps++[L p a]) (ws++[w++[a]]):=by
 have hn1:n<ps.length:=(Qqw.mp hp).1;obtain⟨q1,q2,q3⟩:=B.plo n p w hp hw;refine⟨by rw[Qqx,Qqx,B.len];rfl,?_,lU B.z0,lU B.w0,λi q v h1 h2=>?_,λq hq=>?_,λi j v u hij h1 h2=>?_,λi q v b hi h1 h2 hb=>?_,λv h1 j u h2=>?_⟩
 ·rw[List.nodup_append];refine⟨B.nd,Qxj.mpr ⟨by simp,.nil⟩,λy hy z hz e=>?_⟩;rw[Qqk.mp hz] at e;exact hn (e ▸ hy)
 ·rcases jn h1 with h1|⟨e1,e2⟩
  ·rcases jn h2 with h2|⟨e1,e2⟩
   ·exact B.plo i q v h1 h2
   ·have:=(Qqw.mp h1).1;rw[B.len] at e1;omega
  ·rcases jn h2 with h2|⟨_,e3⟩
   ·have:=(Qqw.mp h2).1;rw[B.len] at this;omega
   ·subst e2 e3;refine⟨by rw[rQ,q1],λb hb=>?_,by rw[Qqx,Qq6];omega⟩;rcases Qwq.mp hb with hb|hb
    ·exact q2 b hb
    ·rw[Qqk.mp hb];exact ha
 ·rcases Qwq.mp hq with hq|hq
  ·exact B.sf q hq
  ·rw[Qqk.mp hq];exact hs
 ·rcases jn h1 with h1|⟨e1,e2⟩
  ·rcases jn h2 with h2|⟨e3,e4⟩
   ·exact B.mono i j v u hij h1 h2
   ·subst e4;rw[Qqx,Qq6];exact B.last w hw i v h1
  ·rcases jn h2 with h2|⟨e3,e4⟩
   ·have:=(Qqw.mp h2).1;omega
   ·subst e2 e4;exact Qq1 _
 ·have hi1:i<ps.length:=by omega
  rcases jn h1 with h1|⟨e1,_⟩
  ·rcases jn h2 with h2|⟨e1,_⟩
   ·obtain⟨j,u,g1,g2,g3⟩:=B.clo i q v b hi h1 h2 hb;exact⟨j,u,lU g1,lU g2,g3⟩
   ·rw[B.len] at e1;omega
  ·omega
 ·have h1':ws[n]? = some v:=by
   rcases jn h1 with h1|⟨e1,_⟩
   ·exact h1
   ·rw[B.len] at e1;omega
  rw[hw] at h1';cases h1';rcases jn h2 with h2|⟨_,e4⟩
  ·exact B.last w hw j u h2
  ·subst e4;rw[Qqx];exact Qq1 _
theorem Gs.next{n:Nat}{ps:List P}{ws:List (List Nat)}(B:Gs L S x p0 n ps ws){p:P}{w:List Nat}(hp:ps[n]? = some p)(hw:ws[n]? = some w)
  (hc:∀a∈x,∃(j:Nat) (v:List Nat),ps[j]? = some (L p a)/\ws[j]? = some v/\v.length<=w.length+1):Gs L S x p0 (n+1) ps ws:=by
 refine⟨B.len,B.nd,B.z0,B.w0,B.plo,B.sf,B.mono,λi q v a hi h1 h2 ha=>?_,λu hu j v hv=>?_⟩
 ·by_cases hin:i=n
  ·subst hin;rw[hp] at h1;cases h1;rw[hw] at h2;cases h2;exact hc a ha
  ·exact B.clo i q v a (by omega) h1 h2 ha
 ·have h1:=B.last w hw j v hv;have h2:=B.mono n (n+1) w u (by omega) hw hu;omega
theorem Gs.found{n:Nat}{ps:List P}{ws:List (List Nat)}(B:Gs L S x p0 n ps ws){w:List Nat}(hw:ws[n]? = some w) :
  ∀(m:Nat) (v:List Nat),v.length=m->(∀a∈v,a∈x)->v.length<=w.length->∃(j:Nat) (u:List Nat),ps[j]? = some (pl L p0 v)/\ws[j]? = some u/\u.length<=v.length:=by
 intro m
 induction m with
 | zero=>
  intro v hv _ _;have:v=[]:=List.length_eq_zero_iff.mp hv;subst this;exact⟨0,[],B.z0,B.w0,Qq1 _⟩
 | succ m ih=>
  intro v hv hx hl;rcases List.eq_nil_or_concat v with rfl|⟨v',a,rfl⟩
  ·simp at hv
  ·rw[List.concat_eq_append] at *;rw[Qqx,Qq6] at hv hl;obtain⟨i,u,g1,g2,g3⟩:=ih v' (by omega) (λb hb=>hx b (Qzk _ hb)) (by omega);have hin:i<n:=by
    by_cases h:i<n
    ·exact h
    ·have:=B.mono n i w u (by omega) hw g2;omega
   obtain⟨j,t,k1,k2,k3⟩:=B.clo i _ u a hin g1 g2 (hx a (Qxz _ (Qqk.mpr rfl)));exact⟨j,t,by rw[rQ];exact k1,k2,by rw[Qqx,Qq6];omega⟩
theorem Gs.least{n:Nat}{ps:List P}{ws:List (List Nat)}(B:Gs L S x p0 n ps ws){w:List Nat}(hw:ws[n]? = some w)(v:List Nat)(hx:∀a∈v,a∈x)(hl:v.length<w.length+1):S (pl L p0 v)=false:=by obtain⟨j,u,g1,_⟩:=B.found hw v.length v rfl hx (by omega);exact B.sf _ (Qxv g1)
theorem Gs.none{n:Nat}{ps:List P}{ws:List (List Nat)}(B:Gs L S x p0 n ps ws)(hn:ps.length<=n):∀(m:Nat) (v:List Nat),v.length=m->(∀a∈v,a∈x)->pl L p0 v∈ps:=by
 intro m
 induction m with
 | zero=>
  intro v hv _;have:v=[]:=List.length_eq_zero_iff.mp hv;subst this;exact Qxv B.z0
 | succ m ih=>
  intro v hv hx;rcases List.eq_nil_or_concat v with rfl|⟨v',a,rfl⟩
  ·simp at hv
  ·rw[List.concat_eq_append] at *;rw[Qqx,Qq6] at hv;obtain⟨i,hi⟩:=List.mem_iff_getElem?.mp (ih v' (by omega) λb hb=>hx b (Qzk _ hb));have hil:i<ps.length:=(Qqw.mp hi).1;have age:i<ws.length:=by rw[B.len];exact hil
   have hw:ws[i]? = some ws[i]:=Qwz age;obtain⟨j,t,k1,_⟩:=B.clo i _ _ a (by omega) hi hw (hx a (Qxz _ (Qqk.mpr rfl)));rw[rQ];exact Qxv k1
theorem oW{α:Type}[DecidableEq α]:∀(U ps:List α),ps.Nodup->(∀p∈ps,p∈U)->ps.length<=U.length
 | U,[],_,_=>Qxk _
 | U,p::ps,hn,hs=>by
  have hp:=hs p (Qqj ..);have h:=oW (U.erase p) ps (Qxj.mp hn).2 λq hq=>by
   have hne:q≠p:=λe=>(Qxj.mp hn).1 (e ▸ hq);exact(List.mem_erase_of_ne hne).mpr (hs q (Qqq _ hq))
  have h2:=List.length_erase_of_mem hp;have h3:0<U.length:=List.length_pos_of_mem hp;rw[Qqy];omega
end
open Ev PySem L2
open iI (cM)
open jk (sides)
open dG (rt)
open Jx (dW)
open Qo (vg)
section
def jR:bU:=jH.jR
def gF:LD:=bW 2 jR
def lb(Φ:Stmt->List D->LD):bU:=aB (aQ (lO Φ 3 (aa (aA fD 5 (bh 8)) (Zv 9 ak))) (aj 10)) (aB (eE (lA (dg (aA Fy 10 (ji .non))) (dg (aA KQ 10 (bh 7)))) ((λenv=>.ct env)) bV) (aB (eE (dg (lO Φ 4 (Zv 10 ak))) (bw (aq gF (Zv 1 (aa (aP dD (aA fD 6 (bh 8)) (bh 9)) ak)))) bV) (aB (ph 7 (aM 10) (ji (.bl true))) (aB (d7 5 (aM 10)) (d7 6 (aP dD (aA fD 6 (bh 8)) (bh 9)))))))
def wb(so:LD)(Φ:Stmt->List D->LD):bU:=aB (gq (iH (aq so (Zv 0 ak))) (aj 9) (lb Φ)) (Ma 8 (Zi 1))
def cT(so:LD)(Φ:Stmt->List D->LD):bU:=aB (eE (dg (lO Φ 4 (Zv 2 ak))) (bw (Zw [])) bV) (aB (dq 5 (cC (Zv 2 ak))) (aB (dq 6 (cC (aa (Zw []) ak))) (aB (dq 7 (rA (aM 2) (ji (.bl true)))) (aB (aQ (Zi 0) (aj 8)) (aB (fM (dg (aA P0 8 (aq fW (aa (bh 5) ak)))) (wb so Φ) 7000) (bw (ji .non)))))))
end
theorem Ak{Φ:Stmt->List D->LD}{i:Nat}{a:eN}{env e1:Ev.Env}{st:Stmt}{lM ds:List D}{d:D}(h0:env[i]? = some (Zf (.clo st lM)))(h1:a env = .ok ds e1)(h2:Φ st lM ds=some d):lO Φ i a env = .ok d e1:=by
 unfold lO;rw[h0];show bindR (a env) _=_;rw[h1];show iT (Φ st lM ds) e1=_;rw[h2]
 rfl
theorem Q0{a b:bU}{env e:Ev.Env}(h:a env = .ct e):aB a b env = .ct e:=by unfold aB;rw[h]
theorem T9{a b:List Nat}(h:a.length+b.length<=sizeLine):dD (.str a) (.str b)=some (.str (a++b)):=by unfold dD;exact if_pos h
theorem stands{side:D}(hs:side∈sides)(w:List Nat):gF [side,.str w]=some (.str (dW side w)):=by simp only[sides,Qq4,Qw9,Qj2] at hs;rcases hs with rfl|rfl<;>rfl
section
variable{P:Type}[DecidableEq P]{Φ:Stmt->List D->LD}{sl ss:Stmt}{cl cs:List D}{x:List Nat}{cu side:D}{so:LD}{en:P->D}{key:P->NK}{L:P->Nat->P}{S:P->Bool}{Ok:P->Prop}{U:List P}{p0:P}
structure Gives(Φ:Stmt->List D->LD)(sl ss:Stmt)(cl cs:List D)(x:List Nat)(en:P->D)(key:P->NK)(L:P->Nat->P)(S:P->Bool)(Ok:P->Prop)(U:List P):Prop where
 lead:∀p a,Ok p->a∈x->Φ sl cl [en p,.str [a]]=some (en (L p a))/\Ok (L p a)
 shows:∀p,Ok p->Φ ss cs [en p]=some (.bl (S p))
 nk:∀p,zL (en p)=some (key p)
 inj:∀p q,key p=key q->p=q
 all:∀p,Ok p->p∈U
 few:U.length<=6998
def kn(en:P->D)(ps:List P):List (D×D):=ps.map λp=>(en p,.bl true)
variable(G:Gives Φ sl ss cl cs x en key L S Ok U)
include G
theorem Tp(ps:List P)(q:P):(jz (kn en ps) (key q)).isSome=decide (q∈ps):=by
 unfold jz kn;rw[Qj9];by_cases h:q∈ps
 ·rw[Qw4 h,List.find?_isSome];exact⟨(en q,.bl true),Qwy.mpr ⟨q,h,rfl⟩,by simp only[(tX (G.nk q)).1,decide_true]⟩
 ·rw[Qwj h];cases e:List.find? (λp=>decide (rR p.1=some (key q))) (ps.map λp=>(en p,D.bl true)) with
  | none=>rfl
  | some r=>
   have h1:=List.find?_some e;have h2:=List.mem_of_find?_eq_some e;obtain⟨p,hp,rfl⟩:=Qwy.mp h2;have h3:rR (en p)=some (key q):=Qw8 h1;rw[(tX (G.nk p)).1] at h3;cases G.inj p q (Qw1 h3);exact absurd hp h
theorem abp(ps:List P)(q:P)(h:q ∉ ps):sG (kn en ps) (en q) (key q) (.bl true)=kn en (ps++[q]):=by unfold sG;rw[Tp G,Qwj h];simp[kn]
omit G [DecidableEq P] in
abbrev En(sl ss:Stmt)(cl cs:List D)(en:P->D)(cu side:D)(f:P)(ps:List P)(ws:List (List Nat))(n:Nat)(a9 a10:OD):Ev.Env:=
 [Zf cu,Zf side,Zf (en f),Zf (.clo sl cl),Zf (.clo ss cs),Zl (ps.map en),Zl (ws.map .str),(Zt (.iz (kn en ps))),(Zf (.int (n:Int))),a9,a10]
theorem O7(z7:side∈sides){n:Nat}{ps:List P}{ws:List (List Nat)}(B:Gs L S x p0 n ps ws)(hok:∀p∈ps,Ok p){p:P}{w:List Nat}(hp:ps[n]? = some p)(hw:ws[n]? = some w){a:Nat}(ha:a∈x)(f:P)(a10:OD) :
  (L p a∈ps/\lb Φ (En sl ss cl cs en cu side f ps ws n (Zs [a]) a10) = .ct (En sl ss cl cs en cu side f ps ws n (Zs [a]) (Zf (en (L p a)))))\/
  (L p a ∉ ps/\S (L p a)=true/\∃e,lb Φ (En sl ss cl cs en cu side f ps ws n (Zs [a]) a10) = .rt false (.str (dW side (w++[a]))) e)\/
  (L p a ∉ ps/\S (L p a)=false/\lb Φ (En sl ss cl cs en cu side f ps ws n (Zs [a]) a10) = .nx (En sl ss cl cs en cu side f (ps++[L p a]) (ws++[w++[a]]) n (Zs [a]) (Zf (en (L p a))))):=by
 have hn1:n<ps.length:=(Qqw.mp hp).1;obtain⟨g1,g2⟩:=G.lead p a (hok p (Qxv hp)) ha;have hlen:ps.length<=6998:=Qq2 (oW U ps B.nd λq hq=>G.all q (hok q hq)) G.few;obtain⟨_,_,hwl⟩:=B.plo n p w hp hw;generalize hq:L p a=q at *;have s1:aQ (lO Φ 3 (aa (aA fD 5 (bh 8)) (Zv 9 ak))) (aj 10) (En sl ss cl cs en cu side f ps ws n (Zs [a]) a10) = .nx (En sl ss cl cs en cu side f ps ws n (Zs [a]) (Zf (en q))):=by
  let E0:Ev.Env:=En sl ss cl cs en cu side f ps ws n (Zs [a]) a10
  refine bI (e:=E0) (Ak rfl ?_ g1) rfl;refine aJ (e1:=E0) ?_ (aJ rfl bK);refine bA rfl rfl rfl (lq ?_);rw[Qw5,hp];rfl
 have is0:Fy (en q) .non=some (.bl false):=by obtain⟨_,_,xs,e⟩:=tX (G.nk q);rw[e];rfl
 have in0:KQ (en q) (.iz (kn en ps))=some (.bl (decide (q∈ps))):=by show(zL (en q)).map _=_;rw[G.nk q];show some (D.bl (jz (kn en ps) (key q)).isSome)=_;rw[Tp G]
 have t1:lA (dg (aA Fy 10 (ji .non))) (dg (aA KQ 10 (bh 7))) (En sl ss cl cs en cu side f ps ws n (Zs [a]) (Zf (en q))) = .ok (decide (q∈ps)) (En sl ss cl cs en cu side f ps ws n (Zs [a]) (Zf (en q))):=by refine(Xu (cU (bA rfl rfl rfl is0))).trans ?_;exact cU (bA rfl rfl rfl in0)
 have wa:aP dD (aA fD 6 (bh 8)) (bh 9) (En sl ss cl cs en cu side f ps ws n (Zs [a]) (Zf (en q))) = .ok (.str (w++[a])) (En sl ss cl cs en cu side f ps ws n (Zs [a]) (Zf (en q))):=by
  refine bH (e1:=En sl ss cl cs en cu side f ps ws n (Zs [a]) (Zf (en q))) ?_ rfl (T9 ?_)
  ·refine bA rfl rfl rfl (lq ?_);rw[Qw5,hw];rfl
  ·exact Qq2 (show w.length+1<=7000 by omega) (by decide)
 unfold lb;rw[az s1];by_cases hm:q∈ps
 ·rw[Qw4 hm] at t1;exact .inl ⟨hm,Q0 (gf t1)⟩
 ·rw[Qwj hm] at t1;have u1:eE (lA (dg (aA Fy 10 (ji .non))) (dg (aA KQ 10 (bh 7)))) (λenv=>.ct env) bV (En sl ss cl cs en cu side f ps ws n (Zs [a]) (Zf (en q))) = .nx (En sl ss cl cs en cu side f ps ws n (Zs [a]) (Zf (en q))):=dU t1;rw[az u1];have t2:dg (lO Φ 4 (Zv 10 ak)) (En sl ss cl cs en cu side f ps ws n (Zs [a]) (Zf (en q))) = .ok (S q) (En sl ss cl cs en cu side f ps ws n (Zs [a]) (Zf (en q))):=
   cU (Ak rfl (aJ rfl bK) (G.shows q g2))
  cases hs:S q with
  | true=>
   rw[hs] at t2;refine .inr (.inl ⟨hm,rfl,En sl ss cl cs en cu side f ps ws n (Zs [a]) (Zf (en q)),ie ((gf t2).trans (bD (aF (aJ rfl (aJ wa bK)) (stands z7 _))))⟩)
  | false=>
   rw[hs] at t2;refine .inr (.inr ⟨hm,rfl,?_⟩);have u2:eE (dg (lO Φ 4 (Zv 10 ak))) (bw (aq gF (Zv 1 (aa (aP dD (aA fD 6 (bh 8)) (bh 9)) ak)))) bV (En sl ss cl cs en cu side f ps ws n (Zs [a]) (Zf (en q))) = .nx (En sl ss cl cs en cu side f ps ws n (Zs [a]) (Zf (en q))):=dU t2;rw[az u2];have s4:=vg (i:=7) (k:=aM 10) (a:=ji (.bl true)) (e1:=En sl ss cl cs en cu side f ps ws n (Zs [a]) (Zf (en q))) rfl rfl rfl rfl (G.nk q)
    (by rw[kn,Qqv];exact Qw2 hlen (by decide))
   rw[abp G ps q hm] at s4;rw[az s4];refine(az (cM (i:=5) (e:=[Zf cu,Zf side,Zf (en f),Zf (.clo sl cl),Zf (.clo ss cs),Zl (ps.map en),Zl (ws.map .str),(Zt (.iz (kn en (ps++[q])))),(Zf (.int (n:Int))),Zs [a],Zf (en q)]) rfl rfl rfl (by rw[Qqv];exact Qw2 hlen (by decide)))).trans ?_;have e5:ps.map en++[en q]=(ps++[q]).map en:=by rw[Qx1];rfl
   have e6:ws.map D.str++[.str (w++[a])]=(ws++[w++[a]]).map D.str:=by rw[Qx1];rfl
   have wa2:aP dD (aA fD 6 (bh 8)) (bh 9) [Zf cu,Zf side,Zf (en f),Zf (.clo sl cl),Zf (.clo ss cs),Zl (ps.map en++[en q]),Zl (ws.map .str),(Zt (.iz (kn en (ps++[q])))),(Zf (.int (n:Int))),Zs [a],Zf (en q)] = .ok (.str (w++[a])) [Zf cu,Zf side,Zf (en f),Zf (.clo sl cl),Zf (.clo ss cs),Zl (ps.map en++[en q]),Zl (ws.map .str),(Zt (.iz (kn en (ps++[q])))),(Zf (.int (n:Int))),Zs [a],Zf (en q)]:=by
    refine bH (e1:=[Zf cu,Zf side,Zf (en f),Zf (.clo sl cl),Zf (.clo ss cs),Zl (ps.map en++[en q]),Zl (ws.map .str),(Zt (.iz (kn en (ps++[q])))),(Zf (.int (n:Int))),Zs [a],Zf (en q)]) ?_ rfl (T9 ?_)
    ·refine bA rfl rfl rfl (lq ?_);rw[Qw5,hw];rfl
    ·exact Qq2 (show w.length+1<=7000 by omega) (by decide)
   refine(cM (i:=6) rfl wa2 rfl (by rw[Qqv,B.len];exact Qw2 hlen (by decide))).trans ?_;rw[e5,e6]
   rfl
end
section
variable{P:Type}[DecidableEq P]{Φ:Stmt->List D->LD}{sl ss:Stmt}{cl cs:List D}{x:List Nat}{cu side:D}{so:LD}{en:P->D}{key:P->NK}{L:P->Nat->P}{S:P->Bool}{Ok:P->Prop}{U:List P}{p0:P}
variable(G:Gives Φ sl ss cl cs x en key L S Ok U)
def Nx(side:D)(L:P->Nat->P)(S:P->Bool)(x:List Nat)(p0:P)(r:D):Prop:=∃w,r = .str (dW side w)/\(∀a∈w,a∈x)/\S (pl L p0 w)=true/\∀v,(∀a∈v,a∈x)->v.length<w.length->S (pl L p0 v)=false
theorem Xp{g:GV}{b:bU}{d:D}{ds:List D}{env e1 e2:Ev.Env}(h1:g d env=some e1)(h2:b e1 = .ct e2):gV g b (d::ds) env=gV g b ds e2:=by
 conv=>lhs;unfold gV
 rw[h1];simp only;rw[h2]
theorem yM{g:GV}{b:bU}{d:D}{ds:List D}{env e1 e2:Ev.Env}(h1:g d env=some e1)(h2:b e1 = .nx e2):gV g b (d::ds) env=gV g b ds e2:=by
 conv=>lhs;unfold gV
 rw[h1];simp only;rw[h2]
theorem Xo{g:GV}{b:bU}{d d':D}{ds:List D}{env e1 e2:Ev.Env}{o:Bool}(h1:g d env=some e1)(h2:b e1 = .rt o d' e2):gV g b (d::ds) env = .rt o d' e2:=by
 conv=>lhs;unfold gV
 rw[h1];simp only;rw[h2]
theorem Yq{t:gn}{b:bU}{m:Nat}{env e1 e2:Ev.Env}(h:t env = .ok true e1)(h2:b e1 = .nx e2):fM t b (m+1) env=fM t b m e2:=by
 conv=>lhs;unfold fM
 rw[h];simp only[gM,if_true];rw[h2]
theorem acS{t:gn}{b:bU}{m:Nat}{env e1 e2:Ev.Env}{o:Bool}{d:D}(h:t env = .ok true e1)(h2:b e1 = .rt o d e2):fM t b (m+1) env = .rt o d e2:=by
 conv=>lhs;unfold fM
 rw[h];simp only[gM,if_true];rw[h2]
theorem acT{t:gn}{b:bU}{m:Nat}{env e1:Ev.Env}(h:t env = .ok false e1):fM t b (m+1) env = .nx e1:=by
 conv=>lhs;unfold fM
 rw[h];rfl
include G
theorem abQ(z7:side∈sides){n:Nat}{p:P}{w:List Nat}(f:P):∀(rest done:List Nat) (ps:List P) (ws:List (List Nat)) (a9 a10:OD),x=done++rest->Gs L S x p0 n ps ws->(∀q∈ps,Ok q)->ps[n]? = some p->ws[n]? = some w->
  (∀a∈done,∃(j:Nat) (v:List Nat),ps[j]? = some (L p a)/\ws[j]? = some v/\v.length<=w.length+1)->
  (∃r e,gV (aj 9) (lb Φ) (rest.map λa=>.str [a]) (En sl ss cl cs en cu side f ps ws n a9 a10) = .rt false r e/\Nx side L S x p0 r)\/
  (∃ps' ws' b9 b10,gV (aj 9) (lb Φ) (rest.map λa=>.str [a]) (En sl ss cl cs en cu side f ps ws n a9 a10) = .nx (En sl ss cl cs en cu side f ps' ws' n b9 b10)/\Gs L S x p0 (n+1) ps' ws'/\(∀q∈ps',Ok q)/\ps'[n]? = some p):=by
 intro rest
 induction rest with
 | nil=>
  intro done ps ws a9 a10 hx B hok hp hw hc;rw[Qxx] at hx;exact .inr ⟨ps,ws,a9,a10,rfl,B.next hp hw (by rw[hx];exact hc),hok,hp⟩
 | cons a rest ih=>
  intro done ps ws a9 a10 hx B hok hp hw hc;have ha:a∈x:=by rw[hx];simp
  have hx':x=(done++[a])++rest:=by rw[hx];simp
  have hg:aj 9 (.str [a]) (En sl ss cl cs en cu side f ps ws n a9 a10)=some (En sl ss cl cs en cu side f ps ws n (Zs [a]) a10):=rfl;rw[Qq8];rcases O7 G z7 B hok hp hw ha f a10 with ⟨hm,h⟩|⟨hm,hs,e,h⟩|⟨hm,hs,h⟩
  ·rw[Xp hg h];refine ih (done++[a]) ps ws _ _ hx' B hok hp hw λb hb=>?_;rcases Qwq.mp hb with hb|hb
   ·exact hc b hb
   ·rw[Qqk.mp hb];obtain⟨j,hj⟩:=List.mem_iff_getElem?.mp hm;have hj2:j<ws.length:=by rw[B.len];exact(Qqw.mp hj).1
    have hwj:ws[j]? = some ws[j]:=Qwz hj2;exact⟨j,_,hj,hwj,B.last w hw j _ hwj⟩
  ·rw[Xo hg h];obtain⟨q1,q2,_⟩:=B.plo n p w hp hw;refine .inl ⟨_,_,rfl,w++[a],rfl,λb hb=>?_,by rw[rQ,q1];exact hs,λv hv hl=>B.least hw v hv (by rw[Qqx] at hl;exact hl)⟩;rcases Qwq.mp hb with hb|hb
   ·exact q2 b hb
   ·rw[Qqk.mp hb];exact ha
  ·rw[yM hg h];refine ih (done++[a]) (ps++[L p a]) (ws++[w++[a]]) _ _ hx' (B.add hp hw ha hm hs) (λq hq=>?_) (lU hp) (lU hw) λb hb=>?_
   ·rcases Qwq.mp hq with hq|hq
    ·exact hok q hq
    ·rw[Qqk.mp hq];exact(G.lead p a (hok p (Qxv hp)) ha).2
   ·rcases Qwq.mp hb with hb|hb
    ·obtain⟨j,v,g1,g2,g3⟩:=hc b hb;exact⟨j,v,lU g1,lU g2,g3⟩
    ·rw[Qqk.mp hb];exact⟨ps.length,w++[a],M5,by rw[<-B.len];exact M5,by rw[Qqx];exact Qq1 _⟩
theorem QH(z7:side∈sides)(hso:so [cu]=some (.tup (x.map λa=>.str [a])))(f:P):∀(m n:Nat) (ps:List P) (ws:List (List Nat)) (a9 a10:OD),n+m=7000->n<=ps.length->Gs L S x p0 n ps ws->(∀q∈ps,Ok q)->
  (∃r e,fM (dg (aA P0 8 (aq fW (aa (bh 5) ak)))) (wb so Φ) m (En sl ss cl cs en cu side f ps ws n a9 a10) = .rt false r e/\Nx side L S x p0 r)\/
  (∃e,fM (dg (aA P0 8 (aq fW (aa (bh 5) ak)))) (wb so Φ) m (En sl ss cl cs en cu side f ps ws n a9 a10) = .nx e/\∀v,(∀a∈v,a∈x)->S (pl L p0 v)=false):=by
 intro m
 induction m with
 | zero=>
  intro n ps ws a9 a10 hm hn B hok;have:=Qq2 (oW U ps B.nd λq hq=>G.all q (hok q hq)) G.few;omega
 | succ m ih=>
  intro n ps ws a9 a10 hm hn B hok;have ht:dg (aA P0 8 (aq fW (aa (bh 5) ak))) (En sl ss cl cs en cu side f ps ws n a9 a10) = .ok (decide (n<ps.length)) (En sl ss cl cs en cu side f ps ws n a9 a10):=by
   refine cU (bA rfl rfl rfl ?_);rw[Qqv];show some (D.bl (decide ((n:Int)<(ps.length:Int))))=_
   congr 2
   simp
  by_cases hlt:n<ps.length
  ·rw[Qw4 hlt] at ht;have hp:ps[n]? = some ps[n]:=Qwz hlt;have hlt2:n<ws.length:=by rw[B.len];exact hlt
   have hw:ws[n]? = some ws[n]:=Qwz hlt2;have hit:iH (aq so (Zv 0 ak)) (En sl ss cl cs en cu side f ps ws n a9 a10) = .ok (x.map λa=>.str [a]) (En sl ss cl cs en cu side f ps ws n a9 a10):=
    pQ (aF (aJ rfl bK) hso) rfl
   rcases abQ G z7 f x [] ps ws a9 a10 rfl B hok hp hw (λa ha=>by simp at ha) with ⟨r,e,h1,h2⟩|⟨ps',ws',b9,b10,h1,B',hok',hp'⟩
   ·have hb:wb so Φ (En sl ss cl cs en cu side f ps ws n a9 a10) = .rt false r e:=ie ((eU hit).trans h1);exact .inl ⟨r,e,acS ht hb,h2⟩
   ·have hb:wb so Φ (En sl ss cl cs en cu side f ps ws n a9 a10) = .nx (En sl ss cl cs en cu side f ps' ws' (n+1) b9 b10):=(az ((eU hit).trans h1)).trans rfl;have hn':n+1<=ps'.length:=(Qqw.mp hp').1;rw[Yq ht hb];exact ih (n+1) ps' ws' b9 b10 (by omega) hn' B' hok'
  ·rw[Qwj hlt] at ht;exact .inr ⟨_,acT ht,λv hv=>B.sf _ (B.none (by omega) v.length v rfl hv)⟩
theorem sought(z7:side∈sides)(hso:so [cu]=some (.tup (x.map λa=>.str [a])))(h0:Ok p0) :
  ∃r,bW 11 (cT so Φ) [cu,side,en p0,.clo sl cl,.clo ss cs]=some r/\((r = .non/\∀v,(∀a∈v,a∈x)->S (pl L p0 v)=false)\/Nx side L S x p0 r):=by
 have t0:dg (lO Φ 4 (Zv 2 ak)) [Zf cu,Zf side,Zf (en p0),Zf (.clo sl cl),Zf (.clo ss cs),Zn,Zn,Zn,Zn,Zn,Zn] = .ok (S p0) [Zf cu,Zf side,Zf (en p0),Zf (.clo sl cl),Zf (.clo ss cs),Zn,Zn,Zn,Zn,Zn,Zn]:=
  cU (Ak rfl (aJ rfl bK) (G.shows p0 h0))
 cases hS:S p0 with
 | true=>
  rw[hS] at t0;refine⟨.str [],bO (env:=[Zf cu,Zf side,Zf (en p0),Zf (.clo sl cl),Zf (.clo ss cs),Zn,Zn,Zn,Zn,Zn,Zn]) ?_,.inr ⟨[],?_,λa ha=>by simp at ha,hS,λv _ hv=>absurd hv (Qj8 _)⟩⟩
  ·exact ie ((gf t0).trans rfl)
  ·unfold dW;split<;>rfl
 | false=>
  rw[hS] at t0;have u0:eE (dg (lO Φ 4 (Zv 2 ak))) (bw (Zw [])) bV [Zf cu,Zf side,Zf (en p0),Zf (.clo sl cl),Zf (.clo ss cs),Zn,Zn,Zn,Zn,Zn,Zn] = .nx [Zf cu,Zf side,Zf (en p0),Zf (.clo sl cl),Zf (.clo ss cs),Zn,Zn,Zn,Zn,Zn,Zn]:=dU t0;have u3:dq 7 (rA (aM 2) (ji (.bl true))) [Zf cu,Zf side,Zf (en p0),Zf (.clo sl cl),Zf (.clo ss cs),Zl [en p0],(Zl [.str []]),Zn,Zn,Zn,Zn] = .nx [Zf cu,Zf side,Zf (en p0),Zf (.clo sl cl),Zf (.clo ss cs),Zl [en p0],(Zl [.str []]),(Zt (.iz [(en p0,.bl true)])),Zn,Zn,Zn]:=by refine qu (e:=[Zf cu,Zf side,Zf (en p0),Zf (.clo sl cl),Zf (.clo ss cs),Zl [en p0],(Zl [.str []]),Zn,Zn,Zn,Zn]) ?_;unfold rA;show(match zL (en p0) with|some _=>_|none=>_)=_;rw[G.nk p0]
  have hb:∀o,aB (fM (dg (aA P0 8 (aq fW (aa (bh 5) ak)))) (wb so Φ) 7000) (bw (ji .non)) (En sl ss cl cs en cu side p0 [p0] [[]] 0 none none)=o->cT so Φ (envOf 11 [cu,side,en p0,.clo sl cl,.clo ss cs])=o:=by intro o ho;rw[<-ho];unfold cT;refine(az u0).trans ?_;refine(az rfl).trans ?_;refine(az rfl).trans ?_;refine(az u3).trans ?_;exact az rfl
  rcases QH G z7 hso p0 7000 0 [p0] [[]] none none rfl (Qxk _) (Gs.start hS) (λq hq=>by rw[Qqk.mp hq];exact h0) with ⟨r,e,h1,h2⟩|⟨e,h1,h2⟩
  ·exact⟨r,bO (hb _ (ie h1)),.inr h2⟩
  ·exact⟨.non,bO (hb _ ((az h1).trans rfl)),.inl ⟨rfl,h2⟩⟩
end
end KB
namespace KW
open Ev PySem L2 dG
open iI (SG cM)
open jk (XS sides jU nG fit fX)
open Bk (cj)
def ac(ρ:Rl):dG.St->List Nat->Bool
 | _,[]=>false
 | s,a::z=>!((stp ρ s a).2 == s.2)||ac ρ (stp ρ s a).1 z
theorem oK(ρ:Rl):∀(z:List Nat) (s:dG.St) (y:List Nat),ac ρ s (z++y)=(ac ρ s z||ac ρ (rd ρ s z).1 y)
 | [],s,y=>rfl
 | a::z,s,y=>by
  show(_||ac ρ (stp ρ s a).1 (z++y))=((_||ac ρ (stp ρ s a).1 z)||ac ρ (rd ρ (stp ρ s a).1 z).1 y);rw[oK ρ z,Bool.or_assoc]
theorem Nr(ρ:Rl)(s:dG.St)(z:List Nat)(a:Nat):ac ρ s (z++[a])=(ac ρ s z || !((stp ρ (rd ρ s z).1 a).2 == (rd ρ s z).1.2)):=by rw[oK];show(_||(_||false))=_;rw[Bool.or_false]
noncomputable def Ze(x:List Nat):List D->List dG.St->List Nat->List Bool
 | R::Rs,s::ss,z=>ac (cN x R) s z::Ze x Rs ss (rd (cN x R) s z).2
 | _,_,_=>[]
noncomputable def Zd(x:List Nat):List D->List dG.St->List Nat->List Bool
 | R::Rs,s::ss,z=>ac (cN x R) s (z++[35])::Zd x Rs ss (rd (cN x R) s (z++[35])).2
 | _,_,_=>[]
section
variable{x:List Nat}{R:D}{ρ:Rl}(hx:x∈XS)(hR:Is x R ρ)
include hx hR
theorem Rc{s:dG.St}(hs:gw x s){a:Nat}(ha:a∈35::x)(A2 a6 a7:OD)(ps:List D)(hp:ps.length<=400)(t:Bool) :
  zp [Zf R,Zf (aR s),A2,Zl ps,Zb t,Zs [a],a6,a7] = .nx [Zf R,(Zf (aR (stp ρ s a).1)),A2,(Zl (ps++[.str (stp ρ s a).2])),(Zb (t||(!((stp ρ s a).2 == s.2)))),Zs [a],Zs s.2,(Zs ((stp ρ s a).2))]:=by
 have hu:PQ (.str (stp ρ s a).2) (.str s.2)=some (.bl (!((stp ρ s a).2 == s.2))):=rfl;generalize(!((stp ρ s a).2 == s.2))=u at *;have h1:=one_sign hx hR hs ha;generalize hq:(stp ρ s a).2=q at *;generalize hs':(stp ρ s a).1=s' at *;unfold zp
 let E0:Ev.Env:=[Zf R,Zf (aR s),A2,Zl ps,Zb t,Zs [a],Zs s.2,a7]
 refine(az (e:=E0) rfl).trans ?_
 let E2:Ev.Env:=[Zf R,Zf (aR s'),A2,Zl ps,Zb t,Zs [a],Zs s.2,Zs q]
 refine(az (e:=E2) ?_).trans ?_
 ·rcases h1 with ⟨g1,g2⟩|⟨g1,g2⟩
  ·refine(gf (e:=E0) (cU (aF (ds:=[R]) rfl g1))).trans ?_;exact bI (e:=E0) (aF (ds:=[R,aR s,.str [a]]) rfl g2) rfl
  ·refine(dU (e:=E0) (cU (aF (ds:=[R]) rfl g1))).trans ?_;exact bI (e:=E0) (aF (ds:=[R,aR s,.str [a]]) rfl g2) rfl
 let E1:Ev.Env:=[Zf R,Zf (aR s'),A2,Zl ps,Zb (t||u),Zs [a],Zs s.2,Zs q]
 refine(az (e:=E1) ?_).trans ?_
 ·refine bI (d:=.bl (t||u)) (e:=E2) (vd rfl ?_) rfl;exact aey (x:=.str q) (y:=.str s.2) rfl rfl rfl hu
 ·exact(Ev.Mf (i:=3) (xs:=ps) (d:=.str q) (e:=E1) rfl rfl rfl (Qw2 hp (by decide))).trans rfl
theorem xq{s:dG.St}(hs:gw x s){z:List Nat}(hz:∀a∈z,a∈35::x)(hn:z.length<=150):eY [R,aR s,.str z]=some (.tup [aR (rd ρ s z).1,.str (rd ρ s z).2,.bl (ac ρ s z)]):=by
 obtain⟨e',f1,hd,dz,pl,a5,a6,a7,e1,Vi,e2,e3,e4,rfl⟩:=mz (g:=aj 5) (b:=zp) (pq z)
  (λdone env=>done.length<=z.length/\∃dz pl a5 a6 a7,done=pq dz/\(∀a∈dz,a∈35::x)/\pl.flatten=(rd ρ s dz).2/\pl.length=done.length/\(∀q∈pl,q.length<=2)/\env=[Zf R,(Zf (aR (rd ρ s dz).1)),Zs z,Zl (pl.map .str),Zb (ac ρ s dz),a5,a6,a7])
  (λdone d rest hall env ⟨hd,dz,pl,a5,a6,a7,e1,Vi,e2,e3,e4,he⟩=>by
   subst he;obtain⟨a,rfl,ha,hl⟩:=Ec hall;have hok:=xr hR dz hs Vi;have hst:=JZ hR hok.1 (hz a ha);have hb:=Rc hx hR hok.1 (hz a ha) (Zs z) a6 a7 (pl.map .str) (by rw[Qqv];omega) (ac ρ s dz);refine⟨_,_,rfl,hb,by rw[Qqx,Qq6];omega,dz++[a],pl++[(stp ρ (rd ρ s dz).1 a).2],Zs [a],(Zs ((rd ρ s dz).1.2)),(Zs ((stp ρ (rd ρ s dz).1 a).2)),by rw[zc,e1],?_,?_,?_,?_,?_⟩
   ·intro b hb;rcases Qwq.mp hb with hb|hb
    ·exact Vi b hb
    ·rw[Qqk.mp hb];exact hz a ha
   ·rw[rO,Qz9,e2];simp
   ·rw[Qqx,Qqx,e3]
    rfl
   ·intro q hq;rcases Qwq.mp hq with hq|hq
    ·exact e4 q hq
    ·rw[Qqk.mp hq];exact hst.2.1
   ·rw[rO,Nr,Qx1]
    rfl)
  [Zf R,Zf (aR s),Zs z,Zl [],Zb false,Zn,Zn,Zn] ⟨Qxk _,[],[],Zn,Zn,Zn,rfl,λa ha=>by simp at ha,rfl,rfl,λq hq=>by simp at hq,rfl⟩
 have hzz:=yD e1;subst hzz;refine bO (env:=[Zf R,(Zf (aR (rd ρ s z).1)),Zs z,Zl (pl.map .str),Zb (ac ρ s z),a5,a6,a7]) ?_;unfold gb;refine(az (e:=[Zf R,Zf (aR s),Zs z,Zl [],Zn,Zn,Zn,Zn]) rfl).trans ?_
 let E0:Ev.Env:=[Zf R,Zf (aR s),Zs z,Zl [],Zb false,Zn,Zn,Zn]
 refine(az (e:=E0) rfl).trans ?_;refine(az ((eU (ds:=pq z) (e:=E0) rfl).trans f1)).trans ?_;have hj:m6 (.str []) (.lst (pl.map .str))=some (.str (rd ρ s z).2):=by rw[jk.MN (by rw[e3];omega) e4,e2]
 exact bD (cP (ds:=[aR (rd ρ s z).1,.str (rd ρ s z).2,.bl (ac ρ s z)]) (aJ rfl (aJ (bH (x:=.str []) (y:=.lst (pl.map .str)) rfl rfl hj) (aJ rfl bK))) Ev.zz3)
end
section
variable{x:List Nat}(hx:x∈XS)
include hx
theorem QG(A0 A1 A2:OD):∀(Rs:List D) (ss:List dG.St) (z:List Nat) (acc ts:List D) (v6 v7 v8 v9:OD),Rs.length=ss.length->(∀R∈Rs,cj x R)->(∀s∈ss,gw x s)->(∀a∈z,a∈35::x)->(z.length+2)*2^Rs.length<=150->acc.length+Rs.length<=100->ts.length+Rs.length<=100->
  ∃w6 w7 w8 w9,gV (cD 2 (aH (aj 6) (aH (aj 7) cG))) vM (vL Rs (ss.map aR)) [A0,A1,A2,Zs z,Zl acc,Zl ts,v6,v7,v8,v9] = .nx [A0,A1,A2,(Zs ((jG x Rs ss z).2)),(Zl (acc++(jG x Rs ss z).1.map aR)),(Zl (ts++(Ze x Rs ss z).map .bl)),w6,w7,w8,w9]/\(∀s∈(jG x Rs ss z).1,gw x s)/\(jG x Rs ss z).1.length=Rs.length
 | [],[],z,acc,ts,v6,v7,v8,v9,_,_,_,_,_,_,ht=>by
  refine⟨v6,v7,v8,v9,?_,λs hs=>by simp[jG] at hs,rfl⟩;show Ev.Out.nx _=Ev.Out.nx [A0,A1,A2,Zs z,Zl (acc++[]),Zl (ts++[]),v6,v7,v8,v9];rw[Qxx,Qxx]
 | [],_::_,_,_,_,_,_,_,_,h,_,_,_,_,_,_=>by simp at h
 | _::_,[],_,_,_,_,_,_,_,h,_,_,_,_,_,_=>by simp at h
 | R::Rs,s::ss,z,acc,ts,v6,v7,v8,v9,h,hR,hS,hz,hn,ha,ht=>by
  have YX:=qK (hR R (Qqj ..));have hso:=hS s (Qqj ..);obtain⟨o1,o2,o3⟩:=xr YX z hso hz;obtain⟨n1,n2⟩:=FJ hn (m:=(rd (cN x R) s z).2.length) (by omega);have hrs:=xq hx YX hso hz (by omega);rw[Qqy] at ha ht;obtain⟨w6,w7,w8,w9,g1,g2,g3⟩:=QG A0 A1 A2 Rs ss (rd (cN x R) s z).2 (acc++[aR (rd (cN x R) s z).1]) (ts++[.bl (ac (cN x R) s z)]) (Zf R) (Zf (aR s)) (Zf (aR (rd (cN x R) s z).1)) (Zb (ac (cN x R) s z)) (by simpa using h) (λQ hQ=>hR Q (Qqq _ hQ)) (λq hq=>hS q (Qqq _ hq)) o3 n1 (by rw[Qqx,Qq6];omega) (by rw[Qqx,Qq6];omega);refine⟨w6,w7,w8,w9,?_,?_,?_⟩
  ·show gV _ vM (.tup [R,aR s]::vL Rs (ss.map aR)) _=Ev.Out.nx [A0,A1,A2,(Zs ((jG x Rs ss (rd (cN x R) s z).2).2)),(Zl (acc++(aR (rd (cN x R) s z).1::(jG x Rs ss (rd (cN x R) s z).2).1.map aR))),(Zl (ts++(.bl (ac (cN x R) s z)::(Ze x Rs ss (rd (cN x R) s z).2).map .bl))),w6,w7,w8,w9]
   let E2:Ev.Env:=[A0,A1,A2,Zs z,Zl acc,Zl ts,Zf R,Zf (aR s),v8,v9]
   rw[wR (e1:=E2) (e2:=[A0,A1,A2,(Zs ((rd (cN x R) s z).2)),(Zl (acc++[aR (rd (cN x R) s z).1])),(Zl (ts++[.bl (ac (cN x R) s z)])),Zf R,Zf (aR s),(Zf (aR (rd (cN x R) s z).1)),(Zb (ac (cN x R) s z))]) rfl ?_,g1,Qx3,Qx3]
   ·rfl
   ·generalize(rd (cN x R) s z).2=q at *;generalize(rd (cN x R) s z).1=s' at *;generalize ac (cN x R) s z=t at *;unfold vM
    let E1:Ev.Env:=[A0,A1,A2,Zs q,Zl acc,Zl ts,Zf R,Zf (aR s),Zf (aR s'),Zb t]
    refine(az (e:=E1) (bI (e:=E2) (aF (ds:=[R,aR s,.str z]) rfl hrs) rfl)).trans ?_
    let E0:Ev.Env:=[A0,A1,A2,Zs q,Zl (acc++[aR s']),Zl ts,Zf R,Zf (aR s),Zf (aR s'),Zb t]
    refine(az (e:=E0) ?_).trans ?_
    ·exact(Ev.Mf (i:=4) (xs:=acc) (d:=aR s') (e:=E1) rfl rfl rfl (Qw2 (show acc.length<=100 by omega) (by decide))).trans rfl
    ·exact(Ev.Mf (i:=5) (xs:=ts) (d:=.bl t) (e:=E0) rfl rfl rfl (Qw2 (show ts.length<=100 by omega) (by decide))).trans rfl
  ·intro q hq;rcases Qq4.mp (show q∈(rd (cN x R) s z).1::(jG x Rs ss (rd (cN x R) s z).2).1 from hq) with rfl|hq
   ·exact o1
   ·exact g2 q hq
  ·show(_::(jG x Rs ss (rd (cN x R) s z).2).1).length=_;rw[Qqy,g3,Qqy]
theorem QK(A0 A1:OD):∀(Rs:List D) (ss:List dG.St) (z:List Nat) (ts:List D) (v6 v7 v8 v9:OD),Rs.length=ss.length->(∀R∈Rs,cj x R)->(∀s∈ss,gw x s)->(∀a∈z,a∈35::x)->(z.length+2)*2^Rs.length<=150->ts.length+Rs.length<=100->
  ∃w6 w7 w8 w9,gV (cD 2 (aH (aj 4) (aH (aj 5) cG))) JG (vL Rs (ss.map aR)) [A0,A1,Zs z,Zl ts,v6,v7,v8,v9] = .nx [A0,A1,Zs (Jw x Rs ss z),(Zl (ts++(Zd x Rs ss z).map .bl)),w6,w7,w8,w9]
 | [],[],z,ts,v6,v7,v8,v9,_,_,_,_,_,ht=>⟨v6,v7,v8,v9,by show Ev.Out.nx _=Ev.Out.nx [A0,A1,Zs z,Zl (ts++[]),v6,v7,v8,v9];rw[Qxx]⟩
 | [],_::_,_,_,_,_,_,_,h,_,_,_,_,_=>by simp at h
 | _::_,[],_,_,_,_,_,_,h,_,_,_,_,_=>by simp at h
 | R::Rs,s::ss,z,ts,v6,v7,v8,v9,h,hR,hS,hz,hn,ht=>by
  have YX:=qK (hR R (Qqj ..));have hso:=hS s (Qqj ..);have hz':∀a∈z++[35],a∈35::x:=λa ha=>by
   rcases Qwq.mp ha with ha|ha
   ·exact hz a ha
   ·rw[Qqk.mp ha];exact Qqj ..
  have hzl:(z++[35]).length=z.length+1:=by rw[Qqx,Qq6]
  obtain⟨o1,o2,o3⟩:=xr YX (z++[35]) hso hz';obtain⟨n1,n2⟩:=FJ hn (m:=(rd (cN x R) s (z++[35])).2.length) (by omega);have hrs:=xq hx YX hso hz' (by omega);rw[Qqy] at ht;obtain⟨w6,w7,w8,w9,g1⟩:=QK A0 A1 Rs ss (rd (cN x R) s (z++[35])).2 (ts++[.bl (ac (cN x R) s (z++[35]))]) (Zf R) (Zf (aR s)) (Zf (aR (rd (cN x R) s (z++[35])).1)) (Zb (ac (cN x R) s (z++[35]))) (by simpa using h) (λQ hQ=>hR Q (Qqq _ hQ)) (λq hq=>hS q (Qqq _ hq)) o3 n1 (by rw[Qqx,Qq6];omega);refine⟨w6,w7,w8,w9,?_⟩;show gV _ JG (.tup [R,aR s]::vL Rs (ss.map aR)) _=Ev.Out.nx [A0,A1,(Zs (Jw x Rs ss (rd (cN x R) s (z++[35])).2)),(Zl (ts++(.bl (ac (cN x R) s (z++[35]))::(Zd x Rs ss (rd (cN x R) s (z++[35])).2).map .bl))),w6,w7,w8,w9]
  let E1:Ev.Env:=[A0,A1,Zs z,Zl ts,Zf R,Zf (aR s),v8,v9]
  rw[wR (e1:=E1) (e2:=[A0,A1,(Zs ((rd (cN x R) s (z++[35])).2)),(Zl (ts++[.bl (ac (cN x R) s (z++[35]))])),Zf R,Zf (aR s),(Zf (aR (rd (cN x R) s (z++[35])).1)),(Zb (ac (cN x R) s (z++[35])))]) rfl ?_,g1,Qx3]
  ·rfl
  generalize(rd (cN x R) s (z++[35])).2=q at *;generalize(rd (cN x R) s (z++[35])).1=s' at *;generalize ac (cN x R) s (z++[35])=t at *;unfold JG
  let E0:Ev.Env:=[A0,A1,Zs q,Zl ts,Zf R,Zf (aR s),Zf (aR s'),Zb t]
  refine(az (e:=E0) (bI (e:=E1) (aF (ds:=[R,aR s,.str (z++[35])]) (aJ rfl (aJ rfl (aJ (aey (x:=.str z) (y:=.str [35]) rfl rfl rfl (nG (by show z.length+1<=100000;omega))) bK))) hrs) rfl)).trans ?_;exact(Ev.Mf (i:=3) (xs:=ts) (d:=.bl t) (e:=E0) rfl rfl rfl (Qw2 (show ts.length<=100 by omega) (by decide))).trans rfl
end
section
variable{x:List Nat}{s:D}{Rs:List D}{ss:List dG.St}(o:qp x s Rs ss){z:List Nat}(hz:∀a∈z,a∈35::x)(hn:z.length<=7)
include o hz hn
theorem oO:dJ [.tup [s,.tup Rs],.tup (ss.map aR),.str z]=some (.tup [.tup ((jG x (lay s Rs) ss z).1.map aR),.str (jG x (lay s Rs) ss z).2,.tup ((Ze x (lay s Rs) ss z).map .bl)])/\qp x s Rs (jG x (lay s Rs) ss z).1:=by
 have h1:=reading_rules o.hx o.hs o.hR (Qq2 o.h4 (by decide));have h2:=zU (s:=s) o.hR;have h3:=uT s Rs;have h4:=o.h4;have hl:=o.hl;have hx:=o.hx;have hS:=o.hS;have hs:=o.hs;have hR:=o.hR;generalize lay s Rs=Ls at *;generalize D.tup [s,.tup Rs]=O at *;obtain⟨w6,w7,w8,w9,g1,g2,g3⟩:=QG hx (Zf O) (Zf (.tup (ss.map aR))) (Zs z) Ls ss z [] [] none none none none (by omega) h2 hS hz (ZJ (by omega) hn) (by rw[Qx2];omega) (by rw[Qx2];omega);refine⟨bO (env:=[Zf O,(Zf (.tup (ss.map aR))),Zs z,(Zs ((jG x Ls ss z).2)),(Zl ([]++(jG x Ls ss z).1.map aR)),(Zl ([]++(Ze x Ls ss z).map .bl)),w6,w7,w8,w9]) ?_,hx,hs,hR,h4,by omega,g2⟩;unfold jb;refine(az (e:=[Zf O,(Zf (.tup (ss.map aR))),Zs z,Zs z,Zn,Zn,Zn,Zn,Zn,Zn]) rfl).trans ?_;refine(az (e:=[Zf O,(Zf (.tup (ss.map aR))),Zs z,Zs z,Zl [],Zn,Zn,Zn,Zn,Zn]) rfl).trans ?_
 let E0:Ev.Env:=[Zf O,(Zf (.tup (ss.map aR))),Zs z,Zs z,Zl [],Zl [],Zn,Zn,Zn,Zn]
 refine(az (e:=E0) rfl).trans ?_;refine(az ((eU (ds:=vL Ls (ss.map aR)) (e:=E0) ?_).trans g1)).trans ?_
 ·exact Ah (aJ (aF (ds:=[O]) rfl h1) rfl)
 ·rw[Qkq,Qkq];exact bD (cP (ds:=[.tup ((jG x Ls ss z).1.map aR),.str (jG x Ls ss z).2,.tup ((Ze x Ls ss z).map .bl)]) rfl Ev.zz3)
omit hz hn
theorem mG:eG [.tup [s,.tup Rs],.tup (ss.map aR)]=some (.tup [.str (Jw x (lay s Rs) ss []),.tup ((Zd x (lay s Rs) ss []).map .bl)]):=by
 have h1:=reading_rules o.hx o.hs o.hR (Qq2 o.h4 (by decide));have h2:=zU (s:=s) o.hR;have h3:=uT s Rs;have h4:=o.h4;have hl:=o.hl;have hx:=o.hx;have hS:=o.hS;generalize lay s Rs=Ls at *;generalize D.tup [s,.tup Rs]=O at *;obtain⟨w6,w7,w8,w9,g1⟩:=QK hx (Zf O) (Zf (.tup (ss.map aR))) Ls ss [] [] none none none none (by omega) h2 hS (λa ha=>by simp at ha) (ZJ (m:=0) (by omega) (by decide)) (by rw[Qx2];omega);refine bO (env:=[Zf O,(Zf (.tup (ss.map aR))),Zs (Jw x Ls ss []),(Zl ([]++(Zd x Ls ss []).map .bl)),w6,w7,w8,w9]) ?_;unfold nR;refine(az (e:=[Zf O,(Zf (.tup (ss.map aR))),Zs [],Zn,Zn,Zn,Zn,Zn]) rfl).trans ?_
 let E0:Ev.Env:=[Zf O,(Zf (.tup (ss.map aR))),Zs [],Zl [],Zn,Zn,Zn,Zn]
 refine(az (e:=E0) rfl).trans ?_;refine(az ((eU (ds:=vL Ls (ss.map aR)) (e:=E0) ?_).trans g1)).trans ?_
 ·exact Ah (aJ (aF (ds:=[O]) rfl h1) rfl)
 ·rw[Qkq];exact bD (cP (ds:=[.str (Jw x Ls ss []),.tup ((Zd x Ls ss []).map .bl)]) rfl Ev.Js)
end
end KW
namespace KT
open Ev PySem L2
open jk (XS sides fit)
open Bk (cj)
open dG (aR gw Rl rd cN jG yr lay lf qp xr)
open KW (ac Ze Zd oO mG)
open Jx (dW)
abbrev Pl:=dG.St×dG.St×dG.St×Bool×Bool
def en(p:Pl):D:=.tup [.tup [aR p.1,aR p.2.1],.tup [aR p.2.2.1],.bl p.2.2.2.1,.bl p.2.2.2.2]
def key(p:Pl):NK:=.tup [Qo.qS [p.1,p.2.1],Qo.qS [p.2.2.1],.num (if p.2.2.2.1 then 1 else 0),.num (if p.2.2.2.2 then 1 else 0)]
theorem Uh(p:Pl):zL (en p)=some (key p):=by
 have h:rR (en p)=some (key p):=by unfold en key;simp only[rR,Bx,aR,Qo.qS,Qk0,Qq8,List.map_nil]
 unfold zL en;unfold en at h;simp only[h,Option.bind_some];rw[if_pos];simp[key,Qo.qS,NK.dep,NK.rD]
theorem Fw(p q:Pl)(h:key p=key q):p=q:=by
 obtain⟨a,b,c,d,e⟩:=p;obtain⟨a',b',c',d',e'⟩:=q;unfold key at h;have h0:=NK.tup.inj h;obtain⟨h1,h0⟩:=Qx8 h0;obtain⟨h2,h0⟩:=Qx8 h0;obtain⟨h3,h0⟩:=Qx8 h0;obtain⟨h4,h0⟩:=Qx8 h0;have j1:=Qo.zx h1;have j2:=Qo.zx h2;obtain⟨k1,j3⟩:=Qx8 j1;obtain⟨k3,_⟩:=Qx8 j3;obtain⟨k2,_⟩:=Qx8 j2;have tf:∀{u v:Bool},NK.num (if u=true then 1 else 0)=NK.num (if v=true then 1 else 0)->u=v:=λ{u v} h=>by
  cases u<;>cases v<;>first|rfl|(have:=NK.num.inj h;simp at this)
 have k4:=tf h3;have k5:=tf h4;simp only at k1 k2 k3 k4 k5;subst k1 k2 k3 k4 k5
 rfl
def prod{α β:Type}(A:List α)(B:List β):List (α×β):=A.flatMap λa=>B.map λb=>(a,b)
theorem oU{α β:Type}(B:List β):∀A:List α,(prod A B).length=A.length*B.length
 | []=>by simp[prod]
 | a::A=>by
  have:=oU B A;unfold prod at *;rw[List.flatMap_cons,Qqx,this,Qqv,Qqy,Nat.succ_mul,Nat.add_comm]
theorem mY{α β:Type}{A:List α}{B:List β}{a:α}{b:β}(h1:a∈A)(h2:b∈B):(a,b)∈prod A B:=Qz0.mpr ⟨a,h1,Qwy.mpr ⟨b,h2,rfl⟩⟩
def SU(x:List Nat):List dG.St:=prod [false,true] ([]::(35::x).map λa=>[a])
theorem qQ{x:List Nat}{s:dG.St}(h:gw x s):s∈SU x:=by
 obtain⟨b,z⟩:=s;refine mY (by cases b<;>simp) ?_;obtain⟨h1,h2⟩:=h
 match z,h1,h2 with
 | [],_,_=>exact Qqj ..
 | [a],_,h2=>exact Qqq _ (Qwy.mpr ⟨a,h2 a (Qqj ..),rfl⟩)
 | _::_::_,h1,_=>simp at h1
def U(x:List Nat):List Pl:=prod (SU x) (prod (SU x) (prod (SU x) (prod [false,true] [false,true])))
theorem Nu{x:List Nat}(h:x∈XS):(U x).length<=6998:=by
 have h4:x.length<=4:=iI.jy x h;unfold U SU;simp only[oU,Qqy,Qqv,Qx2];have h5:(0+1+1)*(x.length+1+1)<=12:=by omega
 generalize(0+1+1)*(x.length+1+1)=m at *;have a1:m*((0+1+1)*(0+1+1))<=12*4:=Qk4 h5 (by decide);have a2:=Qk4 h5 a1;have a3:=Qk4 h5 a2;omega
def Ok(x:List Nat)(p:Pl):Prop:=gw x p.1/\gw x p.2.1/\gw x p.2.2.1
theorem Mx{x:List Nat}{p:Pl}(h:Ok x p):p∈U x:=by obtain⟨a,b,c,d,e⟩:=p;exact mY (qQ h.1) (mY (qQ h.2.1) (mY (qQ h.2.2) (mY (by cases d<;>simp) (by cases e<;>simp))))
def go(ρ1 ρ2:Rl)(p:Pl)(z:List Nat):Pl:=((rd ρ1 p.1 z).1,(rd ρ2 p.2.1 (rd ρ1 p.1 z).2).1,(rd ρ2 p.2.2.1 z).1,p.2.2.2.1||ac ρ2 p.2.1 (rd ρ1 p.1 z).2,p.2.2.2.2||ac ρ2 p.2.2.1 z)
def LP(ρ1 ρ2:Rl)(p:Pl)(a:Nat):Pl:=go ρ1 ρ2 p [a]
def E1(ρ1 ρ2:Rl)(p:Pl):Bool:=p.2.2.2.1||ac ρ2 p.2.1 ((rd ρ1 p.1 [35]).2++[35])
def E2(ρ2:Rl)(p:Pl):Bool:=p.2.2.2.2||ac ρ2 p.2.2.1 [35]
def SP(ρ1 ρ2:Rl)(b c:Bool)(p:Pl):Bool:=(E1 ρ1 ρ2 p == b)&&(E2 ρ2 p == c)
section
def xg:bU:=aB (aQ (aM 0) (cD 4 (aH (aj 4) (aH (aj 5) (aH (aj 6) (aH (aj 7) cG)))))) (aB (aQ (aq dG.dJ (Zv 3 (Zv 4 (Zv 1 ak)))) (cD 3 (aH (aj 4) (aH (aj 8) (aH (aj 9) cG))))) (aB (aQ (aq dG.dJ (Zv 2 (Zv 5 (Zv 1 ak)))) (cD 3 (aH (aj 5) (aH (aj 8) (aH (aj 10) cG))))) (bw (bY (Zv 4 (Zv 5 (aa (oG (aM 6) (aA fD 9 (Zi 1))) (aa (oG (aM 7) (aA fD 10 (Zi 0))) ak))))))))
def sr:bU:=aB (aQ (aM 0) (cD 4 (aH (aj 5) (aH (aj 6) (aH (aj 7) (aH (aj 8) cG)))))) (aB (aQ (oG (aM 7) (aP fD (aP fD (aq dG.eG (Zv 2 (Zv 5 ak))) (Zi 1)) (Zi 1))) (aj 9)) (aB (aQ (oG (aM 8) (aP fD (aP fD (aq dG.eG (Zv 1 (Zv 6 ak))) (Zi 1)) (Zi 0))) (aj 10)) (bw (Ng (aA rm 9 (bh 3)) (aA rm 10 (bh 4))))))
end
section
variable{x:List Nat}{s R O:D}(hx:x∈XS)(hs:s∈sides)(hR:cj x R)(hO:cj x O)
def ly(s R:D):D:=if dG.rt s=true then dG.tn R else R
theorem abo:lay s [R,O]=[ly s R,ly s O]:=by unfold lay ly;split<;>rfl
theorem BL:lay s [O]=[ly s O]:=by unfold lay ly;split<;>rfl
include hx hs hR hO
theorem or2{s1 s2:dG.St}(h1:gw x s1)(h2:gw x s2):qp x s [R,O] [s1,s2]:=
 ⟨hx,hs,λQ hQ=>by simp only[Qq4,Qw9,Qj2] at hQ;rcases hQ with rfl|rfl;exact hR;exact hO,by show 2<=4;decide,rfl,λt ht=>by simp only[Qq4,Qw9,Qj2] at ht;rcases ht with rfl|rfl;exact h1;exact h2⟩
omit hR in
theorem or1{s3:dG.St}(h3:gw x s3):qp x s [O] [s3]:=
 ⟨hx,hs,λQ hQ=>by simp only[Qq4,Qw9,Qj2] at hQ;rw[hQ];exact hO,by show 1<=4;decide,rfl,λt ht=>by simp only[Qq4,Qw9,Qj2] at ht;rw[ht];exact h3⟩
theorem yF{p:Pl}(hp:Ok x p){a:Nat}(ha:a∈x):runC 2 11 xg [.tup [s,.tup [O]],.tup [s,.tup [R,O]]] [en p,.str [a]]=some (en (LP (cN x (ly s R)) (cN x (ly s O)) p a))/\Ok x (LP (cN x (ly s R)) (cN x (ly s O)) p a):=by
 obtain⟨s1,s2,s3,b1,b2⟩:=p;have hz:∀b ∈ [a],b∈35::x:=λb hb=>by rw[Qqk.mp hb];exact Qqq _ ha
 obtain⟨w1,o1⟩:=oO (or2 hx hs hR hO hp.1 hp.2.1) hz (by show 1<=7;decide);obtain⟨w2,o2⟩:=oO (or1 hx hs hO hp.2.2) hz (by show 1<=7;decide);rw[abo] at w1 o1;rw[BL] at w2 o2;generalize hO1:D.tup [s,.tup [R,O]]=B at *;generalize hO2:D.tup [s,.tup [O]]=I at *;have k1:dG.dJ [B,.tup [aR s1,aR s2],.str [a]]=some (.tup [.tup [aR (go (cN x (ly s R)) (cN x (ly s O)) (s1,s2,s3,b1,b2) [a]).1,aR (go (cN x (ly s R)) (cN x (ly s O)) (s1,s2,s3,b1,b2) [a]).2.1],.str (jG x [ly s R,ly s O] [s1,s2] [a]).2,.tup [.bl (ac (cN x (ly s R)) s1 [a]),.bl (ac (cN x (ly s O)) s2 (rd (cN x (ly s R)) s1 [a]).2)]]):=w1;have k2:dG.dJ [I,.tup [aR s3],.str [a]]=some (.tup [.tup [aR (go (cN x (ly s R)) (cN x (ly s O)) (s1,s2,s3,b1,b2) [a]).2.2.1],.str (jG x [ly s O] [s3] [a]).2,.tup [.bl (ac (cN x (ly s O)) s3 [a])]]):=w2;refine⟨?_,o1.hS _ (Qqj ..),o1.hS _ (Qqq _ (Qqj ..)),o2.hS _ (Qqj ..)⟩;unfold LP;generalize hg:go (cN x (ly s R)) (cN x (ly s O)) (s1,s2,s3,b1,b2) [a]=g at *;have e4:g.2.2.2.1=(b1||ac (cN x (ly s O)) s2 (rd (cN x (ly s R)) s1 [a]).2):=by rw[<-hg];rfl
 have e5:g.2.2.2.2=(b2||ac (cN x (ly s O)) s3 [a]):=by rw[<-hg];rfl
 clear hg;generalize ac (cN x (ly s O)) s2 (rd (cN x (ly s R)) s1 [a]).2=t2 at *;generalize ac (cN x (ly s O)) s3 [a]=t3 at *;generalize ac (cN x (ly s R)) s1 [a]=t1 at *;generalize(jG x [ly s R,ly s O] [s1,s2] [a]).2=y1 at *;generalize(jG x [ly s O] [s3] [a]).2=y2 at *;clear w1 w2 o1 o2;obtain⟨g1,g2,g3,g4,g5⟩:=g;simp only at e4 e5;unfold runC;rw[if_pos (show [en (s1,s2,s3,b1,b2),D.str [a]].length=2 from rfl)];have hb:xg (envOf 11 ([en (s1,s2,s3,b1,b2),.str [a]]++[I,B])) = .rt false (en (g1,g2,g3,g4,g5)) [(Zf (en (s1,s2,s3,b1,b2))),Zs [a],Zf I,Zf B,Zf (.tup [aR g1,aR g2]),Zf (.tup [aR g3]),Zb b1,Zb b2,Zs y2,Zf (.tup [.bl t1,.bl t2]),Zf (.tup [.bl t3])]:=by
  unfold xg
  let E1:Ev.Env:=[(Zf (en (s1,s2,s3,b1,b2))),Zs [a],Zf I,Zf B,Zf (.tup [aR s1,aR s2]),Zf (.tup [aR s3]),Zb b1,Zb b2,Zn,Zn,Zn]
  refine(az (e:=E1) rfl).trans ?_
  let E0:Ev.Env:=[(Zf (en (s1,s2,s3,b1,b2))),Zs [a],Zf I,Zf B,Zf (.tup [aR g1,aR g2]),Zf (.tup [aR s3]),Zb b1,Zb b2,Zs y1,Zf (.tup [.bl t1,.bl t2]),Zn]
  refine(az (e:=E0) (bI (e:=E1) (aF (ds:=[B,.tup [aR s1,aR s2],.str [a]]) rfl k1) rfl)).trans ?_;refine(az (e:=[(Zf (en (s1,s2,s3,b1,b2))),Zs [a],Zf I,Zf B,Zf (.tup [aR g1,aR g2]),Zf (.tup [aR g3]),Zb b1,Zb b2,Zs y2,Zf (.tup [.bl t1,.bl t2]),Zf (.tup [.bl t3])]) (bI (e:=E0) (aF (ds:=[I,.tup [aR s3],.str [a]]) rfl k2) rfl)).trans ?_;subst e4 e5;cases b1<;>cases b2<;>rfl
 rw[hb]
theorem zb(b c:Bool){p:Pl}(hp:Ok x p):runC 1 11 sr [.tup [s,.tup [O]],.tup [s,.tup [R,O]],.bl b,.bl c] [en p]=some (.bl (SP (cN x (ly s R)) (cN x (ly s O)) b c p)):=by
 obtain⟨s1,s2,s3,b1,b2⟩:=p;have w1:=mG (or2 hx hs hR hO hp.1 hp.2.1);have w2:=mG (or1 hx hs hO hp.2.2);rw[abo] at w1;rw[BL] at w2;generalize hO1:D.tup [s,.tup [R,O]]=B at *;generalize hO2:D.tup [s,.tup [O]]=I at *;have k1:dG.eG [B,.tup [aR s1,aR s2]]=some (.tup [.str (dG.Jw x [ly s R,ly s O] [s1,s2] []),.tup [.bl (ac (cN x (ly s R)) s1 [35]),.bl (ac (cN x (ly s O)) s2 ((rd (cN x (ly s R)) s1 [35]).2++[35]))]]):=w1;have k2:dG.eG [I,.tup [aR s3]]=some (.tup [.str (dG.Jw x [ly s O] [s3] []),.tup [.bl (ac (cN x (ly s O)) s3 [35])]]):=w2;unfold SP E1 E2;simp only;generalize ac (cN x (ly s O)) s2 ((rd (cN x (ly s R)) s1 [35]).2++[35])=t2 at *;generalize ac (cN x (ly s O)) s3 [35]=t3 at *;generalize ac (cN x (ly s R)) s1 [35]=t1 at *;generalize dG.Jw x [ly s R,ly s O] [s1,s2] []=y1 at *;generalize dG.Jw x [ly s O] [s3] []=y2 at *;clear w1 w2;unfold runC;rw[if_pos (show [en (s1,s2,s3,b1,b2)].length=1 from rfl)];have hb:sr (envOf 11 ([en (s1,s2,s3,b1,b2)]++[I,B,.bl b,.bl c])) = .rt false (.bl (((b1||t2) == b)&&((b2||t3) == c))) [(Zf (en (s1,s2,s3,b1,b2))),Zf I,Zf B,Zb b,Zb c,Zf (.tup [aR s1,aR s2]),Zf (.tup [aR s3]),Zb b1,Zb b2,Zb (b1||t2),Zb (b2||t3)]:=by
  unfold sr
  let E1:Ev.Env:=[(Zf (en (s1,s2,s3,b1,b2))),Zf I,Zf B,Zb b,Zb c,Zf (.tup [aR s1,aR s2]),Zf (.tup [aR s3]),Zb b1,Zb b2,Zn,Zn]
  refine(az (e:=E1) rfl).trans ?_
  let E0:Ev.Env:=[(Zf (en (s1,s2,s3,b1,b2))),Zf I,Zf B,Zb b,Zb c,Zf (.tup [aR s1,aR s2]),Zf (.tup [aR s3]),Zb b1,Zb b2,Zb (b1||t2),Zn]
  refine(az (e:=E0) (bI (e:=E1) (dG.vd rfl ?_) rfl)).trans ?_
  ·exact bH (x:=.tup [.bl t1,.bl t2]) (y:=.int 1) (bH (x:=.tup [.str y1,.tup [.bl t1,.bl t2]]) (y:=.int 1) (aF (ds:=[B,.tup [aR s1,aR s2]]) rfl k1) rfl rfl) rfl rfl
  refine(az (e:=[(Zf (en (s1,s2,s3,b1,b2))),Zf I,Zf B,Zb b,Zb c,Zf (.tup [aR s1,aR s2]),Zf (.tup [aR s3]),Zb b1,Zb b2,Zb (b1||t2),Zb (b2||t3)]) (bI (e:=E0) (dG.vd rfl ?_) rfl)).trans ?_
  ·exact bH (x:=.tup [.bl t3]) (y:=.int 0) (bH (x:=.tup [.str y2,.tup [.bl t3]]) (y:=.int 1) (aF (ds:=[I,.tup [aR s3]]) rfl k2) rfl rfl) rfl rfl
  generalize(b1||t2)=u1;generalize(b2||t3)=u2;cases u1<;>cases u2<;>cases b<;>cases c<;>rfl
 rw[hb]
end
open dG (aR gw Rl rd cN jG yr lay lf qp xr stp lJ)
open KW (ac oK)
open KB (pl Nx sought)
theorem Yz(ρ1 ρ2:Rl)(p:Pl):∀v:List Nat,pl (LP ρ1 ρ2) p v=go ρ1 ρ2 p v:=by
 intro v
 induction v generalizing p with
 | nil=>
  obtain⟨a,b,c,d,e⟩:=p;show(a,b,c,d,e)=(a,b,c,d||false,e||false);rw[Bool.or_false,Bool.or_false]
 | cons a v ih=>
  show pl (LP ρ1 ρ2) (LP ρ1 ρ2 p a) v=_;rw[ih];unfold LP go;obtain⟨s1,s2,s3,b1,b2⟩:=p;have e1:=lJ ρ1 [a] s1 v;have e2:=lJ ρ2 [a] s3 v;rw[List.singleton_append] at e1 e2;have e3:=lJ ρ2 (rd ρ1 s1 [a]).2 s2 (rd ρ1 (rd ρ1 s1 [a]).1 v).2;have e4:=oK ρ2 (rd ρ1 s1 [a]).2 s2 (rd ρ1 (rd ρ1 s1 [a]).1 v).2;have e5:=oK ρ2 [a] s3 v;rw[List.singleton_append] at e5;simp only[e1,e2,e3,e4,e5,Bool.or_assoc]
def ini(ρl:D):dG.St:=(fit ρl 35,[])
noncomputable abbrev T:=Jx.Vv
noncomputable def p0(R1 R2:D):Pl:=(ini (lf R1),ini (lf R2),ini (lf R2),false,false)
theorem acw(x:List Nat)(R1 R2:D)(v:List Nat):E1 (cN x R1) (cN x R2) (pl (LP (cN x R1) (cN x R2)) (p0 R1 R2) v)=ac (cN x R2) (ini (lf R2)) (T x R1 v++[35]):=by rw[Yz];unfold E1 go p0 T Jx.Vv ini;simp only;rw[Bool.false_or,<-oK,lJ,Qx3]
theorem acv(x:List Nat)(R1 R2:D)(v:List Nat):E2 (cN x R2) (pl (LP (cN x R1) (cN x R2)) (p0 R1 R2) v)=ac (cN x R2) (ini (lf R2)) (v++[35]):=by rw[Yz];unfold E2 go p0;simp only;rw[Bool.false_or,<-oK]
theorem ace(al:Bool)(kvs:List (D×D))(l r:D):∀(z:List Nat) (s:dG.St),s.2.length<=1->z≠[]->(∀h,(dG.Bh kvs h true).length<=1)->
  (rd (.chg al kvs l r) s z).2.length<=(s.2++z).dropLast.length/\((rd (.chg al kvs l r) s z).2=(s.2++z).dropLast↔ac (.chg al kvs l r) s z=false):=by
 intro z
 induction z with
 | nil=>intro s _ h;exact absurd rfl h
 | cons a z ih=>
  intro s hs _ hp;have hpt:∀h b,(dG.Bh kvs h b).length<=1:=λh b=>by
   cases b with
   | true=>exact hp h
   | false=>exact Qq1 _
  have ho:(stp (.chg al kvs l r) s a).2.length<=s.2.length:=by
   obtain⟨b,h⟩:=s;cases h with
   | nil=>exact Qq1 _
   | cons h t=>
    have:(dG.Bh kvs h (b&&fit r a)).length<=1:=hpt _ _;show(dG.Bh kvs h (b&&fit r a)).length<=_;rw[Qqy];omega
  have hh:(stp (.chg al kvs l r) s a).1.2=[a]:=dG.T5 _ _ _;cases z with
  | nil=>
   have e1:(rd (.chg al kvs l r) s [a]).2=(stp (.chg al kvs l r) s a).2:=by rw[dG.wC]
   have e2:(s.2++[a]).dropLast=s.2:=List.dropLast_concat;rw[e1,e2];refine⟨ho,?_⟩;show _↔(!((stp (.chg al kvs l r) s a).2 == s.2)||false)=false;rw[Bool.or_false,Bool.not_eq_false',beq_iff_eq]
  | cons c z=>
   obtain⟨i1,i2⟩:=ih (stp (.chg al kvs l r) s a).1 (by rw[hh];exact Qq1 _) (by simp) hp;rw[hh] at i1 i2;have e1:(rd (.chg al kvs l r) s (a::c::z)).2=(stp (.chg al kvs l r) s a).2++(rd (.chg al kvs l r) (stp (.chg al kvs l r) s a).1 (c::z)).2:=rfl;have e2:(s.2++a::c::z).dropLast=s.2++([a]++c::z).dropLast:=by
    rw[List.dropLast_append_of_ne_nil (by simp)]
    rfl
   rw[e1,e2,Qqx,Qqx];refine⟨by omega,?_⟩;show _↔(!((stp (.chg al kvs l r) s a).2 == s.2)||ac (.chg al kvs l r) (stp (.chg al kvs l r) s a).1 (c::z))=false;rw[Bool.or_eq_false_iff,Bool.not_eq_false',beq_iff_eq,<-i2];constructor
   ·intro h;have hl:=Qz4 List.length h;rw[Qqx,Qqx] at hl;exact List.append_inj h (by omega)
   ·rintro⟨h1,h2⟩;rw[h1,h2]
theorem acb(c:Nat)(l r:D):∀(z:List Nat) (s:dG.St),z≠[]->
  (s.2++z).dropLast.length<=(rd (.put c l r) s z).2.length/\((rd (.put c l r) s z).2=(s.2++z).dropLast↔ac (.put c l r) s z=false):=by
 intro z
 induction z with
 | nil=>intro s h;exact absurd rfl h
 | cons a z ih=>
  intro s _;have ho:s.2.length<=(stp (.put c l r) s a).2.length:=by show s.2.length<=(s.2++_).length;rw[Qqx];omega
  have hh:(stp (.put c l r) s a).1.2=[a]:=rfl;cases z with
  | nil=>
   have e1:(rd (.put c l r) s [a]).2=(stp (.put c l r) s a).2:=by rw[dG.wC]
   have e2:(s.2++[a]).dropLast=s.2:=List.dropLast_concat;rw[e1,e2];refine⟨ho,?_⟩;show _↔(!((stp (.put c l r) s a).2 == s.2)||false)=false;rw[Bool.or_false,Bool.not_eq_false',beq_iff_eq]
  | cons d z=>
   obtain⟨i1,i2⟩:=ih (stp (.put c l r) s a).1 (by simp);rw[hh] at i1 i2;have e1:(rd (.put c l r) s (a::d::z)).2=(stp (.put c l r) s a).2++(rd (.put c l r) (stp (.put c l r) s a).1 (d::z)).2:=rfl;have e2:(s.2++a::d::z).dropLast=s.2++([a]++d::z).dropLast:=by
    rw[List.dropLast_append_of_ne_nil (by simp)]
    rfl
   rw[e1,e2,Qqx,Qqx];refine⟨by omega,?_⟩;show _↔(!((stp (.put c l r) s a).2 == s.2)||ac (.put c l r) (stp (.put c l r) s a).1 (d::z))=false;rw[Bool.or_eq_false_iff,Bool.not_eq_false',beq_iff_eq,<-i2];constructor
   ·intro h;have hl:=Qz4 List.length h;rw[Qqx,Qqx] at hl;exact List.append_inj h (by omega)
   ·rintro⟨h1,h2⟩;rw[h1,h2]
noncomputable def A(x:List Nat)(R:D)(w:List Nat):Bool:=!(T x R w == w)
theorem acd{x:List Nat}{R:D}{ρ:Rl}(hI:dG.Is x R ρ)(i:dG.St)(hi:i.2=[])(w:List Nat):(rd ρ i (w++[35])).2=w↔ac ρ i (w++[35])=false:=by
 have e0:(i.2++(w++[35])).dropLast=w:=by rw[hi,Qkq];exact List.dropLast_concat
 cases hI with
 | @put wy l r c hc hl hr=>
  have:=(acb c l r (w++[35]) i (by simp)).2;rw[e0] at this;exact this
 | @chg al ps kvs l r hp hd hk hl hr=>
  have hlen:∀h,(dG.Bh kvs h true).length<=1:=λh=>by
   show((jk.look kvs h).getD [h]).length<=1;cases e:jk.look kvs h with
   | none=>exact Qq1 _
   | some t=>exact(jk.iR hk e).2.1
  have:=(ace al kvs l r (w++[35]) i (by rw[hi];exact Qxk _) (by simp) hlen).2;rw[e0] at this;exact this
theorem UW{x:List Nat}{R:D}(hR:cj x R)(w:List Nat):ac (cN x R) (ini (lf R)) (w++[35])=A x R w:=by
 have key:=acd (dG.qK hR) (ini (lf R)) rfl w;unfold A T Jx.Vv;cases h:ac (cN x R) (ini (lf R)) (w++[35]) with
 | false=>
  have z:=key.mpr h;unfold ini at z;rw[z];simp
 | true=>
  have:(rd (cN x R) (fit (lf R) 35,[]) (w++[35])).2≠w:=λz=>by rw[key.mp z] at h;cases h
  simp[this]
noncomputable def W(x:List Nat)(R1 R2:D)(b c:Bool)(v:List Nat):Bool:=(A x R2 (T x R1 v) == b)&&(A x R2 v == c)
theorem aeM{x:List Nat}{R1 R2:D}(h2:cj x R2)(b c:Bool)(v:List Nat):SP (cN x R1) (cN x R2) b c (pl (LP (cN x R1) (cN x R2)) (p0 R1 R2) v)=W x R1 R2 b c v:=by unfold SP W;rw[acw,acv,UW h2,UW h2]
noncomputable def yQ(sl ss:Stmt)(g:LD):bU:=aB (aQ (bY (Zv 1 (aa (bY (Zv 2 (Zv 3 ak))) ak))) (aj 6)) (aB (aQ (bY (Zv 1 (aa (bY (Zv 3 ak)) ak))) (aj 7)) (qw sl ss [7,6] [7,6,4,5] 8 9 g (aM 0) (aM 1) (bY (aa (aq dG.bf (Zv 6 ak)) (aa (aq dG.bf (Zv 7 ak)) (aa (ji (.bl false)) (aa (ji (.bl false)) ak)))))))
theorem Td{x:List Nat}{s R:D}(h:cj x R):cj x (ly s R):=by
 unfold ly;split
 ·exact(dG.Lz h).1
 ·exact h
theorem QJ{x:List Nat}{s R O cu:D}{Φ:Stmt->List D->LD}{sl ss:Stmt}{so:LD}(hx:x∈XS)(hs:s∈sides)(hR:cj x R)(hO:cj x O)(hl:Φ sl=runC 2 11 xg)(hw:Φ ss=runC 1 11 sr)(hso:so [cu]=some (.tup (x.map λa=>.str [a])))(b c:Bool) :
  ∃r,bW 10 (yQ sl ss (bW 11 (KB.cT so Φ))) [cu,s,R,O,.bl b,.bl c]=some r/\((r = .non/\∀v,(∀a∈v,a∈x)->W x (ly s R) (ly s O) b c v=false)\/
   ∃w,r = .str (dW s w)/\(∀a∈w,a∈x)/\W x (ly s R) (ly s O) b c w=true/\∀v,(∀a∈v,a∈x)->v.length<w.length->W x (ly s R) (ly s O) b c v=false):=by
 have hG:KB.Gives Φ sl ss [.tup [s,.tup [O]],.tup [s,.tup [R,O]]] [.tup [s,.tup [O]],.tup [s,.tup [R,O]],.bl b,.bl c] x en key (LP (cN x (ly s R)) (cN x (ly s O))) (SP (cN x (ly s R)) (cN x (ly s O)) b c) (Ok x) (U x):=
  ⟨λp a hp ha=>by rw[hl];exact yF hx hs hR hO hp ha,λp hp=>by rw[hw];exact zb hx hs hR hO b c hp,Uh,Fw,λp hp=>Mx hp,Nu hx⟩
 have z0:∀Q:D,gw x (ini (lf Q)):=λQ=>⟨Qxk _,λc hc=>by simp[ini] at hc⟩;obtain⟨r,h1,h2⟩:=sought hG (cu:=cu) (side:=s) (so:=so) (p0:=p0 (ly s R) (ly s O)) hs hso ⟨z0 _,z0 _,z0 _⟩;have f1:dG.bf [.tup [s,.tup [R,O]]]=some (.tup [aR (ini (lf (ly s R))),aR (ini (lf (ly s O)))]):=by have:=dG.first_standing hx hs (Rs:=[R,O]) (λQ hQ=>by simp only[Qq4,Qw9,Qj2] at hQ;rcases hQ with rfl|rfl;exact hR;exact hO) (by show 2<=10;decide);rw[abo] at this;exact this
 have f2:dG.bf [.tup [s,.tup [O]]]=some (.tup [aR (ini (lf (ly s O)))]):=by have:=dG.first_standing hx hs (Rs:=[O]) (λQ hQ=>by simp only[Qq4,Qw9,Qj2] at hQ;rw[hQ];exact hO) (by show 1<=10;decide);rw[BL] at this;exact this
 have hsc:Cw r=true:=by rcases h2 with ⟨rfl,_⟩|⟨w,rfl,_⟩<;>rfl
 refine⟨r,bO (env:=[Zf cu,Zf s,Zf R,Zf O,Zb b,Zb c,Zf (.tup [s,.tup [R,O]]),Zf (.tup [s,.tup [O]]),Zn,Zn]) ?_,?_⟩
 ·unfold yQ;refine(az (e:=[Zf cu,Zf s,Zf R,Zf O,Zb b,Zb c,Zf (.tup [s,.tup [R,O]]),Zn,Zn,Zn]) rfl).trans ?_;refine(az (e:=[Zf cu,Zf s,Zf R,Zf O,Zb b,Zb c,Zf (.tup [s,.tup [R,O]]),Zf (.tup [s,.tup [O]]),Zn,Zn]) rfl).trans ?_;unfold qw;have ea:aa (aM 0) (aa (aM 1) (aa (bY (aa (aq dG.bf (aa (aM 6) ak)) (aa (aq dG.bf (aa (aM 7) ak)) (aa (ji (.bl false)) (aa (ji (.bl false)) ak))))) ak)) [Zf cu,Zf s,Zf R,Zf O,Zb b,Zb c,Zf (.tup [s,.tup [R,O]]),Zf (.tup [s,.tup [O]]),Zn,Zn] = .ok [cu,s,en (p0 (ly s R) (ly s O))] [Zf cu,Zf s,Zf R,Zf O,Zb b,Zb c,Zf (.tup [s,.tup [R,O]]),Zf (.tup [s,.tup [O]]),Zn,Zn]:=by
   refine aJ (e1:=[Zf cu,Zf s,Zf R,Zf O,Zb b,Zb c,Zf (.tup [s,.tup [R,O]]),Zf (.tup [s,.tup [O]]),Zn,Zn]) rfl (aJ (e1:=[Zf cu,Zf s,Zf R,Zf O,Zb b,Zb c,Zf (.tup [s,.tup [R,O]]),Zf (.tup [s,.tup [O]]),Zn,Zn]) rfl (aJ ?_ bK));refine cP (ds:=[.tup [aR (ini (lf (ly s R))),aR (ini (lf (ly s O)))],.tup [aR (ini (lf (ly s O)))],.bl false,.bl false]) ?_ Ev.zz4;exact aJ (aF (ds:=[.tup [s,.tup [R,O]]]) rfl f1) (aJ (aF (ds:=[.tup [s,.tup [O]]]) rfl f2) rfl)
  show gM (aa _ _ [Zf cu,Zf s,Zf R,Zf O,Zb b,Zb c,Zf (.tup [s,.tup [R,O]]),Zf (.tup [s,.tup [O]]),Zn,Zn]) _=_;rw[ea];show(match bW 11 (KB.cT so Φ) [cu,s,en (p0 (ly s R) (ly s O)),.clo sl [.tup [s,.tup [O]],.tup [s,.tup [R,O]]],.clo ss [.tup [s,.tup [O]],.tup [s,.tup [R,O]],.bl b,.bl c]] with|some d=>if Cw d=true then Out.rt false d _ else Out.stuck|none=>Out.stuck)=_;rw[h1];simp only[hsc,if_true]
 ·have wi:=λv=>aeM (x:=x) (R1:=ly s R) (Td (s:=s) hO) b c v;rcases h2 with ⟨h2,h3⟩|⟨w,h2,h3,h4,h5⟩
  ·exact .inl ⟨h2,λv hv=>by rw[<-wi v];exact h3 v hv⟩
  ·exact .inr ⟨w,h2,h3,by rw[<-wi w];exact h4,λv hv hl=>by rw[<-wi v];exact h5 v hv hl⟩
open jk (XS sides)
open dG (cN tn rt)
open KB (pl)
theorem short{P:Type}[DecidableEq P]{L:P->Nat->P}{S:P->Bool}{p:P}{x:List Nat}{U:List P}(hU:∀v:List Nat,(∀a∈v,a∈x)->pl L p v∈U){w:List Nat}(hw:∀a∈w,a∈x)(h:S (pl L p w)=true)
  (hs:∀v:List Nat,(∀a∈v,a∈x)->v.length<w.length->S (pl L p v)=false):w.length<=U.length:=by
 have nd:((List.range (w.length+1)).map λi=>pl L p (w.take i)).Nodup:=by
  refine List.pairwise_map.mpr ?_;refine List.pairwise_lt_range.imp_of_mem λ{i j} hi hj hij e=>?_;have hj':=Qk3.mp hj;have e1:pl L p (w.take i++w.drop j)=pl L p w:=by
   have h1:pl L p (w.take i++w.drop j)=(w.drop j).foldl L (pl L p (w.take i)):=by unfold pl;rw[List.foldl_append]
   have h2:pl L p (w.take j++w.drop j)=(w.drop j).foldl L (pl L p (w.take j)):=by unfold pl;rw[List.foldl_append]
   rw[h1,e,<-h2,List.take_append_drop]
  have:=hs (w.take i++w.drop j) (λa ha=>by
   rcases Qwq.mp ha with ha|ha
   ·exact hw a (List.mem_of_mem_take ha)
   ·exact hw a (List.mem_of_mem_drop ha)) (by rw[Qqx,Qzy,Qkk];omega)
  rw[e1,h] at this;cases this
 have:=KB.oW U _ nd λq hq=>by
  obtain⟨i,_,rfl⟩:=Qwy.mp hq;exact hU _ λa ha=>hw a (List.mem_of_mem_take ha)
 rw[Qqv,List.length_range] at this;omega
section
variable{x:List Nat}{s R O cu:D}(hx:x∈XS)(hs:s∈sides)(hR:cj x R)(hO:cj x O)
include hx hs hR hO
theorem Yy:∀v:List Nat,(∀a∈v,a∈x)->∀p,Ok x p->Ok x (pl (LP (cN x (ly s R)) (cN x (ly s O))) p v)
 | [],_,p,hp=>hp
 | a::v,h,p,hp=>Yy v (λc hc=>h c (Qqq _ hc)) _ (yF hx hs hR hO hp (h a (Qqj ..))).2
theorem NQ{Φ:Stmt->List D->LD}{sl ss:Stmt}{so:LD}(hl:Φ sl=runC 2 11 xg)(hw:Φ ss=runC 1 11 sr)(hso:so [cu]=some (.tup (x.map λa=>.str [a])))(b c:Bool) :
  ∃r,bW 10 (yQ sl ss (bW 11 (KB.cT so Φ))) [cu,s,R,O,.bl b,.bl c]=some r/\((r = .non/\∀v,(∀a∈v,a∈x)->W x (ly s R) (ly s O) b c v=false)\/
   ∃w,r = .str (dW s w)/\(∀a∈w,a∈x)/\w.length<=7000/\W x (ly s R) (ly s O) b c w=true):=by
 obtain⟨r,h1,h2⟩:=QJ (Φ:=Φ) (sl:=sl) (ss:=ss) (so:=so) hx hs hR hO hl hw hso b c;refine⟨r,h1,?_⟩;rcases h2 with h2|⟨w,e,w1,w2,w3⟩
 ·exact .inl h2
 ·refine .inr ⟨w,e,w1,?_,w2⟩;have z0:∀Q:D,dG.gw x (ini (dG.lf Q)):=λQ=>⟨Qxk _,λc hc=>by simp[ini] at hc⟩;have hW:=λv=>aeM (x:=x) (R1:=ly s R) (R2:=ly s O) (Td hO) b c v;have:=short (U:=U x) (L:=LP (cN x (ly s R)) (cN x (ly s O))) (S:=SP (cN x (ly s R)) (cN x (ly s O)) b c) (p:=p0 (ly s R) (ly s O)) (λv hv=>Mx (Yy hx hs hR hO v hv _ ⟨z0 _,z0 _,z0 _⟩)) w1 (by rw[hW];exact w2) (λv hv hl=>by rw[hW];exact w3 v hv hl);exact Qq2 this (Qq2 (Nu hx) (by decide))
end
end KT
namespace Nz
open Ev
section
def jO:Ev:=jH.jO
def jD:bU:=jH.jD
def cH:LD:=bW 1 jD
def kJ:bU:=jH.kJ
def dF:LD:=bW 2 kJ
def gO:bU:=jH.gO
def iV:LD:=bW 5 gO
def fB:bU:=jH.fB
def fj:LD:=bW 1 fB
def ju:Ev:=jH.ju
def eQ:bU:=jH.eQ
def cR:LD:=bW 3 eQ
def jj:Ev:=jH.jj
def fC:bU:=jH.fC
def bf:LD:=bW 1 fC
def dh:bU:=jH.dh
def dM:LD:=bW 10 dh
def dR:bU:=jH.dR
def dO:LD:=bW 10 dR
def jt:bU:=jH.jt
def gb:bU:=jH.gb
def eY:LD:=bW 8 gb
def lg:bU:=jH.lg
def jb:bU:=jH.jb
def dJ:LD:=bW 10 jb
def jE:bU:=jH.jE
def kE:LD:=bW 6 jE
def iw:bU:=aB (aQ (aq kE (Zv 1 (aa (aA fD 2 (aq fW (aa (bh 4) ak))) (Zv 6 ak)))) (cD 2 (aH (aj 7) (aH (aj 8) cG)))) (aB (eE (dg (aA rT 7 (bh 3))) (aB (ph 3 (aM 7) (aq fW (aa (bh 2) ak))) (d7 2 (aM 7))) bV) (d7 5 (bY (Zv 8 (aa (aA Aa 3 (bh 7)) ak)))))
def iu:bU:=aB (dq 5 (cC ak)) (aB (gq (iH (aq cH (Zv 0 ak))) (aj 6) (iw)) (aB (eE (dg (aP gGt (aq fW (aa (bh 2) ak)) (Zi 600))) (yx) bV) (d7 4 (aq dI (aa (bh 5) ak)))))
def pZ:bU:=aB (dq 2 (cC (aa (aq bf (Zv 1 ak)) ak))) (aB (dq 3 (rA (aA fD 2 (Zi 0)) (Zi 0))) (aB (dq 4 (cC ak)) (aB (fM (dg (aP P0 (aq fW (aa (bh 4) ak)) (aq fW (aa (bh 2) ak)))) (iu) 7000) (bw (bY (Zv 2 (Zv 4 ak)))))))
def pN:LD:=bW 9 pZ
end
end Nz
namespace KM
def cp:List Nat->List Nat->List Nat
 | a::as,b::bs=>if a=b then a::cp as bs else []
 | [],_=>[]
 | _::_,[]=>[]
section
variable{T:Type}[DecidableEq T]
def qm(ys:List T)(x:T):List T:=if x∈ys then ys else ys++[x]
theorem vB(ys:List T)(x y:T):y∈qm ys x↔y∈ys\/y=x:=by
 unfold qm;split
 ·rename_i h;exact⟨.inl,λq=>q.elim id λe=>e ▸ h⟩
 ·rw[Qwq,Qqk]
theorem X7{ys:List T}(x:T)(h:ys.Nodup):(qm ys x).Nodup:=by
 unfold qm;split
 ·exact h
 ·rename_i hn;rw[List.nodup_append];exact⟨h,Qxj.mpr ⟨by simp,.nil⟩,λa ha b hb e=>hn (by rw[Qqk.mp hb] at e;exact e ▸ ha)⟩
def pL:List T->T->Nat
 | [],_=>0
 | u::us,t=>if u=t then 0 else pL us t+1
theorem z6:∀{l:List T} {t:T} (m:List T),t∈l->pL (l++m) t=pL l t
 | u::us,t,m,h=>by
  rw[List.cons_append];unfold pL;split
  ·rfl
  ·rename_i e;rw[z6 m ((Qq4.mp h).resolve_left λz=>e z.symm)]
end
open Ev PySem L2
open jk (XS sides fit look iR vK)
open Bk (cj)
open dG (Rl Is stp rd jG Jw yr lay lf cN qK Bh qp gw)
theorem afX{x:List Nat}{kvs:List (D×D)}(hk:vK x kvs){s:Nat}(hs:s∈x)(b:Bool):∀c∈Bh kvs s b,c∈x:=by
 unfold Bh;split
 ·cases e:look kvs s with
  | none=>exact λc hc=>by rw[Qqk.mp hc];exact hs
  | some t=>exact λc hc=>(iR hk e).2.2 c hc
 ·exact λc hc=>by rw[Qqk.mp hc];exact hs
theorem ac4{x:List Nat}{R:D}{ρ:Rl}(hR:Is x R ρ){s:dG.St}(hs:∀c∈s.2,c∈x){a:Nat}(ha:a∈x):(∃b,(stp ρ s a).1=(b,[a]))/\∀c∈(stp ρ s a).2,c∈x:=by
 cases hR with
 | put hc hl hr=>
  refine⟨⟨_,rfl⟩,λc hm=>?_⟩;rcases Qwq.mp hm with hm|hm
  ·exact hs c hm
  ·split at hm
   ·rw[Qqk.mp hm];exact hc
   ·simp at hm
 | chg hp hd hk hl hr=>
  obtain⟨b,h⟩:=s
  match h,hs with
  | [],hs=>exact⟨⟨_,rfl⟩,λc hc=>by simp[stp] at hc⟩
  | s::h,hs=>exact⟨⟨_,rfl⟩,afX hk (hs s (Qqj ..)) _⟩
theorem ade{x:List Nat}{R:D}{ρ:Rl}(hR:Is x R ρ):∀(z:List Nat) {s:dG.St},(∀c∈s.2,c∈x)->(∀a∈z,a∈x)->((rd ρ s z).1=s/\z=[]\/∃b,∃c∈x,(rd ρ s z).1=(b,[c]))/\∀c∈(rd ρ s z).2,c∈x
 | [],s,hs,_=>⟨.inl ⟨rfl,rfl⟩,λc hc=>by simp[rd] at hc⟩
 | a::z,s,hs,hz=>by
  have ha:=hz a (Qqj ..);obtain⟨⟨b,h1⟩,h2⟩:=ac4 hR hs ha;have h1':∀c∈(stp ρ s a).1.2,c∈x:=λc hc=>by rw[h1] at hc;rw[Qqk.mp hc];exact ha
  obtain⟨h3,h4⟩:=ade hR z h1' λb hb=>hz b (Qqq _ hb);refine⟨.inr ?_,λc hc=>?_⟩
  ·rcases h3 with ⟨e,_⟩|⟨b',c,hc,e⟩
   ·exact⟨b,a,ha,by show(rd ρ (stp ρ s a).1 z).1=_;rw[e,h1]⟩
   ·exact⟨b',c,hc,e⟩
  ·rcases Qwq.mp (show c∈(stp ρ s a).2++(rd ρ (stp ρ s a).1 z).2 from hc) with hc|hc
   ·exact h2 c hc
   ·exact h4 c hc
def U(x:List Nat):List D->List (List dG.St)
 | []=>[[]]
 | R::Ls=>yr (R::Ls)::([false,true].flatMap λb=>x.flatMap λc=>(U x Ls).map λu=>(b,[c])::u)
theorem Nv(x:List Nat)(Ls:List D):yr Ls∈U x Ls:=by
 cases Ls with
 | nil=>exact Qqj ..
 | cons R Ls=>exact Qqj ..
theorem aco{x:List Nat}{R:D}{Ls:List D}{u:List dG.St}(b:Bool){c:Nat}(hc:c∈x)(h:u∈U x Ls):(b,[c])::u∈U x (R::Ls):=by refine Qqq _ (Qz0.mpr ⟨b,by cases b<;>simp,Qz0.mpr ⟨c,hc,Qwy.mpr ⟨u,h,rfl⟩⟩⟩)
theorem Nt{x:List Nat}{R:D}{Ls:List D}{p:List dG.St}(h:p∈U x (R::Ls)):∃s u,p=s::u/\u∈U x Ls/\(∀c∈s.2,c∈x)/\(s::u=yr (R::Ls)\/∃b,∃c∈x,s=(b,[c])):=by
 rcases Qq4.mp h with rfl|h
 ·exact⟨_,yr Ls,rfl,Nv x Ls,λc hc=>by simp at hc,.inl rfl⟩
 ·obtain⟨b,_,h⟩:=Qz0.mp h;obtain⟨c,hc,h⟩:=Qz0.mp h;obtain⟨u,hu,rfl⟩:=Qwy.mp h;exact⟨(b,[c]),u,rfl,hu,λd hd=>by rw[Qqk.mp hd];exact hc,.inr ⟨b,c,hc,rfl⟩⟩
theorem U4{x:List Nat}:∀(Ls:List D) (p:List dG.St),p∈U x Ls->Ls.length=p.length
 | [],p,h=>by rw[Qqk.mp h];rfl
 | R::Ls,p,h=>by
  obtain⟨s,u,rfl,hu,_⟩:=Nt h;rw[Qqy,Qqy,U4 Ls u hu]
theorem Yu{x:List Nat}:∀(Ls:List D) (p:List dG.St) (z:List Nat),(∀R∈Ls,cj x R)->p∈U x Ls->(∀a∈z,a∈x)->(jG x Ls p z).1∈U x Ls
 | [],p,z,_,_,_=>Qqk.mpr rfl
 | R::Ls,p,z,hR,hp,hz=>by
  obtain⟨s,u,rfl,hu,hs,h⟩:=Nt hp;obtain⟨h1,h2⟩:=ade (qK (hR R (Qqj ..))) z hs hz;show(rd (cN x R) s z).1::(jG x Ls u (rd (cN x R) s z).2).1∈U x (R::Ls);have ht:=Yu Ls u (rd (cN x R) s z).2 (λQ hQ=>hR Q (Qqq _ hQ)) hu h2;rcases h1 with ⟨e,hzn⟩|⟨b,c,hc,e⟩
  ·subst hzn;have hl:=U4 Ls u hu;have e2:(jG x Ls u (rd (cN x R) s []).2).1=u:=by
    show(jG x Ls u []).1=u;rw[Jx.Es Ls u hl]
   rw[e2];exact hp
  ·rw[e];exact aco b hc ht
theorem pM{α β:Type}(f:α->List β)(k:Nat):∀l:List α,(∀a∈l,(f a).length=k)->(l.flatMap f).length=l.length*k
 | [],_=>by simp
 | a::l,h=>by
  rw[List.flatMap_cons,Qqx,h a (Qqj ..),pM f k l λb hb=>h b (Qqq _ hb),Qqy,Nat.succ_mul,Nat.add_comm]
theorem Yc(x:List Nat)(R:D)(Ls:List D):(U x (R::Ls)).length=1+2*(x.length*(U x Ls).length):=by show(yr (R::Ls)::([false,true].flatMap λb=>x.flatMap λc=>(U x Ls).map λu=>(b,[c])::u)).length=_;rw[Qqy,pM _ (x.length*(U x Ls).length) _ λb _=>pM _ (U x Ls).length _ λc _=>by rw[Qqv]];rw[Qqy,Qqy,Qx2];omega
theorem aeN{x:List Nat}{Ls:List D}(h:x.length<=4)(h3:Ls.length<=3):(U x Ls).length<=585:=by
 have step:∀(R:D) (L:List D) (k:Nat),(U x L).length<=k->(U x (R::L)).length<=1+8*k:=λR L k hk=>by
  rw[Yc];have:=Qk4 h hk;omega
 match Ls,h3 with
 | [],_=>exact Qq2 (Qq1 1) (by decide)
 | [a],_=>exact Qq2 (step a [] 1 (Qq1 _)) (by decide)
 | [a,b],_=>exact Qq2 (step a _ 9 (step b [] 1 (Qq1 _))) (by decide)
 | [a,b,c],_=>exact step a _ 73 (step b _ 9 (step c [] 1 (Qq1 _)))
open iI (cM)
open jk (XS sides fit)
open dG (aR jG Jw yr lay qp gw)
open Qo (vg qS zx YK)
theorem first_is:Nz.bf=dG.bf:=rfl
section
variable{T:Type}[DecidableEq T]{en:T->D}{key:T->NK}
def Ft(en:T->D):Nat->List T->List (D×D)
 | _,[]=>[]
 | n,u::us=>(en u,.int (n:Int))::Ft en (n+1) us
omit [DecidableEq T] in
theorem Ig:∀(us:List T) (n:Nat) (t:T),Ft en n (us++[t])=Ft en n us++[(en t,.int ((n+us.length:Nat):Int))]
 | [],n,t=>rfl
 | u::us,n,t=>by
  show(en u,D.int (n:Int))::Ft en (n+1) (us++[t])=(en u,D.int (n:Int))::(Ft en (n+1) us++_);rw[Ig us (n+1) t,Qqy];have:n+1+us.length=n+(us.length+1):=by omega
  rw[this]
omit [DecidableEq T] in
theorem MF:∀(us:List T) (n:Nat),(Ft en n us).length=us.length
 | [],n=>rfl
 | u::us,n=>by
  show(Ft en (n+1) us).length+1=us.length+1;rw[MF us]
structure aeS(en:T->D)(key:T->NK):Prop where
 nk:∀t,zL (en t)=some (key t)
 inj:∀p q,key p=key q->p=q
variable(Y:aeS en key)
include Y
theorem yI:∀(us:List T) (n:Nat) (t:T),jz (Ft en n us) (key t)=if t∈us then some (.int ((n+pL us t:Nat):Int)) else none
 | [],n,t=>by simp[Ft,jz]
 | u::us,n,t=>by
  have ih:=yI us (n+1) t;unfold jz at ih ⊢;unfold Ft;rw[Qzw];have hu:rR (en u)=some (key u):=(tX (Y.nk u)).1;by_cases h:u=t
  ·subst h;simp only[hu,decide_true];have ei:pL (u::us) u=0:=by unfold pL;rw[if_pos rfl]
   rw[if_pos (Qqj ..),ei]
   rfl
  ·have hne:¬(some (key u)=some (key t)):=λe=>h (Y.inj u t (Qw1 e));simp only[hu,Qwj hne];have ei:pL (u::us) t=pL us t+1:=by conv=>lhs;unfold pL;rw[if_neg h]
   rw[ih,ei];by_cases hm:t∈us
   ·rw[if_pos hm,if_pos (Qqq _ hm)];have:n+1+pL us t=n+(pL us t+1):=by omega
    rw[this]
   ·rw[if_neg hm,if_neg λz=>(Qq4.mp z).elim (λe=>h e.symm) hm]
theorem Xc(us:List T)(t:T)(h:t ∉ us):sG (Ft en 0 us) (en t) (key t) (.int (us.length:Int))=Ft en 0 (us++[t]):=by
 unfold sG;rw[yI Y,if_neg h,Ig,Nat.zero_add]
 rfl
theorem Pk(us:List T)(t:T)[dc:Decidable (t∈us)]:rT (en t) (.iz (Ft en 0 us))=some (.bl (!decide (t∈us))):=by
 show(zL (en t)).map _=_;rw[Y.nk];show some (D.bl (!(jz (Ft en 0 us) (key t)).isSome))=_;rw[yI Y];by_cases h:t∈us
 ·rw[if_pos h,Qw4 h];rfl
 ·rw[if_neg h,Qwj h];rfl
theorem Xd(us:List T)(t:T)(h:t∈us):Aa (.iz (Ft en 0 us)) (en t)=some (.int (pL us t:Int)):=by show(zL (en t)).bind _=_;rw[Y.nk];show jz (Ft en 0 us) (key t)=_;rw[yI Y,if_pos h,Nat.zero_add]
omit Y
theorem Ql(us:List T)(t:T):t∈qm us t:=(vB us t t).mpr (.inr rfl)
theorem UT{us:List T}{t u:T}(h:u∈us):pL (qm us t) u=pL us u:=by
 unfold qm;split
 ·rfl
 ·exact z6 _ h
theorem Jl{us:List T}{t u:T}{i:Nat}(h:us[i]? = some u):(qm us t)[i]? = some u:=by
 unfold qm;split
 ·exact h
 ·exact KB.lU h
end
abbrev P:=List dG.St
def nQ(p:P):D:=.tup (p.map aR)
theorem Ij:aeS nQ qS:=⟨YK,λ_ _ h=>zx h⟩
def jh(pt:List Nat×Nat):D:=.tup [.str pt.1,.int (pt.2:Int)]
noncomputable def Jv(x:List Nat)(Ls:List D)(p:P)(a:Nat):P:=(jG x Ls p [a]).1
noncomputable def WD(x:List Nat)(Ls:List D)(p:P)(a:Nat):List Nat:=(jG x Ls p [a]).2
noncomputable def mK(x:List Nat)(Ls:List D)(ps:List P)(p:P)(a:Nat):List Nat×Nat:=(WD x Ls p a,pL ps (Jv x Ls p a))
structure OkP(x:List Nat)(s:D)(Rs:List D)(p:P):Prop where
 o:qp x s Rs p
 u:p∈U x (lay s Rs)
abbrev DG(cu ord:D)(ps:List P)(rows:List D)(a5 a6 a7 a8:OD):Ev.Env:=
 [Zf cu,Zf ord,Zl (ps.map nQ),Zt (.iz (Ft nQ 0 ps)),Zl rows,a5,a6,a7,a8]
structure Qu(x:List Nat)(s:D)(Rs:List D)(ps:List P):Prop where
 nd:ps.Nodup
 z0:ps[0]? = some (yr (lay s Rs))
 ok:∀p∈ps,OkP x s Rs p
 reach:∀p∈ps,∃w:List Nat,(∀a∈w,a∈x)/\w.foldl (Jv x (lay s Rs)) (yr (lay s Rs))=p
section
variable{x:List Nat}{s:D}{Rs:List D}{cu:D}
theorem OkP.next{p:P}(h:OkP x s Rs p){a:Nat}(ha:a∈x):Nz.kE [.tup [s,.tup Rs],nQ p,.str [a]]=some (.tup [nQ (Jv x (lay s Rs) p a),.str (WD x (lay s Rs) p a)])/\OkP x s Rs (Jv x (lay s Rs) p a):=by
 have hz:∀b ∈ [a],b∈35::x:=λb hb=>by rw[Qqk.mp hb];exact Qqq _ ha
 obtain⟨h1,h2⟩:=dG.read_on h.o hz (by show 1<=7;decide);exact⟨h1,h2,Yu _ _ _ (dG.zU h.o.hR) h.u λb hb=>by rw[Qqk.mp hb];exact ha⟩
theorem Qu.add{ps:List P}(F:Qu x s Rs ps){p:P}(hp:p∈ps){a:Nat}(ha:a∈x):Qu x s Rs (qm ps (Jv x (lay s Rs) p a)):=by
 refine⟨X7 _ F.nd,Jl F.z0,λq hq=>?_,λq hq=>?_⟩
 ·rcases(vB _ _ _).mp hq with hq|rfl
  ·exact F.ok q hq
  ·exact((F.ok p hp).next ha).2
 ·rcases(vB _ _ _).mp hq with hq|rfl
  ·exact F.reach q hq
  ·obtain⟨w,h1,h2⟩:=F.reach p hp;refine⟨w++[a],λb hb=>?_,by rw[List.foldl_append,h2];rfl⟩;rcases Qwq.mp hb with hb|hb
   ·exact h1 b hb
   ·rw[Qqk.mp hb];exact ha
def Few(x:List Nat)(s:D)(Rs:List D):Prop:=∀ps:List P,Qu x s Rs ps->ps.length<=600
theorem Qu.few{ps:List P}(F:Qu x s Rs ps)(hu:Few x s Rs):ps.length<=600:=hu ps F
theorem aew(hu:(U x (lay s Rs)).length<=600):Few x s Rs:=λps F=>Qq2 (KB.oW _ ps F.nd λq hq=>(F.ok q hq).u) hu
theorem adg{ps:List P}(F:Qu x s Rs ps)(hu:Few x s Rs){rows steps:List D}{p:P}(hp:ps[rows.length]? = some p)(hs:steps.length<=100){a:Nat}(ha:a∈x)(a7 a8:OD) :
  Nz.iw (DG cu (.tup [s,.tup Rs]) ps rows (Zl steps) (Zs [a]) a7 a8) =
   .nx (DG cu (.tup [s,.tup Rs]) (qm ps (Jv x (lay s Rs) p a)) rows (Zl (steps++[jh (mK x (lay s Rs) (qm ps (Jv x (lay s Rs) p a)) p a)])) (Zs [a]) (Zf (nQ (Jv x (lay s Rs) p a))) (Zs (WD x (lay s Rs) p a))):=by
 obtain⟨h1,_⟩:=(F.ok p (Qxv hp)).next ha;have hlen:=F.few hu;unfold mK jh;generalize Jv x (lay s Rs) p a=q at *;generalize WD x (lay s Rs) p a=o at *;generalize D.tup [s,.tup Rs]=O at *;have hix:fD (.lst (ps.map nQ)) (.int (rows.length:Int))=some (nQ p):=by show xj (ps.map nQ) (rows.length:Int)=_;exact lq (by rw[Qw5,hp];rfl)
 unfold Nz.iw
 let E0:Ev.Env:=DG cu O ps rows (Zl steps) (Zs [a]) (Zf (nQ q)) (Zs o)
 refine(az (e:=E0) ?_).trans ?_
 ·let E1:Ev.Env:=DG cu O ps rows (Zl steps) (Zs [a]) a7 a8
  refine bI (d:=.tup [nQ q,.str o]) (e:=E1) ?_ rfl;refine aF (aJ rfl (aJ (e1:=E1) ?_ rfl)) h1;exact bA rfl rfl rfl hix
 have fin:∀qs:List P,q∈qs->d7 5 (bY (Zv 8 (aa (aA Aa 3 (bh 7)) ak))) (DG cu O qs rows (Zl steps) (Zs [a]) (Zf (nQ q)) (Zs o)) =
   .nx (DG cu O qs rows (Zl (steps++[.tup [.str o,.int (pL qs q:Int)]])) (Zs [a]) (Zf (nQ q)) (Zs o)):=λqs hq=>by
  refine(cM (i:=5) (e:=DG cu O qs rows (Zl steps) (Zs [a]) (Zf (nQ q)) (Zs o)) rfl ?_ rfl (Qw2 hs (by decide))).trans rfl;refine cP (aJ rfl (aJ ?_ bK)) Ev.Js;exact bA rfl rfl rfl (Xd Ij qs q hq)
 have ht:dg (aA rT 7 (bh 3)) (DG cu O ps rows (Zl steps) (Zs [a]) (Zf (nQ q)) (Zs o)) = .ok (!decide (q∈ps)) (DG cu O ps rows (Zl steps) (Zs [a]) (Zf (nQ q)) (Zs o)):=
  cU (bA rfl rfl rfl (Pk Ij ps q))
 by_cases hq:q∈ps
 ·rw[Qw4 hq] at ht;refine(az (dU ht)).trans ?_;have e:qm ps q=ps:=if_pos hq;rw[e];exact fin ps hq
 ·rw[Qwj hq] at ht;have e:qm ps q=ps++[q]:=if_neg hq;rw[e];refine(az ?_).trans (fin (ps++[q]) (by simp));refine(gf ht).trans ?_;have s4:=vg (i:=3) (k:=aM 7) (a:=aq fW (aa (bh 2) ak)) (env:=E0) rfl rfl rfl rfl (Ij.nk q)
   (by rw[MF];exact Qw2 hlen (by decide))
  rw[Qqv,Xc Ij ps q hq] at s4;rw[az s4];refine(cM (i:=2) (e:=[Zf cu,Zf O,Zl (ps.map nQ),Zt (.iz (Ft nQ 0 (ps++[q]))),Zl rows,Zl steps,Zs [a],Zf (nQ q),Zs o]) rfl rfl rfl (by rw[Qqv];exact Qw2 hlen (by decide))).trans ?_;have e5:ps.map nQ++[nQ q]=(ps++[q]).map nQ:=by rw[Qx1];rfl
  rw[e5]
  rfl
theorem adh(hu:Few x s Rs){rows:List D}{p:P}(hx4:x.length<=50):∀(rest done:List Nat) (ps:List P) (a6 a7 a8:OD),x=done++rest->Qu x s Rs ps->ps[rows.length]? = some p->(∀a∈done,Jv x (lay s Rs) p a∈ps)->
  ∃ps' b6 b7 b8,gV (aj 6) Nz.iw (pq rest) (DG cu (.tup [s,.tup Rs]) ps rows (Zl (done.map λa=>jh (mK x (lay s Rs) ps p a))) a6 a7 a8) =
   .nx (DG cu (.tup [s,.tup Rs]) ps' rows (Zl (x.map λa=>jh (mK x (lay s Rs) ps' p a))) b6 b7 b8)/\Qu x s Rs ps'/\(∀a∈x,Jv x (lay s Rs) p a∈ps')/\∃more,ps'=ps++more:=by
 intro rest
 induction rest with
 | nil=>
  intro done ps a6 a7 a8 hx F hp hd;rw[Qxx] at hx;subst hx;exact⟨ps,a6,a7,a8,rfl,F,hd,[],by rw[Qxx]⟩
 | cons a rest ih=>
  intro done ps a6 a7 a8 hx F hp hd;have ha:a∈x:=by rw[hx];simp
  have hx':x=(done++[a])++rest:=by rw[hx];simp
  have hdl:done.length<=50:=by have:=Qz4 List.length hx;rw[Qqx] at this;omega
  have h1:=adg (cu:=cu) F hu (steps:=done.map λa=>jh (mK x (lay s Rs) ps p a)) hp (by rw[Qqv];omega) ha a7 a8;have F':=F.add (Qxv hp) ha;have hs:(done.map λb=>jh (mK x (lay s Rs) ps p b))++[jh (mK x (lay s Rs) (qm ps (Jv x (lay s Rs) p a)) p a)]=(done++[a]).map λb=>jh (mK x (lay s Rs) (qm ps (Jv x (lay s Rs) p a)) p b):=by
   rw[Qx1]
   congr 1
   refine Qj1 λb hb=>?_;unfold mK;rw[UT (hd b hb)]
  rw[hs] at h1;obtain⟨ps',b6,b7,b8,g1,g2,g3,more,g4⟩:=ih (done++[a]) (qm ps (Jv x (lay s Rs) p a)) _ _ _ hx' F' (Jl hp) (λb hb=>by
   rcases Qwq.mp hb with hb|hb
   ·exact(vB _ _ _).mpr (.inl (hd b hb))
   ·rw[Qqk.mp hb];exact Ql _ _)
  refine⟨ps',b6,b7,b8,?_,g2,g3,?_⟩
  ·rw[<-g1];exact KB.yM rfl h1
  ·rw[g4];unfold qm;split
   ·exact⟨more,rfl⟩
   ·exact⟨_,Qx3 ..⟩
noncomputable def tU(x:List Nat)(Ls:List D)(ps:List P)(p:P):D:=.tup (x.map λa=>jh (mK x Ls ps p a))
structure All(x:List Nat)(s:D)(Rs:List D)(ps:List P):Prop extends Qu x s Rs ps where
 clo:∀p∈ps,∀a∈x,Jv x (lay s Rs) p a∈ps
theorem TX{ps more:List P}{q:P}(h:q∈ps):pL (ps++more) q=pL ps q:=z6 _ h
theorem V3(hu:Few x s Rs)(hx4:x.length<=50)(hso:Nz.cH [cu]=some (.tup (pq x))):∀(m n:Nat) (ps:List P) (a5 a6 a7 a8:OD),n+m=7000->n<=ps.length->Qu x s Rs ps->(∀p∈ps.take n,∀a∈x,Jv x (lay s Rs) p a∈ps)->
  ∃ps' b5 b6 b7 b8,fM (dg (aP P0 (aq fW (aa (bh 4) ak)) (aq fW (aa (bh 2) ak)))) Nz.iu m (DG cu (.tup [s,.tup Rs]) ps ((ps.take n).map (tU x (lay s Rs) ps)) a5 a6 a7 a8) =
   .nx (DG cu (.tup [s,.tup Rs]) ps' (ps'.map (tU x (lay s Rs) ps')) b5 b6 b7 b8)/\All x s Rs ps':=by
 intro m
 induction m with
 | zero=>
  intro n ps a5 a6 a7 a8 hm hn F hc;have:=F.few hu;omega
 | succ m ih=>
  intro n ps a5 a6 a7 a8 hm hn F hc;have hrl:((ps.take n).map (tU x (lay s Rs) ps)).length=n:=by rw[Qqv,Qzy];omega
  have ht:dg (aP P0 (aq fW (aa (bh 4) ak)) (aq fW (aa (bh 2) ak))) (DG cu (.tup [s,.tup Rs]) ps ((ps.take n).map (tU x (lay s Rs) ps)) a5 a6 a7 a8) = .ok (decide (n<ps.length)) (DG cu (.tup [s,.tup Rs]) ps ((ps.take n).map (tU x (lay s Rs) ps)) a5 a6 a7 a8):=by
   refine cU (bH rfl rfl ?_);rw[hrl,Qqv];show some (D.bl (decide ((n:Int)<(ps.length:Int))))=_
   congr 2
   simp
  by_cases hlt:n<ps.length
  ·rw[Qw4 hlt] at ht;have hp:ps[n]? = some ps[n]:=Qwz hlt;obtain⟨ps',b6,b7,b8,g1,g2,g3,more,g4⟩:=adh (cu:=cu) hu hx4 x [] ps a6 a7 a8 rfl F (by rw[hrl];exact hp) (λa ha=>by simp at ha);have hn':n+1<=ps'.length:=by rw[g4,Qqx];omega
   have hf:=g2.few hu;have e1:(ps.take n).map (tU x (lay s Rs) ps)++[tU x (lay s Rs) ps' ps[n]]=(ps'.take (n+1)).map (tU x (lay s Rs) ps'):=by
    have e2:ps'.take (n+1)=ps.take n++[ps[n]]:=by rw[g4,List.take_append_of_le_length (by omega),List.take_succ_eq_append_getElem hlt]
    rw[e2,Qx1]
    congr 1
    refine Qj1 λp hpm=>?_;unfold tU
    congr 1
    refine Qj1 λa ha=>?_;unfold mK;rw[g4,TX (hc p hpm a ha)]
   have hb:Nz.iu (DG cu (.tup [s,.tup Rs]) ps ((ps.take n).map (tU x (lay s Rs) ps)) a5 a6 a7 a8) = .nx (DG cu (.tup [s,.tup Rs]) ps' ((ps'.take (n+1)).map (tU x (lay s Rs) ps')) (Zl (x.map λa=>jh (mK x (lay s Rs) ps' ps[n] a))) b6 b7 b8):=by
    rw[<-e1];generalize(ps.take n).map (tU x (lay s Rs) ps)=rows at *;unfold Nz.iu;refine(az rfl).trans ?_;refine(az ((eU (pQ (aF rfl hso) rfl)).trans g1)).trans ?_;have t6:dg (aP gGt (aq fW (aa (bh 2) ak)) (Zi 600)) (DG cu (.tup [s,.tup Rs]) ps' rows (Zl (x.map λa=>jh (mK x (lay s Rs) ps' ps[n] a))) b6 b7 b8) = .ok false (DG cu (.tup [s,.tup Rs]) ps' rows (Zl (x.map λa=>jh (mK x (lay s Rs) ps' ps[n] a))) b6 b7 b8):=by refine cU (bH rfl rfl ?_);rw[Qqv];show some (D.bl (decide ((600:Int)<(ps'.length:Int))))=_;rw[Qwj (by omega)]
    refine(az (dU t6)).trans ?_;exact(cM (i:=4) (e:=DG cu (.tup [s,.tup Rs]) ps' rows (Zl (x.map λa=>jh (mK x (lay s Rs) ps' ps[n] a))) b6 b7 b8) rfl rfl rfl (by rw[hrl];exact Qwx hlt (Qq2 (F.few hu) (by decide)))).trans rfl
   rw[KB.Yq ht hb];refine ih (n+1) ps' _ _ _ _ (by omega) hn' g2 λp hpm a ha=>?_;have e2:ps'.take (n+1)=ps.take n++[ps[n]]:=by rw[g4,List.take_append_of_le_length (by omega),List.take_succ_eq_append_getElem hlt]
   rw[e2] at hpm;rcases Qwq.mp hpm with hpm|hpm
   ·rw[g4];exact Qzk _ (hc p hpm a ha)
   ·rw[Qqk.mp hpm];exact g3 a ha
  ·rw[Qwj hlt] at ht;have e:n=ps.length:=by omega
   have e2:ps.take n=ps:=by rw[e,List.take_length]
   rw[e2] at hc;refine⟨ps,a5,a6,a7,a8,?_,F,hc⟩;rw[KB.acT ht,e2]
theorem Hm(hx:x∈XS)(hs:s∈sides)(hR:∀R∈Rs,cj x R)(h4:Rs.length<=4)(hu:Few x s Rs)(hso:Nz.cH [cu]=some (.tup (pq x))) :
  ∃ps,Nz.pN [cu,.tup [s,.tup Rs]]=some (.tup [.lst (ps.map nQ),.lst (ps.map (tU x (lay s Rs) ps))])/\All x s Rs ps:=by
 have hx4:x.length<=50:=Qq2 (iI.jy x hx) (by decide);have hf:Nz.bf [.tup [s,.tup Rs]]=some (nQ (yr (lay s Rs))):=by rw[first_is];exact dG.first_standing hx hs hR (by omega)
 have o0:qp x s Rs (yr (lay s Rs)):=⟨hx,hs,hR,h4,by unfold yr;rw[Qqv,dG.uT],dG.abP x _⟩;have F0:Qu x s Rs [yr (lay s Rs)]:=⟨Qxj.mpr ⟨by simp,.nil⟩,rfl,λp hp=>by rw[Qqk.mp hp];exact⟨o0,Nv _ _⟩,λp hp=>by rw[Qqk.mp hp];exact⟨[],λa ha=>by simp at ha,rfl⟩⟩;obtain⟨ps,b5,b6,b7,b8,g1,g2⟩:=V3 hu hx4 hso 7000 0 [yr (lay s Rs)] none none none none rfl (Qxk _) F0 (λp hp=>by simp at hp);refine⟨ps,?_,g2⟩;generalize yr (lay s Rs)=f at *;generalize D.tup [s,.tup Rs]=O at *;refine bO (env:=[Zf cu,Zf O,Zf (.lst (ps.map nQ)),Zt (.iz (Ft nQ 0 ps)),Zf (.lst (ps.map (tU x (lay s Rs) ps))),b5,b6,b7,b8]) ?_;unfold Nz.pZ
 let E0:Ev.Env:=[Zf cu,Zf O,Zl [nQ f],Zn,Zn,Zn,Zn,Zn,Zn]
 refine(az (e:=E0) ?_).trans ?_
 ·exact(qu (Iw (aJ (aF rfl hf) bK) Ev.zz1)).trans rfl
 refine(az (e:=[Zf cu,Zf O,Zl [nQ f],Zt (.iz [(nQ f,.int 0)]),Zn,Zn,Zn,Zn,Zn]) ?_).trans ?_
 ·refine(qu (e:=E0) ?_).trans rfl;unfold rA;show(match zL (nQ f) with|some _=>_|none=>_)=_;rw[Ij.nk]
 refine(az rfl).trans ?_;refine(az g1).trans ?_;exact bD (cP rfl Ev.Js)
end
end KM
namespace jH
open Ev PySem L2
open jk (XS sides fit)
open Bk (cj)
open dG (aR gw Rl rd cN jG yr lay lf qp lJ)
open KW (ac oK Nr Ze Zd oO mG)
open KT (ly ini A BL or1 prod oU mY SU qQ)
open KB (pl rQ)
abbrev Pa:=dG.St×Bool
def en(p:Pa):D:=.tup [.tup [aR p.1],.bl p.2]
def key(p:Pa):NK:=.tup [Qo.qS [p.1],.num (if p.2 then 1 else 0)]
theorem Uh(p:Pa):zL (en p)=some (key p):=by
 have h:rR (en p)=some (key p):=by unfold en key;simp only[rR,Bx,aR,Qo.qS,Qk0,Qq8,List.map_nil]
 unfold zL en;unfold en at h;simp only[h,Option.bind_some];rw[if_pos];simp[key,Qo.qS,NK.dep,NK.rD]
theorem Fw(p q:Pa)(h:key p=key q):p=q:=by
 obtain⟨a,b⟩:=p;obtain⟨a',b'⟩:=q;unfold key at h;have h0:=NK.tup.inj h;obtain⟨h1,h0⟩:=Qx8 h0;obtain⟨h2,h0⟩:=Qx8 h0;have j1:=Qo.zx h1;obtain⟨k1,_⟩:=Qx8 j1;have tf:∀{u v:Bool},NK.num (if u=true then 1 else 0)=NK.num (if v=true then 1 else 0)->u=v:=λ{u v} h=>by
  cases u<;>cases v<;>first|rfl|(have:=NK.num.inj h;simp at this)
 have k2:=tf h2;simp only at k1 k2;subst k1 k2
 rfl
def U(x:List Nat):List Pa:=prod (SU x) [false,true]
theorem Nu{x:List Nat}(h:x∈XS):(U x).length<=6998:=by have:=iI.jy x h;unfold U SU;rw[oU,oU];simp only[Qqy,Qx2,Qqv];omega
theorem Mx{x:List Nat}{p:Pa}(h:gw x p.1):p∈U x:=by obtain⟨a,b⟩:=p;exact mY (qQ h) (by cases b<;>simp)
def L(ρ:Rl)(p:Pa)(a:Nat):Pa:=((rd ρ p.1 [a]).1,ac ρ p.1 [a])
def S(ρ:Rl)(p:Pa):Bool:=p.2||ac ρ p.1 [35]
section
variable{x:List Nat}{s R:D}(hx:x∈XS)(hs:s∈sides)(hR:cj x R)
include hx hs hR
theorem yF{p:Pa}(hp:gw x p.1){a:Nat}(ha:a∈x):runC 2 7 jT [.tup [s,.tup [R]],.int 0] [en p,.str [a]]=some (en (L (cN x (ly s R)) p a))/\gw x (L (cN x (ly s R)) p a).1:=by
 obtain⟨s1,b1⟩:=p;have hz:∀b ∈ [a],b∈35::x:=λb hb=>by rw[Qqk.mp hb];exact Qqq _ ha
 obtain⟨w2,o2⟩:=oO (or1 hx hs hR hp) hz (by show 1<=7;decide);rw[BL] at w2 o2;have k2:dJ [.tup [s,.tup [R]],.tup [aR s1],.str [a]]=some (.tup [.tup [aR (L (cN x (ly s R)) (s1,b1) a).1],.str (jG x [ly s R] [s1] [a]).2,.tup [.bl (L (cN x (ly s R)) (s1,b1) a).2]]):=w2;refine⟨?_,o2.hS _ (Qqj ..)⟩;generalize L (cN x (ly s R)) (s1,b1) a=g at *;generalize(jG x [ly s R] [s1] [a]).2=y at *;generalize D.tup [s,.tup [R]]=B at *;obtain⟨g1,g2⟩:=g;unfold runC;rw[if_pos (show [en (s1,b1),D.str [a]].length=2 from rfl)];have hb:jT (envOf 7 ([en (s1,b1),.str [a]]++[B,.int 0])) = .rt false (en (g1,g2)) [Zf (en (s1,b1)),Zs [a],Zf B,Zf (.int 0),Zf (.tup [aR g1]),Zs y,Zf (.tup [.bl g2])]:=by
  unfold jT;refine(az (e:=[Zf (en (s1,b1)),Zs [a],Zf B,Zf (.int 0),Zf (.tup [aR g1]),Zs y,Zf (.tup [.bl g2])]) ?_).trans ?_
  ·exact bI (e:=[Zf (en (s1,b1)),Zs [a],Zf B,Zf (.int 0),Zn,Zn,Zn]) (aF (ds:=[B,.tup [aR s1],.str [a]]) rfl k2) rfl
  ·exact bD (cP (ds:=[.tup [aR g1],.bl g2]) rfl Ev.Js)
 rw[hb]
theorem zb{p:Pa}(hp:gw x p.1):runC 1 5 jr [.tup [s,.tup [R]],.int 0] [en p]=some (.bl (S (cN x (ly s R)) p)):=by
 obtain⟨s1,b1⟩:=p;have w2:=mG (or1 hx hs hR hp);rw[BL] at w2;have k2:eG [.tup [s,.tup [R]],.tup [aR s1]]=some (.tup [.str (dG.Jw x [ly s R] [s1] []),.tup [.bl (ac (cN x (ly s R)) s1 [35])]]):=w2;unfold S;simp only;generalize ac (cN x (ly s R)) s1 [35]=t at *;generalize dG.Jw x [ly s R] [s1] []=y at *;generalize D.tup [s,.tup [R]]=B at *;unfold runC;rw[if_pos (show [en (s1,b1)].length=1 from rfl)];have hb:jr (envOf 5 ([en (s1,b1)]++[B,.int 0])) = .rt false (.bl (b1||t)) [Zf (en (s1,b1)),Zf B,Zf (.int 0),Zf (.tup [aR s1]),Zb b1]:=by unfold jr;refine(az (e:=[Zf (en (s1,b1)),Zf B,Zf (.int 0),Zf (.tup [aR s1]),Zb b1]) rfl).trans ?_;refine bD (dG.vd rfl ?_);exact bH (x:=.tup [.bl t]) (y:=.int 0) (bH (x:=.tup [.str y,.tup [.bl t]]) (y:=.int 1) (aF (ds:=[B,.tup [aR s1]]) rfl k2) rfl rfl) rfl rfl
 rw[hb]
end
theorem RZ(ρ:Rl)(i:dG.St)(b:Bool):∀v:List Nat,(pl (L ρ) (i,b) v).1=(rd ρ i v).1:=by
 intro v;unfold pl
 induction v generalizing i b with
 | nil=>rfl
 | cons a v ih=>
  rw[List.foldl_cons];refine(ih _ _).trans ?_;have:=lJ ρ [a] i v;rw[List.singleton_append] at this;rw[this]
theorem never{ρ:Rl}{i:dG.St}{x:List Nat}(h:∀v,(∀a∈v,a∈x)->S ρ (pl (L ρ) (i,false) v)=false):∀n (v:List Nat),v.length=n->(∀a∈v,a∈x)->ac ρ i v=false:=by
 intro n
 induction n with
 | zero=>intro v hv _;rw[List.length_eq_zero_iff.mp hv];rfl
 | succ n ih=>
  intro v hv hx;have hne:v≠[]:=λe=>by rw[e] at hv;cases hv
  have e:=List.dropLast_concat_getLast hne;generalize v.dropLast=u at *;generalize v.getLast hne=a at *;subst e;rw[Qqx,Qq6] at hv;have hu:=ih u (by omega) λb hb=>hx b (Qzk _ hb);have hs:=h (u++[a]) hx;rw[rQ] at hs;unfold S at hs;have h2:=(Bool.or_eq_false_iff.mp hs).1;have h3:ac ρ (pl (L ρ) (i,false) u).1 [a]=false:=h2;rw[RZ] at h3;rw[oK,hu,h3]
  rfl
theorem WY{x:List Nat}{R:D}(hR:cj x R)(h:∀v,(∀a∈v,a∈x)->S (cN x R) (pl (L (cN x R)) (ini (lf R),false) v)=false)(v:List Nat)(hv:∀a∈v,a∈x):A x R v=false:=by
 rw[<-KT.UW hR,oK,never h v.length v rfl hv];have:=(Bool.or_eq_false_iff.mp (h v hv)).2;rw[RZ] at this;rw[this]
 rfl
open KT (ly ini A BL or1 prod SU qQ)
open KB (pl)
open KM (nQ)
def Dd(a b:dG.St):Bool:=if a.1=b.1 then decide (a.2<b.2) else decide (PyProof.Rows.b2i a.1<PyProof.Rows.b2i b.1)
theorem HX(a b:dG.St):o8 (nQ [a]) (nQ [b])=some (Dd a b):=by
 obtain⟨a1,a2⟩:=a;obtain⟨b1,b2⟩:=b;show Vg true [.tup [.bl a1,.str a2]] [.tup [.bl b1,.str b2]]=_;have e:bB 57 (.tup [.bl a1,.str a2]) (.tup [.bl b1,.str b2])=some ((a1 == b1)&&(a2 == b2)):=by show xH (bB 56) [.bl a1,.str a2] [.bl b1,.str b2]=_;cases h1:(a1 == b1)<;>cases h2:(a2 == b2)<;>simp[xH,bB,h1,h2]
 have p:Vf [.bl a1,.str a2] [.bl b1,.str b2]=if (a1 == b1)=true then (if (a2 == b2)=true then some false else some (decide (a2<b2))) else some (decide (PyProof.Rows.b2i a1<PyProof.Rows.b2i b1)):=by cases h1:(a1 == b1)<;>cases h2:(a2 == b2)<;>simp[Vf,ltB,bB,h1,h2]
 unfold Vg;rw[e];unfold Dd;by_cases h1:a1=b1
 ·subst h1;by_cases h2:a2=b2
  ·subst h2;simp[Vg]
  ·have h2':(a2 == b2)=false:=Qx6.mpr h2;simp only[beq_self_eq_true,h2',Bool.and_false];show Vf _ _=_;rw[p];simp[h2']
 ·have h1':(a1 == b1)=false:=Qx6.mpr h1;simp only[h1',Bool.false_and];show Vf _ _=_;rw[p];simp[h1',h1]
theorem W9(a:dG.St):Dd a a=false:=by unfold Dd;rw[if_pos rfl];simp
theorem abm{a b c:dG.St}(h1:Dd a b=true)(h2:Dd b c=true):Dd a c=true:=by obtain⟨a1,a2⟩:=a;obtain⟨b1,b2⟩:=b;obtain⟨c1,c2⟩:=c;unfold Dd at h1 h2 ⊢;simp only at h1 h2 ⊢;cases a1<;>cases b1<;>cases c1<;>simp[PyProof.Rows.b2i] at h1 h2 ⊢<;>first|exact List.lt_trans h1 h2|assumption|trivial
theorem W8{a b:dG.St}(h:a≠b):Dd a b=true\/Dd b a=true:=by
 obtain⟨a1,a2⟩:=a;obtain⟨b1,b2⟩:=b;have tri:a1=b1->a2<b2\/b2<a2:=λe=>by
  by_cases c1:a2<b2
  ·exact .inl c1
  ·by_cases c2:b2<a2
   ·exact .inr c2
   ·exact absurd (by rw[e,List.le_antisymm (List.not_lt.mp c2) (List.not_lt.mp c1)]) h
 unfold Dd;simp only;cases a1<;>cases b1<;>simp[PyProof.Rows.b2i]<;>exact tri rfl
theorem VG{x:List Nat}{ps:List (List dG.St)}(hx:x∈XS)(nd:ps.Nodup)(h:∀p∈ps,∃a,p=[a]/\gw x a):qb (ps.map nQ):=by
 have len:ps.length<=12:=by
  have:=KB.oW ((SU x).map λa=>[a]) ps nd λp hp=>by
   obtain⟨a,rfl,ha⟩:=h p hp;exact Qwy.mpr ⟨a,qQ ha,rfl⟩
  refine Qq2 this ?_;have:=iI.jy x hx;unfold SU;rw[Qqv,KT.oU];simp only[Qqy,Qx2,Qqv];omega
 have one:∀d∈ps.map nQ,∃a,d=nQ [a]/\[a]∈ps:=λd hd=>by
  obtain⟨p,hp,rfl⟩:=Qwy.mp hd;obtain⟨a,rfl,_⟩:=h p hp;exact⟨a,rfl,hp⟩
 refine .inr ⟨by rw[Qqv];omega,.inr ⟨λd hd=>?_,λd hd e he=>?_⟩,λd hd=>?_,λd hd e he f hf h1 h2=>?_,?_⟩
 ·obtain⟨a,rfl,_⟩:=one d hd
  rfl
 ·obtain⟨a,rfl,_⟩:=one d hd;obtain⟨b,rfl,_⟩:=one e he;rw[HX];exact λz=>by cases z
 ·obtain⟨a,rfl,_⟩:=one d hd;rw[HX,W9]
 ·obtain⟨a,rfl,_⟩:=one d hd;obtain⟨b,rfl,_⟩:=one e he;obtain⟨c,rfl,_⟩:=one f hf;rw[HX] at h1 h2 ⊢;rw[abm (Qw1 h1) (Qw1 h2)]
 ·refine List.pairwise_map.mpr (nd.imp_of_mem λ{p q} hp hq hne=>?_);obtain⟨a,rfl,_⟩:=h p hp;obtain⟨b,rfl,_⟩:=h q hq;rw[HX,HX];rcases W8 (a:=a) (b:=b) (λz=>hne (by rw[z])) with z|z
  ·exact .inl (by rw[z])
  ·exact .inr (by rw[z])
section
variable{x:List Nat}{s R cu:D}(hx:x∈XS)(hs:s∈sides)(hR:cj x R)(hso:iI.cH [cu]=some (.tup (x.map λa=>.str [a])))
include hx hs hR hso
theorem standings:∃d,nH [cu,.tup [s,.tup [R]]]=some d:=by
 obtain⟨ps,h1,h2⟩:=KM.Hm (Rs:=[R]) hx hs (λQ hQ=>by rw[Qqk.mp hQ];exact hR) (by show 1<=4;decide) (KM.aew (Qq2 (KM.aeN (iI.jy x hx) (by rw[BL];show 1<=3;decide)) (by decide))) hso;have ok:qb (ps.map nQ):=VG hx h2.nd λp hp=>by
  have o:=(h2.ok p hp).o;have hl:=o.hl
  match p,hl with
  | [a],_=>exact⟨a,rfl,o.hS a (Qqj ..)⟩
 refine⟨.tup (lr (ps.map nQ)),bO (env:=[Zf cu,Zf (.tup [s,.tup [R]])]) ?_⟩;unfold xM;have g:z9 [.lst (ps.map nQ)]=some (.lst (lr (ps.map nQ))):=if_pos ok;exact bD (aF (ds:=[.lst (lr (ps.map nQ))]) (aJ (aF (ds:=[.lst (ps.map nQ)]) (aJ (bH (x:=.tup [.lst (ps.map nQ),.lst (ps.map (KM.tU x (lay s [R]) ps))]) (y:=.int 0) (aF (ds:=[cu,.tup [s,.tup [R]]]) rfl h1) rfl rfl) bK) g) bK) rfl)
end
def pD(x:List Nat):Nat->List (List Nat)
 | 0=>[[]]
 | n+1=>(pD x n).flatMap λw=>x.map λa=>w++[a]
def su(x:List Nat):Nat->List (List Nat)
 | 0=>[[]]
 | n+1=>su x n++pD x (n+1)
theorem uG{x:List Nat}:∀{n:Nat} {w:List Nat},w∈pD x n↔w.length=n/\∀a∈w,a∈x
 | 0,w=>by
  constructor
  ·intro h;rw[Qqk.mp h];exact⟨rfl,λa ha=>by simp at ha⟩
  ·intro h;rw[List.length_eq_zero_iff.mp h.1];exact Qqk.mpr rfl
 | n+1,w=>by
  constructor
  ·intro h;obtain⟨v,hv,h⟩:=Qz0.mp h;obtain⟨a,ha,rfl⟩:=Qwy.mp h;obtain⟨h1,h2⟩:=uG.mp hv;refine⟨by rw[Qqx,h1];rfl,λb hb=>?_⟩;rcases Qwq.mp hb with hb|hb
   ·exact h2 b hb
   ·rw[Qqk.mp hb];exact ha
  ·rintro⟨h1,h2⟩;rcases List.eq_nil_or_concat w with rfl|⟨v,a,rfl⟩
   ·cases h1
   ·rw[List.concat_eq_append] at *;rw[Qqx,Qq6] at h1;exact Qz0.mpr ⟨v,uG.mpr ⟨by omega,λb hb=>h2 b (Qzk _ hb)⟩,Qwy.mpr ⟨a,h2 a (by simp),rfl⟩⟩
theorem Jj{x:List Nat}:∀{n:Nat} {w:List Nat},w∈su x n↔w.length<=n/\∀a∈w,a∈x
 | 0,w=>by
  constructor
  ·intro h;rw[Qqk.mp h];exact⟨Qq1 _,λa ha=>by simp at ha⟩
  ·intro h;rw[List.length_eq_zero_iff.mp (Nat.le_zero.mp h.1)];exact Qqk.mpr rfl
 | n+1,w=>by
  show w∈su x n++pD x (n+1)↔_;rw[Qwq,Jj,uG];constructor
  ·rintro(h|h)
   ·exact⟨by omega,h.2⟩
   ·exact⟨by omega,h.2⟩
  ·intro h;by_cases e:w.length<=n
   ·exact .inl ⟨e,h.2⟩
   ·exact .inr ⟨by omega,h.2⟩
theorem uH{x:List Nat}:∀n,(pD x n).length=x.length^n
 | 0=>rfl
 | n+1=>by
  show((pD x n).flatMap λw=>x.map λa=>w++[a]).length=_;rw[KM.pM _ x.length _ λw _=>by rw[Qqv],uH n,Nat.pow_succ]
theorem Jk{x:List Nat}(h:x.length<=4):∀n,(su x n).length<=(n+1)*4^n
 | 0=>Qq1 _
 | n+1=>by
  show(su x n++pD x (n+1)).length<=_;rw[Qqx,uH];have h1:=Jk h n;have h2:x.length^(n+1)<=4^(n+1):=Nat.pow_le_pow_left h _;have h3:(n+1)*4^n<=(n+1)*4^(n+1):=Nat.mul_le_mul_left _ (Qjz (by decide) (Nat.le_succ _));rw[Nat.succ_mul (n+1)];omega
theorem abS{i:Nat}{a:Ev}{env e:Ev.Env}{xs x0 zs:List D}(h0:env[i]? = some (Zl x0))(h1:a env = .ok (.lst zs) e)(h2:e[i]? = some (Zl xs))(hz:xs.length+zs.length<=sizeLine):G4 i a env = .nx (e.set i (Zl (xs++zs))):=by unfold G4;simp only[h0,h1,gM,h2,if_pos hz]
theorem ab9(x w:List Nat)(hx:x.length<=4)(hw:w.length<=20)(acc:List D)(ha:acc.length<=40000)(A1 A2 A3 A4:OD) :
  jP [Zs x,A1,A2,A3,A4,Zl acc,Zs w] = .nx [Zs x,A1,A2,A3,A4,Zl (acc++(x.map λa=>w++[a]).map .str),Zs w]:=by
 unfold jP;have h1:mZ [Zs x,A1,A2,A3,A4,Zl acc,Zs w] = .ok (.lst ((x.map λa=>w++[a]).map .str)) [Zs x,A1,A2,A3,A4,Zl acc,Zs w]:=by
  unfold mZ;refine(abT (n:=8) x (λa=>.str [a]) (λa=>.str (w++[a])) rfl rfl rfl (λa ha=>?_) (Qq2 hx (by decide))).trans ?_
  ·exact bA (i:=6) rfl rfl rfl (KB.T9 (Qq2 (m:=5000) (by rw[Qq6];omega) (by decide)))
  ·rw[Qkx]
   rfl
 refine(abS rfl h1 rfl ?_).trans rfl;rw[Qqv,Qqv];exact Qq2 (show acc.length+x.length<=40004 by omega) (by decide)
theorem UG(x:List Nat)(hx:x.length<=4)(A1 A2 A3 A4:OD):∀(ws acc:List (List Nat)) (a6:OD),(∀w∈ws,w.length<=20)->acc.length+4*ws.length<=40000->∃b6,gV (aj 6) jP (ws.map .str) [Zs x,A1,A2,A3,A4,Zl (acc.map .str),a6] = .nx [Zs x,A1,A2,A3,A4,Zl ((acc++ws.flatMap λw=>x.map λa=>w++[a]).map .str),b6]
 | [],acc,a6,_,_=>⟨a6,by rw[List.flatMap_nil,Qxx];rfl⟩
 | w::ws,acc,a6,hw,hl=>by
  rw[Qqy] at hl;obtain⟨b6,h⟩:=UG x hx A1 A2 A3 A4 ws (acc++x.map λa=>w++[a]) (Zs w) (λv hv=>hw v (Qqq _ hv)) (by rw[Qqx,Qqv];omega);refine⟨b6,?_⟩;rw[List.flatMap_cons,<-Qx3,<-h,Qq8];have h1:=ab9 x w hx (hw w (Qqj ..)) (acc.map .str) (by rw[Qqv];omega) A1 A2 A3 A4;rw[<-Qx1] at h1;exact KB.yM rfl h1
theorem Ji(x:List Nat)(hx:x.length<=4)(A1:OD):∀(ds:List D) (j:Nat) (a4 a5 a6:OD),j+ds.length<=6->∃b4 b5 b6,gV (aj 4) m5 ds [Zs x,A1,Zf (.lst ((su x j).map .str)),Zf (.lst ((pD x j).map .str)),a4,a5,a6] = .nx [Zs x,A1,Zf (.lst ((su x (j+ds.length)).map .str)),Zf (.lst ((pD x (j+ds.length)).map .str)),b4,b5,b6]
 | [],j,a4,a5,a6,_=>⟨a4,a5,a6,rfl⟩
 | d::ds,j,a4,a5,a6,hl=>by
  rw[Qqy] at hl;have hr4:(pD x j).length<=4096:=by rw[uH];exact Qq2 (Nat.pow_le_pow_left hx j) (Qq2 (Qjz (by decide) (show j<=6 by omega)) (by decide))
  have hr5:(pD x (j+1)).length<=4096:=by rw[uH];exact Qq2 (Nat.pow_le_pow_left hx _) (Qq2 (Qjz (by decide) (show j+1<=6 by omega)) (by decide))
  have ha4:(su x j).length<=7*4096:=Qq2 (Jk hx j) (Qk4 (by omega) (Qq2 (Qjz (by decide) (show j<=6 by omega)) (by decide)));obtain⟨c6,g⟩:=UG x hx A1 (Zf (.lst ((su x j).map .str))) (Zf (.lst ((pD x j).map .str))) (Zf d) (pD x j) [] a6 (λw hw=>by have:=(uG.mp hw).1;omega) (by rw[Qx2];omega);obtain⟨b4,b5,b6,h⟩:=Ji x hx A1 ds (j+1) (Zf d) (Zf (.lst ((pD x (j+1)).map .str))) c6 (by omega);have e:j+(d::ds).length=j+1+ds.length:=by rw[Qqy];omega
  refine⟨b4,b5,b6,?_⟩;rw[e,<-h];refine KB.yM rfl ?_;unfold m5;refine(az rfl).trans ?_;refine(az ((eU rfl).trans g)).trans ?_;rw[Qkq];have er:((pD x j).flatMap λw=>x.map λa=>w++[a])=pD x (j+1):=rfl;rw[er];generalize hrw:pD x (j+1)=rw1 at *;generalize ain:pD x j=rw0 at *;refine(az rfl).trans ?_;refine bI (e:=[Zs x,A1,Zf (.lst ((su x j).map .str)),Zf (.lst (rw1.map .str)),Zf d,Zf (.lst (rw1.map .str)),c6]) ?_ rfl;refine bA (i:=2) rfl rfl rfl ?_;unfold dD;refine(if_pos ?_).trans ?_
  ·rw[Qqv,Qqv];exact Qq2 (Nat.add_le_add ha4 hr5) (by decide)
  ·rw[<-Qx1,<-hrw]
   rfl
theorem Qk(x:List Nat)(hx:x.length<=4)(m:Nat)(hm:m<=6)(hr:zq [.int (m:Int)]=some ((List.range m).map λ(i:Nat)=>.int (i:Int))):jC [.str x,.int (m:Int)]=some (.lst ((su x m).map .str)):=by
 obtain⟨b4,b5,b6,h⟩:=Ji x hx (Zf (.int (m:Int))) ((List.range m).map λ(i:Nat)=>.int (i:Int)) 0 none none none (by rw[Qqv,List.length_range];omega);rw[Qqv,List.length_range,Nat.zero_add] at h;refine bO (env:=[Zs x,Zf (.int (m:Int)),Zf (.lst ((su x m).map .str)),Zf (.lst ((pD x m).map .str)),b4,b5,b6]) ?_;unfold xN;refine(az rfl).trans ?_;refine(az rfl).trans ?_;refine(az ((eU ?_).trans h)).trans ?_
 ·exact K20.Ud (ds:=[.int (m:Int)]) rfl hr
 ·rfl
open Bk (cj cF)
open Jx (dW jQ)
open KT (ly ini A T W BL or1 prod SU qQ)
theorem Vr:il=bW 11 (KB.cT iI.cH Bj):=rfl
theorem NP:gC=bW 10 (KT.yQ bC bz (bW 11 (KB.cT iI.cH Bj))):=rfl
theorem W0{a b:Stmt}(h:Ev.defName a≠Ev.defName b):a≠b:=λe=>h (by rw[e])
theorem ad3{a b:Stmt}(h:Ev.freeOf a≠Ev.freeOf b):a≠b:=λe=>h (by rw[e])
theorem adK:Bj bC=runC 2 11 KT.xg:=if_pos rfl
theorem adJ:Bj bz=runC 1 11 KT.sr:=(if_neg (W0 (by decide +kernel))).trans (if_pos rfl)
theorem aas:Bj dw=runC 2 7 jT:=(if_neg (ad3 (by decide +kernel))).trans ((if_neg (W0 (by decide +kernel))).trans (if_pos rfl))
theorem aar:Bj cQ=runC 1 5 jr:=(if_neg (W0 (by decide +kernel))).trans ((if_neg (ad3 (by decide +kernel))).trans ((if_neg (W0 (by decide +kernel))).trans (if_pos rfl)))
section
variable{x:List Nat}{s R cu:D}(hx:x∈XS)(hs:s∈sides)(hR:cj x R)(hso:iI.cH [cu]=some (.tup (x.map λa=>.str [a])))
include hx hs hR hso
theorem X8:∃r,KR [cu,.tup [s,.tup [R]],.int 0]=some r/\((r = .non/\∀v,(∀a∈v,a∈x)->A x (ly s R) v=false)\/∃w,r = .str w):=by
 have z0:gw x (ini (lf (ly s R))):=⟨Qxk _,λc hc=>by simp[ini] at hc⟩;have hG:KB.Gives Bj dw cQ [.tup [s,.tup [R]],.int 0] [.tup [s,.tup [R]],.int 0] x en key (L (cN x (ly s R))) (S (cN x (ly s R))) (λp=>gw x p.1) (U x):=
  ⟨λp a hp ha=>by rw[aas];exact yF hx hs hR hp ha,λp hp=>by rw[aar];exact zb hx hs hR hp,Uh,Fw,λp hp=>Mx hp,Nu hx⟩
 obtain⟨r,h1,h2⟩:=KB.sought hG (cu:=cu) (side:=s) (so:=iI.cH) (p0:=(ini (lf (ly s R)),false)) hs hso z0;have f1:bf [.tup [s,.tup [R]]]=some (.tup [aR (ini (lf (ly s R)))]):=by have:=dG.first_standing hx hs (Rs:=[R]) (λQ hQ=>by rw[Qqk.mp hQ];exact hR) (by show 1<=10;decide);rw[BL] at this;exact this
 obtain⟨sd,hsd⟩:=standings hx hs hR hso;have hsc:Cw r=true:=by rcases h2 with ⟨rfl,_⟩|⟨w,rfl,_⟩<;>rfl
 refine⟨r,bO (env:=[Zf cu,Zf (.tup [s,.tup [R]]),Zf (.int 0),Zn,Zn]) ?_,?_⟩
 ·unfold Uz;refine(az (e:=[Zf cu,Zf (.tup [s,.tup [R]]),Zf (.int 0),Zn,Zn]) ?_).trans ?_
  ·exact(dU rfl).trans rfl
  refine(az (e:=[Zf cu,Zf (.tup [s,.tup [R]]),Zf (.int 0),Zn,Zn]) ?_).trans ?_
  ·have e:=aF (g:=nH) (a:=Zv 0 (Zv 1 ak)) (env:=[Zf cu,Zf (.tup [s,.tup [R]]),Zf (.int 0),Zn,Zn]) (ds:=[cu,.tup [s,.tup [R]]]) rfl hsd;unfold J4;rw[e]
   rfl
  unfold qw;have ea:aa (aM 0) (aa (aA fD 1 (Zi 0)) (aa (bY (aa (aq bf (aa (aM 1) ak)) (aa (ji (.bl false)) ak))) ak)) [Zf cu,Zf (.tup [s,.tup [R]]),Zf (.int 0),Zn,Zn] = .ok [cu,s,en (ini (lf (ly s R)),false)] [Zf cu,Zf (.tup [s,.tup [R]]),Zf (.int 0),Zn,Zn]:=by refine aJ (e1:=[Zf cu,Zf (.tup [s,.tup [R]]),Zf (.int 0),Zn,Zn]) rfl (aJ (e1:=[Zf cu,Zf (.tup [s,.tup [R]]),Zf (.int 0),Zn,Zn]) rfl (aJ ?_ bK));refine cP (ds:=[.tup [aR (ini (lf (ly s R)))],.bl false]) ?_ Ev.Js;exact aJ (aF (ds:=[.tup [s,.tup [R]]]) rfl f1) rfl
  show gM (aa _ _ [Zf cu,Zf (.tup [s,.tup [R]]),Zf (.int 0),Zn,Zn]) _=_;rw[ea];show(match il [cu,s,en (ini (lf (ly s R)),false),.clo dw [.tup [s,.tup [R]],.int 0],.clo cQ [.tup [s,.tup [R]],.int 0]] with|some d=>if Cw d=true then Out.rt false d _ else Out.stuck|none=>Out.stuck)=_;rw[Vr,h1];simp only[hsc,if_true]
 ·rcases h2 with ⟨h2,h3⟩|⟨w,h2,_⟩
  ·exact .inl ⟨h2,WY (KT.Td hR) h3⟩
  ·exact .inr ⟨_,h2⟩
theorem HJ:∃b,fY [cu,s,R]=some (.bl b)/\(b=true->∀v,(∀a∈v,a∈x)->A x (ly s R) v=false):=by
 obtain⟨r,h1,h2⟩:=X8 hx hs hR hso;have go:∀b,Fy r .non=some (.bl b)->fY [cu,s,R]=some (.bl b):=λb hb=>by
  refine bO (env:=[Zf cu,Zf s,Zf R]) (bD (bH (x:=r) (y:=.non) (aF (ds:=[cu,.tup [s,.tup [R]],.int 0]) ?_ h1) rfl hb));exact aJ rfl (aJ (cP (ds:=[s,.tup [R]]) rfl Ev.Js) rfl)
 rcases h2 with ⟨rfl,h2⟩|⟨w,rfl⟩
 ·exact⟨true,go true rfl,λ_=>h2⟩
 ·exact⟨false,go false rfl,λe=>by cases e⟩
end
open dG (cN lf)
open KT (ly A T W)
theorem orT{a b:gn}{env:Ev.Env}{p q:Bool}(h1:a env = .ok p env)(h2:b env = .ok q env):lA a b env = .ok (p||q) env:=by
 unfold lA;rw[h1];cases p with
 | true=>rfl
 | false=>exact h2
theorem agI{a b:gn}{env:Ev.Env}(h1:a env = .ok false env):cW a b env = .ok false env:=by
 unfold cW;rw[h1]
 rfl
theorem ne_is(s:D)(x:List Nat)(Q:D)(w:List Nat):(!(dW s (T x Q (dW s w)) == w))=A x Q (dW s w):=by
 unfold A;generalize T x Q (dW s w)=t
 congr 1
 by_cases h:t=dW s w
 ·rw[h,jQ];simp
 ·have h2:dW s t≠w:=λe=>h (by rw[<-e,jQ]);rw[Qx6.mpr h,Qx6.mpr h2]
theorem wW{x w:List Nat}{s:D}(hw:∀c∈w,c∈x):∀c∈dW s w,c∈x:=λc hc=>by
 unfold dW at hc;split at hc
 ·exact hw c (Qkv.mp hc)
 ·exact hw c hc
theorem Ao(s:D)(w:List Nat):(dW s w).length=w.length:=by
 unfold dW;split
 ·exact Qkj ..
 ·rfl
section
variable{x:List Nat}{s R O cu:D}(hx:x∈XS)(hs:s∈sides)(hR:cj x R)(hO:cj x O){w:List Nat}(hw:∀c∈w,c∈x)
include hx hs hR
section
include hw
theorem chd(hn:w.length<=30000):gD [s,R,.str w]=some (.str (dW s (T x (ly s R) (dW s w))))/\(∀c∈dW s (T x (ly s R) (dW s w)),c∈x)/\(dW s (T x (ly s R) (dW s w))).length<=2*w.length+1:=by
 have h:=Bk.agE hx hs hR hw hn;have e:cF s R w=dW s (T x (ly s R) (dW s w)):=by
  simp only[sides,Qq4,Qw9,Qj2] at hs;rcases hs with rfl|rfl
  ·exact Jx.Xa hx hR hw hn
  ·exact Jx.Rg hx hR hw hn
 rw[e] at h;exact h
theorem Gk(hn:w.length<=30000):gh [s,R,.str w]=some (.bl (A x (ly s R) (dW s w))):=by obtain⟨h1,_,_⟩:=chd hx hs hR hw hn;rw[<-ne_is];exact bO (env:=[Zf s,Zf R,Zs w]) (bD (bH (x:=.str _) (y:=.str w) (aF (ds:=[s,R,.str w]) rfl h1) rfl rfl))
end
def Tld(x:List Nat)(s R O:D)(b c:Bool)(r:D)(n:Bool):Prop:=iU r .non=some (.bl n)/\Fy r .non=some (.bl (!n))/\(n=false->r = .non/\∀v,(∀a∈v,a∈x)->W x (ly s R) (ly s O) b c v=false)/\
 (n=true->∃w,r = .str (dW s w)/\(∀a∈w,a∈x)/\w.length<=7000/\W x (ly s R) (ly s O) b c w=true)
variable(hso:iI.cH [cu]=some (.tup (x.map λa=>.str [a])))
include hO hso
theorem seek(b c:Bool):∃r n,gC [cu,s,R,O,.bl b,.bl c]=some r/\Tld x s R O b c r n:=by
 rw[NP];obtain⟨r,h1,h2⟩:=KT.NQ (Φ:=Bj) (sl:=bC) (ss:=bz) (so:=iI.cH) hx hs hR hO adK adJ hso b c;rcases h2 with ⟨rfl,h2⟩|⟨w,rfl,h2⟩
 ·exact⟨.non,false,h1,rfl,rfl,λ_=>⟨rfl,h2⟩,λe=>by cases e⟩
 ·exact⟨_,true,h1,rfl,rfl,(λe=>by cases e),λ_=>⟨w,rfl,h2⟩⟩
theorem way:∃r n,nJ [cu,s,R,O]=some r/\Tld x s R O true false r n:=by obtain⟨r,n,e,h⟩:=seek hx hs hR hO hso true false;exact⟨r,n,bO (env:=[Zf cu,Zf s,Zf R,Zf O]) (bD (aF (ds:=[cu,s,R,O,.bl true,.bl false]) rfl e)),h⟩
theorem takes:∃r n,lV [cu,s,R,O]=some r/\Tld x s R O false true r n:=by obtain⟨r,n,e,h⟩:=seek hx hs hR hO hso false true;exact⟨r,n,bO (env:=[Zf cu,Zf s,Zf R,Zf O]) (bD (aF (ds:=[cu,s,R,O,.bl false,.bl true]) rfl e)),h⟩
omit hso in
theorem yw{b c n:Bool}{r:D}(hbc:b≠c)(h:Tld x s R O b c r n)(hn:(∀v,(∀a∈v,a∈x)->A x (ly s R) v=false)\/∀v,(∀a∈v,a∈x)->A x (ly s O) v=false):n=false:=by
 cases n with
 | false=>rfl
 | true=>
  obtain⟨w,_,w1,w2,w3⟩:=h.2.2.2 rfl;exfalso;unfold W at w3;obtain⟨e1,e2⟩:=Qzv.mp w3;have e1:=beq_iff_eq.mp e1;have e2:=beq_iff_eq.mp e2;rcases hn with hn|hn
  ·have t:T x (ly s R) w=w:=by
    have:=hn w w1;unfold A at this
    simpa using this
   rw[t] at e1;exact hbc (e1.symm.trans e2)
  ·obtain⟨_,k2,_⟩:=chd hx hs hR (w:=dW s w) (wW w1) (by rw[Ao];omega);rw[jQ] at k2;have k3:=wW (s:=s) k2;rw[jQ] at k3;rw[hn _ k3] at e1;rw[hn w w1] at e2;exact hbc (e1.symm.trans e2)
end
abbrev En(a0 a1 a2 a3 a4 a5 a6 a7 a8 a9 a10 a11:OD):Ev.Env:=[a0,a1,a2,a3,a4,a5,a6,a7,a8,a9,a10,a11]
section
variable{x:List Nat}{s R O r7 r8:D}{n7 n8:Bool}(hx:x∈XS)(hs:s∈sides)(hR:cj x R)(hO:cj x O)(h7:Tld x s R O true false r7 n7)(h8:Tld x s R O false true r8 n8)
include hx hs hR hO h7 h8
theorem body{w:List Nat}(hw:∀a∈w,a∈x)(hl:w.length<=6)(a0 a1 a2 a3 a10 a11:OD):∃b10 b11,qX (En a0 a1 a2 a3 (Zf s) (Zf R) (Zf O) (Zf r7) (Zf r8) (Zs w) a10 a11) = .nx (En a0 a1 a2 a3 (Zf s) (Zf R) (Zf O) (Zf r7) (Zf r8) (Zs w) b10 b11):=by
 obtain⟨c1,c2,c3⟩:=chd hx hs hR hw (by omega);have k1:=Gk hx hs hO hw (by omega);have k2:=Gk hx hs hO c2 (by omega);rw[jQ] at k2;have f7:n7=false->(A x (ly s O) (T x (ly s R) (dW s w)) && !A x (ly s O) (dW s w))=false:=λe=>by
  have:=(h7.2.2.1 e).2 (dW s w) (wW hw);unfold W at this;revert this;cases A x (ly s O) (T x (ly s R) (dW s w))<;>cases A x (ly s O) (dW s w)<;>simp
 have f8:n8=false->(A x (ly s O) (dW s w) && !A x (ly s O) (T x (ly s R) (dW s w)))=false:=λe=>by
  have:=(h8.2.2.1 e).2 (dW s w) (wW hw);unfold W at this;revert this;cases A x (ly s O) (T x (ly s R) (dW s w))<;>cases A x (ly s O) (dW s w)<;>simp
 generalize A x (ly s O) (T x (ly s R) (dW s w))=p at *;generalize A x (ly s O) (dW s w)=q at *;generalize dW s (T x (ly s R) (dW s w))=u at *;refine⟨Zb q,Zb p,?_⟩;unfold qX
 let E0:Ev.Env:=En a0 a1 a2 a3 (Zf s) (Zf R) (Zf O) (Zf r7) (Zf r8) (Zs w) (Zb q) a11
 refine(az (e:=E0) ?_).trans ?_
 ·exact bI (e:=En a0 a1 a2 a3 (Zf s) (Zf R) (Zf O) (Zf r7) (Zf r8) (Zs w) a10 a11) (aF (ds:=[s,O,.str w]) rfl k1) rfl
 refine(az (e:=En a0 a1 a2 a3 (Zf s) (Zf R) (Zf O) (Zf r7) (Zf r8) (Zs w) (Zb q) (Zb p)) ?_).trans ?_
 ·refine bI (e:=E0) (aF (ds:=[s,O,.str u]) ?_ k2) rfl;exact aJ (e1:=E0) rfl (aJ (e1:=E0) rfl (aJ (aF (ds:=[s,R,.str w]) rfl c1) bK))
 have t:lA (cW (dg (aM 10)) (cW (pP (dg (aM 11))) (dg (aA Fy 8 (ji .non))))) (cW (dg (aM 11)) (cW (pP (dg (aM 10))) (dg (aA Fy 7 (ji .non))))) (En a0 a1 a2 a3 (Zf s) (Zf R) (Zf O) (Zf r7) (Zf r8) (Zs w) (Zb q) (Zb p))
   = .ok ((q&&(!p && !n8))||(p&&(!q && !n7))) (En a0 a1 a2 a3 (Zf s) (Zf R) (Zf O) (Zf r7) (Zf r8) (Zs w) (Zb q) (Zb p)):=
  orT (jk.dZ rfl (jk.dZ (Dj rfl) (cU (bA rfl rfl rfl h8.2.1)))) (jk.dZ rfl (jk.dZ (Dj rfl) (cU (bA rfl rfl rfl h7.2.1))))
 have z:((q&&(!p && !n8))||(p&&(!q && !n7)))=false:=by cases n7<;>cases n8<;>cases p<;>cases q<;>simp at f7 f8 ⊢
 rw[z] at t;exact(dU t).trans rfl
end
open iI (Rows)
def most(x:List Nat):Nat:=[6,6,5,4,3].getD x.length 0
theorem words{x:List Nat}(hx:x∈XS):fD (.lst [.int 6,.int 6,.int 5,.int 4,.int 3]) (.int (x.length:Int))=some (.int (most x:Int))/\most x<=6/\jC [.str x,.int (most x:Int)]=some (.lst ((su x (most x)).map .str)):=by
 have hl:=(iI.Be hx).len;have h:∀n:Nat,n<=4->fD (.lst [.int 6,.int 6,.int 5,.int 4,.int 3]) (.int (n:Int))=some (.int (([6,6,5,4,3].getD n 0:Nat):Int))/\[6,6,5,4,3].getD n 0<=6/\zq [.int (([6,6,5,4,3].getD n 0:Nat):Int)]=some ((List.range ([6,6,5,4,3].getD n 0)).map λ(i:Nat)=>.int (i:Int)):=λn hn=>by
  have hc:n=0\/n=1\/n=2\/n=3\/n=4:=by omega
  rcases hc with rfl|rfl|rfl|rfl|rfl<;>exact⟨rfl,by decide,rfl⟩
 obtain⟨h1,h2,h3⟩:=h x.length hl;exact⟨h1,h2,Qk x hl (most x) h2 h3⟩
noncomputable def Mz:bU:=aB (aQ (aq nJ (Zv 2 (Zv 4 (Zv 5 (Zv 6 ak))))) (aj 7)) (aB (aQ (aq lV (Zv 2 (Zv 4 (Zv 5 (Zv 6 ak))))) (aj 8)) (aB (eE (cW (dg (aq fY (Zv 2 (Zv 4 (Zv 5 ak))))) (lA (dg (aA iU 7 (ji .non))) (dg (aA iU 8 (ji .non))))) (bw (ji (.bl false))) bV) (aB (eE (cW (dg (aq fY (Zv 2 (Zv 4 (Zv 6 ak))))) (lA (dg (aA iU 7 (ji .non))) (dg (aA iU 8 (ji .non))))) (bw (ji (.bl false))) bV) (aB (gq (iH (aq jC (Zv 3 (aa (aP fD (cC (aa (Zi 6) (aa (Zi 6) (aa (Zi 5) (aa (Zi 4) (aa (Zi 3) ak)))))) (aq fW (aa (bh 3) ak))) ak)))) (aj 9) (qX)) (aB (eE (cW (dg (aA iU 7 (ji .non))) (dg (aq gh (Zv 4 (Zv 6 (Zv 7 ak)))))) (bw (ji (.bl false))) bV) (bw (oG (aA Fy 8 (ji .non)) (aq gh (Zv 4 (Zv 6 (Zv 8 ak)))))))))))
section
variable{x:List Nat}{s R O cu S:D}{n:Int}(hx:x∈XS)(hs:s∈sides)(hR:cj x R)(hO:cj x O)(hso:iI.cH [cu]=some (.tup (x.map λa=>.str [a])))
include hx hs hR hO hso
theorem Tj:∃e',Mz (En (Zf S) (Zl [.int n]) (Zf cu) (Zs x) (Zf s) (Zf R) (Zf O) none none none none none) = .rt false (.bl true) e':=by
 unfold Mz;obtain⟨r7,n7,k7,h7⟩:=way hx hs hR hO hso;obtain⟨r8,n8,k8,h8⟩:=takes hx hs hR hO hso;obtain⟨b1,v1,v2⟩:=HJ hx hs hR hso;obtain⟨b2,u1,u2⟩:=HJ hx hs hO hso;obtain⟨w1,w2,w3⟩:=words hx;have z1:(b1&&(n7||n8))=false:=by
  cases b1 with
  | false=>rfl
  | true=>rw[yw hx hs hR hO (by decide) h7 (.inl (v2 rfl)),yw hx hs hR hO (by decide) h8 (.inl (v2 rfl))];rfl
 have z2:(b2&&(n7||n8))=false:=by
  cases b2 with
  | false=>rfl
  | true=>rw[yw hx hs hR hO (by decide) h7 (.inr (u2 rfl)),yw hx hs hR hO (by decide) h8 (.inr (u2 rfl))];rfl
 have t12:lA (dg (aA iU 7 (ji .non))) (dg (aA iU 8 (ji .non))) (En (Zf S) (Zl [.int n]) (Zf cu) (Zs x) (Zf s) (Zf R) (Zf O) (Zf r7) (Zf r8) none none none) = .ok (n7||n8) (En (Zf S) (Zl [.int n]) (Zf cu) (Zs x) (Zf s) (Zf R) (Zf O) (Zf r7) (Zf r8) none none none):=
  orT (cU (bA rfl rfl rfl h7.1)) (cU (bA rfl rfl rfl h8.1))
 have t1:=jk.dZ (a:=dg (aq fY (Zv 2 (Zv 4 (Zv 5 ak))))) (cU (aF (ds:=[cu,s,R]) rfl v1)) t12;have t2:=jk.dZ (a:=dg (aq fY (Zv 2 (Zv 4 (Zv 6 ak))))) (cU (aF (ds:=[cu,s,O]) rfl u1)) t12;rw[z1] at t1;rw[z2] at t2;obtain⟨e1,f1,a9,a10,a11,rfl⟩:=Iv (g:=aj 9) (b:=qX) (λenv=>∃a9 a10 a11,env=En (Zf S) (Zl [.int n]) (Zf cu) (Zs x) (Zf s) (Zf R) (Zf O) (Zf r7) (Zf r8) a9 a10 a11) ((su x (most x)).map .str)
  (λd hd env ⟨a9,a10,a11,he⟩=>by
   subst he;obtain⟨w,hw,rfl⟩:=Qwy.mp hd;obtain⟨q1,q2⟩:=Jj.mp hw;obtain⟨c10,c11,hb⟩:=body hx hs hR hO h7 h8 q2 (by omega) (Zf S) (Zl [.int n]) (Zf cu) (Zs x) a10 a11;exact⟨_,_,rfl,hb,_,_,_,rfl⟩)
  (En (Zf S) (Zl [.int n]) (Zf cu) (Zs x) (Zf s) (Zf R) (Zf O) (Zf r7) (Zf r8) none none none) ⟨_,_,_,rfl⟩
 have fe:iH (aq jC (Zv 3 (aa (aP fD (cC (aa (Zi 6) (aa (Zi 6) (aa (Zi 5) (aa (Zi 4) (aa (Zi 3) ak)))))) (aq fW (aa (bh 3) ak))) ak))) (En (Zf S) (Zl [.int n]) (Zf cu) (Zs x) (Zf s) (Zf R) (Zf O) (Zf r7) (Zf r8) none none none) = .ok ((su x (most x)).map .str) (En (Zf S) (Zl [.int n]) (Zf cu) (Zs x) (Zf s) (Zf R) (Zf O) (Zf r7) (Zf r8) none none none):=by
  refine pQ (d:=.lst ((su x (most x)).map .str)) (aF (ds:=[.str x,.int (most x:Int)]) ?_ w3) rfl
  let E0:Ev.Env:=En (Zf S) (Zl [.int n]) (Zf cu) (Zs x) (Zf s) (Zf R) (Zf O) (Zf r7) (Zf r8) none none none
  refine aJ (e1:=E0) rfl (aJ ?_ bK);exact bH (x:=.lst [.int 6,.int 6,.int 5,.int 4,.int 3]) (y:=.int (x.length:Int)) (e1:=E0) rfl rfl w1
 have t3:cW (dg (aA iU 7 (ji .non))) (dg (aq gh (Zv 4 (Zv 6 (Zv 7 ak))))) (En (Zf S) (Zl [.int n]) (Zf cu) (Zs x) (Zf s) (Zf R) (Zf O) (Zf r7) (Zf r8) a9 a10 a11) = .ok false (En (Zf S) (Zl [.int n]) (Zf cu) (Zs x) (Zf s) (Zf R) (Zf O) (Zf r7) (Zf r8) a9 a10 a11):=by
  cases n7 with
  | false=>exact agI (cU (bA rfl rfl rfl h7.1))
  | true=>
   obtain⟨w,rfl,q1,q2,q3⟩:=h7.2.2.2 rfl;have k:=Gk hx hs hO (w:=dW s w) (wW q1) (by rw[Ao];omega);rw[jQ] at k;unfold W at q3;have q4:=beq_iff_eq.mp (Qzv.mp q3).2;rw[q4] at k;exact jk.dZ (p:=true) (q:=false) (cU (bA rfl rfl rfl h7.1)) (cU (aF (ds:=[s,O,.str (dW s w)]) rfl k))
 have t4:oG (aA Fy 8 (ji .non)) (aq gh (Zv 4 (Zv 6 (Zv 8 ak)))) (En (Zf S) (Zl [.int n]) (Zf cu) (Zs x) (Zf s) (Zf R) (Zf O) (Zf r7) (Zf r8) a9 a10 a11) = .ok (.bl true) (En (Zf S) (Zl [.int n]) (Zf cu) (Zs x) (Zf s) (Zf R) (Zf O) (Zf r7) (Zf r8) a9 a10 a11):=by
  cases n8 with
  | false=>exact Ue (bA rfl rfl rfl h8.2.1)
  | true=>
   obtain⟨w,rfl,q1,q2,q3⟩:=h8.2.2.2 rfl;have k:=Gk hx hs hO (w:=dW s w) (wW q1) (by rw[Ao];omega);rw[jQ] at k;unfold W at q3;have q4:=beq_iff_eq.mp (Qzv.mp q3).2;rw[q4] at k;exact(KZ (bA rfl rfl rfl h8.2.1)).trans (aF (ds:=[s,O,.str (dW s w)]) rfl k)
 refine⟨En (Zf S) (Zl [.int n]) (Zf cu) (Zs x) (Zf s) (Zf R) (Zf O) (Zf r7) (Zf r8) a9 a10 a11,?_⟩
 let E3:Ev.Env:=En (Zf S) (Zl [.int n]) (Zf cu) (Zs x) (Zf s) (Zf R) (Zf O) (Zf r7) none none none none
 refine(az (e:=E3) ?_).trans ?_
 ·exact bI (e:=En (Zf S) (Zl [.int n]) (Zf cu) (Zs x) (Zf s) (Zf R) (Zf O) none none none none none) (aF (ds:=[cu,s,R,O]) rfl k7) rfl
 let E1:Ev.Env:=En (Zf S) (Zl [.int n]) (Zf cu) (Zs x) (Zf s) (Zf R) (Zf O) (Zf r7) (Zf r8) none none none
 refine(az (e:=E1) ?_).trans ?_
 ·exact bI (e:=E3) (aF (ds:=[cu,s,R,O]) rfl k8) rfl
 refine(az (e:=E1) ?_).trans ?_
 ·exact(dU t1).trans rfl
 refine(az (e:=E1) ?_).trans ?_
 ·exact(dU t2).trans rfl
 let E2:Ev.Env:=En (Zf S) (Zl [.int n]) (Zf cu) (Zs x) (Zf s) (Zf R) (Zf O) (Zf r7) (Zf r8) a9 a10 a11
 refine(az (e:=E2) ?_).trans ?_
 ·exact(eU fe).trans f1
 refine(az (e:=E2) ?_).trans ?_
 ·exact(dU t3).trans rfl
 exact bD t4
end
theorem QS:∀ns:List Int,ns.length<=63->Qq ns->M9 [.arr (ns.map .int)]=some (.bl true):=by
 intro ns hl hb;obtain⟨p,hp⟩:=dG.pack ns hl hb 0 (by decide) (by decide);obtain⟨x,rows,n0,hx,h1,hr⟩:=iI.stock p;have h2:=iI.Kw hx hr;obtain⟨d,hd,e⟩:=dig n0 2 (by decide);obtain⟨s,hs,h3⟩:∃s,s∈sides/\fD (.lst [.str [108,101,102,116],.str [114,105,103,104,116]]) (.int (d:Int))=some s:=by
  have hc:d=0\/d=1:=by omega
  rcases hc with rfl|rfl
  ·exact⟨.str [108,101,102,116],Qqj ..,rfl⟩
  ·exact⟨.str [114,105,103,104,116],Qqq _ (Qqj ..),rfl⟩
 obtain⟨w1,ch1,l1,r1,n1,h4,k1⟩:=dG.rule (n0 / 2) x hx;obtain⟨w2,ch2,l2,r2,n2,h5,k2⟩:=dG.rule n1 x hx;have hR:cj x (.tup [w1,ch1,l1,r1]):=⟨_,_,_,_,rfl,k1⟩;have hO0:cj x (.tup [w2,ch2,l2,r2]):=⟨_,_,_,_,rfl,k2⟩;have h4':jx [.lst [.int (n0 / 2)],.str x]=some (.tup [w1,ch1,l1,r1],.lst [.int n1]):=h4;have h5':jx [.lst [.int n1],.str x]=some (.tup [w2,ch2,l2,r2],.lst [.int n2]):=h5;clear h4 h5;have hso:=iI.sounds_of hx hr;generalize D.tup [w1,ch1,l1,r1]=R at *;generalize D.tup [w2,ch2,l2,r2]=O0 at *;obtain⟨O,hO,h6⟩:∃O,cj x O/\eE (dg (aP rm (fP bu 1 (aa (Zi 4) ak)) (Zi 1))) (aQ (aM 5) (aj 6)) bV (En (Zf (.arr (ns.map .int))) (Zl [.int n2]) (Zf (.tup rows)) (Zs x) (Zf s) (Zf R) (Zf O0) none none none none none) = .nx (En (Zf (.arr (ns.map .int))) (Zl [.int (n2 / 4)]) (Zf (.tup rows)) (Zs x) (Zf s) (Zf R) (Zf O) none none none none none):=by
  have t:dg (aP rm (fP bu 1 (aa (Zi 4) ak)) (Zi 1)) (En (Zf (.arr (ns.map .int))) (Zl [.int n2]) (Zf (.tup rows)) (Zs x) (Zf s) (Zf R) (Zf O0) none none none none none) = .ok (decide (n2 % 4=1)) (En (Zf (.arr (ns.map .int))) (Zl [.int (n2 / 4)]) (Zf (.tup rows)) (Zs x) (Zf s) (Zf R) (Zf O0) none none none none none):=by
   refine cU (bH (x:=.int (n2 % 4)) (y:=.int 1) (e1:=En (Zf (.arr (ns.map .int))) (Zl [.int (n2 / 4)]) (Zf (.tup rows)) (Zs x) (Zf s) (Zf R) (Zf O0) none none none none none) ?_ rfl ?_)
   ·exact Ev.IK (x:=.lst [.int n2]) (ds:=[.int 4]) (e1:=En (Zf (.arr (ns.map .int))) (Zl [.int n2]) (Zf (.tup rows)) (Zs x) (Zf s) (Zf R) (Zf O0) none none none none none) rfl rfl rfl (iI.lQ _ 4 (by decide) (by decide))
   ·show some (D.bl (n2 % 4 == 1))=_
    rfl
  by_cases h:n2 % 4=1
  ·rw[Qw4 h] at t;exact⟨R,hR,(gf t).trans rfl⟩
  ·rw[Qwj h] at t;exact⟨O0,hO0,(dU t).trans rfl⟩
 obtain⟨e',hz⟩:=Tj (S:=.arr (ns.map .int)) (n:=n2 / 4) hx hs hR hO hso;refine bO (env:=e') ?_;unfold Za
 let E4:Ev.Env:=En (Zf (.arr (ns.map .int))) (Zl [.int p]) none none none none none none none none none none
 refine(az (e:=E4) (qu (d:=.lst [.int p]) (e:=En (Zf (.arr (ns.map .int))) none none none none none none none none none none none) (aF (ds:=[.arr (ns.map .int),.int 0]) rfl hp))).trans ?_
 let E3:Ev.Env:=En (Zf (.arr (ns.map .int))) (Zl [.int n0]) (Zf (.tup rows)) none none none none none none none none none
 refine(az (e:=E3) ?_).trans ?_
 ·exact bI (d:=.tup rows) (e:=En (Zf (.arr (ns.map .int))) (Zl [.int n0]) none none none none none none none none none none) (Ev.IK (x:=.lst [.int p]) (ds:=[]) (e1:=E4) rfl rfl rfl h1) rfl
 let E0:Ev.Env:=En (Zf (.arr (ns.map .int))) (Zl [.int n0]) (Zf (.tup rows)) (Zs x) none none none none none none none none
 refine(az (e:=E0) (bI (d:=.str x) (e:=E3) (aF (ds:=[.tup rows]) rfl h2) rfl)).trans ?_
 let E2:Ev.Env:=En (Zf (.arr (ns.map .int))) (Zl [.int (n0 / 2)]) (Zf (.tup rows)) (Zs x) (Zf s) none none none none none none none
 refine(az (e:=E2) ?_).trans ?_
 ·refine bI (d:=s) (e:=En (Zf (.arr (ns.map .int))) (Zl [.int (n0 / 2)]) (Zf (.tup rows)) (Zs x) none none none none none none none none) ?_ rfl;refine bH (x:=.lst [.str [108,101,102,116],.str [114,105,103,104,116]]) (y:=.int (n0 % 2)) (e1:=E0) rfl ?_ ?_
  ·exact Ev.IK (x:=.lst [.int n0]) (ds:=[.int 2]) (e1:=E0) rfl rfl rfl (iI.lQ _ 2 (by decide) (by decide))
  ·have:n0 % 2=(d:Int):=e;rw[this];exact h3
 let E1:Ev.Env:=En (Zf (.arr (ns.map .int))) (Zl [.int n1]) (Zf (.tup rows)) (Zs x) (Zf s) (Zf R) none none none none none none
 refine(az (e:=E1) ?_).trans ?_
 ·exact bI (d:=R) (e:=En (Zf (.arr (ns.map .int))) (Zl [.int n1]) (Zf (.tup rows)) (Zs x) (Zf s) none none none none none none none) (Ev.IK (x:=.lst [.int (n0 / 2)]) (ds:=[.str x]) (e1:=E2) rfl rfl rfl h4') rfl
 refine(az (e:=En (Zf (.arr (ns.map .int))) (Zl [.int n2]) (Zf (.tup rows)) (Zs x) (Zf s) (Zf R) (Zf O0) none none none none none) ?_).trans ?_
 ·exact bI (d:=O0) (e:=En (Zf (.arr (ns.map .int))) (Zl [.int n2]) (Zf (.tup rows)) (Zs x) (Zf s) (Zf R) none none none none none none) (Ev.IK (x:=.lst [.int n1]) (ds:=[.str x]) (e1:=E1) rfl rfl rfl h5') rfl
 exact(az h6).trans hz
open PySem PySem.Spec PyProof.Rows L2 Ev
theorem all_mk{P:Program}{w:World}{K:Fg}{h:Heap}{mg:Str->Option Value}{fa:Addr}(X:K.In h)(G:h.Ns mainGlobals mg)(hfa:mg "law" = some (.ref fa))
  {ZQ:Tok} {vV:Tok}
  (Qz:PySem.W.nsIn K mainGlobals "bool" = some none) (Qy:PySem.W.nsIn K mainGlobals "dict" = some none) (Gw:PySem.W.nsIn K mainGlobals "divmod" = some none) (xm:PySem.W.nsIn K mainGlobals "enumerate" = some none) (Yo:PySem.W.nsIn K mainGlobals "int" = some none) (ur:PySem.W.nsIn K mainGlobals "isinstance" = some none) (Yn:PySem.W.nsIn K mainGlobals "len" = some none) (Qx:PySem.W.nsIn K mainGlobals "list" = some none) (Lr:PySem.W.nsIn K mainGlobals "range" = some none) (Gv:PySem.W.nsIn K mainGlobals "sorted" = some none) (Lq:PySem.W.nsIn K mainGlobals "tuple" = some none) (Ym:PySem.W.nsIn K mainGlobals "zip" = some none) (qZ:∀d:D,PySem.W.kitOne K (.type (Vu d)) (.type "bool")=some (uW d "bool")) (uV:∀d:D,PySem.W.kitOne K (.type (Vu d)) (.type "int")=some (uW d "int")) (KD:PySem.W.nsIn K mainGlobals "EDGE" = some (some (.str "#" ZQ))) (km:PySem.W.nsIn K mainGlobals "MOST_STANDINGS" = some (some (.int 600 vV))) (xQ:FA K "sounds_of" qz) (rF:FA K "as_it_stands" mR) (Jm:FA K "turned" zm) (qi:FA K "reading_rules" lG) (Dw:FA K "puts_in" wu) (U0:FA K "fits" J9) (nY:FA K "read_putting_in" jK) (qj:FA K "read_changing" lH) (vD:FA K "read_signs" pB) (Ax:FA K "watch_on" tH) (xO:FA K "watch_end" qx) (qg:FA K "shortest_word" lF) (o6:FA K "first_standing" j9) (Dv:FA K "read_on" wk) (Ay:FA K "readings" tK) (xP:FA K "standings" qy) (kO:FC K "shortest_where" j7) (xR:FA K "makes_way" qC) (vC:FA K "takes_from" pA) (sV:FA K "with_put_in" oh) (rE:FA K "with_changes" mQ) (xZ:FA K "from_left" qJ) (Dy:FA K "changed" wA) (Bd:FA K "is_whole" tR) (Lg:FC K "acts" Ka) (xY:FA K "_law_mixed" qI) (Bb:FA K "_law_pack" tO) (Az:FA K "_law_take" tL) (xV:FA K "_law_stock" qF) (vG:FA K "_law_sounds" pC) (xW:FA K "_law_signs" qG) (sW:FA K "_law_changes" ou) (Ba:FA K "_law_rule" tM) (xU:FA K "_law_words" qD) (Bc:FA K "_law_acts" tQ) (xX:FA K "_law_never" qH) (Zg:FA K "law" Q8) (tne:((gU K "acts").2 == (gU K "shortest_where").2)=false) :
  (∀y∈tabs,∃cp,PySem.W.tabIn K y.1=some cp)/\∃fd:FuncData,(∀(s:Shared) (v:Value),BindsTo s fd ⟨[v],[]⟩ [("_law_script",v)])/\∀base:Heap,K.In base->base.Ns mainGlobals mg->(∀y∈tabs,BZ base mg (gU K y.1).1 (gU K y.1).2)->lX P w K mg base yc 10 fa fd ["_law_script"] (spT (lE K tabs) (lC K 1 M9)):=
 ⟨(λy hy=>by rcases Qq4.mp (show y ∈ [(("shortest_where" : Str),cX),(("acts" : Str),nu)] from hy) with rfl|hy;exact kO.tab;rcases Qq4.mp hy with rfl|hy;exact Lg.tab;cases hy),Zg.af3 X G hfa (λs v=>.of_eq rfl) λbase hB F=>abR ⟨yo X G Qz,
  yo X G Qy,
  yo X G Gw,
  yo X G xm,
  yo X G Yo,
  yo X G ur,
  yo X G Yn,
  yo X G Qx,
  yo X G Lr,
  yo X G Gv,
  yo X G Lq,
  yo X G Ym,
  qZ,
  uV,
  Xk X G KD (by decide +kernel) (by decide),
  Xl X G km,
  tne,
  xQ.at X G (fun|[_],_=>rfl),
  rF.at X G (fun|[_,_],_=>rfl),
  Jm.at X G (fun|[_],_=>rfl),
  qi.at X G (fun|[_],_=>rfl),
  Dw.at X G (fun|[_],_=>rfl),
  U0.at X G (fun|[_,_],_=>rfl),
  nY.at X G (fun|[_,_,_],_=>rfl),
  qj.at X G (fun|[_,_,_],_=>rfl),
  vD.at X G (fun|[_,_,_],_=>rfl),
  Ax.at X G (fun|[_,_,_],_=>rfl),
  xO.at X G (fun|[_,_],_=>rfl),
  qg.at X G (fun|[_,_,_,_,_],_=>rfl),
  o6.at X G (fun|[_],_=>rfl),
  Dv.at X G (fun|[_,_,_],_=>rfl),
  Ay.at X G (fun|[_,_],_=>rfl),
  xP.at X G (fun|[_,_],_=>rfl),
  kO.at X G (fun|[_,_,_,_,_,_],_=>rfl),
  xR.at X G (fun|[_,_,_,_],_=>rfl),
  vC.at X G (fun|[_,_,_,_],_=>rfl),
  sV.at X G (fun|[_,_],_=>rfl),
  rE.at X G (fun|[_,_],_=>rfl),
  xZ.at X G (fun|[_,_],_=>rfl),
  Dy.at X G (fun|[_,_,_],_=>rfl),
  Bd.at X G (fun|[_],_=>rfl),
  Lg.at X G (fun|[_,_,_],_=>rfl),
  xY.at X G (fun|[_],_=>rfl),
  Bb.at X G (fun|[_,_],_=>rfl),
  Az.at X G (fun|[_,_],_=>rfl),
  xV.at X G (fun|[_],_=>rfl),
  vG.at X G (fun|[_],_=>rfl),
  xW.at X G (fun|[_,_],_=>rfl),
  sW.at X G (fun|[_,_],_=>rfl),
  Ba.at X G (fun|[_,_],_=>rfl),
  xU.at X G (fun|[_,_],_=>rfl),
  Bc.at X G (fun|[_,_,_],_=>rfl),
  xX.at X G (fun|[_,_,_],_=>rfl)⟩ hB F⟩
end jH
theorem PySem.W.Fast.tw4460351275592434524:True:=trivial
theorem PySem.W.Fast.tw4761464803061996469:True:=trivial
theorem PySem.W.Fast.tw12068162071545515525:True:=trivial
theorem PySem.W.Fast.tw1461243998777051809:True:=trivial
theorem PySem.W.Fast.tw9311119658311031861:True:=trivial
theorem PySem.W.Fast.tw8135588034888158176:True:=trivial
theorem PySem.W.Fast.tw16631252992845879640:True:=trivial
theorem PySem.W.Fast.tw13122196140021475606:True:=trivial
theorem PySem.W.Fast.tw940814063998481660:True:=trivial
theorem PySem.W.Fast.tw13013209683621786045:True:=trivial
theorem PySem.W.Fast.tw9172389637572537158:True:=trivial
theorem PySem.W.Fast.tw45179994475644150:True:=trivial
theorem PySem.W.Fast.tw15315161631206828899:True:=trivial
theorem PySem.W.Fast.tw7376025670817579478:True:=trivial
theorem PySem.W.Fast.tw1619926198256258369:True:=trivial
theorem PySem.W.Fast.tw720998903765915071:True:=trivial
theorem PySem.W.Fast.tw13408129258532235978:True:=trivial
theorem PySem.W.Fast.tw13886513852928962461:True:=trivial
theorem PySem.W.Fast.tw6434638990807944404:True:=trivial
theorem PySem.W.Fast.tw2902461248642114275:True:=trivial
theorem PySem.W.Fast.tw13195020218819832815:True:=trivial
theorem PySem.W.Fast.tw7927285493349163964:True:=trivial
theorem PySem.W.Fast.tw11692813418306861898:True:=trivial
theorem PySem.W.Fast.tw5146263359152647010:True:=trivial
theorem PySem.W.Fast.tw10469459837527344753:True:=trivial
theorem PySem.W.Fast.tw16478199551143336562:True:=trivial
theorem PySem.W.Fast.tw5316820448767388822:True:=trivial
theorem PySem.W.Fast.tw4079138763950493234:True:=trivial
theorem PySem.W.Fast.tw605459428569351153:True:=trivial
theorem PySem.W.Fast.tw16143423570712995994:True:=trivial
theorem PySem.W.Fast.tw2465124694774577808:True:=trivial
theorem PySem.W.Fast.tw8566883887767265192:True:=trivial
theorem PySem.W.Fast.tw7973378753026740281:True:=trivial
theorem PySem.W.Fast.tw9614122130580072181:True:=trivial
theorem PySem.W.Fast.tw11431671037954033451:True:=trivial
theorem PySem.W.Fast.tw2363765566674336367:True:=trivial
theorem PySem.W.Fast.tw3463166194163555297:True:=trivial
theorem PySem.W.Fast.tw5996942162259955026:True:=trivial
theorem PySem.W.Fast.tw565550726208949288:True:=trivial
theorem PySem.W.Fast.tw5401004525420190414:True:=trivial
theorem PySem.W.Fast.tw12861614214204691509:True:=trivial
theorem PySem.W.Fast.tw3421106561939358060:True:=trivial
theorem PySem.W.Fast.tw3759014505691652935:True:=trivial
theorem PySem.W.Fast.tw310890038921423496:True:=trivial
theorem PySem.W.Fast.tw10431236131703724650:True:=trivial
theorem PySem.W.Fast.tw5759543666179339087:True:=trivial
theorem PySem.W.Fast.tw14176950390600444748:True:=trivial
theorem PySem.W.Fast.tw15569452465574678544:True:=trivial
theorem PySem.W.Fast.tw16048336379050800964:True:=trivial
theorem PySem.W.Fast.tw12632408043974246155:True:=trivial
open PySem PySem.W PyProof.Rows
set_option maxRecDepth 100000 in
set_option maxHeartbeats 0 in
theorem PySem.Challenge.cw_soundrules_k39_whole_neither_way_nor_tak_holds : PySem.Challenge.rw_soundrules_k39_whole_neither_way_nor_tak.Holds := by
 w_on;o_law;k_head;(case hw=>w_witness2)
 k_fill
 refine Ev.ZC (l:=PySem.Challenge.rw_soundrules_k39_whole_neither_way_nor_tak) (k:=10) (x:="_law_script") (f:=jH.M9) jH.tabs rfl (by decide) rfl ⟨rfl,by decide,by decide⟩ (λw h Y=>PySem.W.km_in_of Y) jH.QS (λw=>by kernel_rfl) (λy hy=>by rcases Qq4.mp (show y ∈ [(("shortest_where" : Str),jH.cX),(("acts" : Str),jH.nu)] from hy) with rfl|hy;exact⟨_,rfl⟩;rcases Qq4.mp hy with rfl|hy;exact⟨_,rfl⟩;cases hy) ?F
 case F=>
  intro w mg fa h KX G hmg
  refine' jH.all_mk KX G hmg ?Qz ?Qy ?Gw ?xm ?Yo ?ur ?Yn ?Qx ?Lr ?Gv ?Lq ?Ym ?qZ ?uV ?KD ?km ?xQ ?rF ?Jm ?qi ?Dw ?U0 ?nY ?qj ?vD ?Ax ?xO ?qg ?o6 ?Dv ?Ay ?xP ?kO ?xR ?vC ?sV ?rE ?xZ ?Dy ?Bd ?Lg ?xY ?Bb ?Az ?xV ?vG ?xW ?sW ?Ba ?xU ?Bc ?xX ?Zg ?tne
  (case qZ=>(intro d;cases d with|clo=>(show PySem.W.kitOne _ (.type "NoneType") (.type "bool")=some false;kit_is)|non=>(show PySem.W.kitOne _ (.type "NoneType") (.type "bool")=some false;kit_is)|bl=>(show PySem.W.kitOne _ (.type "bool") (.type "bool")=some true;kit_is)|int=>(show PySem.W.kitOne _ (.type "int") (.type "bool")=some false;kit_is)|str=>(show PySem.W.kitOne _ (.type "str") (.type "bool")=some false;kit_is)|tup=>(show PySem.W.kitOne _ (.type "tuple") (.type "bool")=some false;kit_is)|lst=>(show PySem.W.kitOne _ (.type "list") (.type "bool")=some false;kit_is)|arr=>(show PySem.W.kitOne _ (.type "list") (.type "bool")=some false;kit_is)|dct=>(show PySem.W.kitOne _ (.type "dict") (.type "bool")=some false;kit_is)|iz=>(show PySem.W.kitOne _ (.type "dict") (.type "bool")=some false;kit_is)))
  (case uV=>(intro d;cases d with|clo=>(show PySem.W.kitOne _ (.type "NoneType") (.type "int")=some false;kit_is)|non=>(show PySem.W.kitOne _ (.type "NoneType") (.type "int")=some false;kit_is)|bl=>(show PySem.W.kitOne _ (.type "bool") (.type "int")=some true;kit_is)|int=>(show PySem.W.kitOne _ (.type "int") (.type "int")=some true;kit_is)|str=>(show PySem.W.kitOne _ (.type "str") (.type "int")=some false;kit_is)|tup=>(show PySem.W.kitOne _ (.type "tuple") (.type "int")=some false;kit_is)|lst=>(show PySem.W.kitOne _ (.type "list") (.type "int")=some false;kit_is)|arr=>(show PySem.W.kitOne _ (.type "list") (.type "int")=some false;kit_is)|dct=>(show PySem.W.kitOne _ (.type "dict") (.type "int")=some false;kit_is)|iz=>(show PySem.W.kitOne _ (.type "dict") (.type "int")=some false;kit_is)))
  (case KD=>k_is)
  (case km=>k_is)
  (case tne=>kernel_rfl)
  all_goals first|k_is|(refine' Ev.FA.mk ?a ?l ?c ?k;(case a=>k_is);(case l=>k_is);(case c=>k_is);(case k=>k_is))|(refine' Ev.FC.mk ?a ?l ?c ?k ?lc ?v;(case a=>k_is);(case l=>k_is);(case c=>k_is);(case k=>k_is);(case lc=>k_is);(case v=>exact rfl))
