import PyProof.Rows.All
import Wide.All
import OpenK.AllK
import Wide.FinOn
import Lean
import PyProof.EqAt
import PyProof.EqKinds
import PyProof.TupleCall
import PyProof.TupleKey
import PyProof.DictRoadsH
import PyProof.FactsAll.bool_1
import PyProof.AttrMissHeap
import KE.KDictOf
import PyProof.ListMulRoad
import PyProof.FactsAll.tuple_2
import KE.KSortTup
import PyProof.TupleOfSeq
import PyProof.Rows.SortRuns
import PyProof.ListRange
import PyProof.DictTable
import PyProof.Rows.TupTab
import PyProof.FactsAll.range_1
import KE.KDictList
import PyProof.SetRoads
import PyProof.DictTruth
import PyProof.RulesTry
import KE.KIsAll
import KE.KTryDeep
import PyProof.ExcArgsOwn
import PyProof.ExcAttrAll.ValueError
import PyProof.InstStoreFacts
import PyProof.ExcInit
import PyProof.SumAnyB
import PySem.Challenge.RW_soundrules_k72_stocks_written
noncomputable section
set_option Elab.async false
set_option linter.all false
set_option maxRecDepth 100000
set_option maxHeartbeats 4000000
theorem Qqq:type_of% @PySem.wpAny_bind:=@PySem.wpAny_bind
theorem Qqx:type_of% @List.length_map:=@List.length_map
theorem Qqz:type_of% @PySem.Heap.get?_push_of_some:=@PySem.Heap.get?_push_of_some
theorem Qqj:type_of% @List.length_append:=@List.length_append
theorem Qqk:type_of% @List.length_cons:=@List.length_cons
theorem Qqv:type_of% @PySem.wpAny_pure:=@PySem.wpAny_pure
theorem Qqw:type_of% @List.getElem?_set_ne:=@List.getElem?_set_ne
theorem Qqy:type_of% @Nat.le_refl:=@Nat.le_refl
theorem Qq0:type_of% @List.length_nil:=@List.length_nil
theorem Qq1:type_of% @List.size_toArray:=@List.size_toArray
theorem Qq2:type_of% @Nat.le_trans:=@Nat.le_trans
theorem Qq3:type_of% @List.mem_cons_self:=@List.mem_cons_self
theorem Qq4:type_of% @List.mem_cons_of_mem:=@List.mem_cons_of_mem
theorem Qq5:type_of% @PySem.Heap.get?_push_size:=@PySem.Heap.get?_push_size
theorem Qq6:type_of% @List.getElem?_eq_some_iff:=@List.getElem?_eq_some_iff
theorem Qq7:type_of% @PySem.Heap.lt_size:=@PySem.Heap.lt_size
theorem Qq8:type_of% @List.getElem?_set_self:=@List.getElem?_set_self
theorem Qq9:type_of% @List.map_cons:=@List.map_cons
theorem Qwq:type_of% @List.mem_cons:=@List.mem_cons
theorem Qwx:type_of% @Nat.lt_of_lt_of_le:=@Nat.lt_of_lt_of_le
theorem Qwz:type_of% @Nat.ne_of_lt:=@Nat.ne_of_lt
theorem Qwj:type_of% @decide_eq_false:=@decide_eq_false
theorem Qwk:type_of% @List.all_eq_true:=@List.all_eq_true
theorem Qwv:type_of% @Bool.and_eq_true:=@Bool.and_eq_true
theorem Qww:type_of% @Option.some.injEq:=@Option.some.injEq
theorem Qwy:type_of% @List.length_set:=@List.length_set
theorem Qw0:type_of% @Option.map_eq_some_iff:=@Option.map_eq_some_iff
theorem Qw1:type_of% @List.cons_append:=@List.cons_append
theorem Qw2:type_of% @of_decide_eq_true:=@of_decide_eq_true
theorem Qw3:type_of% @List.nil_append:=@List.nil_append
theorem Qw4:type_of% @decide_eq_true:=@decide_eq_true
theorem Qw5:type_of% @List.getElem?_append_left:=@List.getElem?_append_left
theorem Qw6:type_of% @PySem.wpAny_mono:=@PySem.wpAny_mono
theorem Qw7:type_of% @List.mem_append_right:=@List.mem_append_right
theorem Qw8:type_of% @List.getElem?_map:=@List.getElem?_map
theorem Qw9:type_of% @List.length_take:=@List.length_take
theorem Qxq:type_of% @Option.some.inj:=@Option.some.inj
theorem Qxx:type_of% @List.append_nil:=@List.append_nil
theorem Qxz:type_of% @List.map_append:=@List.map_append
theorem Qxj:type_of% @PySem.wpAny_newObj_type:=@PySem.wpAny_newObj_type
theorem Qxk:type_of% @Bool.false_ne_true:=@Bool.false_ne_true
theorem Qxv:type_of% @List.mem_map:=@List.mem_map
theorem Qxw:type_of% @List.getElem?_append_right:=@List.getElem?_append_right
theorem Qxy:type_of% @List.lookup_cons:=@List.lookup_cons
theorem Qx0:type_of% @List.append_assoc:=@List.append_assoc
theorem Qx1:type_of% @List.mem_range:=@List.mem_range
theorem Qx2:type_of% @List.mem_singleton:=@List.mem_singleton
theorem Qx3:type_of% @List.getElem?_eq_getElem:=@List.getElem?_eq_getElem
theorem Qx4:type_of% @List.length_replicate:=@List.length_replicate
theorem Qx5:type_of% @Option.bind_eq_some_iff:=@Option.bind_eq_some_iff
theorem Qx6:type_of% @PySem.wpAny_holding:=@PySem.wpAny_holding
theorem Qx7:type_of% @List.pairwise_cons:=@List.pairwise_cons
theorem Qx8:type_of% @List.length_drop:=@List.length_drop
theorem Qx9:type_of% @Nat.lt_irrefl:=@Nat.lt_irrefl
theorem Qzq:type_of% @List.filterMap_cons:=@List.filterMap_cons
theorem Qzx:type_of% @List.map_nil:=@List.map_nil
theorem Qzz:type_of% @List.mem_append:=@List.mem_append
theorem Qzj:type_of% @List.getElem?_replicate:=@List.getElem?_replicate
theorem Qzk:type_of% @List.foldl_cons:=@List.foldl_cons
theorem Qzv:type_of% @PySem.wpAny_call_entry:=@PySem.wpAny_call_entry
theorem Qzw:type_of% @Array.length_toList:=@Array.length_toList
theorem Qzy:type_of% @PyProof.Rows.slot_tuple_getitem:=@PyProof.Rows.slot_tuple_getitem
theorem Qz0:type_of% @Nat.lt_succ_of_lt:=@Nat.lt_succ_of_lt
theorem Qz1:type_of% @PySem.wpAny_truthy_bool:=@PySem.wpAny_truthy_bool
theorem Qz2:type_of% @List.drop_eq_getElem_cons:=@List.drop_eq_getElem_cons
theorem Qz3:type_of% @List.getElem?_eq_none:=@List.getElem?_eq_none
theorem Qz4:type_of% @Option.isSome_iff_exists:=@Option.isSome_iff_exists
theorem Qz5:type_of% @List.getElem?_take_of_lt:=@List.getElem?_take_of_lt
theorem Qz6:type_of% @List.eq_nil_of_length_eq_zero:=@List.eq_nil_of_length_eq_zero
theorem Qz7:type_of% @List.map_map:=@List.map_map
theorem Qz8:type_of% @PySem.Heap.size_push:=@PySem.Heap.size_push
theorem Qz9:type_of% @Nat.zero_le:=@Nat.zero_le
theorem Qjq:type_of% @PyProof.Rows.callWith_type1:=@PyProof.Rows.callWith_type1
theorem Qjx:type_of% @Bool.eq_iff_iff:=@Bool.eq_iff_iff
theorem Qjz:type_of% @List.take_of_length_le:=@List.take_of_length_le
theorem Qjj:type_of% @List.getD_eq_getElem?_getD:=@List.getD_eq_getElem?_getD
theorem Qjk:type_of% @PySem.wpAny_setField_rec:=@PySem.wpAny_setField_rec
theorem Qjv:type_of% @Nat.le_of_ble_eq_true:=@Nat.le_of_ble_eq_true
theorem Qjw:type_of% @Nat.le_of_lt:=@Nat.le_of_lt
theorem Qjy:type_of% @Bool.and_eq_true_iff:=@Bool.and_eq_true_iff
theorem Qj0:type_of% @PySem.codeAny_builtin:=@PySem.codeAny_builtin
theorem Qj1:type_of% @Nat.le_of_succ_le:=@Nat.le_of_succ_le
theorem Qj2:type_of% @Nat.ne_of_gt:=@Nat.ne_of_gt
theorem Qj3:type_of% @List.map_congr_left:=@List.map_congr_left
theorem Qj4:type_of% @PySem.mem_of_lookup:=@PySem.mem_of_lookup
theorem Qj5:type_of% @List.not_mem_nil:=@List.not_mem_nil
theorem Qj6:type_of% @List.nodup_cons:=@List.nodup_cons
theorem Qj7:type_of% @PySem.sizeLine_eq:=@PySem.sizeLine_eq
theorem Qj8:type_of% @PySem.codeAny_mono:=@PySem.codeAny_mono
theorem Qj9:type_of% @Int.toNat_natCast:=@Int.toNat_natCast
theorem Qkq:type_of% @PySem.W.mg_of:=@PySem.W.mg_of
theorem Qkx:type_of% @Nat.le_succ:=@Nat.le_succ
theorem Qkz:type_of% @congrArg:=@congrArg
abbrev nDb(x:PySem.Str):Prop:=(x == ("__debug__" : PySem.Str))=false
abbrev nCd(x:PySem.Str):Prop:=(x == ("__classdict__" : PySem.Str))=false
open PySem PySem.Spec PyProof.Rows in
abbrev sEn(e:Expr)(E:PySem.Env):Prop:=starEach [e] E=(false,eval e E)::starEach [] E
namespace L2
open PySem PySem.Spec PyProof.Rows
inductive NK where
 | num (i:Int)
 | txt (x:Str)
 | tup (xs:List NK)
noncomputable instance:DecidableEq NK:=λ_ _=>Classical.propDecidable _
mutual
def IsN(h:Heap):NK->Value->Prop
 | .num i,v=>(∃t,v = .int i t)\/∃b:Bool,v = .bool b/\i=if b then 1 else 0
 | .txt x,v=>∃t,v = .str x t
 | .tup ks,v=>∃a o items n,v = .ref a/\h.get? a=some o/\o.cls = .type "tuple"/\o.data = .seq items n/\IsNs h ks items.toList
def IsNs(h:Heap):List NK->List Value->Prop
 | [],vs=>vs=[]
 | k::ks,vs=>∃v r,vs=v::r/\IsN h k v/\IsNs h ks r
end
mutual
def NK.dep:NK->Nat
 | .num _=>0
 | .txt _=>0
 | .tup ks=>1+NK.deps ks
def NK.deps:List NK->Nat
 | []=>0
 | k::ks=>max (NK.dep k) (NK.deps ks)
end
mutual
def NK.draws:NK->Nat
 | .num _=>1
 | .txt _=>1
 | .tup ks=>NK.drawss ks+1
def NK.drawss:List NK->Nat
 | []=>0
 | k::ks=>NK.draws k+NK.drawss ks
end
section
variable(P:Program)(w:World)
mutual
def NK.hash:NK->Int
 | .num i=>hashInt i
 | .txt x=>(strKind P w).hash x
 | .tup ks=>reduceHash (Builtin.Tuple.tupleHashOf (NK.hashes ks))
def NK.hashes:List NK->List Int
 | []=>[]
 | k::ks=>NK.hash k::NK.hashes ks
end
end
theorem IsNs.length{h:Heap}:∀{ks:List NK} {vs:List Value},IsNs h ks vs->vs.length=ks.length
 | [],_,e=>by cases e;rfl
 | k::ks,_,e=>by obtain⟨v,r,rfl,_,q⟩:=e;rw[Qqk,Qqk,q.length]
theorem IsNs.get{h:Heap}:∀{ks:List NK} {vs:List Value} {j:Nat} {v:Value},IsNs h ks vs->vs[j]? = some v->∃k,ks[j]? = some k/\IsN h k v
 | [],_,_,_,e,g=>by cases e;simp at g
 | k::ks,_,j,v,e,g=>by
  obtain⟨u,r,rfl,h1,h2⟩:=e;cases j with
  | zero=>simp at g;subst g;exact⟨k,rfl,h1⟩
  | succ j=>obtain⟨k',e1,e2⟩:=IsNs.get h2 (j:=j) (by simpa using g);exact⟨k',by simpa using e1,e2⟩
theorem NK.deps_mem:∀{ks:List NK} {j:Nat} {k:NK},ks[j]? = some k->k.dep<=NK.deps ks
 | [],_,_,e=>by simp at e
 | c::ks,j,k,e=>by
  unfold NK.deps;cases j with
  | zero=>simp at e;subst e;exact Nat.le_max_left _ _
  | succ j=>exact Qq2 (NK.deps_mem (j:=j) (by simpa using e)) (Nat.le_max_right _ _)
mutual
theorem IsN.inj{h:Heap}:∀{x y:NK} {v:Value},IsN h x v->IsN h y v->x=y
 | .num i,.num j,v,a,b=>by
  rcases a with ⟨t,rfl⟩|⟨c,rfl,rfl⟩
  ·rcases b with ⟨t',e⟩|⟨c,e,_⟩
   ·cases e;rfl
   ·cases e
  ·rcases b with ⟨t',e⟩|⟨c,e,rfl⟩
   ·cases e
   ·cases e;rfl
 | .num i,.txt x,v,a,b=>by obtain⟨t,rfl⟩:=b;rcases a with ⟨t',e⟩|⟨c,e,_⟩<;>cases e
 | .num i,.tup ks,v,a,b=>by obtain⟨_,_,_,_,rfl,_⟩:=b;rcases a with ⟨t',e⟩|⟨c,e,_⟩<;>cases e
 | .txt x,.num i,v,a,b=>by obtain⟨t,rfl⟩:=a;rcases b with ⟨t',e⟩|⟨c,e,_⟩<;>cases e
 | .txt x,.txt y,v,a,b=>by obtain⟨t,rfl⟩:=a;obtain⟨t',e⟩:=b;cases e;rfl
 | .txt x,.tup ks,v,a,b=>by obtain⟨t,rfl⟩:=a;obtain⟨_,_,_,_,e,_⟩:=b;cases e
 | .tup ks,.num i,v,a,b=>by obtain⟨_,_,_,_,rfl,_⟩:=a;rcases b with ⟨t',e⟩|⟨c,e,_⟩<;>cases e
 | .tup ks,.txt y,v,a,b=>by obtain⟨_,_,_,_,rfl,_⟩:=a;obtain⟨t',e⟩:=b;cases e
 | .tup ks,.tup ls,v,a,b=>by
  obtain⟨p,o,items,n,rfl,h1,_,h3,h4⟩:=a;obtain⟨p',o',items',n',e,h1',_,h3',h4'⟩:=b;cases e;rw[h1] at h1';cases h1';rw[h3] at h3';cases h3';rw[IsNs.inj h4 h4']
theorem IsNs.inj{h:Heap}:∀{x y:List NK} {v:List Value},IsNs h x v->IsNs h y v->x=y
 | [],[],_,_,_=>rfl
 | [],k::ks,_,a,b=>by cases a;obtain⟨_,_,e,_⟩:=b;cases e
 | k::ks,[],_,a,b=>by cases b;obtain⟨_,_,e,_⟩:=a;cases e
 | k::ks,l::ls,_,a,b=>by
  obtain⟨v,r,rfl,h1,h2⟩:=a;obtain⟨v',r',e,h1',h2'⟩:=b;cases e;rw[IsN.inj h1 h1',IsNs.inj h2 h2']
end
mutual
theorem IsN.keeps{h h':Heap}{d:Addr}{o:Obj}{es ep}(ho:h.get? d=some o)(hd:o.data = .dict es ep)(hs:Heap.SameBut d h h'):∀{k:NK} {v:Value},IsN h k v->IsN h' k v
 | .num _,_,e=>e
 | .txt _,_,e=>e
 | .tup ks,_,e=>by
  obtain⟨a,o',items,n,rfl,h1,h2,h3,h4⟩:=e;have hne:a≠d:=by rintro rfl;rw[h1] at ho;cases ho;rw[h3] at hd;cases hd
  exact⟨a,o',items,n,rfl,(hs.2 a hne).trans h1,h2,h3,IsNs.keeps ho hd hs h4⟩
theorem IsNs.keeps{h h':Heap}{d:Addr}{o:Obj}{es ep}(ho:h.get? d=some o)(hd:o.data = .dict es ep)(hs:Heap.SameBut d h h'):∀{ks:List NK} {vs:List Value},IsNs h ks vs->IsNs h' ks vs
 | [],_,e=>e
 | k::ks,_,e=>by obtain⟨v,r,rfl,h1,h2⟩:=e;exact⟨v,r,rfl,IsN.keeps ho hd hs h1,IsNs.keeps ho hd hs h2⟩
end
section
variable{P:Program}{w:World}
theorem hash_bool{A:Around}{E:Value->Shared->Prop}{s:Shared}{b:Bool}{Q:Int->Shared->Prop}(h:Q (hashInt (if b then 1 else 0)) { s with toks:=s.toks+1 }):wpAny (model P w) A (pyHash (.bool b)) Q E s:=by
 have hT:s.TypeIs (.bool b) "bool":=rfl;have hr:=rawHash_range (if b then 1 else 0);unfold pyHash;have hv:[Value.bool b].any Value.onHeap=false:=rfl;refine Qqq ?_;rw[cRoomFor,if_neg (by rw[hv];exact Qxk)];refine Qqv ?_;refine Qqq (wpAny_specialOf hT F.slot_bool_hash.lookup ?_);show wpAny _ _ (if (some (Value.builtin "int.__hash__") == some Value.none)=true then _ else _) Q E s;rw[if_neg (by rw[beq_builtin_none];exact Qxk)];refine Qqq (wpAny_specialOf hT F.slot_bool_hash.lookup ?_);show wpAny _ _ (callSpecialIfBoundUnlessNone? (.bool b) "__hash__" _ >>= _) Q E s;refine Qqq (wpAny_callSpecialIfBoundUnlessNone?_slot hT F.slot_bool_hash
  (Qzv F.slot_bool_hash hT entry_int_hash
   (show wpAny _ _ (do ret (<-mkInt (rawHash (if b then 1 else 0)))) _ _ s from wpAny_ret_mkInt ?_) (args_int_hash _)))
 show wpAny _ _ (if (decide (-(2:Int)^63<=rawHash (if b then 1 else 0))&&decide (rawHash (if b then 1 else 0)<2^63))=true then _ else _) Q E _;rw[if_pos (by rw[Qw4 hr.1,Qw4 hr.2];rfl)];exact Qqv h
mutual
theorem n_hash:∀(k:NK) (v:Value) (A:Around) (E:Value->Shared->Prop) (s:Shared) (Q:Int->Shared->Prop),A.units+k.dep<cLine->IsN s.heap k v->Q (k.hash P w) { s with toks:=s.toks+k.draws }->wpAny (model P w) A (pyHash v) Q E s
 | .num i,v,A,E,s,Q,hu,e,h=>by
  rcases e with ⟨t,rfl⟩|⟨b,rfl,rfl⟩
  ·exact wpAny_pyHash_int h
  ·exact hash_bool h
 | .txt x,v,A,E,s,Q,hu,e,h=>by
  obtain⟨t,rfl⟩:=e;exact wpAny_pyHash_str h
 | .tup ks,v,A,E,s,Q,hu,e,h=>by
  obtain⟨a,o,items,n,rfl,ho,hc,hd,hi⟩:=e;have hT:s.TypeIs (.ref a) "tuple":=⟨o,ho,hc⟩;have hdep:(NK.tup ks).dep=1+NK.deps ks:=by rw[NK.dep]
  rw[hdep] at hu;have hu0:A.units<cLine:=by omega
  have hin:A.in1.units+NK.deps ks<cLine:=by show A.units+1+NK.deps ks<cLine;omega
  unfold pyHash
  first|unfold pyHashByItsType|skip
  first|refine Qqq (wpAny_cRoomFor_or (.inr hu0) ?_)|skip
  refine Qqq (wpAny_specialOf hT F.slot_tuple_hash.lookup ?_);show wpAny _ _ (if (some (Value.builtin "tuple.__hash__") == some Value.none)=true then _ else _) Q E s;rw[if_neg (by rw[beq_builtin_none];exact Qxk)];refine Qqq (wpAny_specialOf hT F.slot_tuple_hash.lookup ?_);show wpAny _ _ (callSpecialIfBoundUnlessNone? (.ref a) "__hash__" _ >>= _) Q E s;refine Qqq (wpAny_callSpecialIfBoundUnlessNone?_slot hT F.slot_tuple_hash (Qzv F.slot_tuple_hash hT F.entry_tuple_hash ?_ (F.args_tuple_hash_1 _)));show wpAny _ _ (Builtin.Tuple.tupleItemsOf (.ref a) >>= _) _ _ s;refine Qqq (wpAny_tupleItemsOf ho hd ?_);refine Qqq ?_;rw[<-Array.forIn_toList];refine n_hashes ks items.toList A.in1 _ s _ _ #[] hin hi (λx b s' R q=>?_) ?_
  ·first
    | exact Qqq (Qw6 q (λz s2 hz=>Qqv hz) λ_ _ z=>z)
    | exact Qqq (Qw6 q (λz s2 hz=>Qqq (Qqv (Qqv hz))) λ_ _ z=>z)
  ·show wpAny _ _ (retInt (Builtin.Tuple.tupleHashOf ((#[]:Array Int).toList++NK.hashes P w ks))) _ _ _;have hh:(NK.tup ks).hash P w=reduceHash (Builtin.Tuple.tupleHashOf (NK.hashes P w ks)):=by rw[NK.hash]
   have hdr:(NK.tup ks).draws=NK.drawss ks+1:=by rw[NK.draws]
   rw[hh,hdr] at h;rw[show(#[]:Array Int).toList++NK.hashes P w ks=NK.hashes P w ks from rfl];refine wpAny_ret_mkInt ?_;show wpAny _ _ (if (decide (-(2:Int)^63<=Builtin.Tuple.tupleHashOf (NK.hashes P w ks))&&decide (Builtin.Tuple.tupleHashOf (NK.hashes P w ks)<2^63))=true then _ else _) Q E _;unfold reduceHash at h;by_cases hr:(decide (-(2:Int)^63<=Builtin.Tuple.tupleHashOf (NK.hashes P w ks))&&decide (Builtin.Tuple.tupleHashOf (NK.hashes P w ks)<2^63))=true
   ·rw[if_pos hr];rw[if_pos hr] at h;exact Qqv (by simpa[Nat.add_assoc] using h)
   ·rw[if_neg hr];rw[if_neg hr] at h;exact Qqq (wpAny_rule (Qqv (by simpa[Nat.add_assoc] using h)))
theorem n_hashes:∀(ks:List NK) (vs:List Value) (A:Around) (E:Value->Shared->Prop) (s:Shared) (body:Value->Array Int->Sem (ForInStep (Array Int))) (Q:Array Int->Shared->Prop) (acc:Array Int),A.units+NK.deps ks<cLine->IsNs s.heap ks vs->
  (∀x b s' (R:ForInStep (Array Int)->Shared->Prop),wpAny (model P w) A (pyHash x) (λz s2=>R (.yield (b.push z)) s2) E s'->wpAny (model P w) A (body x b) R E s')->
  Q (acc.toList++NK.hashes P w ks).toArray { s with toks:=s.toks+NK.drawss ks }->wpAny (model P w) A (forIn vs acc body) Q E s
 | [],vs,A,E,s,body,Q,acc,hu,e,hb,q=>by
  cases e;rw[List.forIn_nil];refine Qqv ?_;have:(acc.toList++NK.hashes P w []).toArray=acc:=by rw[NK.hashes];simp
  rw[this] at q;have e0:NK.drawss []=0:=by rw[NK.drawss]
  rw[e0] at q;exact q
 | k::ks,vs,A,E,s,body,Q,acc,hu,e,hb,q=>by
  obtain⟨v,r,rfl,h1,h2⟩:=e;have hdep:NK.deps (k::ks)=max k.dep (NK.deps ks):=by rw[NK.deps]
  rw[hdep] at hu;rw[List.forIn_cons];refine Qqq (hb v acc s _ (n_hash k v A E s _ (by omega) h1 ?_));refine n_hashes ks r A E { s with toks:=s.toks+k.draws } body Q (acc.push (k.hash P w)) (by omega) h2 hb ?_;have e1:NK.hashes P w (k::ks)=k.hash P w::NK.hashes P w ks:=by rw[NK.hashes]
  have e2:NK.drawss (k::ks)=k.draws+NK.drawss ks:=by rw[NK.drawss]
  rw[e1,e2] at q
  simpa[Nat.add_assoc] using q
end
theorem n_eq:∀(n:Nat) (x y:NK) (u v:Value) (A:Around) (s:Shared),x.dep<=n->A.units+n+1<cLine->IsN s.heap x u->IsN s.heap y v->SeqAt.EqAt A s u v (decide (x=y))
 | n,.num i,.num j,u,v,A,s,hn,hu,hx,hy=>by
  have e:decide (NK.num i=NK.num j)=(i == j):=by rw[Qjx];simp
  rw[e];rcases hx with ⟨t,rfl⟩|⟨b,rfl,rfl⟩
  ·rcases hy with ⟨t',rfl⟩|⟨c,rfl,rfl⟩
   ·exact SeqAt.EqAt.int_int i t j t'
   ·exact SeqAt.EqAt.int_bool i t c
  ·rcases hy with ⟨t',rfl⟩|⟨c,rfl,rfl⟩
   ·exact SeqAt.EqAt.bool_int b j t'
   ·have:((if b then (1:Int) else 0) == (if c then 1 else 0))=(b == c):=by cases b<;>cases c<;>rfl
    rw[this];exact SeqAt.EqAt.bool_bool b c
 | n,.num i,.txt z,u,v,A,s,hn,hu,hx,hy=>by
  rw[Qwj (λe=>by cases e)];obtain⟨t,rfl⟩:=hy;rcases hx with ⟨t',rfl⟩|⟨b,rfl,rfl⟩
  ·exact SeqAt.EqAt.int_str i t' _ t
  ·exact SeqAt.EqAt.bool_str b _ t
 | n,.num i,.tup ks,u,v,A,s,hn,hu,hx,hy=>by
  rw[Qwj (λe=>by cases e)];obtain⟨a,o,items,m,rfl,h1,h2,h3,_⟩:=hy;have p:s.heap.IsTuple a items:=⟨o,h1,h2,m,h3⟩;rcases hx with ⟨t',rfl⟩|⟨b,rfl,rfl⟩
  ·exact SeqAt.EqAt.int_tuple i t' p (by omega)
  ·exact SeqAt.EqAt.bool_tuple b p (by omega)
 | n,.txt z,.num i,u,v,A,s,hn,hu,hx,hy=>by
  rw[Qwj (λe=>by cases e)];obtain⟨t,rfl⟩:=hx;rcases hy with ⟨t',rfl⟩|⟨b,rfl,rfl⟩
  ·exact SeqAt.EqAt.str_int _ t i t'
  ·exact SeqAt.EqAt.str_bool _ t b
 | n,.txt z,.txt z',u,v,A,s,hn,hu,hx,hy=>by
  have e:decide (NK.txt z=NK.txt z')=(z == z'):=by rw[Qjx];simp
  rw[e];obtain⟨t,rfl⟩:=hx;obtain⟨t',rfl⟩:=hy;exact SeqAt.EqAt.str_str _ t _ t'
 | n,.txt z,.tup ks,u,v,A,s,hn,hu,hx,hy=>by
  rw[Qwj (λe=>by cases e)];obtain⟨t,rfl⟩:=hx;obtain⟨a,o,items,m,rfl,h1,h2,h3,_⟩:=hy;have p:s.heap.IsTuple a items:=⟨o,h1,h2,m,h3⟩;exact SeqAt.EqAt.str_tuple _ t p (by omega)
 | n,.tup ks,.num i,u,v,A,s,hn,hu,hx,hy=>by
  rw[Qwj (λe=>by cases e)];obtain⟨a,o,items,m,rfl,h1,h2,h3,_⟩:=hx;have p:s.heap.IsTuple a items:=⟨o,h1,h2,m,h3⟩;rcases hy with ⟨t',rfl⟩|⟨b,rfl,rfl⟩
  ·exact SeqAt.EqAt.tuple_int i t' p (by omega)
  ·exact SeqAt.EqAt.tuple_bool b p (by omega)
 | n,.tup ks,.txt z,u,v,A,s,hn,hu,hx,hy=>by
  rw[Qwj (λe=>by cases e)];obtain⟨a,o,items,m,rfl,h1,h2,h3,_⟩:=hx;have p:s.heap.IsTuple a items:=⟨o,h1,h2,m,h3⟩;obtain⟨t,rfl⟩:=hy;exact SeqAt.EqAt.tuple_str _ t p (by omega)
 | 0,.tup ks,.tup ls,u,v,A,s,hn,hu,hx,hy=>by
  rw[NK.dep] at hn;omega
 | n+1,.tup ks,.tup ls,u,v,A,s,hn,hu,hx,hy=>by
  have hx0:=hx;have hy0:=hy;obtain⟨a,o,items,m,rfl,h1,h2,h3,h4⟩:=hx;obtain⟨a',o',items',m',rfl,h1',h2',h3',h4'⟩:=hy;have p:s.heap.IsTuple a items:=⟨o,h1,h2,m,h3⟩;have p':s.heap.IsTuple a' items':=⟨o',h1',h2',m',h3'⟩;rw[NK.dep] at hn;by_cases haa:a=a'
  ·subst haa;rw[Qw4 (IsN.inj hx0 hy0)];exact SeqAt.EqAt.same _
  ·refine SeqAt.EqAt.of_refs haa ?_;have l1:=h4.length;have l2:=h4'.length;rw[Qzw] at l1 l2;have hu0:A.units<cLine:=by omega
   have:=SeqAt.RcAt.tuples (e:=λj=>decide (ks[j]? = ls[j]?)) p p' hu0 λj q1 q2=>?_
   ·have e:((List.range (min items.size items'.size)).all (λj=>decide (ks[j]? = ls[j]?))&&items.size == items'.size)=decide (NK.tup ks=NK.tup ls):=by
     rw[Qjx];simp only[Qwv,Qwk,Qx1,decide_eq_true_eq,beq_iff_eq,NK.tup.injEq];constructor
     ·rintro⟨g1,g2⟩;apply List.ext_getElem?;intro j;by_cases hj:j<min items.size items'.size
      ·exact g1 j hj
      ·rw[Qz3 (by omega),Qz3 (by omega)]
     ·rintro rfl;exact⟨λ_ _=>rfl,by omega⟩
    rw[<-e];exact this
   ·have g1:items.toList[j]? = some items[j]:=by simp
    have g2:items'.toList[j]? = some items'[j]:=by simp
    obtain⟨k,r1,r2⟩:=h4.get g1;obtain⟨l,r3,r4⟩:=h4'.get g2;have e:decide (ks[j]? = ls[j]?)=decide (k=l):=by rw[r1,r3];simp
    rw[e];exact n_eq n k l _ _ A.in1 s (Qq2 (NK.deps_mem r1) (by omega)) (by show A.units+1+n+1<cLine;omega) r2 r4
theorem n_quiet:∀(n:Nat) (k:NK) (v:Value) (A:Around) (E:Value->Shared->Prop) (s:Shared) (Q:Bool->Shared->Prop),k.dep<=n->IsN s.heap k v->Q true s->wpAny (model P w) A (eqIsQuiet n v) Q E s
 | n,.num i,v,A,E,s,Q,hn,e,h=>by
  rcases e with ⟨t,rfl⟩|⟨b,rfl,rfl⟩
  ·rw[eqIsQuiet_byValue n rfl];exact Qqv h
  ·rw[eqIsQuiet_byValue n rfl];exact Qqv h
 | n,.txt x,v,A,E,s,Q,hn,e,h=>by
  obtain⟨t,rfl⟩:=e;rw[eqIsQuiet_byValue n rfl];exact Qqv h
 | 0,.tup ks,v,A,E,s,Q,hn,e,h=>by
  rw[NK.dep] at hn;omega
 | n+1,.tup ks,v,A,E,s,Q,hn,e,h=>by
  obtain⟨a,o,items,m,rfl,ho,hc,hd,hi⟩:=e;rw[NK.dep] at hn;have hT:s.TypeIs (.ref a) "tuple":=⟨o,ho,hc⟩;unfold eqIsQuiet;refine Qqq (wpAny_specialOf hT F.slot_tuple_eq.lookup ?_);show wpAny _ _ (isInstance (.ref a) (.type "tuple") >>= _) _ _ s;refine Qqq (wpAny_isInstance hT isSubtype_tuple_tuple ?_);simp only[Bool.not_true,Bool.false_eq_true,if_false];refine Qqq (wpAny_seqItems ho hd ?_);refine Qqq ?_;show wpAny _ _ (forIn items _ _) _ _ s;rw[<-Array.forIn_toList];refine wpAny_forIn_list _ (λrest r s'=>r.1=none/\s'=s/\∀v∈rest,∃k:NK,k.dep<=n/\IsN s.heap k v) _ ?_ ?_ _ _ ⟨rfl,rfl,λv hv=>?_⟩
  ·rintro v rest r s' ⟨hr,rfl,hall⟩;obtain⟨k,hk1,hk2⟩:=hall v Qq3;refine Qqq (n_quiet n k v A E _ _ hk1 hk2 ?_);simp only[Bool.not_true,Bool.false_eq_true,if_false];exact Qqv ⟨rfl,rfl,λu hu'=>hall u (Qq4 _ hu')⟩
  ·rintro⟨r1,r2⟩ s' ⟨hr,rfl,_⟩;simp only at hr;subst hr;exact Qqv h
  ·obtain⟨j,hj,rfl⟩:=List.mem_iff_getElem.mp hv;obtain⟨k,r1,r2⟩:=hi.get (Qx3 hj);exact⟨k,Qq2 (NK.deps_mem r1) (by omega),r2⟩
noncomputable def nestKind(P:Program)(w:World):HeapKind P w NK where
 is:=λh k a=>IsN h k (.ref a)/\k.dep<=8
 hash:=NK.hash P w
 draws:=NK.draws
 room:=λA=>A.units+10<cLine
 inj:=λhx hy=>hx.1.inj hy.1
 keeps:=λx ho hd hs=>⟨x.1.keeps ho hd hs,x.2⟩
 pyHash:=λhu hk h=>n_hash _ _ _ _ _ _ (by have:=hk.2;omega) hk.1 h
 eqBool:=λhu hx hy h=>n_eq 8 _ _ _ _ _ _ hx.2 (by omega) hx.1 hy.1 P w _ _ h
 quiet:=λhk h=>n_quiet 8 _ _ _ _ _ _ hk.2 hk.1 h
end
abbrev Key:=Sum Int Str
def keyIs:Key->Value->Bool
 | .inl k,v=>Value.isInt k v
 | .inr x,v=>Value.isStrOf x v
def keyH(w:World):Key->Int
 | .inl k=>hashInt k
 | .inr x=>hashStr w x
theorem keyIs_shape:∀{k:Key} {v:Value},keyIs k v=true->(∃i t,k=Sum.inl i/\v=Value.int i t)\/(∃x t,k=Sum.inr x/\v=Value.str x t)
 | .inl i,v,h=>by
  obtain⟨t,e⟩:=Value.isInt_shape (k:=i) (v:=v) h;exact .inl ⟨i,t,rfl,e⟩
 | .inr x,v,h=>by
  obtain⟨t,e⟩:=Value.isStrOf_shape (x:=x) (v:=v) h;exact .inr ⟨x,t,rfl,e⟩
theorem key_ll(a b:Int):decide ((Sum.inl a:Key)=Sum.inl b)=(a == b):=by
 by_cases e:a=b
 ·subst e;simp
 ·have h:¬(Sum.inl a:Key)=Sum.inl b:=λq=>e (Sum.inl.inj q);rw[Qwj h];exact(beq_eq_false_iff_ne.mpr e).symm
theorem key_rr(a b:Str):decide ((Sum.inr a:Key)=Sum.inr b)=decide (a=b):=by
 by_cases e:a=b
 ·subst e;simp
 ·have h:¬(Sum.inr a:Key)=Sum.inr b:=λq=>e (Sum.inr.inj q);rw[Qwj h,Qwj e]
theorem key_lr(a:Int)(b:Str):decide ((Sum.inl a:Key)=Sum.inr b)=false:=Qwj (λq=>nomatch q)
theorem key_rl(a:Str)(b:Int):decide ((Sum.inr a:Key)=Sum.inl b)=false:=Qwj (λq=>nomatch q)
def mixKind(prog:Program)(w:World):PySem.KeyKind prog w Key where
 is:=keyIs
 hash:=keyH w
 inj:=λv a b ha hb=>by
  rcases keyIs_shape ha with ⟨i,t,rfl,rfl⟩|⟨x,t,rfl,rfl⟩
  ·rcases keyIs_shape hb with ⟨j,u,rfl,e⟩|⟨y,u,rfl,e⟩
   ·injection e with e1 _;rw[e1]
   ·exact nomatch e
  ·rcases keyIs_shape hb with ⟨j,u,rfl,e⟩|⟨y,u,rfl,e⟩
   ·exact nomatch e
   ·injection e with e1 _;rw[e1]
 byValue:=λk v h=>by
  rcases keyIs_shape h with ⟨i,t,rfl,rfl⟩|⟨x,t,rfl,rfl⟩<;>rfl
 pyHash:=λhv h=>by
  rcases keyIs_shape hv with ⟨i,t,rfl,rfl⟩|⟨x,t,rfl,rfl⟩
  ·exact wpAny_pyHash_int h
  ·exact wpAny_pyHash_str h
 eqBool:=λhu hv h=>by
  rcases keyIs_shape hu with ⟨i,t,rfl,rfl⟩|⟨x,t,rfl,rfl⟩
  ·rcases keyIs_shape hv with ⟨j,u,rfl,rfl⟩|⟨y,u,rfl,rfl⟩
   ·rw[key_ll] at h;exact wpAny_eqBool_int h
   ·rw[key_lr] at h;exact SeqAt.EqAt.int_str i t y u _ _ _ _ h
  ·rcases keyIs_shape hv with ⟨j,u,rfl,rfl⟩|⟨y,u,rfl,rfl⟩
   ·rw[key_rl] at h;exact SeqAt.EqAt.str_int x t j u _ _ _ _ h
   ·rw[key_rr] at h;exact wpAny_eqBool_str h
 «strs»:=λk x t v h=>by
  rcases keyIs_shape h with ⟨i,u,rfl,e⟩|⟨y,u,rfl,e⟩
  ·exact nomatch e
  ·injection e with e1 _
   subst e1;cases v<;>rfl
inductive V where
 | non|bl (b:Bool)|int (i:Int)|str (x:Str)|byt (b:Array UInt8)|flt (b:UInt64)|ref (a:Addr)|ty (n:String)
 deriving DecidableEq
def RelV:V->Value->Prop
 | .non,u=>u=Value.none
 | .bl b,u=>u=Value.bool b
 | .int i,u=>∃t,u=Value.int i t
 | .str x,u=>∃t,u=Value.str x t
 | .byt b,u=>∃t,u=Value.bytes b t
 | .flt b,u=>∃t,u=Value.float b t
 | .ref a,u=>u=Value.ref a
 | .ty n,u=>u=Value.type n
abbrev Vals:List V->List Value->Prop:=Paired RelV
theorem Vals.length{xs:List V}{us:List Value}(r:Vals xs us):xs.length=us.length:=Paired.length r
theorem Vals.get:∀{xs:List V} {us:List Value} {i:Nat} {x:V},Vals xs us->xs[i]? = some x->∃u,us[i]? = some u/\RelV x u
 | _,_,_,_,.nil,e=>by simp at e
 | _,_,0,_,.cons r _,e=>by simp at e;subst e;exact⟨_,rfl,r⟩
 | _,_,i+1,x,.cons _ t,e=>by
  obtain⟨u,h1,h2⟩:=Vals.get (i:=i) (x:=x) t (by simpa using e);exact⟨u,by simpa using h1,h2⟩
theorem Vals.set{x:V}{u:Value}(r:RelV x u):∀{xs:List V} {us:List Value} (i:Nat),Vals xs us->Vals (xs.set i x) (us.set i u)
 | _,_,_,.nil=>.nil
 | _,_,0,.cons _ t=>.cons r t
 | _,_,i+1,.cons q t=>.cons q (Vals.set r i t)
theorem Vals.append:∀{xs ys:List V} {us ws:List Value},Vals xs us->Vals ys ws->Vals (xs++ys) (us++ws)
 | _,_,_,_,.nil,s=>s
 | _,_,_,_,.cons r t,s=>.cons r (Vals.append t s)
theorem Vals.take:∀{xs:List V} {us:List Value} (n:Nat),Vals xs us->Vals (xs.take n) (us.take n)
 | _,_,0,_=>.nil
 | _,_,_+1,.nil=>.nil
 | _,_,n+1,.cons r t=>.cons r (Vals.take n t)
theorem Vals.drop:∀{xs:List V} {us:List Value} (n:Nat),Vals xs us->Vals (xs.drop n) (us.drop n)
 | _,_,0,r=>r
 | _,_,_+1,.nil=>.nil
 | _,_,n+1,.cons _ t=>Vals.drop n t
def RelO:Option V->Option Value->Prop
 | some v,some u=>RelV v u
 | none,none=>True
 | _,_=>False
def KV{κ:Type}:List (κ×V)->List (κ×Value)->Prop:=Paired λ(p:κ×V) (q:κ×Value)=>p.1=q.1/\RelV p.2 q.2
def kV:Key->V
 | .inl i=>.int i
 | .inr x=>.str x
inductive HO where
 /-- a list -/
 | lst (xs:List V)
 /-- a tuple (never changes) -/
 | tup (xs:List V)
 /-- a dict whose keys are ints and texts;one whose keys are tuples of ints and texts (the empty one is both) -/
 | dK (kvs:List (Key×V))|dT (kvs:List (List Key×V))|dN (kvs:List (NK×V×V))
 /-- a set of ints: its members,its size -/
 | set (S:Int->Bool) (n:Nat)
 /-- an instance of the class at C,its dict at dx,its attributes -/
 | ins (C dx:Addr) (fs:List (Str×V))
 /-- the dict of the instance at x -/
 | own (x:Addr)
 /-- the dict of an exception -/
 | xd (fs:List (Str×V))
 /-- a bound method,f of x -/
 | met (f x:Addr)
 /-- a range object lo,lo+1,.. below hi -/
 | rng (lo hi:Int)
 /-- a thing that is known to the object (the script;a dict while a loop walks it): read,never written while it is so -/
 | frz (o:Obj) (u:HO)
 /-- a code object's table -/
 | tbl (ps:Array Value)
 /-- a code object's table: whatever it holds,the codes made at these places are known and bear these names -/
 | tab (qs:List (Pos×Str))
 /-- any other thing,by what is true of its one object (a def of one's own: SetO a S n:=HO.ext λh=>..) -/
 | ext (φ:Heap->Prop)
abbrev Hp:=Addr->Option HO
def upd(H:Hp)(a:Addr)(o:HO):Hp:=λb=>if b=a then some o else H b
theorem upd_same{H:Hp}{a:Addr}{o:HO}:upd H a o a=some o:=by unfold upd;rw[if_pos rfl]
theorem upd_ne{H:Hp}{a b:Addr}{o:HO}(h:b≠a):upd H a o b=H b:=by unfold upd;rw[if_neg h]
theorem upd_upd{H:Hp}{a:Addr}{o u:HO}:upd (upd H a o) a u=upd H a u:=by funext b;unfold upd;split<;>rfl
theorem ne_of_none{H:Hp}{a b:Addr}{o:HO}(h:H a=some o)(h':H b=none):a≠b:=by intro e;subst e;rw[h] at h';cases h'
def TupD(h:Heap)(a:Addr)(items:Array Value):Prop:=∃o,h.get? a=some o/\o.cls = .type "tuple"/\(∃n,o.data = .seq items n)/\o.dict=none
theorem TupD.is{h:Heap}{a:Addr}{items:Array Value}(x:TupD h a items):IsTup h a items:=let ⟨o,h1,h2,h3,_⟩:=x;⟨o,h1,h2,h3⟩
theorem TupD.new(h:Heap)(items:Array Value):TupD (h.push { cls:=.type "tuple",data:=.seq items }) h.objs.size items:=⟨_,Qq5 _ rfl,rfl,⟨_,rfl⟩,rfl⟩
section
variable(P:Program)(w:World)
def ObjOk(H:Hp)(h:Heap)(a:Addr):HO->Prop
 | .lst xs=>xs.length<=sizeLine/\∃(its:List Value) (n:Nat),Vals xs its/\h.get? a=some { cls:=.type "list",data:=.seq its.toArray n }
 | .tup xs=>xs.length<=sizeLine/\∃its:List Value,Vals xs its/\TupD h a its.toArray
 | .dK kvs=>kvs.length<=sizeLine/\(a == sysModules)=false/\∃vs,KV kvs vs/\h.DictOf (mixKind P w) a vs
 | .dT kvs=>kvs.length<=sizeLine/\(a == sysModules)=false/\∃xs:List (List Key×Addr×Value),
   Paired (λ(p:List Key×V) (q:List Key×Addr×Value)=>p.1=q.1/\H q.2.1=some (.tup (p.1.map kV))/\RelV p.2 q.2.2) kvs xs/\
   ∃o es ep,h.get? a=some o/\o.ExactDict/\o.data = .dict es ep/\es.toList=xs.map (entryOfKey (tupleKind (mixKind P w)))/\(xs.map (·.1)).Nodup
 | .dN kvs=>kvs.length<=sizeLine/\(a == sysModules)=false/\∃xs:List (NK×Addr×Value),
   Paired (λ(p:NK×V×V) (q:NK×Addr×Value)=>p.1=q.1/\p.2.1 = .ref q.2.1/\RelV p.2.2 q.2.2) kvs xs/\
   ∃o es ep,h.get? a=some o/\o.ExactDict/\o.data = .dict es ep/\es.toList=xs.map (entryOfKey (nestKind P w))/\(xs.map (·.1)).Nodup
 | .set S n=>h.SetOf (intKind P w) a S n
 | .ins C dx fs=>H dx=some (.own a)/\fs.length<=1000/\dx≠a/\h.get? a=some (PySem.W.instObj C dx)/\
   ∃mA,h.Ns1 dx mA/\(∀f,RelO (fs.lookup f) (mA f))/\PySem.Within mA (fs.map (·.1))
 | .own _=>∃o,h.get? a=some o
 | .xd fs=>∃mA,h.Ns1 a mA/\∀f,RelO (fs.lookup f) (mA f)
 | .rng lo hi=>∃t u v,h.get? a=some { cls:=.type "range",data:=.fields #[.int lo t,.int hi u,.int 1 v] }
 | .frz o u=>h.get? a=some o/\ObjOk H h a u
 | .tbl ps=>h.get? a=some { cls:=.none,data:=.fields ps }
 | .tab qs=>∃ps:Array Value,h.get? a=some { cls:=.none,data:=.fields ps }/\TriplesOk ps.toList/\∀q∈qs,codeAmong q.1 ps.toList=none\/∃(c:Addr) (o:Obj) (u:HO) (vs:Array Value) (t:Tok),codeAmong q.1 ps.toList=some (.ref c)/\H c=some (.frz o u)/\o.data = .fields vs/\vs[1]? = some (.str q.2 t)
 | .met f x=>h.get? a=some (PySem.W.methodObj (.ref f) (.ref x))
 | .ext φ=>φ h/\(∃o,h.get? a=some o)/\∀h1 h2:Heap,φ h1->(∀o,h1.get? a=some o->h2.get? a=some o)->φ h2
def HOk(H:Hp)(h:Heap):Prop:=∀a o,H a=some o->ObjOk P w H h a o
end
section
variable{P:Program}{w:World}{H H':Hp}{h h':Heap}{a:Addr}{o:HO}
theorem ObjOk.lt(x:ObjOk P w H h a o):a<h.objs.size:=by
 cases o with
 | lst xs=>obtain⟨_,_,_,_,e⟩:=x;exact Qq7 e
 | tup xs=>obtain⟨_,_,_,p⟩:=x;exact p.is.lt
 | dK kvs=>obtain⟨_,_,_,_,o,_,_,e,_⟩:=x;exact Qq7 e
 | dT kvs=>obtain⟨_,_,_,_,o,_,_,e,_⟩:=x;exact Qq7 e
 | dN kvs=>obtain⟨_,_,_,_,o,_,_,e,_⟩:=x;exact Qq7 e
 | set S n=>obtain⟨o,_,_,_,e,_⟩:=x;exact Qq7 e
 | ins C dx fs=>obtain⟨_,_,_,e,_⟩:=x;exact Qq7 e
 | own y=>obtain⟨_,e⟩:=x;exact Qq7 e
 | xd fs=>obtain⟨_,⟨_,_,_,e,_⟩,_⟩:=x;exact Qq7 e
 | rng lo hi=>obtain⟨_,_,_,e⟩:=x;exact Qq7 e
 | frz ob u=>obtain⟨e,_⟩:=x;exact Qq7 e
 | tbl ps=>exact Qq7 (show h.get? a=some _ from x)
 | tab qs=>obtain⟨_,e,_⟩:=x;exact Qq7 e
 | met f y=>exact Qq7 (show h.get? a=some _ from x)
 | ext φ=>obtain⟨_,⟨_,e⟩,_⟩:=x;exact Qq7 e
theorem Paired.mapP{α β:Type}{F G:α->β->Prop}:∀{l₁:List α} {l₂:List β},Paired F l₁ l₂->(∀a b,F a b->G a b)->Paired G l₁ l₂
 | _,_,.nil,_=>.nil
 | _,_,.cons r t,f=>.cons (f _ _ r) (Paired.mapP t f)
theorem ObjOk.stay(x:ObjOk P w H h a o)(k:∀b u,(b=a\/H b=some (.own a))->h.get? b=some u->h'.get? b=some u)
  (ho:∀b,H b=some (.own a)->H' b=some (.own a)) (ht:∀b xs,H b=some (.tup xs)->H' b=some (.tup xs))
  (hz:∀(b:Addr) (o:Obj) (u:HO) (vs:Array Value),o.data = .fields vs->H b=some (.frz o u)->H' b=some (.frz o u):=by intro _ _ _ _ _ q;exact q):ObjOk P w H' h' a o:=by
 induction o with
 | lst xs=>obtain⟨z,its,n,r,e⟩:=x;exact⟨z,its,n,r,k _ _ (.inl rfl) e⟩
 | tup xs=>obtain⟨z,its,r,ob,e,c⟩:=x;exact⟨z,its,r,ob,k _ _ (.inl rfl) e,c⟩
 | dK kvs=>obtain⟨z,y,vs,r,ob,es,ep,e,c⟩:=x;exact⟨z,y,vs,r,ob,es,ep,k _ _ (.inl rfl) e,c⟩
 | dT kvs=>
  obtain⟨z,y,xs,r,ob,es,ep,e,c⟩:=x;exact⟨z,y,xs,Paired.mapP r λp q z=>⟨z.1,ht _ _ z.2.1,z.2.2⟩,ob,es,ep,k _ _ (.inl rfl) e,c⟩
 | dN kvs=>obtain⟨z,y,xs,r,ob,es,ep,e,c⟩:=x;exact⟨z,y,xs,r,ob,es,ep,k _ _ (.inl rfl) e,c⟩
 | set S n=>obtain⟨ob,es,ep,t,e,c⟩:=x;exact⟨ob,es,ep,t,k _ _ (.inl rfl) e,c⟩
 | ins C dx fs=>
  obtain⟨d,z,ne,e,mA,⟨od,es,ep,e2,c⟩,r⟩:=x;exact⟨ho _ d,z,ne,k _ _ (.inl rfl) e,mA,⟨od,es,ep,k _ _ (.inr d) e2,c⟩,r⟩
 | own y=>obtain⟨ob,e⟩:=x;exact⟨ob,k _ _ (.inl rfl) e⟩
 | xd fs=>obtain⟨mA,⟨od,es,ep,e,c⟩,r⟩:=x;exact⟨mA,⟨od,es,ep,k _ _ (.inl rfl) e,c⟩,r⟩
 | rng lo hi=>obtain⟨t,u,v,e⟩:=x;exact⟨t,u,v,k _ _ (.inl rfl) e⟩
 | frz ob u ih=>obtain⟨e,q⟩:=x;exact⟨k _ _ (.inl rfl) e,ih q⟩
 | tbl ps=>
  have e:h.get? a=some { cls:=.none,data:=.fields ps }:=x;show h'.get? a=some { cls:=.none,data:=.fields ps };exact k a _ (.inl rfl) e
 | tab qs=>
  obtain⟨ps,e,t,r⟩:=x;refine⟨ps,k a _ (.inl rfl) e,t,λq hq=>?_⟩;rcases r q hq with z|⟨c,o,u,vs,t,h1,h2,h3,h4⟩
  ·exact .inl z
  ·exact .inr ⟨c,o,u,vs,t,h1,hz c o u vs h3 h2,h3,h4⟩
 | met f y=>
  have e:h.get? a=some (PySem.W.methodObj (.ref f) (.ref y)):=x;show h'.get? a=some (PySem.W.methodObj (.ref f) (.ref y));exact k a _ (.inl rfl) e
 | ext φ=>obtain⟨p,⟨o,e⟩,st⟩:=x;exact⟨st _ _ p λo q=>k _ _ (.inl rfl) q,⟨o,k _ _ (.inl rfl) e⟩,st⟩
theorem HOk.lt(x:HOk P w H h)(e:H a=some o):a<h.objs.size:=(x a o e).lt
theorem HOk.fresh(x:HOk P w H h)(e:h.objs.size<=a):H a=none:=by
 cases q:H a with
 | none=>rfl
 | some u=>exact absurd (Qwx (x.lt q) e) (Qx9 _)
theorem HOk.kept(x:HOk P w H h)(k:∀b u,h.get? b=some u->h'.get? b=some u):HOk P w H h':=λa o e=>
 (x a o e).stay (λb u _ q=>k b u q) (λ_ q=>q) λ_ _ q=>q
theorem HOk.laid(x:HOk P w H h)(k:∀b u,h.get? b=some u->h'.get? b=some u)(hp:h.objs.size<=a)(new:ObjOk P w (upd H a o) h' a o):HOk P w (upd H a o) h':=λb u e=>by
 have hn:=x.fresh hp;by_cases hb:b=a
 ·subst hb;rw[upd_same] at e;cases e;exact new
 ·rw[upd_ne hb] at e;exact(x b u e).stay (λc v _ q=>k c v q) (λc q=>by rw[upd_ne (ne_of_none q hn)];exact q) (λc xs q=>by rw[upd_ne (ne_of_none q hn)];exact q) λc _ _ _ _ q=>by rw[upd_ne (ne_of_none q hn)];exact q
end
def Rd(H:Hp)(a:Addr)(u:HO):Prop:=H a=some u\/∃o,H a=some (.frz o u)
theorem Rd.ok{P:Program}{w:World}{H:Hp}{h:Heap}{a:Addr}{u:HO}(r:Rd H a u)(x:HOk P w H h):ObjOk P w H h a u:=by
 rcases r with r|⟨o,r⟩
 ·exact x a u r
 ·obtain⟨_,q⟩:=x a _ r;exact q
def Mut:Option HO->Prop
 | some (.lst _)=>True
 | some (.dK _)=>True
 | some (.dT _)=>True
 | some (.dN _)=>True
 | some (.set _ _)=>True
 | some (.ins _ _ _)=>True
 | some (.ext _)=>True
 | _=>False
section
variable{P:Program}{w:World}{H:Hp}{h h':Heap}{x e:Addr}{o':HO}
theorem HOk.write(ok:HOk P w H h)(mu:Mut (H x))(he:e=x\/H e=some (.own x))(k:∀b u,b≠e->h.get? b=some u->h'.get? b=some u)(heo:∃u,h'.get? e=some u)
  (new:ObjOk P w (upd H x o') h' x o'):HOk P w (upd H x o') h':=λb u q=>by
 have nown:∀c y,H c=some (.own y)->c≠x:=λc y r z=>by subst z;rw[r] at mu;exact mu
 have ntup:∀c xs,H c=some (.tup xs)->c≠x:=λc xs r z=>by subst z;rw[r] at mu;exact mu
 by_cases hb:b=x
 ·subst hb;rw[upd_same] at q;cases q;exact new
 ·rw[upd_ne hb] at q;by_cases hbe:b=e
  ·have q':H b=some (.own x):=by
    rcases he with z|z
    ·exact absurd (hbe.trans z) hb
    ·rw[hbe];exact z
   rw[q] at q';cases q';obtain⟨v,hv⟩:=heo;exact⟨v,by rw[hbe];exact hv⟩
  ·refine(ok b u q).stay (λc v hc r=>k c v ?_ r) (λc r=>by rw[upd_ne (nown c b r)];exact r) (λc xs r=>by rw[upd_ne (ntup c xs r)];exact r) λc _ _ _ _ r=>by rw[upd_ne (λz=>by subst z;rw[r] at mu;exact mu)];exact r
   rcases hc with rfl|hc
   ·exact hbe
   ·rintro rfl;rcases he with z|z
    ·exact nown c b hc z
    ·rw[hc] at z;cases z;exact hb rfl
end
structure Un(fs ex:List Addr)(H H':Hp)(h h':Heap):Prop where
 keep:∀b o,h.get? b=some o->H b=none->b ∉ fs->b ∉ ex->h'.get? b=some o
 slot:∀b o,h.get? b=some o->H b=none->b∈fs->b ∉ ex->∃sl,h'.get? b=some { o with slots:=sl }
 free:∀b o,h.get? b=some o->H b=none->b ∉ ex->H' b=none
 there:∀b o,h.get? b=some o->b ∉ ex->∃o',h'.get? b=some o'
 tups:∀b xs,H b=some (.tup xs)->H' b=some (.tup xs)
 frzs:∀b o u,H b=some (.frz o u)->H' b=some (.frz o u)
 tbls:∀b ps,H b=some (.tbl ps)->∃more,H' b=some (.tbl (ps++more))
 tabs:∀b qs,H b=some (.tab qs)->H' b=some (.tab qs)
section
variable{fs fs' ex ex':List Addr}{H H1 H2:Hp}{h h1 h2 h':Heap}{a x e:Addr}{o:HO}
theorem Un.any(u:Un fs ex H H1 h h1){b:Addr}{ob:Obj}(q:h.get? b=some ob)(n:H b=none)(hx:b ∉ ex):∃sl,h1.get? b=some { ob with slots:=sl }:=by
 by_cases hb:b∈fs
 ·exact u.slot b ob q n hb hx
 ·exact⟨ob.slots,u.keep b ob q n hb hx⟩
theorem Un.kept(k:∀b u,h.get? b=some u->h'.get? b=some u):Un fs ex H H h h':=
 ⟨λb ob q _ _ _=>k b ob q,λb ob q _ _ _=>⟨ob.slots,k b ob q⟩,λ_ _ _ n _=>n,λb ob q _=>⟨ob,k b ob q⟩,λ_ _ q=>q,λ_ _ _ q=>q,λ_ ps q=>⟨#[],by rw[q];simp⟩,λ_ _ q=>q⟩
theorem Un.refl:Un fs ex H H h h:=Un.kept λ_ _ q=>q
theorem Un.laid(k:∀b u,h.get? b=some u->h'.get? b=some u)(hp:h.objs.size<=a)(hn:H a=none):Un fs ex H (upd H a o) h h' where
 keep:=λb u q _ _ _=>k b u q
 slot:=λb u q _ _ _=>⟨u.slots,k b u q⟩
 free:=λb u q n _=>by rw[upd_ne (Qwz (Qwx (Qq7 q) hp))];exact n
 there:=λb u q _=>⟨u,k b u q⟩
 tups:=λb xs q=>by rw[upd_ne (ne_of_none q hn)];exact q
 frzs:=λb u xs q=>by rw[upd_ne (ne_of_none q hn)];exact q
 tbls:=λb ps q=>⟨#[],by rw[upd_ne (ne_of_none q hn),q];simp⟩
 tabs:=λb qs q=>by rw[upd_ne (ne_of_none q hn)];exact q
theorem Un.write(mu:Mut (H x))(he:e=x\/H e=some (.own x))(k:∀b u,b≠e->h.get? b=some u->h'.get? b=some u)(heo:∃u,h'.get? e=some u):Un fs ex H (upd H x o) h h':=by
 have hx:∀b,H b=none->b≠x:=λb n z=>by subst z;rw[n] at mu;exact mu
 have hb:∀b,H b=none->b≠e:=λb n z=>by
  subst z;rcases he with r|r
  ·exact hx b n r
  ·rw[n] at r;cases r
 have hm:∀b u,H b=some u->¬Mut (some u)->b≠x:=λb u q nm z=>by subst z;rw[q] at mu;exact nm mu
 refine⟨λb u q n _ _=>k b u (hb b n) q,λb u q n _ _=>⟨u.slots,k b u (hb b n) q⟩,λb u q n _=>by rw[upd_ne (hx b n)];exact n,λb u q _=>?_,
  λb xs q=>by rw[upd_ne (hm b _ q λz=>z)];exact q,λb u xs q=>by rw[upd_ne (hm b _ q λz=>z)];exact q,λb ps q=>⟨#[],by rw[upd_ne (hm b _ q λz=>z),q];simp⟩,λb qs q=>by rw[upd_ne (hm b _ q λz=>z)];exact q⟩
 by_cases hbe:b=e
 ·subst hbe;exact heo
 ·exact⟨u,k b u hbe q⟩
end
def trk(h:Heap)(H:Hp):List Addr:=(List.range h.objs.size).filter λa=>(H a).isSome
def hidT(h:Heap)(H:Hp):Heap:=PySem.W.hideAll h (trk h H)
theorem hidT_size(h:Heap)(H:Hp):(hidT h H).objs.size=h.objs.size:=PySem.W.hideAll_size _ _
theorem hidT_get{h:Heap}{H:Hp}{b:Addr}{o:Obj}(e:h.get? b=some o)(n:H b=none):(hidT h H).get? b=some o:=
 PySem.W.hideAll_get _ e λhm=>by
  have q:(H b).isSome=true:=(List.mem_filter.mp hm).2;rw[n] at q;simp at q
theorem of_hidT{h:Heap}{H:Hp}{b:Addr}{o:Obj}(e:(hidT h H).get? b=some o):h.get? b=some o/\H b=none:=by
 have e':h.get? b=some o:=PySem.W.of_hideAll (trk h H) e;refine⟨e',?_⟩;cases q:H b with
 | none=>rfl
 | some x=>
  have hm:b∈trk h H:=List.mem_filter.mpr ⟨Qx1.mpr (Qq7 e'),by simp[q]⟩;have z:(hidT h H).get? b=none:=PySem.W.hideAll_none (trk h H) hm;rw[z] at e;cases e
def allNews(g h:Heap)(L:Addr):List (Addr×Obj):=(List.range h.objs.size).filterMap λa=>if a=L\/(g.get? a).isSome=true then none else (h.get? a).map λo=>(a,o)
def rest(g h:Heap)(L d:Addr):List (Addr×Obj):=(allNews g h L).filter λp=>decide (p.1≠d)
structure Mod(K:PySem.W.Frag)(mg:Str->Option Value)(base:Heap):Prop where
 kin:K.In base
 glob:base.Ns mainGlobals mg
 blt:∃mb,base.Ns builtinsNs mb/\∀x:Str,x ≠ "__name__"->mb x=bootBuiltins x
 nolimit:base.NoLimit
structure Cx where
 prog:Program
 w:World
 K:PySem.W.Frag
 mg:Str->Option Value
 base:Heap
 A:Around
 N:List Str
 s₀:Shared
 H₀:Hp
 env:Env
 outer:List Env
 stack:List Env
 ex:List Addr
 fn:Str->Bool
 calm:Bool
 pn:List (Addr×Obj)
 xe:Value->Shared->Prop
def frs(l:List Env):List Addr:=l.filterMap (·.frame)
abbrev Cx.fs(X:Cx):List Addr:=frs X.outer
def Vis(sc:Scope)(x:Str):Prop:=sc.names.lookup x=some .local\/sc.names.lookup x=some .cell\/sc.names.lookup x=some .free
def Loc(sc:Scope)(x:Str):Prop:=sc.names.lookup x=some .local\/sc.names.lookup x=some .cell
def Look(env:Env)(h:Heap)(m:Str->Option Value)(x:Str)(u:Value):Prop:=
 (env.kindOf x=some .local/\m x=some u)\/((env.kindOf x=some .cell\/env.kindOf x=some .free)/\∃c,env.cells.lookup x=some c/\h.IsCell c (some u))
structure Cx.Ok(X:Cx):Prop where
 mod:Mod X.K X.mg X.base
 kind:X.env.scope.kind = .function
 glob:X.env.globals=mainGlobals
 blt:X.env.builtins=builtinsNs
 above:X.s₀.heap.objs.size<=X.env.locals
 inj:∀x y c,X.env.cells.lookup x=some c->X.env.cells.lookup y=some c->x=y
 has:∀x,(X.env.kindOf x=some .cell\/X.env.kindOf x=some .free)->∃c,X.env.cells.lookup x=some c
 cab:∀x c,X.fn x=true->X.env.cells.lookup x=some c->X.s₀.heap.objs.size<=c
 hd:X.calm=true->X.A.handled=none
 frames:X.A.frames=some X.stack
 stk:X.stack=X.outer\/(X.stack=X.env::X.outer/\X.env.frame=some X.env.locals)
 exf:∀b∈X.ex,b≠X.env.locals/\∀x c,X.env.cells.lookup x=some c->c≠b
 bs:∀b o,X.base.get? b=some o->X.s₀.heap.get? b=some o/\X.H₀ b=none
 bsz:X.base.objs.size<=X.s₀.heap.objs.size
 noex:∀b o,X.base.get? b=some o->b ∉ X.ex
 exfs:∀b∈X.ex,b ∉ X.fs
 funs:X.s₀.heap.FunFrames X.base X.outer
 frf:∀b∈X.fs,X.H₀ b=none
structure Inv(X:Cx)(pins:List (Addr×Obj))(σ:List (Option V))(H:Hp)(s:Shared):Prop where
 ok:X.Ok
 os:s.os=X.s₀.os
 bare:AllBare s.gens
 base:Un X.fs X.ex X.H₀ H X.s₀.heap s.heap
 loc:∃m,s.heap.Ns X.env.locals m/\∀(i:Nat) (x:Str) (v:V),X.N[i]? = some x->σ[i]? = some (some v)->Vis X.env.scope x->∃u,RelV v u/\Look X.env s.heap m x u
 cell:∀x c,X.env.cells.lookup x=some c->∃v,s.heap.IsCell c v
 free:H X.env.locals=none
 freeC:∀x c,X.env.cells.lookup x=some c->H c=none\/(X.fn x=false/\∃o u,H c=some (.frz o u))
 pin:∀p∈X.pn++pins,s.heap.get? p.1=some p.2/\H p.1=none/\p.1≠X.env.locals/\p.1 ∉ X.fs/\∀v,p.2.data ≠ .cell v
 hok:HOk X.prog X.w H s.heap
 len:σ.length=X.N.length
section
variable{X:Cx}{pins:List (Addr×Obj)}{σ:List (Option V)}{H H':Hp}{s:Shared}{h':Heap}
theorem Cx.Ok.nofr(ok:X.Ok){b:Addr}{o:Obj}(e:X.base.get? b=some o):b ∉ X.fs:=λhb=>by
 have:=(ok.funs.mem hb).1;rw[e] at this;cases this
theorem Inv.bs(I:Inv X pins σ H s):∀b o,X.base.get? b=some o->s.heap.get? b=some o/\H b=none:=λb o e=>
 ⟨I.base.keep b o (I.ok.bs b o e).1 (I.ok.bs b o e).2 (I.ok.nofr e) (I.ok.noex b o e),I.base.free b o (I.ok.bs b o e).1 (I.ok.bs b o e).2 (I.ok.noex b o e)⟩
theorem Inv.bk(I:Inv X pins σ H s):∀b o,X.base.get? b=some o->s.heap.get? b=some o:=λb o e=>(I.bs b o e).1
theorem Inv.mod(I:Inv X pins σ H s):Mod X.K X.mg X.base:=I.ok.mod
theorem Inv.kIn(I:Inv X pins σ H s):X.K.In s.heap:=I.ok.mod.kin.keeps I.bk
theorem Inv.lt(I:Inv X pins σ H s):X.env.locals<s.heap.objs.size:=let ⟨_,hn,_⟩:=I.loc;hn.lt
theorem Inv.sz(I:Inv X pins σ H s):X.s₀.heap.objs.size<=s.heap.objs.size:=Qq2 I.ok.above (Qjw I.lt)
theorem Inv.nofs(I:Inv X pins σ H s){a:Addr}(h:s.heap.objs.size<=a):a ∉ X.fs:=λhb=>by
 obtain⟨_,o,ho,_⟩:=I.ok.funs.mem hb;exact absurd (Qwx (Qq7 ho) (Qq2 I.sz h)) (Qx9 _)
theorem Inv.cne(I:Inv X pins σ H s):∀x c,X.env.cells.lookup x=some c->c≠X.env.locals:=λx c e z=>by
 obtain⟨v,o,ho,hd⟩:=I.cell x c e;obtain⟨m,⟨o',es,ep,ho',hd',_⟩,_⟩:=I.loc;rw[z,ho'] at ho;cases ho;rw[hd'] at hd;cases hd
theorem Inv.funs(I:Inv X pins σ H s):s.heap.FunFrames X.base X.outer:=by
 have all:∀(l:List Env),(∀b∈frs l,b∈X.fs)->X.s₀.heap.FunFrames X.base l->s.heap.FunFrames X.base l:=by
  intro l
  induction l with
  | nil=>intro _ _;trivial
  | cons env r ih=>
   intro hs hl;obtain⟨hk,⟨L,o,hf,hn,ho,hd⟩,hr⟩:=hl;have hL:L∈X.fs:=hs L (by unfold frs;rw[Qzq,hf];exact Qq3);obtain⟨sl,e⟩:=I.base.slot L o ho (I.ok.frf L hL) hL λz=>I.ok.exfs L z hL;exact⟨hk,⟨L,_,hf,hn,e,hd⟩,ih (λb hb=>hs b (by unfold frs;rw[Qzq,hf];exact Qq4 _ hb)) hr⟩
 exact all X.outer (λ_ hb=>hb) I.ok.funs
theorem Inv.stack(I:Inv X pins σ H s):s.heap.FunFrames X.base X.stack:=by
 rcases I.ok.stk with e|⟨e,hf⟩
 ·rw[e];exact I.funs
 ·rw[e];obtain⟨m,hn,_⟩:=I.loc;refine .cons (by rw[I.ok.kind];decide) hf hn ?_ I.funs;exact Heap.get?_none_of_le (Qq2 I.ok.bsz I.ok.above)
theorem Inv.stkSub(I:Inv X pins σ H s):∀b∈frs X.stack,b∈X.env.locals::X.fs:=λb hb=>by
 rcases I.ok.stk with e|⟨e,hf⟩
 ·rw[e] at hb;exact Qq4 _ hb
 ·rw[e] at hb;unfold frs at hb;rw[Qzq,hf] at hb;exact hb
theorem Inv.stkFree(I:Inv X pins σ H s):∀b∈frs X.stack,H b=none:=λb hb=>by
 rcases Qwq.mp (I.stkSub b hb) with e|hb
 ·rw[e];exact I.free
 ·obtain⟨_,o,ho,_⟩:=I.ok.funs.mem hb;exact I.base.free b o ho (I.ok.frf b hb) λz=>I.ok.exfs b z hb
theorem Inv.step{g':Array GenState}{t':Nat}{d':Drawn}{ch:List Addr}(I:Inv X pins σ H s)
  (hch:∀b∈ch,(b∈X.ex\/X.s₀.heap.objs.size<=b)/\b≠X.env.locals/\(∀x c,X.env.cells.lookup x=some c->c≠b)/\∀p∈X.pn++pins,p.1≠b)
  (keep:∀b o,b≠X.env.locals->b ∉ X.fs->b ∉ ch->s.heap.get? b=some o->H b=none->h'.get? b=some o)
  (slot:∀b o,b≠X.env.locals->b∈X.fs->b ∉ ch->s.heap.get? b=some o->H b=none->∃sl,h'.get? b=some { o with slots:=sl }) (free:∀b o,b ∉ ch->s.heap.get? b=some o->H b=none->H' b=none)
  (there:∀b o,b ∉ ch->s.heap.get? b=some o->∃o',h'.get? b=some o')
  (tups:∀b xs,H b=some (.tup xs)->H' b=some (.tup xs)) (frzs:∀b o u,H b=some (.frz o u)->H' b=some (.frz o u)) (tbls:∀b ps,H b=some (.tbl ps)->∃more,H' b=some (.tbl (ps++more)))
  (ns:∀m,s.heap.Ns X.env.locals m->h'.Ns X.env.locals m) (hok:HOk X.prog X.w H' h') (hg:AllBare g')
  (tabs:∀(b:Addr) (qs:List (Pos×Str)),H b=some (.tab qs)->H' b=some (.tab qs):=by intro _ _ q;exact q) :
  Inv X pins σ H' { s with heap:=h',gens:=g',drawn:=d',toks:=t' }:=by
 have neL:∀b o,X.s₀.heap.get? b=some o->b≠X.env.locals:=λb o e=>Qwz (Qwx (Qq7 e) I.ok.above);have neC:∀b o,X.s₀.heap.get? b=some o->b ∉ X.ex->b ∉ ch:=λb o e hx hb=>by
  rcases(hch b hb).1 with z|z
  ·exact hx z
  ·exact absurd (Qwx (Qq7 e) z) (Qx9 _)
 have cellK:∀x c,X.env.cells.lookup x=some c->∀v,s.heap.IsCell c v->h'.IsCell c v:=λx c e v ⟨o,ho,hd⟩=>by
  have nch:c ∉ ch:=λz=>(hch c z).2.2.1 x c e rfl;rcases I.freeC x c e with hn|⟨_,fo,fu,hz⟩
  ·by_cases hc:c∈X.fs
   ·obtain⟨sl,q⟩:=slot c o (I.cne x c e) hc nch ho hn;exact⟨_,q,hd⟩
   ·exact⟨o,keep c o (I.cne x c e) hc nch ho hn,hd⟩
  ·have e1:=(I.hok c _ hz).1;rw[ho] at e1;cases e1;exact⟨o,(hok c _ (frzs c o fu hz)).1,hd⟩
 refine⟨I.ok,I.os,hg,⟨λb o e n hb hx=>?_,λb o e n hb hx=>?_,λb o e n hx=>?_,λb o e hx=>?_,λb xs e=>tups b xs (I.base.tups b xs e),λb o xs e=>frzs b o xs (I.base.frzs b o xs e),λb ps e=>?_,λb qs e=>tabs b qs (I.base.tabs b qs e)⟩,?_,λx c e=>?_,?_,λx c e=>?_,λp hp=>?_,hok,I.len⟩
 ·exact keep b o (neL b o e) hb (neC b o e hx) (I.base.keep b o e n hb hx) (I.base.free b o e n hx)
 ·obtain⟨sl,e1⟩:=I.base.slot b o e n hb hx;obtain⟨sl',e2⟩:=slot b _ (neL b o e) hb (neC b o e hx) e1 (I.base.free b o e n hx);exact⟨sl',e2⟩
 ·obtain⟨o',e1⟩:=I.base.there b o e hx;exact free b o' (neC b o e hx) e1 (I.base.free b o e n hx)
 ·obtain⟨o',e1⟩:=I.base.there b o e hx;exact there b o' (neC b o e hx) e1
 ·obtain⟨m1,e1⟩:=I.base.tbls b ps e;obtain⟨m2,e2⟩:=tbls b _ e1;exact⟨m1++m2,by rw[e2,Array.append_assoc]⟩
 ·obtain⟨m,hn,hl⟩:=I.loc;refine⟨m,ns m hn,λi x v e1 e2 e3=>?_⟩;obtain⟨u,r,l⟩:=hl i x v e1 e2 e3;refine⟨u,r,?_⟩;rcases l with l|⟨k,c,e,z⟩
  ·exact .inl l
  ·exact .inr ⟨k,c,e,cellK x c e _ z⟩
 ·obtain⟨v,z⟩:=I.cell x c e;exact⟨v,cellK x c e v z⟩
 ·obtain⟨m,⟨o,_,_,ho,_⟩,_⟩:=I.loc;exact free _ o (λz=>(hch _ z).2.1 rfl) ho I.free
 ·rcases I.freeC x c e with hn|⟨h1,fo,fu,hz⟩
  ·obtain⟨v,o,ho,hd⟩:=I.cell x c e;exact .inl (free c o (λz=>(hch c z).2.2.1 x c e rfl) ho hn)
  ·exact .inr ⟨h1,fo,fu,frzs c fo fu hz⟩
 ·obtain⟨e,n,ne,nf,d⟩:=I.pin p hp;have nch:p.1 ∉ ch:=λz=>(hch p.1 z).2.2.2 p hp rfl;exact⟨keep p.1 p.2 ne nf nch e n,free p.1 p.2 nch e n,ne,nf,d⟩
theorem Inv.un{t':Nat}(I:Inv X pins σ H s)(u:Un X.fs [] H H' s.heap h')(hok:HOk X.prog X.w H' h'):Inv X pins σ H' { s with heap:=h',toks:=t' }:=by
 obtain⟨m,⟨o,es,ep,ho,r⟩,_⟩:=id I.loc;obtain⟨sl,hL⟩:=u.any ho I.free (by simp);exact I.step (g':=s.gens) (d':=s.drawn) (ch:=[]) (λ_ z=>nomatch z) (λb o _ hb _ e n=>u.keep b o e n hb (by simp)) (λb o _ hb _ e n=>u.slot b o e n hb (by simp)) (λb o _ e n=>u.free b o e n (by simp)) (λb o _ e=>u.there b o e (by simp)) u.tups u.frzs u.tbls (λm' hm=>by
  obtain⟨o',es',ep',ho',r'⟩:=hm;rw[ho] at ho';cases ho';exact⟨_,es',ep',hL,r'⟩) hok I.bare u.tabs
theorem Inv.call{g':Array GenState}{t':Nat}{d':Drawn}{ch:List Addr}(I:Inv X pins σ H s)(u:Un (frs X.stack) ch H H' s.heap h')(hok:HOk X.prog X.w H' h')(hg:AllBare g')
  (hch:∀b∈ch,(b∈X.ex\/X.s₀.heap.objs.size<=b)/\b≠X.env.locals/\(∀x c,X.env.cells.lookup x=some c->c≠b)/\∀p∈X.pn++pins,p.1≠b) :
  Inv X pins σ H' { s with heap:=h',gens:=g',drawn:=d',toks:=t' }:=by
 obtain⟨m,⟨o,es,ep,ho,r⟩,_⟩:=id I.loc;obtain⟨sl,hL⟩:=u.any ho I.free λz=>(hch _ z).2.1 rfl;exact I.step (ch:=ch) hch (λb o hL hb hc e n=>u.keep b o e n (λz=>(Qwq.mp (I.stkSub b z)).elim hL hb) hc) (λb o _ _ hc e n=>u.any e n hc) (λb o hc e n=>u.free b o e n hc) (λb o hc e=>u.there b o e hc) u.tups u.frzs u.tbls (λm' hm=>by
  obtain⟨o',es',ep',ho',r'⟩:=hm;rw[ho] at ho';cases ho';exact⟨_,es',ep',hL,r'⟩) hok hg u.tabs
theorem Inv.turned{t':Nat}{it:Addr}(I:Inv X pins σ H s)(k:∀b o,b≠it->s.heap.get? b=some o->h'.get? b=some o)(hn:H it=none)(hL:it≠X.env.locals)
  (h1:it∈X.ex\/X.s₀.heap.objs.size<=it) (h2:∀x c,X.env.cells.lookup x=some c->c≠it) (h3:∀p∈X.pn++pins,p.1≠it):Inv X pins σ H { s with heap:=h',toks:=t' }:=by
 have nit:∀b u,H b=some u->b≠it:=λb u e z=>by rw[z,hn] at e;cases e
 refine I.step (g':=s.gens) (d':=s.drawn) (ch:=[it]) (λb hb=>?_) (λb o _ _ hc e _=>k b o (λz=>hc (by simp[z])) e) (λb o _ _ hc e _=>⟨o.slots,k b o (λz=>hc (by simp[z])) e⟩) (λ_ _ _ _ n=>n)
  (λb o hc e=>⟨o,k b o (λz=>hc (by simp[z])) e⟩) (λ_ _ e=>e) (λ_ _ _ e=>e) (λb ps e=>⟨#[],by rw[e];simp⟩) (λm hm=>?_) (λb u e=>?_) I.bare
 ·have e:b=it:=by simpa using hb
  subst e;exact⟨h1,hL,h2,h3⟩
 ·obtain⟨o,es,ep,ho,r⟩:=hm;exact⟨o,es,ep,k _ o (Ne.symm hL) ho,r⟩
 ·refine(I.hok b u e).stay (λc v hc q=>k c v ?_ q) (λ_ q=>q) λ_ _ q=>q;rcases hc with z|z
  ·rw[z];exact nit b u e
  ·exact nit c _ z
theorem Inv.tok(I:Inv X pins σ H s)(t:Nat):Inv X pins σ H { s with toks:=t }:=I.un (h':=s.heap) (t':=t) Un.refl I.hok
theorem Inv.kept{t':Nat}(I:Inv X pins σ H s)(k:∀b u,s.heap.get? b=some u->h'.get? b=some u):Inv X pins σ H { s with heap:=h',toks:=t' }:=I.un (Un.kept k) (I.hok.kept k)
theorem Inv.laid{a:Addr}{o:HO}{t':Nat}(I:Inv X pins σ H s)(k:∀b u,s.heap.get? b=some u->h'.get? b=some u)(hp:s.heap.objs.size<=a)(new:ObjOk X.prog X.w (upd H a o) h' a o) :
  Inv X pins σ (upd H a o) { s with heap:=h',toks:=t' }:=I.un (Un.laid k hp (I.hok.fresh hp)) (I.hok.laid k hp new)
theorem Inv.write{x e:Addr}{o:HO}{t':Nat}(I:Inv X pins σ H s)(mu:Mut (H x))(he:e=x\/H e=some (.own x))(k:∀b u,b≠e->s.heap.get? b=some u->h'.get? b=some u)(heo:∃u,h'.get? e=some u)
  (new:ObjOk X.prog X.w (upd H x o) h' x o):Inv X pins σ (upd H x o) { s with heap:=h',toks:=t' }:=I.un (Un.write mu he k heo) (I.hok.write mu he k heo new)
theorem Inv.weak{σ':List (Option V)}(I:Inv X pins σ H s)(hl:σ'.length=σ.length)(w:∀(i:Nat) v,σ'[i]? = some (some v)->σ[i]? = some (some v)):Inv X pins σ' H s:=
 ⟨I.ok,I.os,I.bare,I.base,let ⟨m,hn,hl'⟩:=I.loc;⟨m,hn,λi x v e1 e2 e3=>hl' i x v e1 (w i v e2) e3⟩,I.cell,I.free,I.freeC,I.pin,I.hok,hl.trans I.len⟩
theorem Inv.pins_of{pins':List (Addr×Obj)}(I:Inv X pins σ H s)(h:∀p∈pins',s.heap.get? p.1=some p.2/\H p.1=none/\p.1≠X.env.locals/\p.1 ∉ X.fs/\∀v,p.2.data ≠ .cell v):Inv X pins' σ H s:=
 ⟨I.ok,I.os,I.bare,I.base,I.loc,I.cell,I.free,I.freeC,λp hp=>(Qzz.mp hp).elim (λz=>I.pin p (List.mem_append_left _ z)) (h p),I.hok,I.len⟩
theorem nodup_ix{N:List Str}(hN:N.Nodup){i j:Nat}{x:Str}(a:N[i]? = some x)(b:N[j]? = some x):i=j:=by obtain⟨h1,e1⟩:=Qq6.mp a;obtain⟨h2,e2⟩:=Qq6.mp b;exact(List.getElem_inj hN).mp (e1.trans e2.symm)
theorem store_ok2{M:Model}{A:Around}{E:Value->Shared->Prop}{i:Nat}{x:Str}{v:V}{u:Value}{Q:Unit->Shared->Prop}(I:Inv X pins σ H s)(hN:X.N.Nodup)(hi:X.N[i]? = some x)(hx:Loc X.env.scope x)(r:RelV v u)
  (h:∀s',Inv X pins (σ.set i (some v)) H s'->(∃a,Heap.SameBut a s.heap s'.heap/\(a=X.env.locals\/X.env.cells.lookup x=some a))->Q () s') (hf:X.fn x=true\/X.env.scope.names.lookup x=some .local:=by first|exact .inl rfl|exact .inr rfl|assumption):wpAny M A (storeName X.env x u) Q E s:=by
 obtain⟨m,hn,hl⟩:=id I.loc;have hcls:(X.env.scope.kind == .class||(X.env.scope.kind == .module&&X.env.locals != X.env.globals))=false:=by rw[I.ok.kind];rfl
 have hiσ:i<σ.length:=by rw[I.len];exact(Qq6.mp hi).1
 have cne:=I.cne;have tracked:∀{a:Addr} {h':Heap},(∃o,s.heap.get? a=some o/\H a=none)->Heap.SameBut a s.heap h'->HOk X.prog X.w H h':=λ{a h'} ha hs b ob e=>by
  obtain⟨_,_,hfree⟩:=ha;refine(I.hok b ob e).stay (λc w' hc q=>(hs.2 c ?_).trans q) (λ_ q=>q) λ_ _ q=>q;rintro rfl;rcases hc with rfl|hc
  ·rw[hfree] at e;cases e
  ·rw[hfree] at hc;cases hc
 rcases hx with hk|hk
 ·refine wpAny_storeName_local hk hn (λh' hn' hs=>?_) hcls;obtain⟨oL,_,_,hoL,_⟩:=id hn;refine h _ ⟨I.ok,I.os,I.bare,⟨λb o e n hb hx=>?_,λb o e n hb hx=>?_,I.base.free,λb o e hx=>?_,I.base.tups,I.base.frzs,I.base.tbls,I.base.tabs⟩,⟨_,hn',λj y v' e1 e2 e3=>?_⟩,λy c e=>?_,I.free,I.freeC,λp hp=>?_,tracked ⟨oL,hoL,I.free⟩ hs,by simpa using I.len⟩ ⟨_,hs,.inl rfl⟩
  ·exact(hs.2 b (Qwz (Qwx (Qq7 e) I.ok.above))).trans (I.base.keep b o e n hb hx)
  ·obtain⟨sl,e1⟩:=I.base.slot b o e n hb hx;exact⟨sl,(hs.2 b (Qwz (Qwx (Qq7 e) I.ok.above))).trans e1⟩
  ·obtain⟨o',e1⟩:=I.base.there b o e hx;exact⟨o',(hs.2 b (Qwz (Qwx (Qq7 e) I.ok.above))).trans e1⟩
  ·by_cases hj:j=i
   ·subst hj;rw[hi] at e1;cases e1;rw[Qq8 hiσ] at e2;cases e2;exact⟨u,r,.inl ⟨hk,by simp⟩⟩
   ·rw[Qqw (Ne.symm hj)] at e2;obtain⟨u',r',q⟩:=hl j y v' e1 e2 e3;refine⟨u',r',?_⟩;rcases q with ⟨k,e⟩|⟨k,c,e,z⟩
    ·refine .inl ⟨k,?_⟩;have:y≠x:=λe=>hj (nodup_ix hN e1 (e ▸ hi));simp[this,e]
    ·exact .inr ⟨k,c,e,z.sameBut hs (cne y c e)⟩
  ·obtain⟨w',z⟩:=I.cell y c e;exact⟨w',z.sameBut hs (cne y c e)⟩
  ·obtain⟨e,n,ne,nf,d⟩:=I.pin p hp;exact⟨(hs.2 p.1 ne).trans e,n,ne,nf,d⟩
 ·have hfn:X.fn x=true:=by
   rcases hf with z|z
   ·exact z
   ·rw[z] at hk;cases hk
  obtain⟨c,hc⟩:=I.ok.has x (.inl hk);obtain⟨w',z⟩:=I.cell x c hc;refine wpAny_storeName_cell I.ok.kind hk hc z (λh' hc' hs=>?_);obtain⟨oc,hoc,hocd⟩:=id z;refine h { s with heap:=h' } ⟨I.ok,I.os,I.bare,⟨λb o e n hb hx=>?_,λb o e n hb hx=>?_,I.base.free,λb o e hx=>?_,I.base.tups,I.base.frzs,I.base.tbls,I.base.tabs⟩,⟨m,hn.sameBut hs (Ne.symm (cne x c hc)),λj y v' e1 e2 e3=>?_⟩,λy c' e=>?_,I.free,I.freeC,λp hp=>?_,tracked ⟨oc,hoc,(I.freeC x c hc).resolve_right λz=>by rw[hfn] at z;cases z.1⟩ hs,by simpa using I.len⟩ ⟨c,hs,.inr hc⟩
  ·exact(hs.2 b (Qwz (Qwx (Qq7 e) (I.ok.cab x c hfn hc)))).trans (I.base.keep b o e n hb hx)
  ·obtain⟨sl,e1⟩:=I.base.slot b o e n hb hx;exact⟨sl,(hs.2 b (Qwz (Qwx (Qq7 e) (I.ok.cab x c hfn hc)))).trans e1⟩
  ·obtain⟨o',e1⟩:=I.base.there b o e hx;exact⟨o',(hs.2 b (Qwz (Qwx (Qq7 e) (I.ok.cab x c hfn hc)))).trans e1⟩
  ·by_cases hj:j=i
   ·subst hj;rw[hi] at e1;cases e1;rw[Qq8 hiσ] at e2;cases e2;exact⟨u,r,.inr ⟨.inl hk,c,hc,hc'⟩⟩
   ·rw[Qqw (Ne.symm hj)] at e2;obtain⟨u',r',q⟩:=hl j y v' e1 e2 e3;refine⟨u',r',?_⟩;rcases q with q|⟨k,c',e,z'⟩
    ·exact .inl q
    ·refine .inr ⟨k,c',e,z'.sameBut hs ?_⟩;rintro rfl;exact hj (nodup_ix hN e1 (I.ok.inj _ _ _ e hc ▸ hi))
  ·by_cases hcc:c'=c
   ·subst hcc;exact⟨_,hc'⟩
   ·obtain⟨w2,z2⟩:=I.cell y c' e;exact⟨w2,z2.sameBut hs hcc⟩
  ·obtain⟨e,n,ne,nf,d⟩:=I.pin p hp;refine⟨(hs.2 p.1 ?_).trans e,n,ne,nf,d⟩;intro q;rw[q,hoc] at e;have q':oc=p.2:=Qxq e;exact d w' (by rw[<-q'];exact hocd)
theorem store_ok{M:Model}{A:Around}{E:Value->Shared->Prop}{i:Nat}{x:Str}{v:V}{u:Value}{Q:Unit->Shared->Prop}(I:Inv X pins σ H s)(hN:X.N.Nodup)(hi:X.N[i]? = some x)(hx:Loc X.env.scope x)(r:RelV v u)
  (h:∀s',Inv X pins (σ.set i (some v)) H s'->Q () s') (hf:X.fn x=true\/X.env.scope.names.lookup x=some .local:=by first|exact .inl rfl|exact .inr rfl|assumption):wpAny M A (storeName X.env x u) Q E s:=
 store_ok2 I hN hi hx r (λs' I' _=>h s' I') hf
theorem Inv.call'{s':Shared}{ch:List Addr}(I:Inv X pins σ H s)(ho:s'.os=s.os)(u:Un (frs X.stack) ch H H' s.heap s'.heap)(hok:HOk X.prog X.w H' s'.heap)(hg:AllBare s'.gens)
  (hch:∀b∈ch,(b∈X.ex\/X.s₀.heap.objs.size<=b)/\b≠X.env.locals/\(∀x c,X.env.cells.lookup x=some c->c≠b)/\∀p∈X.pn++pins,p.1≠b):Inv X pins σ H' s':=by
 obtain⟨h',g',d',t',o'⟩:=s';have e:o'=s.os:=ho;subst e;exact I.call (g':=g') (t':=t') (d':=d') u hok hg hch
end
abbrev XK:=Value->Option Addr->Hp->Prop
abbrev St:=List (Option V)
abbrev VK:=V->Hp->Prop
abbrev TE:=St->Hp->VK->Prop
abbrev TT:=St->Hp->(Bool->Hp->Prop)->Prop
abbrev TA:=St->Hp->(List V->Hp->Prop)->Prop
structure Ends where
 nx:St->Hp->Prop
 rt:VK
 bk:St->Hp->Prop:=λ_ _=>False
 ct:St->Hp->Prop:=λ_ _=>False
abbrev TS:=Ends->St->Hp->Prop
def EP(X:Cx)(pins:List (Addr×Obj))(σ:St)(Q:VK)(u:Value)(s':Shared):Prop:=∃v H',Inv X pins σ H' s'/\RelV v u/\Q v H'
def TP(X:Cx)(pins:List (Addr×Obj))(σ:St)(Q:Bool->Hp->Prop)(b:Bool)(s':Shared):Prop:=∃H',Inv X pins σ H' s'/\Q b H'
def AP(X:Cx)(pins:List (Addr×Obj))(σ:St)(Q:List V->Hp->Prop)(us:List Value)(s':Shared):Prop:=∃vs H',Inv X pins σ H' s'/\Vals vs us/\Q vs H'
def SP(X:Cx)(pins:List (Addr×Obj))(D:Ends)(f:Flow)(s':Shared):Prop:=
 match f with
 | .next=>∃σ' H',Inv X pins σ' H' s'/\D.nx σ' H'
 | .brk=>∃σ' H',Inv X pins σ' H' s'/\D.bk σ' H'
 | .cont=>∃σ' H',Inv X pins σ' H' s'/\D.ct σ' H'
 | .ret u=>∃v σ' H',Inv X pins σ' H' s'/\RelV v u/\D.rt v H'
def PE(X:Cx)(e:Expr)(t:TE):Prop:=
 ∀(pins:List (Addr×Obj)) (s:Shared) (σ:St) (H:Hp) (Q:VK),Inv X pins σ H s->t σ H Q->wpAny (model X.prog X.w) X.A (eval e X.env) (EP X pins σ Q) X.xe s
def PT(X:Cx)(e:Expr)(t:TT):Prop:=
 ∀(pins:List (Addr×Obj)) (s:Shared) (σ:St) (H:Hp) (Q:Bool->Hp->Prop),Inv X pins σ H s->t σ H Q->wpAny (model X.prog X.w) X.A (isTrue e X.env (eval e X.env)) (TP X pins σ Q) X.xe s
def PW(X:Cx)(e:Expr)(t:TT):Prop:=
 ∀(whole:Sem Value) (pins:List (Addr×Obj)) (s:Shared) (σ:St) (H:Hp) (Q:Bool->Hp->Prop),Inv X pins σ H s->t σ H Q->wpAny (model X.prog X.w) X.A (isTrue e X.env whole) (TP X pins σ Q) X.xe s
theorem PW.pt{X:Cx}{e:Expr}{t:TT}(h:PW X e t):PT X e t:=h _
def PA(X:Cx)(es:List Expr)(t:TA):Prop:=
 ∀(pos:Pos) (pins:List (Addr×Obj)) (s:Shared) (σ:St) (H:Hp) (Q:List V->Hp->Prop),Inv X pins σ H s->t σ H Q->wpAny (model X.prog X.w) X.A (spliced (backTo pos (starEach es X.env))) (AP X pins σ Q) X.xe s
def PS(X:Cx)(st:Stmt)(t:TS):Prop:=
 ∀(pins:List (Addr×Obj)) (s:Shared) (σ:St) (H:Hp) (D:Ends),Inv X pins σ H s->t D σ H->wpAny (model X.prog X.w) X.A (exec st X.env) (SP X pins D) X.xe s
def PSs(X:Cx)(st:List Stmt)(t:TS):Prop:=
 ∀(pins:List (Addr×Obj)) (s:Shared) (σ:St) (H:Hp) (D:Ends),Inv X pins σ H s->t D σ H->wpAny (model X.prog X.w) X.A (execs st X.env) (SP X pins D) X.xe s
theorem thn{α:Type}{t:Sem α}{Q Q':α->Shared->Prop}{M:Model}{A:Around}{E:Value->Shared->Prop}{s:Shared}(h:wpAny M A t Q E s)(hQ:∀a s,Q a s->Q' a s):wpAny M A t Q' E s:=Qw6 h hQ λ_ _ x=>x
section
variable{X:Cx}
def tVar(i:Nat):TE:=λσ H Q=>∃v,σ[i]? = some (some v)/\Q v H
def tC(v:V):TE:=λ_ H Q=>Q v H
theorem pe_var{i:Nat}{x:Str}{pos:Pos}(hN:X.N[i]? = some x)(hv:Vis X.env.scope x)(hd:nDb x:=by decide)(hcd:nCd x:=by decide):PE X (.Name x pos) (tVar i):=by
 intro pins s σ H Q I h;obtain⟨v,e,h⟩:=h;obtain⟨m,hn,hl⟩:=I.loc;obtain⟨u,r,l⟩:=hl i x v hN e hv;have fin:EP X pins σ Q u s:=⟨v,H,I,r,h⟩;rcases l with ⟨hk,hm⟩|⟨hk,c,hc,hcell⟩
 ·exact wpAny_Name (wpAny_loadName_local I.ok.kind hk hn hm fin) hd
 ·rcases hk with hk|hk
  ·exact wpAny_Name (wpAny_loadName_cell I.ok.kind hk hc hcell fin) hd
  ·exact wpAny_Name (wpAny_loadName_free I.ok.kind hk hc hcell fin hcd) hd
theorem pe_int{i j pos}:PE X (.Constant (.int i) j pos) (tC (.int i)):=λ_ _ _ H _ I h=>wpAny_Constant_int ⟨.int i,H,I.tok _,⟨_,rfl⟩,h⟩
theorem pe_bl{b j pos}:PE X (.Constant (.bool b) j pos) (tC (.bl b)):=λ_ _ _ H _ I h=>Constant_bool ⟨.bl b,H,I,rfl,h⟩
theorem pe_non{j pos}:PE X (.Constant .none j pos) (tC .non):=λ_ _ _ H _ I h=>Constant_none ⟨.non,H,I,rfl,h⟩
theorem pe_str{x j pos}:PE X (.Constant (.str x) j pos) (tC (.str x)):=λ_ _ _ H _ I h=>Calls.Constant_str ⟨.str x,H,I.tok _,⟨_,rfl⟩,h⟩
def Gl(X:Cx)(x:Str):Prop:=X.env.kindOf x=some .globalImplicit
theorem ld_glob{E:Value->Shared->Prop}{pins:List (Addr×Obj)}{s:Shared}{σ:St}{H:Hp}{x:Str}{u:Value}{pos:Pos}{Q:Value->Shared->Prop}(I:Inv X pins σ H s)(hg:Gl X x)(hm:X.mg x=some u)(h:Q u s)
  (hd:nDb x:=by decide):wpAny (model X.prog X.w) X.A (eval (.Name x pos) X.env) Q E s:=
 Calls.Name_function_global I.ok.kind hg (Calls.loadGlobal_global (by rw[I.ok.glob];exact I.mod.glob.keeps I.bk) hm h) hd
theorem ld_blt{E:Value->Shared->Prop}{pins:List (Addr×Obj)}{s:Shared}{σ:St}{H:Hp}{x:Str}{u:Value}{pos:Pos}{Q:Value->Shared->Prop}(I:Inv X pins σ H s)(hg:Gl X x)(hm:X.mg x=none)(hv:bootBuiltins x=some u)(h:Q u s)
  (hn:x ≠ "__name__":=by decide) (hd:nDb x:=by decide):wpAny (model X.prog X.w) X.A (eval (.Name x pos) X.env) Q E s:=by
 obtain⟨mb,h1,h2⟩:=I.mod.blt;exact Calls.Name_function_global I.ok.kind hg (Calls.loadGlobal_builtin (by rw[I.ok.glob];exact I.mod.glob.keeps I.bk) hm (by rw[I.ok.blt];exact h1.keeps I.bk) ((h2 x hn).trans hv) h) hd
theorem pe_glob{x:Str}{v:V}{u:Value}{pos:Pos}(hg:Gl X x)(hm:X.mg x=some u)(r:RelV v u)(hd:nDb x:=by decide):PE X (.Name x pos) (tC v):=
 λ_ _ _ H _ I h=>ld_glob I hg hm ⟨v,H,I,r,h⟩ hd
theorem pe_bltn{x:Str}{v:V}{u:Value}{pos:Pos}(hg:Gl X x)(hm:X.mg x=none)(hv:bootBuiltins x=some u)(r:RelV v u)(hn:x ≠ "__name__":=by decide)(hd:nDb x:=by decide):PE X (.Name x pos) (tC v):=
 λ_ _ _ H _ I h=>ld_blt I hg hm hv ⟨v,H,I,r,h⟩ hn hd
variable{a b:Expr}{ta tb:TE}{pos:Pos}
def tB(t:TE):TT:=λσ H Q=>t σ H λx H1=>∃c,x = .bl c/\Q c H1
theorem pt_val{e:Expr}{t:TE}(h:PE X e t)(he:∀whole,isTrue e X.env whole=(do let v <-whole;standAt e.pos;holding [v] (truthy v)):=by intro _;rfl):PT X e (tB t):=by intro pins s σ H Q I hw;refine isTrue_plain (thn (h pins s σ H _ I hw) λv s1 ⟨x,H1,I1,r1,q1⟩=>?_) (he _);obtain⟨d,rfl,q⟩:=q1;cases r1;exact Qz1 ⟨H1,I1,q⟩
variable{tA tB':TT}{rest:List Expr}
def tOr(t u:TT):TT:=λσ H Q=>t σ H λc H1=>if c=true then Q true H1 else u σ H1 Q
def tNot(t:TT):TT:=λσ H Q=>t σ H λc H1=>Q (!c) H1
theorem pw_or1(ha:PT X a tA):PW X (.BoolOp .Or [a] pos) tA:=by
 intro wh pins s σ H Q I h;refine isTrue_or (thn (ha pins s σ H Q I h) λc s1 e=>?_);cases c with
 | false=>exact isTrue_or_nil e
 | true=>exact e
theorem pw_or(ha:PT X a tA)(hb:PW X (.BoolOp .Or (b::rest) pos) tB'):PW X (.BoolOp .Or (a::b::rest) pos) (tOr tA tB'):=by
 intro wh pins s σ H Q I h;refine isTrue_or (thn (ha pins s σ H _ I h) λc s1 ⟨H1,I1,q1⟩=>?_);cases c with
 | true=>exact⟨H1,I1,q1⟩
 | false=>exact hb wh pins s1 σ H1 Q I1 q1
theorem pt_not(ha:PT X a tA):PT X (.UnaryOp .Not a pos) (tNot tA):=by intro pins s σ H Q I h;exact isTrue_not (ha pins s σ H (λc H1=>Q (!c) H1) I h)
def tAndV(ta tb:TE):TE:=λσ H Q=>ta σ H λx H1=>∃c,x = .bl c/\if c=true then tb σ H1 Q else Q (.bl false) H1
def tNotV(ta:TE):TE:=λσ H Q=>ta σ H λx H1=>∃c,x = .bl c/\Q (.bl (!c)) H1
theorem pe_one{op}{t:TE}(h:PE X a t):PE X (.BoolOp op [a] pos) t:=λpins s σ H Q I hw=>BoolOp_one (h pins s σ H Q I hw)
theorem pe_and(ha:PE X a ta)(hb:PE X (.BoolOp .And (b::rest) pos) tb):PE X (.BoolOp .And (a::b::rest) pos) (tAndV ta tb):=by
 intro pins s σ H Q I h;refine BoolOp_and (thn (ha pins s σ H _ I h) λv s1 ⟨x,H1,I1,r1,q1⟩=>?_);obtain⟨c,rfl,q1⟩:=q1;cases r1;refine Qz1 ?_;cases c with
 | true=>exact hb pins s1 σ H1 Q I1 q1
 | false=>exact⟨.bl false,H1,I1,rfl,q1⟩
theorem pe_not(ha:PE X a ta):PE X (.UnaryOp .Not a pos) (tNotV ta):=by intro pins s σ H Q I h;refine UnaryOp_ (thn (ha pins s σ H _ I h) λv s1 ⟨x,H1,I1,r1,q1⟩=>?_);obtain⟨c,rfl,q1⟩:=q1;cases r1;exact not_of (Qz1 ⟨.bl (!c),H1,I1,rfl,q1⟩)
end
def SqL(K:PySem.W.Frag)(H:Hp)(a:Addr)(xs:List V):Prop:=
 Rd H a (.lst xs)\/
  ∃(o:Obj) (its:Array Value) (n:Nat),K.lookup a=some o/\o.cls = .type "list"/\o.dict=none/\o.data = .seq its n/\its.size<=sizeLine/\Vals xs its.toList
def SqT(K:PySem.W.Frag)(H:Hp)(a:Addr)(xs:List V):Prop:=
 Rd H a (.tup xs)\/
  ∃(o:Obj) (its:Array Value) (n:Nat),K.lookup a=some o/\o.cls = .type "tuple"/\o.dict=none/\o.data = .seq its n/\its.size<=sizeLine/\Vals xs its.toList
def absV:Value->Option V
 | .none=>some .non
 | .bool b=>some (.bl b)
 | .int i _=>some (.int i)
 | .str x _=>some (.str x)
 | .bytes b _=>some (.byt b)
 | .float b _=>some (.flt b)
 | .ref a=>some (.ref a)
 | .type n=>some (.ty n)
 | _=>none
theorem RelV.abs{x:V}{u:Value}(r:RelV x u):absV u=some x:=by
 cases x with
 | non=>cases r;rfl
 | bl _=>cases r;rfl
 | int _=>obtain⟨t,rfl⟩:=r;rfl
 | str _=>obtain⟨t,rfl⟩:=r;rfl
 | byt _=>obtain⟨t,rfl⟩:=r;rfl
 | flt _=>obtain⟨t,rfl⟩:=r;rfl
 | ref _=>cases r;rfl
 | ty _=>cases r;rfl
theorem RelV.inj{x y:V}{u:Value}(r:RelV x u)(q:RelV y u):x=y:=Qxq (r.abs.symm.trans q.abs)
theorem Vals.inj:∀{xs ys:List V} {us:List Value},Vals xs us->Vals ys us->xs=ys
 | _,_,_,.nil,.nil=>rfl
 | _,_,_,.cons r t,.cons r' t'=>by rw[r.inj r',Vals.inj t t']
section
variable{X:Cx}{pins:List (Addr×Obj)}{σ:St}{H:Hp}{s:Shared}{a:Addr}{xs ys:List V}
theorem SqL.of{K:PySem.W.Frag}(h:H a=some (.lst xs)):SqL K H a xs:=.inl (.inl h)
theorem SqT.of{K:PySem.W.Frag}(h:H a=some (.tup xs)):SqT K H a xs:=.inl (.inl h)
theorem Inv.list(I:Inv X pins σ H s)(h:SqL X.K H a xs):∃its:List Value,Vals xs its/\PlainL s.heap a its.toArray/\xs.length<=sizeLine:=by
 rcases h with h|⟨o,its,n,hk,hc,hd,hs,hz,r⟩
 ·obtain⟨z,its,n,r,e⟩:=h.ok I.hok;exact⟨its,r,⟨_,n,e,rfl,rfl,rfl⟩,z⟩
 ·refine⟨its.toList,r,⟨o,n,I.kIn a o hk,hc,hd,by simpa using hs⟩,?_⟩;have e:=r.length;simp only[Qzw] at e;omega
theorem Inv.tuple(I:Inv X pins σ H s)(h:SqT X.K H a xs):∃its:List Value,Vals xs its/\IsTup s.heap a its.toArray/\xs.length<=sizeLine:=by
 rcases h with h|⟨o,its,n,hk,hc,hdn,hs,hz,r⟩
 ·obtain⟨z,its,r,p⟩:=h.ok I.hok;exact⟨its,r,p.is,z⟩
 ·refine⟨its.toList,r,⟨o,I.kIn a o hk,hc,n,by simpa using hs⟩,?_⟩;have e:=r.length;simp only[Qzw] at e;omega
theorem Inv.list_inj(I:Inv X pins σ H s)(h:SqL X.K H a xs)(h':SqL X.K H a ys):xs=ys:=by
 obtain⟨its,r,⟨o,n,e,_,_,d⟩,_⟩:=I.list h;obtain⟨its',r',⟨o',n',e',_,_,d'⟩,_⟩:=I.list h';rw[e] at e';cases e';rw[d] at d';injection d' with d1 _
 have:its=its':=by simpa using Qkz Array.toList d1
 subst this;exact r.inj r'
theorem Inv.tuple_inj(I:Inv X pins σ H s)(h:SqT X.K H a xs)(h':SqT X.K H a ys):xs=ys:=by
 obtain⟨its,r,⟨o,e,_,n,d⟩,_⟩:=I.tuple h;obtain⟨its',r',⟨o',e',_,n',d'⟩,_⟩:=I.tuple h';rw[e] at e';cases e';rw[d] at d';injection d' with d1 _
 have:its=its':=by simpa using Qkz Array.toList d1
 subst this;exact r.inj r'
end
abbrev Cx.wish(X:Cx)(E:Value->Shared->Prop):Cx:={ X with xe:=E }
abbrev Cx.nox(X:Cx):Cx:=X.wish λ_ _=>False
theorem Cx.Ok.wish{X:Cx}(ok:X.Ok)(E:Value->Shared->Prop):(X.wish E).Ok:=
 ⟨ok.mod,ok.kind,ok.glob,ok.blt,ok.above,ok.inj,ok.has,ok.cab,ok.hd,ok.frames,ok.stk,ok.exf,ok.bs,ok.bsz,ok.noex,ok.exfs,ok.funs,ok.frf⟩
theorem Cx.Ok.unwish{X:Cx}{E:Value->Shared->Prop}(ok:(X.wish E).Ok):X.Ok:=
 ⟨ok.mod,ok.kind,ok.glob,ok.blt,ok.above,ok.inj,ok.has,ok.cab,ok.hd,ok.frames,ok.stk,ok.exf,ok.bs,ok.bsz,ok.noex,ok.exfs,ok.funs,ok.frf⟩
section
variable{X:Cx}{pins:List (Addr×Obj)}{σ:St}{H:Hp}{s:Shared}{E:Value->Shared->Prop}
theorem Inv.wish(I:Inv X pins σ H s)(E:Value->Shared->Prop):Inv (X.wish E) pins σ H s:=⟨I.ok.wish E,I.os,I.bare,I.base,I.loc,I.cell,I.free,I.freeC,I.pin,I.hok,I.len⟩
theorem Inv.unwish(I:Inv (X.wish E) pins σ H s):Inv X pins σ H s:=⟨I.ok.unwish,I.os,I.bare,I.base,I.loc,I.cell,I.free,I.freeC,I.pin,I.hok,I.len⟩
theorem SP.unwish{D:Ends}{f:Flow}{s':Shared}(h:SP (X.wish E) pins D f s'):SP X pins D f s':=by
 cases f with
 | next=>obtain⟨σ',H',I,q⟩:=h;exact⟨σ',H',I.unwish,q⟩
 | brk=>obtain⟨σ',H',I,q⟩:=h;exact⟨σ',H',I.unwish,q⟩
 | cont=>obtain⟨σ',H',I,q⟩:=h;exact⟨σ',H',I.unwish,q⟩
 | ret u=>obtain⟨v,σ',H',I,r,q⟩:=h;exact⟨v,σ',H',I.unwish,r,q⟩
theorem PT.nox{e:Expr}{t:TT}(h:PT X.nox e t):PT X e t:=λpins s σ H Q I hw=>
 Qw6 (h pins s σ H Q (I.wish _) hw) (λ_ _ ⟨H',I',q⟩=>⟨H',I'.unwish,q⟩) λ_ _ z=>False.elim z
theorem PSs.nox{st:List Stmt}{t:TS}(h:PSs X.nox st t):PSs X st t:=λpins s σ H D I hw=>
 Qw6 (h pins s σ H D (I.wish _) hw) (λ_ _ q=>q.unwish) λ_ _ z=>False.elim z
end
section
variable{X:Cx}{st:Stmt}{rest:List Stmt}{t u:TS}{e:Expr}{te:TE}{pos:Pos}
def tNext:TS:=λD σ H=>D.nx σ H
def tSeq(t u:TS):TS:=λD σ H=>t { D with nx:=u D } σ H
theorem pss_nil:PSs X [] tNext:=λ_ _ σ H _ I h=>wpAny_execs_nil ⟨σ,H,I,h⟩
theorem pss_cons(h1:PS X st t)(h2:PSs X rest u):PSs X (st::rest) (tSeq t u):=by
 intro pins s σ H D I h;refine wpAny_execs_cons (thn (h1 pins s σ H { D with nx:=u D } I h) λf s1 q=>?_);cases f with
 | next=>
  obtain⟨σ',H',I',q⟩:=q;exact h2 pins s1 σ' H' D I' q
 | ret v=>exact q
 | brk=>exact q
 | cont=>exact q
theorem pss_one(h1:PS X st t):PSs X [st] t:=by
 intro pins s σ H D I h;refine wpAny_execs_cons (thn (h1 pins s σ H D I h) λf s1 q=>?_);cases f with
 | next=>exact wpAny_execs_nil q
 | ret v=>exact q
 | brk=>exact q
 | cont=>exact q
theorem Inv.quiet{pins:List (Addr×Obj)}{σ:St}{H:Hp}{s:Shared}(I:Inv X pins σ H s):interactive X.env=false:=by simp[interactive,I.ok.kind]
def tDrop(te:TE):TS:=λD σ H=>te σ H λ_ H1=>D.nx σ H1
theorem ps_expr(he:PE X e te)(hs:swapsWith e none pos.line X.env=pure false:=by rfl):PS X (.Expr e pos) (tDrop te):=by intro pins s σ H D I h;exact wpAny_Expr_any (thn (he pins s σ H _ I h) λv s1 ⟨x,H1,I1,r1,q1⟩=>⟨σ,H1,I1,q1⟩) I.quiet hs
def tRet(te:TE):TS:=λD σ H=>te σ H D.rt
theorem ps_ret(he:PE X e te):PS X (.Return (some e) pos) (tRet te):=by intro pins s σ H D I h;exact wpAny_Return_some (thn (he pins s σ H _ I h) λv s1 ⟨x,H1,I1,r1,q1⟩=>⟨x,σ,H1,I1,r1,q1⟩)
def tIfS(c:TT)(t u:TS):TS:=λD σ H=>c σ H λb H1=>if b=true then t D σ H1 else u D σ H1
theorem ps_if{c:Expr}{a b:List Stmt}{tc:TT}(hc:PT X c tc)(ha:PSs X a t)(hb:PSs X b u):PS X (.If c a b pos) (tIfS tc t u):=by
 intro pins s σ H D I h;refine wpAny_If (thn (hc pins s σ H _ I h) λd s1 ⟨H1,I1,q1⟩=>?_);cases d with
 | true=>exact ha pins s1 σ H1 D I1 q1
 | false=>exact hb pins s1 σ H1 D I1 q1
end
abbrev TG:=V->St->Hp->(St->Hp->Prop)->Prop
abbrev TGs:=List V->St->Hp->(St->Hp->Prop)->Prop
def PG(X:Cx)(target:Expr)(t:TG):Prop:=
 ∀(pins:List (Addr×Obj)) (s:Shared) (σ:St) (H:Hp) (v:V) (u:Value) (Q:St->Hp->Prop),Inv X pins σ H s->RelV v u->t v σ H Q->
  wpAny (model X.prog X.w) X.A (assign target X.env u) (λ_ s'=>∃σ' H',Inv X pins σ' H' s'/\Q σ' H') X.xe s
def PGs(X:Cx)(ts:List Expr)(t:TGs):Prop:=
 ∀(pins:List (Addr×Obj)) (s:Shared) (σ:St) (H:Hp) (vs:List V) (us:List Value) (Q:St->Hp->Prop),Inv X pins σ H s->Vals vs us->t vs σ H Q->
  wpAny (model X.prog X.w) X.A (assignInOrder ((assignEach ts X.env).map (·.2)) us) (λ_ s'=>∃σ' H',Inv X pins σ' H' s'/\Q σ' H') X.xe s
abbrev TSet:=V->V->V->Hp->(Hp->Prop)->Prop
def PSet(X:Cx)(t:TSet):Prop:=
 ∀(pins:List (Addr×Obj)) (s:Shared) (σ:St) (H:Hp) (o i v:V) (ov iv u:Value) (Q:Hp->Prop),Inv X pins σ H s->RelV o ov->RelV i iv->RelV v u->t o i v H Q->
  wpAny (model X.prog X.w) X.A (setItem ov iv u) (λ_ s'=>∃H',Inv X pins σ H' s'/\Q H') X.xe s
section
variable{X:Cx}{pos:Pos}
def gName(i:Nat):TG:=λv σ H Q=>Q (σ.set i (some v)) H
theorem pg_name{i:Nat}{x:Str}(hN:X.N.Nodup)(hi:X.N[i]? = some x)(hx:Loc X.env.scope x)(hf:X.fn x=true\/X.env.scope.names.lookup x=some .local:=by first|exact .inl rfl|exact .inr rfl|assumption):PG X (.Name x pos) (gName i):=by intro pins s σ H v u Q I r h;exact wpAny_assign_Name (store_ok I hN hi hx r (λs' I'=>⟨_,H,I',h⟩) hf)
def gNil:TGs:=λvs σ H Q=>vs=[]/\Q σ H
def gCons(t:TG)(u:TGs):TGs:=λvs σ H Q=>∃v r,vs=v::r/\t v σ H λσ' H'=>u r σ' H' Q
theorem pgs_nil:PGs X [] gNil:=by intro pins s σ H vs us Q I r h;obtain⟨e,h⟩:=h;subst e;cases r;exact assignInOrder_nil ⟨σ,H,I,h⟩
theorem pgs_cons{e:Expr}{es:List Expr}{t:TG}{u:TGs}(h1:PG X e t)(h2:PGs X es u)
  (hs:(assignEach (e::es) X.env).map (·.2)=assign e X.env::(assignEach es X.env).map (·.2):=by rfl):PGs X (e::es) (gCons t u):=by
 intro pins s σ H vs us Q I r h;obtain⟨v,vr,e1,h⟩:=h;subst e1;cases r with
 | cons r rr=>
  rw[hs];refine assignInOrder_cons (thn (h1 pins s σ H _ _ _ I r h) λ_ s1 ⟨σ1,H1,I1,q1⟩=>?_);exact h2 pins s1 σ1 H1 _ _ Q I1 rr q1
def gTup(K:PySem.W.Frag)(n:Nat)(t:TGs):TG:=λv σ H Q=>∃a xs,v = .ref a/\SqT K H a xs/\xs.length=n/\t xs σ H Q
theorem pg_tup{es:List Expr}{k:Nat}{t:TGs}{n:Nat}(hc:X.calm=true)(h:PGs X es t)
  (hn:(assignEach es X.env).length=n:=by rfl) (hst:(assignEach es X.env).findIdx? (·.1)=none:=by rfl):PG X (.Tuple es k pos) (gTup X.K n t):=by
 intro pins s σ H v u Q I r hw;obtain⟨a,xs,e1,hq,hl,hw⟩:=hw;subst e1;cases r;obtain⟨its,rv,ht,hz⟩:=I.tuple hq;refine assign_Tuple_tuple (I.ok.hd hc) ht (by simp[hn,<-hl,rv.length]) hst λh' hx=>?_;have I1:Inv X pins σ H { s with heap:=h' }:=I.kept (t':=s.toks) λb o e=>hx b o (Qwz (Qq7 e)) e;exact h pins _ σ H xs _ Q I1 (by simpa using rv) hw
def gSub(to ti:TE)(t:TSet):TG:=λv σ H Q=>to σ H λo H1=>ti σ H1 λi H2=>t o i v H2 λH3=>Q σ H3
theorem pg_sub{o i:Expr}{to ti:TE}{t:TSet}(ho:PE X o to)(hi:PE X i ti)(hs:PSet X t)
  (ha:∀v,assign (.Subscript o i pos) X.env v=(do
   let ov <-holding [v] (eval o X.env)
   let iv <-holding [v,ov] (eval i X.env)
   standAt pos
   holding [v,ov,iv] (setItem ov iv v)
   release [v,ov,iv] []):=by intro _;rfl):PG X (.Subscript o i pos) (gSub to ti t):=by
 intro pins s σ H v u Q I r h;rw[ha];refine Qqq (Qx6 (thn (ho pins s σ H _ I h) λov s1 ⟨x,H1,I1,r1,q1⟩=>?_));refine Qqq (Qx6 (thn (hi pins s1 σ H1 _ I1 q1) λiv s2 ⟨y,H2,I2,r2,q2⟩=>?_));refine Qqq (wpAny_standAt (Qqq (Qx6 (thn (hs pins s2 σ H2 x y v ov iv u _ I2 r1 r2 r q2) λ_ s3 ⟨H3,I3,q3⟩=>?_))));exact wpAny_release ⟨σ,H3,I3,q3⟩
def tAsg(te:TE)(g:TG):TS:=λD σ H=>te σ H λx H1=>g x σ H1 D.nx
theorem ps_asg{tg e:Expr}{te:TE}{g:TG}(he:PE X e te)(hg:PG X tg g)(hs:swapsWithSole [tg] e pos.line X.env=pure false:=by rfl)(hw:swappedStores [tg] e X.env=pure none:=by rfl)
  (h1:(assignEach [tg] X.env).map (·.2)=[assign tg X.env]:=by rfl):PS X (.Assign [tg] e pos) (tAsg te g):=by
 intro pins s σ H D I h;refine wpAny_Assign_stores (thn (he pins s σ H _ I h) λv s1 ⟨x,H1,I1,r1,q1⟩=>?_) hs hw;rw[h1];exact thn (hg pins s1 σ H1 x v _ I1 r1 q1) λ_ s2 q=>q
theorem ps_set{i:Nat}{x:Str}{e:Expr}{te:TE}{pos':Pos}(hN:X.N.Nodup)(hi:X.N[i]? = some x)(hx:Loc X.env.scope x)(he:PE X e te)(hs:swapsWith e (some (.Name x pos')) pos.line X.env=pure false:=by rfl)(hf:X.fn x=true\/X.env.scope.names.lookup x=some .local:=by first|exact .inl rfl|exact .inr rfl|assumption) :
  PS X (.Assign [.Name x pos'] e pos) (tAsg te (gName i)):=by
 intro pins s σ H D I h;refine wpAny_Assign_Name (thn (he pins s σ H _ I h) λv s1 ⟨y,H1,I1,r1,q1⟩=>?_) hs;exact store_ok I1 hN hi hx r1 (λs2 I2=>⟨_,H1,I2,q1⟩) hf
end
structure It where
 go:Nat->Hp->Prop
 yld:Nat->Hp->V->Hp->Prop
 stop:Nat->Hp->Prop
def FpOk(X:Cx)(pins:List (Addr×Obj))(H:Hp)(b:Addr):Prop:=
 H b=none/\b≠X.env.locals/\b ∉ X.fs/\(b∈X.ex\/X.s₀.heap.objs.size<=b)/\(∀x c,X.env.cells.lookup x=some c->c≠b)/\∀p∈X.pn++pins,p.1≠b
theorem Inv.fpOk{X:Cx}{pins:List (Addr×Obj)}{σ:St}{H H':Hp}{s:Shared}{b:Addr}(I:Inv X pins σ H s)(hb:s.heap.objs.size<=b)(hn:H' b=none):FpOk X pins H' b:=by
 refine⟨hn,Qj2 (Qwx I.lt hb),I.nofs hb,.inr (Qq2 I.sz hb),λx c e z=>?_,λp hp z=>?_⟩
 ·obtain⟨v,q⟩:=I.cell x c e;exact absurd (Qwx q.lt (by rw[z];exact hb)) (Qx9 _)
 ·exact absurd (Qwx (Qq7 (I.pin p hp).1) (by rw[z];exact hb)) (Qx9 _)
structure Turn(P:Program)(w:World)(K:PySem.W.Frag)(tg:Expr)(J:It)(fp:List Addr)(it:Addr)(tn:Nat->Heap->Prop):Prop where
 mem:it∈fp
 obj:∀i h,tn i h->∀b∈fp,∃o,h.get? b=some o/\∀v,o.data ≠ .cell v
 keep:∀i h h',tn i h->(∀b∈fp,∀o,h.get? b=some o->h'.get? b=some o)->tn i h'
 item:∀(X:Cx),X.prog=P->X.w=w->X.K=K->X.calm=true->∀(i:Nat) (pins:List (Addr×Obj)) (s:Shared) (σ:St) (H:Hp) (E:Value->Shared->Prop),Inv X pins σ H s->(∀b∈fp,FpOk X pins H b)->tn i s.heap->J.go i H->
  wpAny (model P w) X.A (pyNext (.ref it)) (λr s1=>∃u,r=some u/\
   wpAny (model P w) X.A (letOwnedTupleGo tg (.ref it) u) (λ_ s2=>∃x H',Inv X pins σ H' s2/\RelV x u/\J.yld i H x H'/\tn (i+1) s2.heap/\∀b∈fp,H' b=none) E s1) E s
 done:∀(X:Cx),X.prog=P->X.w=w->X.K=K->X.calm=true->∀(i:Nat) (pins:List (Addr×Obj)) (s:Shared) (σ:St) (H:Hp) (E:Value->Shared->Prop),Inv X pins σ H s->(∀b∈fp,FpOk X pins H b)->tn i s.heap->J.stop i H->
  wpAny (model P w) X.A (pyNext (.ref it)) (λr s1=>r=none/\Inv X pins σ H s1) E s
 self:∀(A:Around) (i:Nat) (s:Shared) (Q:Value->Shared->Prop) (E:Value->Shared->Prop),tn i s.heap->Q (.ref it) s->wpAny (model P w) A (pyIter (.ref it)) Q E s
abbrev TI:=St->Hp->(It->Hp->Prop)->Prop
def PIE(X:Cx)(pins:List (Addr×Obj))(σ:St)(tg:Expr)(R:It->Hp->Prop)(itv:Value)(s2:Shared):Prop:=
 ∃(it:Addr) (fp:List Addr) (tn:Nat->Heap->Prop) (J:It) (H':Hp),itv = .ref it/\Inv X pins σ H' s2/\Turn X.prog X.w X.K tg J fp it tn/\tn 0 s2.heap/\(∀b∈fp,FpOk X pins H' b)/\R J H'
def PI(X:Cx)(tg iter:Expr)(wi:TI):Prop:=
 ∀(pins:List (Addr×Obj)) (s:Shared) (σ:St) (H:Hp) (R:It->Hp->Prop),Inv X pins σ H s->wi σ H R->
  wpAny (model X.prog X.w) X.A (eval iter X.env) (λv s1=>wpAny (model X.prog X.w) X.A (pyIter v) (PIE X pins σ tg R) X.xe s1) X.xe s
theorem go_of{M : Model}{A : Around}{E : Value → Shared → Prop}{s : Shared}{tg : Expr}{it : Addr}{u : Value}{o : Obj}{n : String}{vs : Array Value}{Q : Unit → Shared → Prop}(ho : s.heap.get? it = some o)(hc : o.cls = .type n)(hd : o.data = .fields vs)
    (hn : ["enumerate", "zip", "dict_itemiterator", "dict_reverseitemiterator", "odict_iterator", "itertools.zip_longest", "itertools.pairwise"].contains n = false) (hQ : Q () s) : wpAny M A (letOwnedTupleGo tg (.ref it) u) Q E s := by
  unfold letOwnedTupleGo;cases tg <;> first
    | exact Qqv hQ
    | (cases u <;> first
        | exact Qqv hQ
        | (refine Qqq (wpAny_load ho ?_)
           rw [hc, hd];show wpAny M A (if (["enumerate", "zip", "dict_itemiterator", "dict_reverseitemiterator", "odict_iterator", "itertools.zip_longest", "itertools.pairwise"].contains n && vs[0]? == some (rawInt _)) = true then _ else _) Q E s;rw [if_neg (by intro h; rw [hn, Bool.false_and] at h; cases h)];exact Qqv hQ))
def Itl(K:PySem.W.Frag)(a:Addr):It:=
 ⟨λi H=>∃xs x,SqL K H a xs/\xs[i]? = some x,λi H x H'=>H'=H/\∀xs,SqL K H a xs->xs[i]? = some x,λi H=>∃xs,SqL K H a xs/\xs.length<=i⟩
def Itt(K:PySem.W.Frag)(a:Addr):It:=
 ⟨λi H=>∃xs x,SqT K H a xs/\xs[i]? = some x,λi H x H'=>H'=H/\∀xs,SqT K H a xs->xs[i]? = some x,λi H=>∃xs,SqT K H a xs/\xs.length<=i⟩
def Itr(lo:Int)(n:Nat):It:=⟨λi _=>i<n,λi H x H'=>H'=H/\x = .int (lo+i),λi _=>n<=i⟩
theorem turn_list{P:Program}{w:World}{K:PySem.W.Frag}{tg:Expr}(a it:Addr):Turn P w K tg (Itl K a) [it] it (λi h=>h.IsListIter it a i) where
 mem:=by simp
 obj:=λi h st b hb=>by
  have e:b=it:=by simpa using hb
  subst e;obtain⟨o,e,c,d⟩:=st;exact⟨o,e,λv z=>by rw[d] at z;cases z⟩
 keep:=λi h h' st k=>st.at λo e=>k it (by simp) o e
 item:=by intro X hP hw hK hc i pins s σ H E I hf st hg;subst hP hw hK;obtain⟨xs,x,hq,hx⟩:=hg;obtain⟨its,rv,p,hz⟩:=I.list hq;obtain⟨u,hu,ru⟩:=rv.get hx;obtain⟨f0,f1,f2,f3,f4,f5⟩:=hf it (by simp);refine wpAny_pyNext_list_item st p.isList (x:=u) (by simpa using hu) λh' st' sb=>?_;have I1:Inv X pins σ H { s with heap:=h' }:=I.turned (t':=s.toks) (λb o hb e=>(sb.2 b hb).trans e) f0 f1 f3 f4 f5;obtain⟨o,e,c,d⟩:=id st';exact⟨u,rfl,go_of (s:={ s with heap:=h' }) e c d (by decide) ⟨x,H,I1,ru,⟨rfl,λys hy=>by rw[I.list_inj hy hq];exact hx⟩,st',λb hb=>(hf b hb).1⟩⟩
 done:=by intro X hP hw hK hc i pins s σ H E I hf st hg;subst hP hw hK;obtain⟨xs,hq,hx⟩:=hg;obtain⟨its,rv,p,hz⟩:=I.list hq;obtain⟨f0,f1,f2,f3,f4,f5⟩:=hf it (by simp);have hl:=rv.length;exact wpAny_pyNext_list_end (I.ok.hd hc) st p.isList (by simp;omega) λh' eb=>⟨rfl,I.turned (t':=s.toks) (λb o hb e=>eb b o hb e) f0 f1 f3 f4 f5⟩
 self:=λ_ _ _ _ _ st h=>wpAny_pyIter_listiter st h
theorem turn_tuple{P:Program}{w:World}{K:PySem.W.Frag}{tg:Expr}(a it:Addr):Turn P w K tg (Itt K a) [it] it (λi h=>h.IsTupleIter it a i) where
 mem:=by simp
 obj:=λi h st b hb=>by
  have e:b=it:=by simpa using hb
  subst e;obtain⟨o,e,c,d⟩:=st;exact⟨o,e,λv z=>by rw[d] at z;cases z⟩
 keep:=λi h h' st k=>st.at λo e=>k it (by simp) o e
 item:=by intro X hP hw hK hc i pins s σ H E I hf st hg;subst hP hw hK;obtain⟨xs,x,hq,hx⟩:=hg;obtain⟨its,rv,p,hz⟩:=I.tuple hq;obtain⟨u,hu,ru⟩:=rv.get hx;obtain⟨f0,f1,f2,f3,f4,f5⟩:=hf it (by simp);refine wpAny_pyNext_tuple_item st (show s.heap.IsTuple a its.toArray from p) (x:=u) (by simpa using hu) λh' st' sb=>?_;have I1:Inv X pins σ H { s with heap:=h' }:=I.turned (t':=s.toks) (λb o hb e=>(sb.2 b hb).trans e) f0 f1 f3 f4 f5;obtain⟨o,e,c,d⟩:=id st';exact⟨u,rfl,go_of (s:={ s with heap:=h' }) e c d (by decide) ⟨x,H,I1,ru,⟨rfl,λys hy=>by rw[I.tuple_inj hy hq];exact hx⟩,st',λb hb=>(hf b hb).1⟩⟩
 done:=by intro X hP hw hK hc i pins s σ H E I hf st hg;subst hP hw hK;obtain⟨xs,hq,hx⟩:=hg;obtain⟨its,rv,p,hz⟩:=I.tuple hq;obtain⟨f0,f1,f2,f3,f4,f5⟩:=hf it (by simp);have hl:=rv.length;exact wpAny_pyNext_tuple_end (I.ok.hd hc) st (show s.heap.IsTuple a its.toArray from p) (by simp;omega) λh' eb=>⟨rfl,I.turned (t':=s.toks) (λb o hb e=>eb b o hb e) f0 f1 f3 f4 f5⟩
 self:=λ_ _ _ _ _ st h=>wpAny_pyIter_tupleiter st h
theorem turn_range{P:Program}{w:World}{K:PySem.W.Frag}{tg:Expr}(it:Addr)(lo:Int)(n:Nat):Turn P w K tg (Itr lo n) [it] it (λi h=>IsRangeIter h it (lo+(i:Nat)*1) ((n:Int) - (i:Nat)) 1) where
 mem:=by simp
 obj:=λi h st b hb=>by
  have e:b=it:=by simpa using hb
  subst e;exact⟨_,st,λv z=>by
   have z':Data.fields _=Data.cell v:=z;cases z'⟩
 keep:=λi h h' st k=>k it (by simp) _ st
 item:=by intro X hP hw hK hc i pins s σ H E I hf st hg;subst hP hw hK;obtain⟨f0,f1,f2,f3,f4,f5⟩:=hf it (by simp);have W:=Walks.range (prog:=X.prog) (w:=X.w) (I.ok.hd hc) it lo 1 n;refine W.item i s _ _ hg st λv h' tk hv st' kk=>?_;obtain⟨t,rfl⟩:=hv;have I1:Inv X pins σ H { s with heap:=h',toks:=tk }:=I.turned (λb o hb e=>kk b o (by simpa using hb) e) f0 f1 f3 f4 f5;refine⟨_,rfl,go_of (s:={ s with heap:=h',toks:=tk }) (n:="range_iterator") st' rfl rfl (by decide) ⟨.int (lo+i),H,I1,⟨t,?_⟩,⟨rfl,rfl⟩,st',λb hb=>(hf b hb).1⟩⟩;rw[Int.mul_one]
 done:=by intro X hP hw hK hc i pins s σ H E I hf st hg;subst hP hw hK;obtain⟨f0,f1,f2,f3,f4,f5⟩:=hf it (by simp);exact wpAny_pyNext_range_end (I.ok.hd hc) st (by have:n<=i:=hg;omega) λh' eb=>⟨rfl,I.turned (t':=s.toks) (λb o hb e=>eb b o hb e) f0 f1 f3 f4 f5⟩
 self:=λ_ _ _ _ _ st h=>wpAny_pyIter_rangeiter st h
section
variable{X:Cx}{tg:Expr}
theorem range_it{pins:List (Addr×Obj)}{σ:St}{H:Hp}{s:Shared}{R:It->Hp->Prop}{E:Value->Shared->Prop}{lo hi:Int}{t u v:Tok}{tk:Nat}(I:Inv X pins σ H s)(h1 : -(2^62)<=lo)(h2:lo<2^62)(h3 : -(2^62)<=hi)(h4:hi<2^62)
  (q:R (Itr lo (hi - lo).toNat) H):wpAny (model X.prog X.w) X.A (pyIter (.ref s.heap.objs.size)) (PIE X pins σ tg R) E { s with heap:=s.heap.push { cls:=.type "range",data:=.fields #[.int lo t,.int hi u,.int 1 v] },toks:=tk }:=by
 refine wpAny_pyIter_range (IsRange.new ..) (small_one h1 h2 h3 h4) ?_;have I1:Inv X pins σ H { s with heap:=s.heap.push { cls:=.type "range",data:=.fields #[.int lo t,.int hi u,.int 1 v] },toks:=tk }:=I.kept λb o e=>Qqz _ e;refine⟨(s.heap.push { cls:=.type "range",data:=.fields #[.int lo t,.int hi u,.int 1 v] }).objs.size,[(s.heap.push { cls:=.type "range",data:=.fields #[.int lo t,.int hi u,.int 1 v] }).objs.size],_,_,H,rfl,
  I1.kept (t':=tk) λb o e=>Qqz _ e,turn_range _ lo (hi - lo).toNat,?_,λb hb=>?_,q⟩
 ·have e1:lo+((0:Nat):Int)*1=lo:=by simp
  have e2:(((hi - lo).toNat:Nat):Int) - ((0:Nat):Int)=Builtin.Range.rangeSize lo hi 1:=by rw[rangeSize_one];split<;>omega
  show IsRangeIter _ _ (lo+((0:Nat):Int)*1) ((((hi - lo).toNat:Nat):Int) - ((0:Nat):Int)) 1;rw[e1,e2];exact Qq5 _ rfl
 ·have e:b=(s.heap.push { cls:=.type "range",data:=.fields #[.int lo t,.int hi u,.int 1 v] }).objs.size:=by simpa using hb
  subst e;exact I1.fpOk (Qqy _) (I1.hok.fresh (Qqy _))
def iRng1(ta:TA):TI:=λσ H R=>ta σ H λvs H1=>∃j:Int,vs=[.int j]/\-(2^62)<=j/\j<2^62/\R (Itr 0 j.toNat) H1
theorem pi_range1{a:Expr}{ta:TA}{p pos:Pos}(hg:Gl X "range")(hm:X.mg "range" = none)(ha:PA X [a] ta)(hs:starEach [a] X.env=[(false,eval a X.env)]:=by rfl):PI X tg (.Call (.Name "range" p) [a] [] pos) (iRng1 ta):=by
 intro pins s σ H R I h;refine Call_ (ld_blt I hg hm boot_range (Qjq (thn (ha pos pins s σ H _ I h) λus s1 ⟨vs,H1,I1,r1,q1⟩=>?_) hs rfl));obtain⟨j,e,q1,q2,q⟩:=q1;subst e;cases r1 with
 | cons r rr=>
  cases rr;obtain⟨t,rfl⟩:=r;exact call_range_1 (range_it I1 (by omega) (by omega) q1 q2 (by simpa using q))
def tFor(wi:TI)(g:TG)(tb:TS):TS:=λD σ H=>wi σ H λJ H1=>∃W:Nat->Nat->St->Hp->Prop,(∃m,W 0 m σ H1)/\∀i m σ H,W i m σ H->
 (J.stop i H/\D.nx σ H)\/(J.go i H/\∃N:St->Hp->Prop,(∀σ' H',N σ' H'->∃m',m'<m/\W (i+1) m' σ' H')/\∀x H',J.yld i H x H'->g x σ H' λσ2 H2=>tb { D with nx:=N,ct:=N,bk:=D.nx } σ2 H2)
def pinsAt(fp:List Addr)(h:Heap):List (Addr×Obj):=fp.filterMap λb=>(h.get? b).map λo=>(b,o)
theorem mem_pinsAt{fp:List Addr}{h:Heap}{b:Addr}{o:Obj}(hb:b∈fp)(e:h.get? b=some o):(b,o)∈pinsAt fp h:=List.mem_filterMap.mpr ⟨b,hb,by rw[e];rfl⟩
theorem of_pinsAt{fp:List Addr}{h:Heap}{p:Addr×Obj}(hp:p∈pinsAt fp h):p.1∈fp/\h.get? p.1=some p.2:=by
 obtain⟨b,hb,e⟩:=List.mem_filterMap.mp hp;cases q:h.get? b with
 | none=>rw[q] at e;cases e
 | some o=>
  rw[q] at e;have e':(b,o)=p:=Qxq e;subst e';exact⟨hb,q⟩
theorem Inv.pinned{pins:List (Addr×Obj)}{σ:St}{H:Hp}{s:Shared}{fp:List Addr}(I:Inv X pins σ H s)(hf:∀b∈fp,FpOk X pins H b)(ho:∀b∈fp,∃o,s.heap.get? b=some o/\∀v,o.data ≠ .cell v):Inv X (pins++pinsAt fp s.heap) σ H s:=
 I.pins_of λp hp=>(Qzz.mp hp).elim (λz=>I.pin p (Qw7 _ z)) λz=>by
  obtain⟨hb,e⟩:=of_pinsAt z;obtain⟨f0,f1,f2,_⟩:=hf p.1 hb;obtain⟨o,e',d⟩:=ho p.1 hb;rw[e] at e';cases e';exact⟨e,f0,f1,f2,d⟩
theorem Inv.unpinned{pins pl:List (Addr×Obj)}{σ:St}{H:Hp}{s:Shared}(I:Inv X (pins++pl) σ H s):Inv X pins σ H s:=I.pins_of λp hp=>I.pin p (Qw7 _ (List.mem_append_left _ hp))
theorem ps_for{iter:Expr}{body:List Stmt}{wi:TI}{g:TG}{tb:TS}{pos:Pos}(hp:PassesOwn (model X.prog X.w) X.A X.env X.xe)(hc:X.calm=true)(hi:PI X tg iter wi)(hg:PG X tg g)(hb:PSs X body tb)
  (hs:∀x,foldedSetIterable iter X.env x=pure x:=by intro _;rfl):PS X (.For tg iter body [] pos) (tFor wi g tb):=by
 intro pins s σ H D I h;refine wpAny_For (thn (hi pins s σ H _ I h) λv s1 h1=>thn h1 λitv s2 h2=>?_) hs;obtain⟨it,fp,tn,J,H2,e,I2,T,st2,f2,W,⟨m0,w0⟩,turn⟩:=h2;subst e
 -- what stays true of the iterator's objects through the loop
 have stat:∀{H':Hp},(∀b∈fp,H' b=none)->∀b∈fp,FpOk X pins H' b:=λhn b hb=>⟨hn b hb,(f2 b hb).2⟩;refine codeAny_forLoop_any (λn s'=>∃i σ' H',Inv X pins σ' H' s'/\tn i s'.heap/\(∀b∈fp,H' b=none)/\W i n σ' H') ?_ m0 ⟨0,σ,H2,I2,st2,λb hb=>(f2 b hb).1,w0⟩;rintro n s3 ⟨i,σ3,H3,I3,st3,fr3,w3⟩;rcases turn i n σ3 H3 w3 with ⟨stop,qn⟩|⟨go,N,hN,step⟩
 ·refine wpAny_passesOwn hp (thn (T.done X rfl rfl rfl hc i pins s3 σ3 H3 X.xe I3 (stat fr3) st3 stop) λr s4 ⟨hr,I4⟩=>?_);subst hr;exact wpAny_execs_nil ⟨σ3,H3,I4,qn⟩
 ·refine wpAny_passesOwn hp (thn (T.item X rfl rfl rfl hc i pins s3 σ3 H3 X.xe I3 (stat fr3) st3 go) λr s4 ⟨u,hr,h4⟩=>?_);subst hr;refine wpAny_passesOwn hp (thn h4 λ_ s5 ⟨x,H5,I5,r5,y5,st5,fr5⟩=>?_);have I5':=I5.pinned (stat fr5) (T.obj _ _ st5);refine wpAny_passesOwn hp (thn (hg _ s5 σ3 H5 x u _ I5' r5 (step x H5 y5)) λ_ s6 ⟨σ6,H6,I6,q6⟩=>?_);refine wpAny_passesOwn hp (thn (hb _ s6 σ6 H6 _ I6 q6) λf s7 q7=>?_);have again:∀{σ7:St} {H7:Hp},Inv X (pins++pinsAt fp s5.heap) σ7 H7 s7->N σ7 H7->∃m,m<n/\∃i σ' H',Inv X pins σ' H' s7/\tn i s7.heap/\(∀b∈fp,H' b=none)/\W i m σ' H':=λ{σ7 H7} I7 n7=>by
   obtain⟨m',hm,w7⟩:=hN σ7 H7 n7;refine⟨m',hm,i+1,σ7,H7,I7.unpinned,T.keep _ _ _ st5 λb hb o e=>(I7.pin (b,o) (Qw7 _ (Qw7 _ (mem_pinsAt hb e)))).1,λb hb=>?_,w7⟩;obtain⟨o,e,d⟩:=T.obj _ _ st5 b hb;exact(I7.pin (b,o) (Qw7 _ (Qw7 _ (mem_pinsAt hb e)))).2.1
  cases f with
  | next=>obtain⟨σ7,H7,I7,n7⟩:=q7;exact again I7 n7
  | cont=>obtain⟨σ7,H7,I7,n7⟩:=q7;exact again I7 n7
  | brk=>obtain⟨σ7,H7,I7,q7⟩:=q7;exact⟨σ7,H7,I7.unpinned,q7⟩
  | ret v=>obtain⟨x7,σ7,H7,I7,r7,q7⟩:=q7;exact⟨x7,σ7,H7,I7.unpinned,r7,q7⟩
end
abbrev R2:=V->V->Hp->VK->Prop
def OpR(X:Cx)(f:Value->Value->Sem Value)(r:R2):Prop:=
 ∀(pins:List (Addr×Obj)) (s:Shared) (σ:St) (H:Hp) (x y:V) (v u:Value) (Q:VK),Inv X pins σ H s->RelV x v->RelV y u->r x y H Q->
  wpAny (model X.prog X.w) X.A (f v u) (EP X pins σ Q) X.xe s
def CallR(X:Cx)(f:Value)(r:List V->Hp->VK->Prop):Prop:=
 ∀(pins:List (Addr×Obj)) (s:Shared) (σ:St) (H:Hp) (xs:List V) (us:List Value) (Q:VK),Inv X pins σ H s->Vals xs us->r xs H Q->
  wpAny (model X.prog X.w) X.A (call f us) (EP X pins σ Q) X.xe s
def tOp(r:R2)(ta tb:TE):TE:=λσ H Q=>ta σ H λx H1=>tb σ H1 λy H2=>r x y H2 Q
def rI(C:Int->Int->Prop)(g:Int->Int->V):R2:=λx y H Q=>∃i j,x = .int i/\y = .int j/\C i j/\Q (g i j) H
def rI0(g:Int->Int->V):R2:=λx y H Q=>∃i j,x = .int i/\y = .int j/\Q (g i j) H
section
variable{X:Cx}{a b c:Expr}{ta tb tc:TE}{pos:Pos}
theorem binT(ha:PE X a ta)(hb:PE X b tb){pins:List (Addr×Obj)}{s:Shared}{σ:St}{H:Hp}{R:V->V->Hp->Prop}(I:Inv X pins σ H s)
  (h:ta σ H λx H1=>tb σ H1 λy H2=>R x y H2) {Q:Value->Shared->Prop} {f:Value->Value->Sem Value}
  (hf:∀v u s2 x y H2,Inv X pins σ H2 s2->RelV x v->RelV y u->R x y H2->wpAny (model X.prog X.w) X.A (f v u) Q X.xe s2) :
  wpAny (model X.prog X.w) X.A (eval a X.env) (λv s₁=>wpAny (model X.prog X.w) X.A (eval b X.env) (λu s₂=>wpAny (model X.prog X.w) X.A (f v u) Q X.xe s₂) X.xe s₁) X.xe s:=by
 refine thn (ha pins s σ H _ I h) λv s1 ⟨x,H1,I1,r1,q1⟩=>?_;refine thn (hb pins s1 σ H1 _ I1 q1) λu s2 ⟨y,H2,I2,r2,q2⟩=>?_;exact hf v u s2 x y H2 I2 r1 r2 q2
theorem pe_op{op:Operator}{r:R2}(ho:OpR X (binaryOp op) r)(ha:PE X a ta)(hb:PE X b tb):PE X (.BinOp a op b pos) (tOp r ta tb):=by intro pins s σ H Q I h;exact wpAny_BinOp (binT ha hb I h λv u s2 x y H2 I2 rx ry q=>ho pins s2 σ H2 x y v u Q I2 rx ry q)
theorem opI{f:Value->Value->Sem Value}{C:Int->Int->Prop}{g:Int->Int->Int}
  (rule:∀(i j:Int) (t u:Tok) (s:Shared) (Q:Value->Shared->Prop) (E:Value->Shared->Prop),C i j->Q (.int (g i j) s.toks) { s with toks:=s.toks+1 }->wpAny (model X.prog X.w) X.A (f (.int i t) (.int j u)) Q E s) :
  OpR X f (rI C λi j=>.int (g i j)):=by
 intro pins s σ H x y v u Q I rx ry h;obtain⟨i,j,rfl,rfl,hc,q⟩:=h;obtain⟨t,rfl⟩:=rx;obtain⟨t',rfl⟩:=ry;exact rule i j t t' s _ _ hc ⟨.int (g i j),H,I.tok _,⟨_,rfl⟩,q⟩
theorem opI0{f:Value->Value->Sem Value}{g:Int->Int->Int}
  (rule:∀(i j:Int) (t u:Tok) (s:Shared) (Q:Value->Shared->Prop) (E:Value->Shared->Prop),Q (.int (g i j) s.toks) { s with toks:=s.toks+1 }->wpAny (model X.prog X.w) X.A (f (.int i t) (.int j u)) Q E s) :
  OpR X f (rI0 λi j=>.int (g i j)):=by
 intro pins s σ H x y v u Q I rx ry h;obtain⟨i,j,rfl,rfl,q⟩:=h;obtain⟨t,rfl⟩:=rx;obtain⟨t',rfl⟩:=ry;exact rule i j t t' s _ _ ⟨.int (g i j),H,I.tok _,⟨_,rfl⟩,q⟩
theorem opB0{f:Value->Value->Sem Value}{g:Int->Int->Bool}
  (rule:∀(i j:Int) (t u:Tok) (s:Shared) (Q:Value->Shared->Prop) (E:Value->Shared->Prop),Q (.bool (g i j)) s->wpAny (model X.prog X.w) X.A (f (.int i t) (.int j u)) Q E s) :
  OpR X f (rI0 λi j=>.bl (g i j)):=by
 intro pins s σ H x y v u Q I rx ry h;obtain⟨i,j,rfl,rfl,q⟩:=h;obtain⟨t,rfl⟩:=rx;obtain⟨t',rfl⟩:=ry;exact rule i j t t' s _ _ ⟨.bl (g i j),H,I,rfl,q⟩
def CDiv(i j:Int):Prop:=0<j/\j<1073741824
def CPow(i j:Int):Prop:=0<=j/\j<=1000000/\i.natAbs<2^64
theorem two_pow_nn(k:Nat):(0:Int)<=2^k:=by rw[two_pow_cast];exact Int.natCast_nonneg _
theorem op_add:OpR X (binaryOp .Add) (rI0 λi j=>.int (i+j)):=opI0 λ_ _ _ _ _ _ _ q=>add_int q
theorem op_sub:OpR X (binaryOp .Sub) (rI0 λi j=>.int (i - j)):=opI0 λ_ _ _ _ _ _ _ q=>sub_int q
theorem op_mod:OpR X (binaryOp .Mod) (rI (λ_ j=>0<j) λi j=>.int (i % j)):=opI λi j _ _ _ _ _ hc q=>by
 have h1:(0:Int)<j:=hc;exact mod_int' (by omega) (by rw[Int.fmod_eq_emod_of_nonneg i (by omega)];exact q)
theorem op_pow:OpR X (binaryOp .Pow) (rI CPow λi j=>.int (i^j.toNat)):=opI λ_ _ _ _ _ _ _ hc q=>pow_int_small hc.1 hc.2.1 hc.2.2 q
theorem op_shr:OpR X (binaryOp .RShift) (rI (λ_ j=>0<=j) λi j=>.int (i / 2^j.toNat)):=opI λi j _ _ _ _ _ hc q=>
 rshift_int hc (by rw[Int.fdiv_eq_ediv_of_nonneg i (two_pow_nn _)];exact q)
theorem op_and:OpR X (binaryOp .BitAnd) (rI0 λi j=>.int (Builtin.bitAnd i j)):=opI0 λ_ _ _ _ _ _ _ q=>and_int q
end
theorem dec_bl{i j:Bool}:decide (V.bl i=V.bl j)=(i == j):=by rw[Qjx];simp
section
variable{X:Cx}{a b c:Expr}{ta tb tc:TE}{pos:Pos}
theorem fin_bl{pins:List (Addr×Obj)}{σ:St}{H:Hp}{s:Shared}{Q:VK}{k k':Bool}(I:Inv X pins σ H s)(q:Q (.bl k) H)(e:k=k'):EP X pins σ Q (.bool k') s:=by subst e;exact⟨.bl k,H,I,rfl,q⟩
theorem op_lt:OpR X (compareOp .Lt) (rI0 λi j=>.bl (decide (i<j))):=opB0 λ_ _ _ _ _ _ _ q=>lt_int q
theorem op_le:OpR X (compareOp .LtE) (rI0 λi j=>.bl (decide (i<=j))):=opB0 λ_ _ _ _ _ _ _ q=>le_int q
theorem op_gt:OpR X (compareOp .Gt) (rI0 λi j=>.bl (decide (j<i))):=opB0 λ_ _ _ _ _ _ _ q=>gt_int q
theorem op_lt_str:OpR X (compareOp .Lt) (λx y H Q=>∃i j,x = .str i/\y = .str j/\Q (.bl (decide (i.cps.toList<j.cps.toList))) H):=by intro pins s σ H x y v u Q I rx ry h;obtain⟨i,j,rfl,rfl,q⟩:=h;obtain⟨t,rfl⟩:=rx;obtain⟨t',rfl⟩:=ry;exact lt_str (fin_bl I q rfl)
theorem op_in_str:OpR X (compareOp .In) (λx y H Q=>∃i j,x = .str i/\y = .str j/\Q (.bl (!(Builtin.Str.occurrences j i 0 j.length 1).isEmpty)) H):=by intro pins s σ H x y v u Q I rx ry h;obtain⟨i,j,rfl,rfl,q⟩:=h;obtain⟨t,rfl⟩:=rx;obtain⟨t',rfl⟩:=ry;exact in_str (fin_bl I q rfl)
theorem op_notN:OpR X (compareOp .IsNot) (λx y H Q=>y = .non/\Q (.bl (!decide (x = .non))) H):=by
 intro pins s σ H x y v u Q I rx ry h;obtain⟨rfl,q⟩:=h;cases ry;refine isnot_none_gen (fin_bl I q ?_);cases x<;>first
  | (cases rx;rfl)
  | (obtain⟨t,rfl⟩:=rx;rfl)
theorem OpR.or{f:Value->Value->Sem Value}{r r':R2}(h:OpR X f r)(h':OpR X f r'):OpR X f (λx y H Q=>r x y H Q\/r' x y H Q):=by
 intro pins s σ H x y v u Q I rx ry q;rcases q with q|q
 ·exact h pins s σ H x y v u Q I rx ry q
 ·exact h' pins s σ H x y v u Q I rx ry q
theorem pe_cmpR{op:CmpOp}{r:R2}(ho:OpR X (compareOp op) r)(ha:PE X a ta)(hb:PE X b tb)(hm:behindInMarks op b=false):PE X (.Compare a [op] [b] pos) (tOp r ta tb):=by intro pins s σ H Q I h;exact wpAny_Compare1 (binT ha hb I h λv u s2 x y H2 I2 rx ry q=>ho pins s2 σ H2 x y v u Q I2 rx ry q) hm
def tTest(t:TE):TT:=λσ H Q=>t σ H λx H'=>∃k,x = .bl k/\Q k H'
theorem pt_cmpR{op:CmpOp}{r:R2}(ho:OpR X (compareOp op) r)(ha:PE X a ta)(hb:PE X b tb)(hm:behindInMarks op b=false):PT X (.Compare a [op] [b] pos) (tTest (tOp r ta tb)):=by
 intro pins s σ H Q I h;refine wpAny_isTrue_Compare1 (thn (ha pins s σ H _ I h) λv s1 ⟨x,H1,I1,r1,q1⟩=>thn (hb pins s1 σ H1 _ I1 q1) λu s2 ⟨y,H2,I2,r2,q2⟩=>
  thn (ho pins s2 σ H2 x y v u _ I2 r1 r2 q2) λc s3 ⟨z,H3,I3,r3,k,e,q3⟩=>?_) hm
 subst e;cases r3;exact Qz1 ⟨H3,I3,q3⟩
def tChain(r r':R2)(ta tb tc:TE):TE:=λσ H Q=>ta σ H λx H1=>tb σ H1 λy H2=>r x y H2 λz H3=>∃k,z = .bl k/\
 (if k=true then tc σ H3 λw' H4=>r' y w' H4 Q else Q (.bl false) H3)
theorem pe_chain{op op':CmpOp}{r r':R2}(ho:OpR X (compareOp op) r)(ho':OpR X (compareOp op') r')(ha:PE X a ta)(hb:PE X b tb)(hc:PE X c tc)
  (hm:lastMarks [op,op'] [b,c]=false:=by with_unfolding_all rfl):PE X (.Compare a [op,op'] [b,c] pos) (tChain r r' ta tb tc):=by
 intro pins s σ H Q I h;refine Compare_chain (thn (ha pins s σ H _ I h) λv s1 ⟨x,H1,I1,r1,q1⟩=>chain_link (thn (hb pins s1 σ H1 _ I1 q1) λu s2 ⟨y,H2,I2,r2,q2⟩=>
  thn (ho pins s2 σ H2 x y v u _ I2 r1 r2 q2) λd s3 ⟨z,H3,I3,r3,k,e,q3⟩=>?_)) hm
 subst e;cases r3;refine Qz1 ?_;cases k with
 | false=>exact ite_ff ⟨.bl false,H3,I3,rfl,q3⟩
 | true=>exact ite_tt (chain_last (thn (hc pins s3 σ H3 _ I3 q3) λw' s4 ⟨z',H4,I4,r4,q4⟩=>ho' pins s4 σ H4 y z' u w' Q I4 r2 r4 q4))
theorem pt_chain{op op':CmpOp}{r r':R2}(ho:OpR X (compareOp op) r)(ho':OpR X (compareOp op') r')(ha:PE X a ta)(hb:PE X b tb)(hc:PE X c tc)
  (hm:lastMarks [op,op'] [b,c]=false:=by with_unfolding_all rfl):PT X (.Compare a [op,op'] [b,c] pos) (tTest (tChain r r' ta tb tc)):=by
 intro pins s σ H Q I h;refine isTrue_chain (thn (ha pins s σ H _ I h) λv s1 ⟨x,H1,I1,r1,q1⟩=>test_link (thn (hb pins s1 σ H1 _ I1 q1) λu s2 ⟨y,H2,I2,r2,q2⟩=>
  thn (ho pins s2 σ H2 x y v u _ I2 r1 r2 q2) λd s3 ⟨z,H3,I3,r3,k,e,q3⟩=>?_)) hm
 subst e;cases r3;refine Qz1 ?_;cases k with
 | false=>
  obtain⟨k',e',q'⟩:=q3;cases e';exact ite_ff ⟨H3,I3,q'⟩
 | true=>
  refine ite_tt (test_last (thn (hc pins s3 σ H3 _ I3 q3) λw' s4 ⟨z',H4,I4,r4,q4⟩=>thn (ho' pins s4 σ H4 y z' u w' _ I4 r2 r4 q4) λd' s5 ⟨z2,H5,I5,r5,k2,e2,q5⟩=>?_));subst e2;cases r5;exact Qz1 ⟨H5,I5,q5⟩
theorem isEmpty_kv{κ:Type}{kvs:List (κ×V)}{vs:List (κ×Value)}(r:KV kvs vs):(!vs.isEmpty) = !kvs.isEmpty:=by cases r<;>rfl
theorem isEmpty_of{xs:List V}{its:List Value}(r:Vals xs its):(!its.toArray.isEmpty) = !xs.isEmpty:=by cases r<;>simp
theorem line63:(sizeLine:Nat)<2^63:=by rw[Qj7];decide
theorem op_add_str:OpR X (binaryOp .Add) (λx y H Q=>∃i j,x = .str i/\y = .str j/\i.length+j.length<=sizeLine/\Q (.str (i++j)) H):=by intro pins s σ H x y v u Q I rx ry h;obtain⟨i,j,rfl,rfl,hz,q⟩:=h;obtain⟨t,rfl⟩:=rx;obtain⟨t',rfl⟩:=ry;exact add_str (λt' tk=>⟨.str (i++j),H,I.tok _,⟨_,rfl⟩,q⟩) hz
theorem vals1{x:V}{us:List Value}(r:Vals [x] us):∃u,us=[u]/\RelV x u:=by
 cases r with
 | cons r1 r2=>cases r2;exact⟨_,rfl,r1⟩
theorem vals2{x y:V}{us:List Value}(r:Vals [x,y] us):∃u w',us=[u,w']/\RelV x u/\RelV y w':=by
 cases r with
 | cons r1 r2=>
  cases r2 with
  | cons r3 r4=>cases r4;exact⟨_,_,rfl,r1,r3⟩
theorem call_max2(hc:X.calm=true):CallR X (.builtin "max") (λxs H Q=>∃i j,xs=[.int i,.int j]/\Q (.int (if j > i then j else i)) H):=by
 intro pins s σ H xs us Q I r h;obtain⟨i,j,rfl,q⟩:=h;obtain⟨u,w',rfl,⟨t,rfl⟩,⟨t',rfl⟩⟩:=vals2 r;refine max_two_ints (I.ok.hd hc) λh' tk k=>⟨_,H,I.kept k,?_,q⟩;by_cases hj:j > i
 ·rw[if_pos hj,if_pos hj];exact⟨_,rfl⟩
 ·rw[if_neg hj,if_neg hj];exact⟨_,rfl⟩
theorem call_min2(hc:X.calm=true):CallR X (.builtin "min") (λxs H Q=>∃i j,xs=[.int i,.int j]/\Q (.int (if j<i then j else i)) H):=by
 intro pins s σ H xs us Q I r h;obtain⟨i,j,rfl,q⟩:=h;obtain⟨u,w',rfl,⟨t,rfl⟩,⟨t',rfl⟩⟩:=vals2 r;refine min_two_ints (I.ok.hd hc) λh' tk k=>⟨_,H,I.kept k,?_,q⟩;by_cases hj:j<i
 ·rw[if_pos hj,if_pos hj];exact⟨_,rfl⟩
 ·rw[if_neg hj,if_neg hj];exact⟨_,rfl⟩
def LenV(K:PySem.W.Frag)(x:V)(H:Hp)(n:Nat):Prop:=
 match x with
 | .str y=>y.length<=sizeLine/\n=y.length
 | .byt y=>y.size<=sizeLine/\n=y.size
 | .ref p=>(∃xs,SqL K H p xs/\n=xs.length)\/∃xs,SqT K H p xs/\n=xs.length
 | _=>False
theorem call_len:CallR X (.builtin "len") (λxs H Q=>∃x n,xs=[x]/\LenV X.K x H n/\Q (.int n) H):=by
 intro pins s σ H xs us Q I r h;obtain⟨x,n,rfl,e,q⟩:=h;obtain⟨u,rfl,rx⟩:=vals1 r;have hl:=line63;have hs:sizeLine=16777216:=Qj7;cases x with
 | str y=>
  obtain⟨t,rfl⟩:=rx;obtain⟨hy,e'⟩:y.length<=sizeLine/\n=y.length:=e;subst e';exact len_str (by omega) ⟨.int _,H,I.tok _,⟨_,rfl⟩,q⟩
 | byt y=>
  obtain⟨t,rfl⟩:=rx;obtain⟨hy,e'⟩:y.size<=sizeLine/\n=y.size:=e;subst e';exact PySem.W.len_bytes (by omega) ⟨.int _,H,I.tok _,⟨_,rfl⟩,q⟩
 | ref p=>
  cases rx;have e':(∃xs,SqL X.K H p xs/\n=xs.length)\/∃xs,SqT X.K H p xs/\n=xs.length:=e;rcases e' with ⟨xs,hx,e'⟩|⟨xs,hx,e'⟩
  ·subst e';obtain⟨its,r',pl,hz⟩:=I.list hx;have hlen:=r'.length;exact Calls.call_len_list pl.isList (by simp only[Qq1];omega) ⟨.int xs.length,H,I.tok _,⟨_,by simp only[Qq1];rw[hlen]⟩,q⟩
  ·subst e';obtain⟨its,r',pl,hz⟩:=I.tuple hx;have hlen:=r'.length;exact len_tuple pl (by simp only[Qq1];omega) ⟨.int xs.length,H,I.tok _,⟨_,by simp only[Qq1];rw[hlen]⟩,q⟩
 | _=>exact(show False from e).elim
theorem call_divmod:CallR X (.builtin "divmod") (λxs H Q=>∃i j,xs=[.int i,.int j]/\CDiv i j/\∀p,H p=none->Q (.ref p) (upd H p (.tup [.int (i / j),.int (i % j)]))):=by intro pins s σ H xs us Q I r h;obtain⟨i,j,rfl,⟨h1,h2⟩,q⟩:=h;obtain⟨u,w',rfl,⟨t,rfl⟩,⟨t',rfl⟩⟩:=vals2 r;refine divmod_int (by omega) ?_ (.inl (PyProof.noPylong_small (by omega)));rw[Int.fdiv_eq_ediv_of_nonneg i (by omega),Int.fmod_eq_emod_of_nonneg i (by omega)];have hn:H s.heap.objs.size=none:=I.hok.fresh (Qqy _);refine⟨.ref s.heap.objs.size,_,?_,rfl,q _ hn⟩;refine I.laid (λb o e=>Qqz _ e) (Qqy _) ⟨by simp only[Qqk,Qq0];rw[Qj7];decide,[.int (i / j) s.toks,.int (i % j) (s.toks+1)],.cons ⟨_,rfl⟩ (.cons ⟨_,rfl⟩ .nil),?_⟩;exact⟨_,Qq5 s.heap rfl,rfl,⟨0,rfl⟩,rfl⟩
end
section
variable{X:Cx}{pins:List (Addr×Obj)}{σ:St}{H:Hp}{s:Shared}{a C dx:Addr}{fs:List (Str×V)}{f:Str}{v:V}{A:Around}{E:Value->Shared->Prop}
theorem attr_of{prog:Program}{w:World}{env:Env}{e:Expr}{f:Str}{pos:Pos}{s:Shared}{Q:Value->Shared->Prop}(hb:attributeBase e f env (eval e env)=eval e env)
  (h:wpAny (model prog w) A (eval e env) (λo s₁=>wpAny (model prog w) A (getAttr o f true) Q E s₁) E s):wpAny (model prog w) A (eval (.Attribute e f pos) env) Q E s:=
 Attribute_any_ h (by rw[arm_eval_Attribute,hb])
end
structure Room(k:Nat)(A:Around):Prop where
 hd:A.handled=none
 dp:A.depth+3*k+5<recursionLimit
 un:A.units+16*k+200<cLine
theorem Room.mono{j k:Nat}{A:Around}(r:Room k A)(h:j<=k):Room j A:=⟨r.hd,by have:=r.dp;omega,by have:=r.un;omega⟩
theorem Room.deeper{k:Nat}{A:Around}(r:Room (k+1) A)(env:Env):Room k (A.deeper env):=
 ⟨r.hd,by have:=r.dp;show A.depth+1+3*k+5<_;omega,by have:=r.un;show A.units+3+16*k+200<_;omega⟩
theorem make_depth{A:Around}{C:Addr}{us:List Value}{kw:List (Str×Value)}:(A.under (.builtin "type.__call__" ⟨.ref C::us,kw⟩)).depth=A.depth+1:=by first|rfl|simp[Around.under,Code.weight,Code.isCreation,Code.isGuard,Code.isCaller,Code.frames,Code.isFrame,guardIds]
theorem make_units{A:Around}{C:Addr}{us:List Value}{kw:List (Str×Value)}:(A.under (.builtin "type.__call__" ⟨.ref C::us,kw⟩)).units=A.units+1:=by first|rfl|simp[Around.under,Code.cUnits,Code.frames,Code.isFrame]
theorem Room.make{k:Nat}{A:Around}(r:Room (k+1) A)(C:Addr)(us:List Value)(kw:List (Str×Value)):Room k (A.under (.builtin "type.__call__" ⟨.ref C::us,kw⟩)):=
 ⟨r.hd,by have:=r.dp;rw[make_depth];omega,by have:=r.un;rw[make_units];omega⟩
theorem Room.depth{k:Nat}{A:Around}(r:Room k A):A.depth<recursionLimit:=by have:=r.dp;omega
theorem Room.units{k:Nat}{A:Around}(r:Room k A):A.units+64<cLine:=by have:=r.un;omega
def tNil:TA:=λ_ H Q=>Q [] H
def tCons(ta:TE)(tr:TA):TA:=λσ H Q=>ta σ H λx H1=>tr σ H1 λxs H2=>Q (x::xs) H2
section
variable{X:Cx}{e:Expr}{es:List Expr}{te:TE}{t:TA}{pos:Pos}
theorem pa_nil:PA X [] tNil:=λ_ _ _ _ H Q I h=>Calls.spliced_nil ⟨[],H,I,.nil,h⟩
theorem pa_cons(ha:PE X e te)(hr:PA X es t)(hs:starEach (e::es) X.env=(false,eval e X.env)::starEach es X.env:=by rfl):PA X (e::es) (tCons te t):=by intro pos pins s σ H Q I h;rw[hs];show wpAny _ _ (spliced ((false,eval e X.env)::backTo pos (starEach es X.env))) _ _ s;refine Calls.spliced_cons (thn (ha pins s σ H _ I h) λu s1 ⟨x,H1,I1,r1,q1⟩=>?_);exact thn (hr pos pins s1 σ H1 _ I1 q1) λus s2 ⟨xs,H2,I2,r2,q2⟩=>⟨x::xs,H2,I2,.cons r1 r2,q2⟩
def tTup(t:TA):TE:=λσ H Q=>t σ H λxs H1=>xs.length<=sizeLine/\∀p,H1 p=none->Q (.ref p) (upd H1 p (.tup xs))
def tLst(t:TA):TE:=λσ H Q=>t σ H λxs H1=>xs.length<=sizeLine/\∀p,H1 p=none->Q (.ref p) (upd H1 p (.lst xs))
theorem pe_tup{x1}(h:PA X es t):PE X (.Tuple es x1 pos) (tTup t):=by intro pins s σ H Q I hq;refine wpAny_Tuple_spliced (thn (h pos pins s σ H _ I hq) λus s1 ⟨xs,H1,I1,r,z,q⟩=>⟨by rw[<-r.length];exact z,?_⟩);have hf:H1 s1.heap.objs.size=none:=I1.hok.fresh (Qqy _);refine⟨.ref s1.heap.objs.size,upd H1 s1.heap.objs.size (.tup xs),I1.laid (t':=s1.toks) (λb u e=>Qqz _ e) (Qqy _) ?_,rfl,q _ hf⟩;exact⟨z,us,r,TupD.new _ _⟩
theorem pe_lst(h:PA X es t):PE X (.List es pos) (tLst t):=by intro pins s σ H Q I hq;refine wpAny_List_spliced (thn (h pos pins s σ H _ I hq) λus s1 ⟨xs,H1,I1,r,z,q⟩=>⟨by rw[<-r.length];exact z,?_⟩);have hf:H1 s1.heap.objs.size=none:=I1.hok.fresh (Qqy _);refine⟨.ref s1.heap.objs.size,upd H1 s1.heap.objs.size (.lst xs),I1.laid (t':=s1.toks) (λb u e=>Qqz _ e) (Qqy _) ?_,rfl,q _ hf⟩;exact⟨z,us,0,r,Qq5 _ rfl⟩
end
abbrev Sp:=List V->Hp->VK->XK->Prop
abbrev CXT:=List Env->Hp->Shared->XK->Value->Shared->Prop
structure Env0(P:Program)(w:World)(K:PySem.W.Frag)(mg:Str->Option Value)(base:Heap)(A:Around)(outer:List Env)(s:Shared)(H:Hp):Prop where
 frames:A.frames=some outer
 mod:Mod K mg base
 bs:∀b o,base.get? b=some o->s.heap.get? b=some o/\H b=none
 bsz:base.objs.size<=s.heap.objs.size
 funs:s.heap.FunFrames base outer
 frf:∀b∈frs outer,H b=none
 hok:HOk P w H s.heap
 bare:AllBare s.gens
def CE(outer:List Env)(P:Program)(w:World)(H:Hp)(s:Shared)(Q:VK)(u:Value)(s':Shared):Prop:=
 ∃v H',s'.os=s.os/\AllBare s'.gens/\Un (frs outer) [] H H' s.heap s'.heap/\HOk P w H' s'.heap/\RelV v u/\Q v H'
def CR(CX:CXT)(outer:List Env)(P:Program)(w:World)(H:Hp)(s:Shared)(Q:VK)(E:XK)(r:Result)(s':Shared):Prop:=
 match r with
 | .ok (.ret u)=>CE outer P w H s Q u s'
 | .ok _=>False
 | .error e=>CX outer H s E e s'
structure FnOk(P:Program)(w:World)(K:PySem.W.Frag)(mg:Str->Option Value)(base:Heap)(CX:CXT)(k:Nat)(f:Addr)(fd:FuncData)(ps:List Str)(sp:Sp):Prop where
 len:∀vs H Q E,sp vs H Q E->vs.length=ps.length
 run:∀(A:Around) (outer:List Env) (s:Shared) (H:Hp) (args:Args) (us:List Value) (vs:List V) (Q:VK) (E:XK),Room k A->Env0 P w K mg base A outer s H->BindsTo s fd args (ps.zip us)->Vals vs us->sp vs H Q E->
  codeAny (model P w) A (.call (.ref f) args) (CR CX outer P w H s Q E) s
theorem Env0.make{P:Program}{w:World}{K:PySem.W.Frag}{mg:Str->Option Value}{base:Heap}{A:Around}{outer:List Env}{s:Shared}{H:Hp}(e:Env0 P w K mg base A outer s H)(C:Addr)(us:List Value)(kw:List (Str×Value)) :
  Env0 P w K mg base (A.under (.builtin "type.__call__" ⟨.ref C::us,kw⟩)) outer s H:=⟨by first|exact e.frames|(simpa[Around.under,Code.envs,Code.isFrame,pushEnvs] using e.frames),e.mod,e.bs,e.bsz,e.funs,e.frf,e.hok,e.bare⟩
section
variable{X:Cx}{pins:List (Addr×Obj)}{σ:St}{H:Hp}{s s':Shared}
theorem Inv.env0(I:Inv X pins σ H s):Env0 X.prog X.w X.K X.mg X.base X.A X.stack s H:=
 ⟨I.ok.frames,I.ok.mod,I.bs,Qq2 I.ok.bsz I.sz,I.stack,I.stkFree,I.hok,I.bare⟩
theorem Inv.after{Q:VK}{u:Value}(I:Inv X pins σ H s)(h:CE X.stack X.prog X.w H s Q u s'):EP X pins σ Q u s':=by obtain⟨v,H',os,bare,un,hok,r,q⟩:=h;obtain⟨hh,g,d,t,os'⟩:=s';obtain rfl:os'=s.os:=os;exact⟨v,H',I.call (h':=hh) (g':=g) (d':=d) (t':=t) (ch:=[]) un hok bare (λb z=>absurd z (by simp)),r,q⟩
end
def tCall(sp:Sp)(dvs:List V)(E:XK)(t:TA):TE:=λσ H Q=>t σ H λvs H1=>sp (vs++dvs) H1 Q E
def Binds(K:PySem.W.Frag)(fd:FuncData)(ps:List Str)(ds:List Value):Prop:=
 ∀(s:Shared) (us:List Value),K.In s.heap->(us++ds).length=ps.length->BindsTo s fd ⟨us,[]⟩ (ps.zip (us++ds))
theorem Binds.all{K:PySem.W.Frag}{fd:FuncData}{ps:List Str}(h:∀us:List Value,us.length=ps.length->bindArgs fd ⟨us,[]⟩=pure (ps.zip us)):Binds K fd ps []:=λs us _ hl=>by
 rw[Qxx] at hl ⊢;exact .of_eq (h us hl)
def Passes(CX:CXT)(X:Cx)(E:XK):Prop:=∀(pins:List (Addr×Obj)) (σ:St) (H:Hp) (s:Shared) (e:Value) (s':Shared),Inv X pins σ H s->CX X.stack H s E e s'->X.xe e s'
section
variable{X:Cx}{CX:CXT}{k:Nat}{f C:Addr}{fd:FuncData}{ps:List Str}{sp:Sp}{dvs:List V}{ds:List Value}{E:XK}{x m:Str}{p pos apos:Pos}{e o:Expr}{es:List Expr}{ta:TE}{t:TA}
theorem run_fn{pins:List (Addr×Obj)}{σ:St}{H:Hp}{s:Shared}{Q:VK}{us:List Value}{vs:List V}(F:FnOk X.prog X.w X.K X.mg X.base CX k f fd ps sp)(hr:Room k X.A)(hb:Binds X.K fd ps ds)(hd:Vals dvs ds)(hx:Passes CX X E)
  (I:Inv X pins σ H s) (r:Vals vs us) (h:sp (vs++dvs) H Q E):wpAny (model X.prog X.w) X.A (call (.ref f) us) (EP X pins σ Q) X.xe s:=by
 have r2:Vals (vs++dvs) (us++ds):=r.append hd;have hl:(us++ds).length=ps.length:=by rw[<-r2.length];exact F.len _ _ _ _ h
 refine wpAny_call (Qj8 (F.run X.A X.stack s H ⟨us,[]⟩ (us++ds) (vs++dvs) Q E hr I.env0 (hb s us I.kIn hl) r2 h) λr s' hq=>?_);cases r with
 | error e=>exact hx pins σ H s e s' I hq
 | ok fl=>
  cases fl with
  | ret u=>exact I.after hq
  | next=>exact False.elim hq
  | brk=>exact False.elim hq
  | cont=>exact False.elim hq
theorem pe_call(F:FnOk X.prog X.w X.K X.mg X.base CX k f fd ps sp)(hr:Room k X.A)(hg:Gl X x)(hm:X.mg x=some (.ref f))(hk:PySem.W.keepIn X.K (.ref f)=true)(hb:Binds X.K fd ps ds)(hd:Vals dvs ds)(hx:Passes CX X E)
  (ha:PA X (e::es) t) (hdb:nDb x:=by decide) (he:starEach (e::es) X.env=(false,eval e X.env)::starEach es X.env:=by rfl) (hpl:(backTo pos (starEach es X.env)).any (·.1)=false:=by rfl) :
  PE X (.Call (.Name x p) (e::es) [] pos) (tCall sp dvs E t):=by
 intro pins s σ H Q I h;refine wpAny_Call_Name_kw (ld_glob I hg hm ?_ hdb);refine PySem.W.callWith_K (h₀:=X.base) I.ok.mod.kin hk (thn (ha pos pins s σ H _ I h) λus s1 ⟨vs,H1,I1,r,q⟩=>⟨I1.kIn,?_⟩) he hpl;exact run_fn F hr hb hd hx I1 r q
end
structure FnScope(N P:List Str)(sc:Scope):Prop where
 kind:sc.kind = .function
 co:sc.isCoroutine=false
 gen:sc.isGenerator=false
 nd:N.Nodup
 pre:N.take P.length=P
 par:∀x∈P,sc.names.lookup x=some .local\/sc.names.lookup x=some .cell
 nofree:∀y∈sc.names,y.2 ≠ .free
theorem bindL_out{kindOf:Str->Option NameKind}{x:Str}:∀{binds:List (Str×Value)} {m:Str->Option Value},(∀v,(x,v) ∉ binds)->bindL kindOf binds m x=m x
 | [],_,_=>rfl
 | (n,v)::r,m,h=>by
  unfold bindL;rw[bindL_out λw hw=>h w (Qq4 _ hw)];split
  ·have:x≠n:=by rintro rfl;exact h v Qq3
   simp[this]
  ·rfl
theorem bindC_out{kindOf:Str->Option NameKind}{x:Str}:∀{binds:List (Str×Value)} {m:Str->Option Value},(∀v,(x,v) ∉ binds)->bindC kindOf binds m x=m x
 | [],_,_=>rfl
 | (n,v)::r,m,h=>by
  unfold bindC;rw[bindC_out λw hw=>h w (Qq4 _ hw)];split
  ·rfl
  ·have:x≠n:=by rintro rfl;exact h v Qq3
   simp[this]
theorem bindL_get{kindOf:Str->Option NameKind}{x:Str}{v:Value}:∀{P:List Str} {vs:List Value} {i:Nat} {m:Str->Option Value},P.Nodup->P[i]? = some x->vs[i]? = some v->kindOf x=some .local->
  bindL kindOf (P.zip vs) m x=some v
 | [],_,_,_,_,h,_,_=>by simp at h
 | _::_,[],_,_,_,_,h,_=>by simp at h
 | p::P,w::vs,0,m,nd,h1,h2,hk=>by
  simp at h1 h2;subst h1;subst h2;show bindL kindOf ((p,w)::P.zip vs) m p=_;unfold bindL;rw[bindL_out λv hv=>(Qj6.mp nd).1 (List.of_mem_zip hv).1,if_pos hk];simp
 | p::P,w::vs,i+1,m,nd,h1,h2,hk=>by
  show bindL kindOf ((p,w)::P.zip vs) m x=_;unfold bindL;exact bindL_get (i:=i) (Qj6.mp nd).2 (by simpa using h1) (by simpa using h2) hk
theorem bindC_get{kindOf:Str->Option NameKind}{x:Str}{v:Value}:∀{P:List Str} {vs:List Value} {i:Nat} {m:Str->Option Value},P.Nodup->P[i]? = some x->vs[i]? = some v->kindOf x≠some .local->
  bindC kindOf (P.zip vs) m x=some v
 | [],_,_,_,_,h,_,_=>by simp at h
 | _::_,[],_,_,_,_,h,_=>by simp at h
 | p::P,w::vs,0,m,nd,h1,h2,hk=>by
  simp at h1 h2;subst h1;subst h2;show bindC kindOf ((p,w)::P.zip vs) m p=_;unfold bindC;rw[bindC_out λv hv=>(Qj6.mp nd).1 (List.of_mem_zip hv).1,if_neg hk];simp
 | p::P,w::vs,i+1,m,nd,h1,h2,hk=>by
  show bindC kindOf ((p,w)::P.zip vs) m x=_;unfold bindC;exact bindC_get (i:=i) (Qj6.mp nd).2 (by simpa using h1) (by simpa using h2) hk
def start(N:List Str)(vs:List V):St:=vs.map some++List.replicate (N.length - vs.length) none
def cxOf(CX:CXT)(P:Program)(w:World)(K:PySem.W.Frag)(mg:Str->Option Value)(base:Heap)(N:List Str)(qual:Str)(scope:Scope)(f:Addr)(cd:Value)(A:Around)(outer:List Env)(s:Shared)(H:Hp)(E:XK):Cx where
 prog:=P
 w:=w
 K:=K
 mg:=mg
 base:=base
 A:=A.deeper (envOfC qual scope s.heap.objs.size f cd)
 N:=N
 s₀:=s
 H₀:=H
 env:=envOfC qual scope s.heap.objs.size f cd
 outer:=outer
 stack:=envOfC qual scope s.heap.objs.size f cd::outer
 ex:=[]
 calm:=true
 fn:=λ_=>true
 pn:=[]
 xe:=λe s'=>wpAny (model P w) (A.deeper (envOfC qual scope s.heap.objs.size f cd)) (leaving (envOfC qual scope s.heap.objs.size f cd) e) (λ_ s''=>CX outer H s E e s'') (λe' s''=>CX outer H s E e' s'') s'
theorem cell_has{sc:Scope}{n:Nat}{x:Str}(h:sc.names.lookup x=some .cell):∃c,(cellsFrom n sc.names []).lookup x=some c:=by have q:=PySem.W.cellsFrom_some sc.names n [] (.inl h);exact Qz4.mp q
theorem inv_start{CX:CXT}{P:Program}{w:World}{K:PySem.W.Frag}{mg:Str->Option Value}{base:Heap}{N ps:List Str}{qual:Str}{scope:Scope}{f:Addr}{cd:Value}{A:Around}{outer:List Env}{s s1:Shared}{H:Hp}{E:XK}{us:List Value}{vs:List V}
  (S:FnScope N ps scope) (hd:A.handled=none) (e0:Env0 P w K mg base A outer s H) (hl:vs.length=ps.length) (r:Vals vs us)
  (x:InCallC s s.heap.objs.size (bindL (envOfC qual scope s.heap.objs.size f cd).kindOf (ps.zip us) λ_=>none) (cellsFrom (s.heap.objs.size+1) scope.names []) (bindC (envOfC qual scope s.heap.objs.size f cd).kindOf (ps.zip us) λ_=>none) s1) :
  Inv (cxOf CX P w K mg base N qual scope f cd A outer s H E) [] (start N vs) H s1:=by
 have hpl:ps.length<=N.length:=by have:=Qkz List.length S.pre;rw[Qw9] at this;omega
 obtain⟨h1,tk,rfl,hk⟩:=x.done;have noA:∀b:Addr,b ∉ (cxOf CX P w K mg base N qual scope f cd A outer s H E).ex:=λb z=>absurd (show b∈([]:List Addr) from z) (by simp);refine⟨⟨e0.mod,S.kind,rfl,rfl,Qqy _,λy z c h1 h2=>?_,λy hy=>?_,λy c _ h=>?_,λ_=>hd,Around.frames_deeper e0.frames,.inr ⟨rfl,rfl⟩,λb z=>absurd z (noA b),e0.bs,e0.bsz,λb _ _=>noA b,λb z=>absurd z (noA b),e0.funs,e0.frf⟩,
  rfl,e0.bare,Un.kept hk,⟨_,x.toInCall.ns,λi y v h1 h2 h3=>?_⟩,λy c h=>⟨_,x.cell y c h⟩,e0.hok.fresh (Qqy _),λy c h=>?_,λp hp=>absurd (show p∈([]:List (Addr×Obj)) from hp) (by simp),e0.hok.kept hk,?_⟩
 ·exact name_of_addr x.apart (Qj4 h1) (Qj4 h2)
 ·have hy:scope.names.lookup y=some .cell\/scope.names.lookup y=some .free:=hy;rcases hy with hy|hy
  ·exact cell_has hy
  ·exact absurd rfl (S.nofree _ (Qj4 hy))
 ·exact Qjw (x.above y c (Qj4 h))
 ·have hi:i<vs.length:=by
   unfold start at h2;by_cases hi:i<vs.length
   ·exact hi
   ·rw[Qxw (by simpa using hi)] at h2;rw[Qzj] at h2;split at h2<;>cases h2
  have ha:vs[i]? = some v:=by
   unfold start at h2;rw[Qw5 (by simpa using hi),Qw8] at h2;cases e:vs[i]? with
   | none=>rw[e] at h2;cases h2
   | some a=>rw[e] at h2;cases h2;rfl
  obtain⟨u,hu,rv⟩:=r.get ha;have hp:ps[i]? = some y:=by rw[<-S.pre,Qz5 (by omega)];exact h1
  have ndP:ps.Nodup:=by rw[<-S.pre];exact S.nd.sublist (List.take_sublist _ _)
  refine⟨u,rv,?_⟩;rcases S.par y (List.mem_of_getElem? hp) with k|k
  ·exact .inl ⟨k,bindL_get ndP hp hu k⟩
  ·obtain⟨c,e⟩:=cell_has (n:=s.heap.objs.size+1) k;refine .inr ⟨.inl k,c,e,?_⟩;have q:=x.cell y c e;rw[bindC_get ndP hp hu (by show scope.names.lookup y≠_;rw[k];decide)] at q;exact q
 ·exact .inl (e0.hok.fresh (Qjw (x.above y c (Qj4 h))))
 ·unfold start;show _=N.length;rw[Qqj,Qqx,Qx4];omega
theorem fn_of{CX:CXT}{P:Program}{w:World}{K:PySem.W.Frag}{mg:Str->Option Value}{base:Heap}{k:Nat}{f:Addr}{name qual:Str}{params:Arguments}{body:List Stmt}{scope:Scope}{dV kV doc pm cdv ct oc:Value}{an od:Option Addr}
  {osl:Array (Option Value)} {N ps:List Str} {sp:Sp} (lk:K.lookup f=some ⟨oc,od,.func (PySem.W.fnOf name qual params body scope dV kV doc pm an cdv ct),osl⟩) (hcd:PySem.W.codeIn K cdv qual=true) (S:FnScope N ps scope)
  (len:∀vs H Q E,sp vs H Q E->vs.length=ps.length)
  (hbody:∀(A:Around) (outer:List Env) (s:Shared) (H:Hp) (vs:List V) (Q:VK) (E:XK),Room k (A.deeper (envOfC qual scope s.heap.objs.size f cdv))->sp vs H Q E->
   ∃t,PSs (cxOf CX P w K mg base N qual scope f cdv A outer s H E) body t/\t { nx:=λ_ H'=>Q .non H',rt:=Q } (start N vs) H) :
  FnOk P w K mg base CX (k+1) f (PySem.W.fnOf name qual params body scope dV kV doc pm an cdv ct) ps sp:=by
 refine⟨len,λA outer s H args us vs Q E hr e0 hb r hsp=>?_⟩;have hl:=len _ _ _ _ hsp;have KX:K.In s.heap:=e0.mod.kin.keeps λb o e=>(e0.bs b o e).1;have lim:s.heap.NoLimit:=e0.mod.nolimit.keeps λb o e=>(e0.bs b o e).1;have hkind:∀y∈ps.zip us,scope.names.lookup y.1=some .local\/(scope.names.lookup y.1=some .cell/\((cellsFrom (s.heap.objs.size+1) scope.names []).lookup y.1).isSome=true):=λ⟨n,v⟩ hy=>by
  rcases S.par n (List.of_mem_zip hy).1 with q|q
  ·exact .inl q
  ·exact .inr ⟨q,PySem.W.cellsFrom_some _ _ _ (.inl q)⟩
 refine codeAny_call_function hr.depth (KX _ _ lk) rfl S.co S.gen rfl (PySem.W.codeRec_of KX hcd) (hb _ _ _ _ ?_);refine wpAny_newFunctionEnv_cells S.kind hkind λenv he s1 x=>?_;subst he;refine⟨lim.keeps x.toInCall.keep,codeAny_func ?_⟩;obtain⟨t,ht,hq⟩:=hbody A outer s H vs Q E (hr.deeper _) hsp;have I:Inv (cxOf CX P w K mg base N qual scope f cdv A outer s H E) [] (start N vs) H s1:=inv_start S hr.hd e0 hl r x;refine Qw6 (ht [] s1 (start N vs) H _ I hq) (λfl s' hs=>?_) λe s' hs=>hs;have fin:∀{σ':St} {H':Hp} {v:V} {u:Value},Inv (cxOf CX P w K mg base N qual scope f cdv A outer s H E) [] σ' H' s'->RelV v u->Q v H'->CE outer P w H s Q u s':=
  λ{σ' H' v u} J rv q=>⟨v,H',J.os,J.bare,J.base,J.hok,rv,q⟩
 cases fl with
 | ret u=>
  obtain⟨v,σ',H',J,rv,q⟩:=hs;exact fin J rv q
 | next=>
  obtain⟨σ',H',J,q⟩:=hs;exact fin (v:=V.non) (u:=Value.none) J rfl q
 | brk=>
  obtain⟨_,_,_,q⟩:=hs;exact False.elim q
 | cont=>
  obtain⟨_,_,_,q⟩:=hs;exact False.elim q
section
variable{X:Cx}{x:Str}{p pos:Pos}{e:Expr}{es:List Expr}{t:TA}{id T:String}{r:List V->Hp->VK->Prop}
def tCB(r:List V->Hp->VK->Prop)(t:TA):TE:=λσ H Q=>t σ H λvs H1=>r vs H1 Q
theorem pe_callB(hc:CallR X (.builtin id) r)(hg:Gl X x)(hm:X.mg x=none)(hv:bootBuiltins x=some (.builtin id))(ha:PA X (e::es) t)(hn:x ≠ "__name__":=by decide)(hdb:nDb x:=by decide)
  (he:starEach (e::es) X.env=(false,eval e X.env)::starEach es X.env:=by rfl) (hpl:(backTo pos (starEach es X.env)).any (·.1)=false:=by rfl):PE X (.Call (.Name x p) (e::es) [] pos) (tCB r t):=by
 intro pins s σ H Q I h;refine wpAny_Call_Name_kw (ld_blt I hg hm hv ?_ hn hdb);exact PyProof.Rows.callWith_builtin1 (thn (ha pos pins s σ H _ I h) λus s1 ⟨vs,H1,I1,r1,q1⟩=>hc pins s1 σ H1 vs us Q I1 r1 q1) he hpl
theorem pe_callTy(hc:CallR X (.type T) r)(hg:Gl X x)(hm:X.mg x=none)(hv:bootBuiltins x=some (.type T))(ha:PA X (e::es) t)(hn:x ≠ "__name__":=by decide)(hdb:nDb x:=by decide)
  (he:starEach (e::es) X.env=(false,eval e X.env)::starEach es X.env:=by rfl) (hpl:(backTo pos (starEach es X.env)).any (·.1)=false:=by rfl):PE X (.Call (.Name x p) (e::es) [] pos) (tCB r t):=by
 intro pins s σ H Q I h;refine wpAny_Call_Name_kw (ld_blt I hg hm hv ?_ hn hdb);exact Qjq (thn (ha pos pins s σ H _ I h) λus s1 ⟨vs,H1,I1,r1,q1⟩=>hc pins s1 σ H1 vs us Q I1 r1 q1) he hpl
end
end L2
namespace HT
open PySem PyProof.Rows
section
variable{prog:Program}{w:World}{A:Around}{E:Value->Shared->Prop}{s:Shared}
theorem cat_tup{t b:Addr}{vs ws:List Value}{Q:Value->Shared->Prop}(ht:IsTup s.heap t vs.toArray)(hb:IsTup s.heap b ws.toArray)(hv:vs≠[])
  (h1:ws=[]->Q (.ref t) s) (h2:ws≠[]->Q (.ref s.heap.objs.size) { s with heap:=s.heap.push { cls:=.type "tuple",data:=.seq (vs++ws).toArray } })
  (hsz:vs.length+ws.length<=sizeLine):wpAny (model prog w) A (binaryOp .Add (.ref t) (.ref b)) Q E s:=by
 obtain⟨⟨cls,dd,data,sl⟩,ho,hc,n,hd⟩:=id ht;obtain⟨⟨cls2,dd2,data2,sl2⟩,ho2,hc2,n2,hd2⟩:=id hb;simp only at hc hd hc2 hd2;subst hc hd hc2 hd2;have e:vs.toArray++ws.toArray=(vs++ws).toArray:=by simp
 by_cases hw:ws=[]
 ·exact concat_meets ⟨_,ho,rfl⟩ ⟨_,ho2,rfl⟩ noFill_tuple_add seq_tuple_add PySem.F.slot_tuple_add PySem.F.entry_tuple_add (PySem.F.args_tuple_add_2 _ _)
   (tuple_addW1 t b vs.toArray ws.toArray n n2 dd dd2 sl sl2 (by simpa using hv) (by simp[hw])) ⟨ho,ho2,h1 hw⟩
 ·refine concat_meets ⟨_,ho,rfl⟩ ⟨_,ho2,rfl⟩ noFill_tuple_add seq_tuple_add PySem.F.slot_tuple_add PySem.F.entry_tuple_add (PySem.F.args_tuple_add_2 _ _)
   (tuple_addW2 t b vs.toArray ws.toArray n n2 dd dd2 sl sl2 (by simpa using hv) (by simpa using hw) (by rw[Qq1,Qq1];exact hsz)) ⟨ho,ho2,?_⟩
  rw[e];exact h2 hw
def sIx(n d:Nat):Option Int->Nat
 | none=>d
 | some v=>if v<0 then (v+(n:Int)).toNat else min v.toNat n
theorem sIx_nat(n d k:Nat):sIx n d (some (k:Int))=min k n:=by show(if (k:Int)<0 then ((k:Int)+(n:Int)).toNat else min (k:Int).toNat n)=min k n;rw[if_neg (by omega),Qj9]
theorem sIx_le(n d:Nat)(hd:d<=n)(o:Option Int):sIx n d o<=n:=by
 cases o with
 | none=>exact hd
 | some v=>
  show(if v<0 then (v+(n:Int)).toNat else min v.toNat n)<=n;by_cases hv:v<0
  ·rw[if_pos hv];omega
  ·rw[if_neg hv];exact Nat.min_le_right _ _
theorem clip_eq(v:Int)(n d:Nat):(if v<0 then max (v+(n:Int)) 0 else min v (n:Int))=((sIx n d (some v):Nat):Int):=by
 show(if v<0 then max (v+(n:Int)) 0 else min v (n:Int))=(((if v<0 then (v+(n:Int)).toNat else min v.toNat n):Nat):Int);by_cases hv:v<0
 ·simp only[if_pos hv];omega
 ·simp only[if_neg hv];omega
theorem adjust_gen(lo hi:Option Int)(n:Nat):Builtin.Slice.sliceAdjust lo hi 1 (n:Int)=(((sIx n 0 lo:Nat):Int),((sIx n n hi:Nat):Int)):=by
 have h1:¬((1:Int)<0):=by omega
 unfold Builtin.Slice.sliceAdjust;simp only[h1,if_false];refine Prod.ext ?_ ?_
 ·cases lo with
  | none=>rfl
  | some v=>exact clip_eq v n 0
 ·cases hi with
  | none=>rfl
  | some v=>exact clip_eq v n n
theorem places_gen(i j:Nat):Builtin.Slice.slicePlaces (i:Int) (j:Int) 1=j - i:=by
 unfold Builtin.Slice.slicePlaces;have h1:(1:Int) > 0:=by omega
 simp only[h1,if_true,Int.ediv_one];split<;>omega
theorem slicePart_{v:Value}{o:Option Int}{Q:Option Int->Shared->Prop}(p:IsPart v o)(h:Q o s):wpAny (model prog w) A (Builtin.Slice.slicePartIndex v) Q E s:=by
 cases p with
 | none=>exact slicePart_none h
 | int i t=>exact slicePart_int h
theorem sliceApplied_gen{sl:Addr}{vl vu:Value}{lo hi:Option Int}{n:Nat}{Q:Int×Int×Nat->Shared->Prop}(hs:s.heap.IsSliceOf sl vl vu .none)(pl:IsPart vl lo)(pu:IsPart vu hi)
  (h:Q (((sIx n 0 lo:Nat):Int),1,sIx n n hi - sIx n 0 lo) s):wpAny (model prog w) A (Builtin.Slice.sliceApplied (.ref sl) (pure (n:Int))) Q E s:=by
 obtain⟨os,hos,hcs,hds⟩:=id hs;unfold Builtin.Slice.sliceApplied Builtin.Slice.sliceFields;refine Qqq (Qqq (wpAny_field hos hds (x:=vl) rfl (Qqq (wpAny_field hos hds (x:=vu) rfl (Qqq (wpAny_field hos hds (x:=.none) rfl (Qqv ?_)))))));refine Qqq (slicePart_none ?_);show wpAny _ _ (if ((1:Int) == 0)=true then _ else _) _ _ s;rw[if_neg (by decide)];refine Qqq (slicePart_ pl (Qqq (slicePart_ pu (Qqq (Qqv ?_)))));show wpAny _ _ (match Builtin.Slice.sliceAdjust lo hi 1 (n:Int) with|(lo,hi)=>pure (lo,(1:Int),Builtin.Slice.slicePlaces lo hi 1)) _ _ s;rw[adjust_gen lo hi n];show wpAny _ _ (pure (((sIx n 0 lo:Nat):Int),(1:Int),Builtin.Slice.slicePlaces ((sIx n 0 lo:Nat):Int) ((sIx n n hi:Nat):Int) 1)) _ _ s;rw[places_gen];exact Qqv h
theorem pick_gen(xs:Array Value)(i k:Nat):((List.range k).filterMap λ(m:Nat)=>xs[((i:Int)+(m:Int)*1).toNat]?).toArray=((xs.toList.drop i).take k).toArray:=by
 have e:(λ(m:Nat)=>xs[((i:Int)+(m:Int)*1).toNat]?)=λm=>xs[i+m]?:=by
  funext m
  have:((i:Int)+(m:Int)*1).toNat=i+m:=by omega
  rw[this]
 rw[e];have:=pick_run xs i k;rw[List.filterMap_map] at this;have e2:((λx=>xs[x]?) ∘ λx=>i+x)=λm=>xs[i+m]?:=rfl;rw[e2] at this;rw[this]
theorem getItem_tuple_cut{t sl:Addr}{items:Array Value}{vl vu:Value}{lo hi:Option Int}{Q:Value->Shared->Prop}(ht:IsTup s.heap t items)(hs:s.heap.IsSliceOf sl vl vu .none)(pl:IsPart vl lo)(pu:IsPart vu hi)
  (hw:¬(sIx items.size 0 lo=0/\sIx items.size items.size hi=items.size))
  (h:Q (.ref s.heap.objs.size) { s with heap:=s.heap.push { cls:=.type "tuple",data:=.seq ((items.toList.drop (sIx items.size 0 lo)).take (sIx items.size items.size hi - sIx items.size 0 lo)).toArray } })
  (hsz:items.size<=sizeLine):wpAny (model prog w) A (getItem (.ref t) (.ref sl)) Q E s:=by
 have htake:sizeOk (.seq ((items.toList.drop (sIx items.size 0 lo)).take (sIx items.size items.size hi - sIx items.size 0 lo)).toArray):=by show((items.toList.drop (sIx items.size 0 lo)).take (sIx items.size items.size hi - sIx items.size 0 lo)).toArray.size<=sizeLine;rw[Qq1,Qw9,Qx8,Qzw];omega
 have hj:sIx items.size items.size hi<=items.size:=sIx_le _ _ (Qqy _) hi;obtain⟨os,hos,hcs,hds⟩:=id hs;have hTs:s.TypeIs (.ref sl) "slice":=⟨os,hos,hcs⟩;unfold getItem
 try with_reducible refine Qx6 ?_
 first|refine Qqq (Qqv ?_)|skip
 refine Qqq (wpAny_sequenceKey ht.typeIs (by decide) ?_);refine Qqq (wpAny_callSpecial?_slot (name:=Str.ofString "__getitem__") ht.typeIs Qzy
  (Qzv Qzy ht.typeIs entry_tuple_getitem ?_ (args_tuple_getitem _ _)))
 show wpAny _ _ (Builtin.Tuple.tupleItemsOf (.ref t) >>= _) _ _ s;refine Qqq (tupleItemsOf_ ht ?_);refine Qqq (wpAny_typeOf hTs ?_);rw[if_pos (by decide)];refine Qqq (sliceApplied_gen hs pl pu ?_);have hno:¬((((sIx items.size 0 lo:Nat):Int) == 0&&(1:Int) == 1&&(sIx items.size items.size hi - sIx items.size 0 lo) == items.size)=true):=by intro q;rw[Qwv,Qwv] at q;have q1:((sIx items.size 0 lo:Nat):Int)=0:=eq_of_beq q.1.1;have q2:sIx items.size items.size hi - sIx items.size 0 lo=items.size:=eq_of_beq q.2;exact hw ⟨by omega,by omega⟩
 show wpAny _ _ (if (((sIx items.size 0 lo:Nat):Int) == 0&&(1:Int) == 1&&(sIx items.size items.size hi - sIx items.size 0 lo) == items.size)=true then _ else _) _ _ s;rw[if_neg hno,pick_gen]
 first
  | exact Qqq (m:=Builtin.Tuple.tupleExact _) (Qxj (Qqv ⟨_,rfl,Qqv h⟩) htake)
  | exact Qqq (m:=Builtin.Tuple.tupleExact _) (Qxj (Qqq (Qqv (Qqv ⟨_,rfl,Qqv h⟩))) htake)
  | exact Qqq (Qqq (m:=Builtin.Tuple.tupleExact _) (Qxj (Qqv (Qqv ⟨_,rfl,Qqv h⟩)) htake))
  | exact Qqq (Qqq (m:=Builtin.Tuple.tupleExact _) (Qxj (Qqv ⟨_,rfl,Qqv h⟩) htake))
end
end HT
namespace L2
open PySem PySem.Spec PyProof.Rows
abbrev TO:=St->Hp->(Option Int->Hp->Prop)->Prop
def PO(X:Cx)(e:Option Expr)(t:TO):Prop:=
 ∀(pins:List (Addr×Obj)) (s:Shared) (σ:St) (H:Hp) (Q:Option Int->Hp->Prop),Inv X pins σ H s->t σ H Q->
  wpAny (model X.prog X.w) X.A (evalPart e X.env) (λu s'=>∃o H',Inv X pins σ H' s'/\IsPart u o/\Q o H') X.xe s
def tNoPart:TO:=λ_ H Q=>Q none H
def tPart(t:TE):TO:=λσ H Q=>t σ H λx H1=>∃i,x = .int i/\Q (some i) H1
section
variable{X:Cx}{e:Expr}{te:TE}{lo hi:Option Expr}{tl th:TO}{pos p2:Pos}
theorem po_none:PO X none tNoPart:=by intro pins s σ H Q I h;rw[evalPart_none];exact Qqv ⟨none,H,I,.none,h⟩
theorem po_some(h:PE X e te):PO X (some e) (tPart te):=by intro pins s σ H Q I hw;rw[evalPart_some];refine thn (h pins s σ H _ I hw) λu s1 ⟨x,H1,I1,r1,q1⟩=>?_;obtain⟨i,rfl,q⟩:=q1;obtain⟨t,rfl⟩:=r1;exact⟨some i,H1,I1,.int i t,q⟩
def SlR(X:Cx)(r:V->Option Int->Option Int->Hp->VK->Prop):Prop:=
 ∀(pins:List (Addr×Obj)) (s:Shared) (σ:St) (H:Hp) (x:V) (v vl vu:Value) (lo hi:Option Int) (sl:Addr) (Q:VK),Inv X pins σ H s->RelV x v->s.heap.IsSliceOf sl vl vu .none->IsPart vl lo->IsPart vu hi->r x lo hi H Q->
  ∃T id,typeLookup (.type T) "__getitem__" = pure (some (.builtin id))/\s.TypeIs v T/\wpAny (model X.prog X.w) X.A (getItem v (.ref sl)) (EP X pins σ Q) X.xe s
theorem SlR.or{r r':V->Option Int->Option Int->Hp->VK->Prop}(h:SlR X r)(h':SlR X r'):SlR X (λx lo hi H Q=>r x lo hi H Q\/r' x lo hi H Q):=by
 intro pins s σ H x v vl vu lo hi sl Q I rx hs pl pu q;rcases q with q|q
 ·exact h pins s σ H x v vl vu lo hi sl Q I rx hs pl pu q
 ·exact h' pins s σ H x v vl vu lo hi sl Q I rx hs pl pu q
def tSl(r:V->Option Int->Option Int->Hp->VK->Prop)(te:TE)(tl th:TO):TE:=λσ H Q=>te σ H λx H1=>tl σ H1 λl H2=>th σ H2 λu H3=>r x l u H3 Q
theorem pe_slice{r:V->Option Int->Option Int->Hp->VK->Prop}(hr:SlR X r)(he:PE X e te)(hl:PO X lo tl)(hu:PO X hi th):PE X (.Subscript e (.Slice lo hi none p2) pos) (tSl r te tl th):=by intro pins s σ H Q I h;refine Subscript_ (thn (he pins s σ H _ I h) λv s1 ⟨x,H1,I1,r1,q1⟩=>?_);refine wpAny_Slice (thn (hl pins s1 σ H1 _ I1 q1) λvl s2 ⟨l,H2,I2,pl,q2⟩=>thn (hu pins s2 σ H2 _ I2 q2) λvu s3 ⟨u,H3,I3,pu,q3⟩=>?_);rw[evalPart_none];refine Qqv ?_;have I4:Inv X pins σ H3 { s3 with heap:=s3.heap.push { cls:=.type "slice",data:=.fields #[vl,vu,.none] } }:=I3.kept (t':=s3.toks) λb ob q=>Qqz _ q;obtain⟨T,id,hT,ht,hg⟩:=hr pins { s3 with heap:=s3.heap.push { cls:=.type "slice",data:=.fields #[vl,vu,.none] } } σ H3 x v vl vu l u s3.heap.objs.size Q I4 r1 (Heap.IsSliceOf.new ..) pl pu q3;show wpAny (model X.prog X.w) X.A (subscriptTail e (.Slice lo hi none p2) v (.ref s3.heap.objs.size)) (EP X pins σ Q) X.xe { s3 with heap:=s3.heap.push { cls:=.type "slice",data:=.fields #[vl,vu,.none] } };exact tail_any (ops:=[.ref s3.heap.objs.size,v]) ht hT hg (by with_unfolding_all rfl)
def cutV(xs:List V)(lo hi:Option Int):List V:=(xs.drop (HT.sIx xs.length 0 lo)).take (HT.sIx xs.length xs.length hi - HT.sIx xs.length 0 lo)
theorem cutV_length(xs:List V)(lo hi:Option Int):(cutV xs lo hi).length<=xs.length:=by unfold cutV;rw[Qw9,Qx8];omega
def rSlT(K:PySem.W.Frag):V->Option Int->Option Int->Hp->VK->Prop:=λx lo hi H Q=>∃a xs,x = .ref a/\SqT K H a xs/\
 ¬(HT.sIx xs.length 0 lo=0/\HT.sIx xs.length xs.length hi=xs.length)/\∀p,H p=none->Q (.ref p) (upd H p (.tup (cutV xs lo hi)))
theorem sl_tup:SlR X (rSlT X.K):=by
 intro pins s σ H x v vl vu lo hi sl Q I rx hs pl pu h;obtain⟨a,xs,rfl,hx,hw,q⟩:=h;cases rx;obtain⟨its,r,ht,hz⟩:=I.tuple hx;have hlen:its.toArray.size=xs.length:=by rw[Qq1];exact r.length.symm
 refine⟨"tuple",_,PyProof.Rows.slot_tuple_getitem.lookup,ht.typeIs,?_⟩;refine HT.getItem_tuple_cut ht hs pl pu (by rw[hlen];exact hw) ?_ (by rw[hlen];exact hz);rw[hlen];refine⟨.ref s.heap.objs.size,_,I.laid (t':=s.toks) (o:=.tup (cutV xs lo hi)) (λb ob q=>Qqz _ q) (Qqy _) ?_,rfl,q _ (I.hok.fresh (Qqy _))⟩;exact⟨Qq2 (cutV_length xs lo hi) hz,_,(r.drop (HT.sIx xs.length 0 lo)).take (HT.sIx xs.length xs.length hi - HT.sIx xs.length 0 lo),TupD.new _ _⟩
def rCatT(K:PySem.W.Frag):R2:=λx y H Q=>∃a b xs ys,x = .ref a/\y = .ref b/\SqT K H a xs/\SqT K H b ys/\xs≠[]/\xs.length+ys.length<=sizeLine/\
 (ys=[]->Q (.ref a) H)/\(ys≠[]->∀p,H p=none->Q (.ref p) (upd H p (.tup (xs++ys))))
theorem Vals.nil_iff{xs:List V}{us:List Value}(r:Vals xs us):us=[]↔xs=[]:=by
 cases r with
 | nil=>simp
 | cons _ _=>simp
theorem op_catT:OpR X (binaryOp .Add) (rCatT X.K):=by intro pins s σ H x y v u Q I rx ry h;obtain⟨a,b,xs,ys,rfl,rfl,ha,hb,hx,hz,q1,q2⟩:=h;cases rx;cases ry;obtain⟨its,r1,p1,_⟩:=I.tuple ha;obtain⟨its2,r2,p2,_⟩:=I.tuple hb;refine HT.cat_tup p1 p2 (λz=>hx (r1.nil_iff.mp z)) (λz=>⟨.ref a,H,I,rfl,q1 (r2.nil_iff.mp z)⟩) (λz=>?_) (by rw[<-r1.length,<-r2.length];exact hz);refine⟨.ref s.heap.objs.size,_,I.laid (t':=s.toks) (o:=.tup (xs++ys)) (λb ob q=>Qqz _ q) (Qqy _) ?_,rfl,q2 (λw=>z (r2.nil_iff.mpr w)) _ (I.hok.fresh (Qqy _))⟩;exact⟨by rw[Qqj];exact hz,_,r1.append r2,TupD.new _ _⟩
end
def ixN(n:Nat)(i:Int):Option Nat:=if 0<=i then (if i<n then some i.toNat else none) else if -(n:Int)<=i then some (i+n).toNat else none
def atI{α:Type}(xs:List α)(i:Int):Option α:=(ixN xs.length i).bind λj=>xs[j]?
theorem ixN_seq{n:Nat}{i:Int}{j:Nat}(h:ixN n i=some j):seqIndex? i n=some j/\j<n/\-(n:Int)<=i/\i<n:=by
 unfold ixN at h;by_cases h0:0<=i
 ·rw[if_pos h0] at h;by_cases h1:i<n
  ·rw[if_pos h1] at h;have e:i.toNat=j:=Qxq h;exact⟨by rw[seqIndex_of h0 h1,e],by omega,by omega,h1⟩
  ·rw[if_neg h1] at h;cases h
 ·rw[if_neg h0] at h;by_cases h1 : -(n:Int)<=i
  ·rw[if_pos h1] at h;have e:(i+n).toNat=j:=Qxq h;exact⟨by rw[seqIndex_neg (by omega) h1,e],by omega,h1,by omega⟩
  ·rw[if_neg h1] at h;cases h
theorem atI_get{α:Type}{xs:List α}{i:Int}{v:α}(h:atI xs i=some v):∃j,seqIndex? i xs.length=some j/\xs[j]? = some v/\j<xs.length/\-(xs.length:Int)<=i/\i<xs.length:=by
 unfold atI at h;cases e:ixN xs.length i with
 | none=>rw[e] at h;cases h
 | some j=>
  rw[e] at h;obtain⟨h1,h2,h3,h4⟩:=ixN_seq e;exact⟨j,h1,h,h2,h3,h4⟩
theorem atI_nat{α:Type}{xs:List α}{j:Nat}{v:α}(h:xs[j]? = some v):atI xs (j:Int)=some v:=by
 have hj:j<xs.length:=(Qq6.mp h).1;have e:ixN xs.length (j:Int)=some j:=by unfold ixN;rw[if_pos (by omega),if_pos (by omega)];simp
 unfold atI;rw[e];exact h
def PlainIx(b:Expr):Prop:=∀o i,subscripted b false o i=operate [o,i] (getItem o i)
def IxR(X:Cx)(r:R2):Prop:=
 ∀(value slice:Expr) (pins:List (Addr×Obj)) (s:Shared) (σ:St) (H:Hp) (x y:V) (v u:Value) (Q:VK),Inv X pins σ H s->RelV x v->RelV y u->r x y H Q->
  subscripted slice false v u=operate [v,u] (getItem v u)->wpAny (model X.prog X.w) X.A (subscriptTail value slice v u) (EP X pins σ Q) X.xe s
def MtR(X:Cx)(id:String)(r:V->List V->Hp->VK->Prop):Prop:=
 ∀(pins:List (Addr×Obj)) (s:Shared) (σ:St) (H:Hp) (x:V) (xs:List V) (v:Value) (us:List Value) (Q:VK),Inv X pins σ H s->RelV x v->Vals xs us->r x xs H Q->
  wpAny (model X.prog X.w) X.A (call (.builtin id) (v::us)) (EP X pins σ Q) X.xe s
section
variable{X:Cx}{a b:Expr}{ta tb:TE}{pos:Pos}
theorem IxR.or{r r':R2}(h:IxR X r)(h':IxR X r'):IxR X (λx y H Q=>r x y H Q\/r' x y H Q):=by
 intro value slice pins s σ H x y v u Q I rx ry q hs;rcases q with q|q
 ·exact h value slice pins s σ H x y v u Q I rx ry q hs
 ·exact h' value slice pins s σ H x y v u Q I rx ry q hs
theorem pe_ix{r:R2}(hr:IxR X r)(ha:PE X a ta)(hb:PE X b tb)(hs:PlainIx b):PE X (.Subscript a b pos) (tOp r ta tb):=by intro pins s σ H Q I h;exact Subscript_ (binT ha hb I h λv u s2 x y H2 I2 rx ry q=>hr a b pins s2 σ H2 x y v u Q I2 rx ry q (hs _ _))
def rIxL(K:PySem.W.Frag):R2:=λx y H Q=>∃p xs i v,x = .ref p/\y = .int i/\SqL K H p xs/\atI xs i=some v/\Q v H
def rIxT(K:PySem.W.Frag):R2:=λx y H Q=>∃p xs i v,x = .ref p/\y = .int i/\SqT K H p xs/\atI xs i=some v/\Q v H
def rIxS:R2:=λx y H Q=>∃z i c,x = .str z/\y = .int i/\z.length<=sizeLine/\atI z.cps.toList i=some c/\Q (.str ⟨#[c]⟩) H
theorem ix_list:IxR X (rIxL X.K):=by
 intro value slice pins s σ H x y v u Q I rx ry h hs;obtain⟨p,xs,i,z,rfl,rfl,hq,he,q⟩:=h;cases rx;obtain⟨t,rfl⟩:=ry;obtain⟨its,r,pl,hz⟩:=I.list hq;obtain⟨j,h1,h2,h3,h4,h5⟩:=atI_get he;obtain⟨w,ew,rw'⟩:=r.get h2;have hl:=r.length;have hn:=line63;have fin:EP X pins σ Q w s:=⟨z,H,I,rw',q⟩;by_cases h0:0<=i
 ·have hj:i.toNat=j:=by
   rw[seqIndex_of h0 h5] at h1;exact Qxq h1
  exact item_listR pl.isList h0 (by omega) (by rw[hj];simpa using ew) fin hs
 ·have hj:(i+(its.toArray.size:Int)).toNat=j:=by
   rw[seqIndex_neg (by omega) h4] at h1;rw[Qq1,<-hl];exact Qxq h1
  exact subscriptTail_builtinR (x:=w) pl.isList.typeIs slot_list_getitem.lookup
   (wpAny_getItem_list_neg (Q:=λr s'=>r=w/\EP X pins σ Q r s') pl.isList (by omega) (by rw[Qq1]<;>omega) (by omega) (by rw[hj];simpa using ew) ⟨rfl,fin⟩) hs
theorem ix_tup:IxR X (rIxT X.K):=by
 intro value slice pins s σ H x y v u Q I rx ry h hs;obtain⟨p,xs,i,z,rfl,rfl,hq,he,q⟩:=h;cases rx;obtain⟨t,rfl⟩:=ry;obtain⟨its,r,pl,hz⟩:=I.tuple hq;obtain⟨j,h1,h2,h3,h4,h5⟩:=atI_get he;obtain⟨w,ew,rw'⟩:=r.get h2;have hl:=r.length;have hn:=line63;have fin:EP X pins σ Q w s:=⟨z,H,I,rw',q⟩;exact subscriptTail_builtinR (x:=w) pl.typeIs slot_tuple_getitem.lookup
  (getItem_tuple (j:=j) (Q:=λr s'=>r=w/\EP X pins σ Q r s') pl (by omega) (by omega) (by rw[Qq1,<-hl];exact h1) (by simpa using ew) ⟨rfl,fin⟩) hs
theorem ix_str:IxR X rIxS:=by
 intro value slice pins s σ H x y v u Q I rx ry h hs;obtain⟨z,i,c,rfl,rfl,hz,he,q⟩:=h;obtain⟨t,rfl⟩:=rx;obtain⟨t',rfl⟩:=ry;obtain⟨j,h1,h2,h3,h4,h5⟩:=atI_get he;have hl:z.cps.toList.length=z.length:=by simp[Str.length]
 rw[hl] at h1 h4 h5;have hn:=line63;exact tail_any (typeIs_str s z t) slot_str_getitem.lookup (getItem_str (c:=c) (by
  have e1:decide (i < -(2^63:Int))=false:=Qwj (by omega);have e2:decide (i ≥ 2^63)=false:=Qwj (by omega);rw[e1,e2,Bool.or_false]) (by rw[h1];simpa using h2) ⟨.str ⟨#[c]⟩,H,I.tok _,⟨_,rfl⟩,q⟩) hs
def rIx(K:PySem.W.Frag):R2:=λx y H Q=>rIxL K x y H Q\/rIxT K x y H Q\/rIxS x y H Q
theorem ix_seq:IxR X (rIx X.K):=ix_list.or (ix_tup.or ix_str)
theorem mapSeq_set(its:List Value)(n j:Nat)(u:Value):Obj.mapSeq (·.setIfInBounds j u) { cls:=.type "list",data:=.seq its.toArray n } = { cls:=.type "list",data:=.seq (its.set j u).toArray n }:=by simp[Obj.mapSeq]
theorem Inv.lst{pins:List (Addr×Obj)}{σ:St}{H:Hp}{s:Shared}{p:Addr}{xs:List V}(I:Inv X pins σ H s)(h:H p=some (.lst xs)) :
  ∃(its:List Value) (n:Nat),Vals xs its/\s.heap.get? p=some { cls:=.type "list",data:=.seq its.toArray n }/\xs.length<=sizeLine:=by
 obtain⟨z,its,n,r,e⟩:=I.hok p _ h;exact⟨its,n,r,e,z⟩
theorem Inv.lstUpd{pins:List (Addr×Obj)}{σ:St}{H:Hp}{s:Shared}{p:Addr}{xs ys:List V}{its its':List Value}{n n':Nat}{f:Obj->Obj}(I:Inv X pins σ H s)(h:H p=some (.lst xs))
  (ho:s.heap.get? p=some { cls:=.type "list",data:=.seq its.toArray n }) (hf:f { cls:=.type "list",data:=.seq its.toArray n } = { cls:=.type "list",data:=.seq its'.toArray n' }) (r:Vals ys its') (hz:ys.length<=sizeLine) (t:Nat) :
  Inv X pins σ (upd H p (.lst ys)) { s with heap:=s.heap.update p f,toks:=t }:=by
 have e:(s.heap.update p f).get? p=some { cls:=.type "list",data:=.seq its'.toArray n' }:=by rw[Heap.get?_update_self f ho (by rw[hf]<;>rfl),hf]
 refine I.write (x:=p) (e:=p) (by rw[h];trivial) (.inl rfl) (λb u hb q=>(Heap.get?_update_other _ _ (Ne.symm hb)).trans q) ⟨_,e⟩ ?_;exact⟨hz,its',n',r,e⟩
def rSetL:V->V->V->Hp->(Hp->Prop)->Prop:=λo i v H Q=>∃p xs k j,o = .ref p/\i = .int k/\H p=some (.lst xs)/\ixN xs.length k=some j/\Q (upd H p (.lst (xs.set j v)))
theorem set_list:PSet X rSetL:=by
 intro pins s σ H o i v ov iv u Q I ro ri rv h;obtain⟨p,xs,k,j,rfl,rfl,hp,hj,q⟩:=h;cases ro;obtain⟨t,rfl⟩:=ri;obtain⟨its,n,r,ho,hz⟩:=I.lst hp;obtain⟨h1,h2,h3,h4⟩:=ixN_seq hj;have hl:=r.length;have hn:=line63;have I':Inv X pins σ (upd H p (.lst (xs.set j v))) { s with heap:=s.heap.update p (Obj.mapSeq (·.setIfInBounds j u)) }:=
  I.lstUpd hp ho (mapSeq_set its n j u) (r.set rv j) (by rw[Qwy];exact hz) s.toks
 by_cases h0:0<=k
 ·have hk:k.toNat=j:=by
   rw[seqIndex_of h0 h4] at h1;exact Qxq h1
  exact PySem.W.ki_setAt ho h0 (by omega) (by rw[Qq1,<-hl];exact h4) (by rw[hk];exact⟨_,I',q⟩)
 ·have hk:(k+(its.toArray.size:Int)).toNat=j:=by
   rw[seqIndex_neg (by omega) h3] at h1;rw[Qq1,<-hl];exact Qxq h1
  exact PySem.W.ki_setBack ho (by omega) (by rw[Qq1,<-hl];exact h3) (by omega) (by rw[hk];exact⟨_,I',q⟩)
theorem slice_bounds(lo hi:Option Int)(n:Nat):(sliceBounds lo hi none n).1=((HT.sIx n 0 lo:Nat):Int)/\(sliceBounds lo hi none n).2.1=((HT.sIx n n hi:Nat):Int)/\(sliceBounds lo hi none n).2.2=1:=by
 refine⟨?_,?_,rfl⟩
 ·cases lo with
  | none=>simp[sliceBounds,HT.sIx]
  | some i=>
   simp only[sliceBounds,HT.sIx,Option.getD_none,show(1:Int) > 0 by decide,if_true];by_cases h:i<0
   ·simp only[h,if_true]<;>omega
   ·simp only[h,if_false]<;>omega
 ·cases hi with
  | none=>simp[sliceBounds,HT.sIx]
  | some i=>
   simp only[sliceBounds,HT.sIx,Option.getD_none,show(1:Int) > 0 by decide,if_true];by_cases h:i<0
   ·simp only[h,if_true]<;>omega
   ·simp only[h,if_false]<;>omega
theorem slicePick_cut(its:List Value)(lo hi:Option Int):slicePick its.toArray lo hi none=((its.drop (HT.sIx its.length 0 lo)).take (HT.sIx its.length its.length hi - HT.sIx its.length 0 lo)).toArray:=by obtain⟨h1,h2,h3⟩:=slice_bounds lo hi its.toArray.size;unfold slicePick;rw[h1,h2,h3];simp only[sliceRange_one,pick_run,Qq1]<;>rfl
def rSlL(K:PySem.W.Frag):V->Option Int->Option Int->Hp->VK->Prop:=λx lo hi H Q=>∃a xs,x = .ref a/\SqL K H a xs/\∀p,H p=none->Q (.ref p) (upd H p (.lst (cutV xs lo hi)))
theorem sl_list:SlR X (rSlL X.K):=by intro pins s σ H x v vl vu lo hi sl Q I rx hs pl pu h;obtain⟨a,xs,rfl,hx,q⟩:=h;cases rx;obtain⟨its,r,ht,hz⟩:=I.list hx;have hlen:=r.length;refine⟨"list",_,slot_list_getitem.lookup,ht.isList.typeIs,?_⟩;refine wpAny_getItem_list_slice ht.isList hs pl pu .none (by simp) ?_ (by rw[Qq1]<;>omega);rw[slicePick_cut,<-hlen];refine⟨.ref s.heap.objs.size,_,I.laid (t':=s.toks) (o:=.lst (cutV xs lo hi)) (λb ob q=>Qqz _ q) (Qqy _) ?_,rfl,q _ (I.hok.fresh (Qqy _))⟩;exact⟨Qq2 (cutV_length xs lo hi) hz,_,0,(r.drop (HT.sIx xs.length 0 lo)).take (HT.sIx xs.length xs.length hi - HT.sIx xs.length 0 lo),Qq5 _ rfl⟩
theorem CallR.or{f:Value}{r r':List V->Hp->VK->Prop}(h:CallR X f r)(h':CallR X f r'):CallR X f (λxs H Q=>r xs H Q\/r' xs H Q):=by
 intro pins s σ H xs us Q I rs q;rcases q with q|q
 ·exact h pins s σ H xs us Q I rs q
 ·exact h' pins s σ H xs us Q I rs q
theorem call_list_of:CallR X (.type "list") (λxs H Q=>∃p ys,xs=[.ref p]/\(SqL X.K H p ys\/SqT X.K H p ys)/\∀l,H l=none->Q (.ref l) (upd H l (.lst ys))):=by
 intro pins s σ H xs us Q I r h;obtain⟨p,ys,rfl,hq,q⟩:=h;obtain⟨u,rfl,rx⟩:=vals1 r;cases rx;have fin:∀(its:List Value),Vals ys its->ys.length<=sizeLine->∀(h':Heap) (c':Nat),(∀b o',s.heap.get? b=some o'->h'.get? b=some o')->
   h'.get? s.heap.objs.size=some { cls:=.type "list",dict:=none,data:=.seq its.toArray c',slots:=#[] }->EP X pins σ Q (.ref s.heap.objs.size) { s with heap:=h' }:=λits r' hz h' c' kp e=>
  ⟨.ref s.heap.objs.size,_,I.laid (t':=s.toks) kp (Qqy _) (show ObjOk X.prog X.w _ h' _ (.lst ys) from⟨hz,its,c',r',e⟩),rfl,q _ (I.hok.fresh (Qqy _))⟩
 rcases hq with hq|hq
 ·obtain⟨its,r',pl,hz⟩:=I.list hq;have hlen:=r'.length;obtain⟨o,ho,hc,n,hd⟩:=pl.isList;exact call_list_seq p (.inl rfl) ho hc hd (λh' c' kp e=>fin its r' hz h' c' kp e) (by simp only[Qq1]<;>omega)
 ·obtain⟨its,r',pl,hz⟩:=I.tuple hq;have hlen:=r'.length;obtain⟨o,ho,hc,n,hd⟩:=pl;exact call_list_seq p (.inr rfl) ho hc hd (λh' c' kp e=>fin its r' hz h' c' kp e) (by simp only[Qq1]<;>omega)
theorem call_tuple_of:CallR X (.type "tuple") (λxs H Q=>∃p ys,xs=[.ref p]/\((SqL X.K H p ys/\∀l,H l=none->Q (.ref l) (upd H l (.tup ys)))\/(SqT X.K H p ys/\Q (.ref p) H))):=by
 intro pins s σ H xs us Q I r h;obtain⟨p,ys,rfl,h⟩:=h;obtain⟨u,rfl,rx⟩:=vals1 r;cases rx;rcases h with ⟨hq,q⟩|⟨hq,q⟩
 ·obtain⟨its,r',pl,hz⟩:=I.list hq;have hlen:=r'.length;refine call_tuple_list pl.isList (λh' kp=>?_) (by simp only[Qq1]<;>omega);have I1:Inv X pins σ H { s with heap:=h' }:=I.kept (t':=s.toks) kp;have I2:Inv X pins σ (upd H h'.objs.size (.tup ys)) { s with heap:=h'.push { cls:=.type "tuple",data:=.seq its.toArray } }:=
   I1.laid (t':=s.toks) (λb o e=>Qqz _ e) (Qqy _) (show ObjOk X.prog X.w _ _ _ (.tup ys) from⟨hz,its,r',TupD.new _ _⟩)
  exact⟨.ref h'.objs.size,_,I2,rfl,q _ (I1.hok.fresh (Qqy _))⟩
 ·obtain⟨its,r',pl,hz⟩:=I.tuple hq;exact call_tuple_same pl ⟨.ref p,H,I,rfl,q⟩
def tyV(K:PySem.W.Frag)(T:String)(x:V)(H:Hp):Prop:=match x with
 | .str _=>T = "str"
 | .int _=>T = "int"
 | .ref p=>(T = "list"/\∃xs,SqL K H p xs)\/(T = "tuple"/\∃o,K.lookup p=some o/\o.cls = .type "tuple"/\o.dict=none)\/
   (T = "dict"/\((∃kvs,H p=some (.dK kvs))\/∃kvs,H p=some (.dT kvs)))\/(T = "set"/\∃S n,H p=some (.set S n))
 | _=>False
theorem tyV_is{pins:List (Addr×Obj)}{σ:St}{H:Hp}{s:Shared}{T:String}{x:V}{v:Value}(I:Inv X pins σ H s)(r:RelV x v)(ty:tyV X.K T x H) :
  s.TypeIs v T/\∀a,v = .ref a->∃ob,s.heap.get? a=some ob/\ob.dict=none:=by
 cases x with
 | str z=>
  obtain⟨t,rfl⟩:=r;cases(show T = "str" from ty);exact⟨typeIs_str s z t,λ_ e=>nomatch e⟩
 | int i=>
  obtain⟨t,rfl⟩:=r;cases(show T = "int" from ty);exact⟨typeIs_int s i t,λ_ e=>nomatch e⟩
 | ref p=>
  cases r;rcases ty with ⟨rfl,xs,hq⟩|⟨rfl,o,hk,hc,hd⟩|⟨rfl,hk⟩|⟨rfl,S,n,hk⟩
  ·obtain⟨its,_,pl,_⟩:=I.list hq;refine⟨pl.isList.typeIs,λa e=>?_⟩;cases e;obtain⟨o,n,e,c,hd,_⟩:=pl;exact⟨o,e,hd⟩
  ·refine⟨⟨o,I.kIn p o hk,hc⟩,λa e=>?_⟩;cases e;exact⟨o,I.kIn _ o hk,hd⟩
  ·have z:∃o,s.heap.get? p=some o/\o.ExactDict:=by
    rcases hk with ⟨kvs,hk⟩|⟨kvs,hk⟩
    ·obtain⟨_,_,_,_,o,_,_,e,ex,_⟩:=I.hok p _ hk;exact⟨o,e,ex⟩
    ·obtain⟨_,_,_,_,o,_,_,e,ex,_⟩:=I.hok p _ hk;exact⟨o,e,ex⟩
   obtain⟨o,e,ex⟩:=z;refine⟨⟨o,e,ex.1⟩,λa e2=>?_⟩;cases e2;exact⟨o,e,ex.2.1⟩
  ·obtain⟨o,_,_,_,e,ex,_⟩:=I.hok p _ hk;refine⟨⟨o,e,ex.1⟩,λa e2=>?_⟩;cases e2;exact⟨o,e,ex.2.1⟩
 | _=>exact False.elim ty
def tBM(K:PySem.W.Frag)(T:String)(r:V->List V->Hp->VK->Prop)(to:TE)(t:TA):TE:=λσ H Q=>to σ H λx H1=>tyV K T x H1/\t σ H1 λxs H2=>r x xs H2 Q
variable{o e:Expr}{es:List Expr}{to:TE}{t:TA}{name:Str}{apos cpos:Pos}{T id:String}{r:V->List V->Hp->VK->Prop}
theorem pe_bm(pa:PlainAttrs T)(slot:Slot T name id)(hty:typeOf (.builtin id)=pure (.type "method_descriptor"))(hm:MtR X id r)(ho:PE X o to)(ha:PA X (e::es) t)
  (hbase:attributeBase o name X.env (eval o X.env)=eval o X.env:=by rfl)
  (hfew:((backTo cpos (starEach (e::es) X.env)).all (λx=>!x.1)&&(backToKw cpos (keywordEach [] X.env)).all (λx=>x.1.isSome)
   && decide ((e::es).length+([]:List Keyword).length+(if ([]:List Keyword).isEmpty then 0 else 1)<30))=true:=by rfl)
  (hline:(apos.endLine == cpos.line)=true:=by rfl) (hs:starEach (e::es) X.env=(false,eval e X.env)::starEach es X.env:=by rfl) (hplain:(backTo cpos (starEach es X.env)).any (·.1)=false:=by rfl) :
  PE X (.Call (.Attribute o name apos) (e::es) [] cpos) (tBM X.K T r to t):=by
 intro pins s σ H Q I h;refine wpAny_Call_method_late hbase hfew hline rfl (thn (ho pins s σ H _ I h) λv s1 ⟨x,H1,I1,r1,ty,q1⟩=>?_);obtain⟨h1,h2⟩:=tyV_is I1 r1 ty;refine⟨T,id,pa,slot,hty,h1,h2,?_⟩;have hA:=ha cpos pins s1 σ H1 _ I1 q1;rw[hs] at hA ⊢;refine Calls.callWith_builtin (by show(false||(backTo cpos (starEach es X.env)).any (·.1))=false;rw[hplain]<;>rfl) (Calls.evalArgs_plain ?_);exact thn hA λus s2 ⟨vs,H2,I2,r2,q2⟩=>hm pins s2 σ H2 x vs v us Q I2 r1 r2 q2
end
def MtM(X:Cx)(id:String)(r:V->List V->Hp->VK->Prop):Prop:=
 ∀(pins:List (Addr×Obj)) (s:Shared) (σ:St) (H:Hp) (x:V) (xs:List V) (v:Value) (us:List Value) (Q:VK),Inv X pins σ H s->RelV x v->Vals xs us->r x xs H Q->
  wpAny (model X.prog X.w) X.A (call (.builtin id) (v::us)) (EP X pins σ Q) X.xe s
theorem Vals.one:∀{x:V} {us:List Value},Vals [x] us->∃u,us=[u]/\RelV x u
 | _,_,.cons r .nil=>⟨_,rfl,r⟩
section
variable{X:Cx}{pins:List (Addr×Obj)}{σ:St}{H:Hp}{s:Shared}{l b:Addr}{xs ys zs:List V}
theorem Inv.lset{its its':List Value}{n:Nat}{f:Array Value->Array Value}{t':Nat}(I:Inv X pins σ H s)(hH:H l=some (.lst xs))
  (e:s.heap.get? l=some { cls:=.type "list",data:=.seq its.toArray n }) (hf:f its.toArray=its'.toArray) (hv:Vals ys its') (hz:ys.length<=sizeLine) :
  Inv X pins σ (upd H l (.lst ys)) { s with heap:=s.heap.update l (Obj.mapSeq f),toks:=t' }:=by
 have q:=PySem.IsL.update e f;rw[hf] at q;refine I.write (x:=l) (e:=l) (by rw[hH];exact trivial) (.inl rfl) (λb' u hb hu=>(Heap.get?_update_other s.heap (Obj.mapSeq f) (Ne.symm hb)).trans hu) ⟨_,q⟩ ?_;exact⟨hz,its',_,hv,q⟩
theorem Inv.lnew{its:List Value}{t':Nat}(I:Inv X pins σ H s)(hv:Vals ys its)(hz:ys.length<=sizeLine) :
  Inv X pins σ (upd H s.heap.objs.size (.lst ys)) { s with heap:=s.heap.push { cls:=.type "list",data:=.seq its.toArray },toks:=t' }:=
 I.laid (λ_ _ q=>Qqz _ q) (Qqy _) ⟨hz,its,0,hv,Qq5 _ rfl⟩
theorem Inv.fresh(I:Inv X pins σ H s):H s.heap.objs.size=none:=I.hok.fresh (Qqy _)
theorem Inv.lstM(I:Inv X pins σ H s)(hH:H l=some (.lst xs)):xs.length<=sizeLine/\∃(its:List Value) (n:Nat),Vals xs its/\xs.length=its.length/\s.heap.get? l=some { cls:=.type "list",data:=.seq its.toArray n }:=by obtain⟨z,its,n,r,e⟩:=I.hok l _ hH;exact⟨z,its,n,r,r.length,e⟩
theorem notLongL{n:Nat}(h:n<=sizeLine):Builtin.List.listTooLong n=false:=by unfold Builtin.List.listTooLong;exact Qwj (by omega)
end
section
variable{X:Cx}{prog:Program}{w:World}{A:Around}{E:Value->Shared->Prop}{s:Shared}
def rAppend:V->List V->Hp->VK->Prop:=λx vs H Q=>∃l xs y,x = .ref l/\vs=[y]/\H l=some (.lst xs)/\xs.length<sizeLine/\Q .non (upd H l (.lst (xs++[y])))
theorem mt_append:MtM X "list.append" rAppend:=by intro pins s σ H x vs v us Q I rx rv h;obtain⟨l,xs,y,rfl,rfl,hH,hz,q⟩:=h;cases rx;obtain⟨u,rfl,ru⟩:=rv.one;obtain⟨z,its,n,r,hl,e⟩:=I.lstM hH;refine call_meets F.slot_list_append ⟨_,e,rfl⟩ F.entry_list_append (F.args_list_append_2 _ _) (PySem.list_append l its.toArray n u (by rw[Qq1];omega)) ⟨e,?_⟩;refine⟨.non,_,I.lset (its':=its++[u]) hH e (by simp) (r.append (.cons ru .nil)) ?_,rfl,q⟩;rw[Qqj,List.length_singleton];omega
def rCat:R2:=λx y H Q=>∃l b xs zs,x = .ref l/\y = .ref b/\H l=some (.lst xs)/\H b=some (.lst zs)/\xs.length+zs.length<=sizeLine/\∀p,H p=none->Q (.ref p) (upd H p (.lst (xs++zs)))
theorem op_cat:OpR X (binaryOp .Add) rCat:=by
 intro pins s σ H x y v u Q I rx ry h;obtain⟨l,b,xs,zs,rfl,rfl,hH,hB,hz,q⟩:=h;cases rx;cases ry;obtain⟨z,its,n,r,hl,e⟩:=I.lstM hH;obtain⟨z2,its2,n2,r2,hl2,e2⟩:=I.lstM hB;refine PySem.P.add_list e e2 ?_ (by rw[Qq1,Qq1];omega);have ea:its.toArray++its2.toArray=(its++its2).toArray:=by simp
 rw[ea];exact⟨.ref _,_,I.lnew (t':=s.toks) (r.append r2) (by rw[Qqj];omega),rfl,q _ I.fresh⟩
set_option maxRecDepth 100000 in
end
end L2
namespace Att
open PySem PySem.W PySem.Calls PyProof.Rows
theorem ints_of_wellAll{P:Params}{h:Heap}:∀(ns:List Int) (vs:List Value),WellAll P h vs (ns.map WData.int)->IntsAre vs ns:=by
 intro ns
 induction ns with
 | nil=>
  intro vs w;rw[Qzx] at w;cases w;exact .nil
 | cons n ns ih=>
  intro vs w;rw[Qq9] at w;cases w with
  | cons a b=>
   cases a;exact .cons _ _ (ih _ b)
theorem script_of{l:OpenLaw}{n:Nat}(hn:l.most=some n){P:Params}{h:Heap}{args:List WData}{vals:List Value}
  (hpre:l.row.toRowW.claim.pre args=true) (hwl:WellAll P h vals args) :
  ∃a vs ns,vals=[Value.ref a]/\args=[WData.list (ns.map WData.int)]/\h.get? a=some { cls:=.type "list",data:=.seq vs.toArray }/\IntsAre vs ns/\ns.length<=n:=by
 have hsh:WShape.hasAll [] args [.list .int]=true:=(pre_splitW hpre).1;have hc:l.pre.holds [] { args:=args }=true:=(pre_splitW hpre).2;obtain⟨d,r,rfl,h1,h2⟩:=hasAllW_cons hsh;obtain rfl:=hasAllW_nil h2;obtain⟨xs,rfl,h3⟩:=hasW_list h1;obtain⟨ns,rfl⟩:=items_int h3;have hlen:ns.length<=n:=by
  unfold OpenLaw.pre at hc;have h4:(WTm.not (.lt (.lit (.int (n:Int))) (.len (.arg 0)))).holds [] { args:=[.list (ns.map .int)] }=true:=by have h4:=(holds_andW hc).1;rw[hn] at h4;exact h4
  have h5:=condW_of h4 (w_not (w_lt w_lit (w_len_list (w_arg rfl))));rw[Qqx] at h5;refine Nat.le_of_not_lt λq=>?_;have q':(n:Int)<((ns.length:Nat):Int):=by omega
  first
   | (rw[Qw4 q'] at h5;exact absurd h5 (by decide))
   | (simp at h5;omega)
 cases hwl with
 | cons w1 w2=>
  cases w2;cases w1 with
  | list ho hall=>exact⟨_,_,ns,rfl,rfl,ho,ints_of_wellAll ns _ hall,hlen⟩
theorem post_true(l:OpenLaw)(args:List WData):l.row.toRowW.claim.post args (.bool true) args=true:=
 postW_of (r:=l.row.toRowW) (X:=(true == true))
  (show WShape.has [] (.bool true) .bool=true by first|rfl|decide|simp[WShape.has,WShape.arms,WShape.armsAll])
  (show(WTm.eq .res (.lit (.bool true))).value [] { args:=args,res:=some (.bool true),after:=args }=some (.bool (true == true)) from w_eq_bool (w_res rfl) w_lit) rfl
end Att
namespace L2
open PySem PySem.Spec PyProof.Rows
theorem vals_ints:∀{vs:List Value} {ns:List Int},IntsAre vs ns->Vals (ns.map V.int) vs
 | _,_,.nil=>.nil
 | _,_,.cons n t h=>.cons ⟨t,rfl⟩ (vals_ints h)
def Only(H:Hp):Prop:=∀b,H b=none\/∃o xs,H b=some (.frz o (.lst xs))
theorem law_call{P:Program}{w:World}{K:PySem.W.Frag}{mg mb:Str->Option Value}{CX:CXT}{k:Nat}{fa a:Addr}{fd:FuncData}{x:Str}{sp:Sp}{s₁:Shared}{vs:List Value}{ns:List Int}
  (KX:K.In s₁.heap) (hns:s₁.heap.Ns mainGlobals mg) (hb:s₁.heap.Ns builtinsNs mb) (hbb:∀x:Str,x ≠ "__name__"->mb x=bootBuiltins x) (hlim:s₁.heap.NoLimit) (hg:s₁.gens = #[])
  (ha:s₁.heap.get? a=some { cls:=.type "list",data:=.seq vs.toArray }) (hi:IntsAre vs ns) (hl:ns.length<=sizeLine) (hr:Room k callerA)
  (F:∀base:Heap,K.In base->base.Ns mainGlobals mg->FnOk P w K mg base CX k fa fd [x] sp) (hbind:∀(s:Shared) (u:Value),BindsTo s fd ⟨[u],[]⟩ [(x,u)])
  (hsp:∀H:Hp,Only H->SqL K H a (ns.map V.int)->sp [.ref a] H (λv _=>v = .bl true) λ_ _ _=>False)
  (hCX:∀H e s',CX [] H s₁ (λ_ _ _=>False) e s'->False) :
  codeAny (model P w) callerA (.call (.ref fa) ⟨[.ref a],[]⟩) (λr s'=>r = .ok (.ret (.bool true))/\OldK s₁.heap s'.heap/\s'.os=s₁.os/\AllBare s'.gens) s₁:=by
 have rv:=vals_ints hi;have lenV:=hi.length
 -- from an abstract heap in which nothing but the script may be tracked
 have core:∀H:Hp,Only H->SqL K H a (ns.map V.int)->HOk P w H s₁.heap->(∀b,H b≠none->b=a)->(H a≠none->K.lookup a=none)->
   codeAny (model P w) callerA (.call (.ref fa) ⟨[.ref a],[]⟩) (λr s'=>r = .ok (.ret (.bool true))/\OldK s₁.heap s'.heap/\s'.os=s₁.os/\AllBare s'.gens) s₁:=by
  intro H hO hS hok hA hK;have base_of:∀{b:Addr} {o:Obj},s₁.heap.get? b=some o->H b=none->(hidT s₁.heap H).get? b=some o:=λe n=>hidT_get e n;have noA:∀{b:Addr} {o:Obj} {es:Array DictEntry} {ep:Nat},s₁.heap.get? b=some o->o.data = .dict es ep->H b=none:=λ{b o es ep} e d=>by
   cases q:H b with
   | none=>rfl
   | some u=>
    have e':b=a:=hA b (by rw[q];simp);subst e';rw[ha] at e;cases e;have d':Data.seq vs.toArray _=Data.dict es ep:=d;cases d'
  have nsK:∀{b:Addr} {m:Str->Option Value},s₁.heap.Ns b m->(hidT s₁.heap H).Ns b m:=λ{b m} ⟨o,es,ep,e,d,r⟩=>⟨o,es,ep,base_of e (noA e d),d,r⟩;have hKb:K.In (hidT s₁.heap H):=λb o e=>base_of (KX b o e) (by
   cases q:H b with
   | none=>rfl
   | some u=>
    have e':b=a:=hA b (by rw[q];simp);subst e';rw[hK (by rw[q];simp)] at e;cases e)
  have hM:Mod K mg (hidT s₁.heap H):=⟨hKb,nsK hns,⟨mb,nsK hb,hbb⟩,let ⟨mc,h1,h2⟩:=hlim;⟨mc,nsK h1,h2⟩⟩;have e0:Env0 P w K mg (hidT s₁.heap H) callerA [] s₁ H:=⟨rfl,hM,λb o e=>of_hidT e,Nat.le_of_eq (hidT_size _ _),trivial,λb hb=>absurd (show b∈([]:List Addr) from hb) (by simp),hok,.of_eq hg⟩;refine Qj8 ((F _ hKb (nsK hns)).run callerA [] s₁ H ⟨[.ref a],[]⟩ [.ref a] [.ref a] _ _ hr e0 (hbind s₁ (.ref a)) (.cons rfl .nil) (hsp H hO hS)) λr s' h=>?_;cases r with
  | error e=>exact(hCX H e s' h).elim
  | ok fl=>
   cases fl with
   | next=>exact False.elim h
   | brk=>exact False.elim h
   | cont=>exact False.elim h
   | ret u=>
    obtain⟨v,H',os,bare,un,hok',r',q⟩:=h;have q':v = .bl true:=q;subst q';obtain rfl:u=Value.bool true:=r';refine⟨rfl,OldK.of_keep λb o e=>?_,os,bare⟩;cases q:H b with
    | none=>exact un.keep b o e q (by intro z;exact absurd (show b∈([]:List Addr) from z) (by simp)) (by simp)
    | some u=>
     rcases hO b with z|⟨ob,xs,z⟩
     ·rw[q] at z;cases z
     ·have z2:=un.frzs b ob _ z;obtain⟨e1,_⟩:=hok b _ z;obtain⟨e2,_⟩:=hok' b _ z2;rw[e] at e1;cases e1;exact e2
 cases hk:K.lookup a with
 | some o=>
  -- the script is one of the module's own objects
  have e:=KX a o hk;rw[ha] at e;cases e;refine core (λ_=>none) (λ_=>.inl rfl) (.inr ⟨_,vs.toArray,_,hk,rfl,rfl,rfl,by rw[Qq1,lenV];exact hl,by simpa using rv⟩) (λb u z=>by have z':(none:Option HO)=some u:=z;cases z') (λb z=>absurd rfl z) λz=>absurd rfl z
 | none=>
  refine core (λb=>if b=a then some (.frz { cls:=.type "list",data:=.seq vs.toArray } (.lst (ns.map V.int))) else none) (λb=>?_) (.inl (.inr ⟨{ cls:=.type "list",data:=.seq vs.toArray },if_pos rfl⟩)) (λb u z=>?_) (λb z=>?_) λ_=>hk
  ·by_cases hb:b=a
   ·exact .inr ⟨_,_,if_pos hb⟩
   ·exact .inl (if_neg hb)
  ·by_cases hb:b=a
   ·have z':=(if_pos hb).symm.trans z;cases z';subst hb;exact⟨ha,by rw[Qqx];exact hl,vs,_,rv,ha⟩
   ·have z':=(if_neg hb).symm.trans z;cases z'
  ·by_cases hb:b=a
   ·exact hb
   ·exact absurd (if_neg hb) z
def inClass(s:Stmt)(j:Nat):Stmt:=match s with
 | .ClassDef _ _ _ body _ _ _ _ _ _ _=>body.getD j (.Pass ⟨0,0,0,0⟩)
 | _=>.Pass ⟨0,0,0,0⟩
def defArgs(s:Stmt):Arguments:=match s with
 | .FunctionDef _ a _ _ _ _ _ _ _ _=>a
 | _=>{ posonlyargs:=[],args:=[],vararg:=none,kwonlyargs:=[],kw_defaults:=[],kwarg:=none,defaults:=[] }
def defBody(s:Stmt):List Stmt:=match s with
 | .FunctionDef _ _ b _ _ _ _ _ _ _=>b
 | _=>[]
def defScope(s:Stmt):Scope:=match s with
 | .FunctionDef _ _ _ _ _ _ sc _ _ _=>sc
 | _=>{ kind:=.function,names:=[],isGenerator:=false,isCoroutine:=false }
abbrev CX0:CXT:=λ_ _ _ _ _ _=>False
abbrev E0:XK:=λ_ _ _=>False
theorem pass0{X:Cx}:Passes CX0 X E0:=λ_ _ _ _ _ _ _ h=>h.elim
structure Fun(K:PySem.W.Frag)(x qual:Str)(st:Stmt)(f:Addr)(fd:FuncData):Prop where
 ex:∃(oc:Value) (od:Option Addr) (kV doc pm:Value) (an:Option Addr) (cdv ct:Value) (osl:Array (Option Value)),
  fd=PySem.W.fnOf x qual (defArgs st) (defBody st) (defScope st) .none kV doc pm an cdv ct/\K.lookup f=some ⟨oc,od,.func fd,osl⟩/\PySem.W.codeIn K cdv qual=true
 kp:PySem.W.keepIn K (.ref f)=true
section
variable{P:Program}{w:World}{K:PySem.W.Frag}{mg:Str->Option Value}{base:Heap}
theorem Fun.ok{x qual:Str}{st:Stmt}{f:Addr}{fd:FuncData}{N ps:List Str}{k:Nat}{sp:Sp}(F:Fun K x qual st f fd)(S:FnScope N ps (defScope st))(len:∀vs H Q E,sp vs H Q E->vs.length=ps.length)
  (hbody:∀(cdv:Value) (A:Around) (outer:List Env) (s:Shared) (H:Hp) (vs:List V) (Q:VK) (E:XK),Room k (A.deeper (envOfC qual (defScope st) s.heap.objs.size f cdv))->sp vs H Q E->
   ∃t,PSs (cxOf CX0 P w K mg base N qual (defScope st) f cdv A outer s H E).nox (defBody st) t/\t { nx:=λ_ H'=>Q .non H',rt:=Q } (start N vs) H):FnOk P w K mg base CX0 (k+1) f fd ps sp:=by
 obtain⟨oc,od,kV,doc,pm,an,cdv,ct,osl,rfl,lk,hcd⟩:=F.ex;refine fn_of lk hcd S len λA outer s H vs Q E hr hsp=>?_;obtain⟨t,h,q⟩:=hbody cdv A outer s H vs Q E hr hsp;exact⟨t,h.nox,q⟩
theorem Fun.binds{x qual:Str}{st:Stmt}{f:Addr}{fd:FuncData}{ps:List Str}(F:Fun K x qual st f fd)
  (h:∀(kV doc pm:Value) (an:Option Addr) (cdv ct:Value) (us:List Value),us.length=ps.length->bindArgs (PySem.W.fnOf x qual (defArgs st) (defBody st) (defScope st) .none kV doc pm an cdv ct) ⟨us,[]⟩=pure (ps.zip us)):Binds K fd ps []:=by
 obtain⟨oc,od,kV,doc,pm,an,cdv,ct,osl,rfl,lk,hcd⟩:=F.ex;exact .all (h kV doc pm an cdv ct)
theorem fun_mk{x qual:Str}{st:Stmt}{f:Addr}{oc:Value}{od an:Option Addr}{osl:Array (Option Value)}{kV doc pm cdv ct:Value}(l:K.lookup f=some ⟨oc,od,.func (PySem.W.fnOf x qual (defArgs st) (defBody st) (defScope st) .none kV doc pm an cdv ct),osl⟩)
  (c:PySem.W.codeIn K cdv qual=true) (k:PySem.W.keepIn K (.ref f)=true):Fun K x qual st f (PySem.W.fnOf x qual (defArgs st) (defBody st) (defScope st) .none kV doc pm an cdv ct):=⟨⟨oc,od,kV,doc,pm,an,cdv,ct,osl,rfl,l,c⟩,k⟩
end
theorem iteF{A B:Prop}(h:B):if false=true then A else B:=by rw[if_neg Qxk];exact h
theorem iteT{A B:Prop}(h:A):if true=true then A else B:=by rw[if_pos rfl];exact h
def Same(H H':Hp):Prop:=∀b o,H b=some o->H' b=some o
theorem Same.refl(H:Hp):Same H H:=λ_ _ h=>h
theorem Same.trans{H H1 H2:Hp}(a:Same H H1)(b:Same H1 H2):Same H H2:=λc o h=>b c o (a c o h)
theorem Same.free{H H':Hp}(e:Same H H'){l:Addr}(h:H' l=Option.none):H l=Option.none:=by
 cases q:H l with
 | none=>rfl
 | some o=>
  rw[e l o q] at h;cases h
theorem Same.seq{K:PySem.W.Frag}{H H':Hp}{a:Addr}{xs:List V}(e:Same H H')(h:SqL K H a xs):SqL K H' a xs:=by
 rcases h with (h|⟨o,h⟩)|h
 ·exact .inl (.inl (e _ _ h))
 ·exact .inl (.inr ⟨o,e _ _ h⟩)
 ·exact .inr h
section
variable{κ:Type}[DecidableEq κ]
theorem KV.keys{kvs:List (κ×V)}{vs:List (κ×Value)}(r:KV kvs vs):kvs.map (·.1)=vs.map (·.1):=by
 unfold KV at r
 induction r with
 | nil=>rfl
 | cons h t ih=>rw[Qq9,Qq9,ih,h.1]
theorem KV.length{kvs:List (κ×V)}{vs:List (κ×Value)}(r:KV kvs vs):kvs.length=vs.length:=Paired.length r
end
section
variable{P:Program}{w:World}{H:Hp}{h:Heap}{a:Addr}
theorem rd_of{u:HO}(ok:HOk P w H h)(e:Rd H a u):ObjOk P w H h a u:=e.ok ok
theorem dk_rd{kvs:List (Key×V)}(ok:HOk P w H h)(e:Rd H a (.dK kvs)):kvs.length<=sizeLine/\(a == sysModules)=false/\∃vs,KV kvs vs/\h.DictOf (mixKind P w) a vs:=
 show ObjOk P w H h a (.dK kvs) from rd_of ok e
end
section
variable{X:Cx}{pins:List (Addr×Obj)}{σ:St}{H:Hp}{s:Shared}{a:Addr}{y v:V}{u r:Value}{o:Option V}{A:Around}{E:Value->Shared->Prop}
theorem Inv.big(I:Inv X pins σ H s):sysModules<s.heap.objs.size:=by have h:mainGlobals<s.heap.objs.size:=(I.mod.glob.keeps I.bk).lt;exact Nat.lt_trans (by decide) h
end
theorem dk_empty{P:Program}{w:World}{H:Hp}(h:Heap)(hb:sysModules<h.objs.size):ObjOk P w H (h.push { cls:=.type "dict",data:=.dict #[] }) h.objs.size (.dK []):=
 ⟨Qz9 _,beq_eq_false_iff_ne.mpr (Ne.symm (Qwz hb)),[],.nil,Heap.DictOf.new h⟩
def tDNewK:TE:=λ_ H Q=>∀p,H p=none->Q (.ref p) (upd H p (.dK []))
section
variable{X:Cx}{pos:Pos}
theorem pe_dnewK:PE X (.Dict [] [] pos) tDNewK:=λpins s σ H Q I h=>
 wpAny_Dict_empty ⟨.ref s.heap.objs.size,_,I.laid (a:=s.heap.objs.size) (o:=.dK []) (t':=s.toks) (λ_ _ q=>Qqz _ q) (Qqy _) (dk_empty s.heap I.big),rfl,h _ (I.hok.fresh (Qqy _))⟩
end
def clOf(env:Env):List (Str×NameKind)->List (Str×Addr)->List (Str×Addr)
 | [],acc=>acc
 | (n,k)::r,acc=>if k == .free then clOf env r ((n,(env.cells.lookup n).getD 0)::acc) else clOf env r acc
theorem closure_go{env:Env}(f:Str×NameKind->List (Str×Addr)->Sem (ForInStep (List (Str×Addr))))
  (hf:∀n k cs,f (n,k) cs=if k == .free then (do let a <-cellOf env n;pure (.yield ((n,a)::cs))) else pure (.yield cs)) :
  ∀(names:List (Str×NameKind)) (acc:List (Str×Addr)),(∀n,(n,NameKind.free)∈names->∃c,env.cells.lookup n=some c)->forIn names acc f=pure (clOf env names acc)
 | [],acc,_=>by rw[List.forIn_nil];rfl
 | (n,k)::r,acc,h=>by
  have ih:=closure_go f hf r;have hr:∀n,(n,NameKind.free)∈r->∃c,env.cells.lookup n=some c:=λm hm=>h m (Qq4 _ hm);rw[List.forIn_cons,hf];cases hk:k == NameKind.free with
  | true=>
   have hk':k = .free:=by simpa using hk
   obtain⟨c,hc⟩:=h n (by rw[hk'];exact Qq3);rw[if_pos rfl];unfold cellOf;rw[hc];simp only[pure_bind];rw[ih _ hr]
   conv=>rhs;unfold clOf
   rw[if_pos hk,hc]
   rfl
  | false=>
   rw[if_neg (by simp)];simp only[pure_bind];rw[ih _ hr]
   conv=>rhs;unfold clOf
   rw[if_neg (by simp[hk])]
theorem closure_eq{scope:Scope}{env:Env}(h:∀n,(n,NameKind.free)∈scope.names->∃c,env.cells.lookup n=some c):closureFor scope env=pure (clOf env scope.names []):=by
 simp only[closureFor];rw[closure_go (env:=env) _ (λn k cs=>by cases hk:k == NameKind.free<;>simp[hk]) _ _ h]
 rfl
theorem clOf_acc{env:Env}:∀(names:List (Str×NameKind)) (acc:List (Str×Addr)) (x:Str) (c:Addr),(∀n,(n,NameKind.free)∈names->∃c,env.cells.lookup n=some c)->
  (∀y d,acc.lookup y=some d->env.cells.lookup y=some d)->(clOf env names acc).lookup x=some c->env.cells.lookup x=some c
 | [],acc,x,c,_,ha,h=>ha x c h
 | (n,k)::r,acc,x,c,hn,ha,h=>by
  have hr:∀n,(n,NameKind.free)∈r->∃c,env.cells.lookup n=some c:=λm hm=>hn m (Qq4 _ hm);unfold clOf at h;split at h
  ·rename_i hk;have hk':k = .free:=by simpa using hk
   obtain⟨d,hd⟩:=hn n (by rw[hk'];exact Qq3);refine clOf_acc r _ x c hr (λy e he=>?_) h;rw[Qxy] at he;cases hy:y == n with
   | true=>
    rw[hy] at he;have e1:y=n:=by simpa using hy
    rw[e1,hd];rw[hd] at he;exact he
   | false=>
    rw[hy] at he;exact ha y e he
  ·exact clOf_acc r acc x c hr ha h
theorem clOf_keep{env:Env}:∀(names:List (Str×NameKind)) (acc:List (Str×Addr)) (x:Str),(acc.lookup x).isSome=true->((clOf env names acc).lookup x).isSome=true
 | [],acc,x,h=>h
 | (n,k)::r,acc,x,h=>by
  unfold clOf;split
  ·refine clOf_keep r _ x ?_;rw[Qxy];split
   ·rfl
   ·exact h
  ·exact clOf_keep r acc x h
theorem clOf_has{env:Env}:∀(names:List (Str×NameKind)) (acc:List (Str×Addr)) (x:Str),(x,NameKind.free)∈names->((clOf env names acc).lookup x).isSome=true
 | [],acc,x,h=>nomatch h
 | (n,k)::r,acc,x,h=>by
  unfold clOf;rcases Qwq.mp h with e|h
  ·obtain⟨e1,e2⟩:=Prod.mk.inj e;subst e1 e2;rw[if_pos (by rfl)];refine clOf_keep r _ x ?_;rw[Qxy];simp
  ·split
   ·exact clOf_has r _ x h
   ·exact clOf_has r acc x h
theorem cellsFrom_app:∀(names:List (Str×NameKind)) (n:Nat) (acc:List (Str×Addr)),cellsFrom n names acc=cellsFrom n names []++acc
 | [],n,acc=>rfl
 | (x,k)::r,n,acc=>by
  unfold cellsFrom;split
  ·rw[cellsFrom_app r (n+1) ((x,n)::acc),cellsFrom_app r (n+1) [(x,n)],Qx0]
   rfl
  ·exact cellsFrom_app r n acc
theorem mem_cellsFrom:∀(names:List (Str×NameKind)) (n:Nat) (x:Str) (c:Addr),(x,c)∈cellsFrom n names []->(x,NameKind.cell)∈names
 | [],n,x,c,h=>nomatch h
 | (y,k)::r,n,x,c,h=>by
  unfold cellsFrom at h;split at h
  ·rename_i hk;have hk':k = .cell:=by simpa using hk
   rw[cellsFrom_app] at h;rcases Qzz.mp h with h|h
   ·exact Qq4 _ (mem_cellsFrom r _ x c h)
   ·have e:=Qx2.mp h;cases e;rw[hk'];exact Qq3
  ·exact Qq4 _ (mem_cellsFrom r _ x c h)
theorem lookup_app{α:Type}:∀(l m:List (Str×α)) (x:Str),(l++m).lookup x=match l.lookup x with|some v=>some v|none=>m.lookup x
 | [],m,x=>rfl
 | (k,v)::r,m,x=>by
  rw[Qw1,Qxy,Qxy];cases h:x == k with
  | true=>rfl
  | false=>exact lookup_app r m x
theorem lookup_none_of{α:Type}:∀(l:List (Str×α)) (x:Str),(∀v,(x,v) ∉ l)->l.lookup x=none
 | [],x,_=>rfl
 | (k,v)::r,x,h=>by
  rw[Qxy];cases e:x == k with
  | true=>
   have e':x=k:=by simpa using e
   exact absurd (by rw[e'];exact Qq3) (h v)
  | false=>exact lookup_none_of r x λw hw=>h w (Qq4 _ hw)
theorem lookup_mem{α:Type}:∀(l:List (Str×α)) (x:Str) (v:α),l.lookup x=some v->(x,v)∈l
 | [],x,v,h=>nomatch h
 | (k,w)::r,x,v,h=>by
  rw[Qxy] at h;cases e:x == k with
  | true=>
   rw[e] at h;cases h;have e':x=k:=by simpa using e
   rw[e'];exact Qq3
  | false=>
   rw[e] at h;exact Qq4 _ (lookup_mem r x v h)
theorem lookup_of_mem{α:Type}:∀(l:List (Str×α)) (x:Str) (v:α),(l.map (·.1)).Nodup->(x,v)∈l->l.lookup x=some v
 | [],x,v,_,h=>nomatch h
 | (k,w)::r,x,v,nd,h=>by
  rw[Qxy];have nd':=Qj6.mp nd;rcases Qwq.mp h with e|h
  ·cases e;simp
  ·have hne:¬x=k:=λe=>nd'.1 (by rw[<-e];exact Qxv.mpr ⟨(x,v),h,rfl⟩);have hb:(x == k)=false:=by simpa using hne
   rw[hb];exact lookup_of_mem r x v nd'.2 h
theorem newEnv_comp{M:Model}{A:Around}{E:Value->Shared->Prop}{s:Shared}{scope:Scope}{globals:Addr}{cl:List (Str×Addr)}{qual:Str}{outer:Env}{Q:Env->Shared->Prop}
  (hQ:∀h',h'.Ns s.heap.objs.size (λ_=>none)->(∀b o,s.heap.get? b=some o->h'.get? b=some o)->CellsOk h' (s.heap.objs.size+1) (cellsFrom (s.heap.objs.size+1) scope.names [])->
   Q { scope,locals:=s.heap.objs.size,globals,cells:=cellsFrom (s.heap.objs.size+1) scope.names cl,qual,func:=none,code:=outer.code,frame:=outer.frame,builtins:=outer.builtins } { s with heap:=h' }) :
  wpAny M A (newFunctionEnv scope globals cl [] qual none .none (some outer)) Q E s:=by
 simp only[newFunctionEnv,Option.isSome_some,if_true];refine Qqq (wpAny_alloc ?_);refine Qqq (wpAny_layCells _ (λname kind cells=>by cases hkc:kind == NameKind.cell<;>simp[hkc]) _ _ _ _ ?_);have ok:=cellsFrom_ok scope.names (s.heap.push { cls:=.type "dict",data:=.dict #[] }) (s.heap.objs.size+1) [] ⟨λ_ _ hm=>(nomatch hm),List.Pairwise.nil⟩ (by rw[Qz8];exact Qqy _);rw[Qz8] at ok;rw[show({ s with heap:=s.heap.push { cls:=.type "dict",data:=.dict #[] } }:Shared).heap.objs.size=s.heap.objs.size+1 from Qz8 ..];refine Qqq ?_;rw[List.forIn_nil];refine Qqv (Qqv (hQ _ ?_ ?_ ?_))
 ·exact(Heap.Ns.new s.heap (.type "dict")).keeps (pushCells_keeps _ _)
 ·exact λb o e=>pushCells_keeps _ _ b o (Qqz _ e)
 ·exact ok
def cxC(X:Cx)(scope:Scope)(N':List Str)(cells:List (Str×Addr))(C:Addr)(s0:Shared)(H0:Hp)(fp:List Addr):Cx:=
 { X with N:=N',s₀:=s0,H₀:=H0,env:=compEnvC scope cells C X.env,outer:=X.stack,stack:=X.stack,ex:=fp,fn:=λx=>decide (scope.names.lookup x=some .cell),pn:=[],xe:=λ_ _=>False }
theorem lookup_relabel{env:Env}:∀(names:List (Str×NameKind)) (x:Str),
  (names.map λ(n,k)=>if (k == NameKind.free&&env.scope.kind == .function&&env.kindOf n == some .cell) then (n,NameKind.cell) else (n,k)).lookup x =
   (names.lookup x).map λk=>if (k == NameKind.free&&env.scope.kind == .function&&env.kindOf x == some .cell) then NameKind.cell else k
 | [],x=>rfl
 | (n,k)::r,x=>by
  show List.lookup x ((if (k == NameKind.free&&env.scope.kind == .function&&env.kindOf n == some .cell)=true then (n,NameKind.cell) else (n,k))::_)=_;cases hx:x == n with
  | true=>
   have e:x=n:=by simpa using hx
   subst e;simp only[Qxy,hx,Option.map_some];split<;>simp[Qxy]
  | false=>
   simp only[Qxy,hx];rw[<-lookup_relabel r x];split<;>simp only[Qxy,hx]
def chkC(names:List (Str×NameKind)):List Str->List Str->Bool
 | _,[]=>true
 | [],_::_=>false
 | x'::N',x::N=>((names.lookup x').isNone||(x' == x&&names.lookup x' == some .free))&&chkC names N' N
theorem chkC_get{names:List (Str×NameKind)}:∀{N' N:List Str},chkC names N' N=true->∀(i:Nat) (x:Str),i<N.length->N'[i]? = some x->(names.lookup x).isSome=true->N[i]? = some x/\names.lookup x=some .free
 | _,[],_,i,x,h,_,_=>absurd h (Nat.not_lt_zero _)
 | [],_::_,h,_,_,_,_,_=>by cases h
 | x'::N',y::N,h,i,x,hi,e,hs=>by
  unfold chkC at h;have h1:=(Qjy.mp h).1;have h2:=(Qjy.mp h).2;cases i with
  | zero=>
   have e':x'=x:=by simpa using e
   subst e';rcases Bool.or_eq_true_iff.mp h1 with q|q
   ·cases z:names.lookup x' with
    | none=>rw[z] at hs;cases hs
    | some k=>rw[z] at q;cases q
   ·have q1:=(Qjy.mp q).1;have q2:=(Qjy.mp q).2;have e1:x'=y:=by simpa using q1
    have e2:names.lookup x'=some .free:=by simpa using q2
    exact⟨by rw[e1];rfl,e2⟩
  | succ i=>exact chkC_get h2 i x (by simpa using hi) (by simpa using e) hs
structure CompOk(X:Cx)(scope:Scope)(N':List Str):Prop where
 kind:scope.kind = .function
 nd:(scope.names.map (·.1)).Nodup
 free:∀x∈scope.names,x.2 = .free->X.env.kindOf x.1=some .cell\/X.env.kindOf x.1=some .free
 chk:chkC scope.names N' X.N=true
 len:X.N.length<=N'.length
def PIf(X:Cx)(ifs:List Expr)(t:TT):Prop:=
 ∀(pins:List (Addr×Obj)) (s:Shared) (σ:St) (H:Hp) (Q:Bool->Hp->Prop),Inv X pins σ H s->t σ H Q->
  wpAny (model X.prog X.w) X.A (forIn ifs true λc r=>if r=true then do let ok <-isTrue c X.env (eval c X.env);pure (ForInStep.yield ok) else pure (ForInStep.yield r)) (TP X pins σ Q) X.xe s
theorem pif_nil{X:Cx}:PIf X [] (λ_ H Q=>Q true H):=λpins s σ H Q I h=>by
 rw[List.forIn_nil];exact Qqv ⟨H,I,h⟩
theorem pif_one{X:Cx}{c:Expr}{t:TT}(h:PT X c t):PIf X [c] t:=λpins s σ H Q I hw=>by
 rw[List.forIn_cons,if_pos rfl];refine Qqq (Qqq (thn (h pins s σ H Q I hw) λb s' q=>?_));refine Qqv ?_;show wpAny _ _ (forIn [] b _) _ _ _;rw[List.forIn_nil];exact Qqv q
def padS(n:Nat)(σ:St):St:=σ++List.replicate n none
def tLC(n:Nat)(wi:TI)(g:TG)(tc:TT)(te:TE):TE:=λσ H Q=>wi σ H λJ H1=>∀d,H1 d=none->∃W:Nat->Nat->St->Hp->Prop,(∃m,W 0 m (padS (n - σ.length) σ) (upd H1 d (.lst [])))/\∀i m σ' H',W i m σ' H'->
 (J.stop i H'/\Q (.ref d) H')\/(J.go i H'/\∃N:St->Hp->Prop,(∀σ2 H2,N σ2 H2->∃m',m'<m/\W (i+1) m' σ2 H2)/\∀x H2,J.yld i H' x H2->g x σ' H2 λσ3 H3=>tc σ3 H3 λb H4=>
  if b=true then te σ3 H4 λy H5=>∃ys,H5 d=some (.lst ys)/\ys.length<sizeLine/\N σ3 (upd H5 d (.lst (ys++[y]))) else N σ3 H4)
section
variable{prog:Program}{w:World}{A:Around}{R:Result->Shared->Prop}{s:Shared}
theorem compLoop_any{elt target iter:Expr}{ifs:List Expr}{scope:Scope}{pos:Pos}{it acc:Value}{env:Env}(I:Nat->Shared->Prop)
  (turn:∀n s,I n s->wpAny (model prog w) A (pyNext it) (λr s₁=>match r with
   | none=>R (.ok .next) s₁
   | some v=>wpAny (model prog w) A (letOwnedTupleGo target it v) (λ_ s₁'=>wpAny (model prog w) A (assign target env v) (λ_ s₂=>
     wpAny (model prog w) A (forIn ifs true λc r=>if r=true then do let ok <-isTrue c env (eval c env);pure (ForInStep.yield ok) else pure (ForInStep.yield r)) (λok s₃=>
      if ok=true then wpAny (model prog w) A (eval elt env) (λx s₄=>
       wpAny (model prog w) A (call (.builtin "list.append") [acc,x]) (λ_ s₅=>∃m,m<n/\I m s₅) (λ_ _=>False) s₄) (λ_ _=>False) s₃
      else ∃m,m<n/\I m s₃) (λ_ _=>False) s₂) (λ_ _=>False) s₁') (λ_ _=>False) s₁) (λ_ _=>False) s)
  (n:Nat) (h:I n s) :
  codeAny (model prog w) A (.compLoop (.ListComp elt [⟨target,iter,ifs,0⟩] scope pos) 0 it acc env) R s:=by
 refine codeAny_loop rfl I (λn s hI=>?_) n h;show wpAny _ A ((compTurn (.ListComp elt [⟨target,iter,ifs,0⟩] scope pos) 0 it acc env).onRaise (λx=>do noteFrame x env;theTreesLotGoes x)) _ _ s;refine wpAny_noted ?_;rw[compTurn_list];refine Qqq (wpAny_standAt (Qqq (Qw6 (turn n s hI) (λr s₁ h₁=>?_) λ_ _ h'=>h'.elim)));cases r with
 | none=>exact Qqv h₁
 | some v=>
  refine Qqq (Qw6 h₁ (λ_ s₁' h₁'=>?_) λ_ _ h'=>h'.elim);refine Qqq (Qw6 h₁' (λ_ s₂ h₂=>Qqq (Qw6 h₂ (λok s₃ h₃=>?_) λ_ _ h'=>h'.elim)) λ_ _ h'=>h'.elim);cases ok with
  | false=>exact Qqv ⟨rfl,h₃⟩
  | true=>
   exact Qqq (Qqq (Qw6 h₃ (λx s₄ h₄=>Qqq (Qw6 h₄ (λ_ s₅ h₅=>Qqv (Qqv ⟨rfl,h₅⟩)) λ_ _ h'=>h'.elim)) λ_ _ h'=>h'.elim))
end
theorem inv_comp{X:Cx}{scope:Scope}{N':List Str}{pins:List (Addr×Obj)}{σ:St}{H:Hp}{s:Shared}{h':Heap}{fp:List Addr}(ok:CompOk X scope N')(I:Inv X pins σ H s)(hf:∀b∈fp,FpOk X pins H b)(hlt:∀b∈fp,b<s.heap.objs.size)
  (hn:h'.Ns s.heap.objs.size (λ_=>none)) (hk:∀b o,s.heap.get? b=some o->h'.get? b=some o) (co:CellsOk h' (s.heap.objs.size+1) (cellsFrom (s.heap.objs.size+1) scope.names [])) :
  Inv (cxC X scope N' (cellsFrom (s.heap.objs.size+1) scope.names (clOf X.env scope.names [])) s.heap.objs.size s H fp) [] (padS (N'.length - σ.length) σ) H { s with heap:=h' }:=by
 have hfree:∀n,(n,NameKind.free)∈scope.names->∃c,X.env.cells.lookup n=some c:=λn hm=>I.ok.has n (ok.free _ hm rfl)
 -- the cells by name
 have cell_of:∀x c,(cellsFrom (s.heap.objs.size+1) scope.names (clOf X.env scope.names [])).lookup x=some c->
   ((x,c)∈cellsFrom (s.heap.objs.size+1) scope.names []/\(cellsFrom (s.heap.objs.size+1) scope.names []).lookup x=some c)\/((cellsFrom (s.heap.objs.size+1) scope.names []).lookup x=none/\X.env.cells.lookup x=some c):=λx c e=>by
  rw[cellsFrom_app,lookup_app] at e;cases q:(cellsFrom (s.heap.objs.size+1) scope.names []).lookup x with
  | some d=>rw[q] at e;cases e;exact .inl ⟨lookup_mem _ _ _ q,rfl⟩
  | none=>rw[q] at e;exact .inr ⟨rfl,clOf_acc _ _ x c hfree (λy d h=>by simp at h) e⟩
 have own_ge:∀x c,(x,c)∈cellsFrom (s.heap.objs.size+1) scope.names []->s.heap.objs.size+1<=c:=λx c h=>(co.empty x c h).2;have out_lt:∀x c,X.env.cells.lookup x=some c->c<s.heap.objs.size:=λx c h=>let ⟨v,q⟩:=I.cell x c h;q.lt
 have kind_of:∀x,(relabel scope X.env).names.lookup x=(scope.names.lookup x).map λk=>if (k == NameKind.free&&X.env.scope.kind == .function&&X.env.kindOf x == some .cell) then NameKind.cell else k:=λx=>lookup_relabel _ _
 have has_cell:∀x,(x,NameKind.cell)∈scope.names->∃c,(cellsFrom (s.heap.objs.size+1) scope.names []).lookup x=some c:=λx hx=>by
  have q:=PySem.W.cellsFrom_some scope.names (s.heap.objs.size+1) [] (.inl (lookup_of_mem _ _ _ ok.nd hx));exact Qz4.mp q
 have fpC:∀b∈fp,∀x c,(cellsFrom (s.heap.objs.size+1) scope.names (clOf X.env scope.names [])).lookup x=some c->c≠b:=λb hb x c e=>by
  rcases cell_of x c e with ⟨h1,_⟩|⟨_,h2⟩
  ·have h3:=own_ge x c h1;have h4:=hlt b hb;rintro rfl;exact absurd (Qwx h4 (Qj1 h3)) (Qx9 _)
  ·exact(hf b hb).2.2.2.2.1 x c h2
 refine⟨⟨I.ok.mod,ok.kind,I.ok.glob,I.ok.blt,Qqy _,λx y c h1 h2=>?_,λx hx=>?_,λx c hx e=>?_,I.ok.hd,I.ok.frames,.inl rfl,λb hb=>⟨Qwz (hlt b hb),λx c e=>fpC b hb x c e⟩,I.bs,Qq2 I.ok.bsz I.sz,λb o e hb=>?_,λb hb=>?_,I.stack,I.stkFree⟩,
  rfl,I.bare,Un.kept hk,⟨_,hn,λi x v e1 e2 e3=>?_⟩,λx c e=>?_,I.hok.fresh (Qqy _),λx c e=>?_,λp hp=>absurd (show p∈([]:List (Addr×Obj)) from hp) (by simp),I.hok.kept hk,?_⟩
 ·-- one name a cell
  rcases cell_of x c h1 with ⟨p1,_⟩|⟨_,p2⟩
  ·rcases cell_of y c h2 with ⟨q1,_⟩|⟨_,q2⟩
   ·exact name_of_addr co.apart p1 q1
   ·exact absurd (Qwx (out_lt y c q2) (Qj1 (own_ge x c p1))) (Qx9 _)
  ·rcases cell_of y c h2 with ⟨q1,_⟩|⟨_,q2⟩
   ·exact absurd (Qwx (out_lt x c p2) (Qj1 (own_ge y c q1))) (Qx9 _)
   ·exact I.ok.inj x y c p2 q2
 ·-- each cell name has one
  show ∃c,(cellsFrom (s.heap.objs.size+1) scope.names (clOf X.env scope.names [])).lookup x=some c;have hx:(relabel scope X.env).names.lookup x=some .cell\/(relabel scope X.env).names.lookup x=some .free:=hx;rw[kind_of] at hx;cases q:scope.names.lookup x with
  | none=>rw[q] at hx;rcases hx with hx|hx<;>cases hx
  | some k=>
   rw[q] at hx;rw[cellsFrom_app,lookup_app];cases z:(cellsFrom (s.heap.objs.size+1) scope.names []).lookup x with
   | some d=>exact⟨d,rfl⟩
   | none=>
    have hkf:k = .free:=by
     cases k with
     | free=>rfl
     | cell=>obtain⟨c,hc⟩:=has_cell x (lookup_mem _ _ _ q);rw[hc] at z;cases z
     | _=>rcases hx with hx|hx<;>simp at hx
    subst hkf;exact Qz4.mp (clOf_has _ _ x (lookup_mem _ _ _ q))
 ·-- its own cells are new
  have hx':scope.names.lookup x=some .cell:=Qw2 hx;rcases cell_of x c e with ⟨p1,_⟩|⟨p1,_⟩
  ·exact Qj1 (own_ge x c p1)
  ·obtain⟨d,hd⟩:=has_cell x (lookup_mem _ _ _ hx');rw[hd] at p1;cases p1
 ·rcases(hf b hb).2.2.2.1 with z|z
  ·exact I.ok.noex b o e z
  ·have h1:=Qq7 e;have h2:=I.ok.bsz;exact absurd (Qwx h1 (Qq2 h2 z)) (Qx9 _)
 ·intro hm;rcases Qwq.mp (I.stkSub b hm) with z|z
  ·exact(hf b hb).2.1 z
  ·exact(hf b hb).2.2.1 z
 ·-- the names
  have hiσ:i<σ.length:=by
   by_cases hi:i<σ.length
   ·exact hi
   ·unfold padS at e2;rw[Qxw (by omega),Qzj] at e2;split at e2<;>cases e2
  have e2':σ[i]? = some (some v):=by
   unfold padS at e2
   rwa [Qw5 hiσ] at e2
  have vis:(scope.names.lookup x).isSome=true:=by
   have e3:(relabel scope X.env).names.lookup x=some .local\/(relabel scope X.env).names.lookup x=some .cell\/(relabel scope X.env).names.lookup x=some .free:=e3;rw[kind_of] at e3;cases q:scope.names.lookup x with
   | none=>rw[q] at e3;rcases e3 with z|z|z<;>cases z
   | some k=>rfl
  obtain⟨hN,hfr⟩:=chkC_get ok.chk i x (by rw[<-I.len];exact hiσ) e1 vis;have hm:=lookup_mem _ _ _ hfr;have hkk:=ok.free _ hm rfl;obtain⟨m,hns,hl⟩:=I.loc;obtain⟨u,ru,lk⟩:=hl i x v hN e2' (hkk.elim (λz=>.inr (.inl z)) λz=>.inr (.inr z));refine⟨u,ru,.inr ⟨?_,?_⟩⟩
  ·show(relabel scope X.env).names.lookup x=some .cell\/(relabel scope X.env).names.lookup x=some .free;rw[kind_of,hfr];by_cases hc:(NameKind.free == NameKind.free&&X.env.scope.kind == .function&&X.env.kindOf x == some .cell)=true
   ·left;rw[Option.map_some,if_pos hc]
   ·right;rw[Option.map_some,if_neg hc]
  ·rcases lk with ⟨hl1,_⟩|⟨_,c,hc,hcell⟩
   ·rcases hkk with z|z<;>(rw[z] at hl1;cases hl1)
   ·refine⟨c,?_,hcell.keeps hk⟩;show(cellsFrom (s.heap.objs.size+1) scope.names (clOf X.env scope.names [])).lookup x=some c;rw[cellsFrom_app,lookup_app];have hno:(cellsFrom (s.heap.objs.size+1) scope.names []).lookup x=none:=lookup_none_of _ _ λd hd=>by
     have h1:=lookup_of_mem _ _ _ ok.nd (mem_cellsFrom _ _ _ _ hd);rw[hfr] at h1;cases h1
    rw[hno];obtain⟨d,hd⟩:=Qz4.mp (clOf_has (env:=X.env) scope.names [] x hm);have h2:=clOf_acc _ _ x d hfree (λy d h=>by simp at h) hd;rw[hc] at h2;show(clOf X.env scope.names []).lookup x=some c;rw[hd,h2]
 ·rcases cell_of x c e with ⟨p1,_⟩|⟨_,p2⟩
  ·exact⟨_,(co.empty x c p1).1⟩
  ·obtain⟨v,q⟩:=I.cell x c p2;exact⟨v,q.keeps hk⟩
 ·rcases cell_of x c e with ⟨p1,_⟩|⟨p0,p2⟩
  ·exact .inl (I.hok.fresh (Qj1 (own_ge x c p1)))
  ·rcases I.freeC x c p2 with z|⟨_,z⟩
   ·exact .inl z
   ·refine .inr ⟨?_,z⟩;show decide (scope.names.lookup x=some .cell)=false;refine Qwj λq=>?_;obtain⟨d,hd⟩:=cell_has (n:=s.heap.objs.size+1) q;rw[p0] at hd;cases hd
 ·show(padS (N'.length - σ.length) σ).length=N'.length;unfold padS;rw[Qqj,Qx4];have h1:=ok.len;have h2:=I.len;omega
abbrev CxAt(X:Cx)(scope:Scope)(N':List Str)(X':Cx):Prop:=
 ∃(cells:List (Str×Addr)) (C:Addr) (s0:Shared) (H0:{ H:Hp // ∀b qs,X.H₀ b=some (.tab qs)->H b=some (.tab qs) }) (fp:List Addr),X'=cxC X scope N' cells C s0 H0.1 fp
theorem comp_core{X:Cx}{elt tg iter:Expr}{ifs:List Expr}{scope:Scope}{N':List Str}{pos:Pos}{g:TG}{tc:TT}{te:TE}{use:Option (Value->Sem Unit)}{QQ:Value->Shared->Prop}
  (ok:CompOk X scope N') (hc:X.calm=true)
  (bg:∀X',CxAt X scope N' X'->PG X' tg g) (bc:∀X',CxAt X scope N' X'->PIf X' ifs tc) (be:∀X',CxAt X scope N' X'->PE X' elt te)
  {pins:List (Addr×Obj)} {s2:Shared} {σ:St} {H2:Hp} {Q:VK} {it:Addr} {fp:List Addr} {tn:Nat->Heap->Prop} {J:It} (I2:Inv X pins σ H2 s2) (T:Turn X.prog X.w X.K tg J fp it tn) (st2:tn 0 s2.heap) (f2:∀b∈fp,FpOk X pins H2 b)
  (q:∀d,H2 d=none->∃W:Nat->Nat->St->Hp->Prop,(∃m,W 0 m (padS (N'.length - σ.length) σ) (upd H2 d (.lst [])))/\∀i m σ' H',W i m σ' H'->
   (J.stop i H'/\Q (.ref d) H')\/(J.go i H'/\∃N:St->Hp->Prop,(∀σ2 H2,N σ2 H2->∃m',m'<m/\W (i+1) m' σ2 H2)/\∀x H2,J.yld i H' x H2->g x σ' H2 λσ3 H3=>tc σ3 H3 λb H4=>
    if b=true then te σ3 H4 λy H5=>∃ys,H5 d=some (.lst ys)/\ys.length<sizeLine/\N σ3 (upd H5 d (.lst (ys++[y]))) else N σ3 H4))
  (fin:∀d C m s' H',Inv X pins σ H' s'->Q (.ref d) H'->s'.heap.Ns C m->H' C=none->C≠X.env.locals->X.s₀.heap.objs.size<=C->(∀x c,X.env.cells.lookup x=some c->c≠C)->(∀p∈X.pn++pins,p.1≠C)->
   compPost (model X.prog X.w) X.A X.xe use QQ (.ref d) C (.ok .next) s') :
  wpAny (model X.prog X.w) X.A (newList []) (λacc s₃=>wpAny (model X.prog X.w) X.A (newFunctionEnv scope X.env.globals (clOf X.env scope.names []) [] X.env.qual none .none (some X.env)) (λcenv s₄=>
   codeAny (model X.prog X.w) X.A (.compStart (.ListComp elt [⟨tg,iter,ifs,0⟩] scope pos) 0 (.ref it) acc { cenv with scope:=relabel scope X.env }) (compPost (model X.prog X.w) X.A X.xe use QQ acc cenv.locals) s₄) X.xe s₃) X.xe s2:=by
 have hd2:H2 s2.heap.objs.size=none:=I2.fresh;refine Qxj (newEnv_comp λh' hns hkeep hco=>?_)
 -- the state behind the list
 obtain⟨W,⟨m0,w0⟩,turn⟩:=q s2.heap.objs.size hd2;have I3:Inv X pins σ (upd H2 s2.heap.objs.size (.lst [])) { s2 with heap:=s2.heap.push { cls:=.type "list",data:=.seq ([]:List Value).toArray } }:=I2.lnew (t':=s2.toks) .nil (Qz9 _);have lt2:∀b∈fp,b<s2.heap.objs.size:=λb hb=>by
  obtain⟨o,e,_⟩:=T.obj _ _ st2 b hb;exact Qq7 e
 have f3:∀b∈fp,FpOk X pins (upd H2 s2.heap.objs.size (.lst [])) b:=λb hb=>by
  refine⟨?_,(f2 b hb).2⟩;rw[upd_ne (Qwz (lt2 b hb))];exact(f2 b hb).1
 have lt3:∀b∈fp,b<({ s2 with heap:=s2.heap.push { cls:=.type "list",data:=.seq ([]:List Value).toArray } }:Shared).heap.objs.size:=λb hb=>by
  show b<(s2.heap.push _).objs.size;rw[Qz8];exact Qz0 (lt2 b hb)
 have st3:tn 0 h':=T.keep _ _ _ st2 λb hb o e=>hkeep b o (Qqz _ e);have I4:=inv_comp (fp:=fp) ok I3 f3 lt3 hns hkeep hco;generalize hs3:({ s2 with heap:=s2.heap.push { cls:=.type "list",data:=.seq ([]:List Value).toArray } }:Shared)=s3 at *;have sz3:s3.heap.objs.size=s2.heap.objs.size+1:=by rw[<-hs3];exact Qz8 ..
 generalize hX':cxC X scope N' (cellsFrom (s3.heap.objs.size+1) scope.names (clOf X.env scope.names [])) s3.heap.objs.size s3 (upd H2 s2.heap.objs.size (.lst [])) fp=X' at I4;have at':CxAt X scope N' X':=⟨_,_,_,⟨_,I3.base.tabs⟩,_,hX'.symm⟩;have hg:=bg X' at';have hif:=bc X' at';have he:=be X' at';have eP:X'.prog=X.prog:=by rw[<-hX'];rfl
 have eW:X'.w=X.w:=by rw[<-hX'];rfl
 have eK:X'.K=X.K:=by rw[<-hX'];rfl
 have eA:X'.A=X.A:=by rw[<-hX'];rfl
 have eC:X'.calm=true:=by rw[<-hX'];exact hc
 have eX:X'.xe=λ_ _=>False:=by rw[<-hX'];rfl
 have ePn:X'.pn=[]:=by rw[<-hX'];rfl
 have eEx:X'.ex=fp:=by rw[<-hX'];rfl
 have eL:X'.env.locals=s3.heap.objs.size:=by rw[<-hX'];rfl
 have eFs:X'.fs=frs X.stack:=by rw[<-hX'];rfl
 have eEnv:compEnvC scope (cellsFrom (s3.heap.objs.size+1) scope.names (clOf X.env scope.names [])) s3.heap.objs.size X.env=X'.env:=by rw[<-hX'];rfl
 have eS0:X'.s₀=s3:=by rw[<-hX'];rfl
 have eH0:X'.H₀=upd H2 s2.heap.objs.size (.lst []):=by rw[<-hX'];rfl
 -- what is true of the iterator's objects in the block
 have stat:∀{H':Hp},(∀b∈fp,H' b=none)->∀b∈fp,FpOk X' [] H' b:=λ{H'} hn b hb=>by
  refine⟨hn b hb,?_,?_,.inl (by rw[eEx];exact hb),λx c e=>?_,λp hp=>?_⟩
  ·rw[eL];exact Qwz (lt3 b hb)
  ·have:=I4.ok.exfs b (by rw[eEx];exact hb);exact this
  ·exact(I4.ok.exf b (by rw[eEx];exact hb)).2 x c e
  ·rw[ePn] at hp;exact absurd hp (by simp)
 -- the outer context again
 have back:∀σ' H' s',Inv X' [] σ' H' s'->Inv X pins σ H' s':=λσ' H' s' J'=>by
  have hb:=J'.base;rw[eFs,eEx,eS0,eH0] at hb;have hos:=J'.os;rw[eS0] at hos;have hok:=J'.hok;rw[eP,eW] at hok;exact I3.call' (ch:=fp) hos hb hok J'.bare λb hbm=>⟨(f3 b hbm).2.2.2.1,(f3 b hbm).2.1,(f3 b hbm).2.2.2.2.1,(f3 b hbm).2.2.2.2.2⟩
 have loop:∀s4:Shared,s4 = { s3 with heap:=h' }->codeAny (model X.prog X.w) X.A (.compLoop (.ListComp elt [⟨tg,iter,ifs,0⟩] scope pos) 0 (.ref it) (.ref s2.heap.objs.size) X'.env) (compPost (model X.prog X.w) X.A X.xe use QQ (.ref s2.heap.objs.size) s3.heap.objs.size) s4:=by
  rintro s4 rfl;refine compLoop_any (λn s'=>∃i σ' H',Inv X' [] σ' H' s'/\tn i s'.heap/\(∀b∈fp,H' b=none)/\W i n σ' H') ?_ m0 ⟨0,_,_,I4,st3,λb hb=>(f3 b hb).1,w0⟩;rintro n s5 ⟨i,σ5,H5,I5,st5,fr5,w5⟩;rcases turn i n σ5 H5 w5 with ⟨stop,qn⟩|⟨go,N,hN,step⟩
  ·have td:=T.done X' eP eW eK eC i [] s5 σ5 H5 (λ_ _=>False) I5 (stat fr5) st5 stop;rw[eA] at td;refine thn td λr s6 ⟨hr,I6⟩=>?_;subst hr;obtain⟨mC,hnC,_⟩:=id I6.loc;rw[eL] at hnC;have lc:X.env.locals<s3.heap.objs.size:=by
    have:=I3.lt;exact this
   refine fin _ _ mC s6 H5 (back _ _ _ I6) qn hnC ?_ (Qj2 lc) I3.sz (λx c e=>?_) (λp hp=>?_)
   ·have:=I6.free;rw[eL] at this;exact this
   ·obtain⟨v,z⟩:=I3.cell x c e;exact Qwz z.lt
   ·exact Qwz (Qq7 (I3.pin p hp).1)
  ·have ti:=T.item X' eP eW eK eC i [] s5 σ5 H5 (λ_ _=>False) I5 (stat fr5) st5 go;rw[eA] at ti;refine thn ti λr s6 ⟨u,hr,h6⟩=>?_;subst hr;refine thn h6 λ_ s7 ⟨x,H7,I7,r7,y7,st7,fr7⟩=>?_;have I7':=I7.pinned (stat fr7) (T.obj _ _ st7);have hg':=hg _ s7 σ5 H7 x u _ I7' r7 (step x H7 y7);rw[eP,eW,eA,eX] at hg';refine thn hg' λ_ s8 ⟨σ8,H8,I8,q8⟩=>?_;have hif':=hif _ s8 σ8 H8 _ I8 q8;rw[eP,eW,eA,eX] at hif';refine thn hif' λb s9 ⟨H9,I9,q9⟩=>?_;have again:∀{σz:St} {Hz:Hp} {sz:Shared},Inv X' ([]++pinsAt fp s7.heap) σz Hz sz->N σz Hz->∃m,m<n/\∃i σ' H',Inv X' [] σ' H' sz/\tn i sz.heap/\(∀b∈fp,H' b=none)/\W i m σ' H':=λ{σz Hz sz} Iz nz=>by
    obtain⟨m',hm,wz⟩:=hN σz Hz nz;refine⟨m',hm,i+1,σz,Hz,Iz.unpinned,T.keep _ _ _ st7 λb hb o e=>(Iz.pin (b,o) (Qw7 _ (Qw7 _ (mem_pinsAt hb e)))).1,λb hb=>?_,wz⟩;obtain⟨o,e,d⟩:=T.obj _ _ st7 b hb;exact(Iz.pin (b,o) (Qw7 _ (Qw7 _ (mem_pinsAt hb e)))).2.1
   cases b with
   | false=>
    rw[if_neg Qxk] at q9 ⊢;exact again I9 q9
   | true=>
    rw[if_pos rfl] at q9 ⊢;have he':=he _ s9 σ8 H9 _ I9 q9;rw[eP,eW,eA,eX] at he';refine thn he' λy sa ⟨yv,Ha,Ia,ra,ys,hys,hlen,qa⟩=>?_;have ap:=mt_append (X:=X') _ sa σ8 Ha (.ref s2.heap.objs.size) [yv] (.ref s2.heap.objs.size) [y] (λv H'=>v = .non/\N σ8 H') Ia rfl (.cons ra .nil) ⟨_,ys,yv,rfl,rfl,hys,hlen,rfl,qa⟩;rw[eP,eW,eA,eX] at ap;refine thn ap λ_ sb ⟨vb,Hb,Ib,rb,_,nb⟩=>?_;exact again Ib nb
 show codeAny _ _ (.compStart _ 0 (.ref it) (.ref s2.heap.objs.size) (compEnvC scope (cellsFrom (s3.heap.objs.size+1) scope.names (clOf X.env scope.names [])) s3.heap.objs.size X.env)) (compPost (model X.prog X.w) X.A X.xe use QQ (.ref s2.heap.objs.size) s3.heap.objs.size) _;rw[eEnv];exact codeAny_compStart_list (loop _ rfl) (T.self X.A 0 _ _ _ st3 (loop _ rfl))
theorem pe_lc{X:Cx}{elt tg iter:Expr}{ifs:List Expr}{scope:Scope}{N':List Str}{pos:Pos}{wi:TI}{g:TG}{tc:TT}{te:TE}
  (ok:CompOk X scope N') (hc:X.calm=true) (hi:PI X tg iter wi)
  (bg:∀X',CxAt X scope N' X'->PG X' tg g) (bc:∀X',CxAt X scope N' X'->PIf X' ifs tc) (be:∀X',CxAt X scope N' X'->PE X' elt te)
  (hs:∀x,foldedSetIterable iter X.env x=pure x:=by intro _;rfl) :
  PE X (.ListComp elt [⟨tg,iter,ifs,0⟩] scope pos) (tLC N'.length wi g tc te):=by
 intro pins s σ H Q I h;rw[eval_ListComp];have hfree:∀n,(n,NameKind.free)∈scope.names->∃c,X.env.cells.lookup n=some c:=λn hm=>I.ok.has n (ok.free _ hm rfl);refine wpAny_comprehension_free (use:=none) rfl hs (closure_eq hfree) ok.kind (λx hx hl=>lookup_of_mem _ _ _ ok.nd (by rw[<-hl];exact hx)) ?_;refine thn (hi pins s σ H _ I h) λv s1 h1=>thn h1 λitv s2 h2=>?_;obtain⟨it,fp,tn,J,H2,e,I2,T,st2,f2,q⟩:=h2;subst e;refine comp_core ok hc bg bc be I2 T st2 f2 q λd C m s' H' I' hq hn hC hL h0 hcell hpin=>?_;refine⟨m,hn,λh' hs'=>?_⟩;have I'':Inv X pins σ H' { s' with heap:=h',toks:=s'.toks }:=I'.turned (it:=C) (λb o hb e=>(hs'.2 b hb).trans e) hC hL (.inr h0) hcell hpin;exact⟨.ref d,H',I'',rfl,hq⟩
end L2
namespace Ev
open PySem PySem.Spec PyProof.Rows L2
inductive D where
 | non
 | bl (b:Bool)
 | int (i:Int)
 | str (x:List Nat)
 | tup (xs:List D)
 | lst (xs:List D)
 | arr (xs:List D)
 | dct (kvs:List (D×D))
 | dcn (kvs:List (D×D))
 | clo (st:Stmt) (ds:List D)
 deriving Inhabited
abbrev Fg:=PySem.W.Frag
def strOf(x:List Nat):Str:=⟨x.toArray⟩
def keyD:D->Option Key
 | .int i=>some (.inl i)
 | .str x=>some (.inr (strOf x))
 | _=>none
mutual
def nkD:D->Option NK
 | .int i=>some (.num i)
 | .bl b=>some (.num (if b then 1 else 0))
 | .str x=>some (.txt (strOf x))
 | .tup xs=>(nkDs xs).map .tup
 | _=>none
def nkDs:List D->Option (List NK)
 | []=>some []
 | d::ds=>match nkD d,nkDs ds with
  | some k,some ks=>some (k::ks)
  | _,_=>none
end
def defName(s:Stmt):Str:=match s with
 | .FunctionDef n _ _ _ _ _ _ _ _ _=>n
 | _=>""
def freeOf(s:Stmt):List Str:=(((defScope s).names.filter (·.2 == .free)).map (·.1)).reverse
def CellAt(F:Hp)(c:Addr)(v:V):Prop:=∃(o:Obj) (u:HO) (w:Value),F c=some (.frz o u)/\o.data = .cell (some w)/\RelV v w
def CellsAt(F:Hp):List (Str×Addr)->List V->Prop
 | [],vs=>vs=[]
 | (_,c)::r,vs=>∃v vs',vs=v::vs'/\CellAt F c v/\CellsAt F r vs'
def CodeAt(F:Hp)(c:Addr)(q:Str):Prop:=∃(o:Obj) (u:HO) (vs:Array Value) (t:Tok),F c=some (.frz o u)/\o.data = .fields vs/\vs[1]? = some (.str q t)
def Clo0(F:Hp)(st:Stmt)(a:Addr)(vs:List V):Prop:=∃(u:HO) (q:Str) (cl:List (Str×Addr)) (doc pm ctv:Value) (c:Addr),
 F a=some (.frz (PySem.W.fnMade (defName st) q (defArgs st) (defBody st) (defScope st) cl doc pm c ctv) u)/\CodeAt F c q/\cl.map (·.1)=freeOf st/\(cl.map (·.2)).Nodup/\CellsAt F cl vs
theorem Same.cells{F F':Hp}(e:Same F F'):∀{cl:List (Str×Addr)} {vs:List V},CellsAt F cl vs->CellsAt F' cl vs
 | [],_,h=>h
 | (_,c)::r,_,⟨v,vs',h0,⟨o,u,w,h1,h2⟩,h3⟩=>⟨v,vs',h0,⟨o,u,w,e _ _ h1,h2⟩,Same.cells e h3⟩
def Mark(K:Fg)(st:Stmt)(a:Addr):Prop:=∃(n:Str) (p:Pos) (oc:Value) (od:Option Addr) (fd:FuncData) (sl:Array (Option Value)),st = .Global [n] p/\PySem.W.nsIn K mainGlobals n=some (some (.ref a))/\K.lookup a=some ⟨oc,od,.func fd,sl⟩
def ExcAt(K:Fg)(F:Hp)(st:Stmt)(a:Addr)(vs:List V):Prop:=∃(n:Str) (r:List Str) (p:Pos) (o:Obj) (u:HO) (c:Addr) (fs:Array Value),st = .Nonlocal (n::r) p/\PySem.W.nsIn K mainGlobals n=some (some (.ref c))/\F a=some (.frz o u)/\o.cls = .ref c/\o.data = .fields fs/\
 (r=[]/\vs=[]\/∃(x:Str) (v:V) (w:Value) (dx:Addr) (od:Obj) (ud:HO) (m:Str->Option Value),r=[x]/\vs=[v]/\RelV v w/\o.dict=some dx/\F dx=some (.frz od ud)/\(∀h:Heap,h.get? dx=some od->h.Ns dx m)/\m x=some w)
theorem Same.excAt{K:Fg}{F F':Hp}{st:Stmt}{a:Addr}{vs:List V}(e:Same F F')(h:ExcAt K F st a vs):ExcAt K F' st a vs:=by
 obtain⟨n,r,p,o,u,c,fs,h1,h2,h3,h4,h5,h6⟩:=h;refine⟨n,r,p,o,u,c,fs,h1,h2,e _ _ h3,h4,h5,?_⟩;rcases h6 with h6|⟨x,v,w,dx,od,ud,m,q1,q2,q3,q4,q5,q6⟩
 ·exact .inl h6
 ·exact .inr ⟨x,v,w,dx,od,ud,m,q1,q2,q3,q4,e _ _ q5,q6⟩
def isGl(st:Stmt):Bool:=match st with
 | .Global _ _=>true
 | .Nonlocal _ _=>true
 | _=>false
def Clo(K:Fg)(F:Hp)(st:Stmt)(a:Addr)(vs:List V):Prop:=Clo0 F st a vs/\isGl st=false\/Mark K st a\/ExcAt K F st a vs
theorem Same.clo{K:Fg}{F F':Hp}{st:Stmt}{a:Addr}{vs:List V}(e:Same F F')(h:Clo K F st a vs):Clo K F' st a vs:=by
 rcases h with ⟨h,hg⟩|h|h
 rotate_left
 ·exact .inr (.inl h)
 ·exact .inr (.inr (Same.excAt e h))
 refine .inl ⟨?_,hg⟩;obtain⟨u,q,cl,doc,pm,ctv,c,h1,⟨o,u2,ws,t,h2,h3⟩,h4,h5,h6⟩:=h;exact⟨u,q,cl,doc,pm,ctv,c,e _ _ h1,⟨o,u2,ws,t,e _ _ h2,h3⟩,h4,h5,Same.cells e h6⟩
mutual
def Rep(K:Fg)(F:Hp):D->V->Prop
 | .non,v=>v = .non
 | .bl b,v=>v = .bl b
 | .int i,v=>v = .int i
 | .str x,v=>v = .str (strOf x)/\x.length<=sizeLine
 | .tup xs,v=>xs.length<=sizeLine/\∃a vs,v = .ref a/\SqT K F a vs/\Reps K F xs vs
 | .lst xs,v=>xs.length<=sizeLine/\∃a vs,v = .ref a/\F a=some (.lst vs)/\Reps K F xs vs
 | .arr xs,v=>xs.length<=sizeLine/\∃a vs,v = .ref a/\SqL K F a vs/\Reps K F xs vs
 | .dct kvs,v=>kvs.length<=sizeLine/\∃a ks,v = .ref a/\Rd F a (.dK ks)/\RepKs K F kvs ks
 | .dcn kvs,v=>kvs.length<=sizeLine/\∃a ks,v = .ref a/\Rd F a (.dN ks)/\RepNs K F kvs ks
 | .clo st ds,v=>∃a vs,v = .ref a/\Clo K F st a vs/\Reps K F ds vs
def Reps(K:Fg)(F:Hp):List D->List V->Prop
 | [],vs=>vs=[]
 | d::ds,vs=>∃v r,vs=v::r/\Rep K F d v/\Reps K F ds r
def RepKs(K:Fg)(F:Hp):List (D×D)->List (Key×V)->Prop
 | [],vs=>vs=[]
 | (k,d)::ds,vs=>∃q v r,vs=(q,v)::r/\keyD k=some q/\Rep K F d v/\RepKs K F ds r
def RepNs(K:Fg)(F:Hp):List (D×D)->List (NK×V×V)->Prop
 | [],vs=>vs=[]
 | (k,d)::ds,vs=>∃q u v r,vs=(q,u,v)::r/\nkD k=some q/\q.dep<=8/\Rep K F k u/\Rep K F d v/\RepNs K F ds r
end
theorem Same.rd{F F':Hp}{a:Addr}{u:HO}(e:Same F F')(h:Rd F a u):Rd F' a u:=by
 rcases h with h|⟨o,h⟩
 ·exact .inl (e _ _ h)
 ·exact .inr ⟨o,e _ _ h⟩
theorem Same.tupK{K:Fg}{F F':Hp}{a:Addr}{xs:List V}(e:Same F F')(h:SqT K F a xs):SqT K F' a xs:=by
 rcases h with h|h
 ·exact .inl (Same.rd e h)
 ·exact .inr h
mutual
theorem Rep.mono{K:Fg}{F F':Hp}(e:Same F F'):∀(d:D) (v:V),Rep K F d v->Rep K F' d v
 | .non,_,h=>h
 | .bl _,_,h=>h
 | .int _,_,h=>h
 | .str _,_,h=>h
 | .tup xs,v,h=>by
  obtain⟨z,a,vs,rfl,h1,h2⟩:=h;exact⟨z,a,vs,rfl,Same.tupK e h1,Reps.mono e xs vs h2⟩
 | .lst xs,v,h=>by
  obtain⟨z,a,vs,rfl,h1,h2⟩:=h;exact⟨z,a,vs,rfl,e _ _ h1,Reps.mono e xs vs h2⟩
 | .arr xs,v,h=>by
  obtain⟨z,a,vs,rfl,h1,h2⟩:=h;exact⟨z,a,vs,rfl,e.seq h1,Reps.mono e xs vs h2⟩
 | .dct kvs,v,h=>by
  obtain⟨z,a,ks,rfl,h1,h2⟩:=h;exact⟨z,a,ks,rfl,Same.rd e h1,RepKs.mono e kvs ks h2⟩
 | .dcn kvs,v,h=>by
  obtain⟨z,a,ks,rfl,h1,h2⟩:=h;exact⟨z,a,ks,rfl,Same.rd e h1,RepNs.mono e kvs ks h2⟩
 | .clo st ds,v,h=>by
  obtain⟨a,vs,rfl,h1,h2⟩:=h;exact⟨a,vs,rfl,Same.clo e h1,Reps.mono e ds vs h2⟩
theorem Reps.mono{K:Fg}{F F':Hp}(e:Same F F'):∀(ds:List D) (vs:List V),Reps K F ds vs->Reps K F' ds vs
 | [],_,h=>h
 | d::ds,vs,h=>by
  obtain⟨v,r,rfl,h1,h2⟩:=h;exact⟨v,r,rfl,Rep.mono e d v h1,Reps.mono e ds r h2⟩
theorem RepKs.mono{K:Fg}{F F':Hp}(e:Same F F'):∀(ds:List (D×D)) (vs:List (Key×V)),RepKs K F ds vs->RepKs K F' ds vs
 | [],_,h=>h
 | (k,d)::ds,vs,h=>by
  obtain⟨q,v,r,rfl,h0,h1,h2⟩:=h;exact⟨q,v,r,rfl,h0,Rep.mono e d v h1,RepKs.mono e ds r h2⟩
theorem RepNs.mono{K:Fg}{F F':Hp}(e:Same F F'):∀(ds:List (D×D)) (vs:List (NK×V×V)),RepNs K F ds vs->RepNs K F' ds vs
 | [],_,h=>h
 | (k,d)::ds,vs,h=>by
  obtain⟨q,u,v,r,rfl,h0,h3,h4,h1,h2⟩:=h;exact⟨q,u,v,r,rfl,h0,h3,Rep.mono e k u h4,Rep.mono e d v h1,RepNs.mono e ds r h2⟩
end
theorem Reps.length{K:Fg}{F:Hp}:∀{ds:List D} {vs:List V},Reps K F ds vs->vs.length=ds.length
 | [],_,h=>by cases h;rfl
 | d::ds,vs,h=>by
  obtain⟨v,r,rfl,_,h2⟩:=h;rw[Qqk,Qqk,h2.length]
theorem Reps.get{K:Fg}{F:Hp}:∀{ds:List D} {vs:List V} {i:Nat} {d:D},Reps K F ds vs->ds[i]? = some d->∃v,vs[i]? = some v/\Rep K F d v
 | [],_,_,_,_,e=>by simp at e
 | c::ds,vs,i,d,h,e=>by
  obtain⟨v,r,rfl,h1,h2⟩:=h;cases i with
  | zero=>simp at e;subst e;exact⟨v,rfl,h1⟩
  | succ i=>obtain⟨u,e1,e2⟩:=Reps.get h2 (i:=i) (by simpa using e);exact⟨u,by simpa using e1,e2⟩
theorem Reps.append{K:Fg}{F:Hp}:∀{ds es:List D} {vs ws:List V},Reps K F ds vs->Reps K F es ws->Reps K F (ds++es) (vs++ws)
 | [],es,vs,ws,h,g=>by cases h;exact g
 | d::ds,es,vs,ws,h,g=>by
  obtain⟨v,r,rfl,h1,h2⟩:=h;exact⟨v,r++ws,rfl,h1,Reps.append h2 g⟩
theorem Reps.drop{K:Fg}{F:Hp}:∀(n:Nat) {ds:List D} {vs:List V},Reps K F ds vs->Reps K F (ds.drop n) (vs.drop n)
 | 0,_,_,h=>h
 | _+1,[],_,h=>by cases h;exact rfl
 | n+1,d::ds,vs,h=>by
  obtain⟨v,r,rfl,_,h2⟩:=h;exact Reps.drop n h2
theorem Reps.take{K:Fg}{F:Hp}:∀(n:Nat) {ds:List D} {vs:List V},Reps K F ds vs->Reps K F (ds.take n) (vs.take n)
 | 0,_,_,_=>rfl
 | _+1,[],_,h=>by cases h;exact rfl
 | n+1,d::ds,vs,h=>by
  obtain⟨v,r,rfl,h1,h2⟩:=h;exact⟨v,r.take n,rfl,h1,Reps.take n h2⟩
theorem Reps.set{K:Fg}{F:Hp}{d:D}{v:V}(hd:Rep K F d v):∀(i:Nat) {ds:List D} {vs:List V},Reps K F ds vs->Reps K F (ds.set i d) (vs.set i v)
 | _,[],_,h=>by cases h;exact rfl
 | 0,c::ds,vs,h=>by
  obtain⟨u,r,rfl,_,h2⟩:=h;exact⟨v,r,rfl,hd,h2⟩
 | i+1,c::ds,vs,h=>by
  obtain⟨u,r,rfl,h1,h2⟩:=h;exact⟨u,r.set i v,rfl,h1,Reps.set hd i h2⟩
theorem Reps.one{K:Fg}{F:Hp}{d:D}{v:V}(h:Rep K F d v):Reps K F [d] [v]:=⟨v,[],rfl,h,rfl⟩
abbrev Env:=List (Option (Bool×D))
inductive R (α:Type) where
 | ok (a:α) (env:Env)
 | stuck
abbrev Ev:=Env->R D
abbrev EvT:=Env->R Bool
abbrev EvA:=Env->R (List D)
structure Cfg where
 K:Fg
 fx:Nat->Option Addr
def OwnAt(K:Fg)(F H:Hp):D->Addr->Prop
 | .lst xs,a=>xs.length<=sizeLine/\∃vs,H a=some (.lst vs)/\Reps K F xs vs
 | .dct kvs,a=>kvs.length<=sizeLine/\∃ks,H a=some (.dK ks)/\RepKs K F kvs ks
 | .dcn kvs,a=>kvs.length<=sizeLine/\∃ks,H a=some (.dN ks)/\RepNs K F kvs ks
 | _,_=>False
theorem OwnAt.mono{K:Fg}{F F' H H':Hp}(e:Same F F'){d:D}{a:Addr}(k:H' a=H a)(h:OwnAt K F H d a):OwnAt K F' H' d a:=by
 cases d with
 | lst xs=>obtain⟨z,vs,h1,h2⟩:=h;exact⟨z,vs,k.trans h1,Reps.mono e _ _ h2⟩
 | dct kvs=>obtain⟨z,ks,h1,h2⟩:=h;exact⟨z,ks,k.trans h1,RepKs.mono e _ _ h2⟩
 | dcn kvs=>obtain⟨z,ks,h1,h2⟩:=h;exact⟨z,ks,k.trans h1,RepNs.mono e _ _ h2⟩
 | _=>exact h
theorem OwnAt.some{K:Fg}{F H:Hp}{d:D}{a:Addr}(h:OwnAt K F H d a):∃o,H a=some o:=by
 cases d with
 | lst xs=>obtain⟨z,vs,h1,h2⟩:=h;exact⟨_,h1⟩
 | dct kvs=>obtain⟨z,ks,h1,h2⟩:=h;exact⟨_,h1⟩
 | dcn kvs=>obtain⟨z,ks,h1,h2⟩:=h;exact⟨_,h1⟩
 | _=>exact h.elim
def BRep(K:Fg)(F H:Hp)(d:D)(v:V):Prop:=Rep K F d v\/∃a,v = .ref a/\OwnAt K F H d a
theorem BRep.rep{K:Fg}{F H:Hp}{d:D}{v:V}(s:Same F H)(h:BRep K F H d v):Rep K H d v:=by
 rcases h with h|⟨a,rfl,h⟩
 ·exact Rep.mono s d v h
 ·cases d with
  | lst xs=>obtain⟨z,vs,h1,h2⟩:=h;exact⟨z,a,vs,rfl,h1,Reps.mono s _ _ h2⟩
  | dct kvs=>obtain⟨z,ks,h1,h2⟩:=h;exact⟨z,a,ks,rfl,.inl h1,RepKs.mono s _ _ h2⟩
  | dcn kvs=>obtain⟨z,ks,h1,h2⟩:=h;exact⟨z,a,ks,rfl,.inl h1,RepNs.mono s _ _ h2⟩
  | _=>exact h.elim
theorem BRep.lst{K:Fg}{F H:Hp}{xs:List D}{v:V}(s:Same F H)(h:BRep K F H (.lst xs) v):xs.length<=sizeLine/\∃a vs,v = .ref a/\H a=some (.lst vs)/\Reps K F xs vs:=by
 rcases h with ⟨z,a,vs,rfl,h1,h2⟩|⟨a,rfl,z,vs,h1,h2⟩
 ·exact⟨z,a,vs,rfl,s _ _ h1,h2⟩
 ·exact⟨z,a,vs,rfl,h1,h2⟩
theorem BRep.arr{K:Fg}{F H:Hp}{xs:List D}{v:V}(s:Same F H)(h:BRep K F H (.arr xs) v):xs.length<=sizeLine/\∃a vs,v = .ref a/\SqL K H a vs/\Reps K F xs vs:=by
 rcases h with ⟨z,a,vs,rfl,h1,h2⟩|⟨a,rfl,h⟩
 ·exact⟨z,a,vs,rfl,s.seq h1,h2⟩
 ·exact h.elim
theorem BRep.tup{K:Fg}{F H:Hp}{xs:List D}{v:V}(s:Same F H)(h:BRep K F H (.tup xs) v):xs.length<=sizeLine/\∃a vs,v = .ref a/\SqT K H a vs/\SqT K F a vs/\Reps K F xs vs:=by
 rcases h with ⟨z,a,vs,rfl,h1,h2⟩|⟨a,rfl,h⟩
 ·exact⟨z,a,vs,rfl,Same.tupK s h1,h1,h2⟩
 ·exact h.elim
theorem BRep.int{K:Fg}{F H:Hp}{i:Int}{v:V}(h:BRep K F H (.int i) v):v = .int i:=by
 rcases h with h|⟨a,rfl,h⟩
 ·exact h
 ·exact h.elim
theorem BRep.bl{K:Fg}{F H:Hp}{i:Bool}{v:V}(h:BRep K F H (.bl i) v):v = .bl i:=by
 rcases h with h|⟨a,rfl,h⟩
 ·exact h
 ·exact h.elim
theorem BRep.non{K:Fg}{F H:Hp}{v:V}(h:BRep K F H .non v):v = .non:=by
 rcases h with h|⟨a,rfl,h⟩
 ·exact h
 ·exact h.elim
theorem BRep.str{K:Fg}{F H:Hp}{x:List Nat}{v:V}(h:BRep K F H (.str x) v):v = .str (strOf x)/\x.length<=sizeLine:=by
 rcases h with h|⟨a,rfl,h⟩
 ·exact h
 ·exact h.elim
structure Rel(C:Cfg)(Pr F:Hp)(env:Env)(σ:L2.St)(H:Hp):Prop where
 pr:Same Pr H
 fr:Same F H
 len:env.length=σ.length
 val:∀(i:Nat) (d:D),env[i]? = some (some (false,d))->∃v,σ[i]? = some (some v)/\Rep C.K F d v
 own:∀(i:Nat) (d:D),env[i]? = some (some (true,d))->∃a,σ[i]? = some (some (V.ref a))/\OwnAt C.K F H d a/\F a=none/\Pr a=none
 apart:∀(i j:Nat) (d e:D) (a:Addr),env[i]? = some (some (true,d))->env[j]? = some (some (true,e))->σ[i]? = some (some (V.ref a))->σ[j]? = some (some (V.ref a))->i=j
 dj:∀b o,F b=some o->Pr b=none
 fix:∀i a,C.fx i=some a->σ[i]? = some (some (V.ref a))
theorem same_upd{H:Hp}{a:Addr}{o:HO}(h:H a=none):Same H (upd H a o):=λb u e=>by
 rw[upd_ne (ne_of_none e h)];exact e
theorem Rel.new{C:Cfg}{Pr F:Hp}{env:Env}{σ:L2.St}{H:Hp}{a:Addr}{o:HO}(r:Rel C Pr F env σ H)(h:H a=none):Rel C Pr (upd F a o) env σ (upd H a o)/\Same F (upd F a o):=by
 have hF:F a=none:=r.fr.free h;have s1:Same F (upd F a o):=same_upd hF;refine⟨⟨r.pr.trans (same_upd h),λb u e=>?_,r.len,λi d e1=>?_,λi d e1=>?_,r.apart,λb u e=>?_,r.fix⟩,s1⟩
 ·by_cases hb:b=a
  ·subst hb;rw[upd_same] at e ⊢;exact e
  ·rw[upd_ne hb] at e ⊢;exact r.fr b u e
 ·obtain⟨v,h1,h2⟩:=r.val i d e1;exact⟨v,h1,Rep.mono s1 d v h2⟩
 ·obtain⟨b,h1,h2,h3,h4⟩:=r.own i d e1;obtain⟨u,hu⟩:=h2.some;have hb:b≠a:=ne_of_none hu h;exact⟨b,h1,h2.mono s1 (upd_ne hb),by rw[upd_ne hb];exact h3,h4⟩
 ·by_cases hb:b=a
  ·subst hb;exact r.pr.free h
  ·rw[upd_ne hb] at e;exact r.dj b u e
theorem Rel.fresh{C:Cfg}{Pr F:Hp}{env:Env}{σ:L2.St}{H:Hp}{a:Addr}{o:HO}(r:Rel C Pr F env σ H)(h:H a=none):Rel C Pr F env σ (upd H a o):=by refine⟨r.pr.trans (same_upd h),r.fr.trans (same_upd h),r.len,r.val,λi d e1=>?_,r.apart,r.dj,r.fix⟩;obtain⟨b,h1,h2,h3,h4⟩:=r.own i d e1;obtain⟨u,hu⟩:=h2.some;have hb:b≠a:=ne_of_none hu h;exact⟨b,h1,h2.mono (Same.refl F) (upd_ne hb),h3,h4⟩
theorem Rel.aside{C:Cfg}{Pr F:Hp}{env:Env}{σ:L2.St}{H:Hp}{a:Addr}{o:HO}(r:Rel C Pr F env σ H)(h:H a=none):Rel C (upd Pr a o) F env σ (upd H a o):=by
 have r':=r.fresh (o:=o) h;have hF:F a=none:=r.fr.free h;refine⟨λb u e=>?_,r'.fr,r.len,r.val,λi d e1=>?_,r.apart,λb u e=>?_,r.fix⟩
 ·by_cases hb:b=a
  ·subst hb;rw[upd_same] at e ⊢;exact e
  ·rw[upd_ne hb] at e ⊢;exact r.pr b u e
 ·obtain⟨b,h1,h2,h3,h4⟩:=r'.own i d e1;obtain⟨b',h1',h2',_⟩:=r.own i d e1;rw[h1] at h1';cases h1';obtain⟨u,hu⟩:=h2'.some;have hb:b≠a:=ne_of_none hu h;exact⟨b,h1,h2,h3,by rw[upd_ne hb];exact h4⟩
 ·have hb:b≠a:=λz=>by rw[z,hF] at e;cases e
  rw[upd_ne hb];exact r.dj b u e
theorem Rel.turn{C:Cfg}{Pr F:Hp}{env:Env}{σ:L2.St}{H:Hp}{a:Addr}{o u:HO}(r:Rel C Pr F env σ H)(h:Pr a=some o):Rel C (upd Pr a u) F env σ (upd H a u):=by
 have hF:F a=none:=by
  cases e:F a with
  | none=>rfl
  | some w=>have:=r.dj a w e;rw[h] at this;cases this
 refine⟨λb w e=>?_,λb w e=>?_,r.len,r.val,λi d e1=>?_,r.apart,λb w e=>?_,r.fix⟩
 ·by_cases hb:b=a
  ·subst hb;rw[upd_same] at e ⊢;exact e
  ·rw[upd_ne hb] at e ⊢;exact r.pr b w e
 ·have hb:b≠a:=λz=>by rw[z,hF] at e;cases e
  rw[upd_ne hb];exact r.fr b w e
 ·obtain⟨b,h1,h2,h3,h4⟩:=r.own i d e1;have hb:b≠a:=λz=>by rw[z,h] at h4;cases h4
  exact⟨b,h1,h2.mono (Same.refl F) (upd_ne hb),h3,by rw[upd_ne hb];exact h4⟩
 ·have hb:b≠a:=λz=>by rw[z,hF] at e;cases e
  rw[upd_ne hb];exact r.dj b w e
theorem Rel.less{C:Cfg}{Pr Pr' F:Hp}{env:Env}{σ:L2.St}{H:Hp}(r:Rel C Pr F env σ H)(s:Same Pr' Pr):Rel C Pr' F env σ H:=
 ⟨s.trans r.pr,r.fr,r.len,r.val,λi d e=>let ⟨b,h1,h2,h3,h4⟩:=r.own i d e;⟨b,h1,h2,h3,s.free h4⟩,r.apart,λb o e=>s.free (r.dj b o e),r.fix⟩
theorem Rel.freeze{C:Cfg}{Pr F:Hp}{env:Env}{σ:L2.St}{H:Hp}(r:Rel C Pr F env σ H){i:Nat}{d:D}(h:env[i]? = some (some (true,d))) :
  ∃(F':Hp) (v:V),Rel C Pr F' (env.set i (some (false,d))) σ H/\Same F F'/\σ[i]? = some (some v)/\Rep C.K F' d v:=by
 obtain⟨a,h1,h2,h3,h4⟩:=r.own i d h;obtain⟨o,ho⟩:=h2.some;have s1:Same F (upd F a o):=same_upd h3;have hi:i<env.length:=(Qq6.mp h).1;have rep:Rep C.K (upd F a o) d (.ref a):=by
  cases d with
  | lst xs=>obtain⟨z,vs,g1,g2⟩:=h2;rw[ho] at g1;cases g1;exact⟨z,a,vs,rfl,upd_same,Reps.mono s1 _ _ g2⟩
  | dct kvs=>obtain⟨z,ks,g1,g2⟩:=h2;rw[ho] at g1;cases g1;exact⟨z,a,ks,rfl,.inl upd_same,RepKs.mono s1 _ _ g2⟩
  | dcn kvs=>obtain⟨z,ks,g1,g2⟩:=h2;rw[ho] at g1;cases g1;exact⟨z,a,ks,rfl,.inl upd_same,RepNs.mono s1 _ _ g2⟩
  | _=>exact h2.elim
 refine⟨upd F a o,.ref a,⟨r.pr,λb u e=>?_,by rw[Qwy];exact r.len,λj e he=>?_,λj e he=>?_,λj k e f b hj hk g1 g2=>?_,λb u e=>?_,r.fix⟩,s1,h1,rep⟩
 ·by_cases hb:b=a
  ·subst hb;rw[upd_same] at e;cases e;exact ho
  ·rw[upd_ne hb] at e;exact r.fr b u e
 ·by_cases hj:j=i
  ·subst hj;rw[Qq8 hi] at he;cases he;exact⟨_,h1,rep⟩
  ·rw[Qqw (Ne.symm hj)] at he;obtain⟨v,g1,g2⟩:=r.val j e he;exact⟨v,g1,Rep.mono s1 e v g2⟩
 ·by_cases hj:j=i
  ·subst hj;rw[Qq8 hi] at he;cases he
  ·rw[Qqw (Ne.symm hj)] at he;obtain⟨b,g1,g2,g3,g4⟩:=r.own j e he;have hb:b≠a:=λz=>hj (r.apart j i e d a he h (by rw[<-z];exact g1) h1);exact⟨b,g1,g2.mono s1 rfl,by rw[upd_ne hb];exact g3,g4⟩
 ·have nj:j≠i:=λz=>by subst z;rw[Qq8 hi] at hj;cases hj
  have nk:k≠i:=λz=>by subst z;rw[Qq8 hi] at hk;cases hk
  rw[Qqw (Ne.symm nj)] at hj;rw[Qqw (Ne.symm nk)] at hk;exact r.apart j k e f b hj hk g1 g2
 ·by_cases hb:b=a
  ·subst hb;exact h4
  ·rw[upd_ne hb] at e;exact r.dj b u e
def tE(C:Cfg)(ev:Ev):TE:=λσ H Q=>∃(Pr F:Hp) (env env':Env) (d:D),Rel C Pr F env σ H/\ev env = .ok d env'/\
 ∀v H' F',Rel C Pr F' env' σ H'->Same F F'->Rep C.K F' d v->Q v H'
def tRd(C:Cfg)(ev:Ev):TE:=λσ H Q=>∃(Pr F:Hp) (env env':Env) (d:D),Rel C Pr F env σ H/\ev env = .ok d env'/\
 ∀v H' F',Rel C Pr F' env' σ H'->Same F F'->BRep C.K F' H' d v->Q v H'
def tT(C:Cfg)(ev:EvT):TT:=λσ H Q=>∃(Pr F:Hp) (env env':Env) (b:Bool),Rel C Pr F env σ H/\ev env = .ok b env'/\
 ∀H' F',Rel C Pr F' env' σ H'->Same F F'->Q b H'
def tA(C:Cfg)(ev:EvA):TA:=λσ H Q=>∃(Pr F:Hp) (env env':Env) (ds:List D),Rel C Pr F env σ H/\ev env = .ok ds env'/\
 ∀vs H' F',Rel C Pr F' env' σ H'->Same F F'->Reps C.K F' ds vs->Q vs H'
def PX(X:Cx)(C:Cfg)(e:Expr)(ev:Ev):Prop:=PE X e (tE C ev)
def PXB(X:Cx)(C:Cfg)(e:Expr)(ev:Ev):Prop:=PE X e (tRd C ev)
def PXT(X:Cx)(C:Cfg)(e:Expr)(ev:EvT):Prop:=PT X e (tT C ev)
def PXA(X:Cx)(C:Cfg)(es:List Expr)(ev:EvA):Prop:=PA X es (tA C ev)
theorem _root_.L2.PE.imp{X:Cx}{e:Expr}{t t':TE}(h:PE X e t)(i:∀σ H Q,t' σ H Q->t σ H Q):PE X e t':=λpins s σ H Q I q=>h pins s σ H Q I (i σ H Q q)
theorem _root_.L2.PT.imp{X:Cx}{e:Expr}{t t':TT}(h:PT X e t)(i:∀σ H Q,t' σ H Q->t σ H Q):PT X e t':=λpins s σ H Q I q=>h pins s σ H Q I (i σ H Q q)
theorem _root_.L2.PW.imp{X:Cx}{e:Expr}{t t':TT}(h:PW X e t)(i:∀σ H Q,t' σ H Q->t σ H Q):PW X e t':=λwhole pins s σ H Q I q=>h whole pins s σ H Q I (i σ H Q q)
theorem _root_.L2.PA.imp{X:Cx}{e:List Expr}{t t':TA}(h:PA X e t)(i:∀σ H Q,t' σ H Q->t σ H Q):PA X e t':=λpos pins s σ H Q I q=>h pos pins s σ H Q I (i σ H Q q)
theorem _root_.L2.PS.imp{X:Cx}{e:Stmt}{t t':TS}(h:PS X e t)(i:∀D σ H,t' D σ H->t D σ H):PS X e t':=λpins s σ H D I q=>h pins s σ H D I (i D σ H q)
theorem _root_.L2.PSs.imp{X:Cx}{e:List Stmt}{t t':TS}(h:PSs X e t)(i:∀D σ H,t' D σ H->t D σ H):PSs X e t':=λpins s σ H D I q=>h pins s σ H D I (i D σ H q)
def bindR{α β:Type}(x:R α)(f:α->Env->R β):R β:=match x with
 | .ok a env=>f a env
 | .stuck=>.stuck
def liftR{α:Type}(o:Option α)(env:Env):R α:=match o with
 | some a=>.ok a env
 | none=>.stuck
theorem bindR_ok{α β:Type}{x:R α}{f:α->Env->R β}{b:β}{env':Env}(h:bindR x f = .ok b env'):∃a env1,x = .ok a env1/\f a env1 = .ok b env':=by
 cases x with
 | ok a env1=>exact⟨a,env1,rfl,h⟩
 | stuck=>cases h
theorem liftR_ok{α:Type}{o:Option α}{env env':Env}{a:α}(h:liftR o env = .ok a env'):o=some a/\env'=env:=by
 cases o with
 | some b=>cases h;exact⟨rfl,rfl⟩
 | none=>cases h
section
variable{X:Cx}{C:Cfg}{pos:Pos}
def evVar(i:Nat):Ev:=λenv=>match env[i]? with
 | some (some (false,d))=>.ok d env
 | some (some (true,d))=>.ok d (env.set i (some (false,d)))
 | _=>.stuck
theorem px_var(i:Nat){x:Str}(hN:X.N[i]? = some x)(hv:Vis X.env.scope x)(hd:nDb x:=by decide)(hcd:nCd x:=by decide):PX X C (.Name x pos) (evVar i):=by
 refine(pe_var hN hv hd hcd).imp λσ H Q h=>?_;obtain⟨Pr,F,env,env',d,r,e,q⟩:=h;unfold evVar at e;split at e
 ·rename_i d' hd';cases e;obtain⟨v,h1,h2⟩:=r.val i d hd';exact⟨v,h1,q v H F r (Same.refl F) h2⟩
 ·rename_i d' hd';cases e;obtain⟨F',v,r',s',h1,h2⟩:=r.freeze hd';exact⟨v,h1,q v H F' r' s' h2⟩
 ·cases e
theorem PX.b{e:Expr}{ev:Ev}(h:PX X C e ev):PXB X C e ev:=PE.imp h λσ H Q hq=>by
 obtain⟨Pr,F,env,env',d,r,e,q⟩:=hq;exact⟨Pr,F,env,env',d,r,e,λv H' F' r' s' p'=>q v H' F' r' s' (.inl p')⟩
def evRd(i:Nat):Ev:=λenv=>match env[i]? with
 | some (some (_,d))=>.ok d env
 | _=>.stuck
theorem Rel.rd{Pr F:Hp}{env:Env}{σ:L2.St}{H:Hp}(r:Rel C Pr F env σ H){i:Nat}{o:Bool}{d:D}(h:env[i]? = some (some (o,d))):∃v,σ[i]? = some (some v)/\BRep C.K F H d v:=by
 cases o with
 | true=>obtain⟨a,h1,h2,_⟩:=r.own i d h;exact⟨_,h1,.inr ⟨a,rfl,h2⟩⟩
 | false=>obtain⟨v,h1,h2⟩:=r.val i d h;exact⟨v,h1,.inl h2⟩
theorem pxb_var(i:Nat){x:Str}(hN:X.N[i]? = some x)(hv:Vis X.env.scope x)(hd:nDb x:=by decide)(hcd:nCd x:=by decide):PXB X C (.Name x pos) (evRd i):=by
 refine(pe_var hN hv hd hcd).imp λσ H Q h=>?_;obtain⟨Pr,F,env,env',d,r,e,q⟩:=h;unfold evRd at e;split at e
 ·rename_i o' d' hd';cases e;obtain⟨v,h1,h2⟩:=r.rd hd';exact⟨v,h1,q v H F r (Same.refl F) h2⟩
 ·cases e
def evC(d:D):Ev:=λenv=>.ok d env
theorem px_int{i:Int}{j:Nat}:PX X C (.Constant (.int i) j pos) (evC (.int i)):=pe_int.imp λσ H Q h=>by
 obtain⟨Pr,F,env,env',d,r,e,q⟩:=h;cases e;exact q _ _ F r (Same.refl F) rfl
theorem px_bl{b:Bool}{j:Nat}:PX X C (.Constant (.bool b) j pos) (evC (.bl b)):=pe_bl.imp λσ H Q h=>by
 obtain⟨Pr,F,env,env',d,r,e,q⟩:=h;cases e;exact q _ _ F r (Same.refl F) rfl
theorem px_non{j:Nat}:PX X C (.Constant .none j pos) (evC .non):=pe_non.imp λσ H Q h=>by
 obtain⟨Pr,F,env,env',d,r,e,q⟩:=h;cases e;exact q _ _ F r (Same.refl F) rfl
def evNil:EvA:=λenv=>.ok [] env
def evCons(a:Ev)(r:EvA):EvA:=λenv=>bindR (a env) λd env1=>bindR (r env1) λds env2=>.ok (d::ds) env2
theorem pxa_nil:PXA X C [] evNil:=pa_nil.imp λσ H Q h=>by
 obtain⟨Pr,F,env,env',d,r,e,q⟩:=h;cases e;exact q _ _ F r (Same.refl F) rfl
theorem pxa_cons{e:Expr}{es:List Expr}{a:Ev}{r:EvA}(ha:PX X C e a)(hr:PXA X C es r)(hs:starEach (e::es) X.env=(false,eval e X.env)::starEach es X.env:=by rfl):PXA X C (e::es) (evCons a r):=
 (pa_cons ha hr hs).imp λσ H Q h=>by
  obtain⟨Pr,F,env,env',ds,rl,e,q⟩:=h;obtain⟨d1,env1,e1,e2⟩:=bindR_ok e;obtain⟨ds2,env2,e3,e4⟩:=bindR_ok e2;cases e4;refine⟨Pr,F,env,env1,d1,rl,e1,λv H1 F1 r1 s1 p1=>?_⟩;refine⟨Pr,F1,env1,env',ds2,r1,e3,λvs H2 F2 r2 s2 p2=>?_⟩;exact q _ H2 F2 r2 (s1.trans s2) ⟨v,vs,rfl,Rep.mono s2 d1 v p1,p2⟩
def evTup(r:EvA):Ev:=λenv=>bindR (r env) λds env1=>if ds.length<=sizeLine then .ok (.tup ds) env1 else .stuck
def evLst(r:EvA):Ev:=λenv=>bindR (r env) λds env1=>if ds.length<=sizeLine then .ok (.lst ds) env1 else .stuck
def evBin(g:D->D->Option D)(a b:Ev):Ev:=λenv=>bindR (a env) λx env1=>bindR (b env1) λy env2=>liftR (g x y) env2
def evUn(g:D->Option D)(a:Ev):Ev:=λenv=>bindR (a env) λx env1=>liftR (g x) env1
def OpD(C:Cfg)(r:R2)(g:D->D->Option D):Prop:=∀(Pr F:Hp) (env:Env) (σ:L2.St) (H:Hp) (x y d:D) (vx vy:V) (Q:VK),Rel C Pr F env σ H->BRep C.K F H x vx->BRep C.K F H y vy->g x y=some d->
 (∀v H' F',Rel C Pr F' env σ H'->Same F F'->Rep C.K F' d v->Q v H')->r vx vy H Q
theorem bin_go{r:R2}{g:D->D->Option D}{a b:Ev}(o:OpD C r g)(σ:L2.St)(H:Hp)(Q:VK)(h:tE C (evBin g a b) σ H Q):tOp r (tE C a) (tRd C b) σ H Q:=by obtain⟨Pr,F,env,env',d,rl,e,q⟩:=h;obtain⟨x,env1,e1,e2⟩:=bindR_ok e;obtain⟨y,env2,e3,e4⟩:=bindR_ok e2;obtain⟨e5,rfl⟩:=liftR_ok e4;refine⟨Pr,F,env,env1,x,rl,e1,λvx H1 F1 r1 s1 p1=>⟨Pr,F1,env1,env',y,r1,e3,λvy H2 F2 r2 s2 p2=>?_⟩⟩;exact o Pr F2 env' σ H2 x y d vx vy Q r2 (.inl (Rep.mono s2 x vx p1)) p2 e5 λv H3 F3 r3 s3 p3=>q v H3 F3 r3 ((s1.trans s2).trans s3) p3
def evBinO(g:D->D->Option D)(i:Nat)(b:Ev):Ev:=λenv=>match env[i]? with
 | some (some (_,_))=>bindR (b env) λy env2=>(match env2[i]? with
  | some (some (_,x))=>liftR (g x y) env2
  | _=>.stuck)
 | _=>.stuck
theorem binO_go{r:R2}{g:D->D->Option D}{i:Nat}{b:Ev}(o:OpD C r g)(σ:L2.St)(H:Hp)(Q:VK)(h:tE C (evBinO g i b) σ H Q):tOp r (tVar i) (tRd C b) σ H Q:=by
 obtain⟨Pr,F,env,env',d,rl,e,q⟩:=h;unfold evBinO at e;split at e
 ·rename_i o0 d0 h0;obtain⟨v,hv,_⟩:=rl.rd h0;obtain⟨y,env2,e1,e2⟩:=bindR_ok e;split at e2
  ·rename_i o2 x h2;obtain⟨e5,rfl⟩:=liftR_ok e2;refine⟨v,hv,Pr,F,env,env',y,rl,e1,λvy H2 F2 r2 s2 p2=>?_⟩;obtain⟨v',hv',p⟩:=r2.rd h2;rw[hv] at hv';cases hv';exact o Pr F2 env' σ H2 x y d v vy Q r2 p p2 e5 λv H3 F3 r3 s3 p3=>q v H3 F3 r3 (s2.trans s3) p3
  ·cases e2
 ·cases e
theorem px_op{op:Operator}{r:R2}{g:D->D->Option D}{x y:Expr}{a b:Ev}(ho:OpR X (binaryOp op) r)(o:OpD C r g)(ha:PX X C x a)(hb:PXB X C y b):PX X C (.BinOp x op y pos) (evBin g a b):=
 (pe_op ho ha hb).imp (bin_go o)
theorem px_opO{op:Operator}{r:R2}{g:D->D->Option D}{y:Expr}{b:Ev}{px:Pos}(i:Nat){x:Str}(hN:X.N[i]? = some x)(hv:Vis X.env.scope x)(ho:OpR X (binaryOp op) r)(o:OpD C r g)(hb:PXB X C y b)
  (hd:nDb x:=by decide) (hcd:nCd x:=by decide):PX X C (.BinOp (.Name x px) op y pos) (evBinO g i b):=
 (pe_op ho (pe_var hN hv hd hcd) hb).imp (binO_go o)
theorem px_cmp{op:CmpOp}{r:R2}{g:D->D->Option D}{x y:Expr}{a b:Ev}(ho:OpR X (compareOp op) r)(o:OpD C r g)(ha:PX X C x a)(hb:PXB X C y b)(hm:behindInMarks op y=false):PX X C (.Compare x [op] [y] pos) (evBin g a b):=
 (pe_cmpR ho ha hb hm).imp (bin_go o)
def evB(a:Ev):EvT:=λenv=>bindR (a env) λd env1=>match d with
 | .bl b=>.ok b env1
 | _=>.stuck
theorem tB_go{a:Ev}{σ:L2.St}{H:Hp}{Q:Bool->Hp->Prop}(h:tT C (evB a) σ H Q):tE C a σ H λx H'=>∃k,x = .bl k/\Q k H':=by
 obtain⟨Pr,F,env,env',b,rl,e,q⟩:=h;obtain⟨d,env1,e1,e2⟩:=bindR_ok e;refine⟨Pr,F,env,env1,d,rl,e1,λv H1 F1 r1 s1 p1=>?_⟩;cases d with
 | bl c=>cases e2;exact⟨_,p1,q H1 F1 r1 s1⟩
 | _=>cases e2
theorem pxt_cmp{op:CmpOp}{r:R2}{g:D->D->Option D}{x y:Expr}{a b:Ev}(ho:OpR X (compareOp op) r)(o:OpD C r g)(ha:PX X C x a)(hb:PXB X C y b)(hm:behindInMarks op y=false):PXT X C (.Compare x [op] [y] pos) (evB (evBin g a b)):=
 (pt_cmpR ho ha hb hm).imp λσ H Q h=>by
  have h1:=tB_go h;exact bin_go o σ H _ h1
def evNotT(a:EvT):EvT:=λenv=>bindR (a env) λb env1=>.ok (!b) env1
def evOrT(a b:EvT):EvT:=λenv=>bindR (a env) λc env1=>if c=true then .ok true env1 else b env1
def PXW(X:Cx)(C:Cfg)(e:Expr)(ev:EvT):Prop:=PW X e (tT C ev)
theorem PXW.pt{e:Expr}{a:EvT}(h:PXW X C e a):PXT X C e a:=PW.pt h
def evAnd(a b:Ev):Ev:=λenv=>bindR (a env) λc env1=>match c with
 | .bl true=>b env1
 | .bl false=>.ok (.bl false) env1
 | _=>.stuck
def evNot(a:Ev):Ev:=λenv=>bindR (a env) λc env1=>match c with
 | .bl b=>.ok (.bl (!b)) env1
 | _=>.stuck
end
def eqL(f:D->D->Option Bool):List D->List D->Option Bool
 | [],[]=>some true
 | x::xs,y::ys=>match f x y,eqL f xs ys with
  | some a,some b=>some (a&&b)
  | _,_=>none
 | [],_::_=>some false
 | _::_,[]=>some false
def eqN:Nat->D->D->Option Bool
 | 0,_,_=>none
 | n+1,.tup xs,.tup ys=>eqL (eqN n) xs ys
 | n+1,.lst xs,.lst ys=>eqL (eqN n) xs ys
 | _+1,.dct _,_=>none
 | _+1,.dcn _,_=>none
 | _+1,.clo _ _,_=>none
 | _+1,_,.dct _=>none
 | _+1,_,.dcn _=>none
 | _+1,_,.clo _ _=>none
 | _+1,.arr _,_=>none
 | _+1,_,.arr _=>none
 | _+1,.non,.non=>some true
 | _+1,.bl a,.bl b=>some (a == b)
 | _+1,.bl a,.int b=>some ((if a then 1 else 0) == b)
 | _+1,.int a,.bl b=>some (a == (if b then 1 else 0))
 | _+1,.int a,.int b=>some (a == b)
 | _+1,.str a,.str b=>some (a == b)
 | _+1,_,_=>some false
mutual
def Sh(h:Heap):D->Value->Prop
 | .non,u=>u = .none
 | .bl b,u=>u = .bool b
 | .int i,u=>∃t,u = .int i t
 | .str x,u=>∃t,u = .str (strOf x) t
 | .tup xs,u=>∃a its,u = .ref a/\IsTup h a its.toArray/\Shs h xs its
 | .lst xs,u=>∃a its,u = .ref a/\PlainL h a its.toArray/\Shs h xs its
 | .arr xs,u=>∃a its,u = .ref a/\PlainL h a its.toArray/\Shs h xs its
 | .dct _,u=>∃a o,u = .ref a/\h.get? a=some o/\o.ExactDict
 | .dcn _,u=>∃a o,u = .ref a/\h.get? a=some o/\o.ExactDict
 | .clo _ _,u=>∃a,u = .ref a
def Shs(h:Heap):List D->List Value->Prop
 | [],us=>us=[]
 | d::ds,us=>∃u r,us=u::r/\Sh h d u/\Shs h ds r
end
theorem Shs.length{h:Heap}:∀{ds:List D} {us:List Value},Shs h ds us->us.length=ds.length
 | [],_,e=>by cases e;rfl
 | d::ds,us,e=>by obtain⟨u,r,rfl,_,h2⟩:=e;rw[Qqk,Qqk,h2.length]
section
variable{X:Cx}{pins:List (Addr×Obj)}{σ:L2.St}{H:Hp}{s:Shared}
mutual
theorem Rep.sh(I:Inv X pins σ H s):∀(d:D) (v:V) (u:Value),Rep X.K H d v->RelV v u->Sh s.heap d u
 | .non,_,_,h,r=>by cases h;exact r
 | .bl _,_,_,h,r=>by cases h;exact r
 | .int _,_,_,h,r=>by cases h;exact r
 | .str _,_,_,h,r=>by obtain⟨h,_⟩:=h;cases h;exact r
 | .tup xs,v,u,h,r=>by
  obtain⟨z,a,vs,rfl,h1,h2⟩:=h;cases r;obtain⟨its,rv,p,_⟩:=I.tuple h1;exact⟨a,its,rfl,p,Reps.sh I xs vs its h2 rv⟩
 | .lst xs,v,u,h,r=>by
  obtain⟨z,a,vs,rfl,h1,h2⟩:=h;cases r;obtain⟨its,rv,p,_⟩:=I.list (SqL.of h1);exact⟨a,its,rfl,p,Reps.sh I xs vs its h2 rv⟩
 | .arr xs,v,u,h,r=>by
  obtain⟨z,a,vs,rfl,h1,h2⟩:=h;cases r;obtain⟨its,rv,p,_⟩:=I.list h1;exact⟨a,its,rfl,p,Reps.sh I xs vs its h2 rv⟩
 | .dct kvs,v,u,h,r=>by
  obtain⟨z,a,ks,rfl,h1,h2⟩:=h;cases r;obtain⟨_,_,vs,_,o,_,_,e,ex,_⟩:=h1.ok I.hok;exact⟨a,o,rfl,e,ex⟩
 | .dcn kvs,v,u,h,r=>by
  obtain⟨z,a,ks,rfl,h1,h2⟩:=h;cases r;obtain⟨_,_,vs,_,o,_,_,e,ex,_⟩:=h1.ok I.hok;exact⟨a,o,rfl,e,ex⟩
 | .clo st ds,v,u,h,r=>by
  obtain⟨a,vs,rfl,h1,h2⟩:=h;cases r;exact⟨a,rfl⟩
theorem Reps.sh(I:Inv X pins σ H s):∀(ds:List D) (vs:List V) (us:List Value),Reps X.K H ds vs->Vals vs us->Shs s.heap ds us
 | [],_,_,h,r=>by cases h;cases r;exact rfl
 | d::ds,vs,us,h,r=>by
  obtain⟨v,rr,rfl,h1,h2⟩:=h;cases r with
  | cons q qs=>exact⟨_,_,rfl,Rep.sh I d v _ h1 q,Reps.sh I ds rr _ h2 qs⟩
end
end
theorem tup_inj{h:Heap}{a:Addr}{xs ys:Array Value}(p:IsTup h a xs)(q:IsTup h a ys):xs=ys:=by obtain⟨o,e,_,n,d⟩:=p;obtain⟨o',e',_,n',d'⟩:=q;rw[e] at e';cases e';rw[d] at d';cases d';rfl
theorem lst_inj{h:Heap}{a:Addr}{xs ys:Array Value}(p:PlainL h a xs)(q:PlainL h a ys):xs=ys:=by obtain⟨o,e,_,n,d⟩:=p.isList;obtain⟨o',e',_,n',d'⟩:=q.isList;rw[e] at e';cases e';rw[d] at d';cases d';rfl
theorem tup_lst{h:Heap}{a:Addr}{xs ys:Array Value}(p:IsTup h a xs)(q:PlainL h a ys):False:=by obtain⟨o,e,c,n,d⟩:=p;obtain⟨o',e',c',n',d'⟩:=q.isList;rw[e] at e';cases e';rw[c] at c';simp at c'
theorem eqN_same{h:Heap}:∀(n:Nat) (d e:D) (u:Value) (b:Bool),Sh h d u->Sh h e u->eqN n d e=some b->b=true
 | 0,_,_,_,_,_,_,hb=>by simp[eqN] at hb
 | n+1,d,e,u,b,hd,he,hb=>by
  have all:∀(xs ys:List D) (us:List Value) (b:Bool),Shs h xs us->Shs h ys us->eqL (eqN n) xs ys=some b->b=true:=by
   intro xs
   induction xs with
   | nil=>
    intro ys us b h1 h2 hb;cases h1;cases ys with
    | nil=>simp[eqL] at hb;exact hb
    | cons y ys=>obtain⟨u,r,q,_⟩:=h2;cases q
   | cons x xs ih=>
    intro ys us b h1 h2 hb;obtain⟨u,r,rfl,h3,h4⟩:=h1;cases ys with
    | nil=>cases h2
    | cons y ys=>
     obtain⟨u',r',q,h5,h6⟩:=h2;cases q;unfold eqL at hb;cases q1:eqN n x y with
     | none=>rw[q1] at hb;simp at hb
     | some c=>
      cases q2:eqL (eqN n) xs ys with
      | none=>rw[q1,q2] at hb;simp at hb
      | some c'=>
       rw[q1,q2] at hb;have e1:=eqN_same n x y u c h3 h5 q1;have e2:=ih ys r c' h4 h6 q2;subst e1 e2;simp at hb;exact hb
  cases d with
  | non=>cases hd;cases e<;>simp[Sh] at he;simp[eqN] at hb;exact hb
  | bl c=>cases hd;cases e<;>simp[Sh] at he;subst he;simp[eqN] at hb;exact hb
  | int i=>obtain⟨t,rfl⟩:=hd;cases e<;>simp[Sh] at he;subst he;simp[eqN] at hb;exact hb
  | str x=>
   obtain⟨t,rfl⟩:=hd;cases e with
   | str y=>
    obtain⟨t',q⟩:=he;injection q with q1 _
    unfold strOf at q1;injection q1 with q2
    have q3:=Qkz Array.toList q2;simp at q3;subst q3;simp[eqN] at hb;exact hb
   | _=>simp[Sh] at he
  | tup xs=>
   obtain⟨a,its,rfl,p,hs⟩:=hd;cases e with
   | tup ys=>
    obtain⟨a',its',q,p',hs'⟩:=he;cases q;have e2:its=its':=by simpa using tup_inj p p'
    subst e2;exact all xs ys its b hs hs' (by simpa only[eqN] using hb)
   | lst ys=>
    obtain⟨a',its',q,p',hs'⟩:=he;cases q;exact(tup_lst p p').elim
   | dct kvs=>simp[eqN] at hb
   | dcn kvs=>simp[eqN] at hb
   | clo _ _=>simp[eqN] at hb
   | arr kvs=>simp[eqN] at hb
   | _=>simp[Sh] at he
  | lst xs=>
   obtain⟨a,its,rfl,p,hs⟩:=hd;cases e with
   | lst ys=>
    obtain⟨a',its',q,p',hs'⟩:=he;cases q;have e2:its=its':=by simpa using lst_inj p p'
    subst e2;exact all xs ys its b hs hs' (by simpa only[eqN] using hb)
   | tup ys=>
    obtain⟨a',its',q,p',hs'⟩:=he;cases q;exact(tup_lst p' p).elim
   | dct kvs=>simp[eqN] at hb
   | dcn kvs=>simp[eqN] at hb
   | clo _ _=>simp[eqN] at hb
   | arr kvs=>simp[eqN] at hb
   | _=>simp[Sh] at he
  | dct kvs=>cases e<;>simp[eqN] at hb
  | dcn kvs=>cases e<;>simp[eqN] at hb
  | clo _ _=>cases e<;>simp[eqN] at hb
  | arr kvs=>cases e<;>simp[eqN] at hb
theorem eqN_det{h:Heap}:∀(n:Nat) (d d' e:D) (u:Value) (b b':Bool),Sh h d u->Sh h d' u->eqN n d e=some b->eqN n d' e=some b'->b=b'
 | 0,_,_,_,_,_,_,_,_,hb,_=>by simp[eqN] at hb
 | n+1,d,d',e,u,b,b',hd,hd',hb,hb'=>by
  have all:∀(xs xs' ys:List D) (us:List Value) (b b':Bool),Shs h xs us->Shs h xs' us->eqL (eqN n) xs ys=some b->eqL (eqN n) xs' ys=some b'->b=b':=by
   intro xs
   induction xs with
   | nil=>
    intro xs' ys us b b' h1 h2 hb hb';cases h1;cases xs' with
    | nil=>rw[hb] at hb';exact Qxq hb'
    | cons y ys=>obtain⟨u,r,q,_⟩:=h2;cases q
   | cons x xs ih=>
    intro xs' ys us b b' h1 h2 hb hb';obtain⟨u,r,rfl,h3,h4⟩:=h1;cases xs' with
    | nil=>cases h2
    | cons x' xs'=>
     obtain⟨u',r',q,h5,h6⟩:=h2;cases q;cases ys with
     | nil=>simp[eqL] at hb hb';rw[hb,hb']
     | cons y ys=>
      unfold eqL at hb hb';cases q1:eqN n x y with
      | none=>rw[q1] at hb;simp at hb
      | some c=>
       cases q2:eqL (eqN n) xs ys with
       | none=>rw[q1,q2] at hb;simp at hb
       | some c2=>
        cases q3:eqN n x' y with
        | none=>rw[q3] at hb';simp at hb'
        | some c3=>
         cases q4:eqL (eqN n) xs' ys with
         | none=>rw[q3,q4] at hb';simp at hb'
         | some c4=>
          rw[q1,q2] at hb;rw[q3,q4] at hb';have e1:=eqN_det n x x' y u c c3 h3 h5 q1 q3;have e2:=ih xs' ys r c2 c4 h4 h6 q2 q4;subst e1 e2;simp at hb hb';rw[<-hb,<-hb']
  cases d with
  | non=>cases hd;cases d'<;>simp[Sh] at hd';rw[hb] at hb';exact Qxq hb'
  | bl c=>cases hd;cases d'<;>simp[Sh] at hd';subst hd';rw[hb] at hb';exact Qxq hb'
  | int i=>obtain⟨t,rfl⟩:=hd;cases d'<;>simp[Sh] at hd';subst hd';rw[hb] at hb';exact Qxq hb'
  | str x=>
   obtain⟨t,rfl⟩:=hd;cases d' with
   | str y=>
    obtain⟨t',q⟩:=hd';injection q with q1 _
    unfold strOf at q1;injection q1 with q2
    have q3:=Qkz Array.toList q2;simp at q3;subst q3;rw[hb] at hb';exact Qxq hb'
   | _=>simp[Sh] at hd'
  | tup xs=>
   obtain⟨a,its,rfl,p,hs⟩:=hd;cases d' with
   | tup xs'=>
    obtain⟨a',its',q,p',hs'⟩:=hd';cases q;have e2:its=its':=by simpa using tup_inj p p'
    subst e2;cases e with
    | tup ys=>exact all xs xs' ys its b b' hs hs' (by simpa only[eqN] using hb) (by simpa only[eqN] using hb')
    | _=>first|(simp[eqN] at hb;done)|(simp only[eqN,Qww] at hb hb';rw[<-hb,<-hb'])
   | lst ys=>
    obtain⟨a',its',q,p',hs'⟩:=hd';cases q;exact(tup_lst p p').elim
   | dct kvs=>cases e<;>simp[eqN] at hb'
   | dcn kvs=>cases e<;>simp[eqN] at hb'
   | clo _ _=>cases e<;>simp[eqN] at hb'
   | arr kvs=>cases e<;>simp[eqN] at hb'
   | _=>simp[Sh] at hd'
  | lst xs=>
   obtain⟨a,its,rfl,p,hs⟩:=hd;cases d' with
   | lst xs'=>
    obtain⟨a',its',q,p',hs'⟩:=hd';cases q;have e2:its=its':=by simpa using lst_inj p p'
    subst e2;cases e with
    | lst ys=>exact all xs xs' ys its b b' hs hs' (by simpa only[eqN] using hb) (by simpa only[eqN] using hb')
    | _=>first|(simp[eqN] at hb;done)|(simp only[eqN,Qww] at hb hb';rw[<-hb,<-hb'])
   | tup ys=>
    obtain⟨a',its',q,p',hs'⟩:=hd';cases q;exact(tup_lst p' p).elim
   | dct kvs=>cases e<;>simp[eqN] at hb'
   | dcn kvs=>cases e<;>simp[eqN] at hb'
   | clo _ _=>cases e<;>simp[eqN] at hb'
   | arr kvs=>cases e<;>simp[eqN] at hb'
   | _=>simp[Sh] at hd'
  | dct kvs=>cases e<;>simp[eqN] at hb
  | dcn kvs=>cases e<;>simp[eqN] at hb
  | clo _ _=>cases e<;>simp[eqN] at hb
  | arr kvs=>cases e<;>simp[eqN] at hb
theorem strOf_beq(x y:List Nat):(strOf x == strOf y)=(x == y):=by
 rw[Qjx];simp only[beq_iff_eq];constructor
 ·intro e;unfold strOf at e;injection e with e
  simpa using Qkz Array.toList e
 ·intro e;rw[e]
theorem eqL_len:∀{f:D->D->Option Bool} {xs ys:List D},xs.length≠ys.length->∀b,eqL f xs ys=some b->b=false
 | f,[],[],h,b,e=>absurd rfl h
 | f,[],_::_,_,b,e=>by simp[eqL] at e;exact e
 | f,_::_,[],_,b,e=>by simp[eqL] at e;exact e
 | f,x::xs,y::ys,h,b,e=>by
  unfold eqL at e;cases h1:f x y with
  | none=>rw[h1] at e;simp at e
  | some c=>
   cases h2:eqL f xs ys with
   | none=>rw[h1,h2] at e;simp at e
   | some d=>
    rw[h1,h2] at e;have:=eqL_len (f:=f) (xs:=xs) (ys:=ys) (by simpa using h) d h2;subst this;simp at e;exact e
theorem eqL_at:∀{f:D->D->Option Bool} (xs ys:List D) (b:Bool),eqL f xs ys=some b->∃e:Nat->Bool,(∀(j:Nat) (x y:D),xs[j]? = some x->ys[j]? = some y->f x y=some (e j))/\b=((List.range (min xs.length ys.length)).all e&&xs.length == ys.length)
 | f,[],ys,b,h=>by
  refine⟨λ_=>true,λj x y hx=>by simp at hx,?_⟩;cases ys with
  | nil=>simp[eqL] at h;simp[h.symm]
  | cons y ys=>simp[eqL] at h;simp[h.symm]
 | f,x::xs,[],b,h=>by
  refine⟨λ_=>true,λj x y _ hy=>by simp at hy,?_⟩;simp[eqL] at h;simp[h.symm]
 | f,x::xs,y::ys,b,h=>by
  unfold eqL at h;cases h1:f x y with
  | none=>rw[h1] at h;simp at h
  | some c=>
   cases h2:eqL f xs ys with
   | none=>rw[h1,h2] at h;simp at h
   | some d=>
    rw[h1,h2] at h;obtain⟨e,he,hd⟩:=eqL_at xs ys d h2;refine⟨λj=>match j with|0=>c|j+1=>e j,λj x' y' hx hy=>?_,?_⟩
    ·cases j with
     | zero=>simp at hx hy;subst hx hy;exact h1
     | succ j=>exact he j x' y' (by simpa using hx) (by simpa using hy)
    ·have hb:b=(c&&d):=by simpa using h.symm
     have hm:min (x::xs).length (y::ys).length=min xs.length ys.length+1:=by simp only[Qqk];omega
     rw[hb,hd,hm,List.range_succ_eq_map,List.all_cons,List.all_map,Bool.and_assoc];have hl:((x::xs).length == (y::ys).length)=(xs.length == ys.length):=by simp
     rw[hl]
     rfl
theorem shs_get{h:Heap}:∀{ds:List D} {us:List Value} {j:Nat} {u:Value},Shs h ds us->us[j]? = some u->∃d,ds[j]? = some d/\Sh h d u
 | [],_,_,_,e,g=>by cases e;simp at g
 | d::ds,us,j,u,e,g=>by
  obtain⟨v,r,rfl,h1,h2⟩:=e;cases j with
  | zero=>simp at g;subst g;exact⟨d,rfl,h1⟩
  | succ j=>obtain⟨c,e1,e2⟩:=shs_get h2 (j:=j) (by simpa using g);exact⟨c,by simpa using e1,e2⟩
theorem eqN_at:∀(n:Nat) (d e:D) (u v:Value) (b:Bool) (A:Around) (s:Shared),Sh s.heap d u->Sh s.heap e v->eqN n d e=some b->A.units+n<cLine->SeqAt.EqAt A s u v b
 | 0,_,_,_,_,_,_,_,_,_,h,_=>by simp[eqN] at h
 | n+1,d,e,u,v,b,A,s,hd,he,h,hu=>by
  have hu0:A.units<cLine:=by omega
  have hin:A.in1.units+n<cLine:=by show A.units+1+n<cLine;omega
  cases d with
  | non=>
   cases hd;cases e with
   | non=>cases he;simp[eqN] at h;subst h;exact SeqAt.EqAt.same _
   | bl c=>cases he;simp[eqN] at h;subst h;exact SeqAt.EqAt.none_bool c
   | int i=>obtain⟨t,rfl⟩:=he;simp[eqN] at h;subst h;exact SeqAt.EqAt.none_int i t
   | str x=>obtain⟨t,rfl⟩:=he;simp[eqN] at h;subst h;exact SeqAt.EqAt.none_str _ t
   | tup ys=>obtain⟨a,its,rfl,p,_⟩:=he;simp[eqN] at h;subst h;exact SeqAt.EqAt.none_tuple p hu0
   | lst ys=>obtain⟨a,its,rfl,p,_⟩:=he;simp[eqN] at h;subst h;exact SeqAt.EqAt.none_list p.isList hu0
   | dct kvs=>simp[eqN] at h
   | dcn kvs=>simp[eqN] at h
   | clo _ _=>simp[eqN] at h
   | arr kvs=>simp[eqN] at h
  | bl c=>
   cases hd;cases e with
   | non=>cases he;simp[eqN] at h;subst h;exact SeqAt.EqAt.bool_none c
   | bl c'=>cases he;simp only[eqN,Qww] at h;subst h;exact SeqAt.EqAt.bool_bool c c'
   | int i=>obtain⟨t,rfl⟩:=he;simp only[eqN,Qww] at h;subst h;exact SeqAt.EqAt.bool_int c i t
   | str x=>obtain⟨t,rfl⟩:=he;simp[eqN] at h;subst h;exact SeqAt.EqAt.bool_str c _ t
   | tup ys=>obtain⟨a,its,rfl,p,_⟩:=he;simp[eqN] at h;subst h;exact SeqAt.EqAt.bool_tuple c p hu0
   | lst ys=>obtain⟨a,its,rfl,p,_⟩:=he;simp[eqN] at h;subst h;exact SeqAt.EqAt.bool_list c p.isList hu0
   | dct kvs=>simp[eqN] at h
   | dcn kvs=>simp[eqN] at h
   | clo _ _=>simp[eqN] at h
   | arr kvs=>simp[eqN] at h
  | int i=>
   obtain⟨t',rfl⟩:=hd;cases e with
   | non=>cases he;simp[eqN] at h;subst h;exact SeqAt.EqAt.int_none i t'
   | bl c'=>cases he;simp only[eqN,Qww] at h;subst h;exact SeqAt.EqAt.int_bool i t' c'
   | int j=>obtain⟨t,rfl⟩:=he;simp only[eqN,Qww] at h;subst h;exact SeqAt.EqAt.int_int i t' j t
   | str x=>obtain⟨t,rfl⟩:=he;simp[eqN] at h;subst h;exact SeqAt.EqAt.int_str i t' _ t
   | tup ys=>obtain⟨a,its,rfl,p,_⟩:=he;simp[eqN] at h;subst h;exact SeqAt.EqAt.int_tuple i t' p hu0
   | lst ys=>obtain⟨a,its,rfl,p,_⟩:=he;simp[eqN] at h;subst h;exact SeqAt.EqAt.int_list i t' p.isList hu0
   | dct kvs=>simp[eqN] at h
   | dcn kvs=>simp[eqN] at h
   | clo _ _=>simp[eqN] at h
   | arr kvs=>simp[eqN] at h
  | str x=>
   obtain⟨t',rfl⟩:=hd;cases e with
   | non=>cases he;simp[eqN] at h;subst h;exact SeqAt.EqAt.str_none _ t'
   | bl c'=>cases he;simp[eqN] at h;subst h;exact SeqAt.EqAt.str_bool _ t' c'
   | int j=>obtain⟨t,rfl⟩:=he;simp[eqN] at h;subst h;exact SeqAt.EqAt.str_int _ t' j t
   | str y=>obtain⟨t,rfl⟩:=he;simp only[eqN,Qww] at h;subst h;rw[<-strOf_beq];exact SeqAt.EqAt.str_str _ t' _ t
   | tup ys=>obtain⟨a,its,rfl,p,_⟩:=he;simp[eqN] at h;subst h;exact SeqAt.EqAt.str_tuple _ t' p hu0
   | lst ys=>obtain⟨a,its,rfl,p,_⟩:=he;simp[eqN] at h;subst h;exact SeqAt.EqAt.str_list _ t' p.isList hu0
   | dct kvs=>simp[eqN] at h
   | dcn kvs=>simp[eqN] at h
   | clo _ _=>simp[eqN] at h
   | arr kvs=>simp[eqN] at h
  | tup xs=>
   obtain⟨a,its,rfl,p,hs⟩:=hd;cases e with
   | non=>cases he;simp[eqN] at h;subst h;exact SeqAt.EqAt.tuple_none p hu0
   | bl c'=>cases he;simp[eqN] at h;subst h;exact SeqAt.EqAt.tuple_bool c' p hu0
   | int j=>obtain⟨t,rfl⟩:=he;simp[eqN] at h;subst h;exact SeqAt.EqAt.tuple_int j t p hu0
   | str y=>obtain⟨t,rfl⟩:=he;simp[eqN] at h;subst h;exact SeqAt.EqAt.tuple_str _ t p hu0
   | tup ys=>
    obtain⟨a',its',rfl,p',hs'⟩:=he;by_cases haa:a=a'
    ·subst haa;have:=eqN_same (n+1) (.tup xs) (.tup ys) (.ref a) b ⟨a,its,rfl,p,hs⟩ ⟨a,its',rfl,p',hs'⟩ h;subst this;exact SeqAt.EqAt.same _
    ·simp only[eqN] at h;obtain⟨f,hf,hb⟩:=eqL_at xs ys b h;have l1:=hs.length;have l2:=hs'.length;refine SeqAt.EqAt.of_refs haa ?_;have:=SeqAt.RcAt.tuples (e:=f) p p' hu0 λj h1 h2=>?_
     ·rw[hb];simp only[Qq1] at this;rw[l1,l2] at this;exact this
     ·have g1:its[j]? = some its.toArray[j]:=by simp at h1 ⊢
      have g2:its'[j]? = some its'.toArray[j]:=by simp at h2 ⊢
      obtain⟨x,q1,q2⟩:=shs_get hs g1;obtain⟨y,q3,q4⟩:=shs_get hs' g2;exact eqN_at n x y _ _ _ A.in1 s q2 q4 (hf j x y q1 q3) hin
   | lst ys=>obtain⟨a',its',rfl,p',_⟩:=he;simp[eqN] at h;subst h;exact SeqAt.EqAt.tuple_list p p'.isList hu0
   | dct kvs=>simp[eqN] at h
   | dcn kvs=>simp[eqN] at h
   | clo _ _=>simp[eqN] at h
   | arr kvs=>simp[eqN] at h
  | lst xs=>
   obtain⟨a,its,rfl,p,hs⟩:=hd;cases e with
   | non=>cases he;simp[eqN] at h;subst h;exact SeqAt.EqAt.list_none p.isList hu0
   | bl c'=>cases he;simp[eqN] at h;subst h;exact SeqAt.EqAt.list_bool c' p.isList hu0
   | int j=>obtain⟨t,rfl⟩:=he;simp[eqN] at h;subst h;exact SeqAt.EqAt.list_int j t p.isList hu0
   | str y=>obtain⟨t,rfl⟩:=he;simp[eqN] at h;subst h;exact SeqAt.EqAt.list_str _ t p.isList hu0
   | lst ys=>
    obtain⟨a',its',rfl,p',hs'⟩:=he;have l1:=hs.length;have l2:=hs'.length;by_cases haa:a=a'
    ·subst haa;have:=eqN_same (n+1) (.lst xs) (.lst ys) (.ref a) b ⟨a,its,rfl,p,hs⟩ ⟨a,its',rfl,p',hs'⟩ h;subst this;exact SeqAt.EqAt.same _
    ·simp only[eqN] at h;refine SeqAt.EqAt.of_refs haa ?_;by_cases hl:xs.length=ys.length
     ·obtain⟨f,hf,hb⟩:=eqL_at xs ys b h;have:=SeqAt.RcAt.lists (e:=f) p.isList p'.isList (by simp only[Qq1];omega) hu0 λj h1 h2=>?_
      ·rw[hb,<-hl,Nat.min_self,beq_self_eq_true,Bool.and_true,<-l1];simp only[Qq1] at this;exact this
      ·have g1:its[j]? = some its.toArray[j]:=by simp at h1 ⊢
       have g2:its'[j]? = some its'.toArray[j]:=by simp at h2 ⊢
       obtain⟨x,q1,q2⟩:=shs_get hs g1;obtain⟨y,q3,q4⟩:=shs_get hs' g2;exact eqN_at n x y _ _ _ A.in1 s q2 q4 (hf j x y q1 q3) hin
     ·have:=eqL_len hl b h;subst this;exact SeqAt.RcAt.lists_lengths p.isList p'.isList (by simp only[Qq1];rw[l1,l2];simpa using hl) hu0
   | tup ys=>obtain⟨a',its',rfl,p',_⟩:=he;simp[eqN] at h;subst h;exact SeqAt.EqAt.list_tuple p.isList p' hu0
   | dct kvs=>simp[eqN] at h
   | dcn kvs=>simp[eqN] at h
   | clo _ _=>simp[eqN] at h
   | arr kvs=>simp[eqN] at h
  | dct kvs=>cases e<;>simp[eqN] at h
  | dcn kvs=>cases e<;>simp[eqN] at h
  | clo _ _=>cases e<;>simp[eqN] at h
  | arr kvs=>cases e<;>simp[eqN] at h
theorem items_at(n:Nat)(its its':List Value)(xs ys:List D)(f:Nat->Bool)(A:Around)(s:Shared)(hs:Shs s.heap xs its)(hs':Shs s.heap ys its')(hf:∀(j:Nat) (x y:D),xs[j]? = some x->ys[j]? = some y->eqN n x y=some (f j))(hin:A.in1.units+n<cLine)
  (j:Nat) (h1:j<its.toArray.size) (h2:j<its'.toArray.size):SeqAt.EqAt A.in1 s its.toArray[j] its'.toArray[j] (f j):=by
 have g1:its[j]? = some its.toArray[j]:=by simp at h1 ⊢
 have g2:its'[j]? = some its'.toArray[j]:=by simp at h2 ⊢
 obtain⟨x,q1,q2⟩:=shs_get hs g1;obtain⟨y,q3,q4⟩:=shs_get hs' g2;exact eqN_at n x y _ _ _ A.in1 s q2 q4 (hf j x y q1 q3) hin
theorem rc_at(n:Nat)(d e:D)(u v:Value)(b:Bool)(A:Around)(s:Shared)(hd:Sh s.heap d u)(he:Sh s.heap e v)(h:eqN (n+1) d e=some b)(hu:A.units+(n+1)<cLine):SeqAt.RcAt A s u v b:=by
 have hu0:A.units<cLine:=by omega
 have hin:A.in1.units+n<cLine:=by show A.units+1+n<cLine;omega
 cases d with
 | non=>
  cases hd;cases e with
  | non=>
   cases he;simp[eqN] at h;subst h;exact SeqAt.RcAt.none_none
  | bl c'=>
   cases he;simp[eqN] at h;subst h;exact SeqAt.RcAt.none_bool c'
  | int j=>
   obtain⟨t,rfl⟩:=he;simp[eqN] at h;subst h;exact SeqAt.RcAt.none_int j t
  | str y=>
   obtain⟨t,rfl⟩:=he;simp[eqN] at h;subst h;exact SeqAt.RcAt.none_str _ t
  | tup ys=>
   obtain⟨a',its',rfl,p',hs'⟩:=he;simp[eqN] at h;subst h;exact SeqAt.RcAt.none_tuple p' hu0
  | lst ys=>
   obtain⟨a',its',rfl,p',hs'⟩:=he;simp[eqN] at h;subst h;exact SeqAt.RcAt.none_list p'.isList hu0
  | arr kvs=>
   simp[eqN] at h
  | dct kvs=>
   simp[eqN] at h
  | dcn kvs=>
   simp[eqN] at h
  | clo _ _=>
   simp[eqN] at h
 | bl c=>
  cases hd;cases e with
  | non=>
   cases he;simp[eqN] at h;subst h;exact SeqAt.RcAt.bool_none c
  | bl c'=>
   cases he;simp only[eqN,Qww] at h;subst h;exact SeqAt.RcAt.bool_bool c c'
  | int j=>
   obtain⟨t,rfl⟩:=he;simp only[eqN,Qww] at h;subst h;exact SeqAt.RcAt.bool_int c j t
  | str y=>
   obtain⟨t,rfl⟩:=he;simp[eqN] at h;subst h;exact SeqAt.RcAt.bool_str c _ t
  | tup ys=>
   obtain⟨a',its',rfl,p',hs'⟩:=he;simp[eqN] at h;subst h;exact SeqAt.RcAt.bool_tuple c p' hu0
  | lst ys=>
   obtain⟨a',its',rfl,p',hs'⟩:=he;simp[eqN] at h;subst h;exact SeqAt.RcAt.bool_list c p'.isList hu0
  | arr kvs=>
   simp[eqN] at h
  | dct kvs=>
   simp[eqN] at h
  | dcn kvs=>
   simp[eqN] at h
  | clo _ _=>
   simp[eqN] at h
 | int i=>
  obtain⟨t',rfl⟩:=hd;cases e with
  | non=>
   cases he;simp[eqN] at h;subst h;exact SeqAt.RcAt.int_none i t'
  | bl c'=>
   cases he;simp only[eqN,Qww] at h;subst h;exact SeqAt.RcAt.int_bool i t' c'
  | int j=>
   obtain⟨t,rfl⟩:=he;simp only[eqN,Qww] at h;subst h;exact SeqAt.RcAt.int_int i t' j t
  | str y=>
   obtain⟨t,rfl⟩:=he;simp[eqN] at h;subst h;exact SeqAt.RcAt.int_str i t' _ t
  | tup ys=>
   obtain⟨a',its',rfl,p',hs'⟩:=he;simp[eqN] at h;subst h;exact SeqAt.RcAt.int_tuple i t' p' hu0
  | lst ys=>
   obtain⟨a',its',rfl,p',hs'⟩:=he;simp[eqN] at h;subst h;exact SeqAt.RcAt.int_list i t' p'.isList hu0
  | arr kvs=>
   simp[eqN] at h
  | dct kvs=>
   simp[eqN] at h
  | dcn kvs=>
   simp[eqN] at h
  | clo _ _=>
   simp[eqN] at h
 | str x=>
  obtain⟨t',rfl⟩:=hd;cases e with
  | non=>
   cases he;simp[eqN] at h;subst h;exact SeqAt.RcAt.str_none _ t'
  | bl c'=>
   cases he;simp[eqN] at h;subst h;exact SeqAt.RcAt.str_bool _ t' c'
  | int j=>
   obtain⟨t,rfl⟩:=he;simp[eqN] at h;subst h;exact SeqAt.RcAt.str_int _ t' j t
  | str y=>
   obtain⟨t,rfl⟩:=he;simp only[eqN,Qww] at h;subst h;rw[<-strOf_beq];exact SeqAt.RcAt.str_str _ t' _ t
  | tup ys=>
   obtain⟨a',its',rfl,p',hs'⟩:=he;simp[eqN] at h;subst h;exact SeqAt.RcAt.str_tuple _ t' p' hu0
  | lst ys=>
   obtain⟨a',its',rfl,p',hs'⟩:=he;simp[eqN] at h;subst h;exact SeqAt.RcAt.str_list _ t' p'.isList hu0
  | arr kvs=>
   simp[eqN] at h
  | dct kvs=>
   simp[eqN] at h
  | dcn kvs=>
   simp[eqN] at h
  | clo _ _=>
   simp[eqN] at h
 | tup xs=>
  obtain⟨a,its,rfl,p,hs⟩:=hd;cases e with
  | non=>
   cases he;simp[eqN] at h;subst h;exact SeqAt.RcAt.tuple_none p hu0
  | bl c'=>
   cases he;simp[eqN] at h;subst h;exact SeqAt.RcAt.tuple_bool c' p hu0
  | int j=>
   obtain⟨t,rfl⟩:=he;simp[eqN] at h;subst h;exact SeqAt.RcAt.tuple_int j t p hu0
  | str y=>
   obtain⟨t,rfl⟩:=he;simp[eqN] at h;subst h;exact SeqAt.RcAt.tuple_str _ t p hu0
  | tup ys=>
   obtain⟨a',its',rfl,p',hs'⟩:=he;simp only[eqN] at h;have l1:=hs.length;have l2:=hs'.length;obtain⟨f,hf,hb⟩:=eqL_at xs ys b h;have:=SeqAt.RcAt.tuples (e:=f) p p' hu0 λj h1 h2=>?_
   ·rw[hb];simp only[Qq1] at this;rw[l1,l2] at this;exact this
   ·exact items_at n its its' xs ys f A s hs hs' hf hin j h1 h2
  | lst ys=>
   obtain⟨a',its',rfl,p',hs'⟩:=he;simp[eqN] at h;subst h;exact SeqAt.RcAt.tuple_list p p'.isList hu0
  | arr kvs=>
   simp[eqN] at h
  | dct kvs=>
   simp[eqN] at h
  | dcn kvs=>
   simp[eqN] at h
  | clo _ _=>
   simp[eqN] at h
 | lst xs=>
  obtain⟨a,its,rfl,p,hs⟩:=hd;cases e with
  | non=>
   cases he;simp[eqN] at h;subst h;exact SeqAt.RcAt.list_none p.isList hu0
  | bl c'=>
   cases he;simp[eqN] at h;subst h;exact SeqAt.RcAt.list_bool c' p.isList hu0
  | int j=>
   obtain⟨t,rfl⟩:=he;simp[eqN] at h;subst h;exact SeqAt.RcAt.list_int j t p.isList hu0
  | str y=>
   obtain⟨t,rfl⟩:=he;simp[eqN] at h;subst h;exact SeqAt.RcAt.list_str _ t p.isList hu0
  | tup ys=>
   obtain⟨a',its',rfl,p',hs'⟩:=he;simp[eqN] at h;subst h;exact SeqAt.RcAt.list_tuple p.isList p' hu0
  | lst ys=>
   obtain⟨a',its',rfl,p',hs'⟩:=he;simp only[eqN] at h;have l1:=hs.length;have l2:=hs'.length;by_cases hl:xs.length=ys.length
   ·obtain⟨f,hf,hb⟩:=eqL_at xs ys b h;have:=SeqAt.RcAt.lists (e:=f) p.isList p'.isList (by simp only[Qq1];omega) hu0 λj h1 h2=>?_
    ·rw[hb,<-hl,Nat.min_self,beq_self_eq_true,Bool.and_true,<-l1];simp only[Qq1] at this;exact this
    ·exact items_at n its its' xs ys f A s hs hs' hf hin j h1 h2
   ·have:=eqL_len hl b h;subst this;exact SeqAt.RcAt.lists_lengths p.isList p'.isList (by simp only[Qq1];rw[l1,l2];simpa using hl) hu0
  | arr kvs=>
   simp[eqN] at h
  | dct kvs=>
   simp[eqN] at h
  | dcn kvs=>
   simp[eqN] at h
  | clo _ _=>
   simp[eqN] at h
 | arr kvs=>
  cases e<;>simp[eqN] at h
 | dct kvs=>
  cases e<;>simp[eqN] at h
 | dcn kvs=>
  cases e<;>simp[eqN] at h
 | clo _ _=>
  cases e<;>simp[eqN] at h
theorem rcne_at(n:Nat)(d e:D)(u v:Value)(b:Bool)(A:Around)(s:Shared)(hd:Sh s.heap d u)(he:Sh s.heap e v)(h:eqN (n+1) d e=some b)(hu:A.units+(n+1)<cLine):SeqAt.RcNeAt A s u v (!b):=by
 have hu0:A.units<cLine:=by omega
 have hin:A.in1.units+n<cLine:=by show A.units+1+n<cLine;omega
 cases d with
 | non=>
  cases hd;cases e with
  | non=>
   cases he;simp[eqN] at h;subst h;exact SeqAt.RcNeAt.none_none
  | bl c'=>
   cases he;simp[eqN] at h;subst h;exact SeqAt.RcNeAt.none_bool c'
  | int j=>
   obtain⟨t,rfl⟩:=he;simp[eqN] at h;subst h;exact SeqAt.RcNeAt.none_int j t
  | str y=>
   obtain⟨t,rfl⟩:=he;simp[eqN] at h;subst h;exact SeqAt.RcNeAt.none_str _ t
  | tup ys=>
   obtain⟨a',its',rfl,p',hs'⟩:=he;simp[eqN] at h;subst h;exact SeqAt.RcNeAt.none_tuple p' hu0
  | lst ys=>
   obtain⟨a',its',rfl,p',hs'⟩:=he;simp[eqN] at h;subst h;exact SeqAt.RcNeAt.none_list p'.isList hu0
  | arr kvs=>
   simp[eqN] at h
  | dct kvs=>
   simp[eqN] at h
  | dcn kvs=>
   simp[eqN] at h
  | clo _ _=>
   simp[eqN] at h
 | bl c=>
  cases hd;cases e with
  | non=>
   cases he;simp[eqN] at h;subst h;exact SeqAt.RcNeAt.bool_none c
  | bl c'=>
   cases he;simp only[eqN,Qww] at h;subst h;exact SeqAt.RcNeAt.bool_bool c c'
  | int j=>
   obtain⟨t,rfl⟩:=he;simp only[eqN,Qww] at h;subst h;exact SeqAt.RcNeAt.bool_int c j t
  | str y=>
   obtain⟨t,rfl⟩:=he;simp[eqN] at h;subst h;exact SeqAt.RcNeAt.bool_str c _ t
  | tup ys=>
   obtain⟨a',its',rfl,p',hs'⟩:=he;simp[eqN] at h;subst h;exact SeqAt.RcNeAt.bool_tuple c p' hu0
  | lst ys=>
   obtain⟨a',its',rfl,p',hs'⟩:=he;simp[eqN] at h;subst h;exact SeqAt.RcNeAt.bool_list c p'.isList hu0
  | arr kvs=>
   simp[eqN] at h
  | dct kvs=>
   simp[eqN] at h
  | dcn kvs=>
   simp[eqN] at h
  | clo _ _=>
   simp[eqN] at h
 | int i=>
  obtain⟨t',rfl⟩:=hd;cases e with
  | non=>
   cases he;simp[eqN] at h;subst h;exact SeqAt.RcNeAt.int_none i t'
  | bl c'=>
   cases he;simp only[eqN,Qww] at h;subst h;exact SeqAt.RcNeAt.int_bool i t' c'
  | int j=>
   obtain⟨t,rfl⟩:=he;simp only[eqN,Qww] at h;subst h;exact SeqAt.RcNeAt.int_int i t' j t
  | str y=>
   obtain⟨t,rfl⟩:=he;simp[eqN] at h;subst h;exact SeqAt.RcNeAt.int_str i t' _ t
  | tup ys=>
   obtain⟨a',its',rfl,p',hs'⟩:=he;simp[eqN] at h;subst h;exact SeqAt.RcNeAt.int_tuple i t' p' hu0
  | lst ys=>
   obtain⟨a',its',rfl,p',hs'⟩:=he;simp[eqN] at h;subst h;exact SeqAt.RcNeAt.int_list i t' p'.isList hu0
  | arr kvs=>
   simp[eqN] at h
  | dct kvs=>
   simp[eqN] at h
  | dcn kvs=>
   simp[eqN] at h
  | clo _ _=>
   simp[eqN] at h
 | str x=>
  obtain⟨t',rfl⟩:=hd;cases e with
  | non=>
   cases he;simp[eqN] at h;subst h;exact SeqAt.RcNeAt.str_none _ t'
  | bl c'=>
   cases he;simp[eqN] at h;subst h;exact SeqAt.RcNeAt.str_bool _ t' c'
  | int j=>
   obtain⟨t,rfl⟩:=he;simp[eqN] at h;subst h;exact SeqAt.RcNeAt.str_int _ t' j t
  | str y=>
   obtain⟨t,rfl⟩:=he;simp only[eqN,Qww] at h;subst h;rw[<-strOf_beq];exact SeqAt.RcNeAt.str_str _ t' _ t
  | tup ys=>
   obtain⟨a',its',rfl,p',hs'⟩:=he;simp[eqN] at h;subst h;exact SeqAt.RcNeAt.str_tuple _ t' p' hu0
  | lst ys=>
   obtain⟨a',its',rfl,p',hs'⟩:=he;simp[eqN] at h;subst h;exact SeqAt.RcNeAt.str_list _ t' p'.isList hu0
  | arr kvs=>
   simp[eqN] at h
  | dct kvs=>
   simp[eqN] at h
  | dcn kvs=>
   simp[eqN] at h
  | clo _ _=>
   simp[eqN] at h
 | tup xs=>
  obtain⟨a,its,rfl,p,hs⟩:=hd;cases e with
  | non=>
   cases he;simp[eqN] at h;subst h;exact SeqAt.RcNeAt.tuple_none p hu0
  | bl c'=>
   cases he;simp[eqN] at h;subst h;exact SeqAt.RcNeAt.tuple_bool c' p hu0
  | int j=>
   obtain⟨t,rfl⟩:=he;simp[eqN] at h;subst h;exact SeqAt.RcNeAt.tuple_int j t p hu0
  | str y=>
   obtain⟨t,rfl⟩:=he;simp[eqN] at h;subst h;exact SeqAt.RcNeAt.tuple_str _ t p hu0
  | tup ys=>
   obtain⟨a',its',rfl,p',hs'⟩:=he;simp only[eqN] at h;have l1:=hs.length;have l2:=hs'.length;obtain⟨f,hf,hb⟩:=eqL_at xs ys b h;have:=SeqAt.RcNeAt.tuples (e:=f) p p' hu0 λj h1 h2=>?_
   ·rw[hb];simp only[Qq1] at this;rw[l1,l2] at this;exact this
   ·exact items_at n its its' xs ys f A s hs hs' hf hin j h1 h2
  | lst ys=>
   obtain⟨a',its',rfl,p',hs'⟩:=he;simp[eqN] at h;subst h;exact SeqAt.RcNeAt.tuple_list p p'.isList hu0
  | arr kvs=>
   simp[eqN] at h
  | dct kvs=>
   simp[eqN] at h
  | dcn kvs=>
   simp[eqN] at h
  | clo _ _=>
   simp[eqN] at h
 | lst xs=>
  obtain⟨a,its,rfl,p,hs⟩:=hd;cases e with
  | non=>
   cases he;simp[eqN] at h;subst h;exact SeqAt.RcNeAt.list_none p.isList hu0
  | bl c'=>
   cases he;simp[eqN] at h;subst h;exact SeqAt.RcNeAt.list_bool c' p.isList hu0
  | int j=>
   obtain⟨t,rfl⟩:=he;simp[eqN] at h;subst h;exact SeqAt.RcNeAt.list_int j t p.isList hu0
  | str y=>
   obtain⟨t,rfl⟩:=he;simp[eqN] at h;subst h;exact SeqAt.RcNeAt.list_str _ t p.isList hu0
  | tup ys=>
   obtain⟨a',its',rfl,p',hs'⟩:=he;simp[eqN] at h;subst h;exact SeqAt.RcNeAt.list_tuple p.isList p' hu0
  | lst ys=>
   obtain⟨a',its',rfl,p',hs'⟩:=he;simp only[eqN] at h;have l1:=hs.length;have l2:=hs'.length;by_cases hl:xs.length=ys.length
   ·obtain⟨f,hf,hb⟩:=eqL_at xs ys b h;have:=SeqAt.RcNeAt.lists (e:=f) p.isList p'.isList (by simp only[Qq1];omega) hu0 λj h1 h2=>?_
    ·rw[hb,<-hl,Nat.min_self,beq_self_eq_true,Bool.and_true,<-l1];simp only[Qq1] at this;exact this
    ·exact items_at n its its' xs ys f A s hs hs' hf hin j h1 h2
   ·have:=eqL_len hl b h;subst this;exact SeqAt.RcNeAt.lists_lengths p.isList p'.isList (by simp only[Qq1];rw[l1,l2];simpa using hl) hu0
  | arr kvs=>
   simp[eqN] at h
  | dct kvs=>
   simp[eqN] at h
  | dcn kvs=>
   simp[eqN] at h
  | clo _ _=>
   simp[eqN] at h
 | arr kvs=>
  cases e<;>simp[eqN] at h
 | dct kvs=>
  cases e<;>simp[eqN] at h
 | dcn kvs=>
  cases e<;>simp[eqN] at h
 | clo _ _=>
  cases e<;>simp[eqN] at h
section
variable{X:Cx}{C:Cfg}
def rEqD(K:Fg):R2:=λx y H Q=>∃dx dy b,Rep K H dx x/\Rep K H dy y/\eqN 60 dx dy=some b/\Q (.bl b) H
def rNeD(K:Fg):R2:=λx y H Q=>∃dx dy b,Rep K H dx x/\Rep K H dy y/\eqN 60 dx dy=some b/\Q (.bl (!b)) H
theorem op_eqD(hu:X.A.units+60<cLine):OpR X (compareOp .Eq) (rEqD X.K):=by intro pins s σ H x y v u Q I rx ry h;obtain⟨dx,dy,b,h1,h2,h3,q⟩:=h;exact rc_at 59 dx dy v u b X.A s (Rep.sh I dx x v h1 rx) (Rep.sh I dy y u h2 ry) h3 hu X.prog X.w X.xe _ ⟨.bl b,H,I,rfl,q⟩
theorem op_neD(hu:X.A.units+60<cLine):OpR X (compareOp .NotEq) (rNeD X.K):=by intro pins s σ H x y v u Q I rx ry h;obtain⟨dx,dy,b,h1,h2,h3,q⟩:=h;exact rcne_at 59 dx dy v u b X.A s (Rep.sh I dx x v h1 rx) (Rep.sh I dy y u h2 ry) h3 hu X.prog X.w X.xe _ ⟨.bl (!b),H,I,rfl,q⟩
def gEq(x y:D):Option D:=(eqN 60 x y).map .bl
def gNe(x y:D):Option D:=(eqN 60 x y).map λb=>.bl (!b)
theorem od_eq:OpD C (rEqD C.K) gEq:=by
 intro Pr F env σ H x y d vx vy Q r hx hy h q;unfold gEq at h;cases e:eqN 60 x y with
 | none=>rw[e] at h;cases h
 | some b=>
  rw[e] at h;cases h;exact⟨x,y,b,hx.rep r.fr,hy.rep r.fr,e,q _ H F r (Same.refl F) rfl⟩
theorem od_ne:OpD C (rNeD C.K) gNe:=by
 intro Pr F env σ H x y d vx vy Q r hx hy h q;unfold gNe at h;cases e:eqN 60 x y with
 | none=>rw[e] at h;cases h
 | some b=>
  rw[e] at h;cases h;exact⟨x,y,b,hx.rep r.fr,hy.rep r.fr,e,q _ H F r (Same.refl F) rfl⟩
def inL(x:D):List D->Option Bool
 | []=>some false
 | y::ys=>match eqN 59 y x,inL x ys with
  | some a,some b=>some (a||b)
  | _,_=>none
theorem inL_any(x:D):∀(ys:List D) (b:Bool),inL x ys=some b->(∀y∈ys,∃c,eqN 59 y x=some c)/\(b=true ↔ ∃y∈ys,eqN 59 y x=some true)
 | [],b,h=>by simp[inL] at h;subst h;simp
 | y::ys,b,h=>by
  unfold inL at h;cases h1:eqN 59 y x with
  | none=>rw[h1] at h;simp at h
  | some c=>
   cases h2:inL x ys with
   | none=>rw[h1,h2] at h;simp at h
   | some d=>
    rw[h1,h2] at h;obtain⟨i1,i2⟩:=inL_any x ys d h2;have hb:b=(c||d):=by simpa using h.symm
    refine⟨λz hz=>?_,?_⟩
    ·rcases Qwq.mp hz with rfl|hz
     ·exact⟨c,h1⟩
     ·exact i1 z hz
    ·rw[hb,Bool.or_eq_true];constructor
     ·rintro(hc|hd)
      ·exact⟨y,Qq3,by rw[h1,hc]⟩
      ·obtain⟨z,hz,e⟩:=i2.mp hd;exact⟨z,Qq4 _ hz,e⟩
     ·rintro⟨z,hz,e⟩;rcases Qwq.mp hz with rfl|hz
      ·rw[h1] at e;left;simpa using e
      ·right;exact i2.mpr ⟨z,hz,e⟩
open Classical in
noncomputable def ansU(h:Heap)(x:D)(u:Value):Bool:=decide (∃y,Sh h y u/\eqN 59 y x=some true)
open Classical in
theorem ansU_eq{h:Heap}{x y:D}{u:Value}{c:Bool}(hy:Sh h y u)(e:eqN 59 y x=some c):ansU h x u=c:=by
 unfold ansU;cases c with
 | true=>exact Qw4 ⟨y,hy,e⟩
 | false=>
  refine Qwj ?_;rintro⟨z,hz,e'⟩;have:=eqN_det 59 z y x u true false hz hy e' e;cases this
theorem in_ans{s:Shared}{A:Around}{x:D}{v:Value}{ys:List D}{us:List Value}{b:Bool}(hx:Sh s.heap x v)(hs:Shs s.heap ys us)(h:inL x ys=some b)(hu:A.units+59<cLine) :
  (∀w,w∈us.toArray->SeqAt.EqAt A s w v (ansU s.heap x w))/\us.toArray.any (ansU s.heap x)=b:=by
 obtain⟨h1,h2⟩:=inL_any x ys b h;have item:∀w∈us,∃y∈ys,Sh s.heap y w:=λw hw=>by
  obtain⟨j,hj,e⟩:=List.mem_iff_getElem.mp hw;obtain⟨d,e1,e2⟩:=shs_get hs (show us[j]? = some w by rw[Qx3 hj,e]);exact⟨d,List.mem_of_getElem? e1,e2⟩
 have back:∀{ys:List D} {us:List Value},Shs s.heap ys us->∀y∈ys,∃w∈us,Sh s.heap y w:=by
  intro ys
  induction ys with
  | nil=>intro us _ y hy;cases hy
  | cons z zs ih=>
   intro us hs y hy;obtain⟨w,r,rfl,g1,g2⟩:=hs;rcases Qwq.mp hy with rfl|hy
   ·exact⟨w,Qq3,g1⟩
   ·obtain⟨w',m,g⟩:=ih g2 y hy;exact⟨w',Qq4 _ m,g⟩
 refine⟨λw hw=>?_,?_⟩
 ·obtain⟨y,hy,sy⟩:=item w (by simpa using hw);obtain⟨c,hc⟩:=h1 y hy;rw[ansU_eq sy hc];exact eqN_at 59 y x w v c A s sy hx hc hu
 ·rw[List.any_toArray,Qjx,h2,List.any_eq_true];constructor
  ·rintro⟨w,hw,e⟩;obtain⟨y,hy,sy⟩:=item w hw;obtain⟨c,hc⟩:=h1 y hy;rw[ansU_eq sy hc] at e;subst e;exact⟨y,hy,hc⟩
  ·rintro⟨y,hy,e⟩;obtain⟨w,hw,sy⟩:=back hs y hy;exact⟨w,hw,ansU_eq sy e⟩
def seqOf:D->Option (List D)
 | .tup xs=>some xs
 | .lst xs=>some xs
 | .arr xs=>some xs
 | _=>none
def rInD(K:Fg)(neg:Bool):R2:=λx y H Q=>∃dx dy ys b,Rep K H dx x/\Rep K H dy y/\seqOf dy=some ys/\inL dx ys=some b/\Q (.bl (if neg then !b else b)) H
theorem op_inD(hu:X.A.units+61<cLine):OpR X (compareOp .In) (rInD X.K false):=by
 intro pins s σ H x y v u Q I rx ry h;obtain⟨dx,dy,ys,b,h1,h2,h3,h4,q⟩:=h;have hx:=Rep.sh I dx x v h1 rx;have hy:=Rep.sh I dy y u h2 ry;have hin:X.A.in1.units+59<cLine:=by show X.A.units+1+59<cLine;omega
 cases dy with
 | tup zs=>
  cases h3;obtain⟨a,its,rfl,p,hs⟩:=hy;obtain⟨g1,g2⟩:=in_ans (A:=X.A.in1) hx hs h4 hin;refine SeqAt.in_tupleAt (ansU s.heap dx) p g1 ⟨.bl _,H,I,rfl,?_⟩;rw[g2];exact q
 | lst zs=>
  cases h3;obtain⟨a,its,rfl,p,hs⟩:=hy;obtain⟨g1,g2⟩:=in_ans (A:=X.A.in1) hx hs h4 hin;refine SeqAt.in_listAt (ansU s.heap dx) p.isList g1 ⟨.bl _,H,I,rfl,?_⟩;rw[g2];exact q
 | arr zs=>
  cases h3;obtain⟨a,its,rfl,p,hs⟩:=hy;obtain⟨g1,g2⟩:=in_ans (A:=X.A.in1) hx hs h4 hin;refine SeqAt.in_listAt (ansU s.heap dx) p.isList g1 ⟨.bl _,H,I,rfl,?_⟩;rw[g2];exact q
 | _=>cases h3
end
theorem OpD.or{C:Cfg}{r r':R2}{g g':D->D->Option D}(h:OpD C r g)(h':OpD C r' g'):OpD C (λx y H Q=>r x y H Q\/r' x y H Q) (λx y=>(g x y).or (g' x y)):=by
 intro Pr F env σ H x y d vx vy Q rl hx hy e q;have e:(g x y).or (g' x y)=some d:=e;cases e1:g x y with
 | some c=>
  rw[e1] at e;cases e;exact .inl (h Pr F env σ H x y d vx vy Q rl hx hy e1 q)
 | none=>
  rw[e1] at e;exact .inr (h' Pr F env σ H x y d vx vy Q rl hx hy e q)
section
variable{X:Cx}{C:Cfg}
def gInS(x y:D):Option D:=match seqOf y with
 | some ys=>(inL x ys).map .bl
 | none=>none
theorem od_inS:OpD C (rInD C.K false) gInS:=by
 intro Pr F env σ H x y d vx vy Q r hx hy h q;unfold gInS at h;cases e1:seqOf y with
 | none=>rw[e1] at h;cases h
 | some ys=>
  rw[e1] at h;cases e:inL x ys with
  | none=>simp only[e,Option.map_none] at h;cases h
  | some b=>
   simp only[e,Option.map_some] at h;cases h;exact⟨x,y,ys,b,hx.rep r.fr,hy.rep r.fr,e1,e,q _ H F r (Same.refl F) rfl⟩
def gInT(x y:D):Option D:=match x,y with
 | .str [c],.str z=>some (.bl (decide (c∈z)))
 | _,_=>none
abbrev rInT:R2:=λx y H Q=>∃i j,x = .str i/\y = .str j/\Q (.bl (!(Builtin.Str.occurrences j i 0 j.length 1).isEmpty)) H
theorem one_sign(c:Nat)(z:List Nat):(!(Builtin.Str.occurrences (strOf z) (strOf [c]) 0 (strOf z).length 1).isEmpty)=decide (c∈z):=by
 have:=StrLaws.found_one (strOf z) c;unfold strOf at this ⊢
 simpa using this
theorem od_inT:OpD C rInT gInT:=by
 intro Pr F env σ H x y d vx vy Q r hx hy h q;unfold gInT at h;split at h
 ·rename_i c z;cases h;obtain⟨rfl,_⟩:=hx.str;obtain⟨rfl,_⟩:=hy.str;refine⟨_,_,rfl,rfl,?_⟩;rw[one_sign];exact q _ H F r (Same.refl F) rfl
 ·cases h
def gIn(x y:D):Option D:=(gInS x y).or (gInT x y)
abbrev rIn2(K:Fg):R2:=λx y H Q=>rInD K false x y H Q\/rInT x y H Q
theorem op_in2(hu:X.A.units+61<cLine):OpR X (compareOp .In) (rIn2 X.K):=(op_inD hu).or op_in_str
theorem od_in:OpD C (rIn2 C.K) gIn:=od_inS.or od_inT
def isPlain(x:V):Prop:=x = .non\/∃b,x = .bl b
theorem op_isNot2:OpR X (compareOp .IsNot) (λx y H Q=>isPlain y/\Q (.bl (!decide (x=y))) H):=by
 intro pins s σ H x y v u Q I rx ry h;obtain⟨hp,q⟩:=h;rcases hp with rfl|⟨b,rfl⟩
 ·exact op_notN pins s σ H x .non v u Q I rx ry ⟨rfl,q⟩
 ·cases ry;refine wpAny_isNot_plain ?_ (fin_bl I q ?_)
  ·cases x<;>first|(cases rx;rfl)|(obtain⟨t,rfl⟩:=rx;rfl)
  ·cases x with
   | bl c=>cases rx;cases b<;>cases c<;>rfl
   | _=>first|(cases rx;rfl)|(obtain⟨t,rfl⟩:=rx;rfl)
def isD:D->D->Option Bool
 | .non,.non=>some true
 | .bl a,.bl b=>some (a == b)
 | _,.non=>some false
 | _,.bl _=>some false
 | _,_=>none
def gIsNot(x y:D):Option D:=(isD x y).map λb=>.bl (!b)
theorem isD_v{F H:Hp}{x y:D}{vx vy:V}{b:Bool}(hx:BRep C.K F H x vx)(hy:BRep C.K F H y vy)(h:isD x y=some b):isPlain vy/\decide (vx=vy)=b:=by
 have ref_no:∀a,¬(V.ref a=V.non):=λa e=>by cases e
 cases y with
 | non=>
  obtain rfl:=hy.non;refine⟨.inl rfl,?_⟩;cases x with
  | non=>obtain rfl:=hx.non;simp[isD] at h;simp[h]
  | bl c=>obtain rfl:=hx.bl;simp[isD] at h;simp[h]
  | int i=>obtain rfl:=hx.int;simp[isD] at h;simp[h]
  | str z=>obtain⟨rfl,_⟩:=hx.str;simp[isD] at h;simp[h]
  | tup xs=>rcases hx with ⟨_,a,_,rfl,_⟩|⟨a,rfl,_⟩<;>(simp[isD] at h;simp[h])
  | lst xs=>rcases hx with ⟨_,a,_,rfl,_⟩|⟨a,rfl,_⟩<;>(simp[isD] at h;simp[h])
  | arr xs=>rcases hx with ⟨_,a,_,rfl,_⟩|⟨a,rfl,_⟩<;>(simp[isD] at h;simp[h])
  | dct xs=>rcases hx with ⟨_,a,_,rfl,_⟩|⟨a,rfl,_⟩<;>(simp[isD] at h;simp[h])
  | dcn xs=>rcases hx with ⟨_,a,_,rfl,_⟩|⟨a,rfl,_⟩<;>(simp[isD] at h;simp[h])
  | clo st xs=>rcases hx with ⟨a,_,rfl,_⟩|⟨a,rfl,_⟩<;>(simp[isD] at h;simp[h])
 | bl k=>
  obtain rfl:=hy.bl;refine⟨.inr ⟨k,rfl⟩,?_⟩;cases x with
  | non=>obtain rfl:=hx.non;simp[isD] at h;simp[h]
  | bl c=>obtain rfl:=hx.bl;simp only[isD,Qww] at h;rw[<-h,dec_bl]
  | int i=>obtain rfl:=hx.int;simp[isD] at h;simp[h]
  | str z=>obtain⟨rfl,_⟩:=hx.str;simp[isD] at h;simp[h]
  | tup xs=>rcases hx with ⟨_,a,_,rfl,_⟩|⟨a,rfl,_⟩<;>(simp[isD] at h;simp[h])
  | lst xs=>rcases hx with ⟨_,a,_,rfl,_⟩|⟨a,rfl,_⟩<;>(simp[isD] at h;simp[h])
  | arr xs=>rcases hx with ⟨_,a,_,rfl,_⟩|⟨a,rfl,_⟩<;>(simp[isD] at h;simp[h])
  | dct xs=>rcases hx with ⟨_,a,_,rfl,_⟩|⟨a,rfl,_⟩<;>(simp[isD] at h;simp[h])
  | dcn xs=>rcases hx with ⟨_,a,_,rfl,_⟩|⟨a,rfl,_⟩<;>(simp[isD] at h;simp[h])
  | clo st xs=>rcases hx with ⟨a,_,rfl,_⟩|⟨a,rfl,_⟩<;>(simp[isD] at h;simp[h])
 | _=>cases x<;>simp[isD] at h
theorem od_isNot:OpD C (λx y H Q=>isPlain y/\Q (.bl (!decide (x=y))) H) gIsNot:=by
 intro Pr F env σ H x y d vx vy Q r hx hy h q;unfold gIsNot at h;cases e:isD x y with
 | none=>rw[e] at h;cases h
 | some b=>
  rw[e] at h;cases h;obtain⟨h1,h2⟩:=isD_v hx hy e;exact⟨h1,by rw[h2];exact q _ H F r (Same.refl F) rfl⟩
def gI(c:Int->Int->Bool)(f:Int->Int->D)(x y:D):Option D:=match x,y with
 | .int i,.int j=>if c i j=true then some (f i j) else none
 | _,_=>none
theorem od_I{Cd:Int->Int->Prop}{c:Int->Int->Bool}{f:Int->Int->D}{g:Int->Int->V}(hc:∀i j,c i j=true->Cd i j)(hf:∀i j F,Rep C.K F (f i j) (g i j)):OpD C (rI Cd g) (gI c f):=by
 intro Pr F env σ H x y d vx vy Q r hx hy h q;unfold gI at h;split at h
 ·rename_i i j;split at h
  ·rename_i hcc;cases h;obtain rfl:=hx.int;obtain rfl:=hy.int;exact⟨i,j,rfl,rfl,hc i j hcc,q _ H F r (Same.refl F) (hf i j F)⟩
  ·cases h
 ·cases h
theorem od_I0{f:Int->Int->D}{g:Int->Int->V}(hf:∀i j F,Rep C.K F (f i j) (g i j)):OpD C (rI0 g) (gI (λ_ _=>true) f):=by
 intro Pr F env σ H x y d vx vy Q r hx hy h q;unfold gI at h;split at h
 ·rename_i i j;rw[if_pos rfl] at h;cases h;obtain rfl:=hx.int;obtain rfl:=hy.int;exact⟨i,j,rfl,rfl,q _ H F r (Same.refl F) (hf i j F)⟩
 ·cases h
def mulFits(i j:Int):Bool:=decide (Builtin.Int.intBits i+Builtin.Int.intBits j<=134217728)
theorem op_mulB:OpR X (binaryOp .Mult) (rI (λi j=>mulFits i j=true) λi j=>.int (i*j)):=
 opI λi j _ _ _ _ _ hc q=>mul_int q (mulOk_of_bits (Qqy _) (Qqy _) (Qw2 hc))
def gMul:D->D->Option D:=gI mulFits λi j=>.int (i*j)
def gSub:D->D->Option D:=gI (λ_ _=>true) λi j=>.int (i - j)
def gMod:D->D->Option D:=gI (λ_ j=>decide (0<j)) λi j=>.int (i % j)
def gPow:D->D->Option D:=gI (λi j=>decide (0<=j/\j<=1000000/\i.natAbs<2^64)) λi j=>.int (i^j.toNat)
def gShr:D->D->Option D:=gI (λ_ j=>decide (0<=j)) λi j=>.int (i / 2^j.toNat)
def gAnd:D->D->Option D:=gI (λ_ _=>true) λi j=>.int (Builtin.bitAnd i j)
theorem od_mul:OpD C (rI (λi j=>mulFits i j=true) λi j=>.int (i*j)) gMul:=od_I (λ_ _ h=>h) λ_ _ _=>rfl
theorem od_sub:OpD C (rI0 λi j=>.int (i - j)) gSub:=od_I0 λ_ _ _=>rfl
theorem od_mod:OpD C (rI (λ_ j=>0<j) λi j=>.int (i % j)) gMod:=od_I (λ_ _ h=>Qw2 h) λ_ _ _=>rfl
theorem od_pow:OpD C (rI CPow λi j=>.int (i^j.toNat)) gPow:=od_I (λi j h=>(show 0<=j/\j<=1000000/\i.natAbs<2^64 from Qw2 h)) λ_ _ _=>rfl
theorem od_shr:OpD C (rI (λ_ j=>0<=j) λi j=>.int (i / 2^j.toNat)) gShr:=od_I (λ_ _ h=>Qw2 h) λ_ _ _=>rfl
theorem od_and:OpD C (rI0 λi j=>.int (Builtin.bitAnd i j)) gAnd:=od_I0 λ_ _ _=>rfl
abbrev rLtT:R2:=λx y H Q=>∃i j,x = .str i/\y = .str j/\Q (.bl (decide (i.cps.toList<j.cps.toList))) H
def gLtI:D->D->Option D:=gI (λ_ _=>true) λi j=>.bl (decide (i<j))
def gLtS(x y:D):Option D:=match x,y with
 | .str a,.str b=>some (.bl (decide (a<b)))
 | _,_=>none
def gLt(x y:D):Option D:=(gLtI x y).or (gLtS x y)
def gLe:D->D->Option D:=gI (λ_ _=>true) λi j=>.bl (decide (i<=j))
def gGt:D->D->Option D:=gI (λ_ _=>true) λi j=>.bl (decide (j<i))
theorem od_ltS:OpD C rLtT gLtS:=by
 intro Pr F env σ H x y d vx vy Q r hx hy h q;unfold gLtS at h;split at h
 ·cases h;obtain⟨rfl,_⟩:=hx.str;obtain⟨rfl,_⟩:=hy.str;exact⟨_,_,rfl,rfl,q _ H F r (Same.refl F) (by show V.bl _=V.bl _;congr)⟩
 ·cases h
abbrev rLt2:R2:=λx y H Q=>rI0 (λi j=>.bl (decide (i<j))) x y H Q\/rLtT x y H Q
theorem op_lt2:OpR X (compareOp .Lt) rLt2:=op_lt.or op_lt_str
theorem od_ltI:OpD C (rI0 λi j=>.bl (decide (i<j))) gLtI:=od_I0 λ_ _ _=>rfl
theorem od_lt:OpD C rLt2 gLt:=od_ltI.or od_ltS
theorem od_le:OpD C (rI0 λi j=>.bl (decide (i<=j))) gLe:=od_I0 λ_ _ _=>rfl
theorem od_gt:OpD C (rI0 λi j=>.bl (decide (j<i))) gGt:=od_I0 λ_ _ _=>rfl
def rCatT0(K:Fg):R2:=λx y H Q=>∃a b ys,x = .ref a/\y = .ref b/\SqT K H a []/\SqT K H b ys/\Q (.ref b) H
theorem op_catT0:OpR X (binaryOp .Add) (rCatT0 X.K):=by
 intro pins s σ H x y v u Q I rx ry h;obtain⟨a,b,ys,rfl,rfl,ha,hb,q⟩:=h;cases rx;cases ry;obtain⟨its,r1,p1,_⟩:=I.tuple ha;obtain⟨its2,r2,p2,_⟩:=I.tuple hb;cases r1;obtain⟨⟨cls,dd,data,sl⟩,ho,hc,n,hd⟩:=id p1;obtain⟨⟨cls2,dd2,data2,sl2⟩,ho2,hc2,n2,hd2⟩:=id p2;simp only at hc hd hc2 hd2;subst hc hd hc2 hd2;exact concat_meets ⟨_,ho,rfl⟩ ⟨_,ho2,rfl⟩ noFill_tuple_add seq_tuple_add PySem.F.slot_tuple_add PySem.F.entry_tuple_add (PySem.F.args_tuple_add_2 _ _)
  (tuple_addW0 a b ([]:List Value).toArray its2.toArray n n2 dd dd2 sl sl2 (by simp)) ⟨ho,ho2,⟨.ref b,H,I,rfl,q⟩⟩
abbrev rAddS:R2:=λx y H Q=>∃i j,x = .str i/\y = .str j/\i.length+j.length<=sizeLine/\Q (.str (i++j)) H
abbrev rAdd(K:Fg):R2:=λx y H Q=>rI0 (λi j=>.int (i+j)) x y H Q\/rAddS x y H Q\/rCat x y H Q\/rCatT K x y H Q\/rCatT0 K x y H Q
theorem op_add2:OpR X (binaryOp .Add) (rAdd X.K):=op_add.or (op_add_str.or (op_cat.or (op_catT.or op_catT0)))
def gAdd(x y:D):Option D:=match x,y with
 | .int i,.int j=>some (.int (i+j))
 | .str a,.str b=>if a.length+b.length<=sizeLine then some (.str (a++b)) else none
 | .lst a,.lst b=>if a.length+b.length<=sizeLine then some (.lst (a++b)) else none
 | .tup a,.tup b=>if a.length+b.length<=sizeLine then some (.tup (a++b)) else none
 | _,_=>none
theorem strOf_append(a b:List Nat):strOf a++strOf b=strOf (a++b):=by show(⟨(strOf a).cps++(strOf b).cps⟩:Str)=_;unfold strOf;simp
theorem strOf_length(a:List Nat):(strOf a).length=a.length:=by show a.toArray.size=a.length;simp
theorem od_add:OpD C (rAdd C.K) gAdd:=by
 intro Pr F env σ H x y d vx vy Q r hx hy h q;unfold gAdd at h;split at h
 ·cases h;obtain rfl:=hx.int;obtain rfl:=hy.int;exact .inl ⟨_,_,rfl,rfl,q _ H F r (Same.refl F) rfl⟩
 ·split at h
  ·rename_i hz;cases h;obtain⟨rfl,_⟩:=hx.str;obtain⟨rfl,_⟩:=hy.str;refine .inr (.inl ⟨_,_,rfl,rfl,by rw[strOf_length,strOf_length];exact hz,?_⟩);rw[strOf_append];exact q _ H F r (Same.refl F) ⟨rfl,by rw[Qqj];exact hz⟩
  ·cases h
 ·split at h
  ·rename_i hz;cases h;obtain⟨_,a,vs,rfl,h1,h2⟩:=hx.lst r.fr;obtain⟨_,b,ws,rfl,h3,h4⟩:=hy.lst r.fr;refine .inr (.inr (.inl ⟨a,b,vs,ws,rfl,rfl,h1,h3,by rw[h2.length,h4.length];exact hz,λp hp=>?_⟩));obtain⟨r2,s2⟩:=r.new (o:=.lst (vs++ws)) hp;exact q _ _ _ r2 s2 ⟨by rw[Qqj];exact hz,p,_,rfl,upd_same,Reps.mono s2 _ _ (h2.append h4)⟩
  ·cases h
 ·split at h
  ·rename_i hz;cases h;obtain⟨z1,a,vs,rfl,h1,f1,h2⟩:=hx.tup r.fr;obtain⟨z2,b,ws,rfl,h3,f3,h4⟩:=hy.tup r.fr;by_cases hv:vs=[]
   ·subst hv;have e1:_=0:=h2.length.symm;have e2:=Qz6 e1;subst e2;refine .inr (.inr (.inr (.inr ⟨a,b,ws,rfl,rfl,h1,h3,?_⟩)));exact q _ H F r (Same.refl F) ⟨z2,b,ws,rfl,f3,h4⟩
   ·refine .inr (.inr (.inr (.inl ⟨a,b,vs,ws,rfl,rfl,h1,h3,hv,by rw[h2.length,h4.length];exact hz,λhw=>?_,λhw p hp=>?_⟩)))
    ·subst hw;have e1:_=0:=h4.length.symm;have e2:=Qz6 e1;subst e2;rw[Qxx] at q;exact q _ H F r (Same.refl F) ⟨z1,a,vs,rfl,f1,h2⟩
    ·obtain⟨r2,s2⟩:=r.new (o:=.tup (vs++ws)) hp;exact q _ _ _ r2 s2 ⟨by rw[Qqj];exact hz,p,_,rfl,SqT.of upd_same,Reps.mono s2 _ _ (h2.append h4)⟩
  ·cases h
 ·cases h
def BReps(K:Fg)(F H:Hp):List D->List V->Prop
 | [],vs=>vs=[]
 | d::ds,vs=>∃v r,vs=v::r/\BRep K F H d v/\BReps K F H ds r
def tAB(C:Cfg)(ev:EvA):TA:=λσ H Q=>∃(Pr F:Hp) (env env':Env) (ds:List D),Rel C Pr F env σ H/\ev env = .ok ds env'/\
 ∀vs H' F',Rel C Pr F' env' σ H'->Same F F'->BReps C.K F' H' ds vs->Q vs H'
def PXAB(X:Cx)(C:Cfg)(es:List Expr)(ev:EvA):Prop:=PA X es (tAB C ev)
def CallD(C:Cfg)(r:List V->Hp->VK->Prop)(g:List D->Option D):Prop:=∀(Pr F:Hp) (env:Env) (σ:L2.St) (H:Hp) (ds:List D) (d:D) (vs:List V) (Q:VK),Rel C Pr F env σ H->BReps C.K F H ds vs->g ds=some d->
 (∀v H' F',Rel C Pr F' env σ H'->Same F F'->Rep C.K F' d v->Q v H')->r vs H Q
def evCall(g:List D->Option D)(a:EvA):Ev:=λenv=>bindR (a env) λds env1=>liftR (g ds) env1
theorem call_go{r:List V->Hp->VK->Prop}{g:List D->Option D}{a:EvA}(o:CallD C r g)(σ:L2.St)(H:Hp)(Q:VK)(h:tE C (evCall g a) σ H Q):tCB r (tAB C a) σ H Q:=by obtain⟨Pr,F,env,env',d,rl,e,q⟩:=h;obtain⟨ds,env1,e1,e2⟩:=bindR_ok e;obtain⟨e3,rfl⟩:=liftR_ok e2;exact⟨Pr,F,env,env',ds,rl,e1,λvs H1 F1 r1 s1 p1=>o Pr F1 env' σ H1 ds d vs Q r1 p1 e3 λv H2 F2 r2 s2 p2=>q v H2 F2 r2 (s1.trans s2) p2⟩
theorem px_callB{x:Str}{p pos:Pos}{e:Expr}{es:List Expr}{id:String}{r:List V->Hp->VK->Prop}{g:List D->Option D}{a:EvA}(hc:CallR X (.builtin id) r)(o:CallD C r g)(hg:Gl X x)(hm:X.mg x=none)(hv:bootBuiltins x=some (.builtin id))(ha:PXAB X C (e::es) a)
  (hn:x ≠ "__name__":=by decide) (hdb:nDb x:=by decide) (he:starEach (e::es) X.env=(false,eval e X.env)::starEach es X.env:=by rfl) (hpl:(backTo pos (starEach es X.env)).any (·.1)=false:=by rfl) :
  PX X C (.Call (.Name x p) (e::es) [] pos) (evCall g a):=(pe_callB hc hg hm hv ha hn hdb he hpl).imp (call_go o)
theorem px_callTy{x:Str}{p pos:Pos}{e:Expr}{es:List Expr}{T:String}{r:List V->Hp->VK->Prop}{g:List D->Option D}{a:EvA}(hc:CallR X (.type T) r)(o:CallD C r g)(hg:Gl X x)(hm:X.mg x=none)(hv:bootBuiltins x=some (.type T))(ha:PXAB X C (e::es) a)
  (hn:x ≠ "__name__":=by decide) (hdb:nDb x:=by decide) (he:starEach (e::es) X.env=(false,eval e X.env)::starEach es X.env:=by rfl) (hpl:(backTo pos (starEach es X.env)).any (·.1)=false:=by rfl) :
  PX X C (.Call (.Name x p) (e::es) [] pos) (evCall g a):=(pe_callTy hc hg hm hv ha hn hdb he hpl).imp (call_go o)
theorem breps1{K:Fg}{F H:Hp}{d:D}{vs:List V}(h:BReps K F H [d] vs):∃v,vs=[v]/\BRep K F H d v:=by obtain⟨v,r,rfl,h1,h2⟩:=h;cases h2;exact⟨v,rfl,h1⟩
theorem breps2{K:Fg}{F H:Hp}{d e:D}{vs:List V}(h:BReps K F H [d,e] vs):∃v w,vs=[v,w]/\BRep K F H d v/\BRep K F H e w:=by obtain⟨v,r,rfl,h1,h2⟩:=h;obtain⟨w,rfl,h3⟩:=breps1 h2;exact⟨v,w,rfl,h1,h3⟩
def gLen:List D->Option D
 | [.str x]=>some (.int x.length)
 | [.tup xs]=>some (.int xs.length)
 | [.lst xs]=>some (.int xs.length)
 | [.arr xs]=>some (.int xs.length)
 | _=>none
theorem cd_len:CallD C (λxs H Q=>∃x n,xs=[x]/\LenV C.K x H n/\Q (.int n) H) gLen:=by
 intro Pr F env σ H ds d vs Q r hs h q;unfold gLen at h;split at h
 ·cases h;obtain⟨v,rfl,hv⟩:=breps1 hs;obtain⟨rfl,hz⟩:=hv.str;exact⟨_,_,rfl,⟨by rw[strOf_length];exact hz,(strOf_length _).symm⟩,q _ H F r (Same.refl F) rfl⟩
 ·cases h;obtain⟨v,rfl,hv⟩:=breps1 hs;obtain⟨_,a,ws,rfl,h1,_,h2⟩:=hv.tup r.fr;exact⟨_,_,rfl,.inr ⟨ws,h1,h2.length.symm⟩,q _ H F r (Same.refl F) rfl⟩
 ·cases h;obtain⟨v,rfl,hv⟩:=breps1 hs;obtain⟨_,a,ws,rfl,h1,h2⟩:=hv.lst r.fr;exact⟨_,_,rfl,.inl ⟨ws,SqL.of h1,h2.length.symm⟩,q _ H F r (Same.refl F) rfl⟩
 ·cases h;obtain⟨v,rfl,hv⟩:=breps1 hs;obtain⟨_,a,ws,rfl,h1,h2⟩:=hv.arr r.fr;exact⟨_,_,rfl,.inl ⟨ws,h1,h2.length.symm⟩,q _ H F r (Same.refl F) rfl⟩
 ·cases h
def gTuple:List D->Option D
 | [.tup xs]=>some (.tup xs)
 | [.lst xs]=>some (.tup xs)
 | _=>none
abbrev rTuple(K:Fg):List V->Hp->VK->Prop:=λxs H Q=>∃p ys,xs=[.ref p]/\((SqL K H p ys/\∀l,H l=none->Q (.ref l) (upd H l (.tup ys)))\/(SqT K H p ys/\Q (.ref p) H))
theorem cd_tuple:CallD C (rTuple C.K) gTuple:=by
 intro Pr F env σ H ds d vs Q r hs h q;unfold gTuple at h;split at h
 ·cases h;obtain⟨v,rfl,hv⟩:=breps1 hs;obtain⟨z,a,ws,rfl,h1,f1,h2⟩:=hv.tup r.fr;exact⟨a,ws,rfl,.inr ⟨h1,q _ H F r (Same.refl F) ⟨z,a,ws,rfl,f1,h2⟩⟩⟩
 ·cases h;obtain⟨v,rfl,hv⟩:=breps1 hs;obtain⟨z,a,ws,rfl,h1,h2⟩:=hv.lst r.fr;refine⟨a,ws,rfl,.inl ⟨SqL.of h1,λl hl=>?_⟩⟩;obtain⟨r2,s2⟩:=r.new (o:=.tup ws) hl;exact q _ _ _ r2 s2 ⟨z,l,ws,rfl,SqT.of upd_same,Reps.mono s2 _ _ h2⟩
 ·cases h
def signs(x:List Nat):List D:=x.map λc=>.str [c]
abbrev rListS:List V->Hp->VK->Prop:=λxs H Q=>∃z,xs=[.str z]/\z.length<=sizeLine/\∀l,H l=none->Q (.ref l) (upd H l (.lst (z.cps.toList.map λc=>V.str ⟨#[c]⟩)))
theorem call_listS(hh:X.calm=true):CallR X (.type "list") rListS:=by
 intro pins s σ H xs us Q I r h;obtain⟨z,rfl,hz,q⟩:=h;obtain⟨u,rfl,⟨t,rfl⟩⟩:=vals1 r;refine call_list_str (I.ok.hd hh) z t (λh' tk acc' c' kp e hacc=>?_) hz;refine⟨.ref s.heap.objs.size,_,I.laid kp (Qqy _) (show ObjOk X.prog X.w _ h' _ (.lst (z.cps.toList.map λc=>V.str ⟨#[c]⟩)) from⟨?_,acc'.toList,c',?_,by simpa using e⟩),rfl,q _ (I.hok.fresh (Qqy _))⟩
 ·simpa[Str.length] using hz
 ·obtain⟨hsz,hit⟩:=hacc;have go:∀(cs:List Nat) (vs:List Value),vs.length=cs.length->(∀(j:Nat) (v:Value),vs[j]? = some v->∃(c:Nat) (u:Tok),cs[j]? = some c/\v=Value.str ⟨#[c]⟩ u)->Vals (cs.map λc=>V.str ⟨#[c]⟩) vs:=by
   intro cs
   induction cs with
   | nil=>intro vs hl _;rw[Qz6 hl];exact .nil
   | cons c cs ih=>
    intro vs hl hv;cases vs with
    | nil=>simp at hl
    | cons v vs=>
     obtain⟨c',u,e1,e2⟩:=hv 0 v rfl;simp at e1;subst e1 e2;exact .cons ⟨u,rfl⟩ (ih vs (by simpa using hl) λj w hw=>by simpa using hv (j+1) w (by simpa using hw))
  refine go _ _ (by simpa using hsz) λj v hv=>?_;obtain⟨c,u,e1,e2⟩:=hit j v (by simpa using hv);exact⟨c,u,by simpa using e1,e2⟩
def gList:List D->Option D
 | [.tup xs]=>some (.lst xs)
 | [.lst xs]=>some (.lst xs)
 | [.str x]=>some (.lst (signs x))
 | _=>none
abbrev rList(K:Fg):List V->Hp->VK->Prop:=λxs H Q=>(∃p ys,xs=[.ref p]/\(SqL K H p ys\/SqT K H p ys)/\∀l,H l=none->Q (.ref l) (upd H l (.lst ys)))\/rListS xs H Q
theorem call_list2(hh:X.calm=true):CallR X (.type "list") (rList X.K):=call_list_of.or (call_listS hh)
theorem reps_signs{K:Fg}{F:Hp}:∀x:List Nat,Reps K F (signs x) (x.map λc=>V.str ⟨#[c]⟩)
 | []=>rfl
 | c::x=>⟨_,_,rfl,⟨rfl,by rw[Qj7];simp⟩,reps_signs x⟩
theorem cd_list:CallD C (rList C.K) gList:=by
 intro Pr F env σ H ds d vs Q r hs h q;unfold gList at h;split at h
 ·cases h;obtain⟨v,rfl,hv⟩:=breps1 hs;obtain⟨z,a,ws,rfl,h1,f1,h2⟩:=hv.tup r.fr;refine .inl ⟨a,ws,rfl,.inr h1,λl hl=>?_⟩;obtain⟨r2,s2⟩:=r.new (o:=.lst ws) hl;exact q _ _ _ r2 s2 ⟨z,l,ws,rfl,upd_same,Reps.mono s2 _ _ h2⟩
 ·cases h;obtain⟨v,rfl,hv⟩:=breps1 hs;obtain⟨z,a,ws,rfl,h1,h2⟩:=hv.lst r.fr;refine .inl ⟨a,ws,rfl,.inl (SqL.of h1),λl hl=>?_⟩;obtain⟨r2,s2⟩:=r.new (o:=.lst ws) hl;exact q _ _ _ r2 s2 ⟨z,l,ws,rfl,upd_same,Reps.mono s2 _ _ h2⟩
 ·rename_i x;cases h;obtain⟨v,rfl,hv⟩:=breps1 hs;obtain⟨rfl,hz⟩:=hv.str;refine .inr ⟨_,rfl,by rw[strOf_length];exact hz,λl hl=>?_⟩;obtain⟨r2,s2⟩:=r.new (o:=.lst ((strOf x).cps.toList.map λc=>V.str ⟨#[c]⟩)) hl;refine q _ _ _ r2 s2 ⟨by simpa[signs] using hz,l,_,rfl,upd_same,?_⟩;have e:(strOf x).cps.toList=x:=by simp[strOf]
  rw[e];exact reps_signs x
 ·cases h
def gMax:List D->Option D
 | [.int i,.int j]=>some (.int (if j > i then j else i))
 | _=>none
def gMin:List D->Option D
 | [.int i,.int j]=>some (.int (if j<i then j else i))
 | _=>none
theorem cd_max:CallD C (λxs H Q=>∃i j,xs=[.int i,.int j]/\Q (.int (if j > i then j else i)) H) gMax:=by
 intro Pr F env σ H ds d vs Q r hs h q;unfold gMax at h;split at h
 ·cases h;obtain⟨v,w,rfl,hv,hw⟩:=breps2 hs;obtain rfl:=hv.int;obtain rfl:=hw.int;exact⟨_,_,rfl,q _ H F r (Same.refl F) rfl⟩
 ·cases h
theorem cd_min:CallD C (λxs H Q=>∃i j,xs=[.int i,.int j]/\Q (.int (if j<i then j else i)) H) gMin:=by
 intro Pr F env σ H ds d vs Q r hs h q;unfold gMin at h;split at h
 ·cases h;obtain⟨v,w,rfl,hv,hw⟩:=breps2 hs;obtain rfl:=hv.int;obtain rfl:=hw.int;exact⟨_,_,rfl,q _ H F r (Same.refl F) rfl⟩
 ·cases h
def gDivmod:List D->Option D
 | [.int i,.int j]=>if 0<j/\j<1073741824 then some (.tup [.int (i / j),.int (i % j)]) else none
 | _=>none
theorem cd_divmod:CallD C (λxs H Q=>∃i j,xs=[.int i,.int j]/\CDiv i j/\∀p,H p=none->Q (.ref p) (upd H p (.tup [.int (i / j),.int (i % j)]))) gDivmod:=by
 intro Pr F env σ H ds d vs Q r hs h q;unfold gDivmod at h;split at h
 ·split at h
  ·rename_i hj;cases h;obtain⟨v,w,rfl,hv,hw⟩:=breps2 hs;obtain rfl:=hv.int;obtain rfl:=hw.int;refine⟨_,_,rfl,hj,λp hp=>?_⟩;obtain⟨r2,s2⟩:=r.new (o:=.tup [.int _,.int _]) hp;exact q _ _ _ r2 s2 ⟨by rw[Qj7];simp,p,_,rfl,SqT.of upd_same,⟨_,_,rfl,rfl,_,_,rfl,rfl,rfl⟩⟩
  ·cases h
 ·cases h
def tyD:D->String
 | .non=>"NoneType"
 | .bl _=>"bool"
 | .int _=>"int"
 | .str _=>"str"
 | .tup _=>"tuple"
 | .lst _=>"list"
 | .arr _=>"list"
 | .dct _=>"dict"
 | .dcn _=>"dict"
 | .clo _ _=>"NoneType"
def instD(d:D)(T:String):Bool:=tyD d == T||(tyD d == "bool" && T == "int")
theorem isi_go{d:D}{u c:Value}{b:Bool}{s:Shared}{A:Around}{E:Value->Shared->Prop}{Q:Value->Shared->Prop}(kin:X.K.In s.heap)(nc:∀st ds,d ≠ .clo st ds)(h:Sh s.heap d u)(e:PySem.W.kitOne X.K (.type (tyD d)) c=some b)(q:∀tk,Q (.bool b) { s with toks:=tk }) :
  wpAny (model X.prog X.w) A (call (.builtin "isinstance") [u,c]) Q E s:=by
 cases d with
 | non=>cases h;exact PySem.W.kia_one PySem.W.kitx_none kin True.intro e (λz=>nomatch z) q
 | bl y=>cases h;exact PySem.W.kia_one PySem.W.kitx_bool kin True.intro e (λz=>nomatch z) q
 | int i=>obtain⟨t,rfl⟩:=h;exact PySem.W.kia_one PySem.W.kitx_int kin True.intro e (λz=>nomatch z) q
 | str y=>obtain⟨t,rfl⟩:=h;exact PySem.W.kia_one PySem.W.kitx_str kin True.intro e (λz=>nomatch z) q
 | tup xs=>
  obtain⟨a,its,rfl,p,_⟩:=h;obtain⟨o,h1,h2,_⟩:=p;exact PySem.W.kia_one PySem.W.kitx_tuple kin ⟨o,h1,h2⟩ e (λz=>nomatch z) q
 | lst xs=>
  obtain⟨a,its,rfl,p,_⟩:=h;obtain⟨o,h1,h2,_⟩:=p.isList;exact PySem.W.kia_one PySem.W.kitx_list kin ⟨o,h1,h2⟩ e (λz=>nomatch z) q
 | arr xs=>
  obtain⟨a,its,rfl,p,_⟩:=h;obtain⟨o,h1,h2,_⟩:=p.isList;exact PySem.W.kia_one PySem.W.kitx_list kin ⟨o,h1,h2⟩ e (λz=>nomatch z) q
 | dct kvs=>
  obtain⟨a,o,rfl,h1,h2⟩:=h;exact PySem.W.kia_one PySem.W.kitx_dict kin ⟨o,h1,h2.1⟩ e (λz=>nomatch z) q
 | dcn kvs=>
  obtain⟨a,o,rfl,h1,h2⟩:=h;exact PySem.W.kia_one PySem.W.kitx_dict kin ⟨o,h1,h2.1⟩ e (λz=>nomatch z) q
 | clo st ds=>exact(nc st ds rfl).elim
def gIsi(T:String)(d:D):Option D:=match d with
 | .clo _ _=>none
 | _=>some (.bl (instD d T))
theorem gIsi_ok{T:String}{d e:D}(h:gIsi T d=some e):(∀st ds,d ≠ .clo st ds)/\e = .bl (instD d T):=by cases d<;>simp[gIsi] at h<;>exact⟨λ_ _ z=>(by cases z),h.symm⟩
theorem call_isi{T:String}(hk:∀d:D,PySem.W.kitOne X.K (.type (tyD d)) (.type T)=some (instD d T)) :
  CallR X (.builtin "isinstance") (λxs H Q=>∃d x,xs=[x,.ty T]/\(∀st ds,d ≠ .clo st ds)/\Rep X.K H d x/\Q (.bl (instD d T)) H):=by
 intro pins s σ H xs us Q I r h;obtain⟨d,x,rfl,nc,hr,q⟩:=h;obtain⟨u,w,rfl,r1,r2⟩:=vals2 r;cases r2;exact isi_go (X:=X) I.kIn nc (Rep.sh I d x u hr r1) (hk d) λtk=>⟨.bl _,H,I.tok tk,rfl,q⟩
def blsOf:List D->Option (List Bool)
 | []=>some []
 | .bl b::r=>(blsOf r).map (b :: ·)
 | _=>none
theorem reps_bls{K:Fg}{F:Hp}:∀{ds:List D} {bs:List Bool} {vs:List V},blsOf ds=some bs->Reps K F ds vs->vs=bs.map V.bl
 | [],bs,vs,h,hr=>by simp[blsOf] at h;subst h;cases hr;rfl
 | d::ds,bs,vs,h,hr=>by
  obtain⟨v,r,rfl,h1,h2⟩:=hr;cases d with
  | bl b=>
   simp only[blsOf] at h;cases e:blsOf ds with
   | none=>rw[e] at h;cases h
   | some cs=>
    rw[e] at h;cases h;cases h1;rw[reps_bls e h2]
    rfl
  | _=>simp[blsOf] at h
theorem vals_bls:∀{bs:List Bool} {us:List Value},Vals (bs.map V.bl) us->us=bs.map Value.bool
 | [],_,.nil=>rfl
 | b::bs,_,.cons r t=>by
  cases r;rw[vals_bls t]
  rfl
theorem all_range_get(bs:List Bool):(List.range bs.length).all (λi=>bs.getD i true)=bs.all id:=by
 induction bs with
 | nil=>rfl
 | cons b bs ih=>
  rw[Qqk,List.range_succ_eq_map,List.all_cons,List.all_map,List.all_cons];simp only[List.getD_cons_zero,id]
  congr 1
theorem call_all2(hc:X.calm=true):CallR X (.builtin "all") (λxs H Q=>∃(p:Addr) (bs:List Bool),xs=[.ref p]/\SqL X.K H p (bs.map V.bl)/\Q (.bl (bs.all id)) H):=by
 intro pins s σ H xs us Q I r h;obtain⟨p,bs,rfl,hq,q⟩:=h;obtain⟨u,rfl,rx⟩:=vals1 r;cases rx;obtain⟨its,rv,pl,_⟩:=I.list hq;have e:=vals_bls rv;subst e;refine call_all_walk (wpAny_pyIter_list pl.isList ?_);have hlt:p<s.heap.objs.size:=by obtain⟨o,e,_⟩:=pl.isList;exact Qq7 e
 refine⟨s.heap.objs.size,_,_,_,_,_,λi=>bs.getD i true,rfl,Walks.list (A:=X.A.in1) (show X.A.in1.handled=none from I.ok.hd hc) s.heap.objs.size p (Qwz hlt) (bs.map Value.bool).toArray,⟨⟨_,Qq5 _ rfl,rfl,rfl⟩,by obtain⟨o,e,rr⟩:=pl.isList;exact⟨o,Qqz _ e,rr⟩⟩,?_,λh' tk hk=>?_⟩
 ·intro i v s' Q' E' hv hq';have hv:(bs.map Value.bool).toArray[i]? = some v:=hv;rw[List.getElem?_toArray,Qw8] at hv;cases hb:bs[i]? with
  | none=>rw[hb] at hv;cases hv
  | some b=>
   rw[hb] at hv;cases hv;refine Qz1 ?_;have this:bs.getD i true=b:=by simp[Qjj,hb]
   have hq':Q' (bs.getD i true) s':=hq'
   rwa [this] at hq'
 ·have I1:Inv X pins σ H { s with heap:=h',toks:=tk }:=I.kept λb o e=>hk b o (by simp;exact Qwz (Qq7 e)) (Qqz _ e);refine⟨.bl _,H,I1,rfl,?_⟩;have e2:(bs.map Value.bool).toArray.size=bs.length:=by simp
  rw[e2,all_range_get];exact q
def gAll:List D->Option D
 | [.lst ds]=>(blsOf ds).map λbs=>.bl (bs.all id)
 | _=>none
theorem cd_all:CallD C (λxs H Q=>∃(p:Addr) (bs:List Bool),xs=[.ref p]/\SqL C.K H p (bs.map V.bl)/\Q (.bl (bs.all id)) H) gAll:=by
 intro Pr F env σ H ds d vs Q r hs h q;unfold gAll at h;split at h
 ·rename_i es;cases e:blsOf es with
  | none=>rw[e] at h;cases h
  | some bs=>
   rw[e] at h;cases h;obtain⟨v,rfl,hv⟩:=breps1 hs;obtain⟨z,a,ws,rfl,h1,h2⟩:=hv.lst r.fr;have e2:=reps_bls e h2;subst e2;exact⟨a,bs,rfl,SqL.of h1,q _ H F r (Same.refl F) rfl⟩
 ·cases h
def strsD:List D->Option (List (List Nat))
 | []=>some []
 | .str x::r=>(strsD r).map (x :: ·)
 | _=>none
def joinN(sep:List Nat):List (List Nat)->List Nat
 | []=>[]
 | x::r=>r.foldl (λacc y=>acc++sep++y) x
theorem join_str(sep:List Nat)(xs:List (List Nat)):Txt.join (strOf sep) (xs.map strOf)=strOf (joinN sep xs):=by
 unfold Txt.join;unfold Builtin.Str.glued;cases xs with
 | nil=>rfl
 | cons x r=>
  show(⟨(r.map strOf).foldl (λacc p=>acc++(strOf sep).cps++p.cps) (strOf x).cps⟩:Str)=strOf (r.foldl (λacc y=>acc++sep++y) x);have go:∀(r:List (List Nat)) (x:List Nat),(r.map strOf).foldl (λacc p=>acc++(strOf sep).cps++p.cps) (strOf x).cps=(strOf (r.foldl (λacc y=>acc++sep++y) x)).cps:=by
   intro r
   induction r with
   | nil=>intro x;rfl
   | cons y r ih=>
    intro x;rw[Qq9,Qzk,Qzk];rw[<-ih (x++sep++y)]
    congr 1
    simp[strOf]
  rw[go]
theorem reps_strs{K:Fg}{F:Hp}:∀{ds:List D} {xs:List (List Nat)} {vs:List V},strsD ds=some xs->Reps K F ds vs->vs=xs.map λx=>V.str (strOf x)
 | [],bs,vs,h,hr=>by simp[strsD] at h;subst h;cases hr;rfl
 | d::ds,bs,vs,h,hr=>by
  obtain⟨v,r,rfl,h1,h2⟩:=hr;cases d with
  | str b=>
   simp only[strsD] at h;cases e:strsD ds with
   | none=>rw[e] at h;cases h
   | some cs=>
    rw[e] at h;cases h;cases h1.1;rw[reps_strs e h2]
    rfl
  | _=>simp[strsD] at h
theorem vals_strs:∀{xs:List (List Nat)} {us:List Value},Vals (xs.map λx=>V.str (strOf x)) us->StrsAre us (xs.map strOf)
 | [],_,.nil=>.nil
 | x::xs,_,.cons r t=>by
  obtain⟨k,rfl⟩:=r;exact .cons _ k (vals_strs t)
def joinFits(sep:List Nat)(xs:List (List Nat)):Bool:=decide ((xs.map List.length).sum+xs.length*sep.length<=16777216)
def rJoin(K:Fg):V->List V->Hp->VK->Prop:=λx vs H Q=>∃sep xs p,x = .str (strOf sep)/\vs=[.ref p]/\SqL K H p (xs.map λx=>V.str (strOf x))/\joinFits sep xs=true/\Q (.str (strOf (joinN sep xs))) H
theorem mt_join:MtR X "str.join" (rJoin X.K):=by
 intro pins s σ H x vs v us Q I rx rv h;obtain⟨sep,xs,p,rfl,rfl,hq,hf,q⟩:=h;obtain⟨t,rfl⟩:=rx;obtain⟨u,rfl,ru⟩:=vals1 rv;cases ru;obtain⟨its,r,pl,_⟩:=I.list hq;have hs:=vals_strs r;refine join_list pl.isList (by simpa using hs) ?_ λt' k=>?_
 ·have hf':=Qw2 hf;have e:((xs.map strOf).map (·.length))=xs.map List.length:=by
   rw[Qz7];apply Qj3;intro z _;exact strOf_length z
  rw[e,strOf_length,Qqx];exact hf'
 ·rw[join_str];exact⟨.str _,H,I.tok k,⟨t',rfl⟩,q⟩
theorem sum_join(sep:List Nat):∀(r:List (List Nat)) (x:List Nat),(r.foldl (λacc y=>acc++sep++y) x).length=x.length+(r.map List.length).sum+r.length*sep.length
 | [],x=>by simp
 | y::r,x=>by
  rw[Qzk,sum_join sep r,Qqj,Qqj,Qq9,List.sum_cons,Qqk,Nat.add_mul];omega
theorem joinN_le{sep:List Nat}{xs:List (List Nat)}(h:joinFits sep xs=true):(joinN sep xs).length<=sizeLine:=by
 have h':=Qw2 h;rw[Qj7];cases xs with
 | nil=>simp[joinN]
 | cons x r=>
  show(r.foldl (λacc y=>acc++sep++y) x).length<=_;rw[sum_join];rw[Qq9,List.sum_cons,Qqk,Nat.add_mul] at h';omega
def gJoin(x y:D):Option D:=match x,y with
 | .str sep,.lst ds=>(match strsD ds with
  | some xs=>if joinFits sep xs=true then some (.str (joinN sep xs)) else none
  | none=>none)
 | _,_=>none
theorem px_join{o e:Expr}{a b:Ev}{apos cpos:Pos}(hK:X.K=C.K)(ho:PX X C o a)(he:PXB X C e b)(hbase:attributeBase o "join" X.env (eval o X.env)=eval o X.env:=by rfl)
  (hs:sEn e X.env:=by rfl)
  (hfew:((backTo cpos (starEach [e] X.env)).all (λx=>!x.1)&&(backToKw cpos (keywordEach [] X.env)).all (λx=>x.1.isSome)
   && decide ([e].length+([]:List Keyword).length+(if ([]:List Keyword).isEmpty then 0 else 1)<30))=true:=by rfl)
  (hline:(apos.endLine == cpos.line)=true:=by rfl) (hplain:(backTo cpos (starEach [] X.env)).any (·.1)=false:=by rfl) :
  PX X C (.Call (.Attribute o "join" apos) [e] [] cpos) (evBin gJoin a b):=by
 refine(pe_bm PySem.F.plainAttrs_str PySem.F.slot_str_join PySem.F.type_str_join mt_join ho (pa_cons he pa_nil hs) hbase hfew hline hs hplain).imp λσ H Q h=>?_;obtain⟨Pr,F,env,env',d,rl,e0,q⟩:=h;obtain⟨x,env1,e1,e2⟩:=bindR_ok e0;obtain⟨y,env2,e3,e4⟩:=bindR_ok e2;obtain⟨e5,rfl⟩:=liftR_ok e4;unfold gJoin at e5;split at e5
 ·rename_i sep ds;split at e5
  ·rename_i xs hxs;split at e5
   ·rename_i hf;cases e5;refine⟨Pr,F,env,env1,_,rl,e1,λvx H1 F1 r1 s1 p1=>?_⟩;obtain⟨rfl,_⟩:=p1;refine⟨rfl,Pr,F1,env1,env',_,r1,e3,λvy H2 F2 r2 s2 p2=>?_⟩;obtain⟨z,l,ws,rfl,h1,h2⟩:=p2.lst r2.fr;have e6:=reps_strs hxs h2;subst e6;exact⟨sep,xs,l,rfl,rfl,SqL.of h1,hf,q _ H2 F2 r2 (s1.trans s2) ⟨rfl,joinN_le hf⟩⟩
   ·cases e5
  ·cases e5
 ·cases e5
end
theorem Rel.put{C:Cfg}{Pr F:Hp}{env:Env}{σ:L2.St}{H:Hp}(r:Rel C Pr F env σ H){i:Nat}{d:D}{v:V}(hfx:C.fx i=none)(p:Rep C.K F d v):Rel C Pr F (env.set i (some (false,d))) (σ.set i (some v)) H:=by
 refine⟨r.pr,r.fr,by rw[Qwy,Qwy];exact r.len,λj e he=>?_,λj e he=>?_,λj k e f b hj hk g1 g2=>?_,r.dj,λj a hj=>?_⟩
 ·by_cases hji:j=i
  ·subst hji;have hl:j<env.length:=by
    have:=(Qq6.mp he).1
    rwa [Qwy] at this
   rw[Qq8 hl] at he;cases he;exact⟨v,Qq8 (by rw[<-r.len];exact hl),p⟩
  ·rw[Qqw (Ne.symm hji)] at he ⊢;exact r.val j e he
 ·by_cases hji:j=i
  ·subst hji;have hl:j<env.length:=by
    have:=(Qq6.mp he).1
    rwa [Qwy] at this
   rw[Qq8 hl] at he;cases he
  ·rw[Qqw (Ne.symm hji)] at he ⊢;exact r.own j e he
 ·have nn:∀(j:Nat) (e:D),(env.set i (some (false,d)))[j]? = some (some (true,e))->j≠i:=λj e he z=>by
   subst z;have hl:j<env.length:=by
    have:=(Qq6.mp he).1
    rwa [Qwy] at this
   rw[Qq8 hl] at he;cases he
  have nj:=nn j e hj;have nk:=nn k f hk;rw[Qqw (Ne.symm nj)] at hj g1;rw[Qqw (Ne.symm nk)] at hk g2;exact r.apart j k e f b hj hk g1 g2
 ·have hji:j≠i:=λz=>by rw[z,hfx] at hj;cases hj
  rw[Qqw (Ne.symm hji)];exact r.fix j a hj
structure New(K:Fg)(Pr F:Hp)(env:Env)(σ:L2.St)(H:Hp)(d:D)(a:Addr):Prop where
 own:OwnAt K F H d a
 nF:F a=none
 nP:Pr a=none
 ap:∀(j:Nat) (e:D),env[j]? = some (some (true,e))->σ[j]? = some (some (V.ref a))->False
theorem New.of{C:Cfg}{Pr F:Hp}{env:Env}{σ:L2.St}{H:Hp}{a:Addr}{o:HO}{d:D}(r:Rel C Pr F env σ H)(h:H a=none)(ho:OwnAt C.K F (upd H a o) d a):New C.K Pr F env σ (upd H a o) d a:=
 ⟨ho,r.fr.free h,r.pr.free h,λj e he hs=>by
  obtain⟨b,h1,h2,_⟩:=r.own j e he;rw[hs] at h1;cases h1;obtain⟨u,hu⟩:=h2.some;rw[h] at hu;cases hu⟩
theorem Rel.putOwn{C:Cfg}{Pr F:Hp}{env:Env}{σ:L2.St}{H:Hp}(r:Rel C Pr F env σ H){i:Nat}{d:D}{a:Addr}(hfx:C.fx i=none)(n:New C.K Pr F env σ H d a):Rel C Pr F (env.set i (some (true,d))) (σ.set i (some (.ref a))) H:=by
 have same:∀(j:Nat) (x:Bool×D),(env.set i (some (true,d)))[j]? = some (some x)->j=i->x=(true,d)/\j<env.length:=λj x he z=>by
  subst z;have hl:j<env.length:=by
   have:=(Qq6.mp he).1
   rwa [Qwy] at this
  rw[Qq8 hl] at he;cases he;exact⟨rfl,hl⟩
 refine⟨r.pr,r.fr,by rw[Qwy,Qwy];exact r.len,λj e he=>?_,λj e he=>?_,λj k e f b hj hk g1 g2=>?_,r.dj,λj a hj=>?_⟩
 ·by_cases hji:j=i
  ·have:=(same j _ he hji).1;cases this
  ·rw[Qqw (Ne.symm hji)] at he ⊢;exact r.val j e he
 ·by_cases hji:j=i
  ·obtain⟨z,hl⟩:=same j _ he hji;cases z;subst hji;exact⟨a,Qq8 (by rw[<-r.len];exact hl),n.own,n.nF,n.nP⟩
  ·rw[Qqw (Ne.symm hji)] at he ⊢;exact r.own j e he
 ·by_cases nj:j=i
  ·by_cases nk:k=i
   ·rw[nj,nk]
   ·obtain⟨z,hl⟩:=same j _ hj nj;subst nj;rw[Qq8 (by rw[<-r.len];exact hl)] at g1;cases g1;rw[Qqw (Ne.symm nk)] at hk g2;exact(n.ap k f hk g2).elim
  ·rw[Qqw (Ne.symm nj)] at hj g1;by_cases nk:k=i
   ·obtain⟨z,hl⟩:=same k _ hk nk;subst nk;rw[Qq8 (by rw[<-r.len];exact hl)] at g2;cases g2;exact(n.ap j e hj g1).elim
   ·rw[Qqw (Ne.symm nk)] at hk g2;exact r.apart j k e f b hj hk g1 g2
 ·have hji:j≠i:=λz=>by rw[z,hfx] at hj;cases hj
  rw[Qqw (Ne.symm hji)];exact r.fix j a hj
theorem Rel.keep{C:Cfg}{Pr F:Hp}{env:Env}{σ:L2.St}{H:Hp}{d:D}{a:Addr}(r:Rel C Pr F env σ H)(n:New C.K Pr F env σ H d a):∃F',Rel C Pr F' env σ H/\Same F F'/\Rep C.K F' d (.ref a):=by
 obtain⟨o,ho⟩:=n.own.some;have s1:Same F (upd F a o):=same_upd n.nF;have rep:Rep C.K (upd F a o) d (.ref a):=by
  have h2:=n.own;cases d with
  | lst xs=>obtain⟨z,vs,g1,g2⟩:=h2;rw[ho] at g1;cases g1;exact⟨z,a,vs,rfl,upd_same,Reps.mono s1 _ _ g2⟩
  | dct kvs=>obtain⟨z,ks,g1,g2⟩:=h2;rw[ho] at g1;cases g1;exact⟨z,a,ks,rfl,.inl upd_same,RepKs.mono s1 _ _ g2⟩
  | dcn kvs=>obtain⟨z,ks,g1,g2⟩:=h2;rw[ho] at g1;cases g1;exact⟨z,a,ks,rfl,.inl upd_same,RepNs.mono s1 _ _ g2⟩
  | _=>exact h2.elim
 refine⟨upd F a o,⟨r.pr,λb u e=>?_,r.len,λj e he=>?_,λj e he=>?_,r.apart,λb u e=>?_,r.fix⟩,s1,rep⟩
 ·by_cases hb:b=a
  ·subst hb;rw[upd_same] at e;cases e;exact ho
  ·rw[upd_ne hb] at e;exact r.fr b u e
 ·obtain⟨v,g1,g2⟩:=r.val j e he;exact⟨v,g1,Rep.mono s1 e v g2⟩
 ·obtain⟨b,g1,g2,g3,g4⟩:=r.own j e he;have hb:b≠a:=λz=>by subst z;exact n.ap j e he g1
  exact⟨b,g1,g2.mono s1 rfl,by rw[upd_ne hb];exact g3,g4⟩
 ·by_cases hb:b=a
  ·subst hb;exact n.nP
  ·rw[upd_ne hb] at e;exact r.dj b u e
theorem Rel.write{C:Cfg}{Pr F:Hp}{env:Env}{σ:L2.St}{H:Hp}{i:Nat}{d d':D}{a:Addr}{u:HO}(r:Rel C Pr F env σ H)(h:env[i]? = some (some (true,d)))(hs:σ[i]? = some (some (V.ref a)))(ho:OwnAt C.K F (upd H a u) d' a) :
  Rel C Pr F (env.set i (some (true,d'))) σ (upd H a u):=by
 obtain⟨a',h1,h2,h3,h4⟩:=r.own i d h;rw[hs] at h1;cases h1;have hi:i<env.length:=(Qq6.mp h).1;have ne:∀(j:Nat) (e:D) (b:Addr),j≠i->env[j]? = some (some (true,e))->σ[j]? = some (some (V.ref b))->b≠a:=λj e b hj he g z=>hj (r.apart j i e d a he h (by rw[<-z];exact g) hs);refine⟨λb w e=>?_,λb w e=>?_,by rw[Qwy];exact r.len,λj e he=>?_,λj e he=>?_,λj k e f b hj hk g1 g2=>?_,r.dj,r.fix⟩
 ·have hb:b≠a:=λz=>by rw[z,h4] at e;cases e
  rw[upd_ne hb];exact r.pr b w e
 ·have hb:b≠a:=λz=>by rw[z,h3] at e;cases e
  rw[upd_ne hb];exact r.fr b w e
 ·by_cases hj:j=i
  ·subst hj;rw[Qq8 hi] at he;cases he
  ·rw[Qqw (Ne.symm hj)] at he;exact r.val j e he
 ·by_cases hj:j=i
  ·subst hj;rw[Qq8 hi] at he;cases he;exact⟨a,hs,ho,h3,h4⟩
  ·rw[Qqw (Ne.symm hj)] at he;obtain⟨b,g1,g2,g3,g4⟩:=r.own j e he;exact⟨b,g1,g2.mono (Same.refl F) (upd_ne (ne j e b hj he g1)),g3,g4⟩
 ·have un:∀(j:Nat) (e:D),(env.set i (some (true,d')))[j]? = some (some (true,e))->∃e',env[j]? = some (some (true,e')):=λj e he=>by
   by_cases hj:j=i
   ·subst hj;exact⟨d,h⟩
   ·rw[Qqw (Ne.symm hj)] at he;exact⟨e,he⟩
  obtain⟨e',hj'⟩:=un j e hj;obtain⟨f',hk'⟩:=un k f hk;exact r.apart j k e' f' b hj' hk' g1 g2
def tN(C:Cfg)(ev:Ev):TE:=λσ H Q=>∃(Pr F:Hp) (env env':Env) (d:D),Rel C Pr F env σ H/\ev env = .ok d env'/\
 ∀a H' F',Rel C Pr F' env' σ H'->Same F F'->New C.K Pr F' env' σ H' d a->Q (.ref a) H'
def PXN(X:Cx)(C:Cfg)(e:Expr)(ev:Ev):Prop:=PE X e (tN C ev)
section
variable{X:Cx}{C:Cfg}{pos:Pos}
theorem PXN.px{e:Expr}{ev:Ev}(h:PXN X C e ev):PX X C e ev:=PE.imp h λσ H Q hq=>by
 obtain⟨Pr,F,env,env',d,r,e,q⟩:=hq;refine⟨Pr,F,env,env',d,r,e,λa H' F' r' s' n'=>?_⟩;obtain⟨F2,r2,s2,p2⟩:=r'.keep n';exact q _ _ F2 r2 (s'.trans s2) p2
theorem pxn_lst{es:List Expr}{r:EvA}(h:PXA X C es r):PXN X C (.List es pos) (evLst r):=(pe_lst h).imp λσ H Q hq=>by
 obtain⟨Pr,F,env,env',d,rl,e,q⟩:=hq;obtain⟨ds,env1,e1,e2⟩:=bindR_ok e;split at e2
 ·rename_i hz;cases e2;refine⟨Pr,F,env,env',ds,rl,e1,λvs H1 F1 r1 s1 p1=>⟨by rw[p1.length];exact hz,λp hp=>?_⟩⟩;exact q _ _ F1 (r1.fresh hp) s1 (New.of r1 hp ⟨hz,vs,upd_same,p1⟩)
 ·cases e2
abbrev GV:=D->Env->Option Env
abbrev GVs:=List D->Env->Option Env
def tG(C:Cfg)(lo:Nat)(gv:GV):TG:=λv σ H Q=>∃(Pr F:Hp) (env env':Env) (d:D),Rel C Pr F env σ H/\Rep C.K F d v/\gv d env=some env'/\
 ∀σ' H' F',Rel C Pr F' env' σ' H'->Same F F'->σ'.take lo=σ.take lo->Q σ' H'
def tGs(C:Cfg)(lo:Nat)(gv:GVs):TGs:=λvs σ H Q=>∃(Pr F:Hp) (env env':Env) (ds:List D),Rel C Pr F env σ H/\Reps C.K F ds vs/\gv ds env=some env'/\
 ∀σ' H' F',Rel C Pr F' env' σ' H'->Same F F'->σ'.take lo=σ.take lo->Q σ' H'
def PXG(X:Cx)(C:Cfg)(lo:Nat)(e:Expr)(gv:GV):Prop:=PG X e (tG C lo gv)
def PXGs(X:Cx)(C:Cfg)(lo:Nat)(es:List Expr)(gv:GVs):Prop:=PGs X es (tGs C lo gv)
theorem _root_.L2.PG.imp{X:Cx}{e:Expr}{t t':TG}(h:PG X e t)(i:∀v σ H Q,t' v σ H Q->t v σ H Q):PG X e t':=λpins s σ H v u Q I r q=>h pins s σ H v u Q I r (i v σ H Q q)
theorem _root_.L2.PGs.imp{X:Cx}{e:List Expr}{t t':TGs}(h:PGs X e t)(i:∀v σ H Q,t' v σ H Q->t v σ H Q):PGs X e t':=λpins s σ H v u Q I r q=>h pins s σ H v u Q I r (i v σ H Q q)
def gvName(i:Nat):GV:=λd env=>some (env.set i (some (false,d)))
theorem pxg_name{lo i:Nat}{x:Str}(hN:X.N.Nodup)(hi:X.N[i]? = some x)(hx:Loc X.env.scope x)(hlo:lo<=i)(hfx:C.fx i=none)(hf:X.fn x=true\/X.env.scope.names.lookup x=some .local:=by first|exact .inl rfl|exact .inr rfl|assumption):PXG X C lo (.Name x pos) (gvName i):=
 (pg_name hN hi hx hf).imp λv σ H Q h=>by
  obtain⟨Pr,F,env,env',d,r,p,e,q⟩:=h;cases e;exact q _ _ F (r.put hfx p) (Same.refl F) (by rw[List.take_set_of_le hlo])
def gvNil:GVs:=λds env=>if ds.isEmpty then some env else none
def gvCons(g:GV)(gs:GVs):GVs:=λds env=>match ds with
 | d::r=>(g d env).bind λe1=>gs r e1
 | []=>none
theorem pxgs_nil{lo:Nat}:PXGs X C lo [] gvNil:=pgs_nil.imp λv σ H Q h=>by
 obtain⟨Pr,F,env,env',ds,r,p,e,q⟩:=h;cases ds with
 | nil=>cases e;cases p;exact⟨rfl,q _ _ F r (Same.refl F) rfl⟩
 | cons d ds=>cases e
def gvTup(n:Nat)(gs:GVs):GV:=λd env=>match d with
 | .tup ds=>if ds.length=n then gs ds env else none
 | _=>none
theorem pxg_tup{lo:Nat}{es:List Expr}{k:Nat}{gs:GVs}{n:Nat}(hc:X.calm=true)(hK:X.K=C.K)(h:PXGs X C lo es gs)
  (hn:(assignEach es X.env).length=n:=by rfl) (hst:(assignEach es X.env).findIdx? (·.1)=none:=by rfl):PXG X C lo (.Tuple es k pos) (gvTup n gs):=(pg_tup hc h hn hst).imp λv σ H Q h=>by
 obtain⟨Pr,F,env,env',d,r,p,e,q⟩:=h;cases d with
 | tup ds=>
  obtain⟨z,a,vs,rfl,h1,h2⟩:=p;unfold gvTup at e;simp only at e;split at e
  ·rename_i hl;rw[hK];exact⟨a,vs,rfl,Same.tupK r.fr h1,by rw[h2.length];exact hl,Pr,F,env,env',ds,r,h2,e,q⟩
  ·cases e
 | _=>cases e
def gvAt(i:Nat)(ix:Ev):GV:=λd env=>match env[i]? with
 | some (some (_,_))=>(match ix env with
  | .ok (.int k) env1=>(match env1[i]? with
   | some (some (true,.lst xs))=>(ixN xs.length k).map λj=>env1.set i (some (true,.lst (xs.set j d)))
   | _=>none)
  | _=>none)
 | _=>none
theorem pxg_at{lo i:Nat}{x:Str}{ix:Expr}{ev:Ev}{px:Pos}(hN:X.N[i]? = some x)(hv:Vis X.env.scope x)(h:PX X C ix ev)
  (ha:∀v,assign (.Subscript (.Name x px) ix pos) X.env v=(do
   let ov <-holding [v] (eval (.Name x px) X.env)
   let iv <-holding [v,ov] (eval ix X.env)
   standAt pos
   holding [v,ov,iv] (setItem ov iv v)
   release [v,ov,iv] []):=by intro _;rfl)
  (hd:nDb x:=by decide) (hcd:nCd x:=by decide):PXG X C lo (.Subscript (.Name x px) ix pos) (gvAt i ev):=
 (pg_sub (pe_var hN hv hd hcd) h set_list ha).imp λv σ H Q hq=>by
  obtain⟨Pr,F,env,env',d,r,p,e,q⟩:=hq;unfold gvAt at e;split at e
  ·rename_i o0 d0 h0;obtain⟨v0,hv0,_⟩:=r.rd h0;split at e
   ·rename_i k env1 e1;split at e
    ·rename_i xs h2;obtain⟨j,hj,e3⟩:=Qw0.mp e;subst e3;refine⟨v0,hv0,Pr,F,env,env1,.int k,r,e1,λvi H1 F1 r1 s1 p1=>?_⟩;cases p1;obtain⟨a,g1,⟨z,vs,g2,g3⟩,g4,g5⟩:=r1.own i _ h2;rw[hv0] at g1;cases g1;refine⟨a,vs,k,j,rfl,rfl,g2,by rw[g3.length];exact hj,?_⟩;refine q σ _ F1 (r1.write h2 hv0 ⟨by rw[Qwy];exact z,vs.set j v,upd_same,Reps.set (Rep.mono s1 d v p) j g3⟩) s1 rfl
    ·cases e
   ·cases e
  ·cases e
end
inductive Out where
 | nx (env:Env)
 | rt (o:Bool) (d:D) (env:Env)
 | bk (env:Env)
 | ct (env:Env)
 | stuck
abbrev EvS:=Env->Out
def Fin(C:Cfg)(Pr F:Hp)(D:Ends):Out->Prop
 | .nx env'=>∀σ' H' F',Rel C Pr F' env' σ' H'->Same F F'->D.nx σ' H'
 | .rt false d env'=>∀v σ' H' F',Rel C Pr F' env' σ' H'->Same F F'->Rep C.K F' d v->D.rt v H'
 | .rt true d env'=>∀a σ' H' F',Rel C Pr F' env' σ' H'->Same F F'->New C.K Pr F' env' σ' H' d a->D.rt (.ref a) H'
 | .bk env'=>∀σ' H' F',Rel C Pr F' env' σ' H'->Same F F'->D.bk σ' H'
 | .ct env'=>∀σ' H' F',Rel C Pr F' env' σ' H'->Same F F'->D.ct σ' H'
 | .stuck=>False
theorem Fin.mono{C:Cfg}{Pr F F1:Hp}{D:Ends}(s:Same F F1):∀{o:Out},Fin C Pr F D o->Fin C Pr F1 D o
 | .nx _,h=>λσ' H' F' r t=>h σ' H' F' r (s.trans t)
 | .rt false _ _,h=>λv σ' H' F' r t=>h v σ' H' F' r (s.trans t)
 | .rt true _ _,h=>λv σ' H' F' r t=>h v σ' H' F' r (s.trans t)
 | .bk _,h=>λσ' H' F' r t=>h σ' H' F' r (s.trans t)
 | .ct _,h=>λσ' H' F' r t=>h σ' H' F' r (s.trans t)
 | .stuck,h=>h
def tS(C:Cfg)(ev:EvS):TS:=λD σ H=>∃(Pr F:Hp) (env:Env),Rel C Pr F env σ H/\Fin C Pr F D (ev env)
def PXS(X:Cx)(C:Cfg)(st:Stmt)(ev:EvS):Prop:=PS X st (tS C ev)
def PXSs(X:Cx)(C:Cfg)(st:List Stmt)(ev:EvS):Prop:=PSs X st (tS C ev)
def bindO{α:Type}(x:R α)(f:α->Env->Out):Out:=match x with
 | .ok a env=>f a env
 | .stuck=>.stuck
theorem bindO_fin{C:Cfg}{Pr F:Hp}{D:Ends}{α:Type}{x:R α}{f:α->Env->Out}(h:Fin C Pr F D (bindO x f)):∃a env1,x = .ok a env1/\Fin C Pr F D (f a env1):=by
 cases x with
 | ok a env1=>exact⟨a,env1,rfl,h⟩
 | stuck=>exact h.elim
section
variable{X:Cx}{C:Cfg}{pos:Pos}
def stNext:EvS:=λenv=>.nx env
def stSeq(a b:EvS):EvS:=λenv=>match a env with
 | .nx e=>b e
 | .rt o d e=>.rt o d e
 | .bk e=>.bk e
 | .ct e=>.ct e
 | .stuck=>.stuck
theorem pxss_nil:PXSs X C [] stNext:=pss_nil.imp λD σ H h=>by
 obtain⟨Pr,F,env,r,f⟩:=h;exact f σ H F r (Same.refl F)
def stIf(t:EvT)(a b:EvS):EvS:=λenv=>bindO (t env) λc env1=>if c=true then a env1 else b env1
def stRet(a:Ev):EvS:=λenv=>bindO (a env) λd env1=>.rt false d env1
def stRetNew(a:Ev):EvS:=λenv=>bindO (a env) λd env1=>.rt true d env1
def stDrop(a:Ev):EvS:=λenv=>bindO (a env) λ_ env1=>.nx env1
def liftO(o:Option Env):Out:=match o with
 | some e=>.nx e
 | none=>.stuck
def stAsg(a:Ev)(g:GV):EvS:=λenv=>bindO (a env) λd env1=>liftO (g d env1)
theorem asg_go{a:Ev}{g:GV}{D:Ends}{σ:L2.St}{H:Hp}(h:tS C (stAsg a g) D σ H):tAsg (tE C a) (tG C 0 g) D σ H:=by
 obtain⟨Pr,F,env,r,f⟩:=h;obtain⟨d,env1,e1,f1⟩:=bindO_fin f;refine⟨Pr,F,env,env1,d,r,e1,λv H1 F1 r1 s1 p1=>?_⟩;cases e2:g d env1 with
 | none=>rw[e2] at f1;exact f1.elim
 | some env2=>rw[e2] at f1;exact⟨Pr,F1,env1,env2,d,r1,p1,e2,λσ2 H2 F2 r2 s2 _=>f1 σ2 H2 F2 r2 (s1.trans s2)⟩
theorem pxs_set{i:Nat}{x:Str}{e:Expr}{a:Ev}{pos':Pos}(hN:X.N.Nodup)(hi:X.N[i]? = some x)(hx:Loc X.env.scope x)(hfx:C.fx i=none)(he:PX X C e a)(hs:swapsWith e (some (.Name x pos')) pos.line X.env=pure false:=by rfl)(hf:X.fn x=true\/X.env.scope.names.lookup x=some .local:=by first|exact .inl rfl|exact .inr rfl|assumption) :
  PXS X C (.Assign [.Name x pos'] e pos) (stAsg a (gvName i)):=(ps_set hN hi hx he hs hf).imp λD σ H h=>by
 obtain⟨Pr,F,env,r,f⟩:=h;obtain⟨d,env1,e1,f1⟩:=bindO_fin f;exact⟨Pr,F,env,env1,d,r,e1,λv H1 F1 r1 s1 p1=>f1 _ H1 F1 (r1.put hfx p1) s1⟩
def stOwn(i:Nat)(a:Ev):EvS:=λenv=>bindO (a env) λd env1=>.nx (env1.set i (some (true,d)))
theorem pxs_own{i:Nat}{x:Str}{e:Expr}{a:Ev}{pos':Pos}(hN:X.N.Nodup)(hi:X.N[i]? = some x)(hx:Loc X.env.scope x)(hfx:C.fx i=none)(he:PXN X C e a)(hs:swapsWith e (some (.Name x pos')) pos.line X.env=pure false:=by rfl)(hf:X.fn x=true\/X.env.scope.names.lookup x=some .local:=by first|exact .inl rfl|exact .inr rfl|assumption) :
  PXS X C (.Assign [.Name x pos'] e pos) (stOwn i a):=(ps_set hN hi hx he hs hf).imp λD σ H h=>by
 obtain⟨Pr,F,env,r,f⟩:=h;obtain⟨d,env1,e1,f1⟩:=bindO_fin f;exact⟨Pr,F,env,env1,d,r,e1,λv H1 F1 r1 s1 p1=>f1 _ H1 F1 (r1.putOwn hfx p1) s1⟩
def stApp(i:Nat)(a:Ev):EvS:=λenv=>match env[i]? with
 | some (some (true,.lst _))=>bindO (a env) λd env1=>(match env1[i]? with
  | some (some (true,.lst xs))=>if xs.length<sizeLine then .nx (env1.set i (some (true,.lst (xs++[d])))) else .stuck
  | _=>.stuck)
 | _=>.stuck
theorem pxs_app{i:Nat}{x:Str}{e:Expr}{a:Ev}{px apos cpos:Pos}(hN:X.N[i]? = some x)(hv:Vis X.env.scope x)(he:PX X C e a)(hK:X.K=C.K)
  (hs:swapsWith (.Call (.Attribute (.Name x px) "append" apos) [e] [] cpos) none pos.line X.env=pure false:=by rfl)
  (hfew:((backTo cpos (starEach [e] X.env)).all (λx=>!x.1)&&(backToKw cpos (keywordEach [] X.env)).all (λx=>x.1.isSome)
   && decide (([e]:List Expr).length+([]:List Keyword).length+(if ([]:List Keyword).isEmpty then 0 else 1)<30))=true:=by rfl)
  (hbase:attributeBase (.Name x px) "append" X.env (eval (.Name x px) X.env)=eval (.Name x px) X.env:=by rfl)
  (hline:(apos.endLine == cpos.line)=true:=by rfl) (hst:sEn e X.env:=by rfl) (hplain:(backTo cpos (starEach [] X.env)).any (·.1)=false:=by rfl)
  (hd:nDb x:=by decide) (hcd:nCd x:=by decide):PXS X C (.Expr (.Call (.Attribute (.Name x px) "append" apos) [e] [] cpos) pos) (stApp i a):=by
 refine PS.imp (ps_expr (pe_bm PySem.F.plainAttrs_list PySem.F.slot_list_append PySem.F.type_list_append mt_append (pe_var hN hv hd hcd) (pa_cons he pa_nil hst) hbase hfew hline hst hplain) hs) λD σ H h=>?_;obtain⟨Pr,F,env,r,f⟩:=h;unfold stApp at f;split at f
 ·rename_i xs0 h0;obtain⟨d,env1,e1,f1⟩:=bindO_fin f;obtain⟨a0,hv0,⟨z0,vs0,g0,_⟩,_⟩:=r.own i _ h0;refine⟨_,hv0,.inl ⟨rfl,vs0,SqL.of g0⟩,Pr,F,env,env1,d,r,e1,λv H1 F1 r1 s1 p1=>?_⟩;split at f1
  ·rename_i xs h1;split at f1
   ·rename_i hz;obtain⟨a,g1,⟨z,vs,g2,g3⟩,g4,g5⟩:=r1.own i _ h1;rw[hv0] at g1;cases g1;refine⟨a0,vs,v,rfl,rfl,g2,by rw[g3.length];exact hz,?_⟩;exact f1 σ _ F1 (r1.write h1 hv0 ⟨by rw[Qqj];exact hz,vs++[v],upd_same,g3.append (Reps.one p1)⟩) s1
   ·exact f1.elim
  ·exact f1.elim
 ·exact f.elim
def Yields(K:Fg)(F:Hp)(ds:List D)(J:It):Prop:=∀(i:Nat) (H:Hp),Same F H->(ds[i]? = none->i=ds.length->J.stop i H)/\∀d,ds[i]? = some d->J.go i H/\∀x H',J.yld i H x H'->
 (H'=H/\Rep K F d x)\/∃p vs es,H p=none/\H'=upd H p (.tup vs)/\x = .ref p/\d = .tup es/\es.length<=sizeLine/\Reps K F es vs
def tI(C:Cfg)(ev:EvA):TI:=λσ H R=>∃(Pr F:Hp) (env env':Env) (ds:List D),Rel C Pr F env σ H/\ev env = .ok ds env'/\
 ∀J H' F',Rel C Pr F' env' σ H'->Same F F'->Yields C.K F' ds J->R J H'
def PXI(X:Cx)(C:Cfg)(tg iter:Expr)(ev:EvA):Prop:=PI X tg iter (tI C ev)
theorem _root_.L2.PI.imp{X:Cx}{tg e:Expr}{t t':TI}(h:PI X tg e t)(i:∀σ H R,t' σ H R->t σ H R):PI X tg e t':=λpins s σ H R I q=>h pins s σ H R I (i σ H R q)
theorem Yields.item{Pr F F1:Hp}{env:Env}{σ:L2.St}{H:Hp}{ds:List D}{J:It}{i:Nat}{d:D}{x:V}{H':Hp}(r:Rel C Pr F1 env σ H)(s:Same F F1)(y:Yields C.K F ds J)(hd:ds[i]? = some d)(hy:J.yld i H x H') :
  ∃F2,Rel C Pr F2 env σ H'/\Same F1 F2/\Rep C.K F2 d x:=by
 rcases((y i H (s.trans r.fr)).2 d hd).2 x H' hy with ⟨rfl,p⟩|⟨p,vs,es,hp,rfl,rfl,rfl,hz,q⟩
 ·exact⟨F1,r,Same.refl F1,Rep.mono s _ _ p⟩
 ·obtain⟨r2,s2⟩:=r.new (o:=.tup vs) hp;exact⟨_,r2,s2,hz,p,vs,rfl,SqT.of upd_same,Reps.mono (s.trans s2) _ _ q⟩
def forO(g:GV)(b:EvS):List D->EvS
 | [],env=>.nx env
 | d::ds,env=>(match g d env with
  | none=>.stuck
  | some e1=>(match b e1 with
   | .nx e2=>forO g b ds e2
   | .ct e2=>forO g b ds e2
   | .bk e2=>.nx e2
   | .rt o d e2=>.rt o d e2
   | .stuck=>.stuck))
def stFor(it:EvA)(g:GV)(b:EvS):EvS:=λenv=>bindO (it env) λds env1=>forO g b ds env1
theorem pxs_for{tg iter:Expr}{body:List Stmt}{it:EvA}{g:GV}{b:EvS}(hp:PassesOwn (model X.prog X.w) X.A X.env X.xe)(hc:X.calm=true)(hi:PXI X C tg iter it)(hg:PXG X C 0 tg g)(hb:PXSs X C body b)
  (hs:∀x,foldedSetIterable iter X.env x=pure x:=by intro _;rfl):PXS X C (.For tg iter body [] pos) (stFor it g b):=(ps_for hp hc hi hg hb hs).imp λD σ H h=>by
 obtain⟨Pr,F,env,r,f⟩:=h;obtain⟨ds,env1,e1,f1⟩:=bindO_fin f;refine⟨Pr,F,env,env1,ds,r,e1,λJ H1 F1 r1 s1 y1=>?_⟩;refine⟨λi m σ' H'=>m=ds.length - i/\i<=ds.length/\∃F' env',Rel C Pr F' env' σ' H'/\Same F1 F'/\Fin C Pr F' D (forO g b (ds.drop i) env'),⟨ds.length,rfl,Qz9 _,F1,env1,r1,Same.refl _,f1.mono s1⟩,?_⟩;rintro i m σ' H' ⟨rfl,hi,F',env',r',s',f'⟩;by_cases hl:i<ds.length
 ·have hd:ds[i]? = some ds[i]:=Qx3 hl;have hdr:ds.drop i=ds[i]::ds.drop (i+1):=Qz2 hl;have yy:=y1 i H' (s'.trans r'.fr);refine .inr ⟨(yy.2 _ hd).1,λσ2 H2=>∃F' env',Rel C Pr F' env' σ2 H2/\Same F1 F'/\Fin C Pr F' D (forO g b (ds.drop (i+1)) env'),λσ2 H2 h2=>⟨ds.length - (i+1),by omega,rfl,hl,h2⟩,λx H2 hy=>?_⟩;obtain⟨F2,r2,s2,p2⟩:=Yields.item r' s' y1 hd hy;rw[hdr] at f';have f2:=f'.mono s2;unfold forO at f2;cases eg:g ds[i] env' with
  | none=>rw[eg] at f2;exact f2.elim
  | some e2=>
   rw[eg] at f2;refine⟨Pr,F2,env',e2,ds[i],r2,p2,eg,λσ3 H3 F3 r3 s3 _=>⟨Pr,F3,e2,r3,?_⟩⟩;simp only at f2;have s13:Same F1 F3:=(s'.trans s2).trans s3;cases eb:b e2 with
   | nx e3=>rw[eb] at f2;exact λσ4 H4 F4 r4 s4=>⟨F4,e3,r4,s13.trans s4,f2.mono (s3.trans s4)⟩
   | ct e3=>rw[eb] at f2;exact λσ4 H4 F4 r4 s4=>⟨F4,e3,r4,s13.trans s4,f2.mono (s3.trans s4)⟩
   | bk e3=>rw[eb] at f2;exact λσ4 H4 F4 r4 s4=>f2 σ4 H4 F4 r4 (s3.trans s4)
   | rt o d e3=>rw[eb] at f2;cases o<;>exact λv σ4 H4 F4 r4 s4 p4=>f2 v σ4 H4 F4 r4 (s3.trans s4) p4
   | stuck=>rw[eb] at f2;exact f2.elim
 ·have e:i=ds.length:=by omega
  subst e;rw[List.drop_length] at f';exact .inl ⟨(y1 _ H' (s'.trans r'.fr)).1 (Qz3 (Qqy _)) rfl,f' σ' H' F' r' (Same.refl F')⟩
end
end Ev
namespace L2
open PySem PySem.Spec PyProof.Rows
def Its(z:Str):It:=⟨λi _=>i<z.cps.size,λi H x H'=>H'=H/\∃c,z.cps[i]? = some c/\x = .str ⟨#[c]⟩,λi _=>z.cps.size<=i⟩
theorem turn_strA{P:Program}{w:World}{K:PySem.W.Frag}{tg:Expr}(it:Addr)(z:Str)(t:Tok):Turn P w K tg (Its z) [it] it (λi h=>h.IsStrIter it "str_ascii_iterator" z t i/\i<=z.cps.size) where
 mem:=by simp
 obj:=λi h st b hb=>by
  have e:b=it:=by simpa using hb
  subst e;obtain⟨⟨o,ho,hc,hd⟩,_⟩:=st;exact⟨o,ho,λv z=>by rw[hd] at z;cases z⟩
 keep:=λi h h' st k=>let ⟨⟨o,ho,r⟩,l⟩:=st;⟨⟨o,k it (by simp) o ho,r⟩,l⟩
 item:=by intro X hP hw hK hc i pins s σ H E I hf st hg;subst hP hw hK;obtain⟨f0,f1,f2,f3,f4,f5⟩:=hf it (by simp);have hg':i<z.cps.size:=hg;refine wpAny_pyNext_ascii_item st.1 (c:=z.cps[i]) (by simp[hg']) λh' hit' hs'=>?_;have I1:Inv X pins σ H { s with heap:=h',toks:=s.toks+1 }:=I.turned (λb o hb e=>hs'.extBut b o hb e) f0 f1 f3 f4 f5;obtain⟨o,ho,hcl,hda⟩:=hit';refine⟨_,rfl,go_of (s:={ s with heap:=h',toks:=s.toks+1 }) (n:="str_ascii_iterator") ho hcl hda (by decide) ⟨.str ⟨#[z.cps[i]]⟩,H,I1,⟨_,rfl⟩,⟨rfl,_,by simp[hg'],rfl⟩,⟨⟨o,ho,hcl,hda⟩,hg'⟩,λb hb=>(hf b hb).1⟩⟩
 done:=by intro X hP hw hK hc i pins s σ H E I hf st hg;subst hP hw hK;obtain⟨f0,f1,f2,f3,f4,f5⟩:=hf it (by simp);have hg':z.cps.size<=i:=hg;exact wpAny_pyNext_ascii_end (I.ok.hd hc) st.1 (by simp;omega) λh' eb=>⟨rfl,I.turned (t':=s.toks) (λb o hb e=>eb b o hb e) f0 f1 f3 f4 f5⟩
 self:=λ_ _ _ _ _ st h=>wpAny_pyIter_striter_ascii st.1 h
theorem turn_strW{P:Program}{w:World}{K:PySem.W.Frag}{tg:Expr}(it:Addr)(z:Str)(t:Tok):Turn P w K tg (Its z) [it] it (λi h=>h.IsStrIter it "str_iterator" z t i/\i<=z.cps.size) where
 mem:=by simp
 obj:=λi h st b hb=>by
  have e:b=it:=by simpa using hb
  subst e;obtain⟨⟨o,ho,hc,hd⟩,_⟩:=st;exact⟨o,ho,λv z=>by rw[hd] at z;cases z⟩
 keep:=λi h h' st k=>let ⟨⟨o,ho,r⟩,l⟩:=st;⟨⟨o,k it (by simp) o ho,r⟩,l⟩
 item:=by intro X hP hw hK hc i pins s σ H E I hf st hg;subst hP hw hK;obtain⟨f0,f1,f2,f3,f4,f5⟩:=hf it (by simp);have hg':i<z.cps.size:=hg;refine wpAny_pyNext_wide_item st.1 (c:=z.cps[i]) (by simp[hg']) λh' hit' hs'=>?_;have I1:Inv X pins σ H { s with heap:=h',toks:=s.toks+1 }:=I.turned (λb o hb e=>hs'.extBut b o hb e) f0 f1 f3 f4 f5;obtain⟨o,ho,hcl,hda⟩:=hit';refine⟨_,rfl,go_of (s:={ s with heap:=h',toks:=s.toks+1 }) (n:="str_iterator") ho hcl hda (by decide) ⟨.str ⟨#[z.cps[i]]⟩,H,I1,⟨_,rfl⟩,⟨rfl,_,by simp[hg'],rfl⟩,⟨⟨o,ho,hcl,hda⟩,hg'⟩,λb hb=>(hf b hb).1⟩⟩
 done:=by intro X hP hw hK hc i pins s σ H E I hf st hg;subst hP hw hK;obtain⟨f0,f1,f2,f3,f4,f5⟩:=hf it (by simp);have hg':z.cps.size<=i:=hg;exact wpAny_pyNext_wide_end (I.ok.hd hc) st.1 (by simp;omega) λh' eb=>⟨rfl,I.turned (t':=s.toks) (λb o hb e=>eb b o hb e) f0 f1 f3 f4 f5⟩
 self:=λ_ _ _ _ _ st h=>wpAny_pyIter_striter_wide st.1 h
section
variable{X:Cx}{tg:Expr}
def iSeq(K:PySem.W.Frag)(tl:TE):TI:=λσ H R=>tl σ H λx H1=>(∃a,x = .ref a/\(∃xs,SqL K H1 a xs)/\R (Itl K a) H1)\/(∃a,x = .ref a/\(∃xs,SqT K H1 a xs)/\R (Itt K a) H1)\/∃z,x = .str z/\R (Its z) H1
theorem pi_seq{l:Expr}{tl:TE}(hl:PE X l tl):PI X tg l (iSeq X.K tl):=by
 intro pins s σ H R I h;refine thn (hl pins s σ H _ I h) λv s1 ⟨x,H1,I1,r1,q1⟩=>?_;have own:∀b ∈ [s1.heap.objs.size],FpOk X pins H1 b:=λb hb=>by
  have e:b=s1.heap.objs.size:=by simpa using hb
  subst e;exact I1.fpOk (Qqy _) (I1.hok.fresh (Qqy _))
 rcases q1 with ⟨a,e,⟨xs,hq⟩,q⟩|⟨a,e,⟨xs,hq⟩,q⟩|⟨z,e,q⟩
 ·subst e;cases r1;obtain⟨its,rv,p,hz⟩:=I1.list hq;refine wpAny_pyIter_list p.isList ?_;exact⟨s1.heap.objs.size,[s1.heap.objs.size],_,_,H1,rfl,I1.kept (t':=s1.toks) λb o e=>Qqz _ e,turn_list a _,⟨_,Qq5 _ rfl,rfl,rfl⟩,own,q⟩
 ·subst e;cases r1;obtain⟨its,rv,p,hz⟩:=I1.tuple hq;refine wpAny_pyIter_tuple (show s1.heap.IsTuple a its.toArray from p) ?_;exact⟨s1.heap.objs.size,[s1.heap.objs.size],_,_,H1,rfl,I1.kept (t':=s1.toks) λb o e=>Qqz _ e,turn_tuple a _,⟨_,Qq5 _ rfl,rfl,rfl⟩,own,q⟩
 ·subst e;obtain⟨t,rfl⟩:=r1;cases ha:z.cps.all (·< 128)
  ·exact wpAny_pyIter_wide ha ⟨s1.heap.objs.size,[s1.heap.objs.size],_,_,H1,rfl,I1.kept (t':=s1.toks) λb o e=>Qqz _ e,turn_strW _ z t,⟨⟨_,Qq5 _ rfl,rfl,rfl⟩,Qz9 _⟩,own,q⟩
  ·exact wpAny_pyIter_ascii ha ⟨s1.heap.objs.size,[s1.heap.objs.size],_,_,H1,rfl,I1.kept (t':=s1.toks) λb o e=>Qqz _ e,turn_strA _ z t,⟨⟨_,Qq5 _ rfl,rfl,rfl⟩,Qz9 _⟩,own,q⟩
def Itr3(lo c:Int)(n:Nat):It:=⟨λi _=>i<n,λi H x H'=>H'=H/\x = .int (lo+i*c),λi _=>n<=i⟩
theorem turn_range3{P:Program}{w:World}{K:PySem.W.Frag}{tg:Expr}(it:Addr)(lo c:Int)(n:Nat):Turn P w K tg (Itr3 lo c n) [it] it (λi h=>IsRangeIter h it (lo+(i:Nat)*c) ((n:Int) - (i:Nat)) c) where
 mem:=by simp
 obj:=λi h st b hb=>by
  have e:b=it:=by simpa using hb
  subst e;exact⟨_,st,λv z=>by
   have z':Data.fields _=Data.cell v:=z;cases z'⟩
 keep:=λi h h' st k=>k it (by simp) _ st
 item:=by intro X hP hw hK hc i pins s σ H E I hf st hg;subst hP hw hK;obtain⟨f0,f1,f2,f3,f4,f5⟩:=hf it (by simp);have W:=Walks.range (prog:=X.prog) (w:=X.w) (I.ok.hd hc) it lo c n;refine W.item i s _ _ hg st λv h' tk hv st' kk=>?_;obtain⟨t,rfl⟩:=hv;have I1:Inv X pins σ H { s with heap:=h',toks:=tk }:=I.turned (λb o hb e=>kk b o (by simpa using hb) e) f0 f1 f3 f4 f5;exact⟨_,rfl,go_of (s:={ s with heap:=h',toks:=tk }) (n:="range_iterator") st' rfl rfl (by decide) ⟨.int (lo+i*c),H,I1,⟨t,rfl⟩,⟨rfl,rfl⟩,st',λb hb=>(hf b hb).1⟩⟩
 done:=by intro X hP hw hK hc i pins s σ H E I hf st hg;subst hP hw hK;obtain⟨f0,f1,f2,f3,f4,f5⟩:=hf it (by simp);exact wpAny_pyNext_range_end (I.ok.hd hc) st (by have:n<=i:=hg;omega) λh' eb=>⟨rfl,I.turned (t':=s.toks) (λb o hb e=>eb b o hb e) f0 f1 f3 f4 f5⟩
 self:=λ_ _ _ _ _ st h=>wpAny_pyIter_rangeiter st h
def iRng3(ta:TA):TI:=λσ H R=>ta σ H λvs H1=>∃i j c:Int,vs=[.int i,.int j,.int c]/\c≠0/\c.natAbs<1073741824/\Builtin.Range.small i j c=true/\R (Itr3 i c (Builtin.Range.rangeSize i j c).toNat) H1
theorem pi_range3{a b c:Expr}{ta:TA}{p pos:Pos}(hg:Gl X "range")(hm:X.mg "range" = none)(ha:PA X [a,b,c] ta)(hs:starEach [a,b,c] X.env=[(false,eval a X.env),(false,eval b X.env),(false,eval c X.env)]:=by rfl)(hs2:starEach [b,c] X.env=[(false,eval b X.env),(false,eval c X.env)]:=by rfl) :
  PI X tg (.Call (.Name "range" p) [a,b,c] [] pos) (iRng3 ta):=by
 intro pins s σ H R I h;refine Call_ (ld_blt I hg hm boot_range (Qjq (thn (ha pos pins s σ H _ I h) λus s1 ⟨vs,H1,I1,r1,q1⟩=>?_) (by rw[hs,hs2]) (by rw[hs2];rfl)));obtain⟨i,j,c,e,hc,hcs,hsm,q⟩:=q1;subst e;cases r1 with
 | cons r rr=>
  cases rr with
  | cons r' rr=>
   cases rr with
   | cons r'' rr=>
    cases rr;obtain⟨t,rfl⟩:=r;obtain⟨t',rfl⟩:=r';obtain⟨t'',rfl⟩:=r'';refine call_range_3 hc ?_ (.inl (PyProof.noPylong_small hcs));refine wpAny_pyIter_range (IsRange.new ..) hsm ?_;generalize ho:({ cls:=.type "range",data:=.fields #[.int i t,.int j t',.int c t''] }:Obj)=o;have I2:Inv X pins σ H1 { s1 with heap:=s1.heap.push o,toks:=s1.toks }:=I1.kept λb o e=>Qqz _ e;refine⟨(s1.heap.push o).objs.size,[(s1.heap.push o).objs.size],_,_,H1,rfl,I2.kept (t':=s1.toks) λb o e=>Qqz _ e,turn_range3 _ i c (Builtin.Range.rangeSize i j c).toNat,?_,λb hb=>?_,q⟩
    ·have e1:i+((0:Nat):Int)*c=i:=by simp
     have e2:(((Builtin.Range.rangeSize i j c).toNat:Nat):Int) - ((0:Nat):Int)=Builtin.Range.rangeSize i j c:=by have:=PyProof.Rows.rangeSize_toNat i j c;omega
     show IsRangeIter _ _ (i+((0:Nat):Int)*c) (((Builtin.Range.rangeSize i j c).toNat:Int) - ((0:Nat):Int)) c;rw[e1,e2];exact Qq5 _ rfl
    ·have e:b=(s1.heap.push o).objs.size:=by simpa using hb
     subst e;exact I2.fpOk (Qqy _) (I2.hok.fresh (Qqy _))
end
end L2
namespace Ev
open PySem PySem.Spec PyProof.Rows L2
section
variable{X:Cx}{C:Cfg}{pos:Pos}{tg:Expr}
def sgs(x:List Nat):List D:=x.map λc=>.str [c]
theorem yields_tup{F:Hp}{a:Addr}{vs:List V}{ds:List D}(h:SqT C.K F a vs)(p:Reps C.K F ds vs):Yields C.K F ds (Itt C.K a):=λi H s=>by
 refine⟨λ_ e=>⟨vs,Same.tupK s h,by rw[p.length,e];exact Qqy _⟩,λd hd=>?_⟩;obtain⟨v,h1,h2⟩:=p.get hd;refine⟨⟨vs,v,Same.tupK s h,h1⟩,λx H' hy=>.inl ⟨hy.1,?_⟩⟩;have:=hy.2 vs (Same.tupK s h);rw[h1] at this;cases this;exact h2
theorem yields_str{F:Hp}{x:List Nat}:Yields C.K F (sgs x) (Its (strOf x)):=λi H s=>by
 refine⟨λ_ e=>?_,λd hd=>?_⟩
 ·show x.toArray.size<=i;rw[e];simp[sgs]
 ·unfold sgs at hd;rw[Qw8] at hd;obtain⟨c,hc,rfl⟩:=Qw0.mp hd;refine⟨?_,λv H' hy=>.inl ⟨hy.1,?_⟩⟩
  ·show i<x.toArray.size;have:=(Qq6.mp hc).1
   simpa using this
  ·obtain⟨c',h1,rfl⟩:=hy.2;have h2:x[i]? = some c':=by simpa[strOf] using h1
   rw[hc] at h2;cases h2;exact⟨rfl,by show 1<=sizeLine;decide⟩
def itD:D->Option (List D)
 | .lst xs=>some xs
 | .arr xs=>some xs
 | .tup xs=>some xs
 | .str x=>some (sgs x)
 | _=>none
def evIt(a:Ev):EvA:=λenv=>bindR (a env) λd env1=>liftR (itD d) env1
theorem pxi_seq{l:Expr}{a:Ev}(hK:X.K=C.K)(h:PX X C l a):PXI X C tg l (evIt a):=(pi_seq h).imp λσ H R hq=>by
 obtain⟨Pr,F,env,env',ds,r,e,q⟩:=hq;obtain⟨d,env1,e1,e2⟩:=bindR_ok e;obtain⟨e3,rfl⟩:=liftR_ok e2;refine⟨Pr,F,env,env',d,r,e1,λv H1 F1 r1 s1 p1=>?_⟩;rw[hK];cases d with
 | lst xs=>
  cases e3;obtain⟨z,a,vs,rfl,g1,g2⟩:=p1;refine .inl ⟨a,rfl,⟨vs,SqL.of (r1.fr _ _ g1)⟩,q _ H1 F1 r1 s1 λi H s=>?_⟩;refine⟨λ_ e=>⟨vs,SqL.of (s _ _ g1),by rw[g2.length,e];exact Qqy _⟩,λd hd=>?_⟩;obtain⟨v,h1,h2⟩:=g2.get hd;refine⟨⟨vs,v,SqL.of (s _ _ g1),h1⟩,λx H' hy=>.inl ⟨hy.1,?_⟩⟩;have:=hy.2 vs (SqL.of (s _ _ g1));rw[h1] at this;cases this;exact h2
 | arr xs=>
  cases e3;obtain⟨z,a,vs,rfl,g1,g2⟩:=p1;refine .inl ⟨a,rfl,⟨vs,r1.fr.seq g1⟩,q _ H1 F1 r1 s1 λi H s=>?_⟩;refine⟨λ_ e=>⟨vs,s.seq g1,by rw[g2.length,e];exact Qqy _⟩,λd hd=>?_⟩;obtain⟨v,h1,h2⟩:=g2.get hd;refine⟨⟨vs,v,s.seq g1,h1⟩,λx H' hy=>.inl ⟨hy.1,?_⟩⟩;have:=hy.2 vs (s.seq g1);rw[h1] at this;cases this;exact h2
 | tup xs=>
  cases e3;obtain⟨z,a,vs,rfl,g1,g2⟩:=p1;exact .inr (.inl ⟨a,rfl,⟨vs,Same.tupK r1.fr g1⟩,q _ H1 F1 r1 s1 (yields_tup g1 g2)⟩)
 | str x=>
  cases e3;obtain⟨rfl,z⟩:=p1;exact .inr (.inr ⟨_,rfl,q _ H1 F1 r1 s1 yields_str⟩)
 | _=>cases e3
def stepsI(lo c:Int)(n:Nat):List D:=(List.range n).map λ(i:Nat)=>.int (lo+i*c)
theorem stepsI_len(lo c:Int)(n:Nat):(stepsI lo c n).length=n:=by simp[stepsI]
theorem stepsI_get{lo c:Int}{n i:Nat}{d:D}(h:(stepsI lo c n)[i]? = some d):i<n/\d = .int (lo+i*c):=by
 have hi:i<n:=by
  have:=(Qq6.mp h).1
  rwa [stepsI_len] at this
 refine⟨hi,?_⟩;unfold stepsI at h;rw[Qw8,List.getElem?_range hi] at h;cases h;rfl
theorem yields_rng{F:Hp}{lo:Int}{n:Nat}:Yields C.K F (stepsI lo 1 n) (Itr lo n):=λi H s=>by
 refine⟨λ_ e=>by show n<=i;rw[e,stepsI_len];exact Qqy _,λd hd=>?_⟩;obtain⟨hi,rfl⟩:=stepsI_get hd;refine⟨hi,λx H' hy=>.inl ⟨hy.1,?_⟩⟩;show x = .int _;rw[Int.mul_one];exact hy.2
theorem yields_rng3{F:Hp}{lo c:Int}{n:Nat}:Yields C.K F (stepsI lo c n) (Itr3 lo c n):=λi H s=>by
 refine⟨λ_ e=>by show n<=i;rw[e,stepsI_len];exact Qqy _,λd hd=>?_⟩;obtain⟨hi,rfl⟩:=stepsI_get hd;exact⟨hi,λx H' hy=>.inl ⟨hy.1,hy.2⟩⟩
def rngFits(j:Int):Bool:=decide (-(2^62)<=j)&&decide (j<2^62)
theorem rngFits_ok{j:Int}(h:rngFits j=true) : -(2^62)<=j/\j<2^62:=by unfold rngFits at h;rw[Qwv] at h;exact⟨Qw2 h.1,Qw2 h.2⟩
def rngD:List D->Option (List D)
 | [.int j]=>if rngFits j=true then some (stepsI 0 1 j.toNat) else none
 | [.int i,.int j]=>if rngFits i=true/\rngFits j=true then some (stepsI i 1 (j - i).toNat) else none
 | [.int i,.int j,.int c]=>if c≠0/\c.natAbs<1073741824/\Builtin.Range.small i j c=true then some (stepsI i c (Builtin.Range.rangeSize i j c).toNat) else none
 | _=>none
def evRng(a:EvA):EvA:=λenv=>bindR (a env) λds env1=>liftR (rngD ds) env1
theorem Reps.int1{F:Hp}{i:Int}{vs:List V}(h:Reps C.K F [.int i] vs):vs=[.int i]:=by obtain⟨v,r,rfl,h1,h2⟩:=h;cases h1;cases h2;rfl
theorem Reps.int3{F:Hp}{i j k:Int}{vs:List V}(h:Reps C.K F [.int i,.int j,.int k] vs):vs=[.int i,.int j,.int k]:=by obtain⟨v,r,rfl,h1,v',r',rfl,h2,v'',r'',rfl,h3,h4⟩:=h;cases h1;cases h2;cases h3;cases h4;rfl
theorem pxi_range1{a:Expr}{ea:EvA}{p pos:Pos}(hg:Gl X "range")(hm:X.mg "range" = none)(ha:PXA X C [a] ea)(hl:∀env ds env',ea env = .ok ds env'->ds.length=1)(hs:starEach [a] X.env=[(false,eval a X.env)]:=by rfl):PXI X C tg (.Call (.Name "range" p) [a] [] pos) (evRng ea):=
 (pi_range1 hg hm ha hs).imp λσ H R hq=>by
  obtain⟨Pr,F,env,env',ds,r,e,q⟩:=hq;obtain⟨as,env1,e1,e2⟩:=bindR_ok e;obtain⟨e3,rfl⟩:=liftR_ok e2;refine⟨Pr,F,env,env',as,r,e1,λvs H1 F1 r1 s1 p1=>?_⟩;have:=hl _ _ _ e1;unfold rngD at e3;split at e3
  ·split at e3
   ·rename_i hf;cases e3;have hb:=rngFits_ok hf;exact⟨_,p1.int1,hb.1,hb.2,q _ H1 F1 r1 s1 yields_rng⟩
   ·cases e3
  ·simp at this
  ·simp at this
  ·cases e3
theorem pxi_range3{a b c:Expr}{ea:EvA}{p pos:Pos}(hg:Gl X "range")(hm:X.mg "range" = none)(ha:PXA X C [a,b,c] ea)(hl:∀env ds env',ea env = .ok ds env'->ds.length=3)(hs:starEach [a,b,c] X.env=[(false,eval a X.env),(false,eval b X.env),(false,eval c X.env)]:=by rfl)(hs2:starEach [b,c] X.env=[(false,eval b X.env),(false,eval c X.env)]:=by rfl):PXI X C tg (.Call (.Name "range" p) [a,b,c] [] pos) (evRng ea):=
 (pi_range3 hg hm ha hs hs2).imp λσ H R hq=>by
  obtain⟨Pr,F,env,env',ds,r,e,q⟩:=hq;obtain⟨as,env1,e1,e2⟩:=bindR_ok e;obtain⟨e3,rfl⟩:=liftR_ok e2;refine⟨Pr,F,env,env',as,r,e1,λvs H1 F1 r1 s1 p1=>?_⟩;have:=hl _ _ _ e1;unfold rngD at e3;split at e3
  ·simp at this
  ·simp at this
  ·split at e3
   ·rename_i hf;cases e3;exact⟨_,_,_,p1.int3,hf.1,hf.2.1,hf.2.2,q _ H1 F1 r1 s1 yields_rng3⟩
   ·cases e3
  ·cases e3
theorem evNil_len(env:Env)(ds:List D)(env':Env)(h:evNil env = .ok ds env'):ds.length=0:=by cases h;rfl
theorem evCons_len{a:Ev}{r:EvA}{n:Nat}(hr:∀env ds env',r env = .ok ds env'->ds.length=n)(env:Env)(ds:List D)(env':Env)(h:evCons a r env = .ok ds env'):ds.length=n+1:=by obtain⟨d,env1,e1,e2⟩:=bindR_ok h;obtain⟨ds2,env2,e3,e4⟩:=bindR_ok e2;cases e4;rw[Qqk,hr _ _ _ e3]
theorem Reps.atI{F:Hp}{K:Fg}{ds:List D}{vs:List V}{k:Int}{d:D}(h:Reps K F ds vs)(e:L2.atI ds k=some d):∃v,L2.atI vs k=some v/\Rep K F d v:=by unfold L2.atI at e ⊢;rw[h.length];obtain⟨j,h1,h2⟩:=Qx5.mp e;obtain⟨v,h3,h4⟩:=h.get h2;exact⟨v,by rw[h1];exact h3,h4⟩
def gIx:D->D->Option D
 | .lst xs,.int k=>atI xs k
 | .arr xs,.int k=>atI xs k
 | .tup xs,.int k=>atI xs k
 | .str x,.int k=>(atI x k).map λc=>.str [c]
 | _,_=>none
theorem od_ix:OpD C (rIx C.K) gIx:=by
 intro Pr F env σ H x y d vx vy Q r px py e q;unfold gIx at e;split at e
 ·obtain⟨z,a,vs,rfl,h1,h2⟩:=px.lst r.fr;cases py.int;obtain⟨v,e1,p1⟩:=h2.atI e;exact .inl ⟨a,vs,_,v,rfl,rfl,SqL.of h1,e1,q _ _ F r (Same.refl F) p1⟩
 ·obtain⟨z,a,vs,rfl,h1,h2⟩:=px.arr r.fr;cases py.int;obtain⟨v,e1,p1⟩:=h2.atI e;exact .inl ⟨a,vs,_,v,rfl,rfl,h1,e1,q _ _ F r (Same.refl F) p1⟩
 ·obtain⟨z,a,vs,rfl,h1,_,h2⟩:=px.tup r.fr;cases py.int;obtain⟨v,e1,p1⟩:=h2.atI e;exact .inr (.inl ⟨a,vs,_,v,rfl,rfl,h1,e1,q _ _ F r (Same.refl F) p1⟩)
 ·obtain⟨rfl,z⟩:=px.str;cases py.int;obtain⟨c,e1,rfl⟩:=Qw0.mp e;exact .inr (.inr ⟨_,_,c,rfl,rfl,by simpa[strOf,Str.length] using z,by simpa[strOf] using e1,q _ _ F r (Same.refl F) ⟨rfl,by show 1<=sizeLine;decide⟩⟩)
 ·cases e
theorem px_ix{x y:Expr}{a b:Ev}(hK:X.K=C.K)(ha:PX X C x a)(hb:PXB X C y b)(hs:PlainIx y:=by intro _ _;rfl):PX X C (.Subscript x y pos) (evBin gIx a b):=by have h:=(pe_ix (pos:=pos) ix_seq ha hb hs);rw[hK] at h;exact h.imp (bin_go od_ix)
theorem px_ixO{y:Expr}{b:Ev}{px:Pos}(i:Nat){x:Str}(hK:X.K=C.K)(hN:X.N[i]? = some x)(hv:Vis X.env.scope x)(hb:PXB X C y b)(hs:PlainIx y:=by intro _ _;rfl)
  (hd:nDb x:=by decide) (hcd:nCd x:=by decide):PX X C (.Subscript (.Name x px) y pos) (evBinO gIx i b):=by
 have h:=(pe_ix (pos:=pos) ix_seq (pe_var (pos:=px) hN hv hd hcd) hb hs);rw[hK] at h;exact h.imp (binO_go od_ix)
def cutD{α:Type}(xs:List α)(lo hi:Option Int):List α:=(xs.drop (HT.sIx xs.length 0 lo)).take (HT.sIx xs.length xs.length hi - HT.sIx xs.length 0 lo)
theorem cutD_len{α:Type}(xs:List α)(lo hi:Option Int):(cutD xs lo hi).length<=xs.length:=by unfold cutD;rw[Qw9,Qx8];omega
theorem Reps.cut{F:Hp}{K:Fg}{ds:List D}{vs:List V}(h:Reps K F ds vs)(lo hi:Option Int):Reps K F (cutD ds lo hi) (cutV vs lo hi):=by unfold cutD cutV;rw[h.length];exact Reps.take _ (Reps.drop _ h)
abbrev EvP:=Env->R (Option Int)
def tP(C:Cfg)(ev:EvP):TO:=λσ H Q=>∃(Pr F:Hp) (env env':Env) (o:Option Int),Rel C Pr F env σ H/\ev env = .ok o env'/\∀H' F',Rel C Pr F' env' σ H'->Same F F'->Q o H'
def PXP(X:Cx)(C:Cfg)(e:Option Expr)(ev:EvP):Prop:=PO X e (tP C ev)
theorem _root_.L2.PO.imp{X:Cx}{e:Option Expr}{t t':TO}(h:PO X e t)(i:∀σ H Q,t' σ H Q->t σ H Q):PO X e t':=λpins s σ H Q I q=>h pins s σ H Q I (i σ H Q q)
def evNoP:EvP:=λenv=>.ok none env
def evP(a:Ev):EvP:=λenv=>bindR (a env) λd env1=>match d with
 | .int i=>.ok (some i) env1
 | _=>.stuck
theorem pxp_none:PXP X C none evNoP:=po_none.imp λσ H Q h=>by
 obtain⟨Pr,F,env,env',d,r,e,q⟩:=h;cases e;exact q H F r (Same.refl F)
def gSl:D->Option Int->Option Int->Option D
 | .lst xs,lo,hi=>some (.lst (cutD xs lo hi))
 | .arr xs,lo,hi=>some (.lst (cutD xs lo hi))
 | .tup xs,lo,hi=>if HT.sIx xs.length 0 lo=0/\HT.sIx xs.length xs.length hi=xs.length then none else some (.tup (cutD xs lo hi))
 | _,_,_=>none
def evSl(a:Ev)(lo hi:EvP):Ev:=λenv=>bindR (a env) λd env1=>bindR (lo env1) λl env2=>bindR (hi env2) λu env3=>liftR (gSl d l u) env3
theorem sl_go{Pr F:Hp}{env:Env}{σ:L2.St}{H:Hp}{x d:D}{v:V}{lo hi:Option Int}{Q:VK}(r:Rel C Pr F env σ H)(p:BRep C.K F H x v)(e:gSl x lo hi=some d)(q:∀v H' F',Rel C Pr F' env σ H'->Same F F'->Rep C.K F' d v->Q v H') :
  rSlL C.K v lo hi H Q\/rSlT C.K v lo hi H Q:=by
 unfold gSl at e;split at e
 ·cases e;obtain⟨z,a,vs,rfl,h1,h2⟩:=p.lst r.fr;refine .inl ⟨a,vs,rfl,SqL.of h1,λb hb=>?_⟩;obtain⟨r2,s2⟩:=r.new (o:=.lst (cutV vs lo hi)) hb;exact q _ _ _ r2 s2 ⟨Qq2 (cutD_len _ _ _) z,b,_,rfl,upd_same,Reps.mono s2 _ _ (h2.cut lo hi)⟩
 ·cases e;obtain⟨z,a,vs,rfl,h1,h2⟩:=p.arr r.fr;refine .inl ⟨a,vs,rfl,h1,λb hb=>?_⟩;obtain⟨r2,s2⟩:=r.new (o:=.lst (cutV vs lo hi)) hb;exact q _ _ _ r2 s2 ⟨Qq2 (cutD_len _ _ _) z,b,_,rfl,upd_same,Reps.mono s2 _ _ (h2.cut lo hi)⟩
 ·obtain⟨z,a,vs,rfl,h1,_,h2⟩:=p.tup r.fr;split at e
  ·cases e
  ·rename_i hn;cases e;refine .inr ⟨a,vs,rfl,h1,by rw[h2.length];exact hn,λb hb=>?_⟩;obtain⟨r2,s2⟩:=r.new (o:=.tup (cutV vs lo hi)) hb;exact q _ _ _ r2 s2 ⟨Qq2 (cutD_len _ _ _) z,b,_,rfl,SqT.of upd_same,Reps.mono s2 _ _ (h2.cut lo hi)⟩
 ·cases e
theorem px_sl{x:Expr}{lo hi:Option Expr}{a:Ev}{el eh:EvP}{p2:Pos}(hK:X.K=C.K)(ha:PX X C x a)(hl:PXP X C lo el)(hh:PXP X C hi eh):PX X C (.Subscript x (.Slice lo hi none p2) pos) (evSl a el eh):=by have h:=pe_slice (pos:=pos) (p2:=p2) (SlR.or sl_list sl_tup) ha hl hh;rw[hK] at h;refine h.imp λσ H Q hq=>?_;obtain⟨Pr,F,env,env',d,r,e,q⟩:=hq;obtain⟨x,env1,e1,e2⟩:=bindR_ok e;obtain⟨l,env2,e3,e4⟩:=bindR_ok e2;obtain⟨u,env3,e5,e6⟩:=bindR_ok e4;obtain⟨e7,rfl⟩:=liftR_ok e6;refine⟨Pr,F,env,env1,x,r,e1,λv H1 F1 r1 s1 p1=>⟨Pr,F1,env1,env2,l,r1,e3,λH2 F2 r2 s2=>⟨Pr,F2,env2,env',u,r2,e5,λH3 F3 r3 s3=>?_⟩⟩⟩;exact sl_go r3 (.inl (Rep.mono (s2.trans s3) _ _ p1)) e7 λv H' F' r' s' p'=>q v H' F' r' (((s1.trans s2).trans s3).trans s') p'
theorem BRep.dct{K:Fg}{F H:Hp}{kvs:List (D×D)}{v:V}(s:Same F H)(h:BRep K F H (.dct kvs) v):kvs.length<=sizeLine/\∃a ks,v = .ref a/\Rd H a (.dK ks)/\RepKs K F kvs ks:=by
 rcases h with ⟨z,a,vs,rfl,h1,h2⟩|⟨a,rfl,z,vs,h1,h2⟩
 ·exact⟨z,a,vs,rfl,Same.rd s h1,h2⟩
 ·exact⟨z,a,vs,rfl,.inl h1,h2⟩
def evDnew:Ev:=λenv=>.ok (.dct []) env
theorem pxn_dnew:PXN X C (.Dict [] [] pos) evDnew:=pe_dnewK.imp λσ H Q hq=>by
 obtain⟨Pr,F,env,env',d,r,e,q⟩:=hq;cases e;exact λp hp=>q _ _ F (r.fresh hp) (Same.refl F) (New.of r hp ⟨Qz9 _,[],upd_same,rfl⟩)
def insX(x:List Nat):List (List Nat)->List (List Nat)
 | []=>[x]
 | y::r=>if y<x then y::insX x r else x::y::r
def sortX:List (List Nat)->List (List Nat)
 | []=>[]
 | x::r=>insX x (sortX r)
theorem insX_perm(x:List Nat):∀l,(insX x l).Perm (x::l)
 | []=>.refl _
 | y::r=>by
  unfold insX;split
  ·exact((insX_perm x r).cons y).trans (.swap x y r)
  ·exact .refl _
theorem sortX_perm:∀l,(sortX l).Perm l
 | []=>.refl _
 | x::r=>(insX_perm x (sortX r)).trans ((sortX_perm r).cons x)
theorem insX_sorted(x:List Nat):∀l,l.Pairwise (λa b=>a<=b)->(insX x l).Pairwise (λa b=>a<=b)
 | [],_=>List.pairwise_singleton _ _
 | y::r,h=>by
  unfold insX;have h1:=Qx7.mp h;split
  ·rename_i hyx;refine Qx7.mpr ⟨λz hz=>?_,insX_sorted x r h1.2⟩;rcases Qwq.mp ((insX_perm x r).mem_iff.mp hz) with rfl|hz
   ·exact List.le_of_lt hyx
   ·exact h1.1 z hz
  ·rename_i hyx;have hxy:x<=y:=List.not_lt.mp hyx;refine Qx7.mpr ⟨λz hz=>?_,h⟩;rcases Qwq.mp hz with rfl|hz
   ·exact hxy
   ·exact List.le_trans hxy (h1.1 z hz)
theorem sortX_sorted:∀l,(sortX l).Pairwise (λa b=>a<=b)
 | []=>.nil
 | x::r=>insX_sorted x _ (sortX_sorted r)
theorem rising_pw:∀(p:Str) (l:List Str),risingS p l=true->(p::l).Pairwise (λa b=>a.cps.toList<=b.cps.toList)
 | p,[],_=>List.pairwise_singleton _ _
 | p,x::r,h=>by
  have h':(!Spec.ltCps x.cps.toList p.cps.toList&&risingS x r)=true:=h;rw[Qwv,PyProof.Rows.ltCps_eq] at h';have hxp:¬x.cps.toList<p.cps.toList:=by
   have:=h'.1
   simpa using this
  have ih:=rising_pw x r h'.2;refine Qx7.mpr ⟨λz hz=>?_,ih⟩;have hpx:p.cps.toList<=x.cps.toList:=List.not_lt.mp hxp;rcases Qwq.mp hz with rfl|hz
  ·exact hpx
  ·exact List.le_trans hpx ((Qx7.mp ih).1 z hz)
theorem sorted_pw:∀(l:List Str),sortedS l=true->l.Pairwise (λa b=>a.cps.toList<=b.cps.toList)
 | [],_=>.nil
 | x::r,h=>rising_pw x r h
theorem strOf_cps(s:Str):strOf s.cps.toList=s:=by obtain⟨c⟩:=s;simp[strOf]
theorem sortX_unique{xs:List (List Nat)}{ss ss':List Str}(e:ss=xs.map strOf)(hp:ss'.Perm ss)(hs:sortedS ss'=true):ss'=(sortX xs).map strOf:=by
 subst e;have h1:(ss'.map λs=>s.cps.toList).Perm xs:=by
  have:=hp.map (λs:Str=>s.cps.toList);rw[Qz7] at this;have e2:xs.map ((λs:Str=>s.cps.toList) ∘ strOf)=xs:=by rw[Qj3 (g:=id) (λx _=>by simp[strOf])];simp
  rwa [e2] at this
 have h2:(ss'.map λs=>s.cps.toList)=sortX xs:=by refine List.Perm.eq_of_pairwise (le:=λa b=>a<=b) (λa b _ _=>List.le_antisymm) ?_ (sortX_sorted xs) (h1.trans (sortX_perm xs).symm);exact List.pairwise_map.mpr (sorted_pw ss' hs)
 rw[<-h2,Qz7];have e3:∀l:List Str,l.map (strOf ∘ λs=>s.cps.toList)=l:=λl=>by
  induction l with
  | nil=>rfl
  | cons a r ih=>rw[Qq9,ih];show strOf a.cps.toList::r=a::r;rw[strOf_cps]
 exact(e3 ss').symm
theorem vals_of_strs:∀{us:List Value} {ss:List Str},StrsAre us ss->Vals (ss.map V.str) us
 | _,_,.nil=>.nil
 | _,_,.cons y t h=>.cons ⟨t,rfl⟩ (vals_of_strs h)
theorem reps_of_strs{K:Fg}{F:Hp}:∀(xs:List (List Nat)),(∀x∈xs,x.length<=sizeLine)->Reps K F (xs.map D.str) (xs.map λz=>V.str (strOf z))
 | [],_=>rfl
 | x::xs,h=>⟨_,_,rfl,⟨rfl,h x (Qq3 ..)⟩,reps_of_strs xs λy hy=>h y (Qq4 _ hy)⟩
def rSorted(K:Fg):List V->Hp->VK->Prop:=λxs H Q=>∃p zs,xs=[.ref p]/\(SqL K H p (zs.map λz=>V.str (strOf z))\/∃ks,Rd H p (.dK ks)/\ks.map (·.1)=zs.map λz=>Sum.inr (strOf z))/\zs.length<64/\∀l,H l=none->Q (.ref l) (upd H l (.lst ((sortX zs).map λz=>V.str (strOf z))))
theorem sort_fin{pins:List (Addr×Obj)}{s:Shared}{σ:L2.St}{H:Hp}{Q:VK}{zs:List (List Nat)}{out:Array Value}{ss':List Str}{a:Addr}{e:Nat}{h':Heap}{tk:Nat}(I:Inv X pins σ H s)(hz:zs.length<64)(q:∀l,H l=none->Q (.ref l) (upd H l (.lst ((sortX zs).map λz=>V.str (strOf z)))))
  (a1:StrsAre out.toList ss') (a2:ss'.Perm (zs.map strOf)) (a3:sortedS ss'=true) (hk:∀b o,s.heap.get? b=some o->h'.get? b=some o) (ha:s.heap.objs.size<=a) (ho:h'.get? a=some (seqObj "list" out e)):EP X pins σ Q (.ref a) { s with heap:=h',toks:=tk }:=by
 have e1:=sortX_unique rfl a2 a3;subst e1;have rv:=vals_of_strs a1;rw[Qz7] at rv;have hl:((sortX zs).map λz=>V.str (strOf z)).length<=sizeLine:=by rw[Qqx,(sortX_perm zs).length_eq];exact Qq2 (Qjw hz) (by decide)
 exact⟨.ref a,_,I.laid (t':=tk) hk ha (show ObjOk X.prog X.w _ h' a (.lst ((sortX zs).map λz=>V.str (strOf z))) from⟨hl,out.toList,e,rv,by simpa[seqObj] using ho⟩),rfl,q a (I.hok.fresh ha)⟩
theorem call_sorted(hc:X.calm=true):CallR X (.builtin "sorted") (rSorted X.K):=by
 intro pins s σ H xs us Q I r h;obtain⟨p,zs,rfl,hq,hz,q⟩:=h;obtain⟨u,rfl,rx⟩:=vals1 r;cases rx;rcases hq with hq|⟨ks,hq,hks⟩
 ·obtain⟨its,r',pl,hzz⟩:=I.list hq;have hS:StrsAre its (zs.map strOf):=vals_strs r';refine sorted_strs pl.isList hS (by rw[<-r'.length,Qqx];exact hz) λout ss' a1 a2 a3=>?_;obtain⟨e,he⟩:=sortedAll_at s.heap its out;exact sort_fin (tk:=s.toks) I hz q a1 a2 a3 (λb o e=>sortedAll_old e) (Qkx _) he
 ·obtain⟨hz2,hsys,vs,rkv,hD⟩:=dk_rd I.hok hq;obtain⟨ep,hat⟩:=hD.dictAt;have hlen:vs.length=zs.length:=by
   have e1:=rkv.length;have e2:=Qkz List.length hks;rw[Qqx,Qqx] at e2;omega
  refine Calls.call_function_entry kind_sorted plain_sorted entry_sorted (args_sorted1 _) ?_;unfold Builtin.«sorted»;refine Qqq (m:=checkCount "sorted" 1 1 _) (Qqv ?_);refine Qqq (PySem.W.kdu_collect (A:=X.A.in1) (PySem.W.kdl_dict (knd:=mixKind X.prog X.w) (kvs:=vs) (ep:=ep) hsys) (I.ok.hd hc) hat (by rw[hlen];exact Qq2 (Qjw hz) (by decide)) λh' tk acc hk hacc=>?_);have hl:acc.toList.length=vs.length:=by rw[Qzw];exact hacc.1
  have hS:StrsAre acc.toList (zs.map strOf):=by
   have keys:∀j:Nat,j<vs.length->∃v t,acc.toList[j]? = some v/\v=Value.str (strOf (zs.getD j [])) t:=λj hj=>by
    have hja:j<acc.size:=by rw[hacc.1];exact hj
    have e1:acc[j]? = some acc[j]:=by simp[hja]
    obtain⟨k,x,hx,hkx⟩:=hacc.2 j _ e1;have e2:(vs.map (·.1))[j]? = some k:=by rw[Qw8,hx];rfl
    rw[<-rkv.keys,hks,Qw8] at e2;obtain⟨z,hzj,rfl⟩:=Qw0.mp e2;rcases keyIs_shape (k:=Sum.inr (strOf z)) (v:=acc[j]) hkx with ⟨i,t,z1,_⟩|⟨y,t,z1,z2⟩
    ·cases z1
    ·cases z1;exact⟨_,t,by rw[Array.getElem?_toList];exact e1,by rw[z2,Qjj,hzj];rfl⟩
   have build:∀(us:List Value) (ys:List (List Nat)),us.length=ys.length->(∀j:Nat,j<us.length->∃v t,us[j]? = some v/\v=Value.str (strOf (ys.getD j [])) t)->StrsAre us (ys.map strOf):=λus=>by
    induction us with
    | nil=>intro ys hl _;cases ys with
     | nil=>exact .nil
     | cons _ _=>cases hl
    | cons u us ih=>intro ys hl hk;cases ys with
     | nil=>cases hl
     | cons y ys=>
      obtain⟨v,t,e1,e2⟩:=hk 0 (Nat.succ_pos _);cases e1;rw[e2];exact .cons _ t (ih ys (by simpa using hl) λj hj=>by
       obtain⟨v,t,e1,e2⟩:=hk (j+1) (by simpa using hj);exact⟨v,t,by simpa using e1,by simpa using e2⟩)
   exact build _ _ (by rw[hl,hlen]) λj hj=>keys j (by rw[<-hl];exact hj)
  refine Qqq (wpAny_newList ?_ (by rw[hl,hlen];exact Qq2 (Qjw hz) (by decide)));have hoL:(h'.push (seqObj "list" acc.toList.toArray 0)).get? h'.objs.size=some (seqObj "list" acc.toList.toArray 0):=Qq5 _ rfl;show wpAny _ _ _ _ _ { s with heap:=h'.push (seqObj "list" acc.toList.toArray 0),toks:=tk };refine Qqq (Qx6 (Qzv slot_list_sort ⟨_,hoL,rfl⟩ entry_list_sort (list_sort_treeK strKind_oneLt hoL hS.keysOf (λv₁ v₂ rest e=>keyKind_strs (by rw[<-e];exact hS)) (by rw[hl,hlen];exact hz) λst' b1 b2=>⟨_,rfl,?_⟩) (args_list_sort _)));obtain⟨ss',a1,a2,a3⟩:=sorted_out_str hS b1 b2;obtain⟨e,he⟩:=sortedHeap_at (out:=(arrOf st').map (·.2)) hoL;refine Qqv ⟨_,rfl,?_⟩;have I1:L2.Inv X pins σ H { s with heap:=h',toks:=tk }:=I.kept hk;refine sort_fin (s:={ s with heap:=h',toks:=tk }) (tk:=tk) I1 hz q a1 a2 a3 (λb o e=>?_) (Qqy _) he;have lt':=Qq7 e;rw[sortedHeap_old (Qwz lt') (by rw[size_push'];exact Qz0 lt')];exact Qqz _ e
def gSorted:List D->Option D
 | [.lst ds]=>(strsD ds).bind λzs=>if zs.length<64/\(∀z∈zs,z.length<=sizeLine) then some (.lst ((sortX zs).map .str)) else none
 | [.dct kvs]=>(strsD (kvs.map (·.1))).bind λzs=>if zs.length<64/\(∀z∈zs,z.length<=sizeLine) then some (.lst ((sortX zs).map .str)) else none
 | _=>none
theorem RepKs.keys{K:Fg}{F:Hp}:∀{kvs:List (D×D)} {ks:List (Key×V)} {zs:List (List Nat)},RepKs K F kvs ks->strsD (kvs.map (·.1))=some zs->ks.map (·.1)=zs.map λz=>Sum.inr (strOf z)
 | [],ks,zs,h,e=>by cases h;simp[strsD] at e;subst e;rfl
 | (k,d)::kvs,ks,zs,h,e=>by
  obtain⟨q,v,r,rfl,h0,h1,h2⟩:=h;cases k with
  | str x=>
   cases h0;have e':(strsD (kvs.map (·.1))).map (x :: ·)=some zs:=by simpa[strsD] using e
   obtain⟨zs',e1,rfl⟩:=Qw0.mp e';rw[Qq9,Qq9,RepKs.keys h2 e1]
  | _=>simp[strsD] at e
theorem sorted_new{Pr F:Hp}{env:Env}{σ:L2.St}{H:Hp}{l:Addr}{zs:List (List Nat)}(r:Rel C Pr F env σ H)(hl:H l=none)(hz:zs.length<64/\∀z∈zs,z.length<=sizeLine) :
  OwnAt C.K F (upd H l (.lst ((sortX zs).map λz=>V.str (strOf z)))) (.lst ((sortX zs).map .str)) l:=by
 refine⟨by rw[Qqx,(sortX_perm zs).length_eq];exact Qq2 (Qjw hz.1) (by decide),_,upd_same,reps_of_strs _ λz h=>hz.2 z ((sortX_perm zs).mem_iff.mp h)⟩
theorem cd_sorted:CallD C (rSorted C.K) gSorted:=by
 intro Pr F env σ H ds d vs Q r p e q;have fin:∀(zs:List (List Nat)) (l:Addr),(zs.length<64/\∀z∈zs,z.length<=sizeLine)->d = .lst ((sortX zs).map .str)->H l=none->Q (.ref l) (upd H l (.lst ((sortX zs).map λz=>V.str (strOf z)))):=λzs l hz hd hl=>by
  subst hd;obtain⟨F2,r2,s2,p2⟩:=(r.fresh (o:=.lst ((sortX zs).map λz=>V.str (strOf z))) hl).keep (New.of r hl (sorted_new r hl hz));exact q _ _ F2 r2 s2 p2
 unfold gSorted at e;split at e
 ·obtain⟨v,w,rfl,p1,p2⟩:=p;cases p2;obtain⟨zs,e1,e2⟩:=Qx5.mp e;split at e2
  ·rename_i hz;cases e2;obtain⟨z,a,ws,rfl,h1,h2⟩:=p1.lst r.fr;have e6:=reps_strs e1 h2;subst e6;exact⟨a,zs,rfl,.inl (SqL.of h1),hz.1,λl hl=>fin zs l hz rfl hl⟩
  ·cases e2
 ·obtain⟨v,w,rfl,p1,p2⟩:=p;cases p2;obtain⟨zs,e1,e2⟩:=Qx5.mp e;split at e2
  ·rename_i hz;cases e2;obtain⟨z,a,ks,rfl,h1,h2⟩:=p1.dct r.fr;exact⟨a,zs,rfl,.inr ⟨ks,h1,h2.keys e1⟩,hz.1,λl hl=>fin zs l hz rfl hl⟩
  ·cases e2
 ·cases e
theorem px_sorted{p:Pos}{e:Expr}{a:EvA}(hK:X.K=C.K)(hc:X.calm=true)(hg:Gl X "sorted")(hm:X.mg "sorted" = none)(ha:PXAB X C [e] a)(he:sEn e X.env:=by rfl)(hpl:(backTo pos (starEach [] X.env)).any (·.1)=false:=by rfl) :
  PX X C (.Call (.Name "sorted" p) [e] [] pos) (evCall gSorted a):=
 px_callB (X:=X) (r:=rSorted C.K) (by rw[<-hK];exact call_sorted hc) cd_sorted hg hm PyProof.Rows.boot_sorted ha (by decide) (by decide) he hpl
end
theorem Rel.pad{C:Cfg}{Pr F:Hp}{env:Env}{σ:L2.St}{H:Hp}(m:Nat)(r:Rel C Pr F env σ H):Rel C Pr F (env++List.replicate m none) (padS m σ) H:=by
 have un:∀(j:Nat) (x:Bool×D),(env++List.replicate m none)[j]? = some (some x)->env[j]? = some (some x):=λj x he=>by
  by_cases hj:j<env.length
  ·rwa [Qw5 hj] at he
  ·rw[Qxw (by omega),Qzj] at he;split at he<;>cases he
 have up:∀(j:Nat) (v:V),σ[j]? = some (some v)->(padS m σ)[j]? = some (some v):=λj v h=>by
  unfold padS;rw[Qw5 (Qq6.mp h).1];exact h
 have dn:∀(j:Nat) (v:V),(padS m σ)[j]? = some (some v)->σ[j]? = some (some v):=λj v he=>by
  unfold padS at he;by_cases hj:j<σ.length
  ·rwa [Qw5 hj] at he
  ·rw[Qxw (by omega),Qzj] at he;split at he<;>cases he
 refine⟨r.pr,r.fr,by unfold padS;rw[Qqj,Qqj,Qx4,Qx4,r.len],λj e he=>?_,λj e he=>?_,λj k e f b hj hk g1 g2=>r.apart j k e f b (un _ _ hj) (un _ _ hk) (dn _ _ g1) (dn _ _ g2),r.dj,λj a h=>up _ _ (r.fix j a h)⟩
 ·obtain⟨v,h1,h2⟩:=r.val j e (un _ _ he);exact⟨v,up _ _ h1,h2⟩
 ·obtain⟨a,h1,h2⟩:=r.own j e (un _ _ he);exact⟨a,up _ _ h1,h2⟩
theorem Rel.cut{C:Cfg}{Pr F:Hp}{env:Env}{σ σ0:L2.St}{H:Hp}(r:Rel C Pr F env σ H)(h:σ.take σ0.length=σ0)(fix:∀i a,C.fx i=some a->σ0[i]? = some (some (V.ref a))):Rel C Pr F (env.take σ0.length) σ0 H:=by
 have hl:σ0.length<=σ.length:=by have:=Qkz List.length h;rw[Qw9] at this;omega
 have un:∀(j:Nat) (x:Bool×D),(env.take σ0.length)[j]? = some (some x)->env[j]? = some (some x)/\j<σ0.length:=λj x he=>by
  have hj:j<σ0.length:=by have:=(Qq6.mp he).1;rw[Qw9] at this;omega
  rw[Qz5 hj] at he;exact⟨he,hj⟩
 have dn:∀(j:Nat),j<σ0.length->σ[j]? = σ0[j]?:=λj hj=>by
  have:=Qz5 (l:=σ) hj;rw[h] at this;exact this.symm
 refine⟨r.pr,r.fr,by rw[Qw9,r.len];omega,λj e he=>?_,λj e he=>?_,λj k e f b hj hk g1 g2=>r.apart j k e f b (un _ _ hj).1 (un _ _ hk).1 (by rw[dn _ (un _ _ hj).2];exact g1) (by rw[dn _ (un _ _ hk).2];exact g2),r.dj,fix⟩
 ·obtain⟨e1,e2⟩:=un _ _ he;rw[<-dn j e2];exact r.val j e e1
 ·obtain⟨e1,e2⟩:=un _ _ he;rw[<-dn j e2];exact r.own j e e1
def lcO(g:GV)(c:EvT)(e:Ev):List D->Env->R (List D)
 | [],env=>.ok [] env
 | d::ds,env=>(match g d env with
  | none=>.stuck
  | some e1=>bindR (c e1) λb e2=>if b=true then bindR (e e2) λy e3=>bindR (lcO g c e ds e3) λys e4=>.ok (y::ys) e4 else lcO g c e ds e2)
def evLC(lo n:Nat)(it:EvA)(g:GV)(c:EvT)(e:Ev):Ev:=λenv=>bindR (it env) λds env1=>if env1.length=lo then bindR (lcO g c e ds (env1++List.replicate (n - lo) none)) λys env2=>(if ys.length<=sizeLine then .ok (.lst ys) (env2.take lo) else .stuck) else .stuck
def PXIf(X:Cx)(C:Cfg)(ifs:List Expr)(ev:EvT):Prop:=PIf X ifs (tT C ev)
def evTrue:EvT:=λenv=>.ok true env
theorem pxif_nil{X:Cx}{C:Cfg}:PXIf X C [] evTrue:=λpins s σ H Q I h=>by
 obtain⟨Pr,F,env,env',b,r,e,q⟩:=h;cases e;exact pif_nil pins s σ H Q I (q H F r (Same.refl F))
theorem lc_go{C:Cfg}{lo n:Nat}{it:EvA}{g:GV}{c:EvT}{e:Ev}{σ:L2.St}{H:Hp}{Q:VK}(h:tN C (evLC lo n it g c e) σ H Q):tLC n (tI C it) (tG C lo g) (tT C c) (tE C e) σ H Q:=by
 obtain⟨Pr,F,env,env',d,r,ev,q⟩:=h;obtain⟨ds,env1,e1,e2⟩:=bindR_ok ev;split at e2
 ·rename_i hlo;obtain⟨ys,env2,e3,e4⟩:=bindR_ok e2;split at e4
  ·rename_i hz;cases e4;refine⟨Pr,F,env,env1,ds,r,e1,λJ H1 F1 r1 s1 y1 a ha=>?_⟩;have hσ:σ.length=lo:=r1.len.symm.trans hlo;have hPa:Pr a=none:=r1.pr.free ha;refine⟨λi m σ' H'=>m=ds.length - i/\i<=ds.length/\∃F' envI acc ws rest,Rel C (upd Pr a (.lst ws)) F' envI σ' H'/\Same F1 F'/\Reps C.K F' acc ws/\σ'.take lo=σ/\lcO g c e (ds.drop i) envI = .ok rest env2/\acc++rest=ys,
    ⟨ds.length,rfl,Qz9 _,F1,env1++List.replicate (n - lo) none,[],[],ys,?_,Same.refl _,rfl,?_,e3,rfl⟩,?_⟩
   ·rw[hσ];exact(r1.aside (o:=.lst []) ha).pad _
   ·unfold padS;rw[<-hσ,List.take_left]
   rintro i m σ' H' ⟨rfl,hi,F',envI,acc,ws,rest,r',s',p',t',l',hacc⟩;have hFa:F' a=none:=by
    cases ez:F' a with
    | none=>rfl
    | some w=>have:=r'.dj a w ez;rw[upd_same] at this;cases this
   by_cases hl:i<ds.length
   ·have hd:ds[i]? = some ds[i]:=Qx3 hl;have hdr:ds.drop i=ds[i]::ds.drop (i+1):=Qz2 hl;have yy:=y1 i H' (s'.trans r'.fr);refine .inr ⟨(yy.2 _ hd).1,λσ2 H2=>∃F' envI acc ws rest,Rel C (upd Pr a (.lst ws)) F' envI σ2 H2/\Same F1 F'/\Reps C.K F' acc ws/\σ2.take lo=σ/\lcO g c e (ds.drop (i+1)) envI = .ok rest env2/\acc++rest=ys,
     λσ2 H2 h2=>⟨ds.length - (i+1),by omega,rfl,hl,h2⟩,λx H2 hy=>?_⟩
    obtain⟨F2,r2,s2,p2⟩:=Yields.item r' s' y1 hd hy;rw[hdr] at l';unfold lcO at l';cases eg:g ds[i] envI with
    | none=>rw[eg] at l';cases l'
    | some e5=>
     rw[eg] at l';obtain⟨b,e6,c1,l2⟩:=bindR_ok l';refine⟨_,F2,envI,e5,ds[i],r2,p2,eg,λσ3 H3 F3 r3 s3 t3=>⟨_,F3,e5,e6,b,r3,c1,λH4 F4 r4 s4=>?_⟩⟩;have t3':σ3.take lo=σ:=t3.trans t';have s24:Same F' F4:=(s2.trans s3).trans s4;cases b with
     | false=>
      show if false=true then _ else _
      rw[if_neg Qxk];rw[if_neg Qxk] at l2;exact⟨F4,e6,acc,ws,rest,r4,s'.trans s24,Reps.mono s24 _ _ p',t3',l2,hacc⟩
     | true=>
      show if true=true then _ else _
      rw[if_pos rfl];rw[if_pos rfl] at l2;obtain⟨y,e7,c2,l3⟩:=bindR_ok l2;obtain⟨ys2,e8,c3,l4⟩:=bindR_ok l3;cases l4;refine⟨_,F4,e6,e7,y,r4,c2,λv H5 F5 r5 s5 p5=>?_⟩;have hlen:acc.length+(ys2.length+1)=ys.length:=by rw[<-hacc,Qqj,Qqk]
      refine⟨ws,r5.pr _ _ upd_same,by rw[p'.length];omega,F5,e7,acc++[y],ws++[v],ys2,?_,s'.trans (s24.trans s5),(Reps.mono (s24.trans s5) _ _ p').append (Reps.one p5),t3',c3,by rw[Qx0];exact hacc⟩;have r6:=r5.turn (u:=.lst (ws++[v])) upd_same
      rwa [upd_upd] at r6
   ·have ei:i=ds.length:=by omega
    subst ei;rw[List.drop_length] at l';cases l';rw[Qxx] at hacc;subst hacc;refine .inl ⟨(y1 _ H' (s'.trans r'.fr)).1 (Qz3 (Qqy _)) rfl,?_⟩;have sP:Same Pr (upd Pr a (.lst ws)):=same_upd hPa;have r7:Rel C Pr F' (env2.take lo) σ H':=by
     have:=(r'.less sP).cut (σ0:=σ) (by rw[hσ];exact t') r1.fix
     rwa [hσ] at this
    refine q a H' F' r7 (s1.trans s') ⟨⟨hz,ws,r'.pr _ _ upd_same,p'⟩,hFa,hPa,λj e he hs=>?_⟩;have hj:j<σ.length:=(Qq6.mp hs).1;have he':env2[j]? = some (some (true,e)):=by rw[Qz5 (by rw[<-hσ];exact hj)] at he;exact he
    obtain⟨b,g1,_,_,g4⟩:=r'.own j e he';have:σ'[j]? = some (some (V.ref a)):=by rw[<-t',Qz5 (by rw[<-hσ];exact hj)] at hs;exact hs
    rw[this] at g1;cases g1;rw[upd_same] at g4;cases g4
  ·cases e4
 ·cases e2
section
variable{X:Cx}{C:Cfg}{pos:Pos}
theorem pxn_lc{elt tg iter:Expr}{ifs:List Expr}{scope:Scope}(N':List Str){it:EvA}{g:GV}{c:EvT}{e:Ev}(lo:Nat)(ok:CompOk X scope N')(hc:X.calm=true)(hi:PXI X C tg iter it)
  (bg:∀X',CxAt X scope N' X'->PXG X' C lo tg g) (bc:∀X',CxAt X scope N' X'->PXIf X' C ifs c) (be:∀X',CxAt X scope N' X'->PX X' C elt e)
  (hs:∀x,foldedSetIterable iter X.env x=pure x:=by intro _;rfl):PXN X C (.ListComp elt [⟨tg,iter,ifs,0⟩] scope pos) (evLC lo N'.length it g c e):=
 (pe_lc ok hc hi bg bc be hs).imp λσ H Q h=>lc_go h
end
def spP(K:Fg)(n:Nat)(f:List D->Option D):Sp:=λvs H Q _=>∃(F:Hp) (ds:List D) (d:D),ds.length=n/\Same F H/\Reps K F ds vs/\f ds=some d/\
 ∀v H' F',Same H H'->Same F' H'->Same F F'->(∀b o,F' b=some o->F b=some o\/H b=none)->Rep K F' d v->Q v H'
def spN(K:Fg)(n:Nat)(f:List D->Option D):Sp:=λvs H Q _=>∃(F:Hp) (ds:List D) (d:D),ds.length=n/\Same F H/\Reps K F ds vs/\f ds=some d/\
 ∀a H' F',Same H H'->Same F' H'->Same F F'->(∀b o,F' b=some o->F b=some o\/H b=none)->OwnAt K F' H' d a->F' a=none->H a=none->Q (.ref a) H'
def spIO(K:Fg)(n:Nat)(f:List D->Option (D×D)):Sp:=λvs H Q _=>∃(F:Hp) (a:Addr) (r:List V) (x:D) (ds:List D) (d x':D),vs = .ref a::r/\ds.length+1=n/\Same F H/\F a=none/\OwnAt K F H x a/\Reps K F ds r/\f (x::ds)=some (d,x')/\
 ∀v H' F',(∀b o,b≠a->H b=some o->H' b=some o)->Same F' H'->Same F F'->(∀b o,F' b=some o->F b=some o\/H b=none)->OwnAt K F' H' x' a->Rep K F' d v->Q v H'
theorem Rel.after{C:Cfg}{Pr F F':Hp}{env:Env}{σ:L2.St}{H H':Hp}(r:Rel C Pr F env σ H)(s:Same H H')(sF:Same F' H')(sF':Same F F')(nw:∀b o,F' b=some o->F b=some o\/H b=none):Rel C Pr F' env σ H':=by
 refine⟨r.pr.trans s,sF,r.len,λj e he=>?_,λj e he=>?_,r.apart,λb o e=>?_,r.fix⟩
 ·obtain⟨v,h1,h2⟩:=r.val j e he;exact⟨v,h1,Rep.mono sF' _ _ h2⟩
 ·obtain⟨a,h1,h2,h3,h4⟩:=r.own j e he;obtain⟨o,ho⟩:=h2.some;refine⟨a,h1,h2.mono sF' (by rw[ho,s _ _ ho]),?_,h4⟩;cases e:F' a with
  | none=>rfl
  | some u=>
   rcases nw a u e with z|z
   ·rw[h3] at z;cases z
   ·rw[ho] at z;cases z
 ·rcases nw b o e with z|z
  ·exact r.dj b o z
  ·exact r.pr.free z
theorem Rel.afterIO{C:Cfg}{Pr F F':Hp}{env:Env}{σ:L2.St}{H H':Hp}{i:Nat}{a:Addr}{d d':D}(r:Rel C Pr F env σ H)(h:env[i]? = some (some (true,d)))(hs:σ[i]? = some (some (V.ref a)))(s:∀b o,b≠a->H b=some o->H' b=some o)(sF:Same F' H')(sF':Same F F')(nw:∀b o,F' b=some o->F b=some o\/H b=none)(ho:OwnAt C.K F' H' d' a):Rel C Pr F' (env.set i (some (true,d'))) σ H':=by
 obtain⟨a',h1,h2,h3,h4⟩:=r.own i d h;rw[hs] at h1;cases h1;have hi:i<env.length:=(Qq6.mp h).1;obtain⟨oa,hoa⟩:=h2.some;have ne:∀(j:Nat) (e:D) (b:Addr),j≠i->env[j]? = some (some (true,e))->σ[j]? = some (some (V.ref b))->b≠a:=λj e b hj he g z=>hj (r.apart j i e d a he h (by rw[<-z];exact g) hs);have nF:∀b u,F b=none->H b=some u->F' b=none:=λb u e1 e2=>by
  cases e:F' b with
  | none=>rfl
  | some w=>
   rcases nw b w e with z|z
   ·rw[e1] at z;cases z
   ·rw[e2] at z;cases z
 refine⟨λb w e=>?_,sF,by rw[Qwy];exact r.len,λj e he=>?_,λj e he=>?_,λj k e f b hj hk g1 g2=>?_,λb o e=>?_,r.fix⟩
 ·have hb:b≠a:=λz=>by rw[z,h4] at e;cases e
  exact s b w hb (r.pr b w e)
 ·by_cases hj:j=i
  ·subst hj;rw[Qq8 hi] at he;cases he
  ·rw[Qqw (Ne.symm hj)] at he;obtain⟨v,g1,g2⟩:=r.val j e he;exact⟨v,g1,Rep.mono sF' _ _ g2⟩
 ·by_cases hj:j=i
  ·subst hj;rw[Qq8 hi] at he;cases he;exact⟨a,hs,ho,nF a oa h3 hoa,h4⟩
  ·rw[Qqw (Ne.symm hj)] at he;obtain⟨b,g1,g2,g3,g4⟩:=r.own j e he;obtain⟨ob,hob⟩:=g2.some;exact⟨b,g1,g2.mono sF' (by rw[hob,s b ob (ne j e b hj he g1) hob]),nF b ob g3 hob,g4⟩
 ·have un:∀(j:Nat) (e:D),(env.set i (some (true,d')))[j]? = some (some (true,e))->∃e',env[j]? = some (some (true,e')):=λj e he=>by
   by_cases hj:j=i
   ·subst hj;exact⟨d,h⟩
   ·rw[Qqw (Ne.symm hj)] at he;exact⟨e,he⟩
  obtain⟨e',hj'⟩:=un j e hj;obtain⟨f',hk'⟩:=un k f hk;exact r.apart j k e' f' b hj' hk' g1 g2
 ·rcases nw b o e with z|z
  ·exact r.dj b o z
  ·exact r.pr.free z
section
variable{X:Cx}{C:Cfg}{pos p:Pos}{k n:Nat}{f:Addr}{fd:FuncData}{ps:List Str}{x:Str}{e:Expr}{es:List Expr}
theorem evCall_len{g:List D->Option D}{a:EvA}{env env':Env}{d:D}(h:evCall g a env = .ok d env'):∃ds,a env = .ok ds env'/\g ds=some d:=by obtain⟨ds,env1,e1,e2⟩:=bindR_ok h;obtain⟨e3,rfl⟩:=liftR_ok e2;exact⟨ds,e1,e3⟩
theorem px_own{g:List D->Option D}{a:EvA}(G:FnOk X.prog X.w X.K X.mg X.base CX0 k f fd ps (spP C.K n g))(hr:Room k X.A)(hg:Gl X x)(hm:X.mg x=some (.ref f))(hk:PySem.W.keepIn X.K (.ref f)=true)(hb:Binds X.K fd ps [])
  (ha:PXA X C (e::es) a) (hn:∀env ds env',a env = .ok ds env'->ds.length=n) (hdb:nDb x:=by decide) (he:starEach (e::es) X.env=(false,eval e X.env)::starEach es X.env:=by rfl) (hpl:(backTo pos (starEach es X.env)).any (·.1)=false:=by rfl) :
  PX X C (.Call (.Name x p) (e::es) [] pos) (evCall g a):=(pe_call G hr hg hm hk hb .nil pass0 ha hdb he hpl).imp λσ H Q hq=>by
 obtain⟨Pr,F,env,env',d,r,e,q⟩:=hq;obtain⟨ds,e1,e2⟩:=evCall_len e;refine⟨Pr,F,env,env',ds,r,e1,λvs H1 F1 r1 s1 p1=>?_⟩;show spP C.K n g (vs++[]) H1 Q E0;rw[Qxx];exact⟨F1,ds,d,hn _ _ _ e1,r1.fr,p1,e2,λv H2 F2 t1 t2 t3 t4 p2=>q v H2 F2 (r1.after t1 t2 t3 t4) (s1.trans t3) p2⟩
theorem pxn_own{g:List D->Option D}{a:EvA}(G:FnOk X.prog X.w X.K X.mg X.base CX0 k f fd ps (spN C.K n g))(hr:Room k X.A)(hg:Gl X x)(hm:X.mg x=some (.ref f))(hk:PySem.W.keepIn X.K (.ref f)=true)(hb:Binds X.K fd ps [])
  (ha:PXA X C (e::es) a) (hn:∀env ds env',a env = .ok ds env'->ds.length=n) (hdb:nDb x:=by decide) (he:starEach (e::es) X.env=(false,eval e X.env)::starEach es X.env:=by rfl) (hpl:(backTo pos (starEach es X.env)).any (·.1)=false:=by rfl) :
  PXN X C (.Call (.Name x p) (e::es) [] pos) (evCall g a):=(pe_call G hr hg hm hk hb .nil pass0 ha hdb he hpl).imp λσ H Q hq=>by
 obtain⟨Pr,F,env,env',d,r,e,q⟩:=hq;obtain⟨ds,e1,e2⟩:=evCall_len e;refine⟨Pr,F,env,env',ds,r,e1,λvs H1 F1 r1 s1 p1=>?_⟩;show spN C.K n g (vs++[]) H1 Q E0;rw[Qxx];refine⟨F1,ds,d,hn _ _ _ e1,r1.fr,p1,e2,λb H2 F2 t1 t2 t3 t4 ho hF hH=>q b H2 F2 (r1.after t1 t2 t3 t4) (s1.trans t3) ⟨ho,hF,r1.pr.free hH,λj e he hs=>?_⟩⟩;obtain⟨c,h1,h2,_⟩:=r1.own j e he;rw[hs] at h1;cases h1;obtain⟨u,hu⟩:=h2.some;rw[hH] at hu;cases hu
def evIO(f:List D->Option (D×D))(i:Nat)(a:EvA):Ev:=λenv=>match env[i]? with
 | some (some (true,_))=>bindR (a env) λds env1=>(match env1[i]? with
  | some (some (true,x))=>(match f (x::ds) with
   | some (d,x')=>.ok d (env1.set i (some (true,x')))
   | none=>.stuck)
  | _=>.stuck)
 | _=>.stuck
theorem px_io{g:List D->Option (D×D)}{a:EvA}{i:Nat}{y:Str}{py:Pos}(hN:X.N[i]? = some y)(hv:Vis X.env.scope y)(G:FnOk X.prog X.w X.K X.mg X.base CX0 k f fd ps (spIO C.K n g))(hr:Room k X.A)(hg:Gl X x)(hm:X.mg x=some (.ref f))(hk:PySem.W.keepIn X.K (.ref f)=true)(hb:Binds X.K fd ps [])
  (ha:PXA X C es a) (hn:∀env ds env',a env = .ok ds env'->ds.length+1=n) (hdb:nDb x:=by decide) (he:starEach (.Name y py::es) X.env=(false,eval (.Name y py) X.env)::starEach es X.env:=by rfl) (hpl:(backTo pos (starEach es X.env)).any (·.1)=false:=by rfl)
  (hd:nDb y:=by decide) (hcd:nCd y:=by decide) :
  PX X C (.Call (.Name x p) (.Name y py::es) [] pos) (evIO g i a):=(pe_call G hr hg hm hk hb .nil pass0 (pa_cons (pe_var hN hv hd hcd) ha he) hdb he hpl).imp λσ H Q hq=>by
 obtain⟨Pr,F,env,env',d,r,e,q⟩:=hq;unfold evIO at e;split at e
 ·rename_i d0 h0;obtain⟨ds,env1,e1,e2⟩:=bindR_ok e;split at e2
  ·rename_i z hz;split at e2
   ·rename_i d1 z' hg;cases e2;obtain⟨a0,hs0,_⟩:=r.own i _ h0;refine⟨_,hs0,Pr,F,env,env1,ds,r,e1,λvs H1 F1 r1 s1 p1=>?_⟩;obtain⟨a1,hs1,ho1,hF1,hP1⟩:=r1.own i _ hz;rw[hs0] at hs1;cases hs1;show spIO C.K n g (_::vs++[]) H1 Q E0;rw[Qxx];exact⟨F1,a0,vs,z,ds,d,z',rfl,hn _ _ _ e1,r1.fr,hF1,ho1,p1,hg,λv H2 F2 t1 t2 t3 t4 t5 p2=>q v H2 F2 (r1.afterIO hz hs0 t1 t2 t3 t4 t5) (s1.trans t3) p2⟩
   ·cases e2
  ·cases e2
 ·cases e
end
def envOf(n:Nat)(ds:List D):Env:=ds.map (λd=>some (false,d))++List.replicate (n - ds.length) none
def envIO(n:Nat)(x:D)(ds:List D):Env:=some (true,x)::(ds.map (λd=>some (false,d))++List.replicate (n - (ds.length+1)) none)
def runP(n:Nat)(ev:EvS)(ds:List D):Option D:=match ev (envOf n ds) with
 | .rt false d _=>some d
 | .nx _=>some .non
 | _=>none
def runN(n:Nat)(ev:EvS)(ds:List D):Option D:=match ev (envOf n ds) with
 | .rt true d _=>some d
 | _=>none
def runIO(n:Nat)(ev:EvS)(ds:List D):Option (D×D):=match ds with
 | []=>none
 | x::r=>(match ev (envIO n x r) with
  | .rt false d env=>(match env[0]? with
   | some (some (true,x'))=>some (d,x')
   | _=>none)
  | .nx env=>(match env[0]? with
   | some (some (true,x'))=>some (.non,x')
   | _=>none)
  | _=>none)
def C0(K:Fg):Cfg:=⟨K,λ_=>none⟩
def C1(K:Fg)(a:Addr):Cfg:=⟨K,λi=>if i=0 then some a else none⟩
def mns(H F:Hp):Hp:=λb=>if (F b).isSome then none else H b
theorem mns_some{H F:Hp}{b:Addr}{o:HO}(h:mns H F b=some o):H b=some o/\F b=none:=by
 unfold mns at h;split at h
 ·cases h
 ·rename_i z;exact⟨h,by cases e:F b with|none=>rfl|some w=>rw[e] at z;exact absurd rfl z⟩
theorem mns_none{H F:Hp}{b:Addr}(h:mns H F b=none):H b=none\/∃o,F b=some o:=by
 unfold mns at h;split at h
 ·rename_i z;exact .inr (Qz4.mp z)
 ·exact .inl h
theorem rel_start{K:Fg}{F H:Hp}{ds:List D}{vs:List V}{N:List Str}(s:Same F H)(p:Reps K F ds vs):Rel (C0 K) (mns H F) F (envOf N.length ds) (start N vs) H:=by
 have un:∀(j:Nat) (x:Bool×D),(envOf N.length ds)[j]? = some (some x)->∃d,x=(false,d)/\ds[j]? = some d:=λj x he=>by
  unfold envOf at he;by_cases hj:j<(ds.map λd=>some (false,d)).length
  ·rw[Qw5 hj,Qw8] at he;obtain⟨d,h1,h2⟩:=Qw0.mp he;cases h2;exact⟨d,rfl,h1⟩
  ·rw[Qxw (by omega),Qzj] at he;split at he<;>cases he
 refine⟨λb o e=>(mns_some e).1,s,?_,λj d he=>?_,λj d he=>?_,λj k d e a hj hk=>?_,λb o e=>?_,λi a h=>by cases h⟩
 ·unfold envOf L2.start;rw[Qqj,Qqj,Qqx,Qqx,Qx4,Qx4,p.length]
 ·obtain⟨d',z,hd⟩:=un j _ he;cases z;obtain⟨v,h1,h2⟩:=p.get hd;refine⟨v,?_,h2⟩;unfold L2.start;rw[Qw5 (by rw[Qqx];exact(Qq6.mp h1).1),Qw8,h1]
  rfl
 ·obtain⟨d',z,_⟩:=un j _ he;cases z
 ·obtain⟨d',z,_⟩:=un j _ hj;cases z
 ·unfold mns;rw[e];rfl
theorem Same.of_mns{H F F' H':Hp}(s1:Same (mns H F) H')(s2:Same F F')(s3:Same F' H')(sF:Same F H):Same H H':=λb o e=>by
 cases z:F b with
 | none=>exact s1 b o (by unfold mns;rw[z];exact e)
 | some w=>
  have:=sF b w z;rw[e] at this;cases this;exact s3 b o (s2 b o z)
theorem mns_dj{H F F':Hp}(s2:Same F F')(dj:∀b o,F' b=some o->mns H F b=none)(b:Addr)(o:HO)(h:F' b=some o):F b=some o\/H b=none:=by
 rcases mns_none (dj b o h) with z|⟨w,z⟩
 ·exact .inr z
 ·have:=s2 b w z;rw[h] at this;cases this;exact .inl z
section
variable{P:Program}{w:World}{K:Fg}{mg:Str->Option Value}{base:Heap}{x qual:Str}{st:Stmt}{f:Addr}{fd:FuncData}{N ps:List Str}{k:Nat}{ev:EvS}
abbrev bx(P:Program)(w:World)(K:Fg)(mg:Str->Option Value)(base:Heap)(N:List Str)(qual:Str)(st:Stmt)(f:Addr)(cdv:Value)(A:Around)(outer:List PySem.Env)(s:Shared)(H:Hp)(E:XK):Cx:=(cxOf CX0 P w K mg base N qual (defScope st) f cdv A outer s H E).nox
theorem def_pure(F:Fun K x qual st f fd)(S:FnScope N ps (defScope st))
  (hb:∀(cdv:Value) (A:Around) (outer:List PySem.Env) (s:Shared) (H:Hp) (E:XK),Room k (A.deeper (envOfC qual (defScope st) s.heap.objs.size f cdv))->PXSs (bx P w K mg base N qual st f cdv A outer s H E) (C0 K) (defBody st) ev) :
  FnOk P w K mg base CX0 (k+1) f fd ps (spP K ps.length (runP N.length ev)):=by
 refine F.ok S (λvs H Q E h=>?_) (λcdv A outer s H vs Q E hr h=>?_)
 ·obtain⟨F0,ds,d,hl,_,p,_⟩:=h;rw[p.length,hl]
 ·obtain⟨F0,ds,d,hl,sF,p,e,q⟩:=h;refine⟨_,hb cdv A outer s H E hr,mns H F0,F0,envOf N.length ds,rel_start sF p,?_⟩;unfold runP at e;split at e
  ·rename_i d' env' h1;cases e;rw[h1];exact λv σ' H' F' r' s' p'=>q v H' F' (Same.of_mns r'.pr s' r'.fr sF) r'.fr s' (mns_dj s' r'.dj) p'
  ·rename_i env' h1;cases e;rw[h1];exact λσ' H' F' r' s'=>q .non H' F' (Same.of_mns r'.pr s' r'.fr sF) r'.fr s' (mns_dj s' r'.dj) rfl
  ·cases e
theorem def_new(F:Fun K x qual st f fd)(S:FnScope N ps (defScope st))
  (hb:∀(cdv:Value) (A:Around) (outer:List PySem.Env) (s:Shared) (H:Hp) (E:XK),Room k (A.deeper (envOfC qual (defScope st) s.heap.objs.size f cdv))->PXSs (bx P w K mg base N qual st f cdv A outer s H E) (C0 K) (defBody st) ev) :
  FnOk P w K mg base CX0 (k+1) f fd ps (spN K ps.length (runN N.length ev)):=by
 refine F.ok S (λvs H Q E h=>?_) (λcdv A outer s H vs Q E hr h=>?_)
 ·obtain⟨F0,ds,d,hl,_,p,_⟩:=h;rw[p.length,hl]
 ·obtain⟨F0,ds,d,hl,sF,p,e,q⟩:=h;refine⟨_,hb cdv A outer s H E hr,mns H F0,F0,envOf N.length ds,rel_start sF p,?_⟩;unfold runN at e;split at e
  ·rename_i d' env' h1;cases e;rw[h1];refine λa σ' H' F' r' s' n'=>q a H' F' (Same.of_mns r'.pr s' r'.fr sF) r'.fr s' (mns_dj s' r'.dj) n'.own n'.nF ?_;rcases mns_none n'.nP with z|⟨u,z⟩
   ·exact z
   ·have:=s' a u z;rw[n'.nF] at this;cases this
  ·cases e
theorem rel_startIO{K:Fg}{F H:Hp}{y:D}{a:Addr}{ds:List D}{vs:List V}{N:List Str}(s:Same F H)(hF:F a=none)(ho:OwnAt K F H y a)(p:Reps K F ds vs):Rel (C1 K a) (λb=>if b=a then none else mns H F b) F (envIO N.length y ds) (start N (.ref a::vs)) H:=by
 have un:∀(j:Nat) (x:Bool×D),(envIO N.length y ds)[j]? = some (some x)->(j=0/\x=(true,y))\/∃i d,j=i+1/\x=(false,d)/\ds[i]? = some d:=λj x he=>by
  unfold envIO at he;cases j with
  | zero=>cases he;exact .inl ⟨rfl,rfl⟩
  | succ i=>
   rw[List.getElem?_cons_succ] at he;by_cases hj:i<(ds.map λd=>some (false,d)).length
   ·rw[Qw5 hj,Qw8] at he;obtain⟨d,h1,h2⟩:=Qw0.mp he;cases h2;exact .inr ⟨i,d,rfl,rfl,h1⟩
   ·rw[Qxw (by omega),Qzj] at he;split at he<;>cases he
 have z0:(start N (.ref a::vs))[0]? = some (some (V.ref a)):=rfl;refine⟨λb o e=>?_,s,?_,λj d he=>?_,λj d he=>?_,λj k d e b hj hk _ _=>?_,λb o e=>?_,λi b h=>?_⟩
 ·have e':(if b=a then none else mns H F b)=some o:=e;split at e'
  ·cases e'
  ·exact(mns_some e').1
 ·unfold envIO L2.start;simp only[Qqk,Qqj,Qqx,Qx4,p.length,Qq9];omega
 ·rcases un j _ he with ⟨_,z⟩|⟨i,d',rfl,z,hd⟩
  ·cases z
  ·cases z;obtain⟨v,h1,h2⟩:=p.get hd;refine⟨v,?_,h2⟩;unfold L2.start;rw[Qq9,Qw1,List.getElem?_cons_succ,Qw5 (by rw[Qqx];exact(Qq6.mp h1).1),Qw8,h1]
   rfl
 ·rcases un j _ he with ⟨rfl,z⟩|⟨i,d',rfl,z,hd⟩
  ·cases z;exact⟨a,z0,ho,hF,if_pos rfl⟩
  ·cases z
 ·rcases un j _ hj with ⟨rfl,_⟩|⟨i,d',rfl,z,_⟩
  ·rcases un k _ hk with ⟨rfl,_⟩|⟨i,d',rfl,z,_⟩
   ·rfl
   ·cases z
  ·cases z
 ·show(if b=a then none else mns H F b)=none;split
  ·rfl
  ·unfold mns;rw[e];rfl
 ·have h':(if i=0 then some a else none)=some b:=h;split at h'
  ·rename_i hi;cases h';rw[hi];exact z0
  ·cases h'
theorem def_io{y:Str}{qs:List Str}(F:Fun K x qual st f fd)(S:FnScope N (y::qs) (defScope st))
  (hb:∀(cdv:Value) (A:Around) (outer:List PySem.Env) (s:Shared) (H:Hp) (E:XK) (a:Addr),Room k (A.deeper (envOfC qual (defScope st) s.heap.objs.size f cdv))->PXSs (bx P w K mg base N qual st f cdv A outer s H E) (C1 K a) (defBody st) ev) :
  FnOk P w K mg base CX0 (k+1) f fd (y::qs) (spIO K (qs.length+1) (runIO N.length ev)):=by
 refine F.ok S (λvs H Q E h=>?_) (λcdv A outer s H vs Q E hr h=>?_)
 ·obtain⟨F0,a,r,z,ds,d,z',rfl,hl,_,_,_,p,_⟩:=h;rw[Qqk,Qqk,p.length];exact hl
 ·obtain⟨F0,a,r,z,ds,d,z',rfl,hl,sF,hFa,ho,p,e,q⟩:=h;refine⟨_,hb cdv A outer s H E a hr,_,F0,envIO N.length z ds,rel_startIO sF hFa ho p,?_⟩;have fin:∀(env':Env) (σ':L2.St) (H' F':Hp) (v:V) (d:D) (z':D),env'[0]? = some (some (true,z'))->Rel (C1 K a) (λb=>if b=a then none else mns H F0 b) F' env' σ' H'->Same F0 F'->Rep K F' d v->(∀v H' F',(∀b o,b≠a->H b=some o->H' b=some o)->Same F' H'->Same F0 F'->(∀b o,F' b=some o->F0 b=some o\/H b=none)->OwnAt K F' H' z' a->Rep K F' d v->Q v H')->Q v H':=λenv' σ' H' F' v d z' h0 r' s' p' q=>by
   obtain⟨b,g1,g2,g3,g4⟩:=r'.own 0 z' h0;have g5:=r'.fix 0 a rfl;rw[g1] at g5;cases g5;refine q v H' F' (λc o hc e=>?_) r'.fr s' (λc o e=>?_) g2 p'
   ·cases u:F0 c with
    | none=>exact r'.pr c o (by show(if c=a then none else mns H F0 c)=some o;rw[if_neg hc];unfold mns;rw[u];exact e)
    | some w=>
     have:=sF c w u;rw[e] at this;cases this;exact r'.fr c o (s' c o u)
   ·by_cases hc:c=a
    ·subst hc;rw[g3] at e;cases e
    ·have h1:=r'.dj c o e;have h1':(if c=a then none else mns H F0 c)=none:=h1;rw[if_neg hc] at h1';rcases mns_none h1' with u|⟨w,u⟩
     ·exact .inr u
     ·have:=s' c w u;rw[e] at this;cases this;exact .inl u
  unfold runIO at e;simp only at e;split at e
  ·rename_i d' env' h1;split at e
   ·rename_i z1 h0;cases e;rw[h1];exact λv σ' H' F' r' s' p'=>fin env' σ' H' F' v _ _ h0 r' s' p' q
   ·cases e
  ·rename_i env' h1;split at e
   ·rename_i z1 h0;cases e;rw[h1];exact λσ' H' F' r' s'=>fin env' σ' H' F' .non .non _ h0 r' s' rfl q
   ·cases e
  ·cases e
end
structure Good(X:Cx)(C:Cfg):Prop where
 K:X.K=C.K
 calm:X.calm=true
 un:X.A.units+64<cLine
theorem Good.u60{X:Cx}{C:Cfg}(G:Good X C):X.A.units+60<cLine:=Nat.lt_of_le_of_lt (Nat.add_le_add_left (by decide:60<=64) _) G.un
theorem Good.u61{X:Cx}{C:Cfg}(G:Good X C):X.A.units+61<cLine:=Nat.lt_of_le_of_lt (Nat.add_le_add_left (by decide:61<=64) _) G.un
theorem Good.at{X X':Cx}{C:Cfg}{scope:Scope}{N':List Str}(G:Good X C)(h:CxAt X scope N' X'):Good X' C:=by obtain⟨_,_,_,_,_,rfl⟩:=h;exact⟨G.K,G.calm,G.un⟩
def Own(P:Program)(w:World)(K:Fg)(mg:Str->Option Value)(base:Heap)(x:Str)(k:Nat)(ps:List Str)(sp:Sp):Prop:=
 ∃f fd,FnOk P w K mg base CX0 k f fd ps sp/\mg x=some (.ref f)/\PySem.W.keepIn K (.ref f)=true/\Binds K fd ps []
def Glb(K:Fg)(mg:Str->Option Value)(x:Str)(d:D):Prop:=∃v u,mg x=some u/\RelV v u/\∀F,Rep K F d v
def FunAt(K:Fg)(mg:Str->Option Value)(x:Str)(st:Stmt)(ps:List Str):Prop:=∃f fd,Fun K x x st f fd/\mg x=some (.ref f)/\Binds K fd ps []
def nodupB:List Str->Bool
 | []=>true
 | x::r=>!(r.contains x)&&nodupB r
theorem nodupB_ok:∀{l:List Str},nodupB l=true->l.Nodup
 | [],_=>.nil
 | x::r,h=>by
  have h':(!(r.contains x)&&nodupB r)=true:=h;rw[Qwv] at h';refine Qj6.mpr ⟨λhm=>?_,nodupB_ok h'.2⟩;have:r.contains x=true:=List.contains_iff_mem.mpr hm;rw[this] at h';exact absurd h'.1 (by decide)
def freeB(outer:List (Str×NameKind)):List (Str×NameKind)->Bool
 | []=>true
 | (n,k)::r=>(!decide (k = .free)||decide (outer.lookup n=some .cell)||decide (outer.lookup n=some .free))&&freeB outer r
theorem freeB_ok{outer:List (Str×NameKind)}:∀{l:List (Str×NameKind)},freeB outer l=true->∀x∈l,x.2 = .free->outer.lookup x.1=some .cell\/outer.lookup x.1=some .free
 | [],_,x,hx,_=>by simp at hx
 | (n,k)::r,h,x,hx,hf=>by
  have h':((!decide (k = .free)||decide (outer.lookup n=some .cell)||decide (outer.lookup n=some .free))&&freeB outer r)=true:=h;rw[Qwv,Bool.or_eq_true,Bool.or_eq_true] at h';rcases Qwq.mp hx with rfl|hx
  ·rcases h'.1 with (z|z)|z
   ·have hf':k = .free:=hf;rw[Qw4 hf'] at z;exact absurd z (by decide)
   ·exact .inl (Qw2 z)
   ·exact .inr (Qw2 z)
  ·exact freeB_ok h'.2 x hx hf
theorem compOk{X:Cx}{scope:Scope}{N':List Str}(h1:scope.kind = .function:=by rfl)(h2:nodupB (scope.names.map (·.1))=true:=by rfl)(h3:freeB X.env.scope.names scope.names=true:=by rfl)(h4:chkC scope.names N' X.N=true:=by rfl)(h5:Nat.ble X.N.length N'.length=true:=by rfl):CompOk X scope N':=
 ⟨h1,nodupB_ok h2,freeB_ok h3,h4,Qjv h5⟩
section
variable{X:Cx}{C:Cfg}{pos p px:Pos}{x y z:Expr}{a b c:Ev}{t u:EvT}{i:Nat}{n:Str}
structure Bi(X:Cx)(C:Cfg)(op:Operator)(g:D->D->Option D):Prop where
 ex:∃r,OpR X (binaryOp op) r/\OpD C r g
structure Cm(X:Cx)(C:Cfg)(op:CmpOp)(g:D->D->Option D):Prop where
 ex:∃r,OpR X (compareOp op) r/\OpD C r g
theorem b_add(G:Good X C):Bi X C .Add gAdd:=⟨_,op_add2,by rw[G.K];exact od_add⟩
theorem b_sub:Bi X C .Sub gSub:=⟨_,op_sub,od_sub⟩
theorem b_mul:Bi X C .Mult gMul:=⟨_,op_mulB,od_mul⟩
theorem b_mod:Bi X C .Mod gMod:=⟨_,op_mod,od_mod⟩
theorem b_pow:Bi X C .Pow gPow:=⟨_,op_pow,od_pow⟩
theorem b_shr:Bi X C .RShift gShr:=⟨_,op_shr,od_shr⟩
theorem b_and:Bi X C .BitAnd gAnd:=⟨_,op_and,od_and⟩
theorem c_eq(G:Good X C):Cm X C .Eq gEq:=⟨_,op_eqD G.u60,by rw[G.K];exact od_eq⟩
theorem c_ne(G:Good X C):Cm X C .NotEq gNe:=⟨_,op_neD G.u60,by rw[G.K];exact od_ne⟩
theorem c_in(G:Good X C):Cm X C .In gIn:=⟨_,op_in2 G.u61,by rw[G.K];exact od_in⟩
theorem c_isNot:Cm X C .IsNot gIsNot:=⟨_,op_isNot2,od_isNot⟩
theorem c_lt:Cm X C .Lt gLt:=⟨_,op_lt2,od_lt⟩
theorem c_le:Cm X C .LtE gLe:=⟨_,op_le,od_le⟩
theorem c_gt:Cm X C .Gt gGt:=⟨_,op_gt,od_gt⟩
variable{e:Expr}{es:List Expr}{ea:EvA}
theorem len0:∀(env:Env) (ds:List D) (env':Env),evNil env = .ok ds env'->ds.length=0:=evNil_len
theorem lenS{a:Ev}{r:EvA}{m:Nat}(hr:∀env ds env',r env = .ok ds env'->ds.length=m):∀(env:Env) (ds:List D) (env':Env),evCons a r env = .ok ds env'->ds.length=m+1:=evCons_len hr
theorem lenIO{r:EvA}{m:Nat}(hr:∀env ds env',r env = .ok ds env'->ds.length=m):∀(env:Env) (ds:List D) (env':Env),r env = .ok ds env'->ds.length+1=m+1:=λenv ds env' h=>by rw[hr env ds env' h]
theorem n_lc{elt tg iter:Expr}{ifs:List Expr}{scope:Scope}(N':List Str){it:EvA}{g:GV}{cc:EvT}{ee:Ev}(lo:Nat)(ok:CompOk X scope N')(G:Good X C)(hi:PXI X C tg iter it)
  (bg:∀X',CxAt X scope N' X'->PXG X' C lo tg g) (bc:∀X',CxAt X scope N' X'->PXIf X' C ifs cc) (be:∀X',CxAt X scope N' X'->PX X' C elt ee)
  (hs:∀x,foldedSetIterable iter X.env x=pure x:=by intro _;rfl):PXN X C (.ListComp elt [⟨tg,iter,ifs,0⟩] scope pos) (evLC lo N'.length it g cc ee):=pxn_lc N' lo ok G.calm hi bg bc be hs
end
section
variable{P:Program}{w:World}{K:Fg}{mg:Str->Option Value}{base:Heap}{x:Str}{st:Stmt}{N ps:List Str}{k:Nat}{ev:EvS}
theorem good_bx{x:Str}{f:Addr}{cdv:Value}{A:Around}{outer:List PySem.Env}{s:Shared}{H:Hp}{E:XK}{C:Cfg}(hC:C.K=K)(hr:Room k (A.deeper (envOfC x (defScope st) s.heap.objs.size f cdv))):Good (bx P w K mg base N x st f cdv A outer s H E) C:=⟨hC.symm,rfl,hr.units⟩
theorem own_pure(F:FunAt K mg x st ps)(S:FnScope N ps (defScope st))
  (hb:∀(f:Addr) (cdv:Value) (A:Around) (outer:List PySem.Env) (s:Shared) (H:Hp) (E:XK),Room k (A.deeper (envOfC x (defScope st) s.heap.objs.size f cdv))->Good (bx P w K mg base N x st f cdv A outer s H E) (C0 K)->PXSs (bx P w K mg base N x st f cdv A outer s H E) (C0 K) (defBody st) ev) :
  Own P w K mg base x (k+1) ps (spP K ps.length (runP N.length ev)):=by
 obtain⟨f,fd,h1,h2,h3⟩:=F;exact⟨f,fd,def_pure h1 S λcdv A outer s H E hr=>hb f cdv A outer s H E hr (good_bx rfl hr),h2,h1.kp,h3⟩
theorem own_new(F:FunAt K mg x st ps)(S:FnScope N ps (defScope st))
  (hb:∀(f:Addr) (cdv:Value) (A:Around) (outer:List PySem.Env) (s:Shared) (H:Hp) (E:XK),Room k (A.deeper (envOfC x (defScope st) s.heap.objs.size f cdv))->Good (bx P w K mg base N x st f cdv A outer s H E) (C0 K)->PXSs (bx P w K mg base N x st f cdv A outer s H E) (C0 K) (defBody st) ev) :
  Own P w K mg base x (k+1) ps (spN K ps.length (runN N.length ev)):=by
 obtain⟨f,fd,h1,h2,h3⟩:=F;exact⟨f,fd,def_new h1 S λcdv A outer s H E hr=>hb f cdv A outer s H E hr (good_bx rfl hr),h2,h1.kp,h3⟩
theorem own_io{y:Str}{qs:List Str}(F:FunAt K mg x st (y::qs))(S:FnScope N (y::qs) (defScope st))
  (hb:∀(f:Addr) (cdv:Value) (A:Around) (outer:List PySem.Env) (s:Shared) (H:Hp) (E:XK) (a:Addr),Room k (A.deeper (envOfC x (defScope st) s.heap.objs.size f cdv))->Good (bx P w K mg base N x st f cdv A outer s H E) (C1 K a)->PXSs (bx P w K mg base N x st f cdv A outer s H E) (C1 K a) (defBody st) ev) :
  Own P w K mg base x (k+1) (y::qs) (spIO K (qs.length+1) (runIO N.length ev)):=by
 obtain⟨f,fd,h1,h2,h3⟩:=F;exact⟨f,fd,def_io h1 S λcdv A outer s H E a hr=>hb f cdv A outer s H E a hr (good_bx rfl hr),h2,h1.kp,h3⟩
theorem scOk{sc:Scope}(h1:sc.kind = .function:=by rfl)(h2:sc.isCoroutine=false:=by rfl)(h3:sc.isGenerator=false:=by rfl)(h4:nodupB N=true:=by rfl)(h5:N.take ps.length=ps:=by rfl)
  (h6:(ps.all λx=>decide (sc.names.lookup x=some .local)||decide (sc.names.lookup x=some .cell))=true:=by rfl) (h7:(sc.names.all λy=>!decide (y.2 = .free))=true:=by rfl):FnScope N ps sc:=by
 refine⟨h1,h2,h3,nodupB_ok h4,h5,λx hx=>?_,λy hy z=>?_⟩
 ·have:=Qwk.mp h6 x hx;rw[Bool.or_eq_true] at this;rcases this with z|z
  ·exact .inl (Qw2 z)
  ·exact .inr (Qw2 z)
 ·have:=Qwk.mp h7 y hy;rw[Qw4 z] at this;exact absurd this (by decide)
end
open PySem PySem.Spec PySem.W PySem.Calls PyProof.Rows L2
theorem weight_ints:∀(ns:List Int) (i:Int),i∈ns->Builtin.Int.intBits i<=WData.weightAll (ns.map WData.int)
 | [],_,h=>by simp at h
 | n::ns,i,h=>by
  rw[Qq9,WData.weightAll];rcases Qwq.mp h with rfl|h
  ·have e:WData.weight (.int i)=Builtin.Int.intBits i:=by rw[WData.weight];rfl
   rw[e];omega
  ·have:=weight_ints ns i h;omega
def Bits(ns:List Int):Prop:=∀i∈ns,Builtin.Int.intBits i<=2^20
theorem attach_callB{l:OpenLaw}{n:Nat}{q:Program}{loose:List Str}{XP:(Str->Option Value)->Heap->Prop}{YP:World->Heap->Prop}{d:DefRec}
  (hn:l.most=some n) (hdf:d.params.defaults=[])
  (call:∀(w:World) (s₀ s₁:Shared) (mg mb:Str->Option Value) (fa:Addr) (o:Obj) (pm cd doc:Value) (a:Addr) (vs:List Value) (ns:List Int),
   Ground q loose [] XP w s₀ mg mb s₁.heap->YP w s₁.heap->
   s₁.heap.get? fa=some o->o.data = .func (docDef d.name d.params d.body d.scope pm cd doc)->s₁.heap.CodeRec cd d.name->mg d.name=some (.ref fa)->
   s₁.heap.get? a=some { cls:=.type "list",data:=.seq vs.toArray }->IntsAre vs ns->ns.length<=n->Bits ns->s₁.gens = #[]->
   codeAny (model l.prog w) callerA (.call (.ref fa) ⟨[.ref a],[]⟩) (λr s'=>r = .ok (.ret (.bool true))/\OldK s₁.heap s'.heap/\s'.os=s₁.os/\AllBare s'.gens) s₁) :
  WalkO q loose XP YP l.row.toRowW d [] (λf vs=>PySem.call f vs):=by
 intro w s₀ s₁ mg mb G Y fa o pm cd doc dV kV ho hd hcd hD hmg hg args vals as hpre hlay hrd hwl hlo;obtain rfl:dV = .none:=Dflts.none hD hdf;obtain rfl:kV = .none:=Dflts.noKw hD;obtain⟨a,vs,ns,rfl,rfl,hobj,hints,hlen⟩:=Att.script_of hn hpre hwl;have hbits:Bits ns:=λi hi=>by
  have h1:=(layableW_iff.mp (layableW_arg hlay _ (Qx2.mpr rfl))).2.2;rw[WData.weight] at h1;exact Qq2 (weight_ints ns i hi) h1
 refine enter_call (Qj8 (call w s₀ s₁ mg mb fa o pm cd doc a vs ns G Y ho (fd_plain hd) hcd hmg hobj hints hlen hbits hg) λr s' hq=>?_);obtain⟨rfl,h2,h3,h4⟩:=hq;exact⟨.inl ⟨.bool true,.bool true,[],rfl,λ_=>rfl,.bool true,Att.post_true l _,λ_=>⟨List.Pairwise.nil,λ_ hm=>(nomatch hm)⟩⟩,h2,h3,h4⟩
theorem walkB{l:PySem.W.OpenLaw}{n k:Nat}{q:Program}{loose:List Str}{XP:(Str->Option Value)->Heap->Prop}{YP:World->Heap->Prop}{d:DefRec}{K:Params->PySem.W.Frag}{x:Str}{f:List D->Option D}
  (hn:l.most=some n) (hn2:n<=sizeLine) (hdf:d.params.defaults=[]) (hr:Room k callerA)
  (hY:∀(w:World) (h:Heap),YP w h->(K w.params).In h)
  (hf:∀ns:List Int,ns.length<=n->Bits ns->f [.arr (ns.map .int)]=some (.bl true))
  (F:∀(w:World) (mg:Str->Option Value) (fa:Addr) (h:Heap),(K w.params).In h->h.Ns mainGlobals mg->mg d.name=some (.ref fa)->
   ∃fd:FuncData,(∀(s:Shared) (u:Value),BindsTo s fd ⟨[u],[]⟩ [(x,u)])/\
    ∀base:Heap,(K w.params).In base->base.Ns mainGlobals mg->FnOk l.prog w (K w.params) mg base CX0 k fa fd [x] (spP (K w.params) 1 f)) :
  PySem.W.WalkO q loose XP YP l.row.toRowW d [] (λf vs=>PySem.call f vs):=by
 refine attach_callB hn hdf λw s₀ s₁ mg mb fa o pm cd doc a vs ns G Y ho hd hcd hmg hobj hints hlen hbits hg=>?_;have KX:=hY w _ Y;obtain⟨fd,hb,hF⟩:=F w mg fa _ KX G.T.g hmg;refine law_call KX G.T.g G.T.b G.T.builtins G.T.nolimit hg hobj hints (Qq2 hlen hn2) hr hF hb (λH hO hS=>?_) λH e s' z=>z;refine⟨H,[.arr (ns.map .int)],.bl true,rfl,Same.refl H,⟨_,_,rfl,⟨by rw[Qqx];exact Qq2 hlen hn2,a,_,rfl,hS,?_⟩,rfl⟩,hf ns hlen hbits,λv H' F' _ _ _ _ p=>p⟩;clear hints hlen hbits hS
 induction ns with
 | nil=>exact rfl
 | cons m ns ih=>exact⟨_,_,rfl,rfl,ih⟩
section
variable{K:Fg}{h:Heap}{mg:Str->Option Value}
theorem funAt{x:Str}{st:Stmt}{ps:List Str}{f:Addr}{oc:Value}{od an:Option Addr}{osl:Array (Option Value)}{kV doc pm cdv ct:Value}(X:K.In h)(G:h.Ns mainGlobals mg)
  (a:PySem.W.nsIn K mainGlobals x=some (some (.ref f))) (l:K.lookup f=some ⟨oc,od,.func (PySem.W.fnOf x x (defArgs st) (defBody st) (defScope st) .none kV doc pm an cdv ct),osl⟩)
  (c:PySem.W.codeIn K cdv x=true) (k:PySem.W.keepIn K (.ref f)=true)
  (b:∀(kV doc pm:Value) (an:Option Addr) (cdv ct:Value) (us:List Value),us.length=ps.length->bindArgs (PySem.W.fnOf x x (defArgs st) (defBody st) (defScope st) .none kV doc pm an cdv ct) ⟨us,[]⟩=pure (ps.zip us)):FunAt K mg x st ps:=
 ⟨f,_,fun_mk l c k,Qkq X G a,(fun_mk (st:=st) l c k).binds b⟩
theorem glb_str{x s:Str}{z:List Nat}{t:Tok}(X:K.In h)(G:h.Ns mainGlobals mg)(a:PySem.W.nsIn K mainGlobals x=some (some (.str s t)))(hs:s=strOf z)(hz:z.length<=sizeLine):Glb K mg x (.str z):=
 ⟨.str s,_,Qkq X G a,⟨t,rfl⟩,λF=>⟨by rw[hs],hz⟩⟩
theorem nbAt{x:Str}(X:K.In h)(G:h.Ns mainGlobals mg)(e:PySem.W.nsIn K mainGlobals x=some none):mg x=none:=PySem.W.mg_none_of X G e
end
open PySem L2
theorem forO_inv{g:GV}{b:EvS}(P:Env->Prop):∀(ds:List D),(∀d∈ds,∀env,P env->∃e1 e2,g d env=some e1/\b e1 = .nx e2/\P e2)->∀env,P env->∃e',forO g b ds env = .nx e'/\P e'
 | [],_,env,hp=>⟨env,rfl,hp⟩
 | d::ds,h,env,hp=>by
  obtain⟨e1,e2,h1,h2,h3⟩:=h d (Qq3 ..) env hp;obtain⟨e',h4,h5⟩:=forO_inv P ds (λd' hd=>h d' (Qq4 _ hd)) e2 h3;refine⟨e',?_,h5⟩;unfold forO;rw[h1];simp only;rw[h2];exact h4
theorem forO_go{g:GV}{b:EvS}{all:List D}(P:List D->Env->Prop)(h:∀done d rest,all=done++d::rest->∀env,P done env->∃e1 e2,g d env=some e1/\b e1 = .nx e2/\P (done++[d]) e2):∀(ds done:List D),all=done++ds->∀env,P done env->∃e',forO g b ds env = .nx e'/\P all e'
 | [],done,ha,env,hp=>⟨env,rfl,by rw[ha,Qxx];exact hp⟩
 | d::ds,done,ha,env,hp=>by
  obtain⟨e1,e2,h1,h2,h3⟩:=h done d ds ha env hp;obtain⟨e',h4,h5⟩:=forO_go P h ds (done++[d]) (by rw[Qx0];exact ha) e2 h3;refine⟨e',?_,h5⟩;unfold forO;rw[h1];simp only;rw[h2];exact h4
theorem forO_inv'{g:GV}{b:EvS}(all:List D)(P:List D->Env->Prop)(h:∀done d rest,all=done++d::rest->∀env,P done env->∃e1 e2,g d env=some e1/\b e1 = .nx e2/\P (done++[d]) e2)(env:Env)(h0:P [] env):∃e',forO g b all env = .nx e'/\P all e':=forO_go P h all [] rfl env h0
theorem stSeq_nx{a b:EvS}{env e:Env}(h:a env = .nx e):stSeq a b env=b e:=by unfold stSeq;rw[h]
theorem stSeq_rt{a b:EvS}{env e:Env}{o:Bool}{d:D}(h:a env = .rt o d e):stSeq a b env = .rt o d e:=by unfold stSeq;rw[h]
theorem stFor_eq{it:EvA}{g:GV}{b:EvS}{env e:Env}{ds:List D}(h:it env = .ok ds e):stFor it g b env=forO g b ds e:=by unfold stFor;rw[h];rfl
theorem stAsg_eq{a:Ev}{g:GV}{env e e':Env}{d:D}(h:a env = .ok d e)(h':g d e=some e'):stAsg a g env = .nx e':=by unfold stAsg;rw[h];show liftO (g d e)=_;rw[h'];rfl
theorem stIf_t{t:EvT}{a b:EvS}{env e:Env}(h:t env = .ok true e):stIf t a b env=a e:=by unfold stIf;rw[h];rfl
theorem stIf_f{t:EvT}{a b:EvS}{env e:Env}(h:t env = .ok false e):stIf t a b env=b e:=by unfold stIf;rw[h];rfl
theorem stRet_eq{a:Ev}{env e:Env}{d:D}(h:a env = .ok d e):stRet a env = .rt false d e:=by unfold stRet;rw[h];rfl
theorem evCall_eq{g:List D->Option D}{a:EvA}{env e:Env}{ds:List D}{d:D}(h:a env = .ok ds e)(h':g ds=some d):evCall g a env = .ok d e:=by unfold evCall;rw[h];show liftR (g ds) e=_;rw[h'];rfl
theorem evBin_eq{g:D->D->Option D}{a b:Ev}{env e1 e2:Env}{x y d:D}(h1:a env = .ok x e1)(h2:b e1 = .ok y e2)(h3:g x y=some d):evBin g a b env = .ok d e2:=by
 unfold evBin;rw[h1];show bindR (b e1) _=_;rw[h2];show liftR (g x y) e2=_;rw[h3]
 rfl
theorem evBinO_eq{g:D->D->Option D}{i:Nat}{b:Ev}{env e2:Env}{x y d:D}{o o':Bool}{x0:D}(h1:env[i]? = some (some (o',x0)))(h2:b env = .ok y e2)(h4:e2[i]? = some (some (o,x)))(h3:g x y=some d):evBinO g i b env = .ok d e2:=by
 unfold evBinO;rw[h1];show bindR (b env) _=_;rw[h2];show(match e2[i]? with|some (some (_,x))=>liftR (g x y) e2|_=>.stuck)=_;rw[h4];show liftR (g x y) e2=_;rw[h3]
 rfl
theorem evCons_eq{a:Ev}{r:EvA}{env e1 e2:Env}{d:D}{ds:List D}(h1:a env = .ok d e1)(h2:r e1 = .ok ds e2):evCons a r env = .ok (d::ds) e2:=by
 unfold evCons;rw[h1];show bindR (r e1) _=_;rw[h2]
 rfl
theorem evNil_eq{env:Env}:evNil env = .ok [] env:=rfl
theorem evLst_eq{r:EvA}{env e:Env}{ds:List D}(h:r env = .ok ds e)(hz:ds.length<=sizeLine):evLst r env = .ok (.lst ds) e:=by unfold evLst;rw[h];show(if ds.length<=sizeLine then _ else _)=_;rw[if_pos hz]
theorem evTup_eq{r:EvA}{env e:Env}{ds:List D}(h:r env = .ok ds e)(hz:ds.length<=sizeLine):evTup r env = .ok (.tup ds) e:=by unfold evTup;rw[h];show(if ds.length<=sizeLine then _ else _)=_;rw[if_pos hz]
theorem evIO_eq{f:List D->Option (D×D)}{i:Nat}{a:EvA}{env e1:Env}{ds:List D}{x0 x d x':D}(h0:env[i]? = some (some (true,x0)))(h1:a env = .ok ds e1)(h2:e1[i]? = some (some (true,x)))(h3:f (x::ds)=some (d,x')):evIO f i a env = .ok d (e1.set i (some (true,x'))):=by unfold evIO;rw[h0];show bindR (a env) _=_;rw[h1];show(match e1[i]? with|some (some (true,x))=>(match f (x::ds) with|some (d,x')=>R.ok d (e1.set i (some (true,x')))|none=>R.stuck)|_=>R.stuck)=_;rw[h2];show(match f (x::ds) with|some (d,x')=>R.ok d (e1.set i (some (true,x')))|none=>.stuck)=_;rw[h3]
theorem gMul_eq{i j:Int}(h:mulFits i j=true):gMul (.int i) (.int j)=some (.int (i*j)):=by show gI mulFits (λi j=>D.int (i*j)) (.int i) (.int j)=_;unfold gI;simp only;rw[if_pos h]
theorem gAddL_eq{a b:List D}(h:a.length+b.length<=sizeLine):gAdd (.lst a) (.lst b)=some (.lst (a++b)):=by show(if a.length+b.length<=sizeLine then _ else _)=_;rw[if_pos h]
theorem evB_eq{a:Ev}{env e:Env}{b:Bool}(h:a env = .ok (.bl b) e):evB a env = .ok b e:=by unfold evB;rw[h];rfl
theorem stOwn_eq{i:Nat}{a:Ev}{env e:Env}{d:D}(h:a env = .ok d e):stOwn i a env = .nx (e.set i (some (true,d))):=by unfold stOwn;rw[h];rfl
theorem runIO_eq{n:Nat}{ev:EvS}{x d x':D}{r:List D}{env:Env}(h:ev (envIO n x r) = .rt false d env)(h0:env[0]? = some (some (true,x'))):runIO n ev (x::r)=some (d,x'):=by unfold runIO;simp only;rw[h];simp only;rw[h0]
theorem runP_eq{n:Nat}{ev:EvS}{d:D}{ds:List D}{env:Env}(h:ev (envOf n ds) = .rt false d env):runP n ev ds=some d:=by unfold runP;rw[h]
theorem evAnd_t{a b:Ev}{env e:Env}(h:a env = .ok (.bl true) e):evAnd a b env=b e:=by unfold evAnd;rw[h];rfl
theorem evOrT_f{a b:EvT}{env e:Env}(h:a env = .ok false e):evOrT a b env=b e:=by unfold evOrT;rw[h];rfl
theorem evNotT_eq{a:EvT}{env e:Env}{b:Bool}(h:a env = .ok b e):evNotT a env = .ok (!b) e:=by unfold evNotT;rw[h];rfl
theorem evLC_eq{lo n:Nat}{it:EvA}{g:GV}{c:EvT}{e:Ev}{env env1 env2:Env}{ds ys:List D}(h1:it env = .ok ds env1)(hl:env1.length=lo)(h2:lcO g c e ds (env1++List.replicate (n - lo) none) = .ok ys env2)(hz:ys.length<=sizeLine):evLC lo n it g c e env = .ok (.lst ys) (env2.take lo):=by unfold evLC;rw[h1];show(if env1.length=lo then _ else _)=_;rw[if_pos hl,h2];show(if ys.length<=sizeLine then _ else _)=_;rw[if_pos hz]
theorem dig(n:Int)(m:Nat)(hm:0<m):∃d:Nat,d<m/\n % (m:Int)=(d:Int):=by have h1:0<=n % (m:Int):=Int.emod_nonneg n (by omega);have h2:n % (m:Int)<m:=Int.emod_lt_of_pos n (by omega);exact⟨(n % (m:Int)).toNat,by omega,by omega⟩
theorem atI_lt{α:Type}{xs:List α}{d:Nat}(h:d<xs.length):atI xs (d:Int)=some xs[d]:=atI_nat (Qx3 h)
def okN:Nat->D->Bool
 | 0,_=>false
 | n+1,.tup xs=>xs.all (okN n)
 | n+1,.lst xs=>xs.all (okN n)
 | _+1,.dct _=>false
 | _+1,.dcn _=>false
 | _+1,.clo _ _=>false
 | _+1,.arr _=>false
 | _+1,_=>true
theorem eqL_self{f:D->D->Option Bool}:∀(xs:List D),(∀x∈xs,f x x=some true)->eqL f xs xs=some true
 | [],_=>rfl
 | x::r,h=>by
  unfold eqL;rw[h x (Qq3 ..),eqL_self r λy hy=>h y (Qq4 _ hy)]
  rfl
theorem eqN_self:∀(n:Nat) (d:D),okN n d=true->eqN n d d=some true
 | 0,_,h=>by cases h
 | n+1,d,h=>by
  cases d with
  | tup xs=>exact eqL_self xs λx hx=>eqN_self n x (Qwk.mp h x hx)
  | lst xs=>exact eqL_self xs λx hx=>eqN_self n x (Qwk.mp h x hx)
  | dct _=>cases h
  | dcn _=>cases h
  | clo _ _=>cases h
  | arr _=>cases h
  | non=>rfl
  | bl b=>show some (b == b)=_;simp
  | int i=>show some (i == i)=_;simp
  | str x=>show some (x == x)=_;simp
end Ev
namespace L2
open PySem PySem.Spec PyProof.Rows
section
variable{X:Cx}{pins:List (Addr×Obj)}{σ:St}{H:Hp}{s:Shared}{h':Heap}
theorem Inv.drawn{t':Nat}{ch:List Addr}{T:Addr}{o:HO}(I:Inv X pins σ H s)(hch:∀b∈ch,FpOk X pins H b)(k:∀b u,b ∉ ch->s.heap.get? b=some u->h'.get? b=some u)(hT:s.heap.objs.size<=T)
  (new:ObjOk X.prog X.w (upd H T o) h' T o):Inv X pins σ (upd H T o) { s with heap:=h',toks:=t' }:=by
 have nT:H T=none:=I.hok.fresh hT;have nit:∀b u,H b=some u->b ∉ ch:=λb u e z=>by rw[(hch b z).1] at e;cases e
 have up:∀b u,H b=some u->upd H T o b=some u:=λb u e=>by rw[upd_ne (ne_of_none e nT)];exact e
 refine I.step (g':=s.gens) (d':=s.drawn) (ch:=ch) (λb hb=>?_) (λb u _ _ hc e _=>k b u hc e) (λb u _ _ hc e _=>⟨u.slots,k b u hc e⟩) (λb u hc e n=>?_)
  (λb u hc e=>⟨u,k b u hc e⟩) (λb xs e=>up b _ e) (λb u v e=>up b _ e) (λb ps e=>⟨#[],by rw[up b _ e];simp⟩) (λm hm=>?_) (λb u e=>?_) I.bare (λb qs e=>up b _ e)
 ·obtain⟨h0,h1,h2,h3,h4,h5⟩:=hch b hb;exact⟨h3,h1,h4,h5⟩
 ·have hb:b≠T:=λz=>by
   subst z;exact absurd (Qq7 e) (Nat.not_lt.mpr hT)
  rw[upd_ne hb];exact n
 ·obtain⟨u,es,ep,ho,r⟩:=hm;have hL:X.env.locals ∉ ch:=λz=>(hch _ z).2.1 rfl;exact⟨u,es,ep,k _ u hL ho,r⟩
 ·by_cases hb:b=T
  ·subst hb;rw[upd_same] at e;cases e;exact new
  ·rw[upd_ne hb] at e;refine(I.hok b u e).stay (λc v hc q=>k c v ?_ q) (λc q=>up _ _ q) (λc xs q=>up _ _ q) λc _ _ _ _ q=>up _ _ q;rcases hc with z|z
   ·rw[z];exact nit b u e
   ·exact nit c _ z
theorem Inv.turnedL{t':Nat}{ch:List Addr}(I:Inv X pins σ H s)(hch:∀b∈ch,FpOk X pins H b)(k:∀b u,b ∉ ch->s.heap.get? b=some u->h'.get? b=some u):Inv X pins σ H { s with heap:=h',toks:=t' }:=by
 have nit:∀b u,H b=some u->b ∉ ch:=λb u e z=>by rw[(hch b z).1] at e;cases e
 refine I.step (g':=s.gens) (d':=s.drawn) (ch:=ch) (λb hb=>?_) (λb u _ _ hc e _=>k b u hc e) (λb u _ _ hc e _=>⟨u.slots,k b u hc e⟩) (λb u hc e n=>n)
  (λb u hc e=>⟨u,k b u hc e⟩) (λb xs e=>e) (λb u v e=>e) (λb ps e=>⟨#[],by rw[e];simp⟩) (λm hm=>?_) (λb u e=>?_) I.bare
 ·obtain⟨h0,h1,h2,h3,h4,h5⟩:=hch b hb;exact⟨h3,h1,h4,h5⟩
 ·obtain⟨u,es,ep,ho,r⟩:=hm;have hL:X.env.locals ∉ ch:=λz=>(hch _ z).2.1 rfl;exact⟨u,es,ep,k _ u hL ho,r⟩
 ·refine(I.hok b u e).stay (λc v hc q=>k c v ?_ q) (λ_ q=>q) λ_ _ q=>q;rcases hc with z|z
  ·rw[z];exact nit b u e
  ·exact nit c _ z
end
end L2
namespace Ev
open PySem PySem.Spec PyProof.Rows L2 PySem.Builtin
structure Pr where
 p:Addr
 k:Key
 kv:Value
 v:Value
section
variable{X:Cx}{C:Cfg}{pos:Pos}
abbrev Pv:=Addr×Key×V
end
end Ev
namespace L2
open PySem PySem.Spec PyProof.Rows PySem.Builtin PySem.Builtin.Str
section
variable{X:Cx}
theorem clip_str(v:Int)(n d:Nat):max 0 (min (if v<0 then v+(n:Int) else v) (n:Int))=((HT.sIx n d (some v):Nat):Int):=by
 show _=(((if v<0 then (v+(n:Int)).toNat else min v.toNat n):Nat):Int);by_cases hv:v<0
 ·simp only[if_pos hv];omega
 ·simp only[if_neg hv];omega
theorem range_one(a b:Nat):sliceRange (a:Int) (b:Int) 1=List.range' a (b - a):=by
 unfold sliceRange;have h1:(1:Int) > 0:=by decide
 simp only[if_pos h1];have hc:(if (a:Int)<(b:Int) then ((b:Int) - (a:Int)+1 - 1) / 1 else 0).toNat=b - a:=by
  by_cases h:(a:Int)<(b:Int)
  ·rw[if_pos h,Int.ediv_one];omega
  ·rw[if_neg h];omega
 rw[hc,List.range'_eq_map_range];apply Qj3;intro k _;omega
theorem pick_str(lo hi:Option Int)(n:Nat):strSliceIndices lo hi 1 n=List.range' (HT.sIx n 0 lo) (HT.sIx n n hi - HT.sIx n 0 lo):=by
 have h1:(1:Int) > 0:=by decide
 unfold strSliceIndices;simp only[if_pos h1];rw[<-range_one]
 congr 1
 ·cases lo with
  | none=>rfl
  | some v=>exact clip_str v n 0
 ·cases hi with
  | none=>rfl
  | some v=>exact clip_str v n n
theorem fm_range(c:List Nat):∀(m a:Nat),a+m<=c.length->(List.range' a m).filterMap (c.toArray[·]?)=(c.drop a).take m
 | 0,a,_=>by simp
 | m+1,a,h=>by
  rw[List.range'_succ,Qzq];have e:c.toArray[a]? = some c[a]:=by simp
  rw[e,fm_range c m (a+1) (by omega),Qz2 (l:=c) (i:=a) (by omega),List.take_succ_cons]
def cutN(z:List Nat)(lo hi:Option Int):List Nat:=(z.drop (HT.sIx z.length 0 lo)).take (HT.sIx z.length z.length hi - HT.sIx z.length 0 lo)
def rSlS:V->Option Int->Option Int->Hp->VK->Prop:=λx lo hi H Q=>∃z:List Nat,x = .str ⟨z.toArray⟩/\z.length<=sizeLine/\Q (.str ⟨(cutN z lo hi).toArray⟩) H
theorem part_of{v:Value}{o:Option Int}(p:IsPart v o):∃l:Option (Int×Tok),v=partValue l/\l.map (·.1)=o:=by
 cases p with
 | none=>exact⟨none,rfl,rfl⟩
 | int i t=>exact⟨some (i,t),rfl,rfl⟩
theorem sl_str:SlR X rSlS:=by
 intro pins s σ H x v vl vu lo hi sl Q I rx hs pl pu h;obtain⟨z,rfl,hz,q⟩:=h;obtain⟨t,rfl⟩:=rx;obtain⟨l,rfl,el⟩:=part_of pl;obtain⟨u,rfl,eu⟩:=part_of pu;refine⟨"str",_,PySem.F.slot_str_getitem.lookup,typeIs_str s _ t,?_⟩;obtain⟨o,h1,h2,h3⟩:=hs;refine wpAny_getItem_str_slice (l:=l) (u:=u) (st:=none) ⟨o,h1,h2,h3⟩ rfl ?_;have hp:slicePicked ⟨z.toArray⟩ l u none=List.range' (HT.sIx z.length 0 lo) (HT.sIx z.length z.length hi - HT.sIx z.length 0 lo):=by unfold slicePicked;rw[el,eu];show strSliceIndices lo hi 1 z.toArray.size=_;rw[Qq1,pick_str]
 have hle:HT.sIx z.length 0 lo+(HT.sIx z.length z.length hi - HT.sIx z.length 0 lo)<=z.length\/HT.sIx z.length z.length hi - HT.sIx z.length 0 lo=0:=by have a1:=HT.sIx_le z.length 0 (Qz9 _) lo;have a2:=HT.sIx_le z.length z.length (Qqy _) hi;omega
 have hcut:((slicePicked ⟨z.toArray⟩ l u none).filterMap ((⟨z.toArray⟩:Str).cps[·]?))=cutN z lo hi:=by
  rw[hp];unfold cutN;rcases hle with hle|hle
  ·exact fm_range z _ _ hle
  ·rw[hle];simp
 unfold sliceMade;split
 ·rename_i hc;have hlen:(slicePicked ⟨z.toArray⟩ l u none).length=z.length:=by
   have:=(Qjy.mp hc).2;have:=eq_of_beq this
   simpa[Str.length] using this
  have hw:cutN z lo hi=z:=by
   rw[hp,List.length_range'] at hlen;unfold cutN;have a2:=HT.sIx_le z.length z.length (Qqy _) hi;have a0:HT.sIx z.length 0 lo=0\/z.length=0:=by omega
   rcases a0 with a0|a0
   ·rw[a0,List.drop_zero,Qjz (by omega)]
   ·have:z=[]:=Qz6 a0;subst this;simp
  rw[hw] at q;exact⟨.str ⟨z.toArray⟩,H,I,⟨t,rfl⟩,q⟩
 ·rw[hcut];refine⟨?_,⟨.str ⟨(cutN z lo hi).toArray⟩,H,I.tok _,⟨_,rfl⟩,q⟩⟩;show(cutN z lo hi).toArray.size<=sizeLine;rw[Qq1];unfold cutN;rw[Qw9,Qx8];omega
end
end L2
namespace Ev
open PySem PySem.Spec PyProof.Rows L2 PySem.Builtin
section
variable{X:Cx}{C:Cfg}{pos:Pos}{x y:Expr}{a b:Ev}
def gSlS:D->Option Int->Option Int->Option D
 | .str z,lo,hi=>some (.str (cutN z lo hi))
 | _,_,_=>none
def evSlS(a:Ev)(lo hi:EvP):Ev:=λenv=>bindR (a env) λd env1=>bindR (lo env1) λl env2=>bindR (hi env2) λu env3=>liftR (gSlS d l u) env3
theorem cutN_len(z:List Nat)(lo hi:Option Int):(cutN z lo hi).length<=z.length:=by unfold cutN;rw[Qw9,Qx8];omega
end
end Ev
namespace HT
open PySem PySem.Spec PyProof PyProof.Rows PySem.Builtin
section
variable{prog:Program}{w:World}{A:Around}{E:Value->Shared->Prop}{s:Shared}
theorem getItem_tuple_whole{t sl:Addr}{items:Array Value}{vl vu:Value}{lo hi:Option Int}{Q:Value->Shared->Prop}(ht:IsTup s.heap t items)(hs:s.heap.IsSliceOf sl vl vu .none)(pl:IsPart vl lo)(pu:IsPart vu hi)
  (hw:sIx items.size 0 lo=0/\sIx items.size items.size hi=items.size)
  (h:Q (.ref t) s):wpAny (model prog w) A (getItem (.ref t) (.ref sl)) Q E s:=by
 obtain⟨os,hos,hcs,hds⟩:=id hs;have hTs:s.TypeIs (.ref sl) "slice":=⟨os,hos,hcs⟩;unfold getItem
 try with_reducible refine Qx6 ?_
 first|refine Qqq (Qqv ?_)|skip
 refine Qqq (wpAny_sequenceKey ht.typeIs (by decide) ?_);refine Qqq (wpAny_callSpecial?_slot (name:=Str.ofString "__getitem__") ht.typeIs Qzy
  (Qzv Qzy ht.typeIs entry_tuple_getitem ?_ (args_tuple_getitem _ _)))
 show wpAny _ _ (Builtin.Tuple.tupleItemsOf (.ref t) >>= _) _ _ s;refine Qqq (tupleItemsOf_ ht ?_);refine Qqq (wpAny_typeOf hTs ?_);rw[if_pos (by decide)];refine Qqq (sliceApplied_gen hs pl pu ?_);have hyes:(((sIx items.size 0 lo:Nat):Int) == 0&&(1:Int) == 1&&(sIx items.size items.size hi - sIx items.size 0 lo) == items.size)=true:=by rw[hw.1,hw.2];simp
 show wpAny _ _ (if (((sIx items.size 0 lo:Nat):Int) == 0&&(1:Int) == 1&&(sIx items.size items.size hi - sIx items.size 0 lo) == items.size)=true then _ else _) _ _ s;rw[if_pos hyes];refine Qqq (m:=Builtin.Tuple.tupleIsExact (.ref t)) ?_;unfold Builtin.Tuple.tupleIsExact;refine Qqq (wpAny_typeOf ht.typeIs ?_);refine Qqv ?_;rw[if_pos (by decide)];exact Qqq (wpAny_rule (Qqv ⟨_,rfl,Qqv h⟩))
end
end HT
namespace L2
open PySem PySem.Spec PyProof.Rows
section
variable{X:Cx}
def rSlW(K:PySem.W.Frag):V->Option Int->Option Int->Hp->VK->Prop:=λx lo hi H Q=>∃a xs,x = .ref a/\SqT K H a xs/\(HT.sIx xs.length 0 lo=0/\HT.sIx xs.length xs.length hi=xs.length)/\Q (.ref a) H
theorem sl_whole:SlR X (rSlW X.K):=by
 intro pins s σ H x v vl vu lo hi sl Q I rx hs pl pu h;obtain⟨a,xs,rfl,hx,hw,q⟩:=h;cases rx;obtain⟨its,r,ht,hz⟩:=I.tuple hx;have hlen:its.toArray.size=xs.length:=by rw[Qq1];exact r.length.symm
 refine⟨"tuple",_,PyProof.Rows.slot_tuple_getitem.lookup,ht.typeIs,?_⟩;refine HT.getItem_tuple_whole ht hs pl pu (by rw[hlen];exact hw) ?_;exact⟨.ref a,H,I,rfl,q⟩
end
end L2
namespace Ev
open PySem PySem.Spec PyProof.Rows L2
section
variable{X:Cx}{C:Cfg}{pos:Pos}{x:Expr}{a:Ev}{y z:Expr}{b c:Ev}
def gSlT:D->Option Int->Option Int->Option D
 | .tup xs,lo,hi=>if HT.sIx xs.length 0 lo=0/\HT.sIx xs.length xs.length hi=xs.length then some (.tup xs) else some (.tup (cutD xs lo hi))
 | _,_,_=>none
theorem slT_go{Pr F:Hp}{env:Env}{σ:L2.St}{H:Hp}{x d:D}{v:V}{lo hi:Option Int}{Q:VK}(r:Rel C Pr F env σ H)(p:Rep C.K F x v)(e:gSlT x lo hi=some d)(q:∀v H' F',Rel C Pr F' env σ H'->Same F F'->Rep C.K F' d v->Q v H') :
  rSlT C.K v lo hi H Q\/rSlW C.K v lo hi H Q:=by
 unfold gSlT at e;split at e
 ·obtain⟨z,a,vs,rfl,h1,_,h2⟩:=BRep.tup r.fr (.inl p);split at e
  ·rename_i hn;cases e;exact .inr ⟨a,vs,rfl,h1,by rw[h2.length];exact hn,q _ H F r (Same.refl F) p⟩
  ·rename_i hn;cases e;refine .inl ⟨a,vs,rfl,h1,by rw[h2.length];exact hn,λb hb=>?_⟩;obtain⟨r2,s2⟩:=r.new (o:=.tup (cutV vs lo hi)) hb;exact q _ _ _ r2 s2 ⟨Qq2 (cutD_len _ _ _) z,b,_,rfl,SqT.of upd_same,Reps.mono s2 _ _ (h2.cut lo hi)⟩
 ·cases e
def evChain(g g':D->D->Option D)(a b c:Ev):Ev:=λenv=>bindR (a env) λu e1=>bindR (b e1) λv e2=>match g u v with
 | some (.bl k)=>if k=true then bindR (c e2) λt e3=>liftR (g' v t) e3 else .ok (.bl false) e2
 | _=>.stuck
theorem glb_int{K:Fg}{h:Heap}{mg:Str->Option Value}{x:Str}{i:Int}{t:Tok}(X:K.In h)(G:h.Ns mainGlobals mg)(a:PySem.W.nsIn K mainGlobals x=some (some (.int i t))):Glb K mg x (.int i):=
 ⟨.int i,_,Qkq X G a,⟨t,rfl⟩,λF=>rfl⟩
end
end Ev
namespace SX
open PySem PySem.Spec PyProof.Rows L2 PySem.Builtin
def addX(ys:List Str)(x:Str):List Str:=if x∈ys then ys else ys++[x]
def uniqX(zs:List Str):List Str:=zs.foldl addX []
theorem addX_len(ys:List Str)(x:Str):(addX ys x).length<=ys.length+1:=by
 unfold addX;split
 ·omega
 ·simp
theorem uniq_len(zs:List Str):∀ys:List Str,(zs.foldl addX ys).length<=ys.length+zs.length:=by
 induction zs with
 | nil=>intro ys;exact Qqy _
 | cons z zs ih=>intro ys;rw[Qzk,Qqk];have:=ih (addX ys z);have:=addX_len ys z;omega
def led(w:World):Bool:=!(w.params.followText "set-order")
structure TOk(P:Program)(w:World)(es:Array (Int×Value))(t:SetTable)(ys:List Str):Prop where
 el:ElemsOf (strKind P w) es.toList
 tx:∃ss:List Str,StrsAre (es.toList.map (·.2)) ss/\ss.Perm ys
 fit:t.fits es.size=true
 ld:t.led=led w
 pl:es.size≠0->t.plain=false
def TSet(P:Program)(w:World)(h:Heap)(a:Addr)(ys:List Str):Prop:=
 ∃o es ep t,h.get? a=some o/\o.ExactSet/\o.data = .set es ep t/\TOk P w es t ys
theorem TSet.keep{P:Program}{w:World}{h h':Heap}{a:Addr}{ys:List Str}(x:TSet P w h a ys)(k:∀o,h.get? a=some o->h'.get? a=some o):TSet P w h' a ys:=
 let ⟨o,es,ep,t,e,r⟩:=x;⟨o,es,ep,t,k o e,r⟩
theorem strs_len{vs:List Value}{ss:List Str}(h:StrsAre vs ss):vs.length=ss.length:=by
 induction h with
 | nil=>rfl
 | cons _ _ _ ih=>simp[ih]
theorem strs_mem{vs:List Value}{ss:List Str}(h:StrsAre vs ss):∀v∈vs,∃x t,v = .str x t/\x∈ss:=by
 induction h with
 | nil=>intro v hv;cases hv
 | cons y t _ ih=>
  intro v hv;rcases Qwq.mp hv with rfl|hv
  ·exact⟨y,t,rfl,Qq3⟩
  ·obtain⟨x,t,e,m⟩:=ih v hv;exact⟨x,t,e,Qq4 _ m⟩
theorem strs_back{vs:List Value}{ss:List Str}(h:StrsAre vs ss):∀x∈ss,∃t,Value.str x t∈vs:=by
 induction h with
 | nil=>intro x hx;cases hx
 | cons y t _ ih=>
  intro x hx;rcases Qwq.mp hx with rfl|hx
  ·exact⟨t,Qq3⟩
  ·obtain⟨t,m⟩:=ih x hx;exact⟨t,Qq4 _ m⟩
theorem strs_app{vs us:List Value}{ss rs:List Str}(h:StrsAre vs ss)(g:StrsAre us rs):StrsAre (vs++us) (ss++rs):=by
 induction h with
 | nil=>exact g
 | cons y t _ ih=>exact .cons y t ih
theorem strs_perm{vs us:List Value}(p:us.Perm vs):∀{ss:List Str},StrsAre vs ss->∃rs,StrsAre us rs/\rs.Perm ss:=by
 induction p with
 | nil=>intro ss h;exact⟨ss,h,.rfl⟩
 | cons x _ ih=>
  intro ss h;cases h with
  | cons y t h=>
   obtain⟨rs,h1,h2⟩:=ih h;exact⟨y::rs,.cons y t h1,h2.cons y⟩
 | swap x y l=>
  intro ss h;cases h with
  | cons a t h=>cases h with
   | cons b u h=>exact⟨b::a::_,.cons b u (.cons a t h),.swap _ _ _⟩
 | trans _ _ ih1 ih2=>
  intro ss h;obtain⟨rs,h1,h2⟩:=ih2 h;obtain⟨qs,h3,h4⟩:=ih1 h1;exact⟨qs,h3,h4.trans h2⟩
theorem TOk.size{P:Program}{w:World}{es:Array (Int×Value)}{t:SetTable}{ys:List Str}(x:TOk P w es t ys):es.size=ys.length:=by obtain⟨ss,h1,h2⟩:=x.tx;rw[<-h2.length_eq,<-strs_len h1,Qqx,Qzw]
theorem or_led(t:SetTable)(n:Nat):(t.orStandIn n).led=t.led/\(t.plain=false->(t.orStandIn n).plain=false):=by
 unfold SetTable.orStandIn;split
 ·exact⟨rfl,id⟩
 ·exact⟨rfl,λ_=>rfl⟩
theorem lay_led(t:SetTable)(es:Array (Int×Value))(h:Int)(x:Value):(layNew t es h x).2.1.led=t.led/\(t.plain=false->(layNew t es h x).2.1.plain=false):=by
 unfold layNew;split
 ·exact or_led _ _
 ·exact⟨rfl,λ_=>rfl⟩
theorem laid_led{mask finger moves:Nat}{l p:Bool}{hs:Array Int}{t:SetTable}{o:Array Nat}(h:SetTable.laid mask finger moves l p hs=some (t,o)):t.led=l/\t.plain=p:=by
 unfold SetTable.laid at h;cases h1:SetTable.layClean mask hs with
 | none=>rw[h1] at h;cases h
 | some ow=>rw[h1] at h;injection h with h;injection h with h _;subst h;exact⟨rfl,rfl⟩
theorem relay_led(t:SetTable)(es:Array (Int×Value))(n:Nat):(relayAll t es n).2.1.led=t.led/\(t.plain=false->(relayAll t es n).2.1.plain=false):=by
 unfold relayAll;split
 ·rename_i t' order e;obtain⟨h1,h2⟩:=laid_led e;dsimp only;split
  ·exact⟨h1,λz=>h2.trans z⟩
  ·exact⟨rfl,λ_=>rfl⟩
 ·exact⟨rfl,λ_=>rfl⟩
section
variable{P:Program}{w:World}{A:Around}{E:Value->Shared->Prop}{s:Shared}{a:Addr}
theorem wpRule(b:Bool){n:String}{s₁:Shared}{Q:Unit->Shared->Prop}(h:Q () s₁):wpAny (model P w) A (match b with|true=>rule n|false=>pure ()) Q E s₁:=by
 cases b
 ·exact Qqv h
 ·exact wpAny_rule h
theorem store{o:Obj}{es es':Array (Int×Value)}{ep:Nat}{t t':SetTable}{ys:List Str}{Q:Unit->Shared->Prop}(ho:s.heap.get? a=some o)(hx:o.ExactSet)(hd:o.data = .set es ep t)(k:TOk P w es' t' ys)(hz:ys.length<scanBound)
  (h:∀g o',Heap.SameBut a s.heap g->g.get? a=some o'->o'.ExactSet->o'.data = .set es' (ep+1) t'->Q () { s with heap:=g }):wpAny (model P w) A (storeSet a es' t') Q E s:=by
 have hb:es'.size<scanBound:=by rw[k.size];exact hz
 refine wpAny_storeSet_of ho hd ?_ (fits_of_scanBound hb);have e:=Heap.get?_update_self (Obj.putSet es' t') ho (by rw[putSet_of es' t' hd];rfl);rw[putSet_of es' t' hd] at e;exact h _ _ (Heap.SameBut.update s.heap a _) e hx rfl
theorem add_there{k:Str}{tk:Tok}{o:Obj}{es:Array (Int×Value)}{ep:Nat}{t:SetTable}{ys:List Str}{Q:Bool->Shared->Prop}(ho:s.heap.get? a=some o)(hx:o.ExactSet)(hd:o.data = .set es ep t)(x:TOk P w es t ys)(hz:ys.length+1<scanBound)
  (h:∀g b,Heap.SameBut a s.heap g->TSet P w g a (addX ys k)->Q b { s with heap:=g }):wpAny (model P w) A (setAddHashed a (.str k tk) ((strKind P w).hash k)) Q E s:=by
 have hk:(strKind P w).is k (.str k tk)=true:=strKind_is P w k tk;have hsc:(Value.str k tk).scannable=true:=rfl;have hb:es.size<scanBound:=by rw[x.size];omega
 unfold setAddHashed setAddHashedIn;refine Qx6 (Qqq (wpAny_setState_of ho hd x.fit ?_));dsimp only;rw[if_pos (byScan_of hsc hb x.el)];unfold setAddByScan;refine Qqq (Qqq (wpAny_rule (Qqq (wpAny_setScan_of hk ho hd x.fit x.el ?_))));obtain⟨ss,s1,s2⟩:=x.tx;cases hr:es.toList.findIdx? (λe=>(strKind P w).is k e.2) with
 | some j=>
  dsimp only;obtain⟨hj,hpj,_⟩:=List.findIdx?_eq_some_iff_getElem.mp hr;refine Qqv (Qqv ?_);have hm:k∈ys:=by obtain⟨y,u,e1,e2⟩:=strs_mem s1 (es.toList[j].2) (Qxv.mpr ⟨_,List.getElem_mem hj,rfl⟩);rw[e1] at hpj;have:k=y:=(strKind P w).inj _ _ _ hpj (strKind_is P w y u);subst this;exact s2.mem_iff.mp e2
  have:=h s.heap false (Heap.SameBut.refl a s.heap) (by rw[addX,if_pos hm];exact⟨o,es,ep,t,ho,hx,hd,x⟩);cases s;exact this
 | none=>
  dsimp only;have hm:k ∉ ys:=λz=>by
   obtain⟨u,hu⟩:=strs_back s1 k (s2.mem_iff.mpr z);obtain⟨e,he,e2⟩:=Qxv.mp hu;have:=List.findIdx?_eq_none_iff.mp hr e he;rw[e2,strKind_is] at this;cases this
  have hp:=layNew_perm t es ((strKind P w).hash k) (.str k tk);have hf:=layNew_fits t es ((strKind P w).hash k) (.str k tk);have hl:=lay_led t es ((strKind P w).hash k) (.str k tk);generalize layNew t es ((strKind P w).hash k) (.str k tk)=L at hp hf hl ⊢;obtain⟨e1,t1,wd,gv⟩:=L;dsimp only at hp hf hl ⊢;rw[Array.toList_push] at hp;have hel:ElemsOf (strKind P w) e1.toList:=(x.el.push hk hsc).perm hp;have htx:∃ss:List Str,StrsAre (e1.toList.map (·.2)) ss/\ss.Perm (ys++[k]):=by have h1:=strs_app s1 (.cons k tk .nil);obtain⟨rs,h2,h3⟩:=strs_perm (hp.map (·.2)) (by rw[Qxz];exact h1);exact⟨rs,h2,h3.trans (s2.append_right [k])⟩
  have hxy:addX ys k=ys++[k]:=by rw[addX,if_neg hm]
  have hyz:(ys++[k]).length<scanBound:=by rw[Qqj];exact hz
  refine Qqq (wpRule _ ?_)
  /- the table that is laid down -/
  have hend:∀t2:SetTable,t2.fits e1.size=true->t2.led=led w->t2.plain=false->wpAny (model P w) A (do
    storeSet a e1 t2
    if (!wd&&t2.tooFull)=true then do
      (match (relayAll t2 e1 (SetTable.grown e1.size)).2.2 with|true=>rule "set.scan.the-table-gave-way" | false=>pure ())
      storeSet a (relayAll t2 e1 (SetTable.grown e1.size)).1 (relayAll t2 e1 (SetTable.grown e1.size)).2.1
      pure (some true)
     else pure (some true)) (λr s'=>wpAny (model P w) A (match r with|some added=>pure added|none=>setAddHashedIn a (.str k tk) ((strKind P w).hash k) 99999) Q E s') E s:=by
   intro t2 f2 l2 p2;have k2:TOk P w e1 t2 (ys++[k]):=⟨hel,htx,f2,l2,λ_=>p2⟩;refine Qqq (store ho hx hd k2 hyz λg o1 sb go gx gd=>?_);split
   ·have rp:=relayAll_perm t2 e1 (SetTable.grown e1.size);have rf:=relayAll_fits t2 e1 (SetTable.grown e1.size);have rl:=relay_led t2 e1 (SetTable.grown e1.size);generalize relayAll t2 e1 (SetTable.grown e1.size)=L at rp rf rl ⊢;obtain⟨e3,t3,gv3⟩:=L;dsimp only at rp rf rl ⊢;obtain⟨r1,q1,q2⟩:=htx;obtain⟨rs,h2,h3⟩:=strs_perm (rp.map (·.2)) q1;have k3:TOk P w e3 t3 (ys++[k]):=⟨hel.perm rp,⟨rs,h2,h3.trans q2⟩,rf,rl.1.trans l2,λ_=>rl.2 p2⟩;refine Qqq (wpRule _ ?_);refine Qqq (store (s:={ s with heap:=g }) go gx gd k3 hyz λg2 o2 sb2 go2 gx2 gd2=>?_);refine Qqv (Qqv ?_);exact h g2 true (sb.trans sb2) (by rw[hxy];exact⟨o2,_,_,_,go2,gx2,gd2,k3⟩)
   ·refine Qqv (Qqv ?_);exact h g true sb (by rw[hxy];exact⟨o1,_,_,_,go,gx,gd,k2⟩)
  split
  ·rename_i hpl;refine Qqq ?_;rw[hashByValue_scannable 8 hsc];refine Qqv ?_;exact hend _ (SetTable.fits_plain_off hf) (hl.1.trans x.ld) rfl
  ·rename_i hpl;refine Qqq (Qqv ?_);simp only[↓reduceIte];exact hend _ hf (hl.1.trans x.ld) (by simpa using hpl)
def seen(val:Nat->Str)(i:Nat):List Str:=((List.range i).map val).foldl addX []
theorem seen_succ(val:Nat->Str)(i:Nat):seen val (i+1)=addX (seen val i) (val i):=by
 unfold seen;rw[List.range_succ,Qxz,List.foldl_append]
 rfl
theorem seen_len(val:Nat->Str)(i:Nat):(seen val i).length<=i:=by
 have:=uniq_len ((List.range i).map val) []
 simpa[seen] using this
theorem fill{R:Result->Shared->Prop}{I:Addr}{fp wr:List Addr}{G:Array GenState->Array GenState->Prop}{n:Nat}{Pi:Nat->Value->Prop}{St:Nat->Shared->Prop}(W:WalksS P w A.in1 I fp wr G n Pi St){a:Addr}(ha:a ∉ fp){val:Nat->Str}
  (hv:∀i v,Pi i v->∃t,v = .str (val i) t) (hb:n+1<scanBound) (d:Nat):∀(i:Nat) (s:Shared),i+d=n->St i s->TSet P w s.heap a (seen val i)->(∀s',Moved (a::wr) G s s'->TSet P w s'.heap a (seen val n)->R (.ok (.ret .none)) s')->
  codeAny (model P w) A (.builtin "set.update.loop" ⟨[.ref a,.ref I],[]⟩) R s:=by
 have hw:a ∉ wr:=λz=>ha (W.sub _ z);have up:∀b∈wr,b∈a::wr:=λb z=>Qq4 _ z
 induction d with
 | zero=>
  intro i s e st x hR;obtain rfl:i=n:=e;refine Qj0 PyProof.Rows.F.entry_set_update_loop ?_;rw[Around.under_plainId PyProof.Rows.F.plain_set_update_loop _];show wpAny _ _ (pyNext (.ref I) >>= _) _ _ _;refine Qqq (W.done s _ _ st λs' m=>?_);show wpAny _ _ (ret .none) _ _ _;exact Qqv (hR s' (m.mono up) (x.keep λo z=>m.heap a o hw z))
 | succ d ih=>
  intro i s e st x hR;refine Qj0 PyProof.Rows.F.entry_set_update_loop ?_;rw[Around.under_plainId PyProof.Rows.F.plain_set_update_loop _];show wpAny _ _ (pyNext (.ref I) >>= _) _ _ _;refine Qqq (W.item i s _ _ (by omega) st λv s' pv st' m=>?_);obtain⟨t,rfl⟩:=hv i v pv;show wpAny _ _ (holding _ (setAdd a _) >>= _) _ _ _;unfold setAdd;refine Qqq (Qx6 (Qx6 (Qqq ((strKind P w).pyHash (strKind_is P w (val i) t) ?_))));obtain⟨o,es,ep,tb,ho,hx,hd,k⟩:=x.keep λo z=>m.heap a o hw z;refine add_there (s:={ s' with toks:=s'.toks+1 }) ho hx hd k (by have:=seen_len val i;omega) λg b sb y=>?_;rw[<-seen_succ] at y;refine Qqv ⟨plainId_quiet PyProof.Rows.F.plain_set_update_loop _,ih (i+1) _ (by omega) (W.frame _ s' _ _ st' (Qkx _) λc hc u z=>?_) y λs2 m2 x2=>?_⟩
  ·exact(sb.2 c (λq=>ha (q ▸ hc))).trans z
  ·refine hR s2 (Moved.trans W.gtrans ((m.mono up).then_heap (Qkx _) λc u hc z=>?_) m2) x2;exact(sb.2 c (λq=>hc (q ▸ Qq3))).trans z
theorem new_led(v:Value){Q:Value->Shared->Prop}(h:Q (.ref s.heap.objs.size) { s with heap:=s.heap.push { cls:=.type "set",dict:=none,data:=.set #[] 0 (.fresh 0 0 (led w)) } }) :
  codeAny (model P w) A (.call (.builtin "set.__new__") ⟨[.type "set",v],[]⟩) (wants Q E) s:=by
 refine codeAny_of_tree ?_;show wpAny _ _ (checkBuiltinCall "set.__new__" ⟨[.type "set",v],[]⟩ >>= λ_=>again (.builtin "set.__new__" ⟨[.type "set",v],[]⟩)) _ _ s;refine Qqq (wpAny_of_eq (PySem.F.newCall_set_1 v) (Qqv ⟨plainId_quiet PySem.F.plain_set_new _,Qj0 PySem.F.entry_set_new ?_⟩));rw[Around.under_plainId PySem.F.plain_set_new _];unfold Builtin.«set.__new__» Builtin.Frozenset.newClass;have hs:=sub_set_self;obtain⟨_,_,_,_,_⟩:=s;dsimp only
 wp_walk
 refine wpAny_askSetting (Qqv ?_);dsimp only;simp only[newObj];exact Qqq (wpAny_alloc (Qqv (Qqv h)))
def fresh(w:World):Obj:={ cls:=.type "set",dict:=none,data:=.set #[] 0 (.fresh 0 0 (led w)) }
theorem fresh_ok(h:Heap){a:Addr}(e:h.get? a=some (fresh w)):TSet P w h a []:=
 ⟨_, #[],0,_,e,⟨rfl,rfl,rfl⟩,rfl,⟨λ_ z=>by simp at z,⟨[],.nil,.rfl⟩,rfl,rfl,λz=>absurd rfl z⟩⟩
theorem set_of{l:Addr}{its:Array Value}{zs:List Str}{Q:Value->Shared->Prop}(hh:A.handled=none)(hl:s.heap.IsList l its)(hi:StrsAre its.toList zs)(hb:zs.length+1<scanBound)
  (h:∀(g:Heap) (tk:Nat),TSet P w g s.heap.objs.size (uniqX zs)->(∀b o,s.heap.get? b=some o->g.get? b=some o)->Q (.ref s.heap.objs.size) { s with heap:=g,toks:=tk }) :
  wpAny (model P w) A (call (.type "set") [.ref l]) Q E s:=by
 obtain⟨c,tl,mro⟩:=PySem.F.called_set.mro;have made:=PySem.F.called_set.made;have sub:=PySem.F.called_set.sub;refine wpAny_call (codeAny_of_tree ?_);show wpAny _ _ (callAny (.type "set") _) _ _ _;refine Qqv ⟨Code.quiet_builtin _ (by decide +kernel),Qj0 PySem.F.entry_type_call ?_⟩;rw[Around.under_plain (weight_type_call_type "set" [.ref l] []) rfl];have c1:=PySem.F.called_set.notType;have c2:=PySem.F.called_set.canCreate;have c3:=PySem.F.typeCall_set_1 (.ref l)
 repeat (any_goals (first|assumption|wp_step))
 refine Qj8 (new_led (.ref l) (E:=E) (Q:=λv s1=>v = .ref s.heap.objs.size/\s1 = { s with heap:=s.heap.push (fresh w) }) ⟨rfl,rfl⟩) λr s1 hr=>?_;have hlen:its.size=zs.length:=by rw[<-Qzw];exact strs_len hi
 cases r with
 | error e=>exact hr
 | ok fl=>
  cases fl with
  | ret v=>
   obtain⟨rfl,rfl⟩:=hr;have e0:(s.heap.push (fresh w)).get? s.heap.objs.size=some (fresh w):=Qq5 _ rfl;have hT:Shared.TypeIs { s with heap:=s.heap.push (fresh w) } (.ref s.heap.objs.size) "set":=⟨_,e0,rfl⟩;have c4:=PySem.F.called_set.init.lookup;have c5:=PySem.F.called_set.init.bind (.ref s.heap.objs.size)
   repeat (any_goals (first|assumption|wp_step))
   refine Qj8 (codeAny_call_builtin (R:=wants (λr s2=>r = .none/\∃g tk,s2 = { s with heap:=g,toks:=tk }/\TSet P w g s.heap.objs.size (uniqX zs)/\(∀b o,s.heap.get? b=some o->g.get? b=some o)) E)
    PySem.F.called_set.init.plain PySem.F.entry_set_init (check_set_init_1 hT ?_)) λr2 s2 hr2=>?_
   ·obtain⟨ol,hol,hcl,nl,hdl⟩:=hl;obtain⟨ocls,odict,odata,oslots⟩:=ol;simp only at hcl hdl;subst hcl;subst hdl;have hol':(s.heap.push (fresh w)).get? l=some { cls:=.type "list",dict:=odict,data:=.seq its nl,slots:=oslots }:=Qqz _ hol;have l1:(s.heap.push (fresh w)).IsList l its:=⟨_,hol',rfl,nl,rfl⟩;have n1:=PySem.F.sub_list_set;have n2:=PySem.F.sub_list_frozenset;have n3:(Value.type "list" == Value.type "dict")=false:=by decide
    have e1:(s.heap.push (fresh w)).get? s.heap.objs.size=some { cls:=.type "set",dict:=none,data:=.set #[] 0 (.fresh 0 0 (led w)) }:=e0;unfold Builtin.«set.__init__» noKeywords Builtin.Frozenset.updateFrom;generalize hPI:pyIter=PI
    wp_walk
    subst hPI;refine wpAny_pyIter_list l1 (Qqq (wpAny_runValue ?_));have lt:l<s.heap.objs.size:=Qq7 hol;have sz:(s.heap.push (fresh w)).objs.size=s.heap.objs.size+1:=Qz8 _ _;have hh3:A.in1.in1.in1.handled=none:=by simp[hh]
    have a1:l≠(s.heap.push (fresh w)).objs.size:=by rw[sz];exact Qwz (Qz0 lt)
    have a2:s.heap.objs.size ∉ [(s.heap.push (fresh w)).objs.size,l]:=by rw[sz];simp only[Qwq,Qj5,or_false,not_or];exact⟨Qwz (Nat.lt_succ_self _),Qj2 lt⟩
    have hv:∀(i:Nat) (v:Value),its[i]? = some v->∃t,v = .str (zs.getD i ⟨#[]⟩) t:=by
     have:∀{vs:List Value} {ss:List Str},StrsAre vs ss->∀(i:Nat) (v:Value),vs[i]? = some v->∃t,v = .str (ss.getD i ⟨#[]⟩) t:=by
      intro vs ss q
      induction q with
      | nil=>intro i v z;simp at z
      | cons y t _ ih=>
       intro i v z;cases i with
       | zero=>simp at z;exact⟨t,z.symm⟩
       | succ i=>simpa using ih i v (by simpa using z)
     exact λi v z=>this hi i v (by rw[Array.getElem?_toList];exact z)
    refine fill ((Walks.list hh3 _ l a1 its).toS) a2 (val:=λi=>zs.getD i ⟨#[]⟩) hv (by omega) its.size 0 _ (by omega) ⟨⟨_,Qq5 _ rfl,rfl,rfl⟩,l1.push _⟩ (fresh_ok _ (Qqz _ e0)) λs' m x=>?_;have es:seen (λi=>zs.getD i ⟨#[]⟩) its.size=uniqX zs:=by
     unfold seen uniqX
     congr 1
     rw[hlen];apply List.ext_getElem
     ·simp
     ·intro i h1 h2;simp[Qjj,h2]
    rw[es] at x;obtain⟨g,gn,dr,tk,os⟩:=s';have q1:gn=s.gens:=m.gens;have q2:dr=s.drawn:=m.drawn;have q3:os=s.os:=m.os;subst q1 q2 q3;refine Qqv ?_;show wpAny _ _ (ret .none) _ _ _;refine Qqv ⟨rfl,g,tk,rfl,x,λb o e=>?_⟩;have hb1:b<s.heap.objs.size:=Qq7 e;refine m.heap b o ?_ (Qqz _ (Qqz _ e));rw[sz];simp only[Qwq,Qj5,or_false,not_or];exact⟨Qwz hb1,Qwz (Qz0 hb1)⟩
   ·cases r2 with
    | error e=>exact hr2
    | ok fl2=>
     cases fl2 with
     | ret r=>
      obtain⟨rfl,g,tk,rfl,x,k⟩:=hr2
      repeat (any_goals (first|assumption|wp_step))
      exact h _ _ x k
     | _=>exact hr2.elim
  | _=>exact hr.elim
end
theorem slot_nx:Slot "set_iterator" "__next__" "set_iterator.__next__":=
 .of (owner:="set_iterator") (n:="__next__") (by rw[typeLookup_type,builtinLookup_eq_fast];kernel_rfl) (by decide +kernel) (by decide +kernel) (by decide +kernel) (by first|exact .inl (by decide +kernel)|exact .inr (by decide +kernel)) (by rw[isSubtype_type];kernel_rfl)
theorem entry_nx:entryFor table "set_iterator.__next__" = some Builtin.«set_iterator.__next__»:=entryFor_of_tree (by kernel_rfl)
theorem owner_si:Manifest.owners.lookup (String.ofList ['r', 'o', 't', 'a', 'r', 'e', 't', 'i', '_', 't', 'e', 's'].reverse)=some Manifest.sig_set_iterator:=by kernel_rfl
theorem args_nx(a:Value):argsOk "set_iterator.__next__" ⟨[a],[]⟩:=by
 unfold argsOk;rw[signature?_of (id:="set_iterator.__next__") (n:=['_', '_', 't', 'x', 'e', 'n', '_', '_']) (o:=['r', 'o', 't', 'a', 'r', 'e', 't', 'i', '_', 't', 'e', 's']) (by kernel_rfl) owner_si]
 kernel_rfl
theorem slot_si:Slot "set_iterator" "__iter__" "set_iterator.__iter__":=
 .of (owner:="set_iterator") (n:="__iter__") (by rw[typeLookup_type,builtinLookup_eq_fast];kernel_rfl) (by decide +kernel) (by decide +kernel) (by decide +kernel) (by first|exact .inl (by decide +kernel)|exact .inr (by decide +kernel)) (by rw[isSubtype_type];kernel_rfl)
theorem entry_it:entryFor table "set.__iter__" = some Builtin.«frozenset.__iter__»:=
 entryFor_alias (id':="frozenset.__iter__") (by kernel_rfl) rfl (by decide +kernel) (by kernel_rfl)
theorem entry_si:entryFor table "set_iterator.__iter__" = some Builtin.«dict_keyiterator.__iter__»:=
 entryFor_alias (id':="dict_keyiterator.__iter__") (by kernel_rfl) rfl (by decide +kernel) (by kernel_rfl)
theorem args_si(a:Value):argsOk "set_iterator.__iter__" ⟨[a],[]⟩:=by
 unfold argsOk;rw[signature?_of (id:="set_iterator.__iter__") (n:=['_', '_', 'r', 'e', 't', 'i', '_', '_']) (o:=['r', 'o', 't', 'a', 'r', 'e', 't', 'i', '_', 't', 'e', 's']) (by kernel_rfl) owner_si]
 kernel_rfl
def itO(first:Value)(i:Nat)(a:Addr)(n ep:Nat):Obj:={ cls:=.type "set_iterator",data:=.fields #[first,.int i 0,.ref a,.int n 0,.int ep 0] }
section
variable{P:Program}{w:World}{A:Around}{E:Value->Shared->Prop}{s:Shared}
theorem nx_go{I a:Addr}{first:Value}{i n ep:Nat}{o:Obj}{es:Array (Int×Value)}{t:SetTable}{Q:Value->Shared->Prop}(hI:s.heap.get? I=some (itO first i a n ep))(ho:s.heap.get? a=some o)(hd:o.data = .set es ep t)(hf:t.fits es.size=true)(hn:es.size=n)
  (h:wpAny (model P w) A (match first with
   | .int slot _=>(do match <-setNext a slot.toNat i ep with
     | some (x,next)=>(do setField (.ref I) 0 (rawInt next);setField (.ref I) 1 (rawInt (i+1));ret x)
     | none=>(do setField (.ref I) 2 .none;raiseNew (<-newExc (.type "StopIteration") [])))
   | v=>(do
        let some places <-seqItems? v|unsupported "internal:set_iterator"
        match places[i]? with
        | some (.int place _)=>(do let x <-setNextDrawn a place.toNat ep;setField (.ref I) 1 (rawInt (i+1));ret x)
        | some _=>unsupported "internal:set_iterator"
        | none=>(do setField (.ref I) 0 (rawInt 0);setField (.ref I) 2 .none;raiseNew (<-newExc (.type "StopIteration") [])))) (λfin s'=>∃v,fin = .done (.ret v)/\Q v s') E s) :
  wpAny (model P w) A (Builtin.«set_iterator.__next__» ⟨[.ref I],[]⟩) (λfin s'=>∃v,fin = .done (.ret v)/\Q v s') E s:=by
 unfold Builtin.«set_iterator.__next__» slotArgs;refine Qqq (Qqv ?_);refine Qqq (wpAny_fieldsOf hI rfl ?_);dsimp only[itO];refine Qqq (wpAny_setEntries_of ho hd hf ?_);rw[if_neg (by rw[hn];simp)];cases first<;>first|exact h|(simpa using h)
theorem self_it{I a:Addr}{first:Value}{i n ep:Nat}{Q:Value->Shared->Prop}(hI:s.heap.get? I=some (itO first i a n ep))(h:Q (.ref I) s):wpAny (model P w) A (pyIter (.ref I)) Q E s:=by have hT:s.TypeIs (.ref I) "set_iterator":=⟨_,hI,rfl⟩;refine wpAny_pyIter_slot hT slot_si (Qzv slot_si hT entry_si ?_ (args_si _));show wpAny _ _ (ret (.ref I)) _ _ s;exact Qqv ⟨_,rfl,"set_iterator",_,hT,slot_nx.lookup,h⟩
theorem stop{Q:Fin->Shared->Prop}(hh:A.handled=none)(q:∀g e,(∀b o,s.heap.get? b=some o->g.get? b=some o)->(∃o,g.get? e=some o/\o.cls = .type "StopIteration")->E (.ref e) { s with heap:=g }) :
  wpAny (model P w) A (do raiseNew (<-newExc (.type "StopIteration") [])) Q E s:=by
 refine Qqq ?_;simp only[newExc,newTuple];refine Qqq (Qxj ?_ (by size_fits));refine Qqq (m:=firstArgMember _ _) (wpAny_of_eq (a:=Value.none) (by first|rfl|(simp only[firstArgMember];rfl)) ?_);refine Qxj ?_ (by size_fits);simp only[raiseNew];refine Qqq (wpAny_handled ?_);rw[hh];refine Qqq (Qqv (wpAny_throw ?_));exact q _ _ (λb o e=>Qqz _ (Qqz _ e)) ⟨_,Qq5 _ rfl,rfl⟩
theorem nx_py{I a:Addr}{first:Value}{i n ep:Nat}{Q:Option Value->Shared->Prop}(hI:s.heap.get? I=some (itO first i a n ep))
  (h:wpAny (model P w) A.in1 (Builtin.«set_iterator.__next__» ⟨[.ref I],[]⟩) (λfin s'=>∃v,fin = .done (.ret v)/\Q (some v) s') (λe s'=>∃b,e = .ref b/\s'.TypeIs (.ref b) "StopIteration"/\Q none s') s):wpAny (model P w) A (pyNext (.ref I)) Q E s:=by
 have hT:s.TypeIs (.ref I) "set_iterator":=⟨_,hI,rfl⟩;unfold pyNext;refine Qqq (wpAny_attempt (wpAny_callSpecial?_slot (name:=Str.ofString "__next__") hT slot_nx (Qzv slot_nx hT entry_nx ?_ (args_nx _))));refine Qw6 h (λfin s' x=>?_) λe s' x=>?_
 ·obtain⟨v,rfl,y⟩:=x;exact⟨v,rfl,Qqv y⟩
 ·obtain⟨b,rfl,ty,y⟩:=x;refine Qqq (wpAny_isInstance (T:="StopIteration") (b:=true) ty isSubtype_stop ?_);exact Qqv y
structure BySlot(P:Program)(w:World)(a:Addr)(o:Obj)(ep:Nat)(sl:Nat->Nat)(os:List Value):Prop where
 step:∀(A:Around) (E:Value->Shared->Prop) (s:Shared) (i:Nat) (v:Value) (Q:Option (Value×Nat)->Shared->Prop),s.heap.get? a=some o->os[i]? = some v->Q (some (v,sl (i+1))) s->wpAny (model P w) A (setNext a (sl i) i ep) Q E s
 stop:∀(A:Around) (E:Value->Shared->Prop) (s:Shared) (Q:Option (Value×Nat)->Shared->Prop),s.heap.get? a=some o->Q none s->wpAny (model P w) A (setNext a (sl os.length) os.length ep) Q E s
theorem walk_slot{I a:Addr}{o:Obj}{es:Array (Int×Value)}{ep:Nat}{t:SetTable}{sl:Nat->Nat}{os:List Value}(hh:A.handled=none)(hia:a≠I)(hd:o.data = .set es ep t)(hf:t.fits es.size=true)(hn:es.size=os.length)(B:BySlot P w a o ep sl os) :
  WalksS P w A I [I,a] [I] (λg g'=>g'=g) os.length (λi v=>os[i]? = some v) (λi s=>s.heap.get? I=some (itO (.int (sl i) 0) i a os.length ep)/\s.heap.get? a=some o) where
 sub:=λb z=>by simp at z;simp[z]
 grefl:=λ_=>rfl
 gtrans:=λ_ _ _ x y=>y.trans x
 frame:=λi s g tk st _ k=>⟨k I (by simp) _ st.1,k a (by simp) _ st.2⟩
 item:=λi s Q E hi st hQ=>by
  obtain⟨v,hv⟩:∃v,os[i]? = some v:=⟨os[i],by simp[hi]⟩;refine nx_py st.1 (nx_go st.1 st.2 hd hf hn ?_);dsimp only;refine Qqq ?_;rw[Qj9];refine B.step _ _ s i v _ st.2 hv ?_;dsimp only;refine Qqq (Qjk st.1 (by simp) λg1 h1 e1=>?_);refine Qqq (Qjk h1 (by simp) λg2 h2 e2=>?_);have kp:∀b u,b≠I->s.heap.get? b=some u->g2.get? b=some u:=λb u hb z=>(e2.2 b hb).trans ((e1.2 b hb).trans z);refine Qqv ⟨v,rfl,hQ v _ hv ⟨?_,kp a _ hia st.2⟩ ⟨λb u hb z=>kp b u (λq=>hb (by simp[q])) z,rfl,rfl,rfl,Qqy _⟩⟩;rw[h2];simp[itO,rawInt]
 done:=λs Q E st hQ=>by
  refine nx_py st.1 (nx_go st.1 st.2 hd hf hn ?_);dsimp only;refine Qqq ?_;rw[Qj9];refine B.stop _ _ s _ st.2 ?_;dsimp only;refine Qqq (Qjk st.1 (by simp) λg1 h1 e1=>?_);refine stop (s:={ s with heap:=g1 }) (by simpa using hh) λg e k he=>⟨e,rfl,he,?_⟩;exact hQ _ ⟨λb u hb z=>k b u ((e1.2 b (λq=>hb (by simp[q]))).trans z),rfl,rfl,rfl,Qqy _⟩
 self:=λi s Q E st hQ=>self_it st.1 hQ
theorem walk_draw{I a T:Addr}{o oT:Obj}{es:Array (Int×Value)}{ep:Nat}{t:SetTable}{ps:List Nat}{os:List Value}(hh:A.handled=none)(hia:a≠I)(hit:T≠I)(hd:o.data = .set es ep t)(hf:t.fits es.size=true)(hn:es.size=os.length)
  {k:Nat} (hT:oT.data = .seq (ps.map λ(i:Nat)=>rawInt i).toArray k) (hp:ps.length=os.length) (ho:∀(i p:Nat) (v:Value),ps[i]? = some p->os[i]? = some v->∃h,es[p]? = some (h,v)) :
  WalksS P w A I [I,a,T] [I] (λg g'=>g'=g) os.length (λi v=>os[i]? = some v) (λi s=>s.heap.get? I=some (itO (.ref T) i a os.length ep)/\s.heap.get? a=some o/\s.heap.get? T=some oT) where
 sub:=λb z=>by simp at z;simp[z]
 grefl:=λ_=>rfl
 gtrans:=λ_ _ _ x y=>y.trans x
 frame:=λi s g tk st _ k=>⟨k I (by simp) _ st.1,k a (by simp) _ st.2.1,k T (by simp) _ st.2.2⟩
 item:=λi s Q E hi st hQ=>by
  obtain⟨v,hv⟩:∃v,os[i]? = some v:=⟨os[i],by simp[hi]⟩;obtain⟨p,hpi⟩:∃p,ps[i]? = some p:=⟨ps[i]'(by omega),by simp[hp,hi]⟩;obtain⟨hs,hes⟩:=ho i p v hpi hv;refine nx_py st.1 (nx_go st.1 st.2.1 hd hf hn ?_);dsimp only;refine Qqq (wpAny_seqItems st.2.2 hT ?_);dsimp only;have hx:(ps.map λ(i:Nat)=>rawInt i).toArray[i]? = some (rawInt p):=by simp[hpi]
  rw[hx];dsimp only[rawInt];refine Qqq ?_;rw[Qj9];unfold setNextDrawn;refine Qqq (wpAny_setState_of st.2.1 hd hf ?_);dsimp only;rw[if_neg (by simp),hes];refine Qqv ?_;refine Qqq (Qjk st.1 (by simp) λg1 h1 e1=>?_);have kp:∀b u,b≠I->s.heap.get? b=some u->g1.get? b=some u:=λb u hb z=>(e1.2 b hb).trans z;refine Qqv ⟨v,rfl,hQ v _ hv ⟨?_,kp a _ hia st.2.1,kp T _ hit st.2.2⟩ ⟨λb u hb z=>kp b u (λq=>hb (by simp[q])) z,rfl,rfl,rfl,Qqy _⟩⟩;rw[h1];simp[itO]
 done:=λs Q E st hQ=>by
  refine nx_py st.1 (nx_go st.1 st.2.1 hd hf hn ?_);dsimp only;refine Qqq (wpAny_seqItems st.2.2 hT ?_);dsimp only;have hx:(ps.map λ(i:Nat)=>rawInt i).toArray[os.length]? = none:=by simp[hp]
  rw[hx];dsimp only;refine Qqq (Qjk st.1 (by simp) λg1 h1 e1=>?_);refine Qqq (Qjk h1 (by simp) λg2 h2 e2=>?_);refine stop (s:={ s with heap:=g2 }) (by simpa using hh) λg e k he=>⟨e,rfl,he,?_⟩;exact hQ _ ⟨λb u hb z=>k b u ((e2.2 b (λq=>hb (by simp[q]))).trans ((e1.2 b (λq=>hb (by simp[q]))).trans z)),rfl,rfl,rfl,Qqy _⟩
 self:=λi s Q E st hQ=>self_it st.1 hQ
end
theorem erase_perm{α:Type}:∀{l:List α} {i:Nat} (h:i<l.length),(l[i]::l.eraseIdx i).Perm l
 | x::l,0,h=>by simp
 | x::l,i+1,h=>by
  have ih:=erase_perm (l:=l) (i:=i) (by simpa using h);rw[List.getElem_cons_succ,List.eraseIdx_cons_succ];exact(List.Perm.swap _ _ _).trans (ih.cons x)
theorem pick_go{α:Type}(next:Nat->Nat):∀(n k:Nat) (left:List α) (out:Array α),left.length=n->(pickOrder.go next n k left out).toList.Perm (out.toList++left)
 | 0,k,left,out,h=>by
  have:left=[]:=List.length_eq_zero_iff.mp h;subst this;simp[pickOrder.go]
 | n+1,k,left,out,h=>by
  have hl:next k % left.length<left.length:=Nat.mod_lt _ (by omega)
  have hx:left[next k % left.length]? = some left[next k % left.length]:=by simp[hl]
  unfold pickOrder.go;rw[hx];refine(pick_go next n (k+1) _ _ (by rw[List.length_eraseIdx_of_lt hl];omega)).trans ?_;rw[Array.toList_push,Qx0];refine List.Perm.append_left _ ?_;exact erase_perm hl
theorem pick_perm{α:Type}(next:Nat->Nat)(xs:Array α):(pickOrder next xs).toList.Perm xs.toList:=by
 unfold pickOrder
 simpa using pick_go next xs.size 0 xs.toList #[] (by simp)
section
variable{P:Program}{w:World}{A:Around}{E:Value->Shared->Prop}{s:Shared}
theorem wp_choose{src:Source}{n:Nat}{Q:Nat->Shared->Prop}(hn:n≠0)(h:∀i d,i<n->Q i { s with drawn:=d }):wpAny (model P w) A (choose src n) Q E s:=by intro Γ p _;show Sem.wp _ _ (.choose src n .pure) _ _ _ _;rw[Sem.wp];exact⟨hn,h _ _ (Nat.mod_lt _ (Nat.pos_of_ne_zero hn))⟩
theorem draw_perm{α:Type}:∀(n:Nat) (xs:List α) (s:Shared) (Q:List α->Shared->Prop),xs.length=n->(∀ys d,ys.Perm xs->Q ys { s with drawn:=d })->wpAny (model P w) A (drawOrder n xs) Q E s
 | 0,xs,s,Q,h,q=>by
  have:xs=[]:=List.length_eq_zero_iff.mp h;subst this;unfold drawOrder;refine Qqv ?_;have:=q [] s.drawn .rfl;cases s;exact this
 | n+1,x::xs,s,Q,h,q=>by
  unfold drawOrder;refine Qqq (wp_choose (by simp) λi d hi=>?_);have hx:(x::xs)[i]? = some ((x::xs)[i]):=by simp only[Qx3 hi]
  rw[hx];dsimp only;refine Qqq (draw_perm n _ { s with drawn:=d } _ (by rw[List.length_eraseIdx_of_lt hi];simpa using h) λys d' p=>Qqv ?_);exact q _ d' ((p.cons _).trans (erase_perm hi))
theorem below1{p:Array Nat}(h:p.size=1)(j:Nat):SetTable.below p j=if p.getD 0 j<j then 1 else 0:=by unfold SetTable.below;rw[h];unfold SetTable.below.go;rw[if_pos (by decide)];dsimp only;have:(0+1) / 2=0:=rfl;rw[this];split<;>rfl
theorem byText{Q:Bool->Shared->Prop}(h:Q (!led w) s):wpAny (model P w) A setsByText Q E s:=by unfold setsByText;refine Qqq (wpAny_askSetting (Qqv ?_));rw[led,Bool.not_not] at h;exact h
theorem slot_text{a:Addr}{o:Obj}{es:Array (Int×Value)}{ep:Nat}{t:SetTable}(hd:o.data = .set es ep t)(hf:t.fits es.size=true)(hl:led w=false) :
  BySlot P w a o ep (λ_=>0) ((pickOrder (w.params.setOrder a ep) es).toList.map (·.2)):=by
 have go:∀(A:Around) (E:Value->Shared->Prop) (s:Shared) (i:Nat) (Q:Option (Value×Nat)->Shared->Prop),s.heap.get? a=some o->Q (((pickOrder (w.params.setOrder a ep) es)[i]?).map λe=>(e.2,0)) s->wpAny (model P w) A (setNext a 0 i ep) Q E s:=by intro A E s i Q ho h;unfold setNext;refine Qqq (wpAny_setState_of ho hd hf ?_);dsimp only;refine Qqq (byText ?_);rw[hl];rw[if_pos (show(!false)=true from rfl),if_neg (by simp)];refine Qqq ?_;unfold setWalk;refine Qqq (wpAny_setState_of ho hd hf ?_);dsimp only;refine Qqq (byText ?_);rw[hl,if_pos (show(!false)=true from rfl)];exact Qqq (wpAny_askSetting (Qqv (Qqv h)))
 refine⟨λA E s i v Q ho hv h=>go A E s i Q ho ?_,λA E s Q ho h=>go A E s _ Q ho ?_⟩
 ·rw[Qw8,Array.getElem?_toList] at hv;obtain⟨e,he,rfl⟩:=Qw0.mp hv;rw[he];exact h
 ·have:(pickOrder (w.params.setOrder a ep) es)[((pickOrder (w.params.setOrder a ep) es).toList.map (·.2)).length]? = none:=by simp
  rw[this];exact h
theorem slot_one{a:Addr}{o:Obj}{es:Array (Int×Value)}{ep:Nat}{t:SetTable}(hd:o.data = .set es ep t)(hf:t.fits es.size=true)(hw:led w=true)(hl:t.led=led w)(hz:¬es.size > 1) :
  BySlot P w a o ep (λi=>if i=0 then 0 else t.place.getD 0 0+1) (es.toList.map (·.2)):=by
 have hp:t.place.size=es.size:=by simp only[SetTable.fits,Qwv,beq_iff_eq] at hf;exact hf.1
 have go:∀(A:Around) (E:Value->Shared->Prop) (s:Shared) (j i:Nat) (Q:Option (Value×Nat)->Shared->Prop),s.heap.get? a=some o->
   Q (match es[SetTable.below t.place j]?,t.place[SetTable.below t.place j]? with|some (_,x),some k=>some (x,k+1)|_,_=>none) s->wpAny (model P w) A (setNext a j i ep) Q E s:=by
  intro A E s j i Q ho h;unfold setNext;refine Qqq (wpAny_setState_of ho hd hf ?_);dsimp only;refine Qqq (byText ?_);rw[hw,if_neg (by simp)];show wpAny _ _ (if (!t.plain&&decide (es.size > 1))=true then _ else _) _ _ _;rw[if_neg (by rw[Qwj hz];simp)];refine Qqq ?_;show wpAny _ _ (if (!t.led && !es.isEmpty)=true then _ else _) _ _ _;rw[if_neg (by rw[hl,hw];simp)];exact Qqv (Qqv h)
 have hc:es.size=0\/es.size=1:=by omega
 refine⟨λA E s i v Q ho hv h=>go A E s _ i Q ho ?_,λA E s Q ho h=>go A E s _ _ Q ho ?_⟩
 ·rcases hc with hc|hc
  ·have:es = #[]:=Array.size_eq_zero_iff.mp hc;subst this;simp at hv
  ·obtain⟨e,rfl⟩:∃e,es = #[e]:=Array.size_eq_one_iff.mp hc;obtain⟨p,pe⟩:∃p,t.place = #[p]:=Array.size_eq_one_iff.mp hp;have hi:i=0:=by
    rcases Nat.eq_zero_or_pos i with z|z
    ·exact z
    ·rw[Qz3 (by simp;omega)] at hv;cases hv
   subst hi;simp at hv;subst hv;have hb:SetTable.below t.place 0=0:=by rw[below1 (by rw[pe];rfl)];simp
   simp only[if_pos];rw[hb,pe]
   simpa[pe] using h
 ·rcases hc with hc|hc
  ·have:es = #[]:=Array.size_eq_zero_iff.mp hc;subst this
   simpa using h
  ·obtain⟨e,rfl⟩:∃e,es = #[e]:=Array.size_eq_one_iff.mp hc;obtain⟨p,pe⟩:∃p,t.place = #[p]:=Array.size_eq_one_iff.mp hp;have hb:SetTable.below t.place (p+1)=1:=by rw[below1 (by rw[pe];rfl),pe];simp
   have hs:(if ([e].map (·.2)).length=0 then 0 else t.place.getD 0 0+1)=p+1:=by simp[pe]
   have hs':(if ((#[e]:Array (Int×Value)).toList.map (·.2)).length=0 then 0 else t.place.getD 0 0+1)=p+1:=hs;rw[hs',hb]
   simpa using h
theorem iter_set{a:Addr}{ys:List Str}{Q:Value->Shared->Prop}(x:TSet P w s.heap a ys)(hz:ys.length<64)
  (h:∀(g:Heap) (d:Drawn) (I:Addr) (fp:List Addr) (os:List Value) (St:Nat->Shared->Prop),(∀A':Around,A'.handled=none->WalksS P w A' I fp [I] (λg g'=>g'=g) os.length (λi v=>os[i]? = some v) St)->St 0 { s with heap:=g,drawn:=d }->
   (∀b∈fp,b=a\/s.heap.objs.size<=b)->s.heap.objs.size<=I->os.length=ys.length->(∃ss,StrsAre os ss/\ss.Perm ys)->(∀b o,s.heap.get? b=some o->g.get? b=some o)->Q (.ref I) { s with heap:=g,drawn:=d }) :
  wpAny (model P w) A (pyIter (.ref a)) Q E s:=by
 obtain⟨o,es,ep,t,ho,hx,hd,k⟩:=x;have hT:s.TypeIs (.ref a) "set":=⟨o,ho,hx.1⟩;have hlt:a<s.heap.objs.size:=Qq7 ho;have hn:es.size=ys.length:=k.size;obtain⟨ss,s1,s2⟩:=k.tx;refine wpAny_pyIter_slot hT PySem.F.slot_set_iter (Qzv PySem.F.slot_set_iter hT entry_it ?_ (PySem.F.args_set_iter_1 _));unfold Builtin.«frozenset.__iter__» Builtin.Frozenset.slot0 slotArgs;simp only[List.isEmpty_nil,Bool.not_true,Bool.false_eq_true, ↓reduceIte,bind_assoc,Qq0,bne_self_eq_false];unfold Builtin.Frozenset.addrOf Builtin.Frozenset.sizeOf;refine Qqq (Qqv ?_);dsimp only;refine Qqq (Qqv ?_);refine Qqq (Qqq (wpAny_setEntries_of ho hd k.fit (Qqv ?_)));refine Qqq ?_;unfold setDrawn;refine Qqq (wpAny_setState_of ho hd k.fit ?_);dsimp only;refine Qqq (byText (Qqv ?_));show wpAny _ _ (if (!(!led w)&&(!t.plain&&decide (es.size > 1)))=true then _ else _) _ _ _;by_cases hl:led w=true
 ·by_cases hz1:es.size > 1
  ·have hp:t.plain=false:=k.pl (by omega);rw[if_pos (by rw[hl,hp,Qw4 hz1];rfl)];refine Qqq (draw_perm _ _ s _ (by simp) λps d pp=>?_);refine Qqq (wpAny_newTuple ?_ (by rw[Qqx,pp.length_eq,List.length_range,hn];exact Qq2 (Qjw hz) (by decide)));refine Qqq (wpAny_setEpoch_of (Qqz _ ho) hd k.fit ?_);refine Qqq (Qxj (Qqv ⟨_,rfl,"set_iterator",_,⟨_,Qq5 _ rfl,rfl⟩,slot_nx.lookup,?_⟩))
   let f:Nat->Value:=λp=>((es[p]?).map (·.2)).getD .none
   have ef:(List.range es.size).map f=es.toList.map (·.2):=by
    apply List.ext_getElem
    ·simp
    ·intro i h1 h2;have hi:i<es.size:=by simpa using h1
     simp[f,hi]
   have hos:(ps.map f).length=es.size:=by rw[Qqx,pp.length_eq,List.length_range]
   have hperm:(ps.map f).Perm (es.toList.map (·.2)):=by rw[<-ef];exact pp.map f
   obtain⟨rs,q1,q2⟩:=strs_perm hperm s1;have sz:(s.heap.push { cls:=.type "tuple",data:=.seq (ps.map λ(i:Nat)=>rawInt i).toArray }).objs.size=s.heap.objs.size+1:=Qz8 _ _;have e1:((s.heap.push { cls:=.type "tuple",data:=.seq (ps.map λ(i:Nat)=>rawInt i).toArray }).push (itO (.ref s.heap.objs.size) 0 a es.size ep)).get? s.heap.objs.size=some { cls:=.type "tuple",data:=.seq (ps.map λ(i:Nat)=>rawInt i).toArray }:=
    Qqz _ (Qq5 _ rfl)
   have a1:a≠(s.heap.push { cls:=.type "tuple",data:=.seq (ps.map λ(i:Nat)=>rawInt i).toArray }).objs.size:=by rw[sz];exact Qwz (Qz0 hlt)
   have a2:s.heap.objs.size≠(s.heap.push { cls:=.type "tuple",data:=.seq (ps.map λ(i:Nat)=>rawInt i).toArray }).objs.size:=by rw[sz];exact Qwz (Nat.lt_succ_self _)
   refine h _ d _ [_,a,s.heap.objs.size] (ps.map f) _ (λA' hA=>walk_draw (ps:=ps) hA a1 a2 hd k.fit hos.symm rfl (by rw[Qqx]) λi p v h1 h2=>?_) ⟨?_,Qqz _ (Qqz _ ho),e1⟩ (λb hb=>?_) (by rw[sz];exact Qkx _) (hos.trans hn) ⟨rs,q1,q2.trans s2⟩ λb u e=>Qqz _ (Qqz _ e)
   ·rw[Qw8,h1] at h2;simp only[Option.map_some,Qww] at h2;have hm:p∈List.range es.size:=pp.mem_iff.mp (List.mem_of_getElem? h1);have hp:p<es.size:=Qx1.mp hm;refine⟨es[p].1,?_⟩;rw[<-h2];simp[f,hp]
   ·have:=Qq5 (s.heap.push { cls:=.type "tuple",data:=.seq (ps.map λ(i:Nat)=>rawInt i).toArray }) (o:=itO (.ref s.heap.objs.size) 0 a (ps.map f).length ep) rfl;rw[hos] at this ⊢;exact this
   ·simp only[Qwq,Qj5,or_false] at hb;rcases hb with rfl|rfl|rfl
    ·exact .inr (by rw[sz];exact Qkx _)
    ·exact .inl rfl
    ·exact .inr (Qqy _)
  ·rw[if_neg (by rw[Qwj hz1];simp)];refine Qqq (Qqv ?_);refine Qqq (wpAny_setEpoch_of ho hd k.fit ?_);refine Qqq (Qxj (Qqv ⟨_,rfl,"set_iterator",_,⟨_,Qq5 _ rfl,rfl⟩,slot_nx.lookup,?_⟩));have hos:(es.toList.map (·.2)).length=es.size:=by simp
   have e0:=Qq5 s.heap (o:=itO (.int 0 0) 0 a (es.toList.map (·.2)).length ep) rfl;have:=h (s.heap.push (itO (.int 0 0) 0 a (es.toList.map (·.2)).length ep)) s.drawn s.heap.objs.size [s.heap.objs.size,a] (es.toList.map (·.2)) _ (λA' hA=>walk_slot hA (Qwz hlt) hd k.fit hos.symm (slot_one hd k.fit hl k.ld hz1)) ⟨e0,Qqz _ ho⟩ (λb hb=>by
    simp only[Qwq,Qj5,or_false] at hb;rcases hb with rfl|rfl
    ·exact .inr (Qqy _)
    ·exact .inl rfl) (Qqy _) (hos.trans hn) ⟨ss,s1,s2⟩ λb u e=>Qqz _ e
   rw[hos] at this;cases s;exact this
 ·have hl:led w=false:=by simpa using hl
  rw[if_neg (by rw[hl];simp)];refine Qqq (Qqv ?_);refine Qqq (wpAny_setEpoch_of ho hd k.fit ?_);refine Qqq (Qxj (Qqv ⟨_,rfl,"set_iterator",_,⟨_,Qq5 _ rfl,rfl⟩,slot_nx.lookup,?_⟩));have pk:=pick_perm (w.params.setOrder a ep) es;have hos:((pickOrder (w.params.setOrder a ep) es).toList.map (·.2)).length=es.size:=by rw[Qqx,pk.length_eq];simp
  obtain⟨rs,q1,q2⟩:=strs_perm (pk.map (·.2)) s1;have e0:=Qq5 s.heap (o:=itO (.int 0 0) 0 a ((pickOrder (w.params.setOrder a ep) es).toList.map (·.2)).length ep) rfl;have:=h (s.heap.push (itO (.int 0 0) 0 a ((pickOrder (w.params.setOrder a ep) es).toList.map (·.2)).length ep)) s.drawn s.heap.objs.size [s.heap.objs.size,a] ((pickOrder (w.params.setOrder a ep) es).toList.map (·.2)) _ (λA' hA=>walk_slot hA (Qwz hlt) hd k.fit hos.symm (slot_text hd k.fit hl)) ⟨e0,Qqz _ ho⟩ (λb hb=>by
   simp only[Qwq,Qj5,or_false] at hb;rcases hb with rfl|rfl
   ·exact .inr (Qqy _)
   ·exact .inl rfl) (Qqy _) (hos.trans hn) ⟨rs,q1,q2.trans s2⟩ λb u e=>Qqz _ e
  rw[hos] at this;cases s;exact this
theorem hint_set{r:Addr}{Q:Bool->Shared->Prop}(hT:s.TypeIs (.ref r) "set")(h:Q false s):wpAny (model P w) A (Builtin.List.listLengthHint (.ref r)) Q E s:=by
 unfold Builtin.List.listLengthHint;refine Qqq (wpAny_specialOf hT PySem.F.slot_set_len.lookup ?_);generalize hid:("set.__len__" : String)=id0
 wp_delta
 rw[show splitId id0=some ("set","__len__") from by subst hid;decide +kernel];subst hid;refine Qqq (wpAny_isInstance (T:="set") (b:=true) hT (by rw[isSubtype_type];kernel_rfl) ?_);refine wpAny_ite_split (λz=>absurd z (by decide)) (λ_=>?_);refine wpAny_ite_split (λ_=>?_) (λz=>absurd (by decide +kernel) z);exact Qqq (wpAny_typeOf hT (Qqv h))
theorem items_eq{os:List Value}{acc:Array Value}(h:ItemsOf (λi v=>os[i]? = some v) acc os.length):acc.toList=os:=by
 apply List.ext_getElem?;intro i;rw[Array.getElem?_toList];by_cases hi:i<acc.size
 ·have e:acc[i]? = some acc[i]:=by simp[hi]
  rw[e,h.2 i _ e]
 ·have h1:acc[i]? = none:=by simp;omega
  have h2:os[i]? = none:=by simp;rw[<-h.1];omega
  rw[h1,h2]
theorem collect_set{a:Addr}{ys:List Str}{Q:List Value->Shared->Prop}(hh:A.handled=none)(x:TSet P w s.heap a ys)(hz:ys.length<64)
  (h:∀(g:Heap) (d:Drawn) (tk:Nat) (os:List Value),(∃ss,StrsAre os ss/\ss.Perm ys)->os.length=ys.length->(∀b o,s.heap.get? b=some o->g.get? b=some o)->Q os { s with heap:=g,drawn:=d,toks:=tk }) :
  wpAny (model P w) A (collect (.ref a)) Q E s:=by
 have hT:∀h':Heap,TSet P w h' a ys->Shared.TypeIs { s with heap:=h' } (.ref a) "set":=λh' ⟨o,_,_,_,e,r,_⟩=>⟨o,e,r.1⟩;have hlt:a<s.heap.objs.size:=let ⟨o,_,_,_,e,_⟩:=x;Qq7 e
 unfold collect;refine Qqq (wpAny_runValue (Qj0 PySem.F.entry_proto_collect ?_));rw[Around.under_plainId PySem.F.plain_proto_collect _];show wpAny _ A.in1 (newList [] >>= λl=>again (.builtin "list.__iadd__" ⟨[l,.ref a],[]⟩)) _ _ s;refine Qqq (Qxj (Qqv ⟨plainId_quiet PySem.F.plain_list_iadd _,Qj0 PySem.F.entry_list_iadd ?_⟩));rw[Around.under_plainId PySem.F.plain_list_iadd _];have l0:(s.heap.push { cls:=.type "list",data:=.seq ([]:List Value).toArray }).get? s.heap.objs.size=some { cls:=.type "list",data:=.seq #[] }:=Qq5 _ rfl;have x0:TSet P w (s.heap.push { cls:=.type "list",data:=.seq ([]:List Value).toArray }) a ys:=x.keep λo e=>Qqz _ e;show wpAny _ A.in1 (Builtin.List.listExtendWith (.ref s.heap.objs.size) (.ref a) (.ref s.heap.objs.size)) _ _ _;unfold Builtin.List.listExtendWith;refine Qqq (wpAny_typeOf (T:="set") (hT _ x0) ?_);have n1:Builtin.List.listSameRef (.ref s.heap.objs.size) (.ref a)=false:=by simp[Builtin.List.listSameRef,Qj2 hlt]
 rw[if_neg (by rw[n1];decide)];refine Qqq (iter_set (s:={ s with heap:=s.heap.push { cls:=.type "list",data:=.seq ([]:List Value).toArray } }) x0 hz λg d I fp os St W st hfp hI hos hss kp=>?_);have sz:(s.heap.push { cls:=.type "list",data:=.seq ([]:List Value).toArray }).objs.size=s.heap.objs.size+1:=Qz8 _ _;have kp0:∀b o,s.heap.get? b=some o->g.get? b=some o:=λb o e=>kp b o (Qqz _ e);have l1:g.get? s.heap.objs.size=some { cls:=.type "list",data:=.seq #[] }:=kp _ _ l0;have hSf:s.heap.objs.size ∉ fp:=λz=>by
  rcases hfp _ z with e|e
  ·exact absurd e (Qj2 hlt)
  ·dsimp only at e;rw[sz] at e;exact absurd e (Nat.not_succ_le_self _)
 refine Qqq (Qx6 (hint_set (s:={ s with heap:=g,drawn:=d }) (let ⟨o,_,_,_,e,r,_⟩:=x.keep λo e=>kp0 _ o e;⟨o,e,r.1⟩) ?_));have W':=W A.in1 (by simpa using hh);have hn:os.length<=sizeLine:=by rw[hos];exact Qq2 (Qjw hz) (by decide)
 have key:∀(g1:Heap) (c:Nat),St 0 { s with heap:=g1,drawn:=d }->(∀b o,s.heap.get? b=some o->g1.get? b=some o)->g1.get? s.heap.objs.size=some { cls:=.type "list",data:=.seq #[] c }->
   codeAny (model P w) A (.builtin "list.extend.loop" ⟨[.ref s.heap.objs.size,.ref I,.ref s.heap.objs.size],[]⟩) (λr s'=>wants (λv s2=>wpAny (model P w) A ((match v with
    | .ref a=>do match (<-load a).data with
     | .seq xs _=>pure xs.toList
     | _=>unsupported "internal:collect"
    | _=>unsupported "internal:collect"):Sem (List Value)) Q E s2) E r s') { s with heap:=g1,drawn:=d }:=by
  intro g1 c st1 k1 l2;refine codeAny_extend_loopS W' hn s.heap.objs.size hSf (.ref s.heap.objs.size) os.length 0 _ #[] c rfl (Qz9 _) st1 l2 (ItemsOf.nil _) λs' acc c' m hS hacc=>?_;show wpAny _ _ (load s.heap.objs.size >>= _) _ _ _;refine Qqq (wpAny_load hS (Qqv ?_));rw[items_eq hacc,Moved.eq_with m];refine h s'.heap d s'.toks os hss hos λb o e=>m.heap b o (λz=>?_) (k1 b o e);rcases Qwq.mp z with z|z
  ·exact absurd (Qq7 e) (by rw[z];exact Qx9 _)
  ·rw[Qx2.mp z] at e;have:=Qq7 e;dsimp only at hI;rw[sz] at hI;exact absurd (Qwx this (Qj1 hI)) (Qx9 _)
 dsimp only;split
 ·refine Qqq (wpAny_rule (Qqq ?_));show wpAny _ _ (updateSeq s.heap.objs.size (·.push .none) >>= λ_=>updateSeq s.heap.objs.size (·.pop)) _ _ _;refine Qqq (wpAny_updateSeq l1 rfl ?_);have l2:=Heap.get?_update_self (Obj.mapSeq (·.push Value.none)) l1 rfl;refine wpAny_updateSeq (hz:=by seq_fits) l2 rfl ?_;have l3:=Heap.get?_update_self (Obj.mapSeq (·.pop)) l2 rfl;have oth:∀b o,b≠s.heap.objs.size->g.get? b=some o->((g.update s.heap.objs.size (Obj.mapSeq (·.push Value.none))).update s.heap.objs.size (Obj.mapSeq (·.pop))).get? b=some o:=λb o hb e=>
   (Heap.get?_update_other _ _ (Ne.symm hb)).trans ((Heap.get?_update_other _ _ (Ne.symm hb)).trans e)
  refine Qqv ⟨plainId_quiet PySem.F.plain_extend_loop _,key _ _ ?_ (λb o e=>oth b o (Qwz (Qq7 e)) (kp0 b o e)) l3⟩;exact W'.frame 0 { s with heap:=g,drawn:=d } _ _ st (Qqy _) λb hb o e=>oth b o (λz=>hSf (z ▸ hb)) e
 ·exact Qqv ⟨plainId_quiet PySem.F.plain_extend_loop _,key g _ st kp0 l1⟩
end
open PySem PySem.Spec PyProof.Rows L2 PySem.Builtin Ev
theorem _root_.L2.Inv.dr{X:Cx}{pins:List (Addr×Obj)}{σ:L2.St}{H:Hp}{s:Shared}(I:L2.Inv X pins σ H s)(d:Drawn):L2.Inv X pins σ H { s with drawn:=d }:=
 ⟨I.ok,I.os,I.bare,I.base,I.loc,I.cell,I.free,I.freeC,I.pin,I.hok,I.len⟩
def SetO(P:Program)(w:World)(a:Addr)(ys:List Str):HO:=.ext λh=>TSet P w h a ys
def rSet(X:Cx):List V->Hp->VK->Prop:=λxs H Q=>∃(p:Addr) (zs:List (List Nat)),xs=[.ref p]/\SqL X.K H p (zs.map λz=>V.str (Ev.strOf z))/\zs.length<64/\∀l,H l=none->Q (.ref l) (upd H l (SetO X.prog X.w l (uniqX (zs.map Ev.strOf))))
def rSortS(X:Cx):List V->Hp->VK->Prop:=λxs H Q=>∃(p:Addr) (zs:List (List Nat)),xs=[.ref p]/\H p=some (SetO X.prog X.w p (zs.map Ev.strOf))/\zs.length<64/\∀l,H l=none->Q (.ref l) (upd H l (.lst ((sortX zs).map λz=>V.str (Ev.strOf z))))
section
variable{X:Cx}{C:Cfg}{pos:Pos}
theorem call_set(hc:X.calm=true):CallR X (.type "set") (rSet X):=by intro pins s σ H xs us Q I r h;obtain⟨p,zs,rfl,hq,hz,q⟩:=h;obtain⟨u,rfl,rx⟩:=vals1 r;cases rx;obtain⟨its,r',pl,_⟩:=I.list hq;have hS:StrsAre its (zs.map Ev.strOf):=vals_strs r';refine set_of (I.ok.hd hc) pl.isList (zs:=zs.map Ev.strOf) (by simpa using hS) (by rw[Qqx];exact Nat.lt_of_le_of_lt (Nat.succ_le_of_lt hz) (by decide)) λg tk x k=>?_;refine⟨.ref s.heap.objs.size,_,I.laid (t':=tk) k (Qqy _) (o:=SetO X.prog X.w s.heap.objs.size (uniqX (zs.map Ev.strOf))) ⟨x,?_,λh1 h2 y kk=>y.keep kk⟩,rfl,q _ (I.hok.fresh (Qqy _))⟩;obtain⟨o,_,_,_,e,_⟩:=x;exact⟨o,e⟩
theorem call_sortS(hc:X.calm=true):CallR X (.builtin "sorted") (rSortS X):=by intro pins s σ H xs us Q I r h;obtain⟨p,zs,rfl,hq,hz,q⟩:=h;obtain⟨u,rfl,rx⟩:=vals1 r;cases rx;have x:TSet X.prog X.w s.heap p (zs.map Ev.strOf):=(I.hok p _ hq).1;refine Calls.call_function_entry kind_sorted plain_sorted entry_sorted (args_sorted1 _) ?_;unfold Builtin.«sorted»;refine Qqq (m:=checkCount "sorted" 1 1 _) (Qqv ?_);refine Qqq (collect_set (A:=X.A.in1) (I.ok.hd hc) x (by rw[Qqx];exact hz) λh' d tk os hss hlen hk=>?_);obtain⟨ss,hS,pS⟩:=hss;rw[Qqx] at hlen;refine Qqq (wpAny_newList ?_ (by rw[hlen];exact Qq2 (Qjw hz) (by decide)));have hoL:(h'.push (seqObj "list" os.toArray 0)).get? h'.objs.size=some (seqObj "list" os.toArray 0):=Qq5 _ rfl;show wpAny _ _ _ _ _ { s with heap:=h'.push (seqObj "list" os.toArray 0),drawn:=d,toks:=tk };refine Qqq (Qx6 (Qzv slot_list_sort ⟨_,hoL,rfl⟩ entry_list_sort (list_sort_treeK strKind_oneLt hoL hS.keysOf (λv₁ v₂ rest e=>keyKind_strs (by rw[<-e];exact hS)) (by rw[hlen];exact hz) λst' b1 b2=>⟨_,rfl,?_⟩) (args_list_sort _)));obtain⟨ss',a1,a2,a3⟩:=sorted_out_str hS b1 b2;obtain⟨e,he⟩:=sortedHeap_at (out:=(arrOf st').map (·.2)) hoL;refine Qqv ⟨_,rfl,?_⟩;have I1:L2.Inv X pins σ H { s with heap:=h',drawn:=d,toks:=tk }:=(I.kept hk).dr d;refine sort_fin (s:={ s with heap:=h',drawn:=d,toks:=tk }) (tk:=tk) I1 hz q a1 (a2.trans pS) a3 (λb o e=>?_) (Qqy _) he;have lt':=Qq7 e;rw[sortedHeap_old (Qwz lt') (by rw[size_push'];exact Qz0 lt')];exact Qqz _ e
end
def addN(ys:List (List Nat))(x:List Nat):List (List Nat):=if x∈ys then ys else ys++[x]
def uniqN(zs:List (List Nat)):List (List Nat):=zs.foldl addN []
theorem strOf_inj{x y:List Nat}(h:Ev.strOf x=Ev.strOf y):x=y:=by
 have:=Qkz (λs:Str=>s.cps.toList) h
 simpa[Ev.strOf] using this
theorem addN_map(ys:List (List Nat))(x:List Nat):(addN ys x).map Ev.strOf=addX (ys.map Ev.strOf) (Ev.strOf x):=by
 unfold addN addX;by_cases h:x∈ys
 ·rw[if_pos h,if_pos (Qxv.mpr ⟨x,h,rfl⟩)]
 ·rw[if_neg h,if_neg (λz=>h (by obtain⟨y,hy,e⟩:=Qxv.mp z;rw[<-strOf_inj e];exact hy)),Qxz]
  rfl
theorem uniqN_go:∀(zs ys:List (List Nat)),(zs.foldl addN ys).map Ev.strOf=(zs.map Ev.strOf).foldl addX (ys.map Ev.strOf)
 | [],ys=>rfl
 | z::zs,ys=>by rw[Qzk,uniqN_go zs,addN_map,Qq9,Qzk]
theorem uniqN_map(zs:List (List Nat)):(uniqN zs).map Ev.strOf=uniqX (zs.map Ev.strOf):=uniqN_go zs []
theorem uniqN_mem:∀(zs ys:List (List Nat)) (x:List Nat),x∈zs.foldl addN ys↔x∈ys\/x∈zs
 | [],ys,x=>by simp
 | z::zs,ys,x=>by
  rw[Qzk,uniqN_mem zs];unfold addN;by_cases h:z∈ys
  ·rw[if_pos h,Qwq];constructor
   ·rintro(a|a)
    ·exact .inl a
    ·exact .inr (.inr a)
   ·rintro(a|rfl|a)
    ·exact .inl a
    ·exact .inl h
    ·exact .inr a
  ·rw[if_neg h,Qzz,Qx2,Qwq,or_assoc]
theorem uniqN_len(zs:List (List Nat)):(uniqN zs).length<=zs.length:=by
 have h:=uniq_len (zs.map Ev.strOf) [];have e:=Qkz List.length (uniqN_map zs);rw[Qqx] at e;rw[e]
 simpa[uniqX] using h
end SX
namespace Ev
open PySem PySem.Spec PyProof.Rows L2 PySem.Builtin
def gSortSet:D->Option D
 | .lst ds=>(strsD ds).bind λzs=>if zs.length<64/\(∀z∈zs,z.length<=sizeLine) then some (.lst ((sortX (SX.uniqN zs)).map .str)) else none
 | _=>none
section
variable{X:Cx}{C:Cfg}{pos p p2 pos2:Pos}{e:Expr}{a:Ev}
structure PXL(X:Cx)(C:Cfg)(es:List Expr)(ev:EvA):Prop where
 go:PXA X C es ev
theorem pxl_nil:PXL X C [] evNil:=⟨pxa_nil⟩
end
open PySem L2
theorem nr{α:Type}{a b:α}(h:a=b):a=b:=h
theorem bR{α β:Type}(a:α)(e:Env)(f:α->Env->R β):bindR (.ok a e) f=f a e:=nr rfl
theorem bO{α:Type}(a:α)(e:Env)(f:α->Env->Out):bindO (.ok a e) f=f a e:=nr rfl
theorem lR{α:Type}(a:α)(e:Env):liftR (some a) e = .ok a e:=nr rfl
theorem lO(e:Env):liftO (some e) = .nx e:=nr rfl
def stk{α:Type}(_:Env):R α:=.stuck
def seqO(o:Out)(b:EvS):Out:=match o with
 | .nx e=>b e
 | .rt o d e=>.rt o d e
 | .bk e=>.bk e
 | .ct e=>.ct e
 | .stuck=>.stuck
theorem stSeq_s(a b:EvS)(env:Env):stSeq a b env=seqO (a env) b:=nr rfl
theorem sNx(e:Env)(b:EvS):seqO (.nx e) b=b e:=nr rfl
theorem sRt(o:Bool)(d:D)(e:Env)(b:EvS):seqO (.rt o d e) b = .rt o d e:=nr rfl
def ifR{α:Type}(c:Bool)(a b:Env->α)(env:Env):α:=if c=true then a env else b env
theorem iT{α:Type}(a b:Env->α)(env:Env):ifR true a b env=a env:=nr rfl
theorem iF{α:Type}(a b:Env->α)(env:Env):ifR false a b env=b env:=nr rfl
def kIf{α:Type}(a b:Env->α)(c:Bool)(e:Env):α:=ifR c a b e
theorem kIf_s{α:Type}(a b:Env->α)(c:Bool)(e:Env):kIf a b c e=ifR c a b e:=nr rfl
theorem stIf_s(t:EvT)(a b:EvS)(env:Env):stIf t a b env=bindO (t env) (kIf a b):=nr rfl
def okT(b:Bool):EvT:=λe=>.ok b e
theorem evOrT_s(a b:EvT)(env:Env):evOrT a b env=bindR (a env) (kIf (okT true) b):=nr rfl
def blR{α:Type}(d:D)(f:Bool->R α):R α:=match d with
 | .bl b=>f b
 | _=>.stuck
theorem bB{α:Type}(b:Bool)(f:Bool->R α):blR (.bl b) f=f b:=nr rfl
def okB(b:Bool):Ev:=λe=>.ok (.bl b) e
theorem okB_s(b:Bool)(e:Env):okB b e = .ok (.bl b) e:=nr rfl
def kBlIf(a b:Ev)(d:D)(e:Env):R D:=blR d (kBlIf2 a b e)
where kBlIf2 (a b:Ev) (e:Env) (c:Bool):R D:=ifR c a b e
theorem kBlIf_s(a b:Ev)(d:D)(e:Env):kBlIf a b d e=blR d (kBlIf.kBlIf2 a b e):=nr rfl
theorem kBlIf2_s(a b:Ev)(e:Env)(c:Bool):kBlIf.kBlIf2 a b e c=ifR c a b e:=nr rfl
theorem evAnd_s(a b:Ev)(env:Env):evAnd a b env=bindR (a env) (kBlIf b (okB false)):=by
 unfold evAnd
 congr 1
 funext d e
 cases d with
 | bl b=>cases b<;>rfl
 | _=>rfl
def kB2(e:Env)(c:Bool):R Bool:=.ok c e
def kB(d:D)(e:Env):R Bool:=blR d (kB2 e)
theorem kB2_s(e:Env)(c:Bool):kB2 e c = .ok c e:=nr rfl
theorem kB_s(d:D)(e:Env):kB d e=blR d (kB2 e):=nr rfl
theorem evB_s(a:Ev)(env:Env):evB a env=bindR (a env) kB:=by
 unfold evB
 congr 1
def rdO{α:Type}(o:Option (Option (Bool×D)))(f:Bool->D->R α):R α:=match o with
 | some (some (o,d))=>f o d
 | _=>.stuck
theorem rS{α:Type}(o:Bool)(d:D)(f:Bool->D->R α):rdO (some (some (o,d))) f=f o d:=nr rfl
def kRd(env:Env)(_:Bool)(d:D):R D:=.ok d env
theorem kRd_s(env:Env)(o:Bool)(d:D):kRd env o d = .ok d env:=nr rfl
theorem evRd_s(i:Nat)(env:Env):evRd i env=rdO env[i]? (kRd env):=by unfold evRd rdO;rfl
def kVar(i:Nat)(env:Env)(o:Bool)(d:D):R D:=.ok d (bif o then env.set i (some (false,d)) else env)
theorem kVar_s(i:Nat)(env:Env)(o:Bool)(d:D):kVar i env o d = .ok d (bif o then env.set i (some (false,d)) else env):=nr rfl
theorem evVar_s(i:Nat)(env:Env):evVar i env=rdO env[i]? (kVar i env):=by
 unfold evVar rdO;cases env[i]? with
 | none=>rfl
 | some o=>
  cases o with
  | none=>rfl
  | some p=>obtain⟨b,d⟩:=p;cases b<;>rfl
def kBinO3(g:D->D->Option D)(y:D)(e:Env)(_:Bool)(x:D):R D:=liftR (g x y) e
def kBinO2(g:D->D->Option D)(i:Nat)(y:D)(e:Env):R D:=rdO e[i]? (kBinO3 g y e)
def kBinO(g:D->D->Option D)(i:Nat)(b:Ev)(env:Env)(_:Bool)(_:D):R D:=bindR (b env) (kBinO2 g i)
theorem kBinO3_s(g:D->D->Option D)(y:D)(e:Env)(o:Bool)(x:D):kBinO3 g y e o x=liftR (g x y) e:=nr rfl
theorem kBinO2_s(g:D->D->Option D)(i:Nat)(y:D)(e:Env):kBinO2 g i y e=rdO e[i]? (kBinO3 g y e):=nr rfl
theorem kBinO_s(g:D->D->Option D)(i:Nat)(b:Ev)(env:Env)(o:Bool)(d:D):kBinO g i b env o d=bindR (b env) (kBinO2 g i):=nr rfl
theorem evBinO_s(g:D->D->Option D)(i:Nat)(b:Ev)(env:Env):evBinO g i b env=rdO env[i]? (kBinO g i b env):=by unfold evBinO rdO;rfl
def ioR{α:Type}(o:Option (D×D))(f:D->D->R α):R α:=match o with
 | some (d,x)=>f d x
 | none=>.stuck
theorem oS{α:Type}(d x:D)(f:D->D->R α):ioR (some (d,x)) f=f d x:=nr rfl
def kIO5(i:Nat)(e:Env)(d x':D):R D:=.ok d (e.set i (some (true,x')))
def kIO4(f:List D->Option (D×D))(i:Nat)(x:D)(ds:List D)(e:Env):R D:=ioR (f (x::ds)) (kIO5 i e)
def kIO3(f:List D->Option (D×D))(i:Nat)(ds:List D)(e:Env)(o:Bool)(x:D):R D:=ifR o (kIO4 f i x ds) stk e
def kIO2(f:List D->Option (D×D))(i:Nat)(ds:List D)(e:Env):R D:=rdO e[i]? (kIO3 f i ds e)
def kIO1(f:List D->Option (D×D))(i:Nat)(a:EvA)(env:Env):R D:=bindR (a env) (kIO2 f i)
def kIO(f:List D->Option (D×D))(i:Nat)(a:EvA)(env:Env)(o:Bool)(_:D):R D:=ifR o (kIO1 f i a) stk env
theorem kIO5_s(i:Nat)(e:Env)(d x':D):kIO5 i e d x' = .ok d (e.set i (some (true,x'))):=nr rfl
theorem kIO4_s(f:List D->Option (D×D))(i:Nat)(x:D)(ds:List D)(e:Env):kIO4 f i x ds e=ioR (f (x::ds)) (kIO5 i e):=nr rfl
theorem kIO3_s(f:List D->Option (D×D))(i:Nat)(ds:List D)(e:Env)(o:Bool)(x:D):kIO3 f i ds e o x=ifR o (kIO4 f i x ds) stk e:=nr rfl
theorem kIO2_s(f:List D->Option (D×D))(i:Nat)(ds:List D)(e:Env):kIO2 f i ds e=rdO e[i]? (kIO3 f i ds e):=nr rfl
theorem kIO1_s(f:List D->Option (D×D))(i:Nat)(a:EvA)(env:Env):kIO1 f i a env=bindR (a env) (kIO2 f i):=nr rfl
theorem kIO_s(f:List D->Option (D×D))(i:Nat)(a:EvA)(env:Env)(o:Bool)(d:D):kIO f i a env o d=ifR o (kIO1 f i a) stk env:=nr rfl
theorem evIO_s(f:List D->Option (D×D))(i:Nat)(a:EvA)(env:Env):evIO f i a env=rdO env[i]? (kIO f i a env):=by
 unfold evIO rdO kIO ifR;cases env[i]? with
 | none=>rfl
 | some o=>
  cases o with
  | none=>rfl
  | some p=>
   obtain⟨b,d⟩:=p;cases b with
   | false=>rfl
   | true=>
    show bindR (a env) _=bindR (a env) _
    congr 1
    funext ds e
    show _=rdO e[i]? (kIO3 f i ds e);unfold rdO kIO3 ifR;cases e[i]? with
    | none=>rfl
    | some o=>
     cases o with
     | none=>rfl
     | some p=>obtain⟨b,d⟩:=p;cases b<;>rfl
def intR{α:Type}(d:D)(f:Int->R α):R α:=match d with
 | .int i=>f i
 | _=>.stuck
theorem nS{α:Type}(i:Int)(f:Int->R α):intR (.int i) f=f i:=nr rfl
def kP2(e:Env)(i:Int):R (Option Int):=.ok (some i) e
def kP(d:D)(e:Env):R (Option Int):=intR d (kP2 e)
theorem kP2_s(e:Env)(i:Int):kP2 e i = .ok (some i) e:=nr rfl
theorem kP_s(d:D)(e:Env):kP d e=intR d (kP2 e):=nr rfl
theorem evP_s(a:Ev)(env:Env):evP a env=bindR (a env) kP:=nr rfl
def obR{α:Type}(o:Option D)(f:Bool->R α):R α:=match o with
 | some (.bl k)=>f k
 | _=>.stuck
theorem obS{α:Type}(k:Bool)(f:Bool->R α):obR (some (.bl k)) f=f k:=nr rfl
def kCh4(g':D->D->Option D)(v t:D)(e:Env):R D:=liftR (g' v t) e
def kCh3(g':D->D->Option D)(c:Ev)(v:D)(e:Env):R D:=bindR (c e) (kCh4 g' v)
def kCh2b(g':D->D->Option D)(c:Ev)(v:D)(e:Env)(k:Bool):R D:=ifR k (kCh3 g' c v) (okB false) e
def kCh2(g g':D->D->Option D)(c:Ev)(u v:D)(e:Env):R D:=obR (g u v) (kCh2b g' c v e)
def kCh(g g':D->D->Option D)(b c:Ev)(u:D)(e:Env):R D:=bindR (b e) (kCh2 g g' c u)
theorem kCh4_s(g':D->D->Option D)(v t:D)(e:Env):kCh4 g' v t e=liftR (g' v t) e:=nr rfl
theorem kCh3_s(g':D->D->Option D)(c:Ev)(v:D)(e:Env):kCh3 g' c v e=bindR (c e) (kCh4 g' v):=nr rfl
theorem kCh2b_s(g':D->D->Option D)(c:Ev)(v:D)(e:Env)(k:Bool):kCh2b g' c v e k=ifR k (kCh3 g' c v) (okB false) e:=nr rfl
theorem kCh2_s(g g':D->D->Option D)(c:Ev)(u v:D)(e:Env):kCh2 g g' c u v e=obR (g u v) (kCh2b g' c v e):=nr rfl
theorem kCh_s(g g':D->D->Option D)(b c:Ev)(u:D)(e:Env):kCh g g' b c u e=bindR (b e) (kCh2 g g' c u):=nr rfl
theorem evChain_s(g g':D->D->Option D)(a b c:Ev)(env:Env):evChain g g' a b c env=bindR (a env) (kCh g g' b c):=by
 unfold evChain
 congr 1
def retD(o:Out):Option D:=match o with
 | .rt false d _=>some d
 | .nx _=>some .non
 | _=>none
theorem runP_s(n:Nat)(ev:EvS)(ds:List D):runP n ev ds=retD (ev (envOf n ds)):=nr rfl
theorem dRt(d:D)(e:Env):retD (.rt false d e)=some d:=nr rfl
def szR{α:Type}(n:Nat)(x:R α):R α:=if n<=sizeLine then x else .stuck
theorem zR{α:Type}{n:Nat}{x:R α}(h:n<=sizeLine):szR n x=x:=if_pos h
def kTup(ds:List D)(e:Env):R D:=szR ds.length (.ok (.tup ds) e)
theorem kTup_s(ds:List D)(e:Env):kTup ds e=szR ds.length (.ok (.tup ds) e):=nr rfl
theorem evTup_s(r:EvA)(env:Env):evTup r env=bindR (r env) kTup:=nr rfl
def kLst(ds:List D)(e:Env):R D:=szR ds.length (.ok (.lst ds) e)
theorem kLst_s(ds:List D)(e:Env):kLst ds e=szR ds.length (.ok (.lst ds) e):=nr rfl
theorem evLst_s(r:EvA)(env:Env):evLst r env=bindR (r env) kLst:=nr rfl
def lsO(o:Option (Option (Bool×D)))(f:List D->Out):Out:=match o with
 | some (some (true,.lst xs))=>f xs
 | _=>.stuck
theorem lS(xs:List D)(f:List D->Out):lsO (some (some (true,.lst xs))) f=f xs:=nr rfl
def szO(n:Nat)(x:Out):Out:=if n<=sizeLine then x else .stuck
theorem zO{n:Nat}{x:Out}(h:n<=sizeLine):szO n x=x:=if_pos h
def kApp3(i:Nat)(d:D)(e:Env)(xs:List D):Out:=szO (xs.length+1) (.nx (e.set i (some (true,.lst (xs++[d])))))
def kApp2(i:Nat)(d:D)(e:Env):Out:=lsO e[i]? (kApp3 i d e)
def kApp(i:Nat)(a:Ev)(env:Env)(_:List D):Out:=bindO (a env) (kApp2 i)
theorem kApp3_s(i:Nat)(d:D)(e:Env)(xs:List D):kApp3 i d e xs=szO (xs.length+1) (.nx (e.set i (some (true,.lst (xs++[d]))))):=nr rfl
theorem kApp2_s(i:Nat)(d:D)(e:Env):kApp2 i d e=lsO e[i]? (kApp3 i d e):=nr rfl
theorem kApp_s(i:Nat)(a:Ev)(env:Env)(xs:List D):kApp i a env xs=bindO (a env) (kApp2 i):=nr rfl
theorem stApp_s(i:Nat)(a:Ev)(env:Env):stApp i a env=lsO env[i]? (kApp i a env):=nr rfl
theorem itD_t(xs:List D):itD (.tup xs)=some xs:=nr rfl
theorem itD_s(x:List Nat):itD (.str x)=some (sgs x):=nr rfl
theorem gSlT_cut(xs:List D)(lo hi:Option Int):gSlT (.tup xs) lo hi=some (.tup (cutD xs lo hi)):=by
 show(if HT.sIx xs.length 0 lo=0/\HT.sIx xs.length xs.length hi=xs.length then some (D.tup xs) else some (D.tup (cutD xs lo hi)))=_;split
 ·rename_i h;unfold cutD;rw[h.1,h.2];simp
 ·rfl
theorem cutD_to{α:Type}(xs:List α)(k:Nat):cutD xs none (some (k:Int))=xs.take k:=by
 unfold cutD;rw[HT.sIx_nat];have:HT.sIx xs.length 0 none=0:=rfl;rw[this,List.drop_zero,Nat.sub_zero];by_cases h:k<=xs.length
 ·rw[Nat.min_eq_left h]
 ·rw[Nat.min_eq_right (by omega),Qjz (Qqy _),Qjz (by omega)]
theorem gIx_t(xs:List D)(k:Int):gIx (.tup xs) (.int k)=atI xs k:=nr rfl
theorem gIx_l(xs:List D)(k:Int):gIx (.lst xs) (.int k)=atI xs k:=nr rfl
theorem at0{α:Type}(x:α)(r:List α):atI (x::r) 0=some x:=atI_nat (j:=0) rfl
theorem at1{α:Type}(x y:α)(r:List α):atI (x::y::r) 1=some y:=atI_nat (j:=1) rfl
theorem atN{α:Type}(xs:List α)(k:Nat):atI xs (k:Int)=xs[k]?:=by
 cases h:xs[k]? with
 | some x=>exact atI_nat h
 | none=>
  have hl:xs.length<=k:=List.getElem?_eq_none_iff.mp h;unfold atI ixN;rw[if_pos (Int.natCast_nonneg k),if_neg (by omega)]
  rfl
theorem gAdd_i(i j:Int):gAdd (.int i) (.int j)=some (.int (i+j)):=nr rfl
theorem gLen_s(x:List Nat):gLen [.str x]=some (.int x.length):=nr rfl
theorem gLen_t(x:List D):gLen [.tup x]=some (.int x.length):=nr rfl
theorem gTuple_l(x:List D):gTuple [.lst x]=some (.tup x):=nr rfl
theorem gNe_s(a b:List Nat):gNe (.str a) (.str b)=some (.bl (!(a == b))):=nr rfl
theorem gEq_i(a b:Int):gEq (.int a) (.int b)=some (.bl (a == b)):=nr rfl
theorem gLe_i(a b:Int):gLe (.int a) (.int b)=some (.bl (decide (a<=b))):=nr rfl
theorem gGt_i(a b:Int):gGt (.int a) (.int b)=some (.bl (decide (b<a))):=nr rfl
theorem gLt_s(a b:List Nat):gLt (.str a) (.str b)=some (.bl (decide (a<b))):=nr rfl
theorem gSub_i(a b:Int):gSub (.int a) (.int b)=some (.int (a - b)):=nr rfl
theorem gIn_c(c:Nat)(z:List Nat):gIn (.str [c]) (.str z)=some (.bl (decide (c∈z))):=nr rfl
theorem blsM{α:Type}(p:α->Bool):∀l:List α,blsOf (l.map λa=>D.bl (p a))=some (l.map p)
 | []=>rfl
 | a::l=>by
  rw[Qq9];unfold blsOf;rw[blsM p l]
  rfl
theorem gAllM{α:Type}(p:α->Bool)(l:List α):gAll [.lst (l.map λa=>D.bl (p a))]=some (.bl (l.all p)):=by show(blsOf _).map _=_;rw[blsM];simp[List.all_map]
theorem stepsN(n:Nat):stepsI 0 1 n=(List.range n).map λ(i:Nat)=>D.int (i:Int):=by
 unfold stepsI;apply Qj3;intro i _
 congr 1
 omega
theorem rng1{n:Nat}(h:n<2^62):rngD [.int (n:Int)]=some ((List.range n).map λ(i:Nat)=>D.int (i:Int)):=by
 have hf:rngFits (n:Int)=true:=by unfold rngFits;simp only[Qwv,decide_eq_true_eq];omega
 show(if rngFits (n:Int)=true then some (stepsI 0 1 (n:Int).toNat) else none)=_;rw[if_pos hf,Qj9,stepsN]
def kRet(d:D)(e:Env):Out:=.rt false d e
theorem kRet_s(d:D)(e:Env):kRet d e = .rt false d e:=nr rfl
theorem stRet_s(a:Ev)(env:Env):stRet a env=bindO (a env) kRet:=nr rfl
def kAsg(g:GV)(d:D)(e:Env):Out:=liftO (g d e)
theorem kAsg_s(g:GV)(d:D)(e:Env):kAsg g d e=liftO (g d e):=nr rfl
theorem stAsg_s(a:Ev)(g:GV)(env:Env):stAsg a g env=bindO (a env) (kAsg g):=nr rfl
def kOwn(i:Nat)(d:D)(e:Env):Out:=.nx (e.set i (some (true,d)))
theorem kOwn_s(i:Nat)(d:D)(e:Env):kOwn i d e = .nx (e.set i (some (true,d))):=nr rfl
theorem stOwn_s(i:Nat)(a:Ev)(env:Env):stOwn i a env=bindO (a env) (kOwn i):=nr rfl
theorem stNext_s(env:Env):stNext env = .nx env:=nr rfl
theorem stFor_s(it:EvA)(g:GV)(b:EvS)(env:Env):stFor it g b env=bindO (it env) (forO g b):=nr rfl
theorem evC_s(d:D)(env:Env):evC d env = .ok d env:=nr rfl
theorem evNil_s(env:Env):evNil env = .ok [] env:=nr rfl
theorem evNoP_s(env:Env):evNoP env = .ok none env:=nr rfl
def kCons2(d:D)(ds:List D)(e:Env):R (List D):=.ok (d::ds) e
def kCons(r:EvA)(d:D)(e:Env):R (List D):=bindR (r e) (kCons2 d)
theorem kCons2_s(d:D)(ds:List D)(e:Env):kCons2 d ds e = .ok (d::ds) e:=nr rfl
theorem kCons_s(r:EvA)(d:D)(e:Env):kCons r d e=bindR (r e) (kCons2 d):=nr rfl
theorem evCons_s(a:Ev)(r:EvA)(env:Env):evCons a r env=bindR (a env) (kCons r):=nr rfl
def kBin2(g:D->D->Option D)(x y:D)(e:Env):R D:=liftR (g x y) e
def kBin(g:D->D->Option D)(b:Ev)(x:D)(e:Env):R D:=bindR (b e) (kBin2 g x)
theorem kBin2_s(g:D->D->Option D)(x y:D)(e:Env):kBin2 g x y e=liftR (g x y) e:=nr rfl
theorem kBin_s(g:D->D->Option D)(b:Ev)(x:D)(e:Env):kBin g b x e=bindR (b e) (kBin2 g x):=nr rfl
theorem evBin_s(g:D->D->Option D)(a b:Ev)(env:Env):evBin g a b env=bindR (a env) (kBin g b):=nr rfl
def kUn{α β:Type}(g:α->Option β)(x:α)(e:Env):R β:=liftR (g x) e
theorem kUn_s{α β:Type}(g:α->Option β)(x:α)(e:Env):kUn g x e=liftR (g x) e:=nr rfl
theorem evUn_s(g:D->Option D)(a:Ev)(env:Env):evUn g a env=bindR (a env) (kUn g):=nr rfl
theorem evCall_s(g:List D->Option D)(a:EvA)(env:Env):evCall g a env=bindR (a env) (kUn g):=nr rfl
def kNotT(b:Bool)(e:Env):R Bool:=.ok (!b) e
theorem kNotT_s(b:Bool)(e:Env):kNotT b e = .ok (!b) e:=nr rfl
theorem evNotT_s(a:EvT)(env:Env):evNotT a env=bindR (a env) kNotT:=nr rfl
def kSl3(s:D->Option Int->Option Int->Option D)(d:D)(l u:Option Int)(e:Env):R D:=liftR (s d l u) e
def kSl2(s:D->Option Int->Option Int->Option D)(hi:EvP)(d:D)(l:Option Int)(e:Env):R D:=bindR (hi e) (kSl3 s d l)
def kSl(s:D->Option Int->Option Int->Option D)(lo hi:EvP)(d:D)(e:Env):R D:=bindR (lo e) (kSl2 s hi d)
theorem kSl3_s(s:D->Option Int->Option Int->Option D)(d:D)(l u:Option Int)(e:Env):kSl3 s d l u e=liftR (s d l u) e:=nr rfl
theorem kSl2_s(s:D->Option Int->Option Int->Option D)(hi:EvP)(d:D)(l:Option Int)(e:Env):kSl2 s hi d l e=bindR (hi e) (kSl3 s d l):=nr rfl
theorem kSl_s(s:D->Option Int->Option Int->Option D)(lo hi:EvP)(d:D)(e:Env):kSl s lo hi d e=bindR (lo e) (kSl2 s hi d):=nr rfl
theorem evIt_s(a:Ev)(env:Env):evIt a env=bindR (a env) (kUn itD):=nr rfl
theorem evRng_s(a:EvA)(env:Env):evRng a env=bindR (a env) (kUn rngD):=nr rfl
theorem gvName_s(i:Nat)(d:D)(env:Env):gvName i d env=some (env.set i (some (false,d))):=nr rfl
theorem gt0{α:Type}(a:α)(l:List α):(a::l)[0]? = some a:=nr rfl
theorem gtS{α:Type}(a:α)(l:List α)(i:Nat):(a::l)[i+1]? = l[i]?:=nr rfl
theorem st0{α:Type}(a b:α)(l:List α):(a::l).set 0 b=b::l:=nr rfl
theorem stS{α:Type}(a b:α)(l:List α)(i:Nat):(a::l).set (i+1) b=a::l.set i b:=nr rfl
theorem cdF{α:Type}(a b:α):(bif false then a else b)=b:=nr rfl
theorem lcO_p{α:Type}{g:GV}{c:EvT}{e:Ev}(enc:α->D)(ext:α->Env)(p:α->Bool)(out:α->D)(env:Env)(k:Nat):∀(l:List α) (vs:Env),vs.length=k->
  (∀a∈l,(ext a).length=k/\(∀vs:Env,vs.length=k->g (enc a) (env++vs)=some (env++ext a))/\c (env++ext a) = .ok (p a) (env++ext a)/\(p a=true->e (env++ext a) = .ok (out a) (env++ext a)))->
  ∃vs',vs'.length=k/\lcO g c e (l.map enc) (env++vs) = .ok ((l.filter p).map out) (env++vs')
 | [],vs,hv,_=>⟨vs,hv,rfl⟩
 | a::l,vs,hv,h=>by
  obtain⟨h1,h2,h3,h4⟩:=h a Qq3;obtain⟨vs',h5,h6⟩:=lcO_p enc ext p out env k l (ext a) h1 λb hb=>h b (Qq4 _ hb);refine⟨vs',h5,?_⟩;rw[Qq9];unfold lcO;rw[h2 vs hv];show bindR (c (env++ext a)) _=_;rw[h3,bR];cases hp:p a with
  | true=>rw[if_pos rfl,h4 hp,bR,h6,bR,List.filter_cons_of_pos hp,Qq9]
  | false=>rw[if_neg Qxk,h6,List.filter_cons_of_neg (by rw[hp];exact Qxk)]
theorem evLC_p{α:Type}{lo n:Nat}{it:EvA}{g:GV}{c:EvT}{e:Ev}{env env1:Env}(l:List α)(enc:α->D)(ext:α->Env)(p:α->Bool)(out:α->D)(hit:it env = .ok (l.map enc) env1)(hlo:env1.length=lo)
  (h:∀a∈l,(ext a).length=n - lo/\(∀vs:Env,vs.length=n - lo->g (enc a) (env1++vs)=some (env1++ext a))/\c (env1++ext a) = .ok (p a) (env1++ext a)/\(p a=true->e (env1++ext a) = .ok (out a) (env1++ext a)))
  (hz:l.length<=sizeLine):evLC lo n it g c e env = .ok (.lst ((l.filter p).map out)) env1:=by
 obtain⟨vs',h5,h6⟩:=lcO_p enc ext p out env1 (n - lo) l (List.replicate (n - lo) none) Qx4 h;have:=evLC_eq hit hlo h6 (Qq2 (by rw[Qqx];exact List.length_filter_le _ _) hz);rw[this,<-hlo,List.take_left]
theorem evLC_1{α:Type}{lo n:Nat}{it:EvA}{e:Ev}{env env1:Env}(l:List α)(enc:α->D)(out:α->D)(hit:it env = .ok (l.map enc) env1)(hlo:env1.length=lo)(hn:n=lo+1)
  (h:∀a∈l,e (env1++[some (false,enc a)]) = .ok (out a) (env1++[some (false,enc a)])) (hz:l.length<=sizeLine):evLC lo n it (gvName lo) evTrue e env = .ok (.lst (l.map out)) env1:=by
 subst hn hlo;have:=evLC_p (lo:=env1.length) (n:=env1.length+1) (it:=it) (g:=gvName env1.length) (c:=evTrue) (e:=e) (env:=env) l enc (λa=>[some (false,enc a)]) (λ_=>true) out hit rfl (λa ha=>⟨by simp,λvs hv=>?_,rfl,λ_=>h a ha⟩) hz
 ·rw[this,List.filter_eq_self.mpr (λ_ _=>rfl)]
 ·have hv:vs.length=1:=by omega
  obtain⟨v,rfl⟩:=List.length_eq_one_iff.mp hv;unfold gvName;rw[List.set_append_right _ _ (Qqy _),Nat.sub_self]
  rfl
open PySem PySem.Spec PyProof.Rows L2
section
variable{X:Cx}{C:Cfg}{pos:Pos}{x:Expr}{a:Ev}
def gSlA:D->Option Int->Option Int->Option D
 | .str z,lo,hi=>some (.str (cutD z lo hi))
 | .tup xs,lo,hi=>some (.tup (cutD xs lo hi))
 | .lst xs,lo,hi=>some (.lst (cutD xs lo hi))
 | .arr xs,lo,hi=>some (.lst (cutD xs lo hi))
 | _,_,_=>none
def evSlA(a:Ev)(lo hi:EvP):Ev:=λenv=>bindR (a env) λd env1=>bindR (lo env1) λl env2=>bindR (hi env2) λu env3=>liftR (gSlA d l u) env3
theorem gSlA_l(z:List D)(lo hi:Option Int):gSlA (.lst z) lo hi=some (.lst (cutD z lo hi)):=nr rfl
theorem evSlA_s(a:Ev)(lo hi:EvP)(env:Env):evSlA a lo hi env=bindR (a env) (kSl gSlA lo hi):=nr rfl
end
structure SX(X:Cx)(C:Cfg)(e:Expr)(ev:Ev):Prop where
 u:Ev.PX X C e ev
structure SXB(X:Cx)(C:Cfg)(e:Expr)(ev:Ev):Prop where
 u:Ev.PXB X C e ev
structure SXN(X:Cx)(C:Cfg)(e:Expr)(ev:Ev):Prop where
 u:Ev.PXN X C e ev
structure SXT(X:Cx)(C:Cfg)(e:Expr)(ev:EvT):Prop where
 u:Ev.PXT X C e ev
structure SXW(X:Cx)(C:Cfg)(e:Expr)(ev:EvT):Prop where
 u:Ev.PXW X C e ev
structure SXA(X:Cx)(C:Cfg)(e:List Expr)(ev:EvA):Prop where
 u:Ev.PXA X C e ev
structure SXAB(X:Cx)(C:Cfg)(e:List Expr)(ev:EvA):Prop where
 u:Ev.PXAB X C e ev
structure SXL(X:Cx)(C:Cfg)(e:List Expr)(ev:EvA):Prop where
 u:Ev.PXL X C e ev
structure SXS(X:Cx)(C:Cfg)(e:Stmt)(ev:EvS):Prop where
 u:Ev.PXS X C e ev
structure SXSs(X:Cx)(C:Cfg)(e:List Stmt)(ev:EvS):Prop where
 u:Ev.PXSs X C e ev
structure SXIf(X:Cx)(C:Cfg)(e:List Expr)(ev:EvT):Prop where
 u:Ev.PXIf X C e ev
structure SXP(X:Cx)(C:Cfg)(e:Option Expr)(ev:EvP):Prop where
 u:Ev.PXP X C e ev
structure SXI(X:Cx)(C:Cfg)(tg e:Expr)(ev:EvA):Prop where
 u:Ev.PXI X C tg e ev
structure SXG(X:Cx)(C:Cfg)(lo:Nat)(e:Expr)(ev:GV):Prop where
 u:Ev.PXG X C lo e ev
structure SXGs(X:Cx)(C:Cfg)(lo:Nat)(e:List Expr)(ev:GVs):Prop where
 u:Ev.PXGs X C lo e ev
section
variable{X:Cx}{C:Cfg}{pos p px:Pos}{x y z:Expr}{a b c:Ev}{t u:EvT}{i:Nat}{n:Str}{e:Expr}{es:List Expr}{ea:EvA}{p2 pos2:Pos}
theorem pxa_consQ{e:Expr}{es:List Expr}{a:Ev}{r:EvA}(ha:SX X C e a)(hr:SXA X C es r)(hs:starEach (e::es) X.env=(false,eval e X.env)::starEach es X.env:=by rfl):SXA X C (e::es) (evCons a r):=⟨Ev.pxa_cons ha.u hr.u hs⟩
theorem x_varQ(i:Nat)(hN:X.N[i]? = some n:=by rfl)(hv:Vis X.env.scope n:=by first|exact Or.inl rfl|exact Or.inr (Or.inl rfl)|exact Or.inr (Or.inr rfl))(hd:nDb n:=by decide)(hcd:nCd n:=by decide):SX X C (.Name n pos) (evVar i):=⟨px_var i hN hv hd hcd⟩
theorem pvQ{X:Cx}{C:Cfg}{n:Str}{pos:Pos}{es:List Expr}{r:EvA}(i:Nat)(hr:SXA X C es r)(hN:X.N[i]? = some n:=by rfl)(hv:Vis X.env.scope n:=by first|exact Or.inl rfl|exact Or.inr (Or.inl rfl)|exact Or.inr (Or.inr rfl))(hd:nDb n:=by decide)(hcd:nCd n:=by decide)(hs:starEach (.Name n pos::es) X.env=(false,eval (.Name n pos) X.env)::starEach es X.env:=by rfl):SXA X C (.Name n pos::es) (evCons (evVar i) r):=pxa_consQ (x_varQ i hN hv hd hcd) hr hs
theorem pxa_nilQ  : SXA X C [] evNil:=⟨Ev.pxa_nil ⟩
theorem PX_bQ{e:Expr}{ev:Ev}(h:SX X C e ev):SXB X C e ev:=⟨Ev.PX.b h.u⟩
theorem px_intQ{i:Int}{j:Nat}:SX X C (.Constant (.int i) j pos) (evC (.int i)):=⟨Ev.px_int ⟩
theorem pxss_consQ{st:Stmt}{rest:List Stmt}{a b:EvS}(h1:SXS X C st a)(h2:SXSs X C rest b):SXSs X C (st::rest) (stSeq a b):=⟨(pss_cons h1.u h2.u).imp λD σ H h=>by
 obtain⟨Pr,F,env,r,f⟩:=h;refine⟨Pr,F,env,r,?_⟩;unfold stSeq at f;cases e:a env with
 | nx e1=>rw[e] at f;exact λσ' H' F' r' s'=>⟨Pr,F',e1,r',f.mono s'⟩
 | rt o d e1=>rw[e] at f;cases o<;>exact f
 | bk e1=>rw[e] at f;exact f
 | ct e1=>rw[e] at f;exact f
 | stuck=>rw[e] at f;exact f⟩
theorem pxss_oneQ{st:Stmt}{a:EvS}(h1:SXS X C st a):SXSs X C [st] a:=⟨pss_one h1.u⟩
theorem g_nameQ{lo:Nat}(i:Nat)(hnd:nodupB X.N=true:=by rfl)(hlo:Nat.ble lo i=true:=by rfl)(hfx:C.fx i=none:=by rfl)(hi:X.N[i]? = some n:=by rfl)(hx:Loc X.env.scope n:=by first|exact Or.inl rfl|exact Or.inr rfl)(hf:X.fn n=true\/X.env.scope.names.lookup n=some .local:=by first|exact .inl rfl|exact .inr rfl):SXG X C lo (.Name n pos) (gvName i):=⟨pxg_name (nodupB_ok hnd) hi hx (Qjv hlo) hfx hf⟩
theorem px_strQ(z:List Nat){x:Str}{j:Nat}(hz:x=strOf z:=by decide +kernel)(hl:z.length<=sizeLine:=by decide):SX X C (.Constant (.str x) j pos) (evC (.str z)):=⟨by
 subst hz;refine pe_str.imp λσ H Q h=>?_;obtain⟨Pr,F,env,env',d,r,e,q⟩:=h;cases e;exact q _ _ F r (Same.refl F) ⟨rfl,hl⟩⟩
theorem x_rdQ(i:Nat)(hN:X.N[i]? = some n:=by rfl)(hv:Vis X.env.scope n:=by first|exact Or.inl rfl|exact Or.inr (Or.inl rfl)|exact Or.inr (Or.inr rfl))(hd:nDb n:=by decide)(hcd:nCd n:=by decide):SXB X C (.Name n pos) (evRd i):=⟨pxb_var i hN hv hd hcd⟩
theorem s_setQ{pos':Pos}(i:Nat)(he:SX X C e a)(hnd:nodupB X.N=true:=by rfl)(hfx:C.fx i=none:=by rfl)(hi:X.N[i]? = some n:=by rfl)(hx:Loc X.env.scope n:=by first|exact Or.inl rfl|exact Or.inr rfl)(hs:swapsWith e (some (.Name n pos')) pos.line X.env=pure false:=by rfl)(hf:X.fn n=true\/X.env.scope.names.lookup n=some .local:=by first|exact .inl rfl|exact .inr rfl):SXS X C (.Assign [.Name n pos'] e pos) (stAsg a (gvName i)):=⟨pxs_set (nodupB_ok hnd) hi hx hfx he.u hs hf⟩
theorem pxs_retQ{e:Expr}{a:Ev}(h:SX X C e a):SXS X C (.Return (some e) pos) (stRet a):=⟨(ps_ret h.u).imp λD σ H hq=>by
 obtain⟨Pr,F,env,r,f⟩:=hq;obtain⟨d,env1,e1,f1⟩:=bindO_fin f;exact⟨Pr,F,env,env1,d,r,e1,λv H1 F1 r1 s1 p1=>f1 v σ H1 F1 r1 s1 p1⟩⟩
theorem pxab_oneQ{e:Expr}{a:Ev}(h:SXB X C e a)(hs:sEn e X.env:=by rfl):SXAB X C [e] (evCons a evNil):=⟨(pa_cons h.u pa_nil hs).imp λσ H Q hq=>by
 obtain⟨Pr,F,env,env',ds,rl,e,q⟩:=hq;obtain⟨d1,env1,e1,e2⟩:=bindR_ok e;cases e2;exact⟨Pr,F,env,env',d1,rl,e1,λv H1 F1 r1 s1 p1=>q _ H1 F1 r1 s1 ⟨v,[],rfl,p1,rfl⟩⟩⟩
theorem x_ownQ{k k':Nat}{m:Nat}{ps:List Str}{g:List D->Option D}(O:Own X.prog X.w X.K X.mg X.base n k ps (spP X.K m g))(G:Good X C)(hr:Room k' X.A)(ha:SXA X C (e::es) ea)(hn:∀env ds env',ea env = .ok ds env'->ds.length=m)(hk:Nat.ble k k'=true:=by rfl)(hg:Gl X n:=by rfl)(hdb:nDb n:=by decide)(he:starEach (e::es) X.env=(false,eval e X.env)::starEach es X.env:=by rfl)(hpl:(backTo pos (starEach es X.env)).any (·.1)=false:=by rfl):SX X C (.Call (.Name n p) (e::es) [] pos) (evCall g ea):=⟨by
 obtain⟨f,fd,h1,h2,h3,h4⟩:=O;rw[G.K] at h1;have h1':FnOk X.prog X.w X.K X.mg X.base CX0 k f fd ps (spP C.K m g):=by rw[G.K];exact h1
 exact px_own h1' (hr.mono (Qjv hk)) hg h2 h3 h4 ha.u hn hdb he hpl⟩
theorem px_tupQ{es:List Expr}{r:EvA}{k:Nat}(h:SXA X C es r):SX X C (.Tuple es k pos) (evTup r):=⟨(pe_tup h.u).imp λσ H Q hq=>by
 obtain⟨Pr,F,env,env',d,rl,e,q⟩:=hq;obtain⟨ds,env1,e1,e2⟩:=bindR_ok e;split at e2
 ·rename_i hz;cases e2;refine⟨Pr,F,env,env',ds,rl,e1,λvs H1 F1 r1 s1 p1=>⟨by rw[p1.length];exact hz,λp hp=>?_⟩⟩;obtain⟨r2,s2⟩:=r1.new (o:=.tup vs) hp;exact q _ _ _ r2 (s1.trans s2) ⟨hz,p,vs,rfl,SqT.of upd_same,Reps.mono s2 _ _ p1⟩
 ·cases e2⟩
theorem pxgs_consQ{lo:Nat}{e:Expr}{es:List Expr}{g:GV}{gs:GVs}(h1:SXG X C lo e g)(h2:SXGs X C lo es gs)(hs:(assignEach (e::es) X.env).map (·.2)=assign e X.env::(assignEach es X.env).map (·.2):=by rfl):SXGs X C lo (e::es) (gvCons g gs):=⟨(pgs_cons h1.u h2.u hs).imp λv σ H Q h=>by
 obtain⟨Pr,F,env,env',ds,r,p,e,q⟩:=h;cases ds with
 | nil=>cases e
 | cons d ds=>
  obtain⟨u,w,rfl,p1,p2⟩:=p;obtain⟨env1,e1,e2⟩:=Qx5.mp e;refine⟨u,w,rfl,Pr,F,env,env1,d,r,p1,e1,λσ1 H1 F1 r1 s1 t1=>?_⟩;exact⟨Pr,F1,env1,env',ds,r1,Reps.mono s1 _ _ p2,e2,λσ2 H2 F2 r2 s2 t2=>q σ2 H2 F2 r2 (s1.trans s2) (t2.trans t1)⟩⟩
theorem PXN_pxQ{e:Expr}{ev:Ev}(h:SXN X C e ev):SX X C e ev:=⟨Ev.PXN.px h.u⟩
theorem x_ixOQ(i:Nat)(G:Good X C)(hb:SXB X C y b)(hN:X.N[i]? = some n:=by rfl)(hv:Vis X.env.scope n:=by first|exact Or.inl rfl|exact Or.inr (Or.inl rfl)|exact Or.inr (Or.inr rfl))(hs:PlainIx y:=by intro _ _;rfl)(hd:nDb n:=by decide)(hcd:nCd n:=by decide):SX X C (.Subscript (.Name n px) y pos) (evBinO gIx i b):=⟨px_ixO i G.K hN hv hb.u hs hd hcd⟩
theorem x_ioQ{k k':Nat}{m:Nat}{ps:List Str}{g:List D->Option (D×D)}{v:Str}{pv:Pos}(i:Nat)(O:Own X.prog X.w X.K X.mg X.base n k ps (spIO X.K m g))(G:Good X C)(hr:Room k' X.A)(ha:SXA X C es ea)(hn:∀env ds env',ea env = .ok ds env'->ds.length+1=m)(hk:Nat.ble k k'=true:=by rfl)(hN:X.N[i]? = some v:=by rfl)(hv:Vis X.env.scope v:=by first|exact Or.inl rfl|exact Or.inr (Or.inl rfl)|exact Or.inr (Or.inr rfl))(hg:Gl X n:=by rfl)(hdb:nDb n:=by decide)(he:starEach (.Name v pv::es) X.env=(false,eval (.Name v pv) X.env)::starEach es X.env:=by rfl)(hpl:(backTo pos (starEach es X.env)).any (·.1)=false:=by rfl)(hd:nDb v:=by decide)(hcd:nCd v:=by decide):SX X C (.Call (.Name n p) (.Name v pv::es) [] pos) (evIO g i ea):=⟨by
 obtain⟨f,fd,h1,h2,h3,h4⟩:=O;rw[G.K] at h1;have h1':FnOk X.prog X.w X.K X.mg X.base CX0 k f fd ps (spIO C.K m g):=by rw[G.K];exact h1
 exact px_io hN hv h1' (hr.mono (Qjv hk)) hg h2 h3 h4 ha.u hn hdb he hpl hd hcd⟩
theorem x_binQ{op:Operator}{g:D->D->Option D}(o:Bi X C op g)(ha:SX X C x a)(hb:SXB X C y b):SX X C (.BinOp x op y pos) (evBin g a b):=⟨let ⟨_,h1,h2⟩:=o.ex;px_op h1 h2 ha.u hb.u⟩
theorem pxl_consQ{e:Expr}{es:List Expr}{a:Ev}{r:EvA}(ha:SX X C e a)(hr:SXL X C es r)(hs:starEach (e::es) X.env=(false,eval e X.env)::starEach es X.env:=by rfl):SXL X C (e::es) (evCons a r):=⟨⟨Ev.pxa_cons ha.u hr.u.go hs⟩⟩
theorem x_binOQ{op:Operator}{g:D->D->Option D}(i:Nat)(o:Bi X C op g)(hb:SXB X C y b)(hN:X.N[i]? = some n:=by rfl)(hv:Vis X.env.scope n:=by first|exact Or.inl rfl|exact Or.inr (Or.inl rfl)|exact Or.inr (Or.inr rfl))(hd:nDb n:=by decide)(hcd:nCd n:=by decide):SX X C (.BinOp (.Name n px) op y pos) (evBinO g i b):=⟨let ⟨_,h1,h2⟩:=o.ex;px_opO i hN hv h1 h2 hb.u hd hcd⟩
theorem pxs_ifQ{c:Expr}{a b:List Stmt}{t:EvT}{ea eb:EvS}(hc:SXT X C c t)(ha:SXSs X C a ea)(hb:SXSs X C b eb):SXS X C (.If c a b pos) (stIf t ea eb):=⟨(ps_if hc.u ha.u hb.u).imp λD σ H h=>by
 obtain⟨Pr,F,env,r,f⟩:=h;obtain⟨k,env1,e1,f1⟩:=bindO_fin f;refine⟨Pr,F,env,env1,k,r,e1,λH1 F1 r1 s1=>?_⟩;split at f1
 ·rename_i hk;rw[if_pos hk];exact⟨Pr,F1,env1,r1,f1.mono s1⟩
 ·rename_i hk;rw[if_neg hk];exact⟨Pr,F1,env1,r1,f1.mono s1⟩⟩
theorem pxn_lstQ{es:List Expr}{r:EvA}(h:SXA X C es r):SXN X C (.List es pos) (evLst r):=⟨Ev.pxn_lst h.u⟩
theorem pxss_nilQ  : SXSs X C [] stNext:=⟨Ev.pxss_nil ⟩
theorem i_seqQ{tg:Expr}(G:Good X C)(h:SX X C x a):SXI X C tg x (evIt a):=⟨pxi_seq G.K h.u⟩
theorem px_blQ{b:Bool}{j:Nat}:SX X C (.Constant (.bool b) j pos) (evC (.bl b)):=⟨Ev.px_bl ⟩
theorem n_lcQ{elt tg iter:Expr}{ifs:List Expr}{scope:Scope}(N':List Str){it:EvA}{g:GV}{cc:EvT}{ee:Ev}(lo:Nat)(ok:CompOk X scope N')(G:Good X C)(hi:SXI X C tg iter it)(bg:∀X',CxAt X scope N' X'->SXG X' C lo tg g)(bc:∀X',CxAt X scope N' X'->SXIf X' C ifs cc)(be:∀X',CxAt X scope N' X'->SX X' C elt ee)(hs:∀x,foldedSetIterable iter X.env x=pure x:=by intro _;rfl):SXN X C (.ListComp elt [⟨tg,iter,ifs,0⟩] scope pos) (evLC lo N'.length it g cc ee):=⟨Ev.n_lc N' lo ok G hi.u (λX1 h1=>(bg X1 h1).u) (λX1 h1=>(bc X1 h1).u) (λX1 h1=>(be X1 h1).u) hs⟩
theorem x_lenQ(G:Good X C)(hm:X.mg "len" = none)(ha:SXAB X C [e] ea)(hg:Gl X "len":=by rfl)(he:sEn e X.env:=by rfl):SX X C (.Call (.Name "len" p) [e] [] pos) (evCall gLen ea):=⟨px_callB (by rw[<-G.K];exact call_len) cd_len hg hm PySem.boot_len ha.u (by decide) (by decide) he rfl⟩
theorem pxt_valQ{e:Expr}{a:Ev}(h:SX X C e a)(he:∀whole,isTrue e X.env whole=(do let v <-whole;standAt e.pos;holding [v] (truthy v)):=by intro _;rfl):SXT X C e (evB a):=⟨(pt_val h.u he).imp λσ H Q hq=>tB_go hq⟩
theorem pxgs_nilQ{lo:Nat}:SXGs X C lo [] gvNil:=⟨Ev.pxgs_nil ⟩
theorem g_tupQ{lo:Nat}{k:Nat}{gs:GVs}{m:Nat}(G:Good X C)(h:SXGs X C lo es gs)(hn:(assignEach es X.env).length=m:=by rfl)(hst:(assignEach es X.env).findIdx? (·.1)=none:=by rfl):SXG X C lo (.Tuple es k pos) (gvTup m gs):=⟨pxg_tup G.calm G.K h.u hn hst⟩
theorem pxif_nilQ{X:Cx}{C:Cfg}:SXIf X C [] evTrue:=⟨Ev.pxif_nil ⟩
theorem s_forQ{tg iter:Expr}{body:List Stmt}{it:EvA}{g:GV}{bs:EvS}(G:Good X C)(hi:SXI X C tg iter it)(hg:SXG X C 0 tg g)(hb:SXSs X C body bs)(hp:PassesOwn (model X.prog X.w) X.A X.env X.xe:=by exact PassesOwn.never)(hs:∀x,foldedSetIterable iter X.env x=pure x:=by intro _;rfl):SXS X C (.For tg iter body [] pos) (stFor it g bs):=⟨pxs_for hp G.calm hi.u hg.u hb.u hs⟩
theorem t_cmpQ{op:CmpOp}{g:D->D->Option D}(o:Cm X C op g)(ha:SX X C x a)(hb:SXB X C y b)(hm:behindInMarks op y=false:=by rfl):SXT X C (.Compare x [op] [y] pos) (evB (evBin g a b)):=⟨let ⟨_,h1,h2⟩:=o.ex;pxt_cmp h1 h2 ha.u hb.u hm⟩
theorem s_ownQ{pos':Pos}(i:Nat)(he:SXN X C e a)(hnd:nodupB X.N=true:=by rfl)(hfx:C.fx i=none:=by rfl)(hi:X.N[i]? = some n:=by rfl)(hx:Loc X.env.scope n:=by first|exact Or.inl rfl|exact Or.inr rfl)(hs:swapsWith e (some (.Name n pos')) pos.line X.env=pure false:=by rfl)(hf:X.fn n=true\/X.env.scope.names.lookup n=some .local:=by first|exact .inl rfl|exact .inr rfl):SXS X C (.Assign [.Name n pos'] e pos) (stOwn i a):=⟨pxs_own (nodupB_ok hnd) hi hx hfx he.u hs hf⟩
theorem x_tupleQ(G:Good X C)(hm:X.mg "tuple" = none)(ha:SXAB X C [e] ea)(hg:Gl X "tuple":=by rfl)(he:sEn e X.env:=by rfl):SX X C (.Call (.Name "tuple" p) [e] [] pos) (evCall gTuple ea):=⟨px_callTy (T:="tuple") (r:=rTuple C.K) (by rw[<-G.K];exact call_tuple_of) cd_tuple hg hm (by decide +kernel) ha.u (by decide) (by decide) he rfl⟩
theorem x_ixQ(G:Good X C)(ha:SX X C x a)(hb:SXB X C y b)(hs:PlainIx y:=by intro _ _;rfl):SX X C (.Subscript x y pos) (evBin gIx a b):=⟨px_ix G.K ha.u hb.u hs⟩
theorem t_cmpOQ{op:CmpOp}{g:D->D->Option D}(i:Nat)(o:Cm X C op g)(hb:SXB X C y b)(hN:X.N[i]? = some n:=by rfl)(hv:Vis X.env.scope n:=by first|exact Or.inl rfl|exact Or.inr (Or.inl rfl)|exact Or.inr (Or.inr rfl))(hm:behindInMarks op y=false:=by rfl)(hd:nDb n:=by decide)(hcd:nCd n:=by decide):SXT X C (.Compare (.Name n px) [op] [y] pos) (evB (evBinO g i b)):=⟨by
 obtain⟨r,h1,h2⟩:=o.ex;exact(pt_cmpR h1 (pe_var hN hv hd hcd) hb.u hm).imp λσ H Q h=>binO_go h2 σ H _ (tB_go h)⟩
theorem pxs_asgQ{tg e:Expr}{a:Ev}{g:GV}(he:SX X C e a)(hg:SXG X C 0 tg g)(hs:swapsWithSole [tg] e pos.line X.env=pure false:=by rfl)(hw:swappedStores [tg] e X.env=pure none:=by rfl)(h1:(assignEach [tg] X.env).map (·.2)=[assign tg X.env]:=by rfl):SXS X C (.Assign [tg] e pos) (stAsg a g):=⟨(ps_asg he.u hg.u hs hw h1).imp λD σ H h=>asg_go h⟩
theorem pxp_someQ{e:Expr}{a:Ev}(h:SX X C e a):SXP X C (some e) (evP a):=⟨(po_some h.u).imp λσ H Q hq=>by
 obtain⟨Pr,F,env,env',o,r,e,q⟩:=hq;obtain⟨d,env1,e1,e2⟩:=bindR_ok e;refine⟨Pr,F,env,env1,d,r,e1,λv H1 F1 r1 s1 p1=>?_⟩;cases d with
 | int i=>cases e2;exact⟨i,p1,q H1 F1 r1 s1⟩
 | _=>cases e2⟩
theorem pxt_notQ{x:Expr}{a:EvT}(h:SXT X C x a):SXT X C (.UnaryOp .Not x pos) (evNotT a):=⟨(pt_not h.u).imp λσ H Q hq=>by
 obtain⟨Pr,F,env,env',b,rl,e,q⟩:=hq;obtain⟨c,env1,e1,e2⟩:=bindR_ok e;cases e2;exact⟨Pr,F,env,env',c,rl,e1,λH1 F1 r1 s1=>q H1 F1 r1 s1⟩⟩
theorem PXW_ptQ{e:Expr}{a:EvT}(h:SXW X C e a):SXT X C e a:=⟨Ev.PXW.pt h.u⟩
theorem i_rng1Q{tg:Expr}(hm:X.mg "range" = none)(ha:SXA X C [e] ea)(hl:∀env ds env',ea env = .ok ds env'->ds.length=1)(hg:Gl X "range":=by rfl)(hs:starEach [e] X.env=[(false,eval e X.env)]:=by rfl):SXI X C tg (.Call (.Name "range" p) [e] [] pos) (evRng ea):=⟨pxi_range1 hg hm ha.u hl hs⟩
theorem x_cmpOQ{op:CmpOp}{g:D->D->Option D}(i:Nat)(o:Cm X C op g)(hb:SXB X C y b)(hN:X.N[i]? = some n:=by rfl)(hv:Vis X.env.scope n:=by first|exact Or.inl rfl|exact Or.inr (Or.inl rfl)|exact Or.inr (Or.inr rfl))(hm:behindInMarks op y=false:=by rfl)(hd:nDb n:=by decide)(hcd:nCd n:=by decide):SX X C (.Compare (.Name n px) [op] [y] pos) (evBinO g i b):=⟨by
 obtain⟨r,h1,h2⟩:=o.ex;exact(pe_cmpR h1 (pe_var hN hv hd hcd) hb.u hm).imp (binO_go h2)⟩
theorem px_nonQ{j:Nat}:SX X C (.Constant .none j pos) (evC .non):=⟨Ev.px_non ⟩
theorem pxab_consQ{e:Expr}{es:List Expr}{a:Ev}{r:EvA}(ha:SX X C e a)(hr:SXAB X C es r)(hs:starEach (e::es) X.env=(false,eval e X.env)::starEach es X.env:=by rfl):SXAB X C (e::es) (evCons a r):=⟨(pa_cons ha.u hr.u hs).imp λσ H Q h=>by
  obtain⟨Pr,F,env,env',ds,rl,e,q⟩:=h;obtain⟨d1,env1,e1,e2⟩:=bindR_ok e;obtain⟨ds2,env2,e3,e4⟩:=bindR_ok e2;cases e4;refine⟨Pr,F,env,env1,d1,rl,e1,λv H1 F1 r1 s1 p1=>?_⟩;refine⟨Pr,F1,env1,env',ds2,r1,e3,λvs H2 F2 r2 s2 p2=>?_⟩;exact q _ H2 F2 r2 (s1.trans s2) ⟨v,vs,rfl,.inl (Rep.mono s2 d1 v p1),p2⟩⟩
theorem px_oneQ{op:BoolOp}{x:Expr}{a:Ev}(h:SX X C x a):SX X C (.BoolOp op [x] pos) a:=⟨pe_one h.u⟩
theorem s_appQ{apos cpos:Pos}(i:Nat)(G:Good X C)(he:SX X C e a)(hN:X.N[i]? = some n:=by rfl)(hv:Vis X.env.scope n:=by first|exact Or.inl rfl|exact Or.inr (Or.inl rfl)|exact Or.inr (Or.inr rfl))(hs:swapsWith (.Call (.Attribute (.Name n px) "append" apos) [e] [] cpos) none pos.line X.env=pure false:=by rfl) (hfew:((backTo cpos (starEach [e] X.env)).all (λx=>!x.1)&&(backToKw cpos (keywordEach [] X.env)).all (λx=>x.1.isSome)
   && decide (([e]:List Expr).length+([]:List Keyword).length+(if ([]:List Keyword).isEmpty then 0 else 1)<30))=true:=by rfl) (hbase:attributeBase (.Name n px) "append" X.env (eval (.Name n px) X.env)=eval (.Name n px) X.env:=by rfl) (hline:(apos.endLine == cpos.line)=true:=by rfl) (hst:sEn e X.env:=by rfl) (hplain:(backTo cpos (starEach [] X.env)).any (·.1)=false:=by rfl) (hd:nDb n:=by decide) (hcd:nCd n:=by decide):SXS X C (.Expr (.Call (.Attribute (.Name n px) "append" apos) [e] [] cpos) pos) (stApp i a):=⟨pxs_app hN hv he.u G.K hs hfew hbase hline hst hplain hd hcd⟩
theorem pxp_noneQ  : SXP X C none evNoP:=⟨Ev.pxp_none ⟩
theorem px_andQ{x y:Expr}{rest:List Expr}{a b:Ev}(ha:SX X C x a)(hb:SX X C (.BoolOp .And (y::rest) pos) b):SX X C (.BoolOp .And (x::y::rest) pos) (evAnd a b):=⟨(pe_and ha.u hb.u).imp λσ H Q hq=>by
  obtain⟨Pr,F,env,env',k,rl,e,q⟩:=hq;obtain⟨c,env1,e1,e2⟩:=bindR_ok e;refine⟨Pr,F,env,env1,c,rl,e1,λv H1 F1 r1 s1 p1=>?_⟩;cases c with
  | bl z=>
   refine⟨z,p1,?_⟩;cases z with
   | true=>exact iteT ⟨Pr,F1,env1,env',k,r1,e2,λv2 H2 F2 r2 s2 p2=>q v2 H2 F2 r2 (s1.trans s2) p2⟩
   | false=>cases e2;exact iteF (q _ H1 F1 r1 s1 rfl)
  | _=>cases e2⟩
theorem pxw_orQ{x y:Expr}{rest:List Expr}{a b:EvT}(ha:SXT X C x a)(hb:SXW X C (.BoolOp .Or (y::rest) pos) b):SXW X C (.BoolOp .Or (x::y::rest) pos) (evOrT a b):=⟨(pw_or ha.u hb.u).imp λσ H Q hq=>by
  obtain⟨Pr,F,env,env',k,rl,e,q⟩:=hq;obtain⟨c,env1,e1,e2⟩:=bindR_ok e;refine⟨Pr,F,env,env1,c,rl,e1,λH1 F1 r1 s1=>?_⟩;split at e2
  ·rename_i hc;rw[if_pos hc];cases e2;exact q H1 F1 r1 s1
  ·rename_i hc;rw[if_neg hc];exact⟨Pr,F1,env1,env',k,r1,e2,λH2 F2 r2 s2=>q H2 F2 r2 (s1.trans s2)⟩⟩
theorem x_allQ(G:Good X C)(hm:X.mg "all" = none)(ha:SXAB X C [e] ea)(hg:Gl X "all":=by rfl)(he:sEn e X.env:=by rfl):SX X C (.Call (.Name "all" p) [e] [] pos) (evCall gAll ea):=⟨px_callB (by rw[<-G.K];exact call_all2 G.calm) cd_all hg hm (by decide +kernel) ha.u (by decide) (by decide) he rfl⟩
theorem pxw_or1Q{x:Expr}{a:EvT}(h:SXT X C x a):SXW X C (.BoolOp .Or [x] pos) a:=⟨pw_or1 h.u⟩
theorem px_isiQ{T:String}{xT:Str}{e:Expr}{a:Ev}{p q pos:Pos}(hg:Gl X "isinstance")(hm:X.mg "isinstance" = none)(hgT:Gl X xT)(hmT:X.mg xT=none)(hvT:bootBuiltins xT=some (.type T))(hk:∀d:D,PySem.W.kitOne X.K (.type (tyD d)) (.type T)=some (instD d T))(hK:X.K=C.K)(ha:SX X C e a)(hn:xT ≠ "__name__":=by decide)(hd:nDb xT:=by decide)(he:starEach [e,.Name xT q] X.env=(false,eval e X.env)::starEach [.Name xT q] X.env:=by rfl):SX X C (.Call (.Name "isinstance" p) [e,.Name xT q] [] pos) (evUn (gIsi T) a):=⟨by
 refine(pe_callB (call_isi hk) hg hm boot_isinstance (pa_cons ha.u (pa_cons (pe_bltn (v:=.ty T) hgT hmT hvT rfl hn hd) pa_nil) he) (by decide) (by decide) he rfl).imp λσ H Q h=>?_;obtain⟨Pr,F,env,env',d,rl,e1,qq⟩:=h;obtain⟨d0,env1,e2,e3⟩:=bindR_ok e1;obtain⟨e4,rfl⟩:=liftR_ok e3;obtain⟨nc,rfl⟩:=gIsi_ok e4;refine⟨Pr,F,env,env',d0,rl,e2,λv H1 F1 r1 s1 p1=>⟨d0,v,rfl,nc,?_,qq _ H1 F1 r1 s1 rfl⟩⟩;rw[hK];exact Rep.mono r1.fr d0 v p1⟩
theorem pxif_oneQ{X:Cx}{C:Cfg}{c:Expr}{t:EvT}(h:SXT X C c t):SXIf X C [c] t:=⟨pif_one h.u⟩
theorem n_ownQ{k k':Nat}{m:Nat}{ps:List Str}{g:List D->Option D}(O:Own X.prog X.w X.K X.mg X.base n k ps (spN X.K m g))(G:Good X C)(hr:Room k' X.A)(ha:SXA X C (e::es) ea)(hn:∀env ds env',ea env = .ok ds env'->ds.length=m)(hk:Nat.ble k k'=true:=by rfl)(hg:Gl X n:=by rfl)(hdb:nDb n:=by decide)(he:starEach (e::es) X.env=(false,eval e X.env)::starEach es X.env:=by rfl)(hpl:(backTo pos (starEach es X.env)).any (·.1)=false:=by rfl):SXN X C (.Call (.Name n p) (e::es) [] pos) (evCall g ea):=⟨by
 obtain⟨f,fd,h1,h2,h3,h4⟩:=O;rw[G.K] at h1;have h1':FnOk X.prog X.w X.K X.mg X.base CX0 k f fd ps (spN C.K m g):=by rw[G.K];exact h1
 exact pxn_own h1' (hr.mono (Qjv hk)) hg h2 h3 h4 ha.u hn hdb he hpl⟩
theorem px_globQ{x:Str}{v:V}{u:Value}(d:D)(hg:Gl X x)(hm:X.mg x=some u)(rv:RelV v u)(hr:∀F,Rep C.K F d v)(hd:nDb x:=by decide):SX X C (.Name x pos) (evC d):=⟨(pe_glob hg hm rv hd).imp λσ H Q h=>by
  obtain⟨Pr,F,env,env',d,r,e,q⟩:=h;cases e;exact q _ _ F r (Same.refl F) (hr F)⟩
theorem x_joinQ{o:Expr}{apos cpos:Pos}(G:Good X C)(ho:SX X C o a)(he:SXB X C e b)(hbase:attributeBase o "join" X.env (eval o X.env)=eval o X.env:=by rfl)(hs:sEn e X.env:=by rfl) (hfew:((backTo cpos (starEach [e] X.env)).all (λx=>!x.1)&&(backToKw cpos (keywordEach [] X.env)).all (λx=>x.1.isSome)
   && decide ([e].length+([]:List Keyword).length+(if ([]:List Keyword).isEmpty then 0 else 1)<30))=true:=by rfl) (hline:(apos.endLine == cpos.line)=true:=by rfl) (hplain:(backTo cpos (starEach [] X.env)).any (·.1)=false:=by rfl):SX X C (.Call (.Attribute o "join" apos) [e] [] cpos) (evBin gJoin a b):=⟨px_join G.K ho.u he.u hbase hs hfew hline hplain⟩
theorem x_slQ{lo hi:Option Expr}{el eh:EvP}{p2:Pos}(G:Good X C)(ha:SX X C x a)(hl:SXP X C lo el)(hh:SXP X C hi eh):SX X C (.Subscript x (.Slice lo hi none p2) pos) (evSl a el eh):=⟨px_sl G.K ha.u hl.u hh.u⟩
theorem x_cmpQ{op:CmpOp}{g:D->D->Option D}(o:Cm X C op g)(ha:SX X C x a)(hb:SXB X C y b)(hm:behindInMarks op y=false:=by rfl):SX X C (.Compare x [op] [y] pos) (evBin g a b):=⟨let ⟨_,h1,h2⟩:=o.ex;px_cmp h1 h2 ha.u hb.u hm⟩
theorem pxl_nilQ  : SXL X C [] evNil:=⟨Ev.pxl_nil ⟩
theorem n_lstLQ{es:List Expr}{a:EvA}(h:SXL X C es a):SXN X C (.List es pos) (evLst a):=⟨Ev.pxn_lst h.u.go⟩
theorem x_maxQ{e2:Expr}(G:Good X C)(hm:X.mg "max" = none)(ha:SXAB X C [e,e2] ea)(hg:Gl X "max":=by rfl)(he:starEach [e,e2] X.env=(false,eval e X.env)::starEach [e2] X.env:=by rfl)(hpl:(backTo pos (starEach [e2] X.env)).any (·.1)=false:=by rfl):SX X C (.Call (.Name "max" p) [e,e2] [] pos) (evCall gMax ea):=⟨px_callB (call_max2 G.calm) cd_max hg hm (by decide +kernel) ha.u (by decide) (by decide) he hpl⟩
theorem pxn_dnewQ  : SXN X C (.Dict [] [] pos) evDnew:=⟨Ev.pxn_dnew ⟩
theorem x_minQ{e2:Expr}(G:Good X C)(hm:X.mg "min" = none)(ha:SXAB X C [e,e2] ea)(hg:Gl X "min":=by rfl)(he:starEach [e,e2] X.env=(false,eval e X.env)::starEach [e2] X.env:=by rfl)(hpl:(backTo pos (starEach [e2] X.env)).any (·.1)=false:=by rfl):SX X C (.Call (.Name "min" p) [e,e2] [] pos) (evCall gMin ea):=⟨px_callB (call_min2 G.calm) cd_min hg hm (by decide +kernel) ha.u (by decide) (by decide) he hpl⟩
theorem x_sortedQ(G:Good X C)(hm:X.mg "sorted" = none)(ha:SXAB X C [e] ea)(hg:Gl X "sorted":=by rfl)(he:sEn e X.env:=by rfl):SX X C (.Call (.Name "sorted" p) [e] [] pos) (evCall gSorted ea):=⟨px_sorted G.K G.calm hg hm ha.u he rfl⟩
theorem x_slSQ{lo hi:Option Expr}{el eh:EvP}{p2:Pos}(ha:SX X C x a)(hl:SXP X C lo el)(hh:SXP X C hi eh):SX X C (.Subscript x (.Slice lo hi none p2) pos) (evSlS a el eh):=⟨by
 refine(pe_slice (pos:=pos) (p2:=p2) sl_str ha.u hl.u hh.u).imp λσ H Q hq=>?_;obtain⟨Pr,F,env,env',d,r,e,q⟩:=hq;obtain⟨z,env1,e1,e2⟩:=bindR_ok e;obtain⟨l,env2,e3,e4⟩:=bindR_ok e2;obtain⟨u,env3,e5,e6⟩:=bindR_ok e4;obtain⟨e7,rfl⟩:=liftR_ok e6;cases z with
 | str z=>
  cases e7;refine⟨Pr,F,env,env1,.str z,r,e1,λv H1 F1 r1 s1 p1=>⟨Pr,F1,env1,env2,l,r1,e3,λH2 F2 r2 s2=>⟨Pr,F2,env2,env',u,r2,e5,λH3 F3 r3 s3=>?_⟩⟩⟩;obtain⟨rfl,hz⟩:=p1;exact⟨z,rfl,hz,q _ H3 F3 r3 ((s1.trans s2).trans s3) ⟨rfl,Qq2 (cutN_len _ _ _) hz⟩⟩
 | _=>cases e7⟩
theorem i_rng3Q{tg e2 e3:Expr}(hm:X.mg "range" = none)(ha:SXA X C [e,e2,e3] ea)(hl:∀env ds env',ea env = .ok ds env'->ds.length=3)(hg:Gl X "range":=by rfl)(hs:starEach [e,e2,e3] X.env=[(false,eval e X.env),(false,eval e2 X.env),(false,eval e3 X.env)]:=by rfl)(hs2:starEach [e2,e3] X.env=[(false,eval e2 X.env),(false,eval e3 X.env)]:=by rfl):SXI X C tg (.Call (.Name "range" p) [e,e2,e3] [] pos) (evRng ea):=⟨pxi_range3 hg hm ha.u hl hs hs2⟩
theorem x_listQ(G:Good X C)(hm:X.mg "list" = none)(ha:SXAB X C [e] ea)(hg:Gl X "list":=by rfl)(he:sEn e X.env:=by rfl):SX X C (.Call (.Name "list" p) [e] [] pos) (evCall gList ea):=⟨px_callTy (T:="list") (r:=rList C.K) (by rw[<-G.K];exact call_list2 G.calm) cd_list hg hm (by decide +kernel) ha.u (by decide) (by decide) he rfl⟩
theorem x_divmodQ{e2:Expr}(G:Good X C)(hm:X.mg "divmod" = none)(ha:SXAB X C [e,e2] ea)(hg:Gl X "divmod":=by rfl)(he:starEach [e,e2] X.env=(false,eval e X.env)::starEach [e2] X.env:=by rfl)(hpl:(backTo pos (starEach [e2] X.env)).any (·.1)=false:=by rfl):SX X C (.Call (.Name "divmod" p) [e,e2] [] pos) (evCall gDivmod ea):=⟨px_callB call_divmod cd_divmod hg hm (by decide +kernel) ha.u (by decide) (by decide) he hpl⟩
theorem pxs_retNewQ{e:Expr}{a:Ev}(h:SXN X C e a):SXS X C (.Return (some e) pos) (stRetNew a):=⟨(ps_ret h.u).imp λD σ H hq=>by
 obtain⟨Pr,F,env,r,f⟩:=hq;obtain⟨d,env1,e1,f1⟩:=bindO_fin f;exact⟨Pr,F,env,env1,d,r,e1,λv H1 F1 r1 s1 p1=>f1 v σ H1 F1 r1 s1 p1⟩⟩
theorem g_atQ{lo:Nat}{ix:Expr}{ev:Ev}(i:Nat)(h:SX X C ix ev)(hN:X.N[i]? = some n:=by rfl)(hv:Vis X.env.scope n:=by first|exact Or.inl rfl|exact Or.inr (Or.inl rfl)|exact Or.inr (Or.inr rfl)) (ha:∀v,assign (.Subscript (.Name n px) ix pos) X.env v=(do
   let ov <-holding [v] (eval (.Name n px) X.env)
   let iv <-holding [v,ov] (eval ix X.env)
   standAt pos
   holding [v,ov,iv] (setItem ov iv v)
   release [v,ov,iv] []):=by intro _;rfl) (hd:nDb n:=by decide) (hcd:nCd n:=by decide):SXG X C lo (.Subscript (.Name n px) ix pos) (gvAt i ev):=⟨pxg_at hN hv h.u ha hd hcd⟩
theorem x_slAQ{lo hi:Option Expr}{el eh:EvP}{p2:Pos}(G:Good X C)(ha:SX X C x a)(hl:SXP X C lo el)(hh:SXP X C hi eh):SX X C (.Subscript x (.Slice lo hi none p2) pos) (evSlA a el eh):=⟨by
 have h:=pe_slice (pos:=pos) (p2:=p2) (SlR.or (SlR.or sl_list sl_tup) (SlR.or (SlR.or sl_tup sl_whole) sl_str)) ha.u hl.u hh.u;rw[G.K] at h;refine h.imp λσ H Q hq=>?_;obtain⟨Pr,F,env,env',d,r,e,q⟩:=hq;obtain⟨x,env1,e1,e2⟩:=bindR_ok e;obtain⟨l,env2,e3,e4⟩:=bindR_ok e2;obtain⟨u,env3,e5,e6⟩:=bindR_ok e4;obtain⟨e7,rfl⟩:=liftR_ok e6;refine⟨Pr,F,env,env1,x,r,e1,λv H1 F1 r1 s1 p1=>⟨Pr,F1,env1,env2,l,r1,e3,λH2 F2 r2 s2=>⟨Pr,F2,env2,env',u,r2,e5,λH3 F3 r3 s3=>?_⟩⟩⟩;have p3:=Rep.mono (s2.trans s3) _ _ p1;have q3:∀v H' F',Rel C Pr F' env' σ H'->Same F3 F'->Rep C.K F' d v->Q v H':=λv H' F' r' s' p'=>q v H' F' r' (((s1.trans s2).trans s3).trans s') p';cases x with
 | str z=>
  cases e7;obtain⟨rfl,hz⟩:=p1;exact .inr (.inr ⟨z,rfl,hz,q3 _ H3 F3 r3 (Same.refl _) ⟨rfl,Qq2 (cutN_len _ _ _) hz⟩⟩)
 | tup xs=>
  exact .inr (.inl (slT_go r3 p3 (by rw[gSlT_cut];exact e7) q3))
 | lst xs=>exact .inl (sl_go r3 (.inl p3) e7 q3)
 | arr xs=>exact .inl (sl_go r3 (.inl p3) e7 q3)
 | _=>cases e7⟩
theorem x_sortsetQ(G:Good X C)(h1:X.mg "sorted" = none)(h2:X.mg "set" = none)(ha:SX X C e a)(g1:Gl X "sorted":=by rfl)(g2:Gl X "set":=by rfl)(he:sEn e X.env:=by rfl)(he2:starEach [.Call (.Name "set" p2) [e] [] pos2] X.env=(false,eval (.Call (.Name "set" p2) [e] [] pos2) X.env)::starEach [] X.env:=by rfl):SX X C (.Call (.Name "sorted" p) [.Call (.Name "set" p2) [e] [] pos2] [] pos) (evUn gSortSet a):=⟨by
 have i1:PE X (.Call (.Name "set" p2) [e] [] pos2) _:=pe_callTy (T:="set") (SX.call_set G.calm) g2 h2 (by decide +kernel) (pa_cons ha.u pa_nil he) (by decide) (by decide) he rfl;have i2:PE X (.Call (.Name "sorted" p) [.Call (.Name "set" p2) [e] [] pos2] [] pos) _:=pe_callB (SX.call_sortS G.calm) g1 h1 PyProof.Rows.boot_sorted (pa_cons i1 pa_nil he2) (by decide) (by decide) he2 rfl;refine i2.imp λσ H Q hq=>?_;obtain⟨Pr,F,env,env',d,r,e0,q⟩:=hq;obtain⟨x,env1,e1,e2⟩:=bindR_ok e0;obtain⟨e3,rfl⟩:=liftR_ok e2;refine⟨Pr,F,env,env',x,r,e1,λv H1 F1 r1 s1 p1=>?_⟩;unfold gSortSet at e3;split at e3
 ·obtain⟨zs,e4,e5⟩:=Qx5.mp e3;split at e5
  ·rename_i hz;cases e5;obtain⟨z,b,ws,rfl,k1,k2⟩:=BRep.lst (K:=C.K) r1.fr (.inl p1);have e6:=reps_strs e4 k2;subst e6;show SX.rSet X [.ref b] H1 λx H2=>SX.rSortS X [x] H2 Q;refine⟨b,zs,rfl,by rw[G.K];exact SqL.of k1,hz.1,λl hl=>?_⟩;rw[<-SX.uniqN_map];have r2:=r1.fresh (o:=SX.SetO X.prog X.w l ((SX.uniqN zs).map strOf)) hl;have hz2:(SX.uniqN zs).length<64/\∀z∈SX.uniqN zs,z.length<=sizeLine:=
    ⟨Nat.lt_of_le_of_lt (SX.uniqN_len zs) hz.1,λz hm=>hz.2 z ((SX.uniqN_mem zs [] z).mp hm |>.resolve_left (by simp))⟩
   refine⟨l,SX.uniqN zs,rfl,upd_same,hz2.1,λl2 hl2=>?_⟩;obtain⟨F2,r3,s2,p3⟩:=(r2.fresh (o:=.lst ((sortX (SX.uniqN zs)).map λz=>V.str (strOf z))) hl2).keep (New.of r2 hl2 (sorted_new r2 hl2 hz2));exact q _ _ F2 r3 (s1.trans s2) p3
  ·cases e5
 ·cases e3⟩
theorem x_chainQ{op op':CmpOp}{g g':D->D->Option D}(o:Cm X C op g)(o':Cm X C op' g')(ha:SX X C x a)(hb:SX X C y b)(hc:SX X C z c)(hm:lastMarks [op,op'] [y,z]=false:=by with_unfolding_all rfl):SX X C (.Compare x [op,op'] [y,z] pos) (evChain g g' a b c):=⟨by
 obtain⟨r,h1,h2⟩:=o.ex;obtain⟨r',h1',h2'⟩:=o'.ex;refine(pe_chain (pos:=pos) h1 h1' ha.u hb.u hc.u hm).imp λσ H Q hq=>?_;obtain⟨Pr,F,env,env',d,rl,e,q⟩:=hq;obtain⟨u,env1,e1,e2⟩:=bindR_ok e;obtain⟨v,env2,e3,e4⟩:=bindR_ok e2;refine⟨Pr,F,env,env1,u,rl,e1,λvu H1 F1 r1 s1 p1=>⟨Pr,F1,env1,env2,v,r1,e3,λvv H2 F2 r2 s2 p2=>?_⟩⟩;split at e4
 ·rename_i k hg;refine h2 Pr F2 env2 σ H2 u v (.bl k) vu vv _ r2 (.inl (Rep.mono s2 _ _ p1)) (.inl p2) hg λvz H3 F3 r3 s3 p3=>⟨k,p3,?_⟩;cases k with
  | false=>
   rw[if_neg Qxk] at e4 ⊢;cases e4;exact q _ H3 F3 r3 ((s1.trans s2).trans s3) rfl
  | true=>
   rw[if_pos rfl] at e4 ⊢;obtain⟨t,env3,e5,e6⟩:=bindR_ok e4;obtain⟨e7,rfl⟩:=liftR_ok e6;exact⟨Pr,F3,env2,env',t,r3,e5,λvt H4 F4 r4 s4 p4=>h2' Pr F4 env' σ H4 v t d vv vt Q r4 (.inl (Rep.mono (s3.trans s4) _ _ p2)) (.inl p4) e7 λv' H5 F5 r5 s5 p5=>q v' H5 F5 r5 ((((s1.trans s2).trans s3).trans s4).trans s5) p5⟩
 ·cases e4⟩
theorem t_chainQ{op op':CmpOp}{g g':D->D->Option D}(o:Cm X C op g)(o':Cm X C op' g')(ha:SX X C x a)(hb:SX X C y b)(hc:SX X C z c)(hm:lastMarks [op,op'] [y,z]=false:=by with_unfolding_all rfl):SXT X C (.Compare x [op,op'] [y,z] pos) (evB (evChain g g' a b c)):=⟨by
 obtain⟨r,h1,h2⟩:=o.ex;obtain⟨r',h1',h2'⟩:=o'.ex;refine(pt_chain (pos:=pos) h1 h1' ha.u hb.u hc.u hm).imp λσ H Q' hq'=>?_;have hq:=tB_go hq';show tChain r r' (tE C a) (tE C b) (tE C c) σ H _;generalize(λ(z:V) (H':Hp)=>∃b,z = .bl b/\Q' b H')=Q at *;obtain⟨Pr,F,env,env',d,rl,e,q⟩:=hq;obtain⟨u,env1,e1,e2⟩:=bindR_ok e;obtain⟨v,env2,e3,e4⟩:=bindR_ok e2;refine⟨Pr,F,env,env1,u,rl,e1,λvu H1 F1 r1 s1 p1=>⟨Pr,F1,env1,env2,v,r1,e3,λvv H2 F2 r2 s2 p2=>?_⟩⟩;split at e4
 ·rename_i k hg;refine h2 Pr F2 env2 σ H2 u v (.bl k) vu vv _ r2 (.inl (Rep.mono s2 _ _ p1)) (.inl p2) hg λvz H3 F3 r3 s3 p3=>⟨k,p3,?_⟩;cases k with
  | false=>
   rw[if_neg Qxk] at e4 ⊢;cases e4;exact q _ H3 F3 r3 ((s1.trans s2).trans s3) rfl
  | true=>
   rw[if_pos rfl] at e4 ⊢;obtain⟨t,env3,e5,e6⟩:=bindR_ok e4;obtain⟨e7,rfl⟩:=liftR_ok e6;exact⟨Pr,F3,env2,env',t,r3,e5,λvt H4 F4 r4 s4 p4=>h2' Pr F4 env' σ H4 v t d vv vt Q r4 (.inl (Rep.mono (s3.trans s4) _ _ p2)) (.inl p4) e7 λv' H5 F5 r5 s5 p5=>q v' H5 F5 r5 ((((s1.trans s2).trans s3).trans s4).trans s5) p5⟩
 ·cases e4⟩
theorem px_notQ{x:Expr}{a:Ev}(ha:SX X C x a):SX X C (.UnaryOp .Not x pos) (evNot a):=⟨(pe_not ha.u).imp λσ H Q hq=>by
 obtain⟨Pr,F,env,env',k,rl,e,q⟩:=hq;obtain⟨c,env1,e1,e2⟩:=bindR_ok e;refine⟨Pr,F,env,env1,c,rl,e1,λv H1 F1 r1 s1 p1=>?_⟩;cases c with
 | bl z=>cases e2;exact⟨z,p1,q _ H1 F1 r1 s1 rfl⟩
 | _=>cases e2⟩
def enumT(xs:List D):List D:=xs.zipIdx.map λp=>.tup [.int (p.2:Nat),p.1]
end
open PySem PySem.W PySem.Calls PyProof.Rows
section
variable{N:Nat}{r:Nat->Nat}
structure KB(N:Nat)(p:Array Nat):Prop where
 pos:1<=N
 perm:p.Perm (List.range N).toArray
end
end Ev
namespace ST
open PySem PyProof.Rows
section
variable{prog:Program}{w:World}{A:Around}{E:Value->Shared->Prop}{s:Shared}{kd:SortKind}{r:Keyed->Nat}{a₀:Array Keyed}
def Cmp(prog:Program)(w:World)(A:Around)(E:Value->Shared->Prop)(s:Shared)(kd:SortKind)(r:Keyed->Nat)(a₀:Array Keyed):Prop:=
 ∀x y,x∈a₀->y∈a₀->∀(st:SortSt) (Q:Option Bool->SortSt->Prop),kindOf st=kd->Q (some (decide (r x<r y))) st->wpS (model prog w) A E s (lt' x y) Q st
def bB(left:Bool)(r:Keyed->Nat)(key x:Keyed):Bool:=if left then decide (r x<r key) else !decide (r key<r x)
section
variable{left:Bool}{key:Keyed}{arr:Array Keyed}{base n:Nat}{st:SortSt}(C:Cmp prog w A E s kd r a₀)(hk:kindOf st=kd)(hkey:key∈a₀)(harr:∀x∈arr,x∈a₀)(hb:base+n<=arr.size)
 (B:Nat->Bool) (hB:∀i (h:base+i<arr.size),i<n->bB left r key arr[base+i]=B i) (hm:∀i j,i<=j->j<n->B j=true->B i=true)
include C hk hkey harr hb hB hm
end
end
section
variable{le:Keyed->Keyed->Prop}
structure J(le:Keyed->Keyed->Prop)(X Y out:List Keyed)(i j:Nat):Prop where
 hi:i<=X.length
 hj:j<=Y.length
 perm:out.Perm (X.take i++Y.take j)
 srt:out.Pairwise le
 low:∀x∈out,∀y∈X.drop i++Y.drop j,le x y
def Good(le:Keyed->Keyed->Prop)(X Y R:List Keyed):Prop:=R.Perm (X++Y)/\R.Pairwise le
end
section
variable{prog:Program}{w:World}{A:Around}{E:Value->Shared->Prop}{s:Shared}{kd:SortKind}{r:Keyed->Nat}{a₀:Array Keyed}
abbrev leR(r:Keyed->Nat):Keyed->Keyed->Prop:=λx y=>r x<=r y
section
variable{a b:Array Keyed}{st:SortSt}(C:Cmp prog w A E s kd r a₀)(hk:kindOf st=kd)(ma:∀x∈a,x∈a₀)(mb:∀x∈b,x∈a₀)(hX:a.toList.Pairwise (leR r))(hY:b.toList.Pairwise (leR r))
 (hl:∀y∈b.toList,∀h:a.size - 1<a.toList.length,leR r y a.toList[a.size - 1])
structure JS(r:Keyed->Nat)(a b o:Array Keyed)(i j:Nat):Prop where
 on:J (leR r) a.toList b.toList o.toList i j
 hi:i+1<a.size
 hj:j<b.size
abbrev GD(r:Keyed->Nat)(a b R:Array Keyed):Prop:=Good (leR r) a.toList b.toList R.toList
include hX in
include hX in
include hY hl in
include hY in
def P1(r:Keyed->Nat)(a b:Array Keyed)(n:Nat)(c:Option (Array Keyed))(o:Array Keyed)(i j:Nat):Prop:=match c with
 | some R=>GD r a b R
 | none=>JS r a b o i j/\n<=i+j
include C hk ma mb hX hY hl
end
end
section
variable{prog:Program}{w:World}{A:Around}{E:Value->Shared->Prop}{s:Shared}{kd:SortKind}{r:Keyed->Nat}{a₀:Array Keyed}
variable{a b:Array Keyed}{st:SortSt}(C:Cmp prog w A E s kd r a₀)(hk:kindOf st=kd)(ma:∀x∈a,x∈a₀)(mb:∀x∈b,x∈a₀)(hX:a.toList.Pairwise (leR r))(hY:b.toList.Pairwise (leR r))
 (hl:∀y∈b.toList,∀h:a.size - 1<a.toList.length,leR r y a.toList[a.size - 1])
include C hk ma mb hX hY hl
end
abbrev H1:=Option (Array Keyed)×Nat×Nat×Array Keyed×Nat×Nat
abbrev H2:=Option (Array Keyed)×Nat×Nat×Array Keyed×Nat×Nat×Nat
abbrev H0:=Option (Array Keyed)×Nat×Nat×Array Keyed×Nat
abbrev geR(r:Keyed->Nat):Keyed->Keyed->Prop:=λx y=>r y<=r x
section
variable{prog:Program}{w:World}{A:Around}{E:Value->Shared->Prop}{s:Shared}{kd:SortKind}{r:Keyed->Nat}{a₀:Array Keyed}
variable{a b:Array Keyed}{st:SortSt}(C:Cmp prog w A E s kd r a₀)(hk:kindOf st=kd)(ma:∀x∈a,x∈a₀)(mb:∀x∈b,x∈a₀)(hX:a.toList.Pairwise (leR r))(hY:b.toList.Pairwise (leR r))
 (hl:∀y∈a.toList,∀h:0<b.toList.length,r b.toList[0]<=r y)
abbrev JH(r:Keyed->Nat)(a b o:Array Keyed)(m n:Nat):Prop:=J (geR r) a.toList.reverse b.toList.reverse o.toList (a.size - m) (b.size - n)
structure KS(r:Keyed->Nat)(a b o:Array Keyed)(m n:Nat):Prop where
 on:JH r a b o m n
 m0:0<m
 ml:m<=a.size
 n1:1<n
 nl:n<=b.size
include hX hY in
include hX hl in
include hX in
def P2(r:Keyed->Nat)(a b:Array Keyed)(k:Nat)(c:Option (Array Keyed))(m n:Nat)(o:Array Keyed):Prop:=match c with
 | some R=>GD r a b R
 | none=>KS r a b o m n/\m+n<=k
include C hk ma mb hX hY hl
end
section
variable{prog:Program}{w:World}{A:Around}{E:Value->Shared->Prop}{s:Shared}{kd:SortKind}{r:Keyed->Nat}{a₀:Array Keyed}
variable{a b:Array Keyed}{st:SortSt}(C:Cmp prog w A E s kd r a₀)(hk:kindOf st=kd)(ma:∀x∈a,x∈a₀)(mb:∀x∈b,x∈a₀)(hX:a.toList.Pairwise (leR r))(hY:b.toList.Pairwise (leR r))
 (hl:∀y∈a.toList,∀h:0<b.toList.length,r b.toList[0]<=r y)
include C hk ma mb hX hY hl
end
section
variable{prog:Program}{w:World}{A:Around}{E:Value->Shared->Prop}{s:Shared}{kd:SortKind}{r:Keyed->Nat}{a₀:Array Keyed}
structure Bs(kd:SortKind)(a₀:Array Keyed)(st:SortSt):Prop where
 perm:(arrOf st).Perm a₀
 fail:failedOf st=none
 kind:kindOf st=kd
def part(l:List Keyed)(b n:Nat):List Keyed:=(l.drop b).take n
end
end ST
namespace Ev
open PySem PySem.Spec PySem.W PySem.Calls PyProof.Rows L2
def FA(K:Fg)(x:Str)(st:Stmt):Prop:=∃(f:Addr) (oc kV doc pm cdv ct:Value) (od an:Option Addr) (osl:Array (Option Value)),PySem.W.nsIn K mainGlobals x=some (some (.ref f))/\
 K.lookup f=some ⟨oc,od,.func (PySem.W.fnOf x x (defArgs st) (defBody st) (defScope st) .none kV doc pm an cdv ct),osl⟩/\PySem.W.codeIn K cdv x=true/\PySem.W.keepIn K (.ref f)=true
theorem FA.mk{K:Fg}{x:Str}{st:Stmt}{f:Addr}{oc kV doc pm cdv ct:Value}{od an:Option Addr}{osl:Array (Option Value)}(a:PySem.W.nsIn K mainGlobals x=some (some (.ref f)))
  (l:K.lookup f=some ⟨oc,od,.func (PySem.W.fnOf x x (defArgs st) (defBody st) (defScope st) .none kV doc pm an cdv ct),osl⟩) (c:PySem.W.codeIn K cdv x=true) (k:PySem.W.keepIn K (.ref f)=true):FA K x st:=
 ⟨f,oc,kV,doc,pm,cdv,ct,od,an,osl,a,l,c,k⟩
theorem FA.at{K:Fg}{h:Heap}{mg:Str->Option Value}{x:Str}{st:Stmt}{ps:List Str}(X:K.In h)(G:h.Ns mainGlobals mg)(F:FA K x st)
  (b:∀{kV doc pm:Value} {an:Option Addr} {cdv ct:Value} (us:List Value),us.length=ps.length->bindArgs (PySem.W.fnOf x x (defArgs st) (defBody st) (defScope st) .none kV doc pm an cdv ct) ⟨us,[]⟩=pure (ps.zip us)):FunAt K mg x st ps:=by
 obtain⟨f,oc,kV,doc,pm,cdv,ct,od,an,osl,a,l,c,k⟩:=F;exact funAt X G a l c k (λ_ _ _ _ _ _ us hl=>b us hl)
theorem FA.law{P:Program}{w:World}{K:Fg}{h:Heap}{mg:Str->Option Value}{fa:Addr}{x y:Str}{st:Stmt}{k:Nat}{g:List D->Option D}(X:K.In h)(G:h.Ns mainGlobals mg)(hfa:mg x=some (.ref fa))(F:FA K x st)
  (b:∀{kV doc pm:Value} {an:Option Addr} {cdv ct:Value} (s:Shared) (v:Value),BindsTo s (PySem.W.fnOf x x (defArgs st) (defBody st) (defScope st) .none kV doc pm an cdv ct) ⟨[v],[]⟩ [(y,v)])
  (q:∀{fd:FuncData} (base:Heap),Fun K x x st fa fd->FnOk P w K mg base CX0 k fa fd [y] (spP K 1 g)) :
  ∃fd:FuncData,(∀(s:Shared) (v:Value),BindsTo s fd ⟨[v],[]⟩ [(y,v)])/\∀base:Heap,K.In base->base.Ns mainGlobals mg->FnOk P w K mg base CX0 k fa fd [y] (spP K 1 g):=by
 obtain⟨f,oc,kV,doc,pm,cdv,ct,od,an,osl,a,l,c,k⟩:=F;have e:=hfa.symm.trans (Qkq X G a);cases e;exact⟨_,b,λbase _ _=>q base (fun_mk (st:=st) l c k)⟩
open PySem PySem.Spec PyProof.Rows L2
section
variable{X:Cx}{C:Cfg}{pos apos cpos:Pos}
def stStuck:EvS:=λ_=>.stuck
theorem pxs_raiseQ{st:Stmt}:SXS X C st stStuck:=⟨λpins s σ H D I h=>by
 obtain⟨_,_,_,_,f⟩:=h;exact f.elim⟩
end
open PySem PySem.Spec PyProof.Rows L2 PySem.Builtin
instance (zs:List Int):Decidable (zs.Pairwise (·< ·)):=inferInstance
theorem Rel.grow{C:Cfg}{Pr F:Hp}{env:Env}{σ:L2.St}{H H':Hp}(r:Rel C Pr F env σ H)(s:Same H H'):Rel C Pr F env σ H':=by refine⟨r.pr.trans s,r.fr.trans s,r.len,r.val,λj e he=>?_,r.apart,r.dj,r.fix⟩;obtain⟨a,h1,h2,h3,h4⟩:=r.own j e he;obtain⟨o,ho⟩:=h2.some;exact⟨a,h1,h2.mono (Same.refl F) (by rw[ho,s _ _ ho]),h3,h4⟩
theorem Rel.unset{C:Cfg}{Pr F:Hp}{env:Env}{σ:L2.St}{H:Hp}{i:Nat}{v:V}(r:Rel C Pr F env σ H)(hfx:C.fx i=none):Rel C Pr F (env.set i none) (σ.set i (some v)) H:=by
 have un:∀(j:Nat) (x:Bool×D),(env.set i none)[j]? = some (some x)->j≠i/\env[j]? = some (some x):=λj x he=>by
  have hj:j≠i:=λz=>by
   subst z;have hl:j<env.length:=by
    have:=(Qq6.mp he).1
    rwa [Qwy] at this
   rw[Qq8 hl] at he;cases he
  rw[Qqw (Ne.symm hj)] at he;exact⟨hj,he⟩
 refine⟨r.pr,r.fr,by rw[Qwy,Qwy];exact r.len,λj e he=>?_,λj e he=>?_,λj k e f b hj hk g1 g2=>?_,r.dj,λj a hj=>?_⟩
 ·obtain⟨nj,he⟩:=un j _ he;rw[Qqw (Ne.symm nj)];exact r.val j e he
 ·obtain⟨nj,he⟩:=un j _ he;rw[Qqw (Ne.symm nj)];exact r.own j e he
 ·obtain⟨nj,hj⟩:=un j _ hj;obtain⟨nk,hk⟩:=un k _ hk;rw[Qqw (Ne.symm nj)] at g1;rw[Qqw (Ne.symm nk)] at g2;exact r.apart j k e f b hj hk g1 g2
 ·have hji:j≠i:=λz=>by rw[z,hfx] at hj;cases hj
  rw[Qqw (Ne.symm hji)];exact r.fix j a hj
end Ev
namespace L2
open PySem PySem.Spec PyProof.Rows PySem.Builtin
def IteuL(K:PySem.W.Frag)(a:Addr):It:=
 ⟨λi H=>∃xs x,SqL K H a xs/\xs[i]? = some x,λi H v H'=>∃p x,(∀xs,SqL K H a xs->xs[i]? = some x)/\H p=none/\H'=upd H p (.tup [.int i,x])/\v = .ref p,λi H=>∃xs,SqL K H a xs/\i=xs.length⟩
theorem turn_enumL{P:Program}{w:World}{K:PySem.W.Frag}{elts:List Expr}{k:Nat}{pos:Pos}(e it a:Addr)(hei:e≠it)(hai:a≠it)(hae:a≠e) :
  Turn P w K (.Tuple elts k pos) (IteuL K a) [e,it] e (λi h=>(∃old,IsEnum h e it i old)/\h.IsListIter it a i) where
 mem:=by simp
 obj:=λi h st b hb=>by
  obtain⟨⟨old,he⟩,o,ho,hc,hd⟩:=st;rcases Qwq.mp hb with rfl|hb
  ·exact⟨_,he,λv z=>by cases z⟩
  ·rw[Qx2.mp hb];exact⟨o,ho,λv z=>by rw[hd] at z;cases z⟩
 keep:=λi h h' st kk=>by
  obtain⟨⟨old,he⟩,o,ho,r⟩:=st;exact⟨⟨old,kk e (by simp) _ he⟩,o,kk it (by simp) o ho,r⟩
 item:=by
  intro X hP hw hK hc i pins s σ H E I hf st hg;subst hP hw hK;obtain⟨⟨old,he⟩,hit⟩:=st;obtain⟨xs,x,hq,hx⟩:=hg;obtain⟨its,rv,pt,hz⟩:=I.list hq;obtain⟨u,hu,ru⟩:=rv.get hx;have lu:i<its.toArray.size:=by rw[Qq1];exact(Qq6.mp hu).1
  have D1:Draws X.prog X.w X.A.in1 it [it,a] _ _ _:=Draws.list (A:=X.A.in1) (show X.A.in1.handled=none from I.ok.hd hc) it a hai its.toArray;refine wpAny_pyNext_enum_itemD (A:=X.A) D1 he ⟨hit,pt.isList⟩ lu hei (by simp[hei,hae.symm]) λy h' tk hv ho hSt hTup hsz hk=>?_;have ey:y=u:=by have:its.toArray[i]? = some y:=hv;rw[List.getElem?_toArray,hu] at this;exact(Qxq this).symm
  subst ey;have hT:s.heap.objs.size<=s.heap.objs.size:=Qqy _;have helt:e<s.heap.objs.size:=Qq7 he;have hilt:it<s.heap.objs.size:=by obtain⟨_,x,_⟩:=hit;exact Qq7 x
  have nT:H s.heap.objs.size=none:=I.hok.fresh hT;refine⟨_,rfl,?_⟩;refine wpAny_letOwnedTupleGo_enum (s:={ s with heap:=h',toks:=tk+1 }) ho λh'' he'' hs''=>?_;have keep2:∀b o,b≠e->h'.get? b=some o->h''.get? b=some o:=λb o hb q=>(hs''.2 b hb).trans q;have hnT:s.heap.objs.size ∉ [e,it]:=λhb=>by
   rcases Qwq.mp hb with z|hb
   ·exact Qj2 helt z
   ·exact Qj2 hilt (Qx2.mp hb)
  refine⟨.ref s.heap.objs.size,upd H s.heap.objs.size (.tup [.int i,x]),I.drawn (t':=tk+1) (ch:=[e,it]) hf (λb o hb q=>keep2 b o (λz=>hb (by simp[z])) (hk b o (λz=>hb (by simp[z])) (λz=>hb (by simp[z])) q)) hT ?_,rfl,⟨_,x,λzs hq2=>by rw[I.list_inj hq2 hq];exact hx,nT,rfl,rfl⟩,⟨⟨_,by simpa using he''⟩,?_⟩,λb hb=>?_⟩
  ·exact⟨by show 2<=sizeLine;decide,[.int i tk,y],.cons ⟨_,rfl⟩ (.cons ru .nil),_,keep2 _ _ (Qj2 helt) hTup,rfl,⟨_,rfl⟩,rfl⟩
  ·obtain⟨⟨o,q,r⟩,_⟩:=hSt;exact⟨o,keep2 it o hei.symm q,r⟩
  ·have hne:b≠s.heap.objs.size:=λz=>by
    subst z;exact hnT hb
   rw[upd_ne hne];exact(hf b hb).1
 done:=by
  intro X hP hw hK hc i pins s σ H E I hf st hg;subst hP hw hK;obtain⟨xs,hq,hi⟩:=hg;obtain⟨its,rv,pt,hz⟩:=I.list hq;have D1:Draws X.prog X.w X.A.in1 it [it,a] _ _ _:=Draws.list (A:=X.A.in1) (show X.A.in1.handled=none from I.ok.hd hc) it a hai its.toArray;obtain⟨⟨old,he⟩,hit⟩:=st;have hl:=rv.length;have ei:i=its.toArray.size:=by rw[Qq1,hi,hl]
  rw[ei] at he hit;exact wpAny_pyNext_enum_endD (A:=X.A) D1 he ⟨hit,pt.isList⟩ λh' eb=>⟨rfl,I.turnedL (t':=s.toks) (ch:=[e,it]) hf λb o hb q=>eb b o (λz=>hb (by simp[z])) q⟩
 self:=λA i s Q E st h=>by
  obtain⟨⟨old,he⟩,_⟩:=st;exact wpAny_pyIter_enum he h
section
variable{X:Cx}{tg:Expr}
def iEnumL(K:PySem.W.Frag)(ta:TA):TI:=λσ H R=>ta σ H λvs H1=>∃a,vs=[.ref a]/\(∃xs,SqL K H1 a xs)/\R (IteuL K a) H1
theorem pi_enumL{elts:List Expr}{k:Nat}{tp:Pos}{a:Expr}{ta:TA}{p pos:Pos}(hg:Gl X "enumerate")(hm:X.mg "enumerate" = none)(ha:PA X [a] ta)(hs:starEach [a] X.env=[(false,eval a X.env)]:=by rfl):PI X (.Tuple elts k tp) (.Call (.Name "enumerate" p) [a] [] pos) (iEnumL X.K ta):=by
 intro pins s σ H R I h;refine Call_ (ld_blt I hg hm PyProof.Rows.boot_enumerate (Qjq (thn (ha pos pins s σ H _ I h) λus s1 ⟨vs,H1,I1,r1,q1⟩=>?_) hs rfl));have own:∀b ∈ [s1.heap.objs.size+1,s1.heap.objs.size],FpOk X pins H1 b:=λb hb=>by
  rcases Qwq.mp hb with rfl|hb
  ·exact I1.fpOk (Qkx _) (I1.hok.fresh (Qkx _))
  ·rw[Qx2.mp hb];exact I1.fpOk (Qqy _) (I1.hok.fresh (Qqy _))
 obtain⟨l,e,⟨xs,hl⟩,q⟩:=q1;subst e;cases r1 with
 | cons r rr=>
  cases rr;cases r;obtain⟨its,rv,pt,hz⟩:=I1.list hl;have ll:l<s1.heap.objs.size:=pt.lt;refine call_enumerate_list (show s1.heap.IsList l its.toArray from pt.isList) λh' he hit hsz hk=>?_;refine wpAny_pyIter_enum he ?_;have I2:Inv X pins σ H1 { s1 with heap:=h' }:=I1.kept (t':=s1.toks) hk;exact⟨s1.heap.objs.size+1,[s1.heap.objs.size+1,s1.heap.objs.size],_,_,H1,rfl,I2,turn_enumL _ _ l (Nat.succ_ne_self _) (Qwz ll) (Qwz (Qz0 ll)),⟨⟨_,he⟩,hit⟩,own,q⟩
end
end L2
namespace Ev
open PySem PySem.Spec PyProof.Rows L2 PySem.Builtin
section
variable{X:Cx}{C:Cfg}{pos:Pos}{e:Expr}
def evEnumL(a:EvA):EvA:=λenv=>bindR (a env) λds env1=>match ds with
 | [.lst xs]=>.ok (enumT xs) env1
 | _=>.stuck
end
theorem i_enumLQ{X:Cx}{C:Cfg}{pos:Pos}{e:Expr}{elts:List Expr}{k:Nat}{tp p:Pos}{ea:EvA}(G:Good X C)(hm:X.mg "enumerate" = none)(ha:SXA X C [e] ea)(hg:Gl X "enumerate":=by rfl)(hs:starEach [e] X.env=[(false,eval e X.env)]:=by rfl):SXI X C (.Tuple elts k tp) (.Call (.Name "enumerate" p) [e] [] pos) (evEnumL ea):=⟨by
 have h:=pi_enumL (k:=k) (tp:=tp) (elts:=elts) (p:=p) (pos:=pos) hg hm ha.u hs;rw[G.K] at h;refine h.imp λσ H R hq=>?_;obtain⟨Pr,F,env,env',ds,r,e,q⟩:=hq;obtain⟨as,env1,e1,e2⟩:=bindR_ok e;refine⟨Pr,F,env,env1,as,r,e1,λvs H1 F1 r1 s1 p1=>?_⟩;split at e2
 ·rename_i xs;cases e2;obtain⟨v,w,rfl,pv,p2⟩:=p1;cases p2;obtain⟨hz,a,us,rfl,h1,h2⟩:=pv;refine⟨a,rfl,⟨us,.inl (.inl (r1.fr _ _ h1))⟩,q _ H1 F1 r1 s1 λi H2 s2=>⟨λ_ ei=>?_,λd hd=>?_⟩⟩
  ·refine⟨us,(.inl (.inl (s2 _ _ h1))),?_⟩;rw[ei,h2.length];simp[enumT]
  ·unfold enumT at hd;rw[Qw8] at hd;obtain⟨⟨c,j⟩,hc,rfl⟩:=Qw0.mp hd;rw[List.getElem?_zipIdx] at hc;obtain⟨c',hc',h3⟩:=Qw0.mp hc;cases h3;obtain⟨u,hu,ru⟩:=h2.get hc';refine⟨⟨us,u,(.inl (.inl (s2 _ _ h1))),hu⟩,λy H3 hy=>.inr ?_⟩;obtain⟨p,x2,h3,h4,rfl,rfl⟩:=hy;have h5:=h3 us ((.inl (.inl (s2 _ _ h1))));rw[hu] at h5;cases h5;exact⟨p,_,_,h4,rfl,rfl,rfl,by show 2<=sizeLine;decide,_,_,rfl,by simp[Rep],_,_,rfl,ru,rfl⟩
 ·cases e2⟩
open PySem PySem.Spec PyProof.Rows L2
theorem pxs_dropQ{X:Cx}{C:Cfg}{pos:Pos}{e:Expr}{a:Ev}(he:SX X C e a)(hs:swapsWith e none pos.line X.env=pure false:=by rfl):SXS X C (.Expr e pos) (stDrop a):=⟨(ps_expr he.u hs).imp λD σ H hq=>by
 obtain⟨Pr,F,env,r,f⟩:=hq;obtain⟨d,env1,e1,f1⟩:=bindO_fin f;exact⟨Pr,F,env,env1,d,r,e1,λv H1 F1 r1 s1 p1=>f1 σ H1 F1 r1 s1⟩⟩
end Ev
namespace L2
open PySem PySem.Spec PySem.W PySem.Calls PyProof.Rows
theorem vals_strsFrom:∀(ss:List Str) (n:Nat),Vals (ss.map V.str) (strsFrom n ss)
 | [],_=>.nil
 | s::ss,n=>.cons ⟨n,rfl⟩ (vals_strsFrom ss (n+1))
section
variable{X:Cx}
def rSplit:V->List V->Hp->VK->Prop:=λx vs H Q=>∃z y,x = .str z/\vs=[.str y]/\(y.length == 0)=false/\z.length<=sizeLine/\(Txt.split z y).length<=sizeLine/\∀l,H l=none->Q (.ref l) (upd H l (.lst ((Txt.split z y).map .str)))
theorem mt_split:MtM X "str.split" rSplit:=by
 intro pins s σ H x vs v us Q I rx rv h;obtain⟨z,y,rfl,rfl,hy,hz,hl,q⟩:=h;obtain⟨t,rfl⟩:=rx;obtain⟨u,rfl,t',rfl⟩:=rv.one;have hn:H s.heap.objs.size=none:=I.hok.fresh (Qqy _);have one:Txt.split z y=[z]->EP X pins σ Q (.ref s.heap.objs.size) { s with heap:=s.heap.push { cls:=Value.type "list",data:=Data.seq #[Value.str z t] } }:=λe=>by
  have q1:=q _ hn;rw[e] at q1;refine⟨.ref s.heap.objs.size,_,I.laid (λb o e=>Qqz _ e) (Qqy _) (o:=.lst [.str z]) ⟨by show 1<=sizeLine;decide,[Value.str z t],0,.cons ⟨t,rfl⟩ .nil,?_⟩,rfl,q1⟩;exact Qq5 s.heap rfl
 by_cases c1:(decide (z.length<y.length)||decide (Builtin.Str.strKind z<Builtin.Str.strKind y))=true
 ·refine call_meets F.slot_str_split (typeIs_str s z t) F.entry_str_split (F.args_str_split_2 _ _) (meets_str_split_cannot_occur z y t t' c1) ?_;exact one (by unfold Txt.split;rw[if_pos c1])
 ·have c1':=Bool.eq_false_iff.mpr c1;by_cases c2:(Builtin.Str.occurrences z y 0 z.length (z.length+1)).isEmpty=true
  ·refine call_meets F.slot_str_split (typeIs_str s z t) F.entry_str_split (F.args_str_split_2 _ _) (meets_str_split_not_found z y t t' c1' hy c2) ?_;exact one (by unfold Txt.split;rw[if_neg c1,if_pos c2])
  ·have c2':=Bool.eq_false_iff.mpr c2;have e:Txt.split z y=Builtin.Str.partsBetween z (Builtin.Str.occurrences z y 0 z.length (z.length+1)) y.length:=by unfold Txt.split;rw[if_neg c1,if_neg c2]
   rw[e] at hl;refine call_meets F.slot_str_split (typeIs_str s z t) F.entry_str_split (F.args_str_split_2 _ _) (meets_str_split_sep z y t t' c1' hy c2' hz hl) ?_;have q1:=q _ hn;rw[e] at q1;generalize Builtin.Str.partsBetween z (Builtin.Str.occurrences z y 0 z.length (z.length+1)) y.length=ps at *;refine⟨.ref s.heap.objs.size,_,I.laid (λb o e=>Qqz _ e) (Qqy _) (o:=.lst (ps.map .str)) ⟨by rw[Qqx];exact hl,strsFrom s.toks ps,0,vals_strsFrom ps _,?_⟩,rfl,q1⟩;exact Qq5 s.heap rfl
end
end L2
namespace Ev
open PySem PySem.Spec PySem.W PySem.Calls PyProof.Rows L2
def splitX(x y:List Nat):List (List Nat):=(Txt.split (strOf x) (strOf y)).map λs=>s.cps.toList
def gSplit:D->D->Option D
 | .str x,.str y=>if y≠[]/\x.length<=sizeLine/\(splitX x y).length<=sizeLine/\∀p∈splitX x y,p.length<=sizeLine then some (.lst ((splitX x y).map .str)) else none
 | _,_=>none
theorem reps_splitX{K:Fg}{F:Hp}:∀(ss:List Str),(∀p∈ss.map (λs=>s.cps.toList),p.length<=sizeLine)->Reps K F ((ss.map λs=>s.cps.toList).map .str) (ss.map V.str)
 | [],_=>rfl
 | s::ss,h=>⟨V.str s,ss.map V.str,rfl,⟨by rw[strOf_cps],h _ (Qq3 ..)⟩,reps_splitX ss λp hp=>h p (Qq4 _ hp)⟩
section
variable{X:Cx}{C:Cfg}{o e:Expr}{a b:Ev}{apos cpos:Pos}
theorem x_splitQ(G:Good X C)(ho:SX X C o a)(he:SXB X C e b)(hbase:attributeBase o "split" X.env (eval o X.env)=eval o X.env:=by rfl)
  (hs:sEn e X.env:=by rfl)
  (hfew:((backTo cpos (starEach [e] X.env)).all (λx=>!x.1)&&(backToKw cpos (keywordEach [] X.env)).all (λx=>x.1.isSome)
   && decide ([e].length+([]:List Keyword).length+(if ([]:List Keyword).isEmpty then 0 else 1)<30))=true:=by rfl)
  (hline:(apos.endLine == cpos.line)=true:=by rfl) (hplain:(backTo cpos (starEach [] X.env)).any (·.1)=false:=by rfl) :
  SX X C (.Call (.Attribute o "split" apos) [e] [] cpos) (evBin gSplit a b):=⟨by
 refine(pe_bm PySem.F.plainAttrs_str PySem.F.slot_str_split PySem.F.type_str_split mt_split ho.u (pa_cons he.u pa_nil hs) hbase hfew hline hs hplain).imp λσ H Q hq=>?_;obtain⟨Pr,F,env,env',d,r,e0,q⟩:=hq;obtain⟨x,env1,e1,e2⟩:=bindR_ok e0;obtain⟨y,env2,e3,e4⟩:=bindR_ok e2;obtain⟨e5,rfl⟩:=liftR_ok e4;unfold gSplit at e5;split at e5
 ·rename_i z y;split at e5
  ·rename_i hz;obtain⟨g1,g2,g3,g4⟩:=hz;cases e5;refine⟨Pr,F,env,env1,_,r,e1,λvx H1 F1 r1 s1 p1=>?_⟩;obtain⟨rfl,_⟩:=p1;refine⟨rfl,Pr,F1,env1,env',_,r1,e3,λvy H2 F2 r2 s2 p2=>?_⟩;obtain⟨rfl,_⟩:=p2.str;refine⟨strOf z,strOf y,rfl,rfl,?_,by rw[strOf_length];exact g2,by unfold splitX at g3;rw[Qqx] at g3;exact g3,λl hl=>?_⟩
   ·rw[strOf_length,beq_eq_false_iff_ne];exact λz=>g1 (List.length_eq_zero_iff.mp z)
   ·obtain⟨F3,r3,s3,p3⟩:=(r2.fresh (o:=.lst ((Txt.split (strOf z) (strOf y)).map .str)) hl).keep (New.of r2 hl (show OwnAt C.K F2 (upd H2 l (.lst ((Txt.split (strOf z) (strOf y)).map .str))) (.lst ((splitX z y).map .str)) l from⟨by rw[Qqx];exact g3,_,upd_same,reps_splitX _ g4⟩));exact q _ _ F3 r3 (s1.trans (s2.trans s3)) p3
  ·cases e5
 ·cases e5⟩
def rJoinT(K:Fg):V->List V->Hp->VK->Prop:=λx vs H Q=>∃sep xs p,x = .str (strOf sep)/\vs=[.ref p]/\SqT K H p (xs.map λx=>V.str (strOf x))/\joinFits sep xs=true/\Q (.str (strOf (joinN sep xs))) H
theorem mt_joinT:MtR X "str.join" (rJoinT X.K):=by
 intro pins s σ H x vs v us Q I rx rv h;obtain⟨sep,xs,p,rfl,rfl,hq,hf,q⟩:=h;obtain⟨t,rfl⟩:=rx;obtain⟨u,rfl,ru⟩:=vals1 rv;cases ru;obtain⟨its,r,pl,_⟩:=I.tuple hq;have hs:=vals_strs r;refine join_tuple pl (by simpa using hs) ?_ λt' k=>?_
 ·have hf':=Qw2 hf;have e:((xs.map strOf).map (·.length))=xs.map List.length:=by
   rw[Qz7];apply Qj3;intro z _;exact strOf_length z
  rw[e,strOf_length,Qqx];exact hf'
 ·rw[join_str];exact⟨.str _,H,I.tok k,⟨t',rfl⟩,q⟩
end
def gJoinT(x y:D):Option D:=match x,y with
 | .str sep,.tup ds=>(match strsD ds with
  | some xs=>if joinFits sep xs=true then some (.str (joinN sep xs)) else none
  | none=>none)
 | _,_=>none
section
variable{X:Cx}{C:Cfg}{o e:Expr}{a b:Ev}{apos cpos:Pos}
theorem x_joinTQ(G:Good X C)(ho:SX X C o a)(he:SXB X C e b)(hbase:attributeBase o "join" X.env (eval o X.env)=eval o X.env:=by rfl)
  (hs:sEn e X.env:=by rfl)
  (hfew:((backTo cpos (starEach [e] X.env)).all (λx=>!x.1)&&(backToKw cpos (keywordEach [] X.env)).all (λx=>x.1.isSome)
   && decide ([e].length+([]:List Keyword).length+(if ([]:List Keyword).isEmpty then 0 else 1)<30))=true:=by rfl)
  (hline:(apos.endLine == cpos.line)=true:=by rfl) (hplain:(backTo cpos (starEach [] X.env)).any (·.1)=false:=by rfl) :
  SX X C (.Call (.Attribute o "join" apos) [e] [] cpos) (evBin gJoinT a b):=⟨by
 have h:=pe_bm (cpos:=cpos) PySem.F.plainAttrs_str PySem.F.slot_str_join PySem.F.type_str_join mt_joinT ho.u (pa_cons he.u pa_nil hs) hbase hfew hline hs hplain;rw[G.K] at h;refine h.imp λσ H Q h=>?_;obtain⟨Pr,F,env,env',d,rl,e0,q⟩:=h;obtain⟨x,env1,e1,e2⟩:=bindR_ok e0;obtain⟨y,env2,e3,e4⟩:=bindR_ok e2;obtain⟨e5,rfl⟩:=liftR_ok e4;unfold gJoinT at e5;split at e5
 ·rename_i sep ds;split at e5
  ·rename_i xs hxs;split at e5
   ·rename_i hf;cases e5;refine⟨Pr,F,env,env1,_,rl,e1,λvx H1 F1 r1 s1 p1=>?_⟩;obtain⟨rfl,_⟩:=p1;refine⟨rfl,Pr,F1,env1,env',_,r1,e3,λvy H2 F2 r2 s2 p2=>?_⟩;obtain⟨z,l,ws,rfl,h1,_,h2⟩:=p2.tup r2.fr;have e6:=reps_strs hxs h2;subst e6;exact⟨sep,xs,l,rfl,rfl,h1,hf,q _ H2 F2 r2 (s1.trans s2) ⟨rfl,joinN_le hf⟩⟩
   ·cases e5
  ·cases e5
 ·cases e5⟩
end
open PySem PySem.Spec PyProof.Rows L2
theorem nox{X:Cx}{C:Cfg}(G:Good X C):Good X.nox C:=⟨G.K,G.calm,G.un⟩
theorem ps_try{X:Cx}{body:List Stmt}{h₀:ExceptHandler}{hs:List ExceptHandler}{pos:Pos}{tb:TS}(hbd:PSs X.nox body tb):PS X (.Try body (h₀::hs) [] [] pos) tb:=by
 intro pins s σ H D I h;refine wpAny_Try_except (Qw6 (hbd pins s σ H D (I.wish _) h) (λf s1 q=>?_) λ_ _ z=>False.elim z);cases f with
 | next=>exact wpAny_execs_nil q.unwish
 | brk=>exact q.unwish
 | cont=>exact q.unwish
 | ret u=>exact q.unwish
end Ev
namespace XC
open PySem PySem.Spec PyProof.Rows PySem.W
structure Cl(K:Frag)(C:Addr):Prop where
 ga:findIn K (.ref C) "__getattribute__" = some (some (.builtin "BaseException.__getattribute__"))
 gt:findIn K (.ref C) "__getattr__" = some none
 cl:findIn K (.ref C) "__class__" = some (some (.builtin "object.__class__"))
 ob:mroIn K C (.type "object")=some true
 be:mroIn K C (.type "BaseException")=some true
section
variable{prog:Program}{w:World}{A:Around}{E:Value->Shared->Prop}{h:Heap}{g:Array GenState}{d:Drawn}{t:Nat}{os:OsState}{K:Frag}{x C:Addr}{M:Model}{S:Addr}{o:Obj}
def At(x C:Addr)(h:Heap):Prop:=∃o,h.get? x=some o/\o.cls = .ref C
theorem At.type{M:Model}(I:At x C h):Looks M h (typeOf (.ref x)) (.ref C):=by obtain⟨o,h1,h2⟩:=I;exact h2 ▸ (Looks.ld h1).andThen .now
theorem get{tp:Value}{R:Result->Shared->Prop}(X:K.In h)(I:At x C h)(Z:Cl K C)(hq:R (.ok (.ret (.ref C))) ⟨h,g,d,t,os⟩) :
  codeAny (model prog w) A (.call (.builtin "getset_descriptor.__get__") ⟨[.builtin "object.__class__",.ref x,tp],[]⟩) R ⟨h,g,d,t,os⟩:=by
 have L0:=I.type (M:=model prog w);have L1:Looks (model prog w) h (isSubtype (.ref C) (.type (".".intercalate ("object.__class__".cutAt '.').dropLast))) true:=by rw[F.owner_object_class];exact looks_mroIn X Z.ob
 have hT:(⟨h,g,d,t,os⟩:Shared).TypeIs (.builtin "object.__class__") "getset_descriptor":=F.typeOf_object_class;refine codeAny_call_builtin F.slot_gs_get.plain F.entry_gs_get (F.slot_gs_get.check _ _ _ _ _ _ _ _ hT (F.args_gs_get _ _ _) ?_)
 repeat (any_goals (first|assumption|with_reducible refine L0.at ?_|with_reducible refine L1.at ?_|wp_step))
 refine⟨Code.quiet_builtin _ (by decide +kernel),Qj0 F.entry_object_class ?_⟩
 repeat (any_goals (first|assumption|with_reducible refine L0.at ?_|wp_step))
theorem entry{tk:Tok}{Q:PySem.Fin->Shared->Prop}(X:K.In h)(I:At x C h)(Z:Cl K C)(hq:Q (.done (.ret (.ref C))) ⟨h,g,d,t,os⟩) :
  wpAny (model prog w) A (Builtin.«object.__getattribute__» ⟨[.ref x,.str "__class__" tk],[]⟩) Q E ⟨h,g,d,t,os⟩:=by
 have L0:=I.type (M:=model prog w);have L1:=looks_findIn (M:=model prog w) X Z.cl;have hT5:(⟨h,g,d,t,os⟩:Shared).TypeIs (.builtin "object.__class__") "getset_descriptor":=F.typeOf_object_class;have f5:=F.typeOf_object_class;have f6:=F.slot_gs_get.lookup;have f7:=F.slot_gs_set.lookup
 repeat (any_goals (first|assumption|with_reducible refine L0.at ?_|with_reducible refine L1.at ?_|wp_step))
 refine get X I Z ?_
 repeat (any_goals (first|assumption|wp_step))
theorem check{M:Model}{nameV:Value}{Q:Unit->Shared->Prop}(X:K.In h)(I:At x C h)(Z:Cl K C)(hq:Q () ⟨h,g,d,t,os⟩):wpAny M A (checkBuiltinCall "BaseException.__getattribute__" ⟨[.ref x,nameV],[]⟩) Q E ⟨h,g,d,t,os⟩:=by
 have hk:builtinKind "BaseException.__getattribute__" = some .slot:=by decide +kernel
 have hsplit:splitId "BaseException.__getattribute__" = some ("BaseException","__getattribute__"):=by decide +kernel
 have ha:=F.args_bexc_ga (.ref x) nameV;have L0:=I.type (M:=M);have L1:=looks_mroIn (M:=M) X Z.be;simp only[checkBuiltinCall,hk,hsplit];refine Qqq ?_;unfold isInstance
 repeat (any_goals (first|assumption|with_reducible refine L0.at ?_|with_reducible refine L1.at ?_|wp_step))
theorem by_{tk:Tok}{Q:Value->Shared->Prop}(X:K.In h)(I:At x C h)(Z:Cl K C)(hq:Q (.ref C) ⟨h,g,d,t,os⟩):wpAny (model prog w) A (getAttrBy (.ref x) (.str "__class__" tk) false) Q E ⟨h,g,d,t,os⟩:=by
 have L0:=I.type (M:=model prog w);have L1:=looks_findIn (M:=model prog w) X Z.ga;have L2:=looks_findIn (M:=model prog w) X Z.gt;have f3:=F.attr_ValueError.ga.bind (.ref x);have hx2:(Value.builtin "BaseException.__getattribute__" == Value.builtin "object.__getattribute__")=false:=by decide +kernel
 have hx1:(onTheHeap (Value.ref C)&&Value.builtin "BaseException.__getattribute__" == Value.builtin "object.__getattribute__")=false:=by rw[hx2];rfl
 repeat (any_goals (first|assumption|with_reducible refine L0.at ?_|with_reducible refine L1.at ?_|with_reducible refine L2.at ?_|wp_step))
 refine codeAny_call_builtin F.attr_ValueError.ga.plain F.entry_bexc_ga (check X I Z (entry X I Z ?_))
 repeat (any_goals (first|assumption|wp_step))
theorem attr{Q:Option Value->Shared->Prop}(X:K.In h)(I:At x C h)(Z:Cl K C)(hq:Q (some (.ref C)) ⟨h,g,d,t+1,os⟩):wpAny (model prog w) A (getAttr? (.ref x) "__class__") Q E ⟨h,g,d,t,os⟩:=by
 unfold getAttr? getAttrBy?
 repeat (any_goals (first|assumption|with_reducible apply by_ X I Z|wp_step))
theorem Cl.at(Z:Cl K C):∃c' d' cd sl,K.lookup C=some ⟨c',d',.cls cd,sl⟩:=by
 obtain⟨cd,q,_⟩:=Qx5.mp Z.ob;unfold clsIn at q;split at q
 ·rename_i ho;exact⟨_,_,_,_,ho⟩
 ·cases q
theorem kitx(Z:Cl K C):KitX K (.ref x) (.ref C) (At x C) where
 ty:=λ_ _ _ I=>I.type
 it:=λ_ _ X _=>by
  obtain⟨c',d',cd,sl,ho⟩:=Z.at;intro A' Q' E' s' k q;unfold isType loadHead;exact Qqq (wpAny_loadPart (k _ _ (X _ _ ho)) (Qqv q))
 ne:=λh tp dd its n sl X htp=>by
  obtain⟨c',d',cd,sl',ho⟩:=Z.at;refine Bool.eq_false_iff.mpr λq=>?_;have e:C=tp:=Value.ref.inj (beq_iff_eq.mp q);subst e;have z:=X _ _ ho;rw[htp] at z;cases z
 ca:=λ{_ _ _ _ _ s} X I k=>by
  obtain⟨h,g,d,t,os⟩:=s;exact attr X I Z k
theorem isi{s:Shared}{c:Value}{b:Bool}{Q:Value->Shared->Prop}(Z:Cl K C)(X:K.In s.heap)(I:At x C s.heap)(e:kitOne K (.ref C) c=some b)(h:∀tk,Q (.bool b) { s with toks:=tk }) :
  wpAny (model prog w) A (call (.builtin "isinstance") [.ref x,c]) Q E s:=kia_one (kitx Z) X I e (λz=>nomatch z) h
theorem caught{Q:Bool->Shared->Prop}(X:K.In h)(ho:h.get? x=some o)(hc:o.cls = .ref C)(Z:Cl K S)(ty:typeIn K (.ref S)=some (.type "type"))(sub:mroIn K C (.ref S)=some true)(hq:Q true ⟨h,g,d,t,os⟩) :
  wpAny M A (excMatches (.ref x) (.ref S)) Q E ⟨h,g,d,t,os⟩:=by
 have L1:=looks_mroIn (M:=M) X Z.be;have L2:=looks_mroIn (M:=M) X sub;have L3:=looks_typeIn (M:=M) X ty;obtain⟨c',d',cd,sl,hS⟩:=Z.at;have hS':=X _ _ hS;have f:=tc_notTuple;unfold excMatches
 repeat (any_goals (first|assumption|with_reducible refine L1.at ?_|with_reducible refine L2.at ?_|with_reducible refine L3.at ?_|(with_reducible refine wpAny_loadPart_at ho ?_;rw[hc])|with_reducible refine wpAny_loadPart_at hS' ?_|wp_step))
end
open PySem PySem.Spec PyProof.Rows PySem.W Builtin Builtin.ObjectAttr
abbrev bmV:List Value:=[.type "ValueError",.type "Exception",.type "BaseException",.type "object"]
structure ClA(K:Frag)(C S:Addr)(name:Str):Prop where
 z:Cl K C
 sa:findIn K (.ref C) "__setattr__" = some (some (.builtin "object.__setattr__"))
 no:findIn K (.ref C) name=some none
 cd:∃cd,clsIn K C=some cd/\cd.hasDict=true/\cd.mro = .ref C :: .ref S::bmV
section
variable{prog:Program}{w:World}{A:Around}{E:Value->Shared->Prop}{h:Heap}{g:Array GenState}{d:Drawn}{t:Nat}{os:OsState}{K:Frag}{x C S:Addr}{name:Str}{v:Value}{o:Obj}{vs:Array Value}{dx:Addr}{m:Str->Option Value}{nm q:Str}{N fI:Addr}{bs bm:List Value}{hdct:Bool}{sn:List Str}{sub:List Value}{ab:Bool}{col:Option Bool}{dd:Option Addr}{k0 k1 k2 k3 k5:Option Value}{s:Shared}{env:Env}
theorem store_in{tk:Tok}{Q:PySem.Fin->Shared->Prop}(X:K.In h)(Z:ClA K C S name)(hx:h.get? x=some o)(hc:o.cls = .ref C)(hdn:o.dict=none)(hda:o.data = .fields vs)
  (hq:∀h' tk' dx,(∀b ob,b≠x->h.get? b=some ob->h'.get? b=some ob)->h'.get? x=some { o with dict:=some dx }->h.get? dx=none->dx≠x->h'.Ns1 dx (λy=>if y=name then some v else none)->Q (.done (.ret .none)) ⟨h',g,d,tk',os⟩) :
  wpAny (model prog w) A (Builtin.«object.__setattr__» ⟨[.ref x,.str name tk,v],[]⟩) Q E ⟨h,g,d,t,os⟩:=by
 obtain⟨cd,hcd,hhd,hmro⟩:=Z.cd;have L0:Looks (model prog w) h (typeOf (.ref x)) (.ref C):=At.type ⟨o,hx,hc⟩;have L1:=looks_findIn (M:=model prog w) X Z.no;have L2:Looks (model prog w) h (mroOf (.ref C)) cd.mro:=(looks_clsIn X hcd).andThen .now;have L3:=looks_clsIn (M:=model prog w) X hcd;have hpass:=PySem.F.store_ValueError.passes (.ref x);rw[osa_eq,refuse_eq];refine Qqq (Qqq (L0.at (Qqq (L2.at ?_))));rw[hmro,refuseLoop_ref,refuseLoop_ref,hpass];refine Qqv (Qqq (L0.at (Qqq (L1.at (Qqq (Qqv ?_))))));show wpAny _ _ (storeInOwnDict (.ref x) (.ref C) (.str name tk) name v false) _ _ _;unfold storeInOwnDict ownDictForStores
 repeat (any_goals (first|assumption|with_reducible refine wpAny_loadPart_at hx ?_|wp_step))
 obtain⟨oc,od,oda,osl⟩:=o;simp only at hc hdn hda;subst hc hdn hda;refine Qqq (L3.at ?_);rw[hhd];simp only[Bool.not_true,Bool.false_eq_true,if_false];rw[if_neg (by simp[typeHasDict])];have hx₁:(h.push { cls:=.type "dict",data:=.dict #[] }).get? x=some ⟨.ref C,none,.fields vs,osl⟩:=Qqz _ hx;have hxs:x≠h.objs.size:=Qwz (Qq7 hx);refine Qqq (wpAny_alloc' (Qqq (wpAny_update' hx₁ ?_)));refine Qqv ?_;have hgd:((h.push { cls:=.type "dict",data:=.dict #[] }).update x λo=>{ cls:=o.cls,dict:=some h.objs.size,data:=o.data,slots:=o.slots }).get? h.objs.size=some { cls:=.type "dict",data:=.dict #[] }:=
  (Heap.get?_update_ne _ _ _ _ hxs.symm).trans (Heap.get?_push_at rfl rfl)
 have hnd:((h.push { cls:=.type "dict",data:=.dict #[] }).update x λo=>{ cls:=o.cls,dict:=some h.objs.size,data:=o.data,slots:=o.slots }).Ns h.objs.size (λ_=>none):=
  ⟨_, #[],_,hgd,rfl,λe he=>absurd he (by simp),λ_=>rfl⟩
 show wpAny _ _ (storeInDict h.objs.size (.str name tk) name v) _ _ _;unfold storeInDict newKeyGuard;refine Qqq (Qqv (Qqq (wpAny_nsSet1 (Heap.Ns1.of_empty hnd) λh' hn' hs=>?_)));obtain⟨oD,esD,epD,hoD,hdD,hcD⟩:=hn'.count (Within.cons name v Within.nil);refine Qqq (wpAny_lookBehind hoD (by rw[hdD];exact pastItsLine_dict (Qq2 hcD (by rw[Qqk,Qq0,Qj7];omega))) ?_)
 wp_walk
 refine hq h' _ h.objs.size (λb ob hbx hb=>(hs.2 b (Qwz (Qq7 hb))).trans ((Heap.get?_update_ne _ _ _ _ hbx).trans (Qqz _ hb))) ?_ (Heap.get?_none_of_le (Qqy _)) hxs.symm hn';exact(hs.2 x hxs).trans (Heap.get?_update_self _ hx₁ rfl)
theorem store_ck{nameV:Value}{M:Model}{Q:Unit->Shared->Prop}(X:K.In h)(Z:ClA K C S name)(hx:h.get? x=some o)(hc:o.cls = .ref C)(hq:Q () ⟨h,g,d,t,os⟩):wpAny M A (checkBuiltinCall "object.__setattr__" ⟨[.ref x,nameV,v],[]⟩) Q E ⟨h,g,d,t,os⟩:=by have L0:Looks M h (typeOf (.ref x)) (.ref C):=At.type ⟨o,hx,hc⟩;have sub:Looks M h (isInstance (.ref x) (.type "object")) true:=L0.andThen (looks_mroIn X Z.z.ob);exact @check_slot M _ _ ⟨h,g,d,t,os⟩ "object.__setattr__" "object" "__setattr__" (.ref x) [nameV,v] [] _ PySem.F.store_ValueError.kind PySem.F.store_ValueError.split sub (PySem.F.store_ValueError.args (.ref x) nameV v) hq
theorem store{Q:Unit->Shared->Prop}(X:K.In h)(Z:ClA K C S name)(hx:h.get? x=some o)(hc:o.cls = .ref C)(hdn:o.dict=none)(hda:o.data = .fields vs)
  (hq:∀h' tk' dx,(∀b ob,b≠x->h.get? b=some ob->h'.get? b=some ob)->h'.get? x=some { o with dict:=some dx }->h.get? dx=none->dx≠x->h'.Ns1 dx (λy=>if y=name then some v else none)->Q () ⟨h',g,d,tk',os⟩) :
  wpAny (model prog w) A (setAttr (.ref x) name v) Q E ⟨h,g,d,t,os⟩:=by
 have L0:Looks (model prog w) h (typeOf (.ref x)) (.ref C):=At.type ⟨o,hx,hc⟩;have L1:=looks_findIn (M:=model prog w) X Z.sa;have f3:=PySem.F.store_ValueError.slot.bind (.ref x);unfold setAttr callSpecial? specialOf
 repeat (any_goals (first|assumption|with_reducible refine L0.at ?_|with_reducible refine L1.at ?_|wp_step))
 refine codeAny_call_builtin PySem.F.store_ValueError.slot.plain PySem.F.store_ValueError.entry (store_ck X Z hx hc (store_in X Z hx hc hdn hda λh' tk' dx q1 q2 q3 q4 q5=>?_))
 repeat (any_goals (first|assumption|wp_step))
 exact hq h' tk' dx q1 q2 q3 q4 q5
theorem load_in{tk:Tok}{Q:PySem.Fin->Shared->Prop}(X:K.In h)(Z:ClA K C S name)(hx:h.get? x=some o)(hc:o.cls = .ref C)(hdn:o.dict=some dx)(hda:o.data = .fields vs)(hn:h.Ns dx m)(hm:m name=some v)(hq:Q (.done (.ret v)) ⟨h,g,d,t,os⟩) :
  wpAny (model prog w) A (Builtin.«object.__getattribute__» ⟨[.ref x,.str name tk],[]⟩) Q E ⟨h,g,d,t,os⟩:=by
 obtain⟨cd,hcd,hhd,hmro⟩:=Z.cd;have L0:Looks (model prog w) h (typeOf (.ref x)) (.ref C):=At.type ⟨o,hx,hc⟩;have L1:=looks_findIn (M:=model prog w) X Z.no;have L3:=looks_clsIn (M:=model prog w) X hcd;unfold Builtin.«object.__getattribute__»
 repeat (any_goals (first|assumption|with_reducible refine L0.at ?_|with_reducible refine L1.at ?_|with_reducible refine L3.at ?_|wp_step))
 obtain⟨oc,od,oda,osl⟩:=o;simp only at hc hdn hda;subst hc hdn hda;show wpAny _ _ (instanceDict x false) _ _ _;unfold instanceDict
 repeat (any_goals (first|assumption|with_reducible refine wpAny_loadPart_at hx ?_|with_reducible refine L3.at ?_|(with_reducible refine wpAny_nsGet hn ?_;rw[hm])|(unfold inDict;with_reducible refine wpAny_nsGet hn ?_;rw[hm])|wp_step))
theorem load_by{tk:Tok}{fill expr:Bool}{Q:Value->Shared->Prop}(X:K.In h)(Z:ClA K C S name)(hx:h.get? x=some o)(hc:o.cls = .ref C)(hdn:o.dict=some dx)(hda:o.data = .fields vs)(hn:h.Ns dx m)(hm:m name=some v)(hh:handedOut v=pure v)(hq:Q v ⟨h,g,d,t,os⟩) :
  wpAny (model prog w) A (getAttrBy (.ref x) (.str name tk) fill expr) Q E ⟨h,g,d,t,os⟩:=by
 have I:At x C h:=⟨o,hx,hc⟩;have L0:=I.type (M:=model prog w);have L1:=looks_findIn (M:=model prog w) X Z.z.ga;have L2:=looks_findIn (M:=model prog w) X Z.z.gt;have f3:=F.attr_ValueError.ga.bind (.ref x);have hx0:(expr&&onTheHeap (Value.builtin "BaseException.__getattribute__"))=false:=by cases expr<;>rfl
 have hx2:(Value.builtin "BaseException.__getattribute__" == Value.builtin "object.__getattribute__")=false:=by decide +kernel
 have hx1:(onTheHeap (Value.ref C)&&Value.builtin "BaseException.__getattribute__" == Value.builtin "object.__getattribute__")=false:=by rw[hx2];rfl
 repeat (any_goals (first|assumption|with_reducible refine L0.at ?_|with_reducible refine L1.at ?_|with_reducible refine L2.at ?_|wp_step))
 refine codeAny_call_builtin F.attr_ValueError.ga.plain F.entry_bexc_ga (check X I Z.z (load_in X Z hx hc hdn hda hn hm ?_))
 repeat (any_goals (first|assumption|wp_step))
theorem load{expr:Bool}{Q:Value->Shared->Prop}(X:K.In h)(Z:ClA K C S name)(hx:h.get? x=some o)(hc:o.cls = .ref C)(hdn:o.dict=some dx)(hda:o.data = .fields vs)(hn:h.Ns dx m)(hm:m name=some v)(hh:handedOut v=pure v)(hq:Q v ⟨h,g,d,t+1,os⟩) :
  wpAny (model prog w) A (getAttr (.ref x) name expr) Q E ⟨h,g,d,t,os⟩:=by
 unfold getAttr
 repeat (any_goals (first|assumption|with_reducible apply load_by X Z hx hc hdn hda hn hm hh|wp_step))
theorem made{rest:List Value}{Q:PySem.Fin->Shared->Prop}(X:K.In h)(T:OwnTail h bmV bm)(hC:h.get? C=some (excClassObj nm q C N bs bm hdct sn sub ab col dd k0 k1 k2 k3 k5 "ValueError.__new__"))(hi:findIn K (.ref C) "__init__" = some (some (.ref fI)))(hf:typeIn K (.ref fI)=some (.type "function"))
  (hq:∀h' e,Heap.MadeExcOf h h' e (.ref C) rest->wpAny (model prog w) A (call (.ref fI) (.ref e::rest)) (λr s'=>r = .none/\Q (.done (.ret (.ref e))) s') E ⟨h',g,d,t,os⟩) (hrest:rest.length<=sizeLine) :
  wpAny (model prog w) A (Builtin.«type.__call__» ⟨.ref C::rest,[]⟩) Q E ⟨h,g,d,t,os⟩:=by
 have F:=PySem.F.excBase_ValueError
 repeat (first|with_reducible refine wpAny_loadPart_at hC ?_|with_reducible refine wpAny_madeBy_exc hC ?_|wp_step)
 refine codeAny_call_builtin_code (Code.quiet_builtin _ F.quiet) (wpAny_check_new_subU F F.hasB T hC ?_);refine codeAny_exc_new_subU F F.hasB F T hC ?_ hrest;show wpAny _ _ _ _ _ _;have hC₁:=Qqz { cls:=.ref C,data:=.fields #[.ref h.objs.size,.none,.none,.none,.bool false,.none] } (Qqz { cls:=.type "tuple",data:=.seq rest.toArray } hC);have X₁:K.In ((h.push { cls:=.type "tuple",data:=.seq rest.toArray }).push { cls:=.ref C,data:=.fields #[.ref h.objs.size,.none,.none,.none,.bool false,.none] }):=X.keeps λb o e=>Qqz _ (Qqz _ e);have hget:((h.push { cls:=.type "tuple",data:=.seq rest.toArray }).push { cls:=.ref C,data:=.fields #[.ref h.objs.size,.none,.none,.none,.bool false,.none] }).get? (h.objs.size+1)=some { cls:=.ref C,data:=.fields #[.ref h.objs.size,.none,.none,.none,.bool false,.none] }:=by heap_get
 have hcC:(Value.ref C::bm).contains (.ref C)=true:=by simp
 unfold isInstance
 repeat (first|with_reducible refine wpAny_loadPart_at hget ?_|(with_reducible refine wpAny_isSubtype_exc hC₁ ?_;rw[hcC])|wp_step)
 show wpAny _ _ (typeLookup (.ref C) _) _ _ _;refine(looks_findIn X₁ hi).at ?_;refine Qx6 (Qqq ?_);unfold bindSpecial;refine Qqq ((looks_typeIn X₁ hf).at ?_);rw[if_pos (by decide)];refine Qqv (Qqq (Qw6 (hq _ (h.objs.size+1) ⟨λb o hb=>Qqz _ (Qqz _ hb),Heap.get?_none_of_le (Qkx _),h.objs.size,hget,Heap.get?_none_of_le (Qqy _),?_⟩) (λr s' hr=>?_) λ_ _ z=>z))
 ·exact Qqz _ (Heap.get?_push_at rfl rfl)
 ·obtain⟨rfl,hQ⟩:=hr
  wp_walk
  exact hQ
theorem make{rest:List Value}{Q:Value->Shared->Prop}(X:K.In h)(T:OwnTail h bmV bm)(hC:h.get? C=some (excClassObj nm q C N bs bm hdct sn sub ab col dd k0 k1 k2 k3 k5 "ValueError.__new__"))(hi:findIn K (.ref C) "__init__" = some (some (.ref fI)))(hf:typeIn K (.ref fI)=some (.type "function"))
  (hq:∀h' e,Heap.MadeExcOf h h' e (.ref C) rest->wpAny (model prog w) (A.under (.builtin "type.__call__" ⟨.ref C::rest,[]⟩)) (call (.ref fI) (.ref e::rest)) (λr s'=>r = .none/\Q (.ref e) s') E ⟨h',g,d,t,os⟩) (hrest:rest.length<=sizeLine) :
  wpAny (model prog w) A (call (.ref C) rest) Q E ⟨h,g,d,t,os⟩:=by
 have f1:=tc_lookup;have f2:=tc_bind (.ref C);have hT:(⟨h,g,d,t,os⟩:Shared).TypeIs (.ref C) "type":=⟨_,hC,rfl⟩;refine wpAny_call (codeAny_of_tree ?_);show wpAny _ _ (callAny (.ref C) _) _ _ _
 repeat (any_goals (first|assumption|with_reducible refine wpAny_loadPart_at hC ?_|wp_step))
 refine⟨rfl,?_⟩;exact codeAny_call_builtin_at (Code.quiet_builtin _ (by decide +kernel)) entry_typeCall (wpAny_check_type_call_sub hC (made X T hC hi hf (λh' e hm=>hq h' e hm) hrest))
theorem raise_made{M:Model}{x:Sem Value}{Q:Flow->Shared->Prop}(hbase:bm.contains (.type "BaseException")=true)(hh:A.handled=none)
  (h:wpAny M A x (λv s₁=>∃e ob,v = .ref e/\s₁.heap.get? C=some (excClassObj nm q C N bs bm hdct sn sub ab col dd k0 k1 k2 k3 k5 "ValueError.__new__")/\s₁.heap.get? e=some ob/\ob.cls = .ref C/\(∃vs,ob.data = .fields vs/\vs[1]? = some .none)/\E (.ref e) s₁) E s):wpAny M A (raiseStmt env (some x) none) Q E s:=by
 have hcB:(Value.ref C::bm).contains (.type "BaseException")=true:=by rw[List.contains_cons,hbase,Bool.or_true]
 unfold raiseStmt;refine Qqq (Qw6 h (λv s₁ h₁=>?_) λ_ _ z=>z);obtain⟨e,ob,rfl,hC,he,hc,⟨vs,hd,h1⟩,hE⟩:=h₁;obtain⟨hp,g,d,tk,os⟩:=s₁;obtain⟨oc,od,oda,osl⟩:=ob;simp only at hc hd;subst hc hd;have hisT:∀(Q':Bool->Shared->Prop),Q' false ⟨hp,g,d,tk,os⟩->wpAny M A (isType (.ref e)) Q' E ⟨hp,g,d,tk,os⟩:=λQ' q=>by
  unfold isType loadHead;refine Qqq (wpAny_loadPart he ?_);exact Qqv q
 repeat (first|with_reducible refine hisT _ ?_|with_reducible refine wpAny_loadPart_at he ?_|with_reducible refine wpAny_loadPart_at hC ?_|(with_reducible refine wpAny_isSubtype_exc hC ?_;rw[hcB])|wp_step)
 rw[h1];refine Qqv ?_;rw[if_neg (by decide)];exact Qqv (wpAny_raiseNew_none hh hE)
theorem raises{x:Str}{np cpos pos:Pos}{args:List Expr}{Q:Flow->Shared->Prop}(hbase:bm.contains (.type "BaseException")=true)(hh:A.handled=none)(hplain:(backTo cpos (starEach args env)).any (·.1)=false)(hi:findIn K (.ref C) "__init__" = some (some (.ref fI)))(hf:typeIn K (.ref fI)=some (.type "function"))
  (h:wpAny (model prog w) A (eval (.Name x np) env) (λf s₁=>f = .ref C/\wpAny (model prog w) A (evalArgs (.ref C) true (backTo cpos (starEach args env)) [])
   (λa s₂=>a.kw=[]/\a.pos.length<=sizeLine/\s₂.heap.get? C=some (excClassObj nm q C N bs bm hdct sn sub ab col dd k0 k1 k2 k3 k5 "ValueError.__new__")/\K.In s₂.heap/\OwnTail s₂.heap bmV bm/\
    ∀h' e,Heap.MadeExcOf s₂.heap h' e (.ref C) a.pos->wpAny (model prog w) (A.under (.builtin "type.__call__" ⟨.ref C::a.pos,[]⟩)) (call (.ref fI) (.ref e::a.pos))
     (λr s₃=>r = .none/\s₃.heap.get? C=some (excClassObj nm q C N bs bm hdct sn sub ab col dd k0 k1 k2 k3 k5 "ValueError.__new__")/\(∃ob,s₃.heap.get? e=some ob/\ob.cls = .ref C/\∃vs,ob.data = .fields vs/\vs[1]? = some .none)/\E (.ref e) s₃) E { s₂ with heap:=h' }) E s₁) E s) :
  wpAny (model prog w) A (exec (.Raise (some (.Call (.Name x np) args [] cpos)) none pos) env) Q E s:=by
 rw[arm_exec_Raise];refine Qqq (wpAny_standAt (raise_made (C:=C) (nm:=nm) (q:=q) (N:=N) (bs:=bs) (bm:=bm) (hdct:=hdct) (sn:=sn) (sub:=sub) (ab:=ab) (col:=col) (dd:=dd) (k0:=k0) (k1:=k1) (k2:=k2) (k3:=k3) (k5:=k5) hbase hh
  (Qqq (Qw6 (wpAny_Call_ofName (Qw6 h (λf s₁ h₁=>?_) λ_ _ z=>z)) (λv s₃ h₃=>Qqq (wpAny_standAt (Qqv h₃))) λ_ _ z=>z))))
 obtain⟨rfl,h₁⟩:=h₁;unfold callWith;refine Qqq (Qx6 (Qw6 h₁ (λa s₂ h₂=>Qqq (wpAny_standAt ?_)) λ_ _ z=>z));obtain⟨apos,akw⟩:=a;obtain⟨hkw,hlen,hC,X,T,h₂⟩:=h₂;obtain rfl:akw=[]:=hkw;obtain⟨hp,g,d,tk,os⟩:=s₂;simp only[hplain];refine Qqq (wpAny_keeperOf_exc hC ?_);refine Qqq (make X T hC hi hf (λh' e hm=>Qw6 (h₂ h' e hm) (λr s₃ hr=>⟨hr.1,Qqq (Qx6 (wpAny_point (Qqv ?_)))⟩) λ_ _ z=>z) hlen);obtain⟨_,hC3,⟨ob,ho,hoc,hon⟩,hE⟩:=hr;exact⟨e,ob,rfl,hC3,ho,hoc,hon,hE⟩
end
def Hd(h B:Heap)(e:Addr)(fl:Value)(vs:Array Value):Prop:=∃T oT ts,vs[1]? = some (.ref T)/\B.get? T=none/\T≠e/\h.get? T=some oT/\oT.data = .fields ts/\ts[3]? = some fl
structure Fl(B:Heap)(l:List Env)(e:Addr)(cls:Value)(dd:Option Addr)(P:Array Value->Prop)(h:Heap):Prop where
 st:B.StaysIn h
 ne:B.get? e=none
 fr:h.FunFrames B l
 ob:∃oe vs,h.get? e=some oe/\oe.cls=cls/\oe.dict=dd/\oe.data = .fields vs/\P vs
section
variable{M:Model}{A:Around}{E:Value->Shared->Prop}{s:Shared}{B:Heap}{env:Env}{outer l:List Env}{L e:Addr}{cls:Value}{dd:Option Addr}
theorem entry_at{oe:Obj}{vs:Array Value}{head:Value}{hn:Bool}{Q:Unit->Shared->Prop}(hfr:A.frames=some (env::outer))(hl:s.heap.FunFrames B (env::outer))(hf:env.frame=some L)(st:B.StaysIn s.heap)(ne:B.get? e=none)
  (he:s.heap.get? e=some oe) (hc:oe.cls=cls) (hdd:oe.dict=dd) (hd:oe.data = .fields vs) (hz:1<vs.size) (h:∀h',Fl B (env::outer) e cls dd (Hd h' B e (rawInt L)) h'->s.heap.UpToSlots h'->Q () { s with heap:=h' }) :
  wpAny M A (do let a <-frameOf env;let pl <-entryPlaceOf L hn;let b <-EntryCells.newEntry head a .none (rawInt L) .none pl;setField (.ref e) 1 b) Q E s:=by
 have hene:e ∉ (env::outer).filterMap (·.frame):=λhm=>by
  obtain⟨_,o,ho,hnf⟩:=hl.mem hm;rw[he] at ho;cases ho;exact hnf vs hd
 refine Qqq (wpAny_frameOf_fun hfr hl hf λh1 hs=>?_);refine Qqq (wpAny_entryPlaceOf λpl hpl=>?_);unfold EntryCells.newEntry newFields;refine Qqq (Qxj ?_ (hpl.sizeOk5 _ _ _ _ _));have he1:h1.get? e=some oe:=(hs.2.1 e hene).trans he;have st1:B.StaysIn h1:=λb o q=>(hs.2.1 b λhm=>by rw[(hl.mem hm).1] at q;cases q).trans (st b o q);generalize hN:({ cls:=.type "traceback",dict:=none,data:=.fields ([head,.ref L,.none,rawInt L,.none]++(if pl.isEmpty then List.replicate 6 Value.none else pl)).toArray }:Obj)=N;have hNf:∃ts:Array Value,N.data = .fields ts/\ts[3]? = some (rawInt L)/\N.isFreed=false:=by subst hN;exact⟨_,rfl,by first|(simp;done)|(rcases hpl with rfl|⟨_,_,_,_,_,_,_,rfl⟩<;>simp),rfl⟩
 obtain⟨ts,hts,h3,hfr0⟩:=hNf;have he2:=Qqz N he1;refine wpAny_setField he2 hd hz (h _ ?_ ?_)
 ·have hTe:h1.objs.size≠e:=Qj2 (Qq7 he1);have hd3:=Obj.data_mapFields hd (·.setIfInBounds 1 (Value.ref h1.objs.size));have keep:∀b o,b≠e->h1.get? b=some o->((h1.push N).update e (Obj.mapFields (·.setIfInBounds 1 (Value.ref h1.objs.size)))).get? b=some o:=λb o hb q=>by
   rw[Heap.get?_update_other _ _ (Ne.symm hb)];exact Qqz _ q
  refine⟨λb o q=>keep b o (λz=>by rw[z,ne] at q;cases q) (st1 b o q),ne,hl.of_keeps λb o hb hnf=>?_,_,_,Heap.get?_update_self _ he2 (Obj.isFreed_of_fields hd3),(Obj.cls_mapFields _ _).trans hc,?_,hd3,h1.objs.size,N,ts,by simp[hz],st1.fresh,hTe,?_,hts,h3⟩
  ·obtain⟨sl,q⟩:=hs.2.2 b o hb;exact⟨_,keep b _ (λz=>by rw[z,he] at hb;cases hb;exact hnf vs hd) q,rfl⟩
  ·rw[<-hdd];obtain⟨oc,od,oda,osl⟩:=oe;cases oda<;>rfl
  ·rw[Heap.get?_update_other _ _ (Ne.symm hTe)];exact Qq5 _ hfr0
 ·intro b o hb hnf;obtain⟨sl,q⟩:=hs.2.2 b o hb;refine⟨sl,?_⟩;rw[Heap.get?_update_other _ _ (λz=>by rw[<-z,he] at hb;cases hb;exact hnf vs hd)];exact Qqz _ q
theorem note1{Q:Unit->Shared->Prop}(hfr:A.frames=some (env::outer))(hf:env.frame=some L)(F:Fl B (env::outer) e cls dd (λvs=>vs[1]? = some .none) s.heap)
  (h:∀h',Fl B (env::outer) e cls dd (Hd h' B e (rawInt L)) h'->s.heap.UpToSlots h'->Q () { s with heap:=h' }):wpAny M A (noteFrame (.ref e) env) Q E s:=by
 obtain⟨st,ne,fr,oe,vs,he,hc,hdd,hd,h1⟩:=F;unfold noteFrame;simp only[hf];refine Qqq (wpAny_field he hd h1 ?_);rw[if_neg (by decide)];exact entry_at hfr fr hf st ne he hc hdd hd (Array.getElem?_eq_some_iff.mp h1).1 h
theorem note2{Q:Unit->Shared->Prop}(hfr:A.frames=some (env::outer))(hf:env.frame=some L)(F:Fl B (env::outer) e cls dd (Hd s.heap B e .none) s.heap)
  (h:∀h',Fl B (env::outer) e cls dd (Hd h' B e (rawInt L)) h'->s.heap.UpToSlots h'->Q () { s with heap:=h' }):wpAny M A (noteFrame (.ref e) env) Q E s:=by
 obtain⟨st,ne,fr,oe,vs,he,hc,hdd,hd,T,oT,ts,h1,hnT,hTe,hT,hdT,h3⟩:=F;unfold noteFrame;simp only[hf];refine Qqq (wpAny_field he hd h1 ?_);rw[if_pos (show(Value.ref T != Value.none)=true from by simp)];refine Qqq (wpAny_field hT hdT h3 ?_);rw[if_neg (show ¬((Value.none == rawInt L)=true) from by simp[rawInt])];refine Qqq (wpAny_setField hT hdT (Array.getElem?_eq_some_iff.mp h3).1 ?_);have oth:∀b,b≠T->(s.heap.update T (Obj.mapFields (·.setIfInBounds 3 Value.none))).get? b=s.heap.get? b:=λb hb=>Heap.get?_update_other _ _ (Ne.symm hb);have nr:∀b o,s.heap.get? b=some o->(∀vs,o.data ≠ .fields vs)->b≠T:=λb o hb hn z=>by rw[z,hT] at hb;cases hb;exact hn ts hdT
 exact entry_at (s:={ s with heap:=_ }) hfr (fr.of_keeps λb o hb hn=>⟨o,(oth b (nr b o hb hn)).trans hb,rfl⟩) hf (λb o q=>(oth b λz=>by rw[z,hnT] at q;cases q).trans (st b o q)) ne ((oth e (Ne.symm hTe)).trans he) hc hdd hd (Array.getElem?_eq_some_iff.mp h1).1
  λh' f u=>h h' f λb o hb hn=>u b o ((oth b (nr b o hb hn)).trans hb) hn
theorem land{fl:Value}{Q:Unit->Shared->Prop}(F:Fl B l e cls dd (Hd s.heap B e fl) s.heap)(h:∀h',Fl B l e cls dd (Hd h' B e .none) h'->s.heap.UpToSlots h'->Q () { s with heap:=h' }):wpAny M A (setFlight (.ref e) none) Q E s:=by
 obtain⟨st,ne,fr,oe,vs,he,hc,hdd,hd,T,oT,ts,h1,hnT,hTe,hT,hdT,h3⟩:=F;have hz:3<ts.size:=(Array.getElem?_eq_some_iff.mp h3).1;have oth:∀b,b≠T->(s.heap.update T (Obj.mapFields (·.setIfInBounds 3 ((none:Option Addr).elim Value.none λf=>rawInt f)))).get? b=s.heap.get? b:=λb hb=>Heap.get?_update_other _ _ (Ne.symm hb);have nr:∀b o,s.heap.get? b=some o->(∀vs,o.data ≠ .fields vs)->b≠T:=λb o hb hn z=>by rw[z,hT] at hb;cases hb;exact hn ts hdT
 unfold setFlight;refine Qqq (wpAny_field he hd h1 ?_);rw[if_pos (show(Value.ref T != Value.none)=true from by simp)];refine wpAny_setField hT hdT hz (h _ ⟨λb o q=>(oth b λz=>by rw[z,hnT] at q;cases q).trans (st b o q),ne,fr.of_keeps λb o hb hn=>⟨o,(oth b (nr b o hb hn)).trans hb,rfl⟩,oe,vs,(oth e (Ne.symm hTe)).trans he,hc,hdd,hd,T,_,_,h1,hnT,hTe,Heap.get?_update_self _ hT (Obj.isFreed_of_fields (Obj.data_mapFields hdT _)),Obj.data_mapFields hdT _,by simp[hz]⟩ λb o hb hn=>⟨o.slots,(oth b (nr b o hb hn)).trans hb⟩)
theorem Fl.out{P:Array Value->Prop}{h:Heap}(F:Fl B (env::outer) e cls dd P h):Fl B outer e cls dd P h:=⟨F.st,F.ne,F.fr.2.2,F.ob⟩
theorem leaves1{Q:Unit->Shared->Prop}(hfr:A.frames=some (env::outer))(hf:env.frame=some L)(F:Fl B (env::outer) e cls dd (λvs=>vs[1]? = some .none) s.heap)(h:∀h',Fl B outer e cls dd (Hd h' B e .none) h'->s.heap.UpToSlots h'->Q () { s with heap:=h' }):wpAny M A (leaving env (.ref e)) Q E s:=by unfold leaving;exact Qqq (note1 hfr hf F λh1 f1 u1=>land (s:={ s with heap:=h1 }) f1 λh2 f2 u2=>h h2 f2.out (u1.trans u2))
theorem leaves2{Q:Unit->Shared->Prop}(hfr:A.frames=some (env::outer))(hf:env.frame=some L)(F:Fl B (env::outer) e cls dd (Hd s.heap B e .none) s.heap)(h:∀h',Fl B outer e cls dd (Hd h' B e .none) h'->s.heap.UpToSlots h'->Q () { s with heap:=h' }):wpAny M A (leaving env (.ref e)) Q E s:=by unfold leaving;exact Qqq (note2 hfr hf F λh1 f1 u1=>land (s:={ s with heap:=h1 }) f1 λh2 f2 u2=>h h2 f2.out (u1.trans u2))
end
end XC
namespace L2
open PySem PySem.Spec PyProof.Rows
theorem HOk.stays{P:Program}{w:World}{H:Hp}{h h':Heap}(x:HOk P w H h)(k:∀b u,H b≠none->h.get? b=some u->h'.get? b=some u):HOk P w H h':=λa o e=>
 (x a o e).stay (λb u hb q=>k b u (by
  rcases hb with rfl|hb
  ·rw[e];exact λz=>nomatch z
  ·rw[hb];exact λz=>nomatch z) q) (λ_ q=>q) λ_ _ q=>q
theorem ObjOk.obj{P:Program}{w:World}{H:Hp}{h:Heap}{a:Addr}{o:HO}(x:ObjOk P w H h a o):∃u,h.get? a=some u:=by
 cases o with
 | lst xs=>obtain⟨_,_,_,_,e⟩:=x;exact⟨_,e⟩
 | tup xs=>obtain⟨_,_,_,_,e,_⟩:=x;exact⟨_,e⟩
 | dK kvs=>obtain⟨_,_,_,_,_,_,_,e,_⟩:=x;exact⟨_,e⟩
 | dT kvs=>obtain⟨_,_,_,_,_,_,_,e,_⟩:=x;exact⟨_,e⟩
 | dN kvs=>obtain⟨_,_,_,_,_,_,_,e,_⟩:=x;exact⟨_,e⟩
 | set S n=>obtain⟨_,_,_,_,e,_⟩:=x;exact⟨_,e⟩
 | ins C dx fs=>obtain⟨_,_,_,e,_⟩:=x;exact⟨_,e⟩
 | own y=>exact x
 | xd fs=>obtain⟨_,⟨_,_,_,e,_⟩,_⟩:=x;exact⟨_,e⟩
 | rng lo hi=>obtain⟨_,_,_,e⟩:=x;exact⟨_,e⟩
 | frz ob u=>exact⟨_,x.1⟩
 | tbl ps=>exact⟨_,x⟩
 | tab qs=>obtain⟨_,e,_⟩:=x;exact⟨_,e⟩
 | met f y=>exact⟨_,x⟩
 | ext φ=>exact x.2.1
structure Flies(P:Program)(w:World)(outer:List Env)(H:Hp)(s:Shared)(C a:Addr)(dd:Option Addr)(H':Hp)(B:Heap)(s':Shared):Prop where
 os:s'.os=s.os
 bare:AllBare s'.gens
 same:Same H H'
 un:Un (frs outer) [] H H' s.heap s'.heap
 hok:HOk P w H' B
 fl:XC.Fl B outer a (.ref C) dd (XC.Hd s'.heap B a .none) s'.heap
 old:∀b o,s.heap.get? b=some o->H b=none->b ∉ frs outer->B.get? b=some o
def CXf(P:Program)(w:World):CXT:=λouter H s E e s'=>∃(a C:Addr) (dd:Option Addr) (H':Hp) (B:Heap),e = .ref a/\E (.ref C) dd H'/\Flies P w outer H s C a dd H' B s'
structure Top1(X:Cx):Prop where
 st:X.stack=X.env::X.outer
 fr:X.env.frame=some X.env.locals
 ex:X.ex=[]
section
variable{X:Cx}{pins:List (Addr×Obj)}{σ:St}{H:Hp}{s s':Shared}{h':Heap}{a C:Addr}{vs:List Value}{E E1:XK}{E':Value->Shared->Prop}
theorem Top1.nex(T:Top1 X)(b:Addr):b ∉ X.ex:=by rw[T.ex];exact λz=>nomatch z
theorem Top1.nf(T:Top1 X)(I:Inv X pins σ H s){b:Addr}{o:Obj}(e:X.s₀.heap.get? b=some o)(hb:b ∉ X.fs):b ∉ frs X.stack:=λhm=>by
 rw[T.st] at hm;unfold frs at hm;rw[Qzq,T.fr] at hm;rcases Qwq.mp hm with rfl|hm
 ·exact absurd (Qwx (Qq7 e) I.ok.above) (Qx9 _)
 ·exact hb hm
theorem Top1.sub(T:Top1 X){b:Addr}(hb:b∈X.fs):b∈frs X.stack:=by rw[T.st];unfold frs;rw[Qzq,T.fr];exact Qq4 _ hb
theorem Top1.nofld(I:Inv X pins σ H s){b:Addr}{o:Obj}(e:X.s₀.heap.get? b=some o)(hb:b∈X.fs):∀vs,o.data ≠ .fields vs:=by obtain⟨_,o',ho,hd⟩:=I.ok.funs.mem hb;rw[e] at ho;cases ho;exact hd
theorem unAny(I:Inv X pins σ H s)(T:Top1 X){H':Hp}{B h':Heap}(old:∀b o,X.s₀.heap.get? b=some o->X.H₀ b=none->b ∉ X.fs->B.get? b=some o)(st:B.StaysIn h')
  (slot:∀b o,X.s₀.heap.get? b=some o->X.H₀ b=none->b∈X.fs->∃sl,h'.get? b=some { o with slots:=sl }) (free:∀b o,X.s₀.heap.get? b=some o->X.H₀ b=none->H' b=none)
  (sm:Same X.H₀ H') (hok:HOk X.prog X.w H' B):Un X.fs [] X.H₀ H' X.s₀.heap h' where
 keep:=λb o e n hb _=>st b o (old b o e n hb)
 slot:=λb o e n hb _=>slot b o e n hb
 free:=λb o e n _=>free b o e n
 there:=λb o e _=>by
  by_cases n:X.H₀ b=none
  ·by_cases hb:b∈X.fs
   ·obtain⟨sl,q⟩:=slot b o e n hb;exact⟨_,q⟩
   ·exact⟨o,st b o (old b o e n hb)⟩
  ·cases q:X.H₀ b with
   | none=>exact absurd q n
   | some u=>
    obtain⟨v,hv⟩:=(hok b u (sm b u q)).obj;exact⟨v,st b v hv⟩
 tups:=λb xs q=>sm b _ q
 frzs:=λb o u q=>sm b _ q
 tbls:=λb ps q=>⟨#[],by rw[sm b _ q];simp⟩
 tabs:=λb qs q=>sm b _ q
theorem Inv.leave{dd:Option Addr}{oe:Obj}{fs:Array Value}(I:Inv X pins σ H s)(T:Top1 X)(sm:Same X.H₀ H)(hE:E (.ref C) dd H)(hn:H a=none)(hnew:X.s₀.heap.get? a=none)(he:s.heap.get? a=some oe)(hc:oe.cls = .ref C)(hdd:oe.dict=dd)(hd:oe.data = .fields fs)(h1:fs[1]? = some .none) :
  wpAny (model X.prog X.w) X.A (leaving X.env (.ref a)) (λ_ s''=>CXf X.prog X.w X.outer X.H₀ X.s₀ E (.ref a) s'') E' s:=by
 have nF:a ∉ frs X.stack:=λhm=>by
  obtain⟨_,o,ho,hnf⟩:=I.stack.mem hm;rw[he] at ho;cases ho;exact hnf fs hd
 have old:∀b o,X.s₀.heap.get? b=some o->X.H₀ b=none->b ∉ X.fs->(PySem.W.hideAll s.heap (a::frs X.stack)).get? b=some o:=λb o e n hb=>
  PySem.W.hideAll_get _ (I.base.keep b o e n hb (T.nex b)) (λz=>by
   rcases Qwq.mp z with z|z
   ·rw[z,hnew] at e;cases e
   ·exact T.nf I e hb z)
 have hok:HOk X.prog X.w H (PySem.W.hideAll s.heap (a::frs X.stack)):=HOk.stays I.hok λb u n q=>PySem.W.hideAll_get _ q λhm=>by
  rcases Qwq.mp hm with z|z
  ·exact n (z ▸ hn)
  ·exact n (I.stkFree b z)
 have ff:s.heap.FunFrames (PySem.W.hideAll s.heap (a::frs X.stack)) (X.env::X.outer):=by have:=I.stack;rw[T.st] at this ⊢;exact PySem.W.funFrames_hide this λenv he b hb=>Qq4 _ (List.mem_filterMap.mpr ⟨env,he,hb⟩)
 refine XC.leaves1 (by rw[I.ok.frames,T.st]) T.fr ⟨λb o q=>PySem.W.of_hideAll _ q,PySem.W.hideAll_none _ (Qq3 ..),ff,oe,fs,he,hc,hdd,hd,h1⟩ λh' f x4=>⟨a,C,dd,H,_,rfl,hE,I.os,I.bare,sm,?_,hok,f,old⟩;refine unAny I T old f.st (λb o e n hb=>?_) (λb o e n=>I.base.free b o e n (T.nex b)) sm hok;obtain⟨sl,e1⟩:=I.base.slot b o e n hb (T.nex b);obtain⟨sl',e2⟩:=x4 b _ e1 (by have z:=Top1.nofld I e hb;exact z);exact⟨sl',e2⟩
theorem Inv.leaveOn{e:Value}(I:Inv X pins σ H s)(T:Top1 X)(sm:Same X.H₀ H)(hE:∀C dd H',E1 (.ref C) dd H'->E (.ref C) dd H')(hc:CXf X.prog X.w X.stack H s E1 e s') :
  wpAny (model X.prog X.w) X.A (leaving X.env e) (λ_ s''=>CXf X.prog X.w X.outer X.H₀ X.s₀ E e s'') E' s':=by
 obtain⟨a,C,dd,H',B,rfl,h1,f⟩:=hc;have old:∀b o,X.s₀.heap.get? b=some o->X.H₀ b=none->b ∉ X.fs->B.get? b=some o:=λb o e n hb=>
  f.old b o (I.base.keep b o e n hb (T.nex b)) (I.base.free b o e n (T.nex b)) (T.nf I e hb)
 have sm':=sm.trans f.same;refine XC.leaves2 (by rw[I.ok.frames,T.st]) T.fr (by rw[<-T.st];exact f.fl) λh' x1 x2=>⟨a,C,dd,H',B,rfl,hE C dd H' h1,f.os.trans I.os,f.bare,sm',?_,f.hok,x1,old⟩;refine unAny I T old x1.st (λb o e n hb=>?_) (λb o e n=>?_) sm' f.hok
 ·obtain⟨sl,e1⟩:=I.base.slot b o e n hb (T.nex b);obtain⟨sl',e2⟩:=f.un.slot b _ e1 (I.base.free b o e n (T.nex b)) (T.sub hb) (λz=>nomatch z);obtain⟨sl3,e3⟩:=x2 b _ e2 (by have z:=Top1.nofld I e hb;exact z);exact⟨sl3,e3⟩
 ·obtain⟨o',e1⟩:=I.base.there b o e (T.nex b);exact f.un.free b o' e1 (I.base.free b o e n (T.nex b)) (λz=>nomatch z)
theorem Inv.untrack{φ:Heap->Prop}(I:Inv X pins σ H s)(ha:H a=some (.ext φ))(h0:X.H₀ a=none):Inv X pins σ (λb=>if b=a then none else H b) s:=by
 have up:∀{b:Addr} {u:HO},b≠a->H b=some u->(λb=>if b=a then none else H b) b=some u:=λhb q=>by show(if _ then _ else _)=_;rw[if_neg hb];exact q
 have nn:∀{b:Addr},H b=none->(λb=>if b=a then none else H b) b=none:=λq=>by show(if _ then _ else _)=_;split;rfl;exact q
 have z0:∀{b:Addr} {u:HO},X.H₀ b=some u->b≠a:=λq z=>by rw[z,h0] at q;cases q
 refine⟨I.ok,I.os,I.bare,⟨I.base.keep,I.base.slot,λb o e n hx=>nn (I.base.free b o e n hx),I.base.there,λb xs q=>up (z0 q) (I.base.tups b xs q),λb o u q=>up (z0 q) (I.base.frzs b o u q),λb ps q=>?_,λb qs q=>up (z0 q) (I.base.tabs b qs q)⟩,I.loc,I.cell,nn I.free,λx c e=>?_,λp hp=>?_,λb u e=>?_,I.len⟩
 ·obtain⟨more,e⟩:=I.base.tbls b ps q;exact⟨more,up (z0 q) e⟩
 ·rcases I.freeC x c e with q|⟨q1,o,u,q2⟩
  ·exact .inl (nn q)
  ·by_cases z:c=a
   ·exact .inl (by show(if _ then _ else _)=_;rw[if_pos z])
   ·exact .inr ⟨q1,o,u,up z q2⟩
 ·obtain⟨e,n,ne,nf,d⟩:=I.pin p hp;exact⟨e,nn n,ne,nf,d⟩
 ·by_cases z:b=a
  ·exfalso;have e':(if b=a then none else H b)=some u:=e;rw[if_pos z] at e';cases e'
  ·have e':(if b=a then none else H b)=some u:=e;rw[if_neg z] at e';refine(I.hok b u e').stay (λ_ _ _ q=>q) (λc q=>up (λy=>by rw[y,ha] at q;cases q) q) (λc xs q=>up (λy=>by rw[y,ha] at q;cases q) q) λc o' u' vs hd q=>up (λy=>by rw[y,ha] at q;cases q) q
abbrev exO(e:Addr)(o:Obj):HO:=.ext λh=>h.get? e=some o
theorem exO_ok{P:Program}{w:World}{H:Hp}{h:Heap}{e:Addr}{o:Obj}(q:h.get? e=some o):ObjOk P w H h e (exO e o):=⟨q,⟨o,q⟩,λh1 h2 p k=>k o p⟩
theorem Inv.xset{o od:Obj}{dx:Addr}{tk:Nat}(I:Inv X pins σ H s)(he:H a=some (exO a o))(k:∀b ob,b≠a->s.heap.get? b=some ob->h'.get? b=some ob)(h1:h'.get? a=some { o with dict:=some dx })(h2:s.heap.get? dx=none)(h3:dx≠a)(h4:h'.get? dx=some od) :
  H dx=none/\Inv X pins σ (upd (upd H a (exO a { o with dict:=some dx })) dx (.frz od (.own dx))) { s with heap:=h',toks:=tk }:=by
 have hdx:H dx=none:=by
  cases q:H dx with
  | none=>rfl
  | some u=>
   obtain⟨v,hv⟩:=(I.hok dx u q).obj;rw[h2] at hv;cases hv
 refine⟨hdx,?_⟩;have up:∀{b:Addr} {u:HO},b≠a->H b=some u->upd (upd H a (exO a { o with dict:=some dx })) dx (.frz od (.own dx)) b=some u:=λ{b u} z q=>by rw[upd_ne (ne_of_none q hdx),upd_ne z];exact q
 have na:∀{b:Addr},H b=none->b≠a:=λq z=>by rw[z,he] at q;cases q
 refine I.step (g':=s.gens) (d':=s.drawn) (ch:=[]) (λ_ z=>nomatch z) (λb ob _ _ _ e n=>k b ob (na n) e) (λb ob _ _ _ e n=>⟨ob.slots,k b ob (na n) e⟩) (λb ob _ e n=>?_) (λb ob _ e=>?_) (λb xs q=>up (λz=>by rw[z,he] at q;cases q) q) (λb ob u q=>up (λz=>by rw[z,he] at q;cases q) q) (λb ps q=>⟨#[],by rw[up (λz=>by rw[z,he] at q;cases q) q];simp⟩) (λm hn=>?_) (λb u q=>?_) I.bare (λb qs q=>up (λz=>by rw[z,he] at q;cases q) q)
 ·rw[upd_ne (λz=>by rw[z,h2] at e;cases e),upd_ne (na n)];exact n
 ·by_cases z:b=a
  ·exact⟨_,by rw[z];exact h1⟩
  ·exact⟨ob,k b ob z e⟩
 ·obtain⟨oL,es,ep,hoL,r⟩:=hn;exact⟨oL,es,ep,k _ _ (na I.free) hoL,r⟩
 ·by_cases zd:b=dx
  ·subst zd;rw[upd_same] at q;cases q;exact⟨h4,od,h4⟩
  ·rw[upd_ne zd] at q;by_cases z:b=a
   ·subst z;rw[upd_same] at q;cases q;exact exO_ok h1
   ·rw[upd_ne z] at q;refine(I.hok b u q).stay (λc ob hc e=>k c ob (λy=>?_) e) (λc y=>up (λx=>by rw[x,he] at y;cases y) y) (λc xs y=>up (λx=>by rw[x,he] at y;cases y) y) λc _ _ _ _ y=>up (λx=>by rw[x,he] at y;cases y) y;rcases hc with hc|hc
    ·exact z (hc ▸ y)
    ·rw[y,he] at hc;cases hc
theorem Inv.old_none(I:Inv X pins σ H s)(T:Top1 X)(h:s.heap.get? a=none):X.s₀.heap.get? a=none:=by
 cases q:X.s₀.heap.get? a with
 | none=>rfl
 | some o=>
  obtain⟨o',e⟩:=I.base.there a o q (T.nex a);rw[h] at e;cases e
theorem Inv.none_of(I:Inv X pins σ H s)(h:s.heap.get? a=none):H a=none:=by
 cases q:H a with
 | none=>rfl
 | some u=>
  obtain⟨v,hv⟩:=(I.hok a u q).obj;rw[h] at hv;cases hv
theorem Inv.laidN{o:HO}{tk:Nat}(I:Inv X pins σ H s)(k:∀b ob,s.heap.get? b=some ob->h'.get? b=some ob)(h2:s.heap.get? a=none)(new:ObjOk X.prog X.w (upd H a o) h' a o):Inv X pins σ (upd H a o) { s with heap:=h',toks:=tk }:=by
 have hn:=I.none_of h2;have up:∀{b:Addr} {u:HO},H b=some u->upd H a o b=some u:=λq=>by rw[upd_ne (ne_of_none q hn)];exact q
 refine I.step (g':=s.gens) (d':=s.drawn) (ch:=[]) (λ_ z=>nomatch z) (λb ob _ _ _ e _=>k b ob e) (λb ob _ _ _ e _=>⟨ob.slots,k b ob e⟩) (λb ob _ e n=>by rw[upd_ne (λz=>by rw[z,h2] at e;cases e)];exact n) (λb ob _ e=>⟨ob,k b ob e⟩) (λb xs q=>up q) (λb ob u q=>up q) (λb ps q=>⟨#[],by rw[up q];simp⟩) (λm hn=>?_) (λb u q=>?_) I.bare (λb qs q=>up q)
 ·obtain⟨oL,es,ep,hoL,r⟩:=hn;exact⟨oL,es,ep,k _ _ hoL,r⟩
 ·by_cases z:b=a
  ·subst z;rw[upd_same] at q;cases q;exact new
  ·rw[upd_ne z] at q;exact(I.hok b u q).stay (λc ob _ e=>k c ob e) (λc y=>up y) (λc xs y=>up y) λc _ _ _ _ y=>up y
end
end L2
namespace Ev
open PySem PySem.Spec PyProof.Rows L2
def isOwnD:D->Bool
 | .lst _=>true
 | .dct _=>true
 | .dcn _=>true
 | _=>false
theorem no_own{K:Fg}{F H:Hp}{d:D}{a:Addr}(h:isOwnD d=false)(o:OwnAt K F H d a):False:=by cases d<;>first|exact o.elim|cases h
def FX(R:D->Hp->Prop)(C:Cfg)(Pr F:Hp):Out->Prop
 | .rt true d env'=>isOwnD d=false/\∀σ' H' F',Rel C Pr F' env' σ' H'->Same F F'->R d H'
 | _=>True
theorem FX.mono{R:D->Hp->Prop}{C:Cfg}{Pr F F1:Hp}(s:Same F F1){o:Out}(h:FX R C Pr F o):FX R C Pr F1 o:=by
 unfold FX at h ⊢;split
 ·exact⟨h.1,λσ' H' F' r t=>h.2 σ' H' F' r (s.trans t)⟩
 ·trivial
def tX(R:D->Hp->Prop)(C:Cfg)(ev:EvS):TS:=λD σ H=>∃(Pr F:Hp) (env:Env),Rel C Pr F env σ H/\Fin C Pr F D (ev env)/\FX R C Pr F (ev env)
def PR(R:D->Hp->Prop)(X:Cx)(C:Cfg)(st:Stmt)(ev:EvS):Prop:=PS X st (tX R C ev)
def PRs(R:D->Hp->Prop)(X:Cx)(C:Cfg)(st:List Stmt)(ev:EvS):Prop:=PSs X st (tX R C ev)
section
variable{R:D->Hp->Prop}{X:Cx}{C:Cfg}{pos:Pos}
theorem ps_nox{st:Stmt}{t:TS}(h:PS X.nox st t):PS X st t:=λpins s σ H D I hw=>by
 refine Qw6 (h pins s σ H D (I.wish _) hw) (λf s1 q=>?_) λ_ _ z=>False.elim z;cases f with
 | next=>exact let ⟨σ',H',J,z⟩:=q;⟨σ',H',J.unwish,z⟩
 | brk=>exact let ⟨σ',H',J,z⟩:=q;⟨σ',H',J.unwish,z⟩
 | cont=>exact let ⟨σ',H',J,z⟩:=q;⟨σ',H',J.unwish,z⟩
 | ret u=>exact let ⟨v,σ',H',J,z⟩:=q;⟨v,σ',H',J.unwish,z⟩
theorem pa_nox{es:List Expr}{t:TA}(h:PA X.nox es t):PA X es t:=λpos pins s σ H Q I hw=>
 Qw6 (h pos pins s σ H Q (I.wish _) hw) (λ_ _ ⟨v,H',I',r,q⟩=>⟨v,H',I'.unwish,r,q⟩) λ_ _ z=>False.elim z
theorem pr_of{st:Stmt}{ev:EvS}(h:PXS X.nox C st ev):PR R X C st ev:=(ps_nox h).imp λD σ H ⟨Pr,F,env,r,f,_⟩=>⟨Pr,F,env,r,f⟩
theorem prs_of{st:List Stmt}{ev:EvS}(h:PXSs X.nox C st ev):PRs R X C st ev:=(PSs.nox h).imp λD σ H ⟨Pr,F,env,r,f,_⟩=>⟨Pr,F,env,r,f⟩
theorem prs_one{st:Stmt}{a:EvS}(h1:PR R X C st a):PRs R X C [st] a:=pss_one h1
theorem prs_cons{st:Stmt}{rest:List Stmt}{a b:EvS}(h1:PR R X C st a)(h2:PRs R X C rest b):PRs R X C (st::rest) (stSeq a b):=(pss_cons h1 h2).imp λD σ H h=>by
 obtain⟨Pr,F,env,r,f,x⟩:=h;refine⟨Pr,F,env,r,?_⟩;unfold stSeq at f x;cases e:a env with
 | nx e1=>rw[e] at f x;exact⟨λσ' H' F' r' s'=>⟨Pr,F',e1,r',f.mono s',x.mono s'⟩,trivial⟩
 | rt o d e1=>rw[e] at f x;cases o<;>exact⟨f,x⟩
 | bk e1=>rw[e] at f x;exact⟨f,x⟩
 | ct e1=>rw[e] at f x;exact⟨f,x⟩
 | stuck=>rw[e] at f;exact f.elim
theorem pr_if{c:Expr}{a b:List Stmt}{t:EvT}{ea eb:EvS}(hc:PXT X.nox C c t)(ha:PRs R X C a ea)(hb:PRs R X C b eb):PR R X C (.If c a b pos) (stIf t ea eb):=(ps_if (PT.nox hc) ha hb).imp λD σ H h=>by
 obtain⟨Pr,F,env,r,f,x⟩:=h;obtain⟨k,e1,e2,f1⟩:=bindO_fin f;have x1:FX R C Pr F (if k=true then ea e1 else eb e1):=by unfold stIf at x;rw[e2] at x;exact x
 refine⟨Pr,F,env,e1,k,r,e2,λH1 F1 r1 s1=>?_⟩;cases k with
 | true=>exact⟨Pr,F1,e1,r1,f1.mono s1,x1.mono s1⟩
 | false=>exact⟨Pr,F1,e1,r1,f1.mono s1,x1.mono s1⟩
end
def exV:D->Option V
 | .non=>some .non
 | .int n=>some (.int n)
 | _=>none
def ValX(t:Str)(d:D)(dd:Option Addr)(H:Hp):Prop:=match d with
 | .tup [d]=>∃(v:V) (w:Value) (dx:Addr) (od:Obj) (m:Str->Option Value),exV d=some v/\RelV v w/\dd=some dx/\H dx=some (.frz od (.own dx))/\(∀h:Heap,h.get? dx=some od->h.Ns dx m)/\m t=some w
 | _=>dd=none
def NewX(H:Hp)(dd:Option Addr):Prop:=∀dx,dd=some dx->H dx=none
abbrev bxX(P:Program)(w:World)(K:Fg)(mg:Str->Option Value)(base:Heap)(N:List Str)(qual:Str)(st:Stmt)(f:Addr)(cdv:Value)(A:Around)(outer:List PySem.Env)(s:Shared)(H:Hp)(E:XK):Cx:=cxOf (CXf P w) P w K mg base N qual (defScope st) f cdv A outer s H E
def EC(cl:Addr)(t:Str)(d:D)(H0:Hp):XK:=λv dd H=>v = .ref cl/\ValX t d dd H/\NewX H0 dd
def spX(K:Fg)(n:Nat)(c:List D->Option D)(cl:Addr)(t:Str):Sp:=λvs H _ E=>∃(F:Hp) (ds:List D) (d:D),ds.length=n/\Same F H/\Reps K F ds vs/\c ds=some d/\∀dd H',ValX t d dd H'->NewX H dd->E (.ref cl) dd H'
def runX(n:Nat)(ev:EvS)(ds:List D):Option D:=match ev (envOf n ds) with
 | .rt true d _=>if isOwnD d=true then none else some d
 | _=>none
def tEX(R:D->Hp->Prop)(C:Cfg)(c:Ev):TE:=λσ H _=>∃(Pr F:Hp) (env env':Env) (d:D),Rel C Pr F env σ H/\c env = .ok d env'/\∀H' F',Rel C Pr F' env' σ H'->Same F F'->R d H'
def PXX(R:D->Hp->Prop)(X:Cx)(C:Cfg)(e:Expr)(c:Ev):Prop:=PE X e (tEX R C c)
def OwnX(P:Program)(w:World)(K:Fg)(mg:Str->Option Value)(base:Heap)(x:Str)(k:Nat)(ps:List Str)(sp:Sp):Prop:=
 ∃f fd,FnOk P w K mg base (CXf P w) k f fd ps sp/\mg x=some (.ref f)/\PySem.W.keepIn K (.ref f)=true/\Binds K fd ps []
abbrev RX(H:Hp)(d:D):D->Hp->Prop:=λd' H'=>d'=d/\Same H H'
section
variable{P:Program}{w:World}{K:Fg}{mg:Str->Option Value}{base:Heap}{x qual t:Str}{st:Stmt}{f:Addr}{fd:FuncData}{N ps:List Str}{k:Nat}{ev:EvS}{cdv:Value}{A:Around}{outer:List PySem.Env}{s:Shared}{H:Hp}{E:XK}{cl:Addr}{d:D}{R:D->Hp->Prop}{X:Cx}{C:Cfg}{pos p:Pos}{e:Expr}{es:List Expr}{c:Ev}{n:Nat}
theorem top_bxX:Top1 (bxX P w K mg base N qual st f cdv A outer s H E):=⟨rfl,rfl,rfl⟩
theorem own_raise(F:FunAt K mg x st ps)(S:FnScope N ps (defScope st))(cl:Addr)(t:Str)
  (hb:∀(f:Addr) (cdv:Value) (A:Around) (outer:List PySem.Env) (s:Shared) (H:Hp) (E:XK) (d:D),Room k (A.deeper (envOfC x (defScope st) s.heap.objs.size f cdv))->(∀dd H',ValX t d dd H'->NewX H dd->E (.ref cl) dd H')->Good (bx P w K mg base N x st f cdv A outer s H E) (C0 K)->
   PRs (RX H d) (bxX P w K mg base N x st f cdv A outer s H E) (C0 K) (defBody st) ev) :
  OwnX P w K mg base x (k+1) ps (spX K ps.length (runX N.length ev) cl t):=by
 obtain⟨f,fd,h1,h2,h3⟩:=F;have kp:=h1.kp;refine⟨f,fd,?_,h2,kp,h3⟩;obtain⟨oc,od,kV,doc,pm,an,cdv,ct,osl,rfl,lk,hcd⟩:=h1.ex;refine fn_of lk hcd S (λvs H Q E h=>?_) (λA outer s H vs Q E hr h=>?_)
 ·obtain⟨F0,ds,d,hl,_,p,_⟩:=h;rw[p.length,hl]
 ·obtain⟨F0,ds,d,hl,sF,p,e,q⟩:=h;refine⟨_,hb f cdv A outer s H E d hr q (good_bx rfl hr),mns H F0,F0,envOf N.length ds,rel_start sF p,?_⟩;unfold runX at e;split at e
  ·rename_i d' env' h1;rw[h1];split at e
   ·cases e
   ·rename_i ho;cases e;have ho':isOwnD d=false:=by cases z:isOwnD d with|false=>rfl|true=>exact absurd z ho
    exact⟨λa σ' H' F' r' s' n'=>(no_own ho' n'.own).elim,ho',λσ' H' F' r' s'=>⟨rfl,Same.of_mns r'.pr s' r'.fr sF⟩⟩
  ·cases e
theorem xe_made(hE:∀dd H',ValX t d dd H'->NewX H dd->E (.ref cl) dd H')(pins:List (Addr×Obj))(σ:L2.St)(H0 H1:Hp)(s1:Shared)(b:Addr)(d':D)(dd:Option Addr)(oe:Obj)(fs:Array Value)(I:Inv (bxX P w K mg base N qual st f cdv A outer s H E) pins σ H1 s1)(r:RX H d d' H0)(sm:Same H0 H1)
  (v:ValX t d' dd H1) (nw:NewX H dd) (hn:H1 b=none) (hw:s.heap.get? b=none) (he:s1.heap.get? b=some oe) (hc:oe.cls = .ref cl) (hdd:oe.dict=dd) (hd:oe.data = .fields fs) (h1:fs[1]? = some .none):(bxX P w K mg base N qual st f cdv A outer s H E).xe (.ref b) s1:=
 Inv.leave (E:=E) (E':=λe' s''=>CXf P w outer H s E e' s'') I top_bxX (r.2.trans sm) (hE _ _ (r.1 ▸ v) nw) hn hw he hc hdd hd h1
theorem xe_on(hE:∀dd H',ValX t d dd H'->NewX H dd->E (.ref cl) dd H')(pins:List (Addr×Obj))(σ:L2.St)(H1:Hp)(s1:Shared)(e:Value)(s':Shared)(d':D)(I:Inv (bxX P w K mg base N qual st f cdv A outer s H E) pins σ H1 s1)(r:RX H d d' H1)
  (m:CXf P w (bxX P w K mg base N qual st f cdv A outer s H E).stack H1 s1 (EC cl t d' H1) e s'):(bxX P w K mg base N qual st f cdv A outer s H E).xe e s':=
 I.leaveOn top_bxX r.2 (λC dd H' z=>by obtain⟨z,y,nw⟩:=z;cases z;exact hE _ _ (r.1 ▸ y) λdx e=>r.2.free (nw dx e)) m
def evCallX(cc:List D->Option D)(a:EvA):Ev:=λenv=>bindR (a env) λds env1=>match cc ds with
 | some d=>.ok d env1
 | none=>.stuck
theorem pxx_call{cc:List D->Option D}{cl:Addr}{a:EvA}{ps:List Str}(G:OwnX X.prog X.w X.K X.mg X.base x k ps (spX C.K n cc cl t))(hr:Room k X.A)(hg:Gl X x)(ha:PXA X.nox C (e::es) a)
  (hn:∀env ds env',a env = .ok ds env'->ds.length=n)
  (hxe:∀(pins:List (Addr×Obj)) (σ:L2.St) (H:Hp) (s:Shared) (e:Value) (s':Shared) (d:D),Inv X pins σ H s->R d H->CXf X.prog X.w X.stack H s (EC cl t d H) e s'->X.xe e s')
  (hdb:nDb x:=by decide) (he:starEach (e::es) X.env=(false,eval e X.env)::starEach es X.env:=by rfl) (hpl:(backTo pos (starEach es X.env)).any (·.1)=false:=by rfl) :
  PXX R X C (.Call (.Name x p) (e::es) [] pos) (evCallX cc a):=by
 intro pins s σ H Q I h;obtain⟨Pr,F,env,env',d,r,e1,q⟩:=h;obtain⟨f,fd,G,hm,hk,hb⟩:=G;obtain⟨ds,env1,e2,e3⟩:=bindR_ok e1;split at e3
 ·rename_i d0 hc;cases e3;refine wpAny_Call_Name_kw (ld_glob I hg hm ?_ hdb);refine PySem.W.callWith_K (h₀:=X.base) I.ok.mod.kin hk (thn (pa_nox ha pos pins s σ H (λvs H1=>spX C.K n cc cl t vs H1 Q (EC cl t d H1)/\R d H1) I
   ⟨Pr,F,env,env',ds,r,e2,λvs H' F' r' s' p'=>⟨⟨F',ds,d,hn _ _ _ e2,r'.fr,p',hc,λdd H' z nw=>⟨rfl,z,nw⟩⟩,q H' F' r' s'⟩⟩) λus s1 ⟨vs,H1,I1,rv,q1,hR⟩=>⟨I1.kIn,?_⟩) he hpl
  have hl:us.length=ps.length:=by rw[<-rv.length];exact G.len _ _ _ _ q1
  have hb':=hb s1 us I1.kIn (by rw[Qxx];exact hl);rw[Qxx] at hb';refine wpAny_call (Qj8 (G.run X.A X.stack s1 H1 ⟨us,[]⟩ us vs Q (EC cl t d H1) hr I1.env0 hb' rv q1) λr s' hq=>?_);cases r with
  | error e=>exact hxe pins σ H1 s1 e s' d I1 hR hq
  | ok fl=>
   cases fl with
   | ret u=>exact I1.after hq
   | next=>exact False.elim hq
   | brk=>exact False.elim hq
   | cont=>exact False.elim hq
 ·cases e3
def stAlt(c:Ev)(ev:EvS):EvS:=λenv=>match c env with
 | .ok d env1=>.rt true d env1
 | _=>ev env
theorem pr_alt{ev:EvS}(h:PXX R X C e c)(hn:PXS X.nox C (.Expr e pos) ev)(hs:swapsWith e none pos.line X.env=pure false:=by rfl):PR R X C (.Expr e pos) (stAlt c ev):=λpins s σ H D I z=>by
 obtain⟨Pr,F,env,r,f,y⟩:=z;unfold stAlt at f y;split at f
 ·rename_i d env1 e1;rw[e1] at y;exact ps_expr h hs pins s σ H D I ⟨Pr,F,env,env1,d,r,e1,λH' F' r' s'=>y.2 σ H' F' r' s'⟩
 ·exact ps_nox hn pins s σ H D I ⟨Pr,F,env,r,f⟩
end
end Ev
namespace L2
open PySem PySem.Spec PyProof.Rows
theorem unOf{P:Program}{w:World}{fs:List Addr}{H H':Hp}{h B h':Heap}(old:∀b o,h.get? b=some o->H b=none->b ∉ fs->B.get? b=some o)(st:B.StaysIn h')
  (slot:∀b o,h.get? b=some o->H b=none->b∈fs->∃sl,h'.get? b=some { o with slots:=sl }) (free:∀b o,h.get? b=some o->H b=none->H' b=none)
  (sm:Same H H') (hok:HOk P w H' B):Un fs [] H H' h h' where
 keep:=λb o e n hb _=>st b o (old b o e n hb)
 slot:=λb o e n hb _=>slot b o e n hb
 free:=λb o e n _=>free b o e n
 there:=λb o e _=>by
  cases n:H b with
  | none=>
   by_cases hb:b∈fs
   ·obtain⟨sl,q⟩:=slot b o e n hb;exact⟨_,q⟩
   ·exact⟨o,st b o (old b o e n hb)⟩
  | some u=>
   obtain⟨v,hv⟩:=(hok b u (sm b u n)).obj;exact⟨v,st b v hv⟩
 tups:=λb xs q=>sm b _ q
 frzs:=λb o u q=>sm b _ q
 tbls:=λb ps q=>⟨#[],by rw[sm b _ q];simp⟩
 tabs:=λb qs q=>sm b _ q
section
variable{X:Cx}{pins:List (Addr×Obj)}{σ:St}{H H':Hp}{s s':Shared}{a C:Addr}{t:Option Addr}{B h':Heap}
theorem Inv.caught(I:Inv X pins σ H s)(f:Flies X.prog X.w X.stack H s C a t H' B s'){Pv:Array Value->Prop}(fl:XC.Fl B X.stack a (.ref C) t Pv h')(up:s'.heap.UpToSlots h'):Inv X pins σ H' { s' with heap:=h' }:=by refine I.call' (s':={ s' with heap:=h' }) (ch:=[]) f.os (unOf f.old fl.st (λb o e n hb=>?_) (λb o e n=>f.un.free b o e n (λz=>nomatch z)) f.same f.hok) (f.hok.kept fl.st) f.bare (λb z=>nomatch z);obtain⟨sl,e1⟩:=f.un.slot b o e n hb (λz=>nomatch z);obtain⟨_,o',e2,hd⟩:=f.fl.fr.mem hb;rw[e1] at e2;cases e2;obtain⟨sl',e3⟩:=up b _ e1 hd;exact⟨sl',e3⟩
theorem Flies.new(f:Flies X.prog X.w X.stack H s C a t H' B s'):H' a=none:=by
 cases q:H' a with
 | none=>rfl
 | some u=>
  obtain⟨v,hv⟩:=(f.hok a u q).obj;rw[f.fl.ne] at hv;cases hv
theorem Flies.ne(f:Flies X.prog X.w X.stack H s C a t H' B s'){b:Addr}{o:Obj}(e:s.heap.get? b=some o)(n:H b=none)(hb:b ∉ frs X.stack):b≠a:=λz=>by
 have:=f.old b o e n hb;rw[z,f.fl.ne] at this;cases this
theorem Flies.nofr(f:Flies X.prog X.w X.stack H s C a t H' B s'):a ∉ frs X.stack:=λhb=>by
 obtain⟨_,o',e2,hd⟩:=f.fl.fr.mem hb;obtain⟨oe,vs,h1,_,_,h3,_⟩:=f.fl.ob;rw[e2] at h1;cases h1;exact hd _ h3
theorem Inv.known{oe:Obj}(T:Top1 X)(I:Inv X pins σ H s)(f:Flies X.prog X.w X.stack H s C a t H' B s')(J:Inv X pins σ H' { s' with heap:=h' })(ho:h'.get? a=some oe) :
  Inv X pins σ (upd H' a (.frz oe (.own a))) { s' with heap:=h' }:=by
 have hn:=f.new;have hnf:=f.nofr;have nL:a≠X.env.locals:=λz=>hnf (by rw[T.st];unfold frs;rw[Qzq,T.fr,z];exact Qq3);have up:∀{b:Addr} {u:HO},H' b=some u->upd H' a (.frz oe (.own a)) b=some u:=λ{b u} q=>by rw[upd_ne (ne_of_none q hn)];exact q
 have un:∀{b:Addr},H' b=none->b≠a->upd H' a (.frz oe (.own a)) b=none:=λ{b} q z=>by rw[upd_ne z];exact q
 refine⟨J.ok,J.os,J.bare,⟨J.base.keep,J.base.slot,λb o e n hx=>un (J.base.free b o e n hx) ?_,J.base.there,λb xs q=>up (J.base.tups b xs q),λb o u q=>up (J.base.frzs b o u q),λb ps q=>?_,λb qs q=>up (J.base.tabs b qs q)⟩,J.loc,J.cell,un J.free (Ne.symm nL),λx c e=>?_,λp hp=>?_,λb u e=>?_,J.len⟩
 ·by_cases hb:b∈X.fs
  ·exact λz=>hnf (z ▸ T.sub hb)
  ·exact f.ne (I.base.keep b o e n hb hx) (I.base.free b o e n hx) (T.nf I e hb)
 ·obtain⟨more,e⟩:=J.base.tbls b ps q;exact⟨more,up e⟩
 ·rcases J.freeC x c e with q|⟨q1,o,u,q2⟩
  ·refine .inl (un q λz=>?_);obtain⟨v,oc,hc,_⟩:=I.cell x c e;have n1:H c=none:=by
    cases q1:H c with
    | none=>rfl
    | some u=>rw[f.same c u q1] at q;cases q
   exact f.ne hc n1 (z ▸ hnf) z
  ·exact .inr ⟨q1,o,u,up q2⟩
 ·obtain⟨e,n,ne,nf,d⟩:=J.pin p hp;obtain⟨e',n',_,_,_⟩:=I.pin p hp;refine⟨e,un n (f.ne e' n' λhm=>?_),ne,nf,d⟩;rw[T.st] at hm;unfold frs at hm;rw[Qzq,T.fr] at hm;rcases Qwq.mp hm with z|z
  ·exact ne z
  ·exact nf z
 ·by_cases hb:b=a
  ·subst hb;rw[upd_same] at e;cases e;exact⟨ho,oe,ho⟩
  ·rw[upd_ne hb] at e;exact(J.hok b u e).stay (λ_ _ _ q=>q) (λc q=>up q) (λc xs q=>up q) λc _ _ _ _ q=>up q
theorem Inv.gone{n:Str}{v:Option Value}{m:Str->Option Value}{tk:Nat}(I:Inv X pins σ H s)(hl:∀(i:Nat) (x:Str) (v:V),X.N[i]? = some x->σ[i]? = some (some v)->Vis X.env.scope x->∃u,RelV v u/\Look X.env s.heap m x u)
  (hn:h'.Ns X.env.locals (λx=>if x=n then v else m x)) (hs:Heap.SameBut X.env.locals s.heap h') (no:∀(i:Nat) (v:V),X.N[i]? = some n->σ[i]? = some (some v)->False):Inv X pins σ H { s with heap:=h',toks:=tk }:=by
 have nl:∀{b:Addr} {o:Obj},X.s₀.heap.get? b=some o->b≠X.env.locals:=λe=>Qwz (Qwx (Qq7 e) I.ok.above);refine⟨I.ok,I.os,I.bare,⟨λb o e q hb hx=>(hs.2 b (nl e)).trans (I.base.keep b o e q hb hx),λb o e q hb hx=>?_,I.base.free,λb o e hx=>?_,I.base.tups,I.base.frzs,I.base.tbls,I.base.tabs⟩,⟨_,hn,λi x u e1 e2 e3=>?_⟩,λy c e=>?_,I.free,I.freeC,λp hp=>?_,?_,I.len⟩
 ·obtain⟨sl,e1⟩:=I.base.slot b o e q hb hx;exact⟨sl,(hs.2 b (nl e)).trans e1⟩
 ·obtain⟨o',e1⟩:=I.base.there b o e hx;exact⟨o',(hs.2 b (nl e)).trans e1⟩
 ·obtain⟨u',r',q⟩:=hl i x u e1 e2 e3;refine⟨u',r',?_⟩;rcases q with ⟨k,e⟩|⟨k,c,e,z⟩
  ·refine .inl ⟨k,?_⟩;have:x≠n:=λz=>no i u (z ▸ e1) e2;simp[this,e]
  ·exact .inr ⟨k,c,e,z.sameBut hs (I.cne x c e)⟩
 ·obtain⟨w',z⟩:=I.cell y c e;exact⟨w',z.sameBut hs (I.cne y c e)⟩
 ·obtain⟨e,n,ne,nf,d⟩:=I.pin p hp;exact⟨(hs.2 p.1 ne).trans e,n,ne,nf,d⟩
 ·exact HOk.stays I.hok λb u q e=>(hs.2 b λz=>q (z ▸ I.free)).trans e
abbrev Cx.suite(X:Cx)(v:Value):Cx:={ X with A:=X.A.mark (some v),calm:=false,xe:=λ_ _=>False }
theorem Inv.suite(I:Inv X pins σ H s)(v:Value):Inv (X.suite v) pins σ H s:=
 ⟨⟨I.ok.mod,I.ok.kind,I.ok.glob,I.ok.blt,I.ok.above,I.ok.inj,I.ok.has,I.ok.cab,(λz=>nomatch z),I.ok.frames,I.ok.stk,I.ok.exf,I.ok.bs,I.ok.bsz,I.ok.noex,I.ok.exfs,I.ok.funs,I.ok.frf⟩,I.os,I.bare,I.base,I.loc,I.cell,I.free,I.freeC,I.pin,I.hok,I.len⟩
theorem Inv.behind{v:Value}(K:X.Ok)(I:Inv (X.suite v) pins σ H s):Inv X pins σ H s:=
 ⟨K,I.os,I.bare,I.base,I.loc,I.cell,I.free,I.freeC,I.pin,I.hok,I.len⟩
end
end L2
namespace Ev
open PySem PySem.Spec PyProof.Rows L2
def xcV(n t:Str)(d:D):D:=match d with
 | .tup [d]=>.clo (.Nonlocal [n,t] ⟨0,0,0,0⟩) [d]
 | _=>.clo (.Nonlocal [n] ⟨0,0,0,0⟩) []
theorem xcV_rep{K:Fg}{F:Hp}{n t:Str}{d:D}{a c:Addr}{o:Obj}{u:HO}{fs:Array Value}(hn:PySem.W.nsIn K mainGlobals n=some (some (.ref c)))(ha:F a=some (.frz o u))(hc:o.cls = .ref c)(hd:o.data = .fields fs)(hv:ValX t d o.dict F):Rep K F (xcV n t d) (.ref a):=by
 by_cases z:∃d0,d = .tup [d0]
 ·obtain⟨d0,rfl⟩:=z;obtain⟨v,w,dx,od,m,h1,h2,h3,h4,h5,h6⟩:=hv;refine⟨a,[v],rfl,.inr (.inr ⟨n,[t],_,o,u,c,fs,rfl,hn,ha,hc,hd,.inr ⟨t,v,w,dx,od,_,m,rfl,rfl,h2,h3,h4,h5,h6⟩⟩),?_⟩;have:Rep K F d0 v:=by
   unfold exV at h1;split at h1<;>cases h1<;>rfl
  exact⟨v,[],rfl,this,rfl⟩
 ·have e:xcV n t d = .clo (.Nonlocal [n] ⟨0,0,0,0⟩) []:=by
   unfold xcV;split
   ·rename_i d0;exact absurd ⟨d0,rfl⟩ z
   ·rfl
  rw[e];exact⟨a,[],rfl,.inr (.inr ⟨n,[],_,o,u,c,fs,rfl,hn,ha,hc,hd,.inl ⟨rfl,rfl⟩⟩),rfl⟩
theorem Rel.drop{C:Cfg}{Pr F:Hp}{env:Env}{σ:L2.St}{H:Hp}{i:Nat}(r:Rel C Pr F env σ H)(hfx:C.fx i=none)(he:∀x,env[i]? ≠ some (some x)):Rel C Pr F env (σ.set i none) H:=by
 have g:∀(j:Nat) (x:Bool×D) (v:Option V),env[j]? = some (some x)->σ[j]? = some v->(σ.set i none)[j]? = some v:=λj x v e q=>by
  rw[Qqw (λz:i=j=>by subst z;exact he x e)];exact q
 have g':∀(j:Nat) (x:Bool×D) (v:V),env[j]? = some (some x)->(σ.set i none)[j]? = some (some v)->σ[j]? = some (some v):=λj x v e q=>by
  rw[Qqw (λz:i=j=>by subst z;exact he x e)] at q;exact q
 refine⟨r.pr,r.fr,by rw[Qwy];exact r.len,λj d e=>?_,λj d e=>?_,λj k d e a h1 h2 h3 h4=>r.apart j k d e a h1 h2 (g' _ _ _ h1 h3) (g' _ _ _ h2 h4),r.dj,λj a e=>?_⟩
 ·obtain⟨v,h1,h2⟩:=r.val j d e;exact⟨v,g _ _ _ e h1,h2⟩
 ·obtain⟨a,h1,h2⟩:=r.own j d e;exact⟨a,g _ _ _ e h1,h2⟩
 ·rw[Qqw (λz:i=j=>by subst z;rw[hfx] at e;cases e)];exact r.fix j a e
theorem Rel.held{C:Cfg}{Pr F:Hp}{env:Env}{σ:L2.St}{H H':Hp}{t:Str}{d:D}{dd:Option Addr}(r:Rel C Pr F env σ H)(s:Same H H')(v:ValX t d dd H')(nw:NewX H dd):∃F',Rel C Pr F' env σ H'/\Same F F'/\ValX t d dd F':=by
 by_cases z:∃d0,d = .tup [d0]
 ·obtain⟨d0,rfl⟩:=z;obtain⟨v,w,dx,od,m,h1,h2,h3,h4,h5,h6⟩:=v;have hn:=nw dx h3;obtain⟨r2,s2⟩:=Rel.new (a:=dx) (o:=.frz od (.own dx)) r hn;refine⟨_,r2.grow λb o e=>?_,s2,v,w,dx,od,m,h1,h2,h3,upd_same,h5,h6⟩;by_cases y:b=dx
  ·subst y;rw[upd_same] at e;cases e;exact h4
  ·rw[upd_ne y] at e;exact s b o e
 ·refine⟨F,r.grow s,Same.refl F,?_⟩;unfold ValX at v ⊢;split
  ·rename_i d0;exact absurd ⟨d0,rfl⟩ z
  ·split at v
   ·rename_i h _ _ ;exact absurd ⟨_,rfl⟩ z
   ·exact v
theorem ValX.mono{t:Str}{d:D}{dd:Option Addr}{F F':Hp}(v:ValX t d dd F)(s:Same F F'):ValX t d dd F':=by
 unfold ValX at v ⊢;split at v
 ·obtain⟨v,w,dx,od,m,h1,h2,h3,h4,h5,h6⟩:=v;exact⟨v,w,dx,od,m,h1,h2,h3,s _ _ h4,h5,h6⟩
 ·exact v
section
variable{X:Cx}{C:Cfg}{pos p:Pos}{x t:Str}{e:Expr}{es:List Expr}{c:Ev}{m k:Nat}{cl:Addr}
def RawX(X:Cx)(C:Cfg)(st:Stmt)(c:Ev)(cl:Addr)(t:Str):Prop:=∀(pins:List (Addr×Obj)) (s:Shared) (σ:L2.St) (H Pr F:Hp) (env env':Env) (d:D) (E':Value->Shared->Prop),Inv X pins σ H s->Rel C Pr F env σ H->c env = .ok d env'->
 (∀(H1 F1:Hp) (s1:Shared) (v:Value) (s':Shared),Inv X pins σ H1 s1->Rel C Pr F1 env' σ H1->Same F F1->CXf X.prog X.w X.stack H1 s1 (EC cl t d H1) v s'->E' v s')->wpAny (model X.prog X.w) X.A (exec st X.env) (λ_ _=>False) E' s
theorem raw_call{cc:List D->Option D}{a:EvA}{ps:List Str}(G:OwnX X.prog X.w X.K X.mg X.base x k ps (spX C.K m cc cl t))(hr:Room k X.A)(hg:Gl X x)(ha:PXA X.nox C (e::es) a)
  (hn:∀env ds env',a env = .ok ds env'->ds.length=m) {pins:List (Addr×Obj)} {s:Shared} {σ:L2.St} {H Pr F:Hp} {env env':Env} {d:D} {E':Value->Shared->Prop} (I:Inv X pins σ H s) (r:Rel C Pr F env σ H) (e1:evCallX cc a env = .ok d env')
  (hxe:∀(H1 F1:Hp) (s1:Shared) (v:Value) (s':Shared),Inv X pins σ H1 s1->Rel C Pr F1 env' σ H1->Same F F1->CXf X.prog X.w X.stack H1 s1 (EC cl t d H1) v s'->E' v s')
  (hdb:nDb x:=by decide) (he:starEach (e::es) X.env=(false,eval e X.env)::starEach es X.env:=by rfl) (hpl:(backTo pos (starEach es X.env)).any (·.1)=false:=by rfl) :
  wpAny (model X.prog X.w) X.A (eval (.Call (.Name x p) (e::es) [] pos) X.env) (λ_ _=>False) E' s:=by
 obtain⟨f,fd,G,hm,hk,hb⟩:=G;obtain⟨ds,env1,e2,e3⟩:=bindR_ok e1;split at e3
 ·rename_i d0 hc;cases e3;refine wpAny_Call_Name_kw (ld_glob I hg hm ?_ hdb);refine PySem.W.callWith_K (h₀:=X.base) I.ok.mod.kin hk (Qw6 (ha pos pins s σ H (λvs H1=>∃F1,Rel C Pr F1 env' σ H1/\Same F F1/\spX C.K m cc cl t vs H1 (λ_ _=>False) (EC cl t d H1)) (I.wish _)
   ⟨Pr,F,env,env',ds,r,e2,λvs H' F' r' s' p'=>⟨F',r',s',F',ds,d,hn _ _ _ e2,r'.fr,p',hc,λdd H' z nw=>⟨rfl,z,nw⟩⟩⟩) (λus s1 ⟨vs,H1,I1,rv,F1,r1,sF,q1⟩=>⟨I1.unwish.kIn,?_⟩) λ_ _ z=>False.elim z) he hpl
  have I1:=I1.unwish;have hl:us.length=ps.length:=by rw[<-rv.length];exact G.len _ _ _ _ q1
  have hb':=hb s1 us I1.kIn (by rw[Qxx];exact hl);rw[Qxx] at hb';refine wpAny_call (Qj8 (G.run X.A X.stack s1 H1 ⟨us,[]⟩ us vs _ (EC cl t d H1) hr I1.env0 hb' rv q1) λr s' hq=>?_);cases r with
  | error e=>exact hxe H1 F1 s1 e s' I1 r1 sF hq
  | ok fl=>
   cases fl with
   | ret u=>obtain⟨_,_,_,_,_,_,_,z⟩:=hq;exact z.elim
   | next=>exact False.elim hq
   | brk=>exact False.elim hq
   | cont=>exact False.elim hq
 ·cases e3
theorem raw_expr{cc:List D->Option D}{a:EvA}{ps:List Str}{spos:Pos}(G:OwnX X.prog X.w X.K X.mg X.base x k ps (spX C.K m cc cl t))(hr:Room k X.A)(hg:Gl X x)(ha:PXA X.nox C (e::es) a)
  (hn:∀env ds env',a env = .ok ds env'->ds.length=m) (hdb:nDb x:=by decide) (he:starEach (e::es) X.env=(false,eval e X.env)::starEach es X.env:=by rfl) (hpl:(backTo pos (starEach es X.env)).any (·.1)=false:=by rfl)
  (hs:swapsWith (.Call (.Name x p) (e::es) [] pos) none spos.line X.env=pure false:=by rfl):RawX X C (.Expr (.Call (.Name x p) (e::es) [] pos) spos) (evCallX cc a) cl t:=
 λ_ _ _ _ _ _ _ _ _ _ I r e1 hxe=>wpAny_Expr_any (thn (raw_call G hr hg ha hn I r e1 hxe hdb he hpl) λ_ _ z=>z.elim) I.quiet hs
def stTry(ev:EvS)(c:Ev)(iy jn:Nat)(cn t:Str):EvS:=λenv=>match c env with
 | .ok d env'=>.nx ((env'.set jn none).set iy (some (false,xcV cn t d)))
 | _=>ev env
structure Below(K:Fg)(mg:Str->Option Value)(S cn:Str)(cl:Addr):Prop where
 at_:∃Sa,mg S=some (.ref Sa)/\XC.Cl K Sa/\PySem.W.typeIn K (.ref Sa)=some (.type "type")/\PySem.W.mroIn K cl (.ref Sa)=some true
 nm:PySem.W.nsIn K mainGlobals cn=some (some (.ref cl))
theorem s_try{st:Stmt}{ev:EvS}{iy jn:Nat}{S cn n y:Str}{np yp np2 ap hp:Pos}(T:Top1 X)(hK:X.K=C.K)(W:Below X.K X.mg S cn cl)(hb:PXSs X.nox C [st] ev)(hx:RawX X C st c cl t)(hN:X.N.Nodup)(hjn:X.N[jn]? = some n)(hiy:X.N[iy]? = some y)
  (hij:iy≠jn) (hn:X.env.scope.names.lookup n=some .local) (hy:X.env.scope.names.lookup y=some .local) (fjn:C.fx jn=none) (fiy:C.fx iy=none) (gl:Gl X S) (hd:nDb S:=by decide) (hd1:nDb n:=by decide) (hd2:nCd n:=by decide)
  (hsw:swapsWith (.Name n np2) (some (.Name y yp)) ap.line X.env=pure false:=by rfl) :
  PXS X C (.Try [st] [.ExceptHandler (some (.Name S np)) (some n) [.Assign [.Name y yp] (.Name n np2) ap] hp] [] [] pos) (stTry ev c iy jn cn t):=by
 intro pins s σ H D I h;obtain⟨Pr,F,env,r,f⟩:=h;unfold stTry at f;split at f
 ·rename_i d env' hc;refine wpAny_Try_except (wpAny_execs_cons (Qw6 (hx pins s σ H Pr F env env' d _ I r hc λH1 F1 s1 v s' I1 r1 sF cx=>?_) (λ_ _ z=>z.elim) λ_ _ z=>z));obtain⟨a,Cc,dd,H',B,rfl,hE,fl⟩:=cx;obtain⟨hE,hv,nw⟩:=hE;cases hE;obtain⟨Sa,hS,Z,ty,sub⟩:=W.at_;obtain⟨hp',g',dr',tk',os'⟩:=s';have fl0:=fl.fl;rw[T.st] at fl0;refine XC.note2 (by rw[I.ok.frames,T.st]) T.fr fl0 λh4 held up4=>?_;refine XC.land held λh5 fly5 up5=>?_;have I5:=I1.caught fl (h':=h5) (by rw[T.st];exact fly5) (up4.trans up5);obtain⟨oe,_,hoe,hcls,_⟩:=fly5.ob;refine wpAny_handleBy_cons (codeAny_handlers_test (Calls.Name_function_global I5.ok.kind gl (Calls.loadGlobal_global (by rw[I5.ok.glob];exact I5.mod.glob.keeps I5.bk) hS ?_) hd)) (by intro q;cases q);refine XC.caught I5.kIn hoe hcls Z ty sub (codeAny_handlers_suite_as ?_);refine XC.land fly5 λh6 fly6 up6=>?_;have I6:=I1.caught fl (h':=h6) (by rw[T.st];exact fly6) ((up4.trans up5).trans up6);obtain⟨oe6,vs6,ho6,hc6,hdd6,hd6,_⟩:=fly6.ob;have I7:=Inv.known T I1 fl I6 ho6;refine store_ok I7 hN hjn (.inl hn) (v:=.ref a) rfl (λs8 I8=>?_) (.inr hn);have hσ:jn<σ.length:=by rw[I.len];exact(Qq6.mp hjn).1
  refine Qw6 ((pss_one (ps_set (X:=X.suite (.ref a)) hN hiy (.inl hy) (pe_var (X:=X.suite (.ref a)) hjn (.inl hn) hd1 hd2) hsw (.inr hy))) pins s8 _ _
   { nx:=λσ' H''=>σ'=(σ.set jn (some (.ref a))).set iy (some (.ref a))/\H''=upd H' a (.frz oe6 (.own a)),rt:=λ_ _=>False } (I8.suite _) ⟨.ref a,Qq8 hσ,rfl,rfl⟩) (λf9 s9 q9=>?_) λ_ _ z=>z.elim
  cases f9 with
  | next=>
   obtain⟨σ9,H9,J9,rfl,rfl⟩:=q9;have I9:=J9.behind I.ok;have I9':=I9.weak (σ':=((σ.set jn (some (.ref a))).set iy (some (.ref a))).set jn none) (by rw[Qwy]) (λi v q=>by
    by_cases z:jn=i
    ·subst z;rw[Qq8 (by rw[Qwy,Qwy];exact hσ)] at q;cases q
    ·rw[Qqw z] at q;exact q)
   obtain⟨m9,hm9,hl9⟩:=I9'.loc;refine wpAny_nameGoes_keeps (m:=m9) hn hm9 (by rw[I.ok.kind];rfl) λh10 v10 hNs hsb=>?_;have I10:=I9'.gone (tk:=s9.toks+1) hl9 hNs hsb (λi v q1 q2=>by
    have z:jn=i:=nodup_ix hN hjn q1;subst z;rw[Qq8 (by rw[Qwy,Qwy];exact hσ)] at q2;cases q2)
   obtain⟨F2,r2,sF1,hv2⟩:=r1.held fl.same hv nw;obtain⟨r2,sF2⟩:=Rel.new (a:=a) (o:=.frz oe6 (.own a)) r2 fl.new;have rp:Rep C.K (upd F2 a (.frz oe6 (.own a))) (xcV cn t d) (.ref a):=xcV_rep (by rw[<-hK];exact W.nm) upd_same hc6 hd6 (by rw[hdd6];exact hv2.mono sF2);refine⟨_,_,I10,f _ _ _ ((((r2.unset (i:=jn) (v:=.ref a) fjn).put (i:=iy) fiy rp)).drop fjn λx q=>?_) ((sF.trans sF1).trans sF2)⟩;rw[Qqw hij,List.getElem?_set] at q;split at q
   ·split at q<;>cases q
   ·rename_i z;exact z rfl
  | brk=>obtain⟨_,_,_,z⟩:=q9;exact z.elim
  | cont=>obtain⟨_,_,_,z⟩:=q9;exact z.elim
  | ret u=>obtain⟨_,_,_,_,_,z⟩:=q9;exact z.elim
 ·exact ps_try hb pins s σ H D I ⟨Pr,F,env,r,f⟩
end
def gIsx(T:Str->Option Bool)(d:D):Option D:=match d with
 | .clo (.Nonlocal (n::_) _) _=>(T n).map .bl
 | _=>none
theorem gIsx_ok{T:Str->Option Bool}{d e:D}(h:gIsx T d=some e):∃n r p ds b,d = .clo (.Nonlocal (n::r) p) ds/\T n=some b/\e = .bl b:=by
 unfold gIsx at h;split at h
 ·obtain⟨b,h1,h2⟩:=Qw0.mp h;exact⟨_,_,_,_,b,rfl,h1,h2.symm⟩
 ·cases h
theorem xcD_at{K:Fg}{F H:Hp}{n:Str}{r:List Str}{p0:Pos}{ds:List D}{v:V}{P:Program}{w:World}{h:Heap}(hr:Rep K F (.clo (.Nonlocal (n::r) p0) ds) v)(s:Same F H)(ok:HOk P w H h):∃a c,v = .ref a/\PySem.W.nsIn K mainGlobals n=some (some (.ref c))/\XC.At a c h:=by
 obtain⟨a,vs,rfl,q,_⟩:=hr;rcases q with ⟨_,z⟩|⟨_,_,_,_,_,_,z,_⟩|⟨n',r',p',o,u,c,fs,z,h1,h2,h3,_⟩
 ·cases z
 ·cases z
 ·cases z;exact⟨a,c,rfl,h1,o,(ok a _ (s _ _ h2)).1,h3⟩
section
variable{X:Cx}{C:Cfg}
theorem call_isx{T:Str->Option Bool}{y:V}{cv:Value}(ry:∀u,RelV y u->u=cv)(hk:∀n b c,T n=some b->PySem.W.nsIn X.K mainGlobals n=some (some (.ref c))->XC.Cl X.K c/\PySem.W.kitOne X.K (.ref c) cv=some b) :
  CallR X (.builtin "isinstance") (λxs H Q=>∃n r p0 ds b x,xs=[x,y]/\T n=some b/\Rep X.K H (.clo (.Nonlocal (n::r) p0) ds) x/\Q (.bl b) H):=by
 intro pins s σ H xs us Q I r h;obtain⟨n,r0,p0,ds,b,x,rfl,hT,hr,q⟩:=h;obtain⟨u,w,rfl,r1,r2⟩:=vals2 r;obtain⟨a,c,rfl,h1,h2⟩:=xcD_at hr (Same.refl H) I.hok;cases r1;rw[ry w r2];obtain⟨Z,e⟩:=hk n b c hT h1;exact XC.isi Z I.kIn h2 e λtk=>⟨.bl _,H,I.tok tk,rfl,q⟩
theorem px_isx{T:Str->Option Bool}{xT:Str}{e:Expr}{a:Ev}{p q pos:Pos}{cl:Addr}(hg:Gl X "isinstance")(hm:X.mg "isinstance" = none)(hgT:Gl X xT)(hmT:X.mg xT=some (.ref cl))
  (hk:∀n b c,T n=some b->PySem.W.nsIn X.K mainGlobals n=some (some (.ref c))->XC.Cl X.K c/\PySem.W.kitOne X.K (.ref c) (.ref cl)=some b) (hK:X.K=C.K) (ha:PX X C e a) (hd:nDb xT:=by decide)
  (he:starEach [e,.Name xT q] X.env=(false,eval e X.env)::starEach [.Name xT q] X.env:=by rfl) :
  PX X C (.Call (.Name "isinstance" p) [e,.Name xT q] [] pos) (evUn (gIsx T) a):=by
 refine(pe_callB (call_isx (y:=.ref cl) (cv:=.ref cl) (λu r=>r) hk) hg hm boot_isinstance (pa_cons ha (pa_cons (pe_glob (v:=.ref cl) hgT hmT rfl hd) pa_nil) he) (by decide) (by decide) he rfl).imp λσ H Q h=>?_;obtain⟨Pr,F,env,env',d,rl,e1,qq⟩:=h;obtain⟨d0,env1,e2,e3⟩:=bindR_ok e1;obtain⟨e4,rfl⟩:=liftR_ok e3;obtain⟨n,r0,p0,ds,b,rfl,hT,rfl⟩:=gIsx_ok e4;refine⟨Pr,F,env,env',_,rl,e2,λv H1 F1 r1 s1 p1=>⟨n,r0,p0,ds,b,v,rfl,hT,?_,qq _ H1 F1 r1 s1 rfl⟩⟩;rw[hK];exact Rep.mono r1.fr _ v p1
theorem px_isxB{T:Str->Option Bool}{B:String}{xT:Str}{e:Expr}{a:Ev}{p q pos:Pos}(hg:Gl X "isinstance")(hm:X.mg "isinstance" = none)(hgT:Gl X xT)(hmT:X.mg xT=none)(hvT:bootBuiltins xT=some (.type B))
  (hk:∀n b c,T n=some b->PySem.W.nsIn X.K mainGlobals n=some (some (.ref c))->XC.Cl X.K c/\PySem.W.kitOne X.K (.ref c) (.type B)=some b) (hK:X.K=C.K) (ha:PX X C e a) (hn:xT ≠ "__name__":=by decide) (hd:nDb xT:=by decide)
  (he:starEach [e,.Name xT q] X.env=(false,eval e X.env)::starEach [.Name xT q] X.env:=by rfl) :
  PX X C (.Call (.Name "isinstance" p) [e,.Name xT q] [] pos) (evUn (gIsx T) a):=by
 refine(pe_callB (call_isx (y:=.ty B) (cv:=.type B) (λu r=>r) hk) hg hm boot_isinstance (pa_cons ha (pa_cons (pe_bltn (v:=.ty B) hgT hmT hvT rfl hn hd) pa_nil) he) (by decide) (by decide) he rfl).imp λσ H Q h=>?_;obtain⟨Pr,F,env,env',d,rl,e1,qq⟩:=h;obtain⟨d0,env1,e2,e3⟩:=bindR_ok e1;obtain⟨e4,rfl⟩:=liftR_ok e3;obtain⟨n,r0,p0,ds,b,rfl,hT,rfl⟩:=gIsx_ok e4;refine⟨Pr,F,env,env',_,rl,e2,λv H1 F1 r1 s1 p1=>⟨n,r0,p0,ds,b,v,rfl,hT,?_,qq _ H1 F1 r1 s1 rfl⟩⟩;rw[hK];exact Rep.mono r1.fr _ v p1
def gPart(cn t:Str)(d:D):Option D:=match d with
 | .clo (.Nonlocal [n,t'] _) [d0]=>if n=cn/\t'=t then some d0 else none
 | _=>none
theorem gPart_ok{cn t:Str}{d e:D}(h:gPart cn t d=some e):∃p,d = .clo (.Nonlocal [cn,t] p) [e]:=by
 unfold gPart at h;split at h
 ·split at h
  ·rename_i z;cases h;obtain⟨rfl,rfl⟩:=z;exact⟨_,rfl⟩
  ·cases h
 ·cases h
def PartAt(K:Fg)(cn t:Str):Prop:=∀c,PySem.W.nsIn K mainGlobals cn=some (some (.ref c))->∃S,XC.ClA K c S t
theorem out_of{v:V}{w:Value}(r:RelV v w):PySem.handedOut w=pure w:=by
 cases v with
 | non=>cases r;rfl
 | bl b=>cases r;rfl
 | int i=>obtain⟨t,rfl⟩:=r;rfl
 | str i=>obtain⟨t,rfl⟩:=r;rfl
 | byt i=>obtain⟨t,rfl⟩:=r;rfl
 | flt i=>obtain⟨t,rfl⟩:=r;rfl
 | ref a=>cases r;rfl
 | ty n=>cases r;rfl
end
def tLay(cl:Addr)(t:Str):TS:=λD σ H=>∃(e:Addr) (v:V) (o:Obj) (fs:Array Value),σ[0]? = some (some (.ref e))/\σ[1]? = some (some v)/\H e=some (exO e o)/\o.cls = .ref cl/\o.dict=none/\o.data = .fields fs/\
 ∀(dx:Addr) (od:Obj) (w:Value) (m:Str->Option Value),H dx=none->dx≠e->RelV v w->(∀h:Heap,h.get? dx=some od->h.Ns dx m)->m t=some w->D.nx σ (upd (upd H e (exO e { o with dict:=some dx })) dx (.frz od (.own dx)))
theorem ps_lay{X:Cx}{cl S:Addr}{a b t:Str}{p1 p2 p3 p4:Pos}(Z:XC.ClA X.K cl S t)(h0:X.N[0]? = some a)(h1:X.N[1]? = some b)(v0:Vis X.env.scope a)(v1:Vis X.env.scope b)(da:(a == ("__debug__" : Str))=false)(ca:(a == ("__classdict__" : Str))=false)(db:(b == ("__debug__" : Str))=false)(cb:(b == ("__classdict__" : Str))=false)
  (hs:swapsWith (.Name b p3) (some (.Attribute (.Name a p1) t p2)) p4.line X.env=pure false):PS X (.Assign [.Attribute (.Name a p1) t p2] (.Name b p3) p4) (tLay cl t):=by
 intro pins s σ H D I h;obtain⟨e,v,o,fs,e0,e1,he,hc,hdn,hda,hq⟩:=h;refine plainObj_wpAny_Assign_Attribute (thn (pe_var h1 v1 db cb pins s σ H (λy H1=>y=v/\H1=H) I ⟨v,e1,rfl,rfl⟩) λu s1 ⟨y,H1,I1,ry,hy,hH⟩=>?_) hs;subst hy hH;refine thn (pe_var h0 v0 da ca pins s1 σ H1 (λx H2=>x = .ref e/\H2=H1) I1 ⟨.ref e,e0,rfl,rfl⟩) λov s2 ⟨x,H2,I2,rx,hx,hH⟩=>?_;subst hx hH;cases rx;obtain⟨hp,g,dr,tk,os⟩:=s2;refine XC.store I2.kIn Z (I2.hok e _ he).1 hc hdn hda λh' tk' dx q1 q2 q3 q4 q5=>?_;obtain⟨od,es,ep,hod,_⟩:=q5.ns;have J:=I2.xset (s:=⟨hp,g,dr,tk,os⟩) (h':=h') (tk:=tk') he q1 q2 q3 q4 hod;exact⟨σ,_,J.2,hq dx od u _ J.1 q4 ry (λh hh=>q5.ns.at λo ho=>by rw[hod] at ho;cases ho;exact hh) (if_pos rfl)⟩
def spI(cl:Addr)(t:Str):Sp:=λvs H Q _=>∃(e:Addr) (v:V) (o:Obj) (fs:Array Value),vs=[.ref e,v]/\H e=some (exO e o)/\o.cls = .ref cl/\o.dict=none/\o.data = .fields fs/\
 ∀(dx:Addr) (od:Obj) (w:Value) (m:Str->Option Value),H dx=none->dx≠e->RelV v w->(∀h:Heap,h.get? dx=some od->h.Ns dx m)->m t=some w->Q .non (upd (upd H e (exO e { o with dict:=some dx })) dx (.frz od (.own dx)))
def IniOk(P:Program)(w:World)(K:Fg)(mg:Str->Option Value)(base:Heap)(k:Nat)(fI cl:Addr)(t:Str):Prop:=∃fd ps,FnOk P w K mg base CX0 k fI fd ps (spI cl t)/\Binds K fd ps []
theorem ini_ok{P:Program}{w:World}{K:Fg}{mg:Str->Option Value}{base:Heap}{k:Nat}{fI cl S:Addr}{fd:FuncData}{a b t qual:Str}{st:Stmt}{p1 p2 p3 p4:Pos}(F:Fun K "__init__" qual st fI fd)(hb:Binds K fd [a,b] [])(sc:FnScope [a,b] [a,b] (defScope st))(hbd:defBody st=[.Assign [.Attribute (.Name a p1) t p2] (.Name b p3) p4])
  (Z:XC.ClA K cl S t) (da:nDb a:=by decide) (ca:nCd a:=by decide) (db:nDb b:=by decide) (cb:nCd b:=by decide)
  (hs:∀env:PySem.Env,swapsWith (.Name b p3) (some (.Attribute (.Name a p1) t p2)) p4.line env=pure false:=by intro _;rfl):IniOk P w K mg base (k+1) fI cl t:=by
 refine⟨fd,[a,b],Fun.ok F sc (λvs H Q E h=>?_) λcdv A outer s H vs Q E hr h=>?_,hb⟩
 ·obtain⟨e,v,o,fs,rfl,_⟩:=h;rfl
 ·obtain⟨e,v,o,fs,rfl,he,hc,hdn,hda,hq⟩:=h;rw[hbd];refine⟨_,pss_one (ps_lay (X:=(cxOf CX0 P w K mg base [a,b] qual (defScope st) fI cdv A outer s H E).nox) Z rfl rfl ?_ ?_ da ca db cb (hs _)),e,v,o,fs,rfl,rfl,he,hc,hdn,hda,λdx od w m h1 h2 h3 h4 h5=>hq dx od w m h1 h2 h3 h4 h5⟩
  ·exact(sc.par a Qq3).elim .inl λz=>.inr (.inl z)
  ·exact(sc.par b (Qq4 _ Qq3)).elim .inl λz=>.inr (.inl z)
def ExcObj(K:Fg)(c:Addr):Prop:=∀base:Heap,K.In base->∃(nm q:Str) (N:Addr) (bs bm:List Value) (hdct:Bool) (sn:List Str) (sub:List Value) (ab:Bool) (col:Option Bool) (dd:Option Addr) (k0 k1 k2 k3 k5:Option Value),
 base.get? c=some (excClassObj nm q c N bs bm hdct sn sub ab col dd k0 k1 k2 k3 k5 "ValueError.__new__")/\OwnTail base XC.bmV bm/\bm.contains (.type "BaseException")=true
structure ExcI(K:Fg)(mg:Str->Option Value)(x:Str)(c fI:Addr):Prop where
 at_:mg x=some (.ref c)
 ob:ExcObj K c
 ini:PySem.W.findIn K (.ref c) "__init__" = some (some (.ref fI))
 ty:PySem.W.typeIn K (.ref fI)=some (.type "function")
def stRaiseI(a:Ev):EvS:=λenv=>bindO (a env) λd env1=>match exV d with
 | some _=>.rt true (.tup [d]) env1
 | none=>.stuck
theorem exV_rep{K:Fg}{F:Hp}{d:D}{v v':V}(h:exV d=some v)(r:Rep K F d v'):v'=v:=by
 unfold exV at h;split at h
 ·cases h;exact r
 ·cases h;exact r
 ·cases h
abbrev exN(c t:Addr)(dd:Option Addr):Obj:={ cls:=.ref c,dict:=dd,data:=.fields #[.ref t,.none,.none,.none,.bool false,.none] }
section
variable{R:D->Hp->Prop}{X:Cx}{C:Cfg}{pos np cpos:Pos}{x t:Str}{e:Expr}{a:Ev}{k:Nat}{c fI:Addr}
theorem pr_raiseI(T:Top1 X)(hx:ExcI X.K X.mg x c fI)(G:IniOk X.prog X.w X.K X.mg X.base k fI c t)(hr:Room (k+1) X.A)(hc:X.calm=true)(hg:Gl X x)(ha:PX X.nox C e a)
  (hR:∀d H,R d H->Same X.H₀ H)
  (hxe:∀(pins:List (Addr×Obj)) (σ:L2.St) (H0 H1:Hp) (s1:Shared) (b:Addr) (d':D) (dd:Option Addr) (oe:Obj) (fs:Array Value),Inv X pins σ H1 s1->R d' H0->Same H0 H1->ValX t d' dd H1->NewX X.H₀ dd->H1 b=none->X.s₀.heap.get? b=none->s1.heap.get? b=some oe->oe.cls = .ref c->oe.dict=dd->oe.data = .fields fs->fs[1]? = some .none->X.xe (.ref b) s1)
  (hdb:nDb x:=by decide) (he:sEn e X.env:=by rfl) :
  PR R X C (.Raise (some (.Call (.Name x np) [e] [] cpos)) none pos) (stRaiseI a):=by
 intro pins s σ H D I h;obtain⟨Pr,F,env,r,f,y⟩:=h;obtain⟨d,env1,e1,f1⟩:=bindO_fin f;unfold stRaiseI at y;rw[e1] at y;cases ev:exV d with
 | none=>rw[ev] at f1;exact f1.elim
 | some v0=>
  have y1:FX R C Pr F (.rt true (.tup [d]) env1):=by simp only[bindO,ev] at y;exact y
  obtain⟨nm,q,N,bs,bm,hdct,sn,sub,ab,col,dd,k0,k1,k2,k3,k5,hC,hT,hB⟩:=hx.ob X.base I.mod.kin;obtain⟨fd,ps,G,hb⟩:=G;refine XC.raises (C:=c) (nm:=nm) (q:=q) (N:=N) (bs:=bs) (bm:=bm) (hdct:=hdct) (sn:=sn) (sub:=sub) (ab:=ab) (col:=col) (dd:=dd) (k0:=k0) (k1:=k1) (k2:=k2) (k3:=k3) (k5:=k5) (K:=X.K) (fI:=fI)
   hB (I.ok.hd hc) (by rw[he];rfl) hx.ini hx.ty (ld_glob I hg hx.at_ ⟨rfl,?_⟩ hdb)
  have hxa:(evCons a evNil) env = .ok [d] env1:=by unfold evCons evNil;rw[e1];rfl
  have go:=pa_nox (pxa_cons (C:=C) ha pxa_nil he) cpos pins s σ H (λvs H1=>vs=[v0]/\R (.tup [d]) H1) I ⟨Pr,F,env,env1,[d],r,hxa,λvs H' F' r' s' p'=>by
   obtain⟨v',vs',rfl,z2,z3⟩:=p';cases z3;exact⟨by rw[exV_rep ev z2],y1.2 σ H' F' r' s'⟩⟩
  rw[he] at go ⊢;refine Calls.evalArgs_plain (Qw6 go (λus s2 ⟨vs,H1,I1,rv,hvs,hr1⟩=>?_) λ_ _ z=>z);subst hvs;obtain⟨u0,rfl,rv0⟩:=vals1 rv;refine⟨rfl,by show 1<=sizeLine;rw[Qj7];omega,I1.bk _ _ hC,I1.kIn,hT.keeps I1.bk,λh' b m=>?_⟩;obtain⟨m1,m2,tt,m3,m4,m5⟩:=m;have hnb:=I1.none_of m2;have I2:=I1.laidN (a:=b) (o:=exO b (exN c tt none)) (tk:=s2.toks) (h':=h') m1 m2 (exO_ok m3);have rv2:Vals [.ref b,v0] [.ref b,u0]:=.cons rfl (.cons rv0 .nil);have hq:spI c t [.ref b,v0] (upd H1 b (exO b (exN c tt none))) (λv H'=>v = .non/\∃(dx:Addr) (od:Obj) (w:Value) (m:Str->Option Value),upd H1 b (exO b (exN c tt none)) dx=none/\dx≠b/\RelV v0 w/\(∀h:Heap,h.get? dx=some od->h.Ns dx m)/\m t=some w/\H'=upd (upd (upd H1 b (exO b (exN c tt none))) b (exO b (exN c tt (some dx)))) dx (.frz od (.own dx))) (λ_ _ _=>False):=
   ⟨b,v0,_,_,rfl,upd_same,rfl,rfl,rfl,λdx od w m h1 h2 h3 h4 h5=>⟨rfl,dx,od,w,m,h1,h2,h3,h4,h5,rfl⟩⟩
  have hb':=hb _ [.ref b,u0] I2.kIn (by rw[Qxx];exact(Vals.length rv2).symm.trans (G.len _ _ _ _ hq));rw[Qxx] at hb';refine wpAny_call (Qj8 (G.run _ X.stack _ _ ⟨[.ref b,u0],[]⟩ [.ref b,u0] _ _ _ (hr.make c [u0] []) (I2.env0.make c [u0] []) hb' rv2 hq) λr s3 hq3=>?_);cases r with
  | error e=>exact hq3.elim
  | ok fl=>
   cases fl with
   | next=>exact False.elim hq3
   | brk=>exact False.elim hq3
   | cont=>exact False.elim hq3
   | ret u=>
    obtain⟨v3,H3,I3,rv3,rfl,dx,od,w,m,n1,n2,n3,n4,n5,rfl⟩:=I2.after hq3;cases rv3;have hsm:=hR _ _ hr1;have hb0:X.H₀ b=none:=hsm.free hnb;have hbE:upd (upd (upd H1 b (exO b (exN c tt none))) b (exO b (exN c tt (some dx)))) dx (.frz od (.own dx)) b=some (exO b (exN c tt (some dx))):=by rw[upd_ne (Ne.symm n2),upd_same]
    have I4:=I3.untrack hbE hb0;have hH1:H1 dx=none:=by rw[upd_ne n2] at n1;exact n1
    have g3:=(I3.hok b _ hbE).1;refine⟨rfl,I3.bk _ _ hC,⟨_,g3,rfl,_,rfl,rfl⟩,hxe pins σ H1 _ s3 b _ (some dx) _ _ I4 hr1 (λb' o' z=>?_) ⟨v0,w,dx,od,m,ev,n3,rfl,?_,n4,n5⟩ (λdx' z=>by cases z;exact hsm.free hH1) (by simp) (I1.old_none T m2) g3 rfl rfl rfl rfl⟩
    ·have z1:b'≠b:=λz2=>by rw[z2,hnb] at z;cases z
     have z2:b'≠dx:=λz2=>by rw[z2,hH1] at z;cases z
     show(if b'=b then none else _)=_;rw[if_neg z1,upd_ne z2,upd_ne z1,upd_ne z1];exact z
    ·show(if dx=b then none else _)=_;rw[if_neg n2,upd_same]
theorem pi_nox{tg iter:Expr}{wi:TI}(h:PI X.nox tg iter wi):PI X tg iter wi:=λpins s σ H R I hw=>
 Qw6 (h pins s σ H R (I.wish _) hw) (λ_ _ q=>Qw6 q (λ_ _ ⟨it,fp,tn,J,H',e,I',T,t0,f,r⟩=>⟨it,fp,tn,J,H',e,I'.unwish,T,t0,f,r⟩) λ_ _ z=>False.elim z) λ_ _ z=>False.elim z
theorem pg_nox{tg:Expr}{g:TG}(h:PG X.nox tg g):PG X tg g:=λpins s σ H v u Q I r hw=>
 Qw6 (h pins s σ H v u Q (I.wish _) r hw) (λ_ _ ⟨σ',H',I',q⟩=>⟨σ',H',I'.unwish,q⟩) λ_ _ z=>False.elim z
theorem pr_for{tg iter:Expr}{body:List Stmt}{it:EvA}{g:GV}{b:EvS}(hp:PassesOwn (model X.prog X.w) X.A X.env X.xe)(hc:X.calm=true)(hi:PXI X.nox C tg iter it)(hg:PXG X.nox C 0 tg g)(hb:PRs R X C body b)
  (hs:∀x,foldedSetIterable iter X.env x=pure x:=by intro _;rfl):PR R X C (.For tg iter body [] pos) (stFor it g b):=(ps_for hp hc (pi_nox hi) (pg_nox hg) hb hs).imp λD σ H h=>by
 obtain⟨Pr,F,env,r,f,x⟩:=h;obtain⟨ds,env1,e1,f1⟩:=bindO_fin f;have x1:FX R C Pr F (forO g b ds env1):=by unfold stFor at x;rw[e1] at x;exact x
 refine⟨Pr,F,env,env1,ds,r,e1,λJ H1 F1 r1 s1 y1=>?_⟩;refine⟨λi m σ' H'=>m=ds.length - i/\i<=ds.length/\∃F' env',Rel C Pr F' env' σ' H'/\Same F1 F'/\Fin C Pr F' D (forO g b (ds.drop i) env')/\FX R C Pr F' (forO g b (ds.drop i) env'),⟨ds.length,rfl,Qz9 _,F1,env1,r1,Same.refl _,f1.mono s1,x1.mono s1⟩,?_⟩;rintro i m σ' H' ⟨rfl,hi,F',env',r',s',f',x'⟩;by_cases hl:i<ds.length
 ·have hd:ds[i]? = some ds[i]:=Qx3 hl;have hdr:ds.drop i=ds[i]::ds.drop (i+1):=Qz2 hl;have yy:=y1 i H' (s'.trans r'.fr);refine .inr ⟨(yy.2 _ hd).1,λσ2 H2=>∃F' env',Rel C Pr F' env' σ2 H2/\Same F1 F'/\Fin C Pr F' D (forO g b (ds.drop (i+1)) env')/\FX R C Pr F' (forO g b (ds.drop (i+1)) env'),λσ2 H2 h2=>⟨ds.length - (i+1),by omega,rfl,hl,h2⟩,λx H2 hy=>?_⟩;obtain⟨F2,r2,s2,p2⟩:=Yields.item r' s' y1 hd hy;rw[hdr] at f' x';have f2:=f'.mono s2;have x2:=x'.mono s2;unfold forO at f2 x2;cases eg:g ds[i] env' with
  | none=>rw[eg] at f2;exact f2.elim
  | some e2=>
   rw[eg] at f2 x2;refine⟨Pr,F2,env',e2,ds[i],r2,p2,eg,λσ3 H3 F3 r3 s3 _=>⟨Pr,F3,e2,r3,?_⟩⟩;simp only at f2 x2;have s13:Same F1 F3:=(s'.trans s2).trans s3;cases eb:b e2 with
   | nx e3=>rw[eb] at f2 x2;exact⟨λσ4 H4 F4 r4 s4=>⟨F4,e3,r4,s13.trans s4,f2.mono (s3.trans s4),x2.mono (s3.trans s4)⟩,trivial⟩
   | ct e3=>rw[eb] at f2 x2;exact⟨λσ4 H4 F4 r4 s4=>⟨F4,e3,r4,s13.trans s4,f2.mono (s3.trans s4),x2.mono (s3.trans s4)⟩,trivial⟩
   | bk e3=>rw[eb] at f2;exact⟨λσ4 H4 F4 r4 s4=>f2 σ4 H4 F4 r4 (s3.trans s4),trivial⟩
   | rt o d e3=>rw[eb] at f2 x2;cases o<;>exact⟨λv σ4 H4 F4 r4 s4 p4=>f2 v σ4 H4 F4 r4 (s3.trans s4) p4,x2.mono s3⟩
   | stuck=>rw[eb] at f2;exact f2.elim
 ·have e:i=ds.length:=by omega
  subst e;rw[List.drop_length] at f';exact .inl ⟨(y1 _ H' (s'.trans r'.fr)).1 (Qz3 (Qqy _)) rfl,f' σ' H' F' r' (Same.refl F')⟩
end
def isT(cn:Str)(b:Bool):Str->Option Bool:=λn=>if n=cn then some b else none
theorem isT_ok{cn n:Str}{b b':Bool}(h:isT cn b n=some b'):n=cn/\b=b':=by
 unfold isT at h;split at h
 ·rename_i z;cases h;exact⟨z,rfl⟩
 ·cases h
def clA(K:Fg)(x:Str):Addr:=match PySem.W.nsIn K mainGlobals x with
 | some (some (.ref c))=>c
 | _=>0
theorem clA_of{K:Fg}{x:Str}{c:Addr}(h:PySem.W.nsIn K mainGlobals x=some (some (.ref c))):clA K x=c:=by unfold clA;rw[h]
def IsxAt(K:Fg)(mg:Str->Option Value)(cn x:Str)(b:Bool):Prop:=∃cl,mg x=some (.ref cl)/\∀c,PySem.W.nsIn K mainGlobals cn=some (some (.ref c))->XC.Cl K c/\PySem.W.kitOne K (.ref c) (.ref cl)=some b
def IsxB(K:Fg)(cn:Str)(B:String)(b:Bool):Prop:=∀c,PySem.W.nsIn K mainGlobals cn=some (some (.ref c))->XC.Cl K c/\PySem.W.kitOne K (.ref c) (.type B)=some b
structure XG(K:Fg)(x t qual:Str)(st:Stmt)(c S fI:Addr):Prop where
 nm:PySem.W.nsIn K mainGlobals x=some (some (.ref c))
 lk:∃(nm q:Str) (N:Addr) (bs:List Value) (sn:List Str) (sub:List Value) (ab:Bool) (col:Option Bool) (dd:Option Addr) (k0 k1 k2 k3 k5:Option Value),K.lookup c=some (excClassObj nm q c N bs (.ref S::XC.bmV) true sn sub ab col dd k0 k1 k2 k3 k5 "ValueError.__new__")
 cl:XC.Cl K c
 sa:PySem.W.findIn K (.ref c) "__setattr__" = some (some (.builtin "object.__setattr__"))
 no:PySem.W.findIn K (.ref c) t=some none
 up:PySem.W.excIn K S XC.bmV "ValueError.__new__" = true
 ini:PySem.W.findIn K (.ref c) "__init__" = some (some (.ref fI))
 ty:PySem.W.typeIn K (.ref fI)=some (.type "function")
 fn:∃(oc kV doc pm cdv ct:Value) (od an:Option Addr) (osl:Array (Option Value)),K.lookup fI=some ⟨oc,od,.func (PySem.W.fnOf "__init__" qual (defArgs st) (defBody st) (defScope st) .none kV doc pm an cdv ct),osl⟩/\PySem.W.codeIn K cdv qual=true
 kp:PySem.W.keepIn K (.ref fI)=true
section
variable{K:Fg}{h:Heap}{mg:Str->Option Value}{x t qual y:Str}{st:Stmt}{c S fI cy:Addr}{b:Bool}{P:Program}{w:World}{base:Heap}{f:Addr}{N:List Str}{k:Nat}{cdv:Value}{A:Around}{outer:List PySem.Env}{s:Shared}{H:Hp}{E:XK}{cl:Addr}{d:D}{pos np cpos:Pos}{e:Expr}{a:Ev}{C:Cfg}{X:Cx}{p q:Pos}{ea:EvA}
theorem XG.cla(F:XG K x t qual st c S fI):XC.ClA K c S t:=by refine⟨F.cl,F.sa,F.no,?_⟩;obtain⟨nm,q,N,bs,sn,sub,ab,col,dd,k0,k1,k2,k3,k5,lk⟩:=F.lk;unfold PySem.W.clsIn;rw[lk];unfold excClassObj;exact⟨_,rfl,rfl,rfl⟩
theorem XG.exc(F:XG K x t qual st c S fI)(X:K.In h)(G:h.Ns mainGlobals mg):ExcI K mg x c fI:=by
 refine⟨Qkq X G F.nm,λbase KB=>?_,F.ini,F.ty⟩;obtain⟨nm,q,N,bs,sn,sub,ab,col,dd,k0,k1,k2,k3,k5,lk⟩:=F.lk;refine⟨nm,q,N,bs,_,true,sn,sub,ab,col,dd,k0,k1,k2,k3,k5,KB _ _ lk,?_,by rfl⟩;have q:=F.up;unfold PySem.W.excIn at q;split at q
 ·rename_i dd cd sl ho;split at q
  ·rename_i C' bm k0 k1 k2 k3 n k5 hm hs;simp only[Qwv,beq_iff_eq,Bool.not_eq_true'] at q;obtain⟨⟨⟨⟨⟨rfl,rfl⟩,hdel⟩,ht⟩,hok⟩,hni⟩:=q;exact .own (KB _ _ ho) (.of_isNs (PySem.W.isNs_of_in KB hok)) (PySem.W.nsMap_none_of_in KB hok hni) .base
  ·cases q
 ·cases q
theorem XG.ini_{P:Program}{w:World}{base:Heap}{k:Nat}{a b:Str}{p1 p2 p3 p4:Pos}(F:XG K x t qual st c S fI)
  (hb:∀{kV doc pm:Value} {an:Option Addr} {cdv ct:Value} (us:List Value),us.length=[a,b].length->bindArgs (PySem.W.fnOf "__init__" qual (defArgs st) (defBody st) (defScope st) .none kV doc pm an cdv ct) ⟨us,[]⟩=pure ([a,b].zip us))
  (sc:FnScope [a,b] [a,b] (defScope st)) (hbd:defBody st=[.Assign [.Attribute (.Name a p1) t p2] (.Name b p3) p4]) (da:nDb a:=by decide) (ca:nCd a:=by decide) (db:nDb b:=by decide) (cb:nCd b:=by decide)
  (hs:∀env:PySem.Env,swapsWith (.Name b p3) (some (.Attribute (.Name a p1) t p2)) p4.line env=pure false:=by intro _;rfl):IniOk P w K mg base (k+1) fI c t:=by
 obtain⟨oc,kV,doc,pm,cdv,ct,od,an,osl,l,cd⟩:=F.fn;exact ini_ok (fun_mk (st:=st) l cd F.kp) (.all λus hl=>hb us hl) sc hbd F.cla da ca db cb hs
structure XK1(K:Fg)(mg:Str->Option Value)(x t:Str)(cl:Addr):Prop where
 all:∃fI,ExcI K mg x cl fI/\∀(P:Program) (w:World) (base:Heap) (k:Nat),IniOk P w K mg base (k+1) fI cl t
theorem XG.raises{a b:Str}{p1 p2 p3 p4:Pos}(F:XG K x t qual st c S fI)(X:K.In h)(G:h.Ns mainGlobals mg)
  (hb:∀{kV doc pm:Value} {an:Option Addr} {cdv ct:Value} (us:List Value),us.length=[a,b].length->bindArgs (PySem.W.fnOf "__init__" qual (defArgs st) (defBody st) (defScope st) .none kV doc pm an cdv ct) ⟨us,[]⟩=pure ([a,b].zip us))
  (sc:FnScope [a,b] [a,b] (defScope st)) (hbd:defBody st=[.Assign [.Attribute (.Name a p1) t p2] (.Name b p3) p4]) (da:nDb a:=by decide) (ca:nCd a:=by decide) (db:nDb b:=by decide) (cb:nCd b:=by decide)
  (hs:∀env:PySem.Env,swapsWith (.Name b p3) (some (.Attribute (.Name a p1) t p2)) p4.line env=pure false:=by intro _;rfl):XK1 K mg x t (clA K x):=by
 rw[clA_of F.nm];exact⟨fI,F.exc X G,λP w base k=>F.ini_ hb sc hbd da ca db cb hs⟩
theorem XG.below(F:XG K x t qual st c S fI)(X:K.In h)(G:h.Ns mainGlobals mg)(hS:PySem.W.nsIn K mainGlobals y=some (some (.ref S)))(Z:XC.Cl K S)(ty:PySem.W.typeIn K (.ref S)=some (.type "type"))(sub:PySem.W.mroIn K c (.ref S)=some true):Below K mg y x (clA K x):=by rw[clA_of F.nm];exact⟨⟨S,Qkq X G hS,Z,ty,sub⟩,F.nm⟩
theorem XG.isx(F:XG K x t qual st c S fI)(X:K.In h)(G:h.Ns mainGlobals mg)(hS:PySem.W.nsIn K mainGlobals y=some (some (.ref cy)))(k:PySem.W.kitOne K (.ref c) (.ref cy)=some b):IsxAt K mg x y b:=
 ⟨cy,Qkq X G hS,λc' h'=>by rw[F.nm] at h';cases h';exact⟨F.cl,k⟩⟩
theorem XG.isB{B:String}(F:XG K x t qual st c S fI)(k:PySem.W.kitOne K (.ref c) (.type B)=some b):IsxB K x B b:=
 λc' h'=>by rw[F.nm] at h';cases h';exact⟨F.cl,k⟩
theorem XG.part(F:XG K x t qual st c S fI):PartAt K x t:=λc' h'=>by rw[F.nm] at h';cases h';exact⟨S,F.cla⟩
theorem pr_rs(Z:XK1 K mg x t cl)(hr:Room (k+2) (A.deeper (envOfC qual (defScope st) s.heap.objs.size f cdv)))(hE:∀dd H',ValX t d dd H'->NewX H dd->E (.ref cl) dd H')(ha:PX (bx P w K mg base N qual st f cdv A outer s H E) C e a)
  (hg:Gl (bxX P w K mg base N qual st f cdv A outer s H E) x:=by rfl) (hdb:nDb x:=by decide) (he:starEach [e] (bxX P w K mg base N qual st f cdv A outer s H E).env=(false,eval e (bxX P w K mg base N qual st f cdv A outer s H E).env)::starEach [] (bxX P w K mg base N qual st f cdv A outer s H E).env:=by rfl) :
  PR (RX H d) (bxX P w K mg base N qual st f cdv A outer s H E) C (.Raise (some (.Call (.Name x np) [e] [] cpos)) none pos) (stRaiseI a):=by
 obtain⟨fI,h1,h2⟩:=Z.all;exact pr_raiseI top_bxX h1 (h2 P w base k) hr rfl hg ha (λd' H' r=>r.2) (λpins σ H0 H1 s1 b d' dd oe fs I r sm v nw hn hw e1 e2 e3 e4 e5=>xe_made hE pins σ H0 H1 s1 b d' dd oe fs I r sm v nw hn hw e1 e2 e3 e4 e5) hdb he
theorem x_isxQ{xT cn:Str}{b:Bool}(G:Good X C)(hm:X.mg "isinstance" = none)(h:IsxAt X.K X.mg cn xT b)(ha:SX X C e a)(hg:Gl X "isinstance":=by rfl)(hgT:Gl X xT:=by rfl)(hd:nDb xT:=by decide)
  (he:starEach [e,.Name xT q] X.env=(false,eval e X.env)::starEach [.Name xT q] X.env:=by rfl):SX X C (.Call (.Name "isinstance" p) [e,.Name xT q] [] pos) (evUn (gIsx (isT cn b)) a):=by
 obtain⟨cl,h1,h2⟩:=h;exact⟨Ev.px_isx hg hm hgT h1 (λn b' c z k=>by obtain⟨rfl,rfl⟩:=isT_ok z;exact h2 c k) G.K ha.u hd he⟩
theorem x_isxBQ{xT cn:Str}{B:String}{b:Bool}(hv:bootBuiltins xT=some (.type B))(G:Good X C)(hm:X.mg "isinstance" = none)(hmT:X.mg xT=none)(h:IsxB X.K cn B b)(ha:SX X C e a)(hg:Gl X "isinstance":=by rfl)(hgT:Gl X xT:=by rfl)(hn:xT ≠ "__name__":=by decide)(hd:nDb xT:=by decide)
  (he:starEach [e,.Name xT q] X.env=(false,eval e X.env)::starEach [.Name xT q] X.env:=by rfl):SX X C (.Call (.Name "isinstance" p) [e,.Name xT q] [] pos) (evUn (gIsx (isT cn b)) a):=
 ⟨Ev.px_isxB hg hm hgT hmT hv (λn b' c z k=>by obtain⟨rfl,rfl⟩:=isT_ok z;exact h c k) G.K ha.u hn hd he⟩
theorem x_partQ{cn:Str}(G:Good X C)(h:PartAt X.K cn t)(ha:SX X C e a)(hb:attributeBase e t X.env (eval e X.env)=eval e X.env:=by rfl):SX X C (.Attribute e t pos) (evUn (gPart cn t) a):=⟨by
 intro pins s σ H Q I h;obtain⟨Pr,F,env,env',d,rl,e1,qq⟩:=h;obtain⟨d0,env1,e2,e3⟩:=bindR_ok e1;obtain⟨e4,rfl⟩:=liftR_ok e3;obtain⟨p0,rfl⟩:=gPart_ok e4;refine attr_of hb (thn (ha.u pins s σ H (λv H1=>∃F1,Rel C Pr F1 env' σ H1/\Same F F1/\Rep C.K F1 (.clo (.Nonlocal [cn,t] p0) [d]) v) I ⟨Pr,F,env,env',_,rl,e2,λv H1 F1 r1 s1 p1=>⟨F1,r1,s1,p1⟩⟩) λu s1 ⟨v,H1,I1,rv,F1,r1,sF,hr⟩=>?_);obtain⟨b,vs,rfl,q,hds⟩:=hr;rcases q with ⟨_,z⟩|⟨_,_,_,_,_,_,z,_⟩|⟨n',r',p',o,u',c,fs,z,h1,h2,h3,h4,h5⟩
 ·cases z
 ·cases z
 ·cases z;rcases h5 with ⟨z,_⟩|⟨x,v,w,dx,od,ud,m,hx,rfl,hrv,hdd,hF,hns,hm⟩
  ·cases z
  ·cases hx;cases rv;obtain⟨S,Z⟩:=h c (by rw[G.K];exact h1);obtain⟨hp,g,dr,tk,os⟩:=s1;have g1:=(I1.hok b _ (r1.fr _ _ h2)).1;have g2:=(I1.hok dx _ (r1.fr _ _ hF)).1;refine XC.load (dx:=dx) (m:=m) (v:=w) I1.kIn Z g1 h3 hdd h4 (hns _ g2) hm (out_of hrv) ⟨v,H1,I1.tok _,hrv,qq v H1 F1 r1 sF ?_⟩;obtain⟨v',vs',z1,z2,z3⟩:=hds;cases z1;exact z2⟩
theorem s_tryXQ{st:Stmt}{ev:EvS}{c:Ev}(iy jn:Nat){cl:Addr}{S cn n y:Str}{np yp np2 ap hp:Pos}(T:Top1 X)(G:Good X C)(W:Below X.K X.mg S cn cl)(hb:Good X.nox C->SXSs X.nox C [st] ev)(hx:RawX X C st c cl t)(hnd:nodupB X.N=true:=by rfl)(hjn:X.N[jn]? = some n:=by rfl)(hiy:X.N[iy]? = some y:=by rfl)
  (hij:iy≠jn:=by decide) (hn:X.env.scope.names.lookup n=some .local:=by rfl) (hy:X.env.scope.names.lookup y=some .local:=by rfl) (fjn:C.fx jn=none:=by rfl) (fiy:C.fx iy=none:=by rfl) (gl:Gl X S:=by rfl) (hd:nDb S:=by decide) (hd1:nDb n:=by decide) (hd2:nCd n:=by decide)
  (hsw:swapsWith (.Name n np2) (some (.Name y yp)) ap.line X.env=pure false:=by rfl) :
  SXS X C (.Try [st] [.ExceptHandler (some (.Name S np)) (some n) [.Assign [.Name y yp] (.Name n np2) ap] hp] [] [] pos) (stTry ev c iy jn cn t):=⟨Ev.s_try T G.K W (hb (nox G)).u hx (nodupB_ok hnd) hjn hiy hij hn hy fjn fiy gl hd hd1 hd2 hsw⟩
end
open PySem PySem.Spec PySem.W PySem.Calls PyProof.Rows L2
def sumB:List Bool->Int
 | []=>0
 | b::r=>(if b=true then 1 else 0)+sumB r
theorem preSum_shift(f:Nat->Int):∀n,preSum f (n+1)=f 0+preSum (λi=>f (i+1)) n
 | 0=>by simp[preSum]
 | n+1=>by
  show preSum f (n+1)+f (n+1)=_;rw[preSum_shift f n];show _=f 0+(preSum (λi=>f (i+1)) n+f (n+1));omega
theorem preSum_bls:∀bs:List Bool,preSum (λi=>if bs.getD i false=true then 1 else 0) bs.length=sumB bs
 | []=>rfl
 | b::r=>by
  rw[Qqk,preSum_shift];have:=preSum_bls r;simp only[List.getD_cons_zero,List.getD_cons_succ,sumB];rw[this]
def placeB(b:Bool):List Bool->Option Nat
 | []=>none
 | c::r=>if c=b then some 0 else (placeB b r).map (·+ 1)
theorem placeB_ok{b:Bool}:∀{bs:List Bool} {j:Nat},placeB b bs=some j->∃hj:j<bs.length,bs[j]=b/\∀m (hm:m<bs.length),m<j->bs[m]≠b
 | [],_,h=>by cases h
 | c::r,j,h=>by
  unfold placeB at h;split at h
  ·rename_i z;cases h;exact⟨Nat.succ_pos _,z,λm hm hm0=>absurd hm0 (Nat.not_lt_zero _)⟩
  ·rename_i z;obtain⟨k,h1,rfl⟩:=Qw0.mp h;obtain⟨hk,h2,h3⟩:=placeB_ok h1;refine⟨Nat.succ_lt_succ hk,h2,λm hm hm0=>?_⟩;cases m with
   | zero=>exact z
   | succ m=>exact h3 m (Nat.lt_of_succ_lt_succ hm) (Nat.lt_of_succ_lt_succ hm0)
section
variable{X:Cx}{C:Cfg}{o e:Expr}{a b:Ev}{apos cpos p pos:Pos}{ea:EvA}
theorem call_sumB(hc:X.calm=true):CallR X (.builtin "sum") (λxs H Q=>∃(p:Addr) (bs:List Bool),xs=[.ref p]/\SqL X.K H p (bs.map V.bl)/\Q (.int (sumB bs)) H):=by
 intro pins s σ H xs us Q I r h;obtain⟨p,bs,rfl,hq,q⟩:=h;obtain⟨u,rfl,rx⟩:=vals1 r;cases rx;obtain⟨its,rv,pl,_⟩:=I.list hq;have e:=vals_bls rv;subst e;refine call_sum_walkAnyB (wpAny_pyIter_list pl.isList ?_);have hlt:p<s.heap.objs.size:=by obtain⟨o,e,_⟩:=pl.isList;exact Qq7 e
 refine⟨s.heap.objs.size,_,_,_,_,_,_,λi=>if bs.getD i false=true then 1 else 0,rfl,(Walks.list (A:=X.A.in1) (show X.A.in1.handled=none from I.ok.hd hc) s.heap.objs.size p (Qwz hlt) (bs.map Value.bool).toArray).toS,⟨⟨_,Qq5 _ rfl,rfl,rfl⟩,by obtain⟨o,e,rr⟩:=pl.isList;exact⟨o,Qqz _ e,rr⟩⟩,?_,?_,λs' tk hk=>?_⟩
 ·intro b hb;show b<(s.heap.push _).objs.size;rw[Qz8];rcases Qwq.mp hb with rfl|hb
  ·exact Nat.lt_succ_self _
  ·rcases Qwq.mp hb with rfl|hb
   ·exact Qz0 hlt
   ·cases hb
 ·intro i v hv;have hv:(bs.map Value.bool).toArray[i]? = some v:=hv;rw[List.getElem?_toArray,Qw8] at hv;cases hb:bs[i]? with
  | none=>rw[hb] at hv;cases hv
  | some b=>
   rw[hb] at hv;cases hv;refine .inr ⟨b,rfl,?_⟩;have this:bs.getD i false=b:=by simp[Qjj,hb]
   simp only[this]
 ·obtain⟨h',g',d',t',os'⟩:=s';obtain⟨k1,k2,k3,k4,k5⟩:=hk;simp only at k1 k2 k3 k4 k5;subst k2 k3 k4;have I1:Inv X pins σ H { s with heap:=h',toks:=t' }:=I.kept λb o e=>k1 b o (by simp;exact Qwz (Qq7 e)) (Qqz _ e);refine⟨.int _,H,I1,⟨tk,rfl⟩,?_⟩;have e2:(bs.map Value.bool).toArray.size=bs.length:=by simp
  rw[e2,preSum_bls];exact q
def gSumB:List D->Option D
 | [.lst ds]=>(blsOf ds).map λbs=>.int (sumB bs)
 | _=>none
theorem cd_sumB:CallD C (λxs H Q=>∃(p:Addr) (bs:List Bool),xs=[.ref p]/\SqL C.K H p (bs.map V.bl)/\Q (.int (sumB bs)) H) gSumB:=by
 intro Pr F env σ H ds d vs Q r hs h q;unfold gSumB at h;split at h
 ·rename_i es;cases e:blsOf es with
  | none=>rw[e] at h;cases h
  | some bs=>
   rw[e] at h;cases h;obtain⟨v,rfl,hv⟩:=breps1 hs;obtain⟨z,a,ws,rfl,h1,h2⟩:=hv.lst r.fr;have e2:=reps_bls e h2;subst e2;exact⟨a,bs,rfl,SqL.of h1,q _ H F r (Same.refl F) rfl⟩
 ·cases h
def rIndexB(K:Fg):V->List V->Hp->VK->Prop:=λx vs H Q=>∃a bs b j,x = .ref a/\vs=[.bl b]/\SqL K H a (bs.map V.bl)/\placeB b bs=some j/\Q (.int (j:Nat)) H
theorem mt_lstIndexB:MtM X "list.index" (rIndexB X.K):=by
 intro pins s σ H x vs v us Q I rx rv h;obtain⟨a,bs,b,j,rfl,rfl,hq,hp,q⟩:=h;cases rx;obtain⟨u,rfl,ru⟩:=rv.one;cases ru;obtain⟨its,r,ht,hz⟩:=I.list hq;have e:=vals_bls r;subst e;obtain⟨hj,h1,h2⟩:=placeB_ok hp
 let e:Value->Bool:=λy=>match y with|.bool y=>y == b|_=>false
 obtain⟨o,ho,hc,n,hd⟩:=ht.isList;obtain⟨cls,dd,data,sl⟩:=o;simp only at hc hd;subst hc hd;have hjs:j<(bs.map Value.bool).toArray.size:=by simpa using hj
 have at':∀m (hm:m<bs.length) (hm':m<(bs.map Value.bool).toArray.size),(bs.map Value.bool).toArray[m] = .bool bs[m]:=λm hm hm'=>by simp
 refine call_meets F.slot_list_index ⟨_,ho,rfl⟩ F.entry_list_index (F.args_list_index_2 _ _) (SeqAt.list_indexAt a (bs.map Value.bool).toArray n dd sl (.bool b) e j hjs ?_ ?_ ?_) ⟨ho,λy hy=>?_,?_⟩
 ·have:bs.length<=sizeLine:=by simpa using hz
  rw[Qj7] at this;omega
 ·rw[at' j hj hjs,h1];show(b == b)=true;simp
 ·intro m hm hmj;have hm':m<bs.length:=by simpa using hm
  rw[at' m hm' hm];show(bs[m] == b)=false;rw[beq_eq_false_iff_ne];exact h2 m hm' hmj
 ·obtain⟨m,hm,rfl⟩:=Array.mem_iff_getElem.mp hy;have hm':m<bs.length:=by simpa using hm
  rw[at' m hm' hm];exact PySem.SeqAt.EqAt.bool_bool _ _
 ·exact⟨.int j,H,I.tok _,⟨_,rfl⟩,q⟩
def gLIndexB:D->D->Option D
 | .lst ds,.bl b=>(blsOf ds).bind λbs=>(placeB b bs).map λj=>.int (j:Nat)
 | _,_=>none
theorem x_sumBQ(G:Good X C)(hm:X.mg "sum" = none)(ha:SXAB X C [e] ea)(hg:Gl X "sum":=by rfl)(he:sEn e X.env:=by rfl):SX X C (.Call (.Name "sum" p) [e] [] pos) (evCall gSumB ea):=⟨px_callB (by rw[<-G.K];exact call_sumB G.calm) cd_sumB hg hm (by decide +kernel) ha.u (by decide) (by decide) he rfl⟩
theorem x_lindexBQ(G:Good X C)(ho:SX X C o a)(he:SXB X C e b)(hbase:attributeBase o "index" X.env (eval o X.env)=eval o X.env:=by rfl)
  (hs:sEn e X.env:=by rfl)
  (hfew:((backTo cpos (starEach [e] X.env)).all (λx=>!x.1)&&(backToKw cpos (keywordEach [] X.env)).all (λx=>x.1.isSome)
   && decide ([e].length+([]:List Keyword).length+(if ([]:List Keyword).isEmpty then 0 else 1)<30))=true:=by rfl)
  (hline:(apos.endLine == cpos.line)=true:=by rfl) (hplain:(backTo cpos (starEach [] X.env)).any (·.1)=false:=by rfl) :
  SX X C (.Call (.Attribute o "index" apos) [e] [] cpos) (evBin gLIndexB a b):=⟨by
 have h:=pe_bm (cpos:=cpos) PySem.F.plainAttrs_list PySem.F.slot_list_index PySem.F.type_list_index mt_lstIndexB ho.u (pa_cons he.u pa_nil hs) hbase hfew hline hs hplain;rw[G.K] at h;refine h.imp λσ H Q hq=>?_;obtain⟨Pr,F,env,env',d,r,e0,q⟩:=hq;obtain⟨x,env1,e1,e2⟩:=bindR_ok e0;obtain⟨y,env2,e3,e4⟩:=bindR_ok e2;obtain⟨e5,rfl⟩:=liftR_ok e4;unfold gLIndexB at e5;split at e5
 ·rename_i ds z;obtain⟨zs,h1,h2⟩:=Qx5.mp e5;obtain⟨j,h3,rfl⟩:=Qw0.mp h2;refine⟨Pr,F,env,env1,_,r,e1,λvx H1 F1 r1 s1 p1=>?_⟩;obtain⟨hz,p,vs,rfl,h4,h5⟩:=p1;refine⟨.inl ⟨rfl,vs,SqL.of (r1.fr _ _ h4)⟩,Pr,F1,env1,env',_,r1,e3,λvy H2 F2 r2 s2 p2=>?_⟩;have hvy:vy = .bl z:=by
   rcases p2 with p2|⟨_,_,p2⟩
   ·exact p2
   ·exact p2.elim
  subst hvy;have e6:=reps_bls h1 h5;subst e6;exact⟨p,zs,z,j,rfl,rfl,SqL.of (r2.fr _ _ (s2 _ _ h4)),h3,q _ H2 F2 r2 (s1.trans s2) rfl⟩
 ·cases e5⟩
end
theorem evBF{g:D->D->Option D}{i:Nat}{b:Ev}{env e2:Env}{x y d:D}(h1:env[i]? = some (some (false,x)))(h2:b env = .ok y e2)(h4:e2[i]? = some (some (false,x)))(h3:g x y=some d):evBinO g i b env = .ok d e2:=evBinO_eq h1 h2 h4 h3
theorem evBT{g:D->D->Option D}{i:Nat}{b:Ev}{env e2:Env}{x y d:D}(h1:env[i]? = some (some (true,x)))(h2:b env = .ok y e2)(h4:e2[i]? = some (some (true,x)))(h3:g x y=some d):evBinO g i b env = .ok d e2:=evBinO_eq h1 h2 h4 h3
theorem stAp1{i:Nat}{a:Ev}{env e:Env}{d:D}{xs:List D}(h0:env[i]? = some (some (true,.lst xs)))(h1:a env = .ok d e)(h2:e[i]? = some (some (true,.lst xs)))(hz:xs.length<sizeLine):stApp i a env = .nx (e.set i (some (true,.lst (xs++[d])))):=by unfold stApp;rw[h0];simp only[h1,bindO,h2,if_pos hz]
theorem evIO1{f:List D->Option (D×D)}{i:Nat}{a:EvA}{env e1:Env}{ds:List D}{x d x':D}(h0:env[i]? = some (some (true,x)))(h1:a env = .ok ds e1)(h2:e1[i]? = some (some (true,x)))(h3:f (x::ds)=some (d,x')):evIO f i a env = .ok d (e1.set i (some (true,x'))):=evIO_eq h0 h1 h2 h3
theorem zz1:1<=sizeLine:=by decide
theorem zz2:2<=sizeLine:=by decide
theorem zz3:3<=sizeLine:=by decide
theorem zz4:4<=sizeLine:=by decide
theorem zz5:5<=sizeLine:=by decide
theorem zz6:6<=sizeLine:=by decide
theorem zz7:7<=sizeLine:=by decide
end Ev
abbrev OD:=Option (Bool×Ev.D)
abbrev Zf(d:Ev.D):OD:=some (false,d)
abbrev Zt(d:Ev.D):OD:=some (true,d)
abbrev Zs(w:List Nat):OD:=some (false,.str w)
abbrev Zb(b:Bool):OD:=some (false,.bl b)
abbrev Zl(l:List Ev.D):OD:=some (true,.lst l)
abbrev Zv(i:Nat)(a:Ev.EvA):Ev.EvA:=Ev.evCons (Ev.evVar i) a
abbrev Zi(i:Int):Ev.Ev:=Ev.evC (.int i)
abbrev Zw(w:List Nat):Ev.Ev:=Ev.evC (.str w)
abbrev LD:=List Ev.D->Option Ev.D
abbrev Zn:OD:=none
abbrev Zq0:List PySem.Str:=["thing"]
abbrev Zq1:List PySem.Str:=["_law_pack_here"]
abbrev Zq2:List PySem.Str:=["_law_stock_here"]
abbrev Zq3:List PySem.Str:=["_law_pack_here","_law_size"]
abbrev Zq4:List PySem.Str:=["_law_script","_law_k","_law_pack_here","_law_stock_here","_law_text","_law_found","_law_parts","_law_at","_law_odd","_law_thing"]
namespace K72
open Ev
section
def lc_is_name_1:Ev:=evLC 1 2 (evIt (evVar 0)) (gvName 1) evTrue (evBinO gIn 1 (Zw [97,98,99,100,101,102,103,104,105,106,107,108,109,110,111,112,113,114,115,116,117,118,119,120,121,122]))
def b_is_name:EvS:=stSeq (stIf (evNotT (evB (evUn (gIsi "str") (evVar 0)))) (stRet (evC (.bl false))) stNext) (stRet (evAnd (evChain gLe gLe (Zi 1) (evCall gLen (evCons (evRd 0) evNil)) (Zi 8)) (evCall gAll (evCons (lc_is_name_1) evNil))))
def f_is_name:LD:=runP 1 b_is_name
def b_is_sound:EvS:=stRet (evAnd (evCall f_is_name (Zv 0 evNil)) (evBin gEq (evCall gLen (evCons (evRd 0) evNil)) (Zi 1)))
def f_is_sound:LD:=runP 1 b_is_sound
def lc_rises_1:Ev:=evLC 1 2 (evRng (evCons (evBin gSub (evCall gLen (evCons (evRd 0) evNil)) (Zi 1)) evNil)) (gvName 1) evTrue (evBin gLt (evBinO gIx 0 (evRd 1)) (evBinO gIx 0 (evBinO gAdd 1 (Zi 1))))
def b_rises:EvS:=stRet (evCall gAll (evCons (lc_rises_1) evNil))
def f_rises:LD:=runP 1 b_rises
def b_is_pair:EvS:=stRet (evAnd (evUn (gIsi "tuple") (evVar 0)) (evBin gEq (evCall gLen (evCons (evRd 0) evNil)) (Zi 2)))
def f_is_pair:LD:=runP 1 b_is_pair
def lc_are_marks_1:Ev:=evLC 1 2 (evIt (evVar 0)) (gvName 1) evTrue (evCall f_is_name (Zv 1 evNil))
def b_are_marks:EvS:=stSeq (stIf (evOrT (evNotT (evB (evUn (gIsi "tuple") (evVar 0)))) (evB (evBin gGt (evCall gLen (evCons (evRd 0) evNil)) (Zi 4)))) (stRet (evC (.bl false))) stNext) (stRet (evAnd (evCall gAll (evCons (lc_are_marks_1) evNil)) (evCall f_rises (Zv 0 evNil))))
def f_are_marks:LD:=runP 1 b_are_marks
def b_is_marked_sound:EvS:=stRet (evAnd (evCall f_is_pair (Zv 0 evNil)) (evAnd (evCall f_is_sound (evCons (evBinO gIx 0 (Zi 0)) evNil)) (evCall f_are_marks (evCons (evBinO gIx 0 (Zi 1)) evNil))))
def f_is_marked_sound:LD:=runP 1 b_is_marked_sound
def lc_sounds_of_1:Ev:=evLC 1 3 (evIt (evVar 0)) (gvTup 2 (gvCons (gvName 1) (gvCons (gvName 2) gvNil))) evTrue (evVar 1)
def b_sounds_of:EvS:=stRet (evCall gTuple (evCons (lc_sounds_of_1) evNil))
def f_sounds_of:LD:=runP 1 b_sounds_of
def lc_is_stock_1:Ev:=evLC 1 2 (evIt (evVar 0)) (gvName 1) evTrue (evCall f_is_marked_sound (Zv 1 evNil))
def b_is_stock:EvS:=stSeq (stIf (evOrT (evNotT (evB (evUn (gIsi "tuple") (evVar 0)))) (evNotT (evB (evChain gLe gLe (Zi 1) (evCall gLen (evCons (evRd 0) evNil)) (Zi 4))))) (stRet (evC (.bl false))) stNext) (stRet (evAnd (evCall gAll (evCons (lc_is_stock_1) evNil)) (evCall f_rises (evCons (evCall f_sounds_of (Zv 0 evNil)) evNil))))
def f_is_stock:LD:=runP 1 b_is_stock
def b_need_text:EvS:=stIf (evNotT (evB (evUn (gIsi "str") (evVar 0)))) (stStuck) stNext
def f_need_text:LD:=runP 1 b_need_text
def bx_need_text:EvS:=stIf (evNotT (evB (evUn (gIsi "str") (evVar 0)))) (stRaiseI (evC .non)) stNext
def x_need_text:LD:=runX 1 bx_need_text
def lc_show_stock_1:Ev:=evLC 1 3 (evIt (evVar 0)) (gvTup 2 (gvCons (gvName 1) (gvCons (gvName 2) gvNil))) evTrue (evBin gJoinT (Zw [32]) (evBin gAdd (evTup (Zv 1 evNil)) (evRd 2)))
def b_show_stock:EvS:=stRet (evBin gJoin (Zw [44,32]) (lc_show_stock_1))
def f_show_stock:LD:=runP 1 b_show_stock
def lb_read_stock_1:EvS:=stSeq (stAsg (evBin gSplit (evVar 3) (Zw [32])) (gvName 4)) (stSeq (stAsg (evBinO gAdd 1 (evTup (evCons (evTup (evCons (evBinO gIx 4 (Zi 0)) (evCons (evCall gTuple (evCons (evSlA (evVar 4) (evP (Zi 1)) evNoP) evNil)) evNil))) evNil))) (gvName 1)) (stIf (evNotT (evB (evCall f_is_stock (Zv 1 evNil)))) (stStuck) stNext))
def xb_read_stock_1:EvS:=stSeq (stAsg (evBin gSplit (evVar 3) (Zw [32])) (gvName 4)) (stSeq (stAsg (evBinO gAdd 1 (evTup (evCons (evTup (evCons (evBinO gIx 4 (Zi 0)) (evCons (evCall gTuple (evCons (evSlA (evVar 4) (evP (Zi 1)) evNoP) evNil)) evNil))) evNil))) (gvName 1)) (stIf (evNotT (evB (evCall f_is_stock (Zv 1 evNil)))) (stRaiseI (evVar 2)) stNext))
def b_read_stock:EvS:=stSeq (stDrop (evCall f_need_text (Zv 0 evNil))) (stSeq (stAsg (evTup evNil) (gvName 1)) (stSeq (stFor (evEnumL (evCons (evBin gSplit (evVar 0) (Zw [44,32])) evNil)) (gvTup 2 (gvCons (gvName 2) (gvCons (gvName 3) gvNil))) (lb_read_stock_1)) (stRet (evVar 1))))
def f_read_stock:LD:=runP 5 b_read_stock
def bx_read_stock:EvS:=stSeq (stAlt (evCallX x_need_text (Zv 0 evNil)) (stDrop (evCall f_need_text (Zv 0 evNil)))) (stSeq (stAsg (evTup evNil) (gvName 1)) (stSeq (stFor (evEnumL (evCons (evBin gSplit (evVar 0) (Zw [44,32])) evNil)) (gvTup 2 (gvCons (gvName 2) (gvCons (gvName 3) gvNil))) (xb_read_stock_1)) (stRet (evVar 1))))
def x_read_stock:LD:=runX 5 bx_read_stock
def b_law_mixed:EvS:=stRet (evBin gMod (evBinO gMul 0 (Zi 262406895267124108351839057402211873468251940277165213587343)) (evBin gPow (Zi 10) (Zi 60)))
def f_law_mixed:LD:=runP 1 b_law_mixed
def lb_law_pack_1:EvS:=stAsg (evBin gAdd (evBinO gMul 2 (evBin gPow (Zi 10) (Zi 60))) (evCall f_law_mixed (evCons (evBin gIx (evBin gAdd (evSl (evVar 0) (evP (evVar 3)) (evP (evBinO gAdd 3 (Zi 1)))) (evLst (evCons (evBin gAdd (evBin gMul (Zi 7919) (evRd 3)) (Zi 61)) evNil))) (Zi 0)) evNil))) (gvName 2)
def b_law_pack:EvS:=stSeq (stAsg (Zi 0) (gvName 2)) (stSeq (stFor (evIt (evLst (evCons (evBinO gAdd 1 (Zi 1)) (Zv 1 evNil)))) (gvName 3) (lb_law_pack_1)) (stRetNew (evLst (Zv 2 evNil))))
def f_law_pack:LD:=runN 4 b_law_pack
def b_law_take:EvS:=stSeq (stAsg (evCall gDivmod (evCons (evBinO gIx 0 (Zi 0)) (evCons (evRd 1) evNil))) (gvTup 2 (gvCons (gvAt 0 (Zi 0)) (gvCons (gvName 2) gvNil)))) (stRet (evVar 2))
def f_law_take:List D->Option (D×D):=runIO 3 b_law_take
def lc_law_drawn_sounds_1:Ev:=evLC 4 5 (evRng (evCons (evBin gAdd (Zi 1) (evIO f_law_take 0 (evCons (Zi 4) evNil))) evNil)) (gvName 4) evTrue (evBinO gIx 1 (evBin gMod (evBinO gAdd 2 (evBinO gMul 3 (evRd 4))) (Zi 26)))
def b_law_drawn_sounds:EvS:=stSeq (stAsg (Zw [97,98,99,100,101,102,103,104,105,106,107,108,109,110,111,112,113,114,115,116,117,118,119,120,121,122]) (gvName 1)) (stSeq (stAsg (evTup (evCons (evIO f_law_take 0 (evCons (Zi 26) evNil)) (evCons (evBin gAdd (Zi 1) (evIO f_law_take 0 (evCons (Zi 25) evNil))) evNil))) (gvTup 2 (gvCons (gvName 2) (gvCons (gvName 3) gvNil)))) (stRet (evBin gJoin (Zw []) (evUn gSortSet (lc_law_drawn_sounds_1)))))
def f_law_drawn_sounds:List D->Option (D×D):=runIO 4 b_law_drawn_sounds
def b_law_marks:EvS:=stSeq (stAsg (Zw [97,98,99,100,101,102,103,104,105,106,107,108,109,110,111,112,113,114,115,116,117,118,119,120,121,122]) (gvName 1)) (stSeq (stAsg (evIO f_law_take 0 (evCons (Zi 26) evNil)) (gvName 2)) (stSeq (stAsg (evBin gAdd (evSlS (evVar 1) (evP (evVar 2)) evNoP) (evSlS (evVar 1) evNoP (evP (evVar 2)))) (gvName 1)) (stRet (evLst (evCons (evSlS (evVar 1) evNoP (evP (Zi 1))) (evCons (evSlS (evVar 1) evNoP (evP (Zi 3))) (evCons (evSlS (evVar 1) (evP (Zi 4)) (evP (Zi 9))) (evCons (evSlS (evVar 1) (evP (Zi 9)) (evP (Zi 17))) (evCons (evSlS (evVar 1) (evP (Zi 20)) (evP (Zi 22))) evNil)))))))))
def f_law_marks:List D->Option (D×D):=runIO 3 b_law_marks
def lc_law_stock_1:Ev:=evLC 7 8 (evRng (evCons (Zi 5) evNil)) (gvName 7) (evB (evBin gEq (evBin gAnd (evBinO gShr 5 (evRd 7)) (Zi 1)) (Zi 1))) (evBinO gIx 2 (evRd 7))
def lb_law_stock_1:EvS:=stSeq (stAsg (evIO f_law_take 0 (evCons (Zi 32) evNil)) (gvName 5)) (stSeq (stAsg (evCall gSorted (evCons (lc_law_stock_1) evNil)) (gvName 6)) (stApp 3 (evTup (Zv 4 (evCons (evCall gTuple (evCons (evSlA (evVar 6) evNoP (evP (Zi 4))) evNil)) evNil)))))
def b_law_stock:EvS:=stSeq (stAsg (evIO f_law_drawn_sounds 0 evNil) (gvName 1)) (stSeq (stAsg (evIO f_law_marks 0 evNil) (gvName 2)) (stSeq (stOwn 3 (evLst evNil)) (stSeq (stFor (evIt (evVar 1)) (gvName 4) (lb_law_stock_1)) (stRet (evCall gTuple (evCons (evRd 3) evNil))))))
def f_law_stock:List D->Option (D×D):=runIO 7 b_law_stock
def lc_law_stock_text_1:Ev:=evLC 1 3 (evIt (evVar 0)) (gvTup 2 (gvCons (gvName 1) (gvCons (gvName 2) gvNil))) evTrue (evBin gJoin (Zw [32]) (evBin gAdd (evLst (Zv 1 evNil)) (evCall gList (evCons (evRd 2) evNil))))
def b_law_stock_text:EvS:=stRet (evBin gJoin (Zw [44,32]) (lc_law_stock_text_1))
def f_law_stock_text:LD:=runP 1 b_law_stock_text
def b_law_sort:EvS:=stSeq (stAsg (evLst (evCons (evUn (gIsx (isT "NoText" true)) (evVar 0)) (evCons (evUn (gIsx (isT "NoText" false)) (evVar 0)) (evCons (evUn (gIsx (isT "NoText" false)) (evVar 0)) (evCons (evUn (gIsx (isT "NoText" false)) (evVar 0)) evNil))))) (gvName 1)) (stSeq (stAsg (evBinO gAdd 1 (evLst (evCons (evUn (gIsx (isT "NoText" false)) (evVar 0)) (evCons (evUn (gIsx (isT "NoText" false)) (evVar 0)) (evCons (evUn (gIsx (isT "NoText" false)) (evVar 0)) evNil))))) (gvName 1)) (stSeq (stIf (evOrT (evNotT (evB (evUn (gIsx (isT "NoText" true)) (evVar 0)))) (evB (evBin gNe (evCall gSumB (evCons (evRd 1) evNil)) (Zi 1)))) (stRet (evC .non)) stNext) (stRet (evBin gLIndexB (evVar 1) (evC (.bl true))))))
def f_law_sort:LD:=runP 2 b_law_sort
def b_law_refused:EvS:=stSeq (stAsg (evC .non) (gvName 2)) (stSeq (stTry (stDrop (evCall f_read_stock (Zv 0 evNil))) (evCallX x_read_stock (Zv 0 evNil)) 2 3 "NoText" "part") (stRet (evAnd (evBinO gIsNot 2 (evC .non)) (evAnd (evBin gEq (evCall f_law_sort (Zv 2 evNil)) (Zi 0)) (evAnd (evBin gEq (evUn (gPart "NoText" "part") (evVar 2)) (evRd 1)) (evNot (evUn (gIsi "bool") (evUn (gPart "NoText" "part") (evVar 2)))))))))
def f_law_refused:LD:=runP 4 b_law_refused
def b_law_odd_parts:EvS:=stSeq (stAsg (evLst (evCons (Zw []) (evCons (Zw [32]) (evCons (Zw [65]) (evCons (Zw [97,98]) (evCons (Zw [35]) (evCons (Zw [48]) (evCons (evBinO gAdd 0 (Zw [32])) (evCons (evBin gAdd (Zw [32]) (evRd 0)) (evCons (evBinO gAdd 0 (Zw [32,32,115,116,111,112])) (evCons (evBinO gAdd 0 (Zw [32,83,116,111,112])) evNil))))))))))) (gvName 1)) (stSeq (stAsg (evBinO gAdd 1 (evLst (evCons (evBinO gAdd 0 (Zw [32,115,116,111,112,32,115,116,111,112])) evNil))) (gvName 1)) (stSeq (stAsg (evBinO gAdd 1 (evLst (evCons (evBinO gAdd 0 (Zw [32,115,116,111,112,32,111,112,101,110])) (evCons (evBinO gAdd 0 (Zw [32,97,98,99,100,101,102,103,104,105])) (evCons (evBinO gAdd 0 (Zw [32,97,49])) (evCons (evBinO gAdd 0 (Zw [32,35])) (evCons (evBinO gAdd 0 (Zw [44])) evNil))))))) (gvName 1)) (stSeq (stAsg (evBinO gAdd 1 (evLst (evCons (evBinO gAdd 0 (Zw [59])) (evCons (evBin gAdd (Zw [44]) (evRd 0)) evNil)))) (gvName 1)) (stSeq (stAsg (evBinO gAdd 1 (evLst (evCons (evBinO gAdd 0 (Zw [32,97,32,98,32,99,32,100,32,101])) (evCons (evBinO gAdd 0 (Zw [58,115,116,111,112])) (evCons (evBinO gAdd 0 (Zw [32,115,116,111,112,44])) (evCons (evBinO gAdd 0 (Zw [10])) (evCons (evBinO gAdd 0 (Zw [32,91,115,116,111,112,93])) evNil))))))) (gvName 1)) (stSeq (stAsg (evBinO gAdd 1 (evLst (evCons (evBinO gAdd 0 (Zw [44,115,116,111,112])) evNil))) (gvName 1)) (stRet (evBinO gAdd 1 (evLst (evCons (Zw [49]) (evCons (Zw [45]) (evCons (evBinO gAdd 0 (Zw [32,45])) (evCons (evBinO gAdd 0 (Zw [32,115,116,111,112,32])) (evCons (evBinO gAdd 0 (evRd 0)) (evCons (Zw [115,116,111,112]) evNil))))))))))))))
def f_law_odd_parts:LD:=runP 2 b_law_odd_parts
def lc_law_1:Ev:=evLC 10 11 (evIt (evVar 5)) (gvName 10) evTrue (evAnd (evUn (gIsi "tuple") (evVar 10)) (evUn (gIsi "tuple") (evBinO gIx 10 (Zi 1))))
def lb_law_1:EvS:=stIf (evNotT (evB (evCall f_law_refused (evCons (evBin gJoin (Zw [44,32]) (evBin gAdd (evBin gAdd (evSlA (evVar 6) evNoP (evP (evVar 7))) (evLst (Zv 8 evNil))) (evSlA (evVar 6) (evP (evBinO gAdd 7 (Zi 1))) evNoP))) (Zv 7 evNil))))) (stRet (evC (.bl false))) stNext
def lb_law_2:EvS:=stSeq (stOwn 2 (evCall f_law_pack (Zv 0 (Zv 1 evNil)))) (stSeq (stAsg (evIO f_law_stock 2 evNil) (gvName 3)) (stSeq (stAsg (evCall f_law_stock_text (Zv 3 evNil)) (gvName 4)) (stSeq (stAsg (evCall f_read_stock (Zv 4 evNil)) (gvName 5)) (stSeq (stIf (evOrT (evB (evBin gNe (evCall f_show_stock (Zv 3 evNil)) (evRd 4))) (evOrT (evB (evBinO gNe 5 (evRd 3))) (evNotT (evB (evUn (gIsi "tuple") (evVar 5)))))) (stRet (evC (.bl false))) stNext) (stSeq (stIf (evNotT (evB (evCall gAll (evCons (lc_law_1) evNil)))) (stRet (evC (.bl false))) stNext) (stSeq (stAsg (evBin gSplit (evVar 4) (Zw [44,32])) (gvName 6)) (stSeq (stAsg (evIO f_law_take 2 (evCons (evCall gLen (evCons (evRd 6) evNil)) evNil)) (gvName 7)) (stSeq (stFor (evIt (evCall f_law_odd_parts (evCons (evBin gIx (evBinO gIx 6 (evRd 7)) (Zi 0)) evNil))) (gvName 8) (lb_law_1)) (stSeq (stIf (evNotT (evB (evCall f_law_refused (evCons (evBin gJoin (Zw [44,32]) (evBinO gAdd 6 (evSlA (evVar 6) (evP (evVar 7)) (evP (evBinO gAdd 7 (Zi 1)))))) (evCons (evCall gLen (evCons (evRd 6) evNil)) evNil))))) (stRet (evC (.bl false))) stNext) (stIf (evNotT (evB (evCall f_law_refused (evCons (evBinO gAdd 4 (Zw [44,32])) (evCons (evCall gLen (evCons (evRd 6) evNil)) evNil))))) (stRet (evC (.bl false))) stNext))))))))))
def lb_law_3:EvS:=stIf (evNotT (evB (evCall f_law_refused (Zv 9 (evCons (evC .non) evNil))))) (stRet (evC (.bl false))) stNext
def b_law:EvS:=stSeq (stFor (evRng (evCons (Zi 0) (evCons (evCall gMax (evCons (Zi 1) (evCons (evCall gMin (evCons (evCall gLen (evCons (evRd 0) evNil)) (evCons (Zi 16) evNil))) evNil))) (evCons (Zi 2) evNil)))) (gvName 1) (lb_law_2)) (stSeq (stFor (evIt (evLst (evCons (evC .non) (evCons (Zi 7) (evCons (evC (.bl true)) (evCons (evTup evNil) (evCons (evLst (evCons (Zw [97]) evNil)) (evCons (evDnew) evNil)))))))) (gvName 9) (lb_law_3)) (stSeq (stIf (evOrT (evNotT (evB (evCall f_law_refused (evCons (Zw [98,44,32,97,44,32,65]) (evCons (Zi 1) evNil))))) (evNotT (evB (evCall f_law_refused (evCons (Zw [97,44,32,98,44,32,99,44,32,100,44,32,101,44,32,70]) (evCons (Zi 4) evNil)))))) (stRet (evC (.bl false))) stNext) (stRet (evAnd (evCall f_law_refused (evCons (Zw []) (evCons (Zi 0) evNil))) (evAnd (evCall f_law_refused (evCons (Zw [97,44,32,98,44,32,99,44,32,100,44,32,101]) (evCons (Zi 4) evNil))) (evCall f_law_refused (evCons (Zw [98,44,32,97]) (evCons (Zi 1) evNil))))))))
def f_law:LD:=runP 10 b_law
end
open PySem PySem.Spec PyProof.Rows L2 Ev
def top(i:Nat):Stmt:=PySem.Challenge.pw_soundrules_k72_stocks_written.main.body.getD i (.Pass ⟨0,0,0,0⟩)
abbrev s_is_name:Stmt:=top 14
abbrev s_is_sound:Stmt:=top 15
abbrev s_rises:Stmt:=top 16
abbrev s_is_pair:Stmt:=top 17
abbrev s_are_marks:Stmt:=top 18
abbrev s_is_marked_sound:Stmt:=top 19
abbrev s_sounds_of:Stmt:=top 21
abbrev s_is_stock:Stmt:=top 20
abbrev s_need_text:Stmt:=top 23
abbrev s_show_stock:Stmt:=top 24
abbrev s_read_stock:Stmt:=top 25
abbrev s_law_mixed:Stmt:=top 27
abbrev s_law_pack:Stmt:=top 28
abbrev s_law_take:Stmt:=top 29
abbrev s_law_drawn_sounds:Stmt:=top 30
abbrev s_law_marks:Stmt:=top 31
abbrev s_law_stock:Stmt:=top 32
abbrev s_law_stock_text:Stmt:=top 33
abbrev s_law_sort:Stmt:=top 34
abbrev s_law_refused:Stmt:=top 35
abbrev s_law_odd_parts:Stmt:=top 36
abbrev s_law:Stmt:=top 37
abbrev s_init:Stmt:=inClass (top 6) 0
theorem sc_init:FnScope ["self","part"] ["self","part"] (defScope s_init):=scOk
structure Top(K:Fg)(mg:Str->Option Value):Prop where
 nb_ValueError:mg "ValueError" = none
 nb_all:mg "all" = none
 nb_bool:mg "bool" = none
 nb_divmod:mg "divmod" = none
 nb_enumerate:mg "enumerate" = none
 nb_isinstance:mg "isinstance" = none
 nb_len:mg "len" = none
 nb_list:mg "list" = none
 nb_max:mg "max" = none
 nb_min:mg "min" = none
 nb_range:mg "range" = none
 nb_set:mg "set" = none
 nb_sorted:mg "sorted" = none
 nb_str:mg "str" = none
 nb_sum:mg "sum" = none
 nb_tuple:mg "tuple" = none
 isi_bool:∀d:D,PySem.W.kitOne K (.type (tyD d)) (.type "bool")=some (instD d "bool")
 isi_str:∀d:D,PySem.W.kitOne K (.type (tyD d)) (.type "str")=some (instD d "str")
 isi_tuple:∀d:D,PySem.W.kitOne K (.type (tyD d)) (.type "tuple")=some (instD d "tuple")
 xc_NoText:XK1 K mg "NoText" "part" (clA K "NoText")
 pt:PartAt K "NoText" "part"
 bw_SoundError:Below K mg "SoundError" "NoText" (clA K "NoText")
 ic_NoCall:IsxAt K mg "NoText" "NoCall" false
 ic_NoKept:IsxAt K mg "NoText" "NoKept" false
 ic_NoNumber:IsxAt K mg "NoText" "NoNumber" false
 ic_NoSide:IsxAt K mg "NoText" "NoSide" false
 ic_NoSource:IsxAt K mg "NoText" "NoSource" false
 ic_NoText:IsxAt K mg "NoText" "NoText" true
 ic_TooMany:IsxAt K mg "NoText" "TooMany" false
 ib_ValueError:IsxB K "NoText" "ValueError" true
 gl_LETTERS:Glb K mg "LETTERS" (.str [97,98,99,100,101,102,103,104,105,106,107,108,109,110,111,112,113,114,115,116,117,118,119,120,121,122])
 gl_MOST_LETTERS:Glb K mg "MOST_LETTERS" (.int 8)
 gl_MOST_MARKS:Glb K mg "MOST_MARKS" (.int 4)
 gl_MOST_SOUNDS:Glb K mg "MOST_SOUNDS" (.int 4)
 t_is_name:FunAt K mg "is_name" s_is_name Zq0
 t_is_sound:FunAt K mg "is_sound" s_is_sound Zq0
 t_rises:FunAt K mg "rises" s_rises ["things"]
 t_is_pair:FunAt K mg "is_pair" s_is_pair Zq0
 t_are_marks:FunAt K mg "are_marks" s_are_marks Zq0
 t_is_marked_sound:FunAt K mg "is_marked_sound" s_is_marked_sound Zq0
 t_sounds_of:FunAt K mg "sounds_of" s_sounds_of ["stock"]
 t_is_stock:FunAt K mg "is_stock" s_is_stock Zq0
 t_need_text:FunAt K mg "need_text" s_need_text Zq0
 t_show_stock:FunAt K mg "show_stock" s_show_stock ["stock"]
 t_read_stock:FunAt K mg "read_stock" s_read_stock ["text"]
 t_law_mixed:FunAt K mg "_law_mixed" s_law_mixed ["_law_cell"]
 t_law_pack:FunAt K mg "_law_pack" s_law_pack ["_law_script","_law_k"]
 t_law_take:FunAt K mg "_law_take" s_law_take Zq3
 t_law_drawn_sounds:FunAt K mg "_law_drawn_sounds" s_law_drawn_sounds Zq1
 t_law_marks:FunAt K mg "_law_marks" s_law_marks Zq1
 t_law_stock:FunAt K mg "_law_stock" s_law_stock Zq1
 t_law_stock_text:FunAt K mg "_law_stock_text" s_law_stock_text Zq2
 t_law_sort:FunAt K mg "_law_sort" s_law_sort ["_law_e"]
 t_law_refused:FunAt K mg "_law_refused" s_law_refused ["_law_text","_law_part"]
 t_law_odd_parts:FunAt K mg "_law_odd_parts" s_law_odd_parts ["_law_sound"]
section
variable{P:Program}{w:World}{K:Fg}{mg:Str->Option Value}{base:Heap}(Z:Top K mg)
theorem sc_is_name:FnScope Zq0 Zq0 (defScope s_is_name):=scOk
include Z in
theorem o_is_name:Own P w K mg base "is_name" 1 Zq0 (spP K 1 f_is_name):=by
 obtain⟨v_LETTERS,u_LETTERS,gl_LETTERS⟩:=Z.gl_LETTERS;obtain⟨v_MOST_LETTERS,u_MOST_LETTERS,gl_MOST_LETTERS⟩:=Z.gl_MOST_LETTERS;exact own_pure (k:=0) Z.t_is_name sc_is_name (λf cdv A outer s H E hr G=>(SXSs.u (pxss_consQ (pxs_ifQ (pxt_notQ (pxt_valQ (px_isiQ (T:="str") rfl Z.nb_isinstance rfl Z.nb_str (by decide +kernel) Z.isi_str G.K (x_varQ 0)))) (pxss_oneQ (pxs_retQ px_blQ)) pxss_nilQ)
   (pxss_oneQ (pxs_retQ (px_andQ (x_chainQ c_le c_le px_intQ (x_lenQ G Z.nb_len (pxab_oneQ (x_rdQ 0))) (px_globQ (.int 8) rfl gl_MOST_LETTERS.1 gl_MOST_LETTERS.2.1 (λF=>gl_MOST_LETTERS.2.2 F))) (px_oneQ (x_allQ G Z.nb_all (pxab_oneQ (PX_bQ (PXN_pxQ (n_lcQ ["thing","sign"] 1 compOk G (i_seqQ G (x_varQ 0)) (λX1 h1=>by have G:=G.at h1;obtain⟨_,_,_,_,_,rfl⟩:=h1;exact(g_nameQ 1)) (λX1 h1=>by have G:=G.at h1;obtain⟨_,_,_,_,_,rfl⟩:=h1;exact pxif_nilQ) (λX1 h1=>by have G:=G.at h1;obtain⟨_,_,_,_,_,rfl⟩:=h1;exact(x_cmpOQ 1 (c_in G) (PX_bQ (px_globQ (.str [97,98,99,100,101,102,103,104,105,106,107,108,109,110,111,112,113,114,115,116,117,118,119,120,121,122]) rfl gl_LETTERS.1 gl_LETTERS.2.1 (λF=>gl_LETTERS.2.2 F)))))))))))))))))
theorem sc_is_sound:FnScope Zq0 Zq0 (defScope s_is_sound):=scOk
include Z in
theorem o_is_sound:Own P w K mg base "is_sound" 2 Zq0 (spP K 1 f_is_sound):=by exact own_pure (k:=1) Z.t_is_sound sc_is_sound (λf cdv A outer s H E hr G=>(SXSs.u (pxss_oneQ (pxs_retQ (px_andQ (x_ownQ (o_is_name Z) G hr (pvQ 0 pxa_nilQ) (lenS len0)) (px_oneQ (x_cmpQ (c_eq G) (x_lenQ G Z.nb_len (pxab_oneQ (x_rdQ 0))) (PX_bQ px_intQ))))))))
theorem sc_rises:FnScope ["things"] ["things"] (defScope s_rises):=scOk
include Z in
theorem o_rises:Own P w K mg base "rises" 1 ["things"] (spP K 1 f_rises):=by exact own_pure (k:=0) Z.t_rises sc_rises (λf cdv A outer s H E hr G=>(SXSs.u (pxss_oneQ (pxs_retQ (x_allQ G Z.nb_all (pxab_oneQ (PX_bQ (PXN_pxQ (n_lcQ ["things","at"] 1 compOk G (i_rng1Q Z.nb_range (pxa_consQ (x_binQ b_sub (x_lenQ G Z.nb_len (pxab_oneQ (x_rdQ 0))) (PX_bQ px_intQ)) pxa_nilQ) (lenS len0)) (λX1 h1=>by have G:=G.at h1;obtain⟨_,_,_,_,_,rfl⟩:=h1;exact(g_nameQ 1)) (λX1 h1=>by have G:=G.at h1;obtain⟨_,_,_,_,_,rfl⟩:=h1;exact pxif_nilQ) (λX1 h1=>by have G:=G.at h1;obtain⟨_,_,_,_,_,rfl⟩:=h1;exact(x_cmpQ c_lt (x_ixOQ 0 G (x_rdQ 1)) (PX_bQ (x_ixOQ 0 G (PX_bQ (x_binOQ 1 (b_add G) (PX_bQ px_intQ))))))))))))))))
theorem sc_is_pair:FnScope Zq0 Zq0 (defScope s_is_pair):=scOk
include Z in
theorem o_is_pair:Own P w K mg base "is_pair" 1 Zq0 (spP K 1 f_is_pair):=by exact own_pure (k:=0) Z.t_is_pair sc_is_pair (λf cdv A outer s H E hr G=>(SXSs.u (pxss_oneQ (pxs_retQ (px_andQ (px_isiQ (T:="tuple") rfl Z.nb_isinstance rfl Z.nb_tuple (by decide +kernel) Z.isi_tuple G.K (x_varQ 0)) (px_oneQ (x_cmpQ (c_eq G) (x_lenQ G Z.nb_len (pxab_oneQ (x_rdQ 0))) (PX_bQ px_intQ))))))))
theorem sc_are_marks:FnScope Zq0 Zq0 (defScope s_are_marks):=scOk
include Z in
theorem o_are_marks:Own P w K mg base "are_marks" 2 Zq0 (spP K 1 f_are_marks):=by
 obtain⟨v_MOST_MARKS,u_MOST_MARKS,gl_MOST_MARKS⟩:=Z.gl_MOST_MARKS;exact own_pure (k:=1) Z.t_are_marks sc_are_marks (λf cdv A outer s H E hr G=>(SXSs.u (pxss_consQ (pxs_ifQ (PXW_ptQ (pxw_orQ (pxt_notQ (pxt_valQ (px_isiQ (T:="tuple") rfl Z.nb_isinstance rfl Z.nb_tuple (by decide +kernel) Z.isi_tuple G.K (x_varQ 0)))) (pxw_or1Q (t_cmpQ c_gt (x_lenQ G Z.nb_len (pxab_oneQ (x_rdQ 0))) (PX_bQ (px_globQ (.int 4) rfl gl_MOST_MARKS.1 gl_MOST_MARKS.2.1 (λF=>gl_MOST_MARKS.2.2 F))))))) (pxss_oneQ (pxs_retQ px_blQ)) pxss_nilQ)
   (pxss_oneQ (pxs_retQ (px_andQ (x_allQ G Z.nb_all (pxab_oneQ (PX_bQ (PXN_pxQ (n_lcQ ["thing","mark"] 1 compOk G (i_seqQ G (x_varQ 0)) (λX1 h1=>by have G:=G.at h1;obtain⟨_,_,_,_,_,rfl⟩:=h1;exact(g_nameQ 1)) (λX1 h1=>by have G:=G.at h1;obtain⟨_,_,_,_,_,rfl⟩:=h1;exact pxif_nilQ) (λX1 h1=>by have G:=G.at h1;obtain⟨_,_,_,_,_,rfl⟩:=h1;exact(x_ownQ (o_is_name Z) G hr (pvQ 1 pxa_nilQ) (lenS len0)))))))) (px_oneQ (x_ownQ (o_rises Z) G hr (pvQ 0 pxa_nilQ) (lenS len0)))))))))
theorem sc_is_marked_sound:FnScope Zq0 Zq0 (defScope s_is_marked_sound):=scOk
include Z in
theorem o_is_marked_sound:Own P w K mg base "is_marked_sound" 3 Zq0 (spP K 1 f_is_marked_sound):=by exact own_pure (k:=2) Z.t_is_marked_sound sc_is_marked_sound (λf cdv A outer s H E hr G=>(SXSs.u (pxss_oneQ (pxs_retQ (px_andQ (x_ownQ (o_is_pair Z) G hr (pvQ 0 pxa_nilQ) (lenS len0)) (px_andQ (x_ownQ (o_is_sound Z) G hr (pxa_consQ (x_ixOQ 0 G (PX_bQ px_intQ)) pxa_nilQ) (lenS len0)) (px_oneQ (x_ownQ (o_are_marks Z) G hr (pxa_consQ (x_ixOQ 0 G (PX_bQ px_intQ)) pxa_nilQ) (lenS len0)))))))))
theorem sc_sounds_of:FnScope ["stock"] ["stock"] (defScope s_sounds_of):=scOk
include Z in
theorem o_sounds_of:Own P w K mg base "sounds_of" 1 ["stock"] (spP K 1 f_sounds_of):=by exact own_pure (k:=0) Z.t_sounds_of sc_sounds_of (λf cdv A outer s H E hr G=>(SXSs.u (pxss_oneQ (pxs_retQ (x_tupleQ G Z.nb_tuple (pxab_oneQ (PX_bQ (PXN_pxQ (n_lcQ ["stock","sound","marks"] 1 compOk G (i_seqQ G (x_varQ 0)) (λX1 h1=>by have G:=G.at h1;obtain⟨_,_,_,_,_,rfl⟩:=h1;exact(g_tupQ G (pxgs_consQ (g_nameQ 1) (pxgs_consQ (g_nameQ 2) pxgs_nilQ)))) (λX1 h1=>by have G:=G.at h1;obtain⟨_,_,_,_,_,rfl⟩:=h1;exact pxif_nilQ) (λX1 h1=>by have G:=G.at h1;obtain⟨_,_,_,_,_,rfl⟩:=h1;exact(x_varQ 1)))))))))))
theorem sc_is_stock:FnScope Zq0 Zq0 (defScope s_is_stock):=scOk
include Z in
theorem o_is_stock:Own P w K mg base "is_stock" 4 Zq0 (spP K 1 f_is_stock):=by
 obtain⟨v_MOST_SOUNDS,u_MOST_SOUNDS,gl_MOST_SOUNDS⟩:=Z.gl_MOST_SOUNDS;exact own_pure (k:=3) Z.t_is_stock sc_is_stock (λf cdv A outer s H E hr G=>(SXSs.u (pxss_consQ (pxs_ifQ (PXW_ptQ (pxw_orQ (pxt_notQ (pxt_valQ (px_isiQ (T:="tuple") rfl Z.nb_isinstance rfl Z.nb_tuple (by decide +kernel) Z.isi_tuple G.K (x_varQ 0)))) (pxw_or1Q (pxt_notQ (t_chainQ c_le c_le px_intQ (x_lenQ G Z.nb_len (pxab_oneQ (x_rdQ 0))) (px_globQ (.int 4) rfl gl_MOST_SOUNDS.1 gl_MOST_SOUNDS.2.1 (λF=>gl_MOST_SOUNDS.2.2 F))))))) (pxss_oneQ (pxs_retQ px_blQ)) pxss_nilQ)
   (pxss_oneQ (pxs_retQ (px_andQ (x_allQ G Z.nb_all (pxab_oneQ (PX_bQ (PXN_pxQ (n_lcQ ["thing","row"] 1 compOk G (i_seqQ G (x_varQ 0)) (λX1 h1=>by have G:=G.at h1;obtain⟨_,_,_,_,_,rfl⟩:=h1;exact(g_nameQ 1)) (λX1 h1=>by have G:=G.at h1;obtain⟨_,_,_,_,_,rfl⟩:=h1;exact pxif_nilQ) (λX1 h1=>by have G:=G.at h1;obtain⟨_,_,_,_,_,rfl⟩:=h1;exact(x_ownQ (o_is_marked_sound Z) G hr (pvQ 1 pxa_nilQ) (lenS len0)))))))) (px_oneQ (x_ownQ (o_rises Z) G hr (pxa_consQ (x_ownQ (o_sounds_of Z) G hr (pvQ 0 pxa_nilQ) (lenS len0)) pxa_nilQ) (lenS len0)))))))))
theorem sc_need_text:FnScope Zq0 Zq0 (defScope s_need_text):=scOk
include Z in
theorem ox_need_text:OwnX P w K mg base "need_text" 3 Zq0 (spX K 1 x_need_text (clA K "NoText") "part"):=by exact own_raise (k:=2) Z.t_need_text sc_need_text (clA K "NoText") "part" (λf cdv A outer s H E d hr hE G=>(prs_one (pr_if (SXT.u (pxt_notQ (pxt_valQ (px_isiQ (T:="str") rfl Z.nb_isinstance rfl Z.nb_str (by decide +kernel) Z.isi_str G.K (x_varQ 0))))) (prs_one (pr_rs (k:=0) Z.xc_NoText (hr.mono (by decide)) hE (SX.u px_nonQ))) (prs_of (SXSs.u pxss_nilQ)))))
include Z in
theorem o_need_text:Own P w K mg base "need_text" 3 Zq0 (spP K 1 f_need_text):=by exact own_pure (k:=2) Z.t_need_text sc_need_text (λf cdv A outer s H E hr G=>(SXSs.u (pxss_oneQ (pxs_ifQ (pxt_notQ (pxt_valQ (px_isiQ (T:="str") rfl Z.nb_isinstance rfl Z.nb_str (by decide +kernel) Z.isi_str G.K (x_varQ 0)))) (pxss_oneQ pxs_raiseQ) pxss_nilQ))))
theorem sc_show_stock:FnScope ["stock"] ["stock"] (defScope s_show_stock):=scOk
include Z in
theorem o_show_stock:Own P w K mg base "show_stock" 1 ["stock"] (spP K 1 f_show_stock):=by exact own_pure (k:=0) Z.t_show_stock sc_show_stock (λf cdv A outer s H E hr G=>(SXSs.u (pxss_oneQ (pxs_retQ (x_joinQ G (px_strQ [44,32]) (PX_bQ (PXN_pxQ (n_lcQ ["stock","sound","marks"] 1 compOk G (i_seqQ G (x_varQ 0)) (λX1 h1=>by have G:=G.at h1;obtain⟨_,_,_,_,_,rfl⟩:=h1;exact(g_tupQ G (pxgs_consQ (g_nameQ 1) (pxgs_consQ (g_nameQ 2) pxgs_nilQ)))) (λX1 h1=>by have G:=G.at h1;obtain⟨_,_,_,_,_,rfl⟩:=h1;exact pxif_nilQ) (λX1 h1=>by have G:=G.at h1;obtain⟨_,_,_,_,_,rfl⟩:=h1;exact(x_joinTQ G (px_strQ [32]) (PX_bQ (x_binQ (b_add G) (px_tupQ (pvQ 1 pxa_nilQ)) (x_rdQ 2)))))))))))))
theorem sc_read_stock:FnScope ["text","rows","number","part","words"] ["text"] (defScope s_read_stock):=scOk
include Z in
theorem ox_read_stock:OwnX P w K mg base "read_stock" 5 ["text"] (spX K 1 x_read_stock (clA K "NoText") "part"):=by
 exact own_raise (k:=4) Z.t_read_stock sc_read_stock (clA K "NoText") "part" (λf cdv A outer s H E d hr hE G=>(prs_cons (pr_alt (pxx_call (ox_need_text Z) (hr.mono (by decide)) rfl (SXA.u (pvQ 0 pxa_nilQ)) (lenS len0) (xe_on hE)) (SXS.u (pxs_dropQ (x_ownQ (o_need_text Z) G hr (pvQ 0 pxa_nilQ) (lenS len0)))))
   (prs_cons (pr_of (SXS.u (s_setQ 1 (px_tupQ pxa_nilQ))))
   (prs_cons (pr_for PySem.PassesOwn.leaving rfl (SXI.u (i_enumLQ G Z.nb_enumerate (pxa_consQ (x_splitQ G (x_varQ 0) (PX_bQ (px_strQ [44,32]))) pxa_nilQ))) (SXG.u (g_tupQ G (pxgs_consQ (g_nameQ 2) (pxgs_consQ (g_nameQ 3) pxgs_nilQ)))) (prs_cons (pr_of (SXS.u (s_setQ 4 (x_splitQ G (x_varQ 3) (PX_bQ (px_strQ [32]))))))
   (prs_cons (pr_of (SXS.u (s_setQ 1 (x_binOQ 1 (b_add G) (PX_bQ (px_tupQ (pxa_consQ (px_tupQ (pxa_consQ (x_ixOQ 4 G (PX_bQ px_intQ)) (pxa_consQ (x_tupleQ G Z.nb_tuple (pxab_oneQ (PX_bQ (x_slAQ G (x_varQ 4) (pxp_someQ px_intQ) pxp_noneQ)))) pxa_nilQ))) pxa_nilQ)))))))
   (prs_one (pr_if (SXT.u (pxt_notQ (pxt_valQ (x_ownQ (o_is_stock Z) G hr (pvQ 1 pxa_nilQ) (lenS len0))))) (prs_one (pr_rs (k:=0) Z.xc_NoText (hr.mono (by decide)) hE (SX.u (x_varQ 2)))) (prs_of (SXSs.u pxss_nilQ)))))))
   (prs_one (pr_of (SXS.u (pxs_retQ (x_varQ 1)))))))))
include Z in
theorem o_read_stock:Own P w K mg base "read_stock" 5 ["text"] (spP K 1 f_read_stock):=by
 exact own_pure (k:=4) Z.t_read_stock sc_read_stock (λf cdv A outer s H E hr G=>(SXSs.u (pxss_consQ (pxs_dropQ (x_ownQ (o_need_text Z) G hr (pvQ 0 pxa_nilQ) (lenS len0)))
   (pxss_consQ (s_setQ 1 (px_tupQ pxa_nilQ))
   (pxss_consQ (s_forQ G (i_enumLQ G Z.nb_enumerate (pxa_consQ (x_splitQ G (x_varQ 0) (PX_bQ (px_strQ [44,32]))) pxa_nilQ)) (g_tupQ G (pxgs_consQ (g_nameQ 2) (pxgs_consQ (g_nameQ 3) pxgs_nilQ))) (pxss_consQ (s_setQ 4 (x_splitQ G (x_varQ 3) (PX_bQ (px_strQ [32]))))
   (pxss_consQ (s_setQ 1 (x_binOQ 1 (b_add G) (PX_bQ (px_tupQ (pxa_consQ (px_tupQ (pxa_consQ (x_ixOQ 4 G (PX_bQ px_intQ)) (pxa_consQ (x_tupleQ G Z.nb_tuple (pxab_oneQ (PX_bQ (x_slAQ G (x_varQ 4) (pxp_someQ px_intQ) pxp_noneQ)))) pxa_nilQ))) pxa_nilQ)))))
   (pxss_oneQ (pxs_ifQ (pxt_notQ (pxt_valQ (x_ownQ (o_is_stock Z) G hr (pvQ 1 pxa_nilQ) (lenS len0)))) (pxss_oneQ pxs_raiseQ) pxss_nilQ)))))
   (pxss_oneQ (pxs_retQ (x_varQ 1))))))))
theorem sc_law_mixed:FnScope ["_law_cell"] ["_law_cell"] (defScope s_law_mixed):=scOk
include Z in
theorem o_law_mixed:Own P w K mg base "_law_mixed" 1 ["_law_cell"] (spP K 1 f_law_mixed):=by exact own_pure (k:=0) Z.t_law_mixed sc_law_mixed (λf cdv A outer s H E hr G=>(SXSs.u (pxss_oneQ (pxs_retQ (x_binQ b_mod (x_binOQ 0 b_mul (PX_bQ px_intQ)) (PX_bQ (x_binQ b_pow px_intQ (PX_bQ px_intQ))))))))
theorem sc_law_pack:FnScope ["_law_script","_law_k","_law_found","_law_at"] ["_law_script","_law_k"] (defScope s_law_pack):=scOk
include Z in
theorem o_law_pack:Own P w K mg base "_law_pack" 2 ["_law_script","_law_k"] (spN K 2 f_law_pack):=by
 exact own_new (k:=1) Z.t_law_pack sc_law_pack (λf cdv A outer s H E hr G=>(SXSs.u (pxss_consQ (s_setQ 2 px_intQ)
   (pxss_consQ (s_forQ G (i_seqQ G (PXN_pxQ (pxn_lstQ (pxa_consQ (x_binOQ 1 (b_add G) (PX_bQ px_intQ)) (pvQ 1 pxa_nilQ))))) (g_nameQ 3) (pxss_oneQ (s_setQ 2 (x_binQ (b_add G) (x_binOQ 2 b_mul (PX_bQ (x_binQ b_pow px_intQ (PX_bQ px_intQ)))) (PX_bQ (x_ownQ (o_law_mixed Z) G hr (pxa_consQ (x_ixQ G (x_binQ (b_add G) (x_slQ G (x_varQ 0) (pxp_someQ (x_varQ 3)) (pxp_someQ (x_binOQ 3 (b_add G) (PX_bQ px_intQ)))) (PX_bQ (PXN_pxQ (pxn_lstQ (pxa_consQ (x_binQ (b_add G) (x_binQ b_mul px_intQ (x_rdQ 3)) (PX_bQ px_intQ)) pxa_nilQ))))) (PX_bQ px_intQ)) pxa_nilQ) (lenS len0)))))))
   (pxss_oneQ (pxs_retNewQ (pxn_lstQ (pvQ 2 pxa_nilQ))))))))
theorem sc_law_take:FnScope ["_law_pack_here","_law_size","_law_digit"] Zq3 (defScope s_law_take):=scOk
include Z in
theorem o_law_take:Own P w K mg base "_law_take" 1 Zq3 (spIO K 2 f_law_take):=by
 exact own_io (k:=0) Z.t_law_take sc_law_take (λf cdv A outer s H E a hr G=>(SXSs.u (pxss_consQ (pxs_asgQ (x_divmodQ G Z.nb_divmod (pxab_consQ (x_ixOQ 0 G (PX_bQ px_intQ)) (pxab_oneQ (x_rdQ 1)))) (g_tupQ G (pxgs_consQ (g_atQ 0 px_intQ) (pxgs_consQ (g_nameQ 2) pxgs_nilQ))))
   (pxss_oneQ (pxs_retQ (x_varQ 2))))))
theorem sc_law_drawn_sounds:FnScope ["_law_pack_here","_law_letters","_law_at","_law_by"] Zq1 (defScope s_law_drawn_sounds):=scOk
include Z in
theorem o_law_drawn_sounds:Own P w K mg base "_law_drawn_sounds" 2 Zq1 (spIO K 1 f_law_drawn_sounds):=by
 exact own_io (k:=1) Z.t_law_drawn_sounds sc_law_drawn_sounds (λf cdv A outer s H E a hr G=>(SXSs.u (pxss_consQ (s_setQ 1 (px_strQ [97,98,99,100,101,102,103,104,105,106,107,108,109,110,111,112,113,114,115,116,117,118,119,120,121,122]))
   (pxss_consQ (pxs_asgQ (px_tupQ (pxa_consQ (x_ioQ 0 (o_law_take Z) G hr (pxa_consQ px_intQ pxa_nilQ) (lenIO (lenS len0))) (pxa_consQ (x_binQ (b_add G) px_intQ (PX_bQ (x_ioQ 0 (o_law_take Z) G hr (pxa_consQ px_intQ pxa_nilQ) (lenIO (lenS len0))))) pxa_nilQ))) (g_tupQ G (pxgs_consQ (g_nameQ 2) (pxgs_consQ (g_nameQ 3) pxgs_nilQ))))
   (pxss_oneQ (pxs_retQ (x_joinQ G (px_strQ []) (PX_bQ (x_sortsetQ G Z.nb_sorted Z.nb_set (PXN_pxQ (n_lcQ ["_law_pack_here","_law_letters","_law_at","_law_by","_law_k"] 4 compOk G (i_rng1Q Z.nb_range (pxa_consQ (x_binQ (b_add G) px_intQ (PX_bQ (x_ioQ 0 (o_law_take Z) G hr (pxa_consQ px_intQ pxa_nilQ) (lenIO (lenS len0))))) pxa_nilQ) (lenS len0)) (λX1 h1=>by have G:=G.at h1;obtain⟨_,_,_,_,_,rfl⟩:=h1;exact(g_nameQ 4)) (λX1 h1=>by have G:=G.at h1;obtain⟨_,_,_,_,_,rfl⟩:=h1;exact pxif_nilQ) (λX1 h1=>by have G:=G.at h1;obtain⟨_,_,_,_,_,rfl⟩:=h1;exact(x_ixOQ 1 G (PX_bQ (x_binQ b_mod (x_binOQ 2 (b_add G) (PX_bQ (x_binOQ 3 b_mul (x_rdQ 4)))) (PX_bQ px_intQ))))))))))))))))
theorem sc_law_marks:FnScope ["_law_pack_here","_law_letters","_law_turn"] Zq1 (defScope s_law_marks):=scOk
include Z in
theorem o_law_marks:Own P w K mg base "_law_marks" 2 Zq1 (spIO K 1 f_law_marks):=by
 exact own_io (k:=1) Z.t_law_marks sc_law_marks (λf cdv A outer s H E a hr G=>(SXSs.u (pxss_consQ (s_setQ 1 (px_strQ [97,98,99,100,101,102,103,104,105,106,107,108,109,110,111,112,113,114,115,116,117,118,119,120,121,122]))
   (pxss_consQ (s_setQ 2 (x_ioQ 0 (o_law_take Z) G hr (pxa_consQ px_intQ pxa_nilQ) (lenIO (lenS len0))))
   (pxss_consQ (s_setQ 1 (x_binQ (b_add G) (x_slSQ (x_varQ 1) (pxp_someQ (x_varQ 2)) pxp_noneQ) (PX_bQ (x_slSQ (x_varQ 1) pxp_noneQ (pxp_someQ (x_varQ 2))))))
   (pxss_oneQ (pxs_retQ (PXN_pxQ (pxn_lstQ (pxa_consQ (x_slSQ (x_varQ 1) pxp_noneQ (pxp_someQ px_intQ)) (pxa_consQ (x_slSQ (x_varQ 1) pxp_noneQ (pxp_someQ px_intQ)) (pxa_consQ (x_slSQ (x_varQ 1) (pxp_someQ px_intQ) (pxp_someQ px_intQ)) (pxa_consQ (x_slSQ (x_varQ 1) (pxp_someQ px_intQ) (pxp_someQ px_intQ)) (pxa_consQ (x_slSQ (x_varQ 1) (pxp_someQ px_intQ) (pxp_someQ px_intQ)) pxa_nilQ))))))))))))))
theorem sc_law_stock:FnScope ["_law_pack_here","_law_sounds","_law_known","_law_found","_law_sound","_law_number","_law_marks_here"] Zq1 (defScope s_law_stock):=scOk
include Z in
theorem o_law_stock:Own P w K mg base "_law_stock" 3 Zq1 (spIO K 1 f_law_stock):=by
 exact own_io (k:=2) Z.t_law_stock sc_law_stock (λf cdv A outer s H E a hr G=>(SXSs.u (pxss_consQ (s_setQ 1 (x_ioQ 0 (o_law_drawn_sounds Z) G hr pxa_nilQ (lenIO len0)))
   (pxss_consQ (s_setQ 2 (x_ioQ 0 (o_law_marks Z) G hr pxa_nilQ (lenIO len0)))
   (pxss_consQ (s_ownQ 3 (pxn_lstQ pxa_nilQ))
   (pxss_consQ (s_forQ G (i_seqQ G (x_varQ 1)) (g_nameQ 4) (pxss_consQ (s_setQ 5 (x_ioQ 0 (o_law_take Z) G hr (pxa_consQ px_intQ pxa_nilQ) (lenIO (lenS len0))))
   (pxss_consQ (s_setQ 6 (x_sortedQ G Z.nb_sorted (pxab_oneQ (PX_bQ (PXN_pxQ (n_lcQ ["_law_pack_here","_law_sounds","_law_known","_law_found","_law_sound","_law_number","_law_marks_here","_law_k"] 7 compOk G (i_rng1Q Z.nb_range (pxa_consQ px_intQ pxa_nilQ) (lenS len0)) (λX1 h1=>by have G:=G.at h1;obtain⟨_,_,_,_,_,rfl⟩:=h1;exact(g_nameQ 7)) (λX1 h1=>by have G:=G.at h1;obtain⟨_,_,_,_,_,rfl⟩:=h1;exact(pxif_oneQ (t_cmpQ (c_eq G) (x_binQ b_and (x_binOQ 5 b_shr (x_rdQ 7)) (PX_bQ px_intQ)) (PX_bQ px_intQ)))) (λX1 h1=>by have G:=G.at h1;obtain⟨_,_,_,_,_,rfl⟩:=h1;exact(x_ixOQ 2 G (x_rdQ 7)))))))))
   (pxss_oneQ (s_appQ 3 G (px_tupQ (pvQ 4 (pxa_consQ (x_tupleQ G Z.nb_tuple (pxab_oneQ (PX_bQ (x_slAQ G (x_varQ 6) pxp_noneQ (pxp_someQ px_intQ))))) pxa_nilQ))))))))
   (pxss_oneQ (pxs_retQ (x_tupleQ G Z.nb_tuple (pxab_oneQ (x_rdQ 3)))))))))))
theorem sc_law_stock_text:FnScope Zq2 Zq2 (defScope s_law_stock_text):=scOk
include Z in
theorem o_law_stock_text:Own P w K mg base "_law_stock_text" 1 Zq2 (spP K 1 f_law_stock_text):=by exact own_pure (k:=0) Z.t_law_stock_text sc_law_stock_text (λf cdv A outer s H E hr G=>(SXSs.u (pxss_oneQ (pxs_retQ (x_joinQ G (px_strQ [44,32]) (PX_bQ (PXN_pxQ (n_lcQ ["_law_stock_here","_law_sound","_law_marks_here"] 1 compOk G (i_seqQ G (x_varQ 0)) (λX1 h1=>by have G:=G.at h1;obtain⟨_,_,_,_,_,rfl⟩:=h1;exact(g_tupQ G (pxgs_consQ (g_nameQ 1) (pxgs_consQ (g_nameQ 2) pxgs_nilQ)))) (λX1 h1=>by have G:=G.at h1;obtain⟨_,_,_,_,_,rfl⟩:=h1;exact pxif_nilQ) (λX1 h1=>by have G:=G.at h1;obtain⟨_,_,_,_,_,rfl⟩:=h1;exact(x_joinQ G (px_strQ [32]) (PX_bQ (x_binQ (b_add G) (PXN_pxQ (pxn_lstQ (pvQ 1 pxa_nilQ))) (PX_bQ (x_listQ G Z.nb_list (pxab_oneQ (x_rdQ 2))))))))))))))))
theorem sc_law_sort:FnScope ["_law_e","_law_sorts"] ["_law_e"] (defScope s_law_sort):=scOk
include Z in
theorem o_law_sort:Own P w K mg base "_law_sort" 1 ["_law_e"] (spP K 1 f_law_sort):=by
 exact own_pure (k:=0) Z.t_law_sort sc_law_sort (λf cdv A outer s H E hr G=>(SXSs.u (pxss_consQ (s_setQ 1 (PXN_pxQ (pxn_lstQ (pxa_consQ (x_isxQ G Z.nb_isinstance Z.ic_NoText (x_varQ 0)) (pxa_consQ (x_isxQ G Z.nb_isinstance Z.ic_TooMany (x_varQ 0)) (pxa_consQ (x_isxQ G Z.nb_isinstance Z.ic_NoSide (x_varQ 0)) (pxa_consQ (x_isxQ G Z.nb_isinstance Z.ic_NoNumber (x_varQ 0)) pxa_nilQ)))))))
   (pxss_consQ (s_setQ 1 (x_binOQ 1 (b_add G) (PX_bQ (PXN_pxQ (pxn_lstQ (pxa_consQ (x_isxQ G Z.nb_isinstance Z.ic_NoSource (x_varQ 0)) (pxa_consQ (x_isxQ G Z.nb_isinstance Z.ic_NoCall (x_varQ 0)) (pxa_consQ (x_isxQ G Z.nb_isinstance Z.ic_NoKept (x_varQ 0)) pxa_nilQ))))))))
   (pxss_consQ (pxs_ifQ (PXW_ptQ (pxw_orQ (pxt_notQ (pxt_valQ (x_isxBQ (by decide +kernel) G Z.nb_isinstance Z.nb_ValueError Z.ib_ValueError (x_varQ 0)))) (pxw_or1Q (t_cmpQ (c_ne G) (x_sumBQ G Z.nb_sum (pxab_oneQ (x_rdQ 1))) (PX_bQ px_intQ))))) (pxss_oneQ (pxs_retQ px_nonQ)) pxss_nilQ)
   (pxss_oneQ (pxs_retQ (x_lindexBQ G (x_varQ 1) (PX_bQ px_blQ)))))))))
theorem sc_law_refused:FnScope ["_law_text","_law_part","_law_caught","_law_e"] ["_law_text","_law_part"] (defScope s_law_refused):=scOk
include Z in
theorem o_law_refused:Own P w K mg base "_law_refused" 6 ["_law_text","_law_part"] (spP K 2 f_law_refused):=by
 exact own_pure (k:=5) Z.t_law_refused sc_law_refused (λf cdv A outer s H E hr G=>(SXSs.u (pxss_consQ (s_setQ 2 px_nonQ)
   (pxss_consQ (s_tryXQ 2 3 ⟨rfl,rfl,rfl⟩ G Z.bw_SoundError (λG=>(pxss_oneQ (pxs_dropQ (x_ownQ (o_read_stock Z) G hr (pvQ 0 pxa_nilQ) (lenS len0))))) (raw_expr (ox_read_stock Z) (hr.mono (by decide)) rfl (SXA.u (pvQ 0 pxa_nilQ)) (lenS len0)))
   (pxss_oneQ (pxs_retQ (px_andQ (x_cmpOQ 2 c_isNot (PX_bQ px_nonQ)) (px_andQ (x_cmpQ (c_eq G) (x_ownQ (o_law_sort Z) G hr (pvQ 2 pxa_nilQ) (lenS len0)) (PX_bQ px_intQ)) (px_andQ (x_cmpQ (c_eq G) (x_partQ G Z.pt (x_varQ 2)) (x_rdQ 1)) (px_oneQ (px_notQ (px_isiQ (T:="bool") rfl Z.nb_isinstance rfl Z.nb_bool (by decide +kernel) Z.isi_bool G.K (x_partQ G Z.pt (x_varQ 2))))))))))))))
theorem sc_law_odd_parts:FnScope ["_law_sound","_law_found"] ["_law_sound"] (defScope s_law_odd_parts):=scOk
include Z in
theorem o_law_odd_parts:Own P w K mg base "_law_odd_parts" 1 ["_law_sound"] (spP K 1 f_law_odd_parts):=by
 exact own_pure (k:=0) Z.t_law_odd_parts sc_law_odd_parts (λf cdv A outer s H E hr G=>(SXSs.u (pxss_consQ (s_setQ 1 (PXN_pxQ (n_lstLQ (pxl_consQ (px_strQ []) (pxl_consQ (px_strQ [32]) (pxl_consQ (px_strQ [65]) (pxl_consQ (px_strQ [97,98]) (pxl_consQ (px_strQ [35]) (pxl_consQ (px_strQ [48]) (pxl_consQ (x_binOQ 0 (b_add G) (PX_bQ (px_strQ [32]))) (pxl_consQ (x_binQ (b_add G) (px_strQ [32]) (x_rdQ 0)) (pxl_consQ (x_binOQ 0 (b_add G) (PX_bQ (px_strQ [32,32,115,116,111,112]))) (pxl_consQ (x_binOQ 0 (b_add G) (PX_bQ (px_strQ [32,83,116,111,112]))) pxl_nilQ)))))))))))))
   (pxss_consQ (s_setQ 1 (x_binOQ 1 (b_add G) (PX_bQ (PXN_pxQ (pxn_lstQ (pxa_consQ (x_binOQ 0 (b_add G) (PX_bQ (px_strQ [32,115,116,111,112,32,115,116,111,112]))) pxa_nilQ))))))
   (pxss_consQ (s_setQ 1 (x_binOQ 1 (b_add G) (PX_bQ (PXN_pxQ (pxn_lstQ (pxa_consQ (x_binOQ 0 (b_add G) (PX_bQ (px_strQ [32,115,116,111,112,32,111,112,101,110]))) (pxa_consQ (x_binOQ 0 (b_add G) (PX_bQ (px_strQ [32,97,98,99,100,101,102,103,104,105]))) (pxa_consQ (x_binOQ 0 (b_add G) (PX_bQ (px_strQ [32,97,49]))) (pxa_consQ (x_binOQ 0 (b_add G) (PX_bQ (px_strQ [32,35]))) (pxa_consQ (x_binOQ 0 (b_add G) (PX_bQ (px_strQ [44]))) pxa_nilQ))))))))))
   (pxss_consQ (s_setQ 1 (x_binOQ 1 (b_add G) (PX_bQ (PXN_pxQ (pxn_lstQ (pxa_consQ (x_binOQ 0 (b_add G) (PX_bQ (px_strQ [59]))) (pxa_consQ (x_binQ (b_add G) (px_strQ [44]) (x_rdQ 0)) pxa_nilQ)))))))
   (pxss_consQ (s_setQ 1 (x_binOQ 1 (b_add G) (PX_bQ (PXN_pxQ (pxn_lstQ (pxa_consQ (x_binOQ 0 (b_add G) (PX_bQ (px_strQ [32,97,32,98,32,99,32,100,32,101]))) (pxa_consQ (x_binOQ 0 (b_add G) (PX_bQ (px_strQ [58,115,116,111,112]))) (pxa_consQ (x_binOQ 0 (b_add G) (PX_bQ (px_strQ [32,115,116,111,112,44]))) (pxa_consQ (x_binOQ 0 (b_add G) (PX_bQ (px_strQ [10]))) (pxa_consQ (x_binOQ 0 (b_add G) (PX_bQ (px_strQ [32,91,115,116,111,112,93]))) pxa_nilQ))))))))))
   (pxss_consQ (s_setQ 1 (x_binOQ 1 (b_add G) (PX_bQ (PXN_pxQ (pxn_lstQ (pxa_consQ (x_binOQ 0 (b_add G) (PX_bQ (px_strQ [44,115,116,111,112]))) pxa_nilQ))))))
   (pxss_oneQ (pxs_retQ (x_binOQ 1 (b_add G) (PX_bQ (PXN_pxQ (n_lstLQ (pxl_consQ (px_strQ [49]) (pxl_consQ (px_strQ [45]) (pxl_consQ (x_binOQ 0 (b_add G) (PX_bQ (px_strQ [32,45]))) (pxl_consQ (x_binOQ 0 (b_add G) (PX_bQ (px_strQ [32,115,116,111,112,32]))) (pxl_consQ (x_binOQ 0 (b_add G) (x_rdQ 0)) (pxl_consQ (px_strQ [115,116,111,112]) pxl_nilQ))))))))))))))))))))
theorem sc_law:FnScope Zq4 ["_law_script"] (defScope s_law):=scOk
include Z in
theorem fn_law{f:Addr}{fd:FuncData}(F:Fun K "law" "law" s_law f fd):FnOk P w K mg base CX0 7 f fd ["_law_script"] (spP K 1 f_law):=by
 exact def_pure (k:=6) F sc_law (λcdv A outer s H E hr=>by
  have G:=good_bx (P:=P) (w:=w) (K:=K) (mg:=mg) (base:=base) (N:=Zq4) (outer:=outer) (H:=H) (E:=E) (C:=C0 K) rfl hr;exact(SXSs.u (pxss_consQ (s_forQ G (i_rng3Q Z.nb_range (pxa_consQ px_intQ (pxa_consQ (x_maxQ G Z.nb_max (pxab_consQ px_intQ (pxab_oneQ (PX_bQ (x_minQ G Z.nb_min (pxab_consQ (x_lenQ G Z.nb_len (pxab_oneQ (x_rdQ 0))) (pxab_oneQ (PX_bQ px_intQ)))))))) (pxa_consQ px_intQ pxa_nilQ))) (lenS (lenS (lenS len0)))) (g_nameQ 1) (pxss_consQ (s_ownQ 2 (n_ownQ (o_law_pack Z) G hr (pvQ 0 (pvQ 1 pxa_nilQ)) (lenS (lenS len0))))
   (pxss_consQ (s_setQ 3 (x_ioQ 2 (o_law_stock Z) G hr pxa_nilQ (lenIO len0)))
   (pxss_consQ (s_setQ 4 (x_ownQ (o_law_stock_text Z) G hr (pvQ 3 pxa_nilQ) (lenS len0)))
   (pxss_consQ (s_setQ 5 (x_ownQ (o_read_stock Z) G hr (pvQ 4 pxa_nilQ) (lenS len0)))
   (pxss_consQ (pxs_ifQ (PXW_ptQ (pxw_orQ (t_cmpQ (c_ne G) (x_ownQ (o_show_stock Z) G hr (pvQ 3 pxa_nilQ) (lenS len0)) (x_rdQ 4)) (pxw_orQ (t_cmpOQ 5 (c_ne G) (x_rdQ 3)) (pxw_or1Q (pxt_notQ (pxt_valQ (px_isiQ (T:="tuple") rfl Z.nb_isinstance rfl Z.nb_tuple (by decide +kernel) Z.isi_tuple G.K (x_varQ 5)))))))) (pxss_oneQ (pxs_retQ px_blQ)) pxss_nilQ)
   (pxss_consQ (pxs_ifQ (pxt_notQ (pxt_valQ (x_allQ G Z.nb_all (pxab_oneQ (PX_bQ (PXN_pxQ (n_lcQ ["_law_script","_law_k","_law_pack_here","_law_stock_here","_law_text","_law_found","_law_parts","_law_at","_law_odd","_law_thing","_law_part"] 10 compOk G (i_seqQ G (x_varQ 5)) (λX1 h1=>by have G:=G.at h1;obtain⟨_,_,_,_,_,rfl⟩:=h1;exact(g_nameQ 10)) (λX1 h1=>by have G:=G.at h1;obtain⟨_,_,_,_,_,rfl⟩:=h1;exact pxif_nilQ) (λX1 h1=>by have G:=G.at h1;obtain⟨_,_,_,_,_,rfl⟩:=h1;exact(px_andQ (px_isiQ (T:="tuple") rfl Z.nb_isinstance rfl Z.nb_tuple (by decide +kernel) Z.isi_tuple G.K (x_varQ 10)) (px_oneQ (px_isiQ (T:="tuple") rfl Z.nb_isinstance rfl Z.nb_tuple (by decide +kernel) Z.isi_tuple G.K (x_ixOQ 10 G (PX_bQ px_intQ))))))))))))) (pxss_oneQ (pxs_retQ px_blQ)) pxss_nilQ)
   (pxss_consQ (s_setQ 6 (x_splitQ G (x_varQ 4) (PX_bQ (px_strQ [44,32]))))
   (pxss_consQ (s_setQ 7 (x_ioQ 2 (o_law_take Z) G hr (pxa_consQ (x_lenQ G Z.nb_len (pxab_oneQ (x_rdQ 6))) pxa_nilQ) (lenIO (lenS len0))))
   (pxss_consQ (s_forQ G (i_seqQ G (x_ownQ (o_law_odd_parts Z) G hr (pxa_consQ (x_ixQ G (x_ixOQ 6 G (x_rdQ 7)) (PX_bQ px_intQ)) pxa_nilQ) (lenS len0))) (g_nameQ 8) (pxss_oneQ (pxs_ifQ (pxt_notQ (pxt_valQ (x_ownQ (o_law_refused Z) G hr (pxa_consQ (x_joinQ G (px_strQ [44,32]) (PX_bQ (x_binQ (b_add G) (x_binQ (b_add G) (x_slAQ G (x_varQ 6) pxp_noneQ (pxp_someQ (x_varQ 7))) (PX_bQ (PXN_pxQ (pxn_lstQ (pvQ 8 pxa_nilQ))))) (PX_bQ (x_slAQ G (x_varQ 6) (pxp_someQ (x_binOQ 7 (b_add G) (PX_bQ px_intQ))) pxp_noneQ))))) (pvQ 7 pxa_nilQ)) (lenS (lenS len0))))) (pxss_oneQ (pxs_retQ px_blQ)) pxss_nilQ)))
   (pxss_consQ (pxs_ifQ (pxt_notQ (pxt_valQ (x_ownQ (o_law_refused Z) G hr (pxa_consQ (x_joinQ G (px_strQ [44,32]) (PX_bQ (x_binOQ 6 (b_add G) (PX_bQ (x_slAQ G (x_varQ 6) (pxp_someQ (x_varQ 7)) (pxp_someQ (x_binOQ 7 (b_add G) (PX_bQ px_intQ)))))))) (pxa_consQ (x_lenQ G Z.nb_len (pxab_oneQ (x_rdQ 6))) pxa_nilQ)) (lenS (lenS len0))))) (pxss_oneQ (pxs_retQ px_blQ)) pxss_nilQ)
   (pxss_oneQ (pxs_ifQ (pxt_notQ (pxt_valQ (x_ownQ (o_law_refused Z) G hr (pxa_consQ (x_binOQ 4 (b_add G) (PX_bQ (px_strQ [44,32]))) (pxa_consQ (x_lenQ G Z.nb_len (pxab_oneQ (x_rdQ 6))) pxa_nilQ)) (lenS (lenS len0))))) (pxss_oneQ (pxs_retQ px_blQ)) pxss_nilQ)))))))))))))
   (pxss_consQ (s_forQ G (i_seqQ G (PXN_pxQ (n_lstLQ (pxl_consQ px_nonQ (pxl_consQ px_intQ (pxl_consQ px_blQ (pxl_consQ (px_tupQ pxa_nilQ) (pxl_consQ (PXN_pxQ (pxn_lstQ (pxa_consQ (px_strQ [97]) pxa_nilQ))) (pxl_consQ (PXN_pxQ pxn_dnewQ) pxl_nilQ))))))))) (g_nameQ 9) (pxss_oneQ (pxs_ifQ (pxt_notQ (pxt_valQ (x_ownQ (o_law_refused Z) G hr (pvQ 9 (pxa_consQ px_nonQ pxa_nilQ)) (lenS (lenS len0))))) (pxss_oneQ (pxs_retQ px_blQ)) pxss_nilQ)))
   (pxss_consQ (pxs_ifQ (PXW_ptQ (pxw_orQ (pxt_notQ (pxt_valQ (x_ownQ (o_law_refused Z) G hr (pxa_consQ (px_strQ [98,44,32,97,44,32,65]) (pxa_consQ px_intQ pxa_nilQ)) (lenS (lenS len0))))) (pxw_or1Q (pxt_notQ (pxt_valQ (x_ownQ (o_law_refused Z) G hr (pxa_consQ (px_strQ [97,44,32,98,44,32,99,44,32,100,44,32,101,44,32,70]) (pxa_consQ px_intQ pxa_nilQ)) (lenS (lenS len0)))))))) (pxss_oneQ (pxs_retQ px_blQ)) pxss_nilQ)
   (pxss_oneQ (pxs_retQ (px_andQ (x_ownQ (o_law_refused Z) G hr (pxa_consQ (px_strQ []) (pxa_consQ px_intQ pxa_nilQ)) (lenS (lenS len0))) (px_andQ (x_ownQ (o_law_refused Z) G hr (pxa_consQ (px_strQ [97,44,32,98,44,32,99,44,32,100,44,32,101]) (pxa_consQ px_intQ pxa_nilQ)) (lenS (lenS len0))) (px_oneQ (x_ownQ (o_law_refused Z) G hr (pxa_consQ (px_strQ [98,44,32,97]) (pxa_consQ px_intQ pxa_nilQ)) (lenS (lenS len0)))))))))))))
end
end K72
namespace K06
open Ev
def b_law_mixed:EvS:=K72.b_law_mixed
def f_law_mixed:LD:=runP 1 b_law_mixed
def b_law_pack:EvS:=stSeq (stAsg (Zi 0) (gvName 2)) (stSeq (stFor (evIt (evLst (evCons (evBinO gAdd 1 (Zi 1)) (Zv 1 evNil)))) (gvName 3) (stAsg (evBin gAdd (evBinO gMul 2 (evBin gPow (Zi 10) (Zi 60))) (evCall f_law_mixed (evCons (evBin gIx (evBin gAdd (evSl (evVar 0) (evP (evVar 3)) (evP (evBinO gAdd 3 (Zi 1)))) (evLst (evCons (evBin gAdd (evBin gMul (Zi 7919) (evRd 3)) (Zi 61)) evNil))) (Zi 0)) evNil))) (gvName 2))) (stRetNew (evLst (Zv 2 evNil))))
def f_law_pack:LD:=runN 4 b_law_pack
def b_law_take:EvS:=K72.b_law_take
def f_law_take:List D->Option (D×D):=runIO 3 b_law_take
open Ev PySem L2
theorem bits_of{i:Int}{b:Nat}(h:i.natAbs<2^b):Builtin.Int.intBits i<=b:=by
 unfold Builtin.Int.intBits;split
 ·exact Qz9 _
 ·rename_i h0;have hz:i.natAbs≠0:=λz=>h0 (by rw[Int.natAbs_eq_zero.mp z];rfl);exact(Nat.log2_lt hz).mpr h
theorem mulFits_of{i j:Int}{a b:Nat}(h1:Builtin.Int.intBits i<=a)(h2:Builtin.Int.intBits j<=b)(h:a+b<=134217728):mulFits i j=true:=
 Qw4 (by omega)
def mixI(i:Int):Int:=i*262406895267124108351839057402211873468251940277165213587343 % 10^60
theorem mixI_lt(i:Int):(mixI i).natAbs<2^200:=by
 unfold mixI;have h1:0<=i*262406895267124108351839057402211873468251940277165213587343 % 10^60:=Int.emod_nonneg _ (by decide);have h2:i*262406895267124108351839057402211873468251940277165213587343 % 10^60<10^60:=Int.emod_lt_of_pos _ (by decide);have h3:(10:Int)^60<=2^200:=by decide
 omega
theorem mixed{i:Int}(h:Builtin.Int.intBits i<=2^20):f_law_mixed [.int i]=some (.int (mixI i)):=by
 have hm:mulFits i 262406895267124108351839057402211873468251940277165213587343=true:=mulFits_of h (bits_of (b:=198) (by decide)) (by decide);have e1:evBinO gMul 0 (Zi 262406895267124108351839057402211873468251940277165213587343) [Zf (.int i)] = .ok (.int (i*262406895267124108351839057402211873468251940277165213587343)) [Zf (.int i)]:=by
  show liftR (gI mulFits (λi j=>D.int (i*j)) (.int i) (.int _)) _=_;unfold gI;simp only;rw[if_pos hm]
  rfl
 show(match stRet _ [Zf (.int i)] with|.rt false d _=>some d|.nx _=>some .non|_=>none)=_;rw[stRet_eq];unfold evBin;rw[e1]
 rfl
theorem cut_mem{α:Type}{xs:List α}{lo hi:Option Int}{x:α}(h:x∈cutD xs lo hi):x∈xs:=List.mem_of_mem_drop (List.mem_of_mem_take h)
theorem atI_zero{α:Type}(x:α)(r:List α):atI (x::r) 0=some x:=atI_nat (j:=0) rfl
def packBody:EvS:=stAsg (evBin gAdd (evBinO gMul 2 (evBin gPow (Zi 10) (Zi 60))) (evCall f_law_mixed (evCons (evBin gIx (evBin gAdd (evSl (evVar 0) (evP (evVar 3)) (evP (evBinO gAdd 3 (Zi 1)))) (evLst (evCons (evBin gAdd (evBin gMul (Zi 7919) (evRd 3)) (Zi 61)) evNil))) (Zi 0)) evNil))) (gvName 2)
theorem pack_body(ns:List Int)(hl:ns.length<=63)(hb:Bits ns)(k a f:Int)(ha:a.natAbs<2^10)(hf:Builtin.Int.intBits f<=2^20) :
  ∃f':Int,packBody [Zf (.arr (ns.map .int)),Zf (.int k),Zf (.int f),Zf (.int a)] = .nx [Zf (.arr (ns.map .int)),Zf (.int k),Zf (.int f'),Zf (.int a)]/\(f=0->f'.natAbs<2^200):=by
 generalize hE:([Zf (.arr (ns.map .int)),Zf (.int k),Zf (.int f),Zf (.int a)]:Ev.Env)=env;have m1:mulFits 7919 a=true:=mulFits_of (a:=20) (bits_of (by decide)) (bits_of ha) (by decide);have m2:mulFits f (10^(60:Int).toNat)=true:=mulFits_of (b:=200) hf (bits_of (by decide)) (by decide);have e1:evSl (evVar 0) (evP (evVar 3)) (evP (evBinO gAdd 3 (Zi 1))) env = .ok (.lst (cutD (ns.map .int) (some a) (some (a+1)))) env:=by rw[<-hE];rfl
 have e2:evLst (evCons (evBin gAdd (evBin gMul (Zi 7919) (evRd 3)) (Zi 61)) evNil) env = .ok (.lst [.int (7919*a+61)]) env:=by refine evLst_eq (evCons_eq (evBin_eq (evBin_eq rfl (by rw[<-hE];rfl) (gMul_eq m1)) rfl rfl) evNil_eq) Ev.zz1
 generalize hL:cutD (ns.map D.int) (some a) (some (a+1))=L at e1;have hLl:L.length<=63:=by rw[<-hL];exact Qq2 (cutD_len _ _ _) (by rw[Qqx];exact hl)
 have e3:evBin gAdd (evSl (evVar 0) (evP (evVar 3)) (evP (evBinO gAdd 3 (Zi 1)))) (evLst (evCons (evBin gAdd (evBin gMul (Zi 7919) (evRd 3)) (Zi 61)) evNil)) env = .ok (.lst (L++[.int (7919*a+61)])) env:=by exact evBin_eq e1 e2 (gAddL_eq (by show L.length+1<=sizeLine;exact Qq2 (Nat.succ_le_succ hLl) (by decide)))
 obtain⟨c,hc,hcb⟩:∃c:Int,atI (L++[.int (7919*a+61)]) 0=some (.int c)/\Builtin.Int.intBits c<=2^20:=by
  cases hLc:L with
  | nil=>
   refine⟨7919*a+61,rfl,Qq2 (bits_of (b:=30) ?_) (by decide)⟩;omega
  | cons y r=>
   have hy:y∈ns.map D.int:=cut_mem (by rw[hL,hLc];exact Qq3 ..);obtain⟨i,hi,rfl⟩:=Qxv.mp hy;exact⟨i,atI_zero _ _,hb i hi⟩
 have e4:evCall f_law_mixed (evCons (evBin gIx (evBin gAdd (evSl (evVar 0) (evP (evVar 3)) (evP (evBinO gAdd 3 (Zi 1)))) (evLst (evCons (evBin gAdd (evBin gMul (Zi 7919) (evRd 3)) (Zi 61)) evNil))) (Zi 0)) evNil) env = .ok (.int (mixI c)) env:=by exact evCall_eq (evCons_eq (evBin_eq e3 rfl hc) evNil_eq) (mixed hcb)
 refine⟨f*10^(60:Int).toNat+mixI c,?_,λh0=>?_⟩
 ·unfold packBody;refine stAsg_eq (e:=env) ?_ (by rw[<-hE];rfl);have e5:evBinO gMul 2 (evBin gPow (Zi 10) (Zi 60)) env = .ok (.int (f*10^(60:Int).toNat)) env:=by
   rw[<-hE];exact evBinO_eq rfl rfl rfl (gMul_eq m2)
  exact evBin_eq e5 e4 rfl
 ·rw[h0,Int.zero_mul,Int.zero_add];exact mixI_lt c
theorem pack(ns:List Int)(hl:ns.length<=63)(hb:Bits ns)(k:Int)(h0:0<=k)(h1:k<=500):∃p:Int,f_law_pack [.arr (ns.map .int),.int k]=some (.lst [.int p]):=by
 obtain⟨f1,e1,b1⟩:=pack_body ns hl hb k (k+1) 0 (by omega) (by decide);obtain⟨f2,e2,_⟩:=pack_body ns hl hb k k f1 (by omega) (Qq2 (bits_of (b1 rfl)) (by decide));refine⟨f2,?_⟩;have h:b_law_pack [Zf (.arr (ns.map .int)),Zf (.int k),Zn,Zn] = .rt true (.lst [.int f2]) [Zf (.arr (ns.map .int)),Zf (.int k),Zf (.int f2),Zf (.int k)]:=by
  unfold b_law_pack;refine(stSeq_nx rfl).trans ?_;refine(stSeq_nx (e:=[Zf (.arr (ns.map .int)),Zf (.int k),Zf (.int f2),Zf (.int k)]) ?_).trans rfl;refine(stFor_eq rfl).trans ?_;show forO (gvName 3) packBody [.int (k+1),.int k] _=_;unfold forO;show(match packBody [Zf (.arr (ns.map .int)),Zf (.int k),Zf (.int 0),Zf (.int (k+1))] with|.nx e2=>forO (gvName 3) packBody [.int k] e2|.ct e2=>_|.bk e2=>_|.rt o d e2=>_|.stuck=>_)=_;rw[e1];simp only;unfold forO;show(match packBody [Zf (.arr (ns.map .int)),Zf (.int k),Zf (.int f1),Zf (.int k)] with|.nx e2=>forO (gvName 3) packBody [] e2|.ct e2=>_|.bk e2=>_|.rt o d e2=>_|.stuck=>_)=_;rw[e2]
  rfl
 show(match b_law_pack _ with|.rt true d _=>some d|_=>none)=_;have e:envOf 4 [D.arr (ns.map .int),.int k]=[Zf (.arr (ns.map .int)),Zf (.int k),Zn,Zn]:=rfl;rw[e,h]
theorem take_eq(n:Int)(m:Nat)(h0:0<m)(h1:m<1073741824):f_law_take [.lst [.int n],.int (m:Int)]=some (.int (n % m),.lst [.int (n / m)]):=by
 refine runIO_eq (env:=[Zl [.int (n / m)],Zf (.int m),Zf (.int (n % m))]) ?_ rfl;unfold b_law_take;have g:gDivmod [.int n,.int (m:Int)]=some (.tup [.int (n / m),.int (n % m)]):=by show(if 0<(m:Int)/\(m:Int)<1073741824 then _ else _)=_;rw[if_pos (by omega)]
 refine(stSeq_nx (e:=[Zl [.int (n / m)],Zf (.int m),Zf (.int (n % m))]) ?_).trans rfl;exact stAsg_eq (evCall_eq (by rfl) g) (by rfl)
def M(x:List Nat):Nat:=2*2^x.length - 1
end K06
namespace K72
open Ev PySem L2
abbrev Rw:=List Nat×List (List Nat)
def enc(r:Rw):D:=.tup [.str r.1,.tup (r.2.map .str)]
def ltr(c:Nat):Bool:=decide (97<=c)&&decide (c<=122)
def nm(x:List Nat):Bool:=decide (1<=x.length)&&decide (x.length<=8)&&x.all ltr
theorem in_abc(c:Nat):decide (c ∈ [97,98,99,100,101,102,103,104,105,106,107,108,109,110,111,112,113,114,115,116,117,118,119,120,121,122])=ltr c:=by unfold ltr;rw[Qjx];simp only[decide_eq_true_eq,Qwv,Qwq,Qj5,or_false];omega
theorem is_name(x:List Nat):f_is_name [.str x]=some (.bl (nm x)):=by
  unfold f_is_name b_is_name lc_is_name_1;have h1:gIsi "str" (.str x)=some (.bl true):=rfl
  (simp (maxSteps:=2000000) (disch:=(first|((try simp only[Qqk,Qq0,Qqj,Qqx,List.length_range,sizeLine,Nat.reducePow])<;>omega)|fail)) only[runP_s,envOf,Qq9,Qzx,Qqk,Qq0,Nat.reduceAdd,Nat.reduceSub,List.replicate_zero,Qw1,Qw3,stSeq_s,stIf_s,evNotT_s,evB_s,evUn_s,evVar_s,gt0,rS,kVar_s,st0,cdF,bR,kUn_s,lR,kB_s, ↓bB,kB2_s,kNotT_s,Bool.not_true,bO,kIf_s, ↓iF,stNext_s,sNx,stRet_s,evAnd_s,evChain_s,evC_s,kCh_s,evCall_s,evCons_s,evRd_s,kRd_s,kCons_s,evNil_s,kCons2_s,gLen_s,kCh2_s,gLe_i,obS,kCh2b_s,h1]<;>try rfl)
  unfold nm;by_cases h2:1<=x.length
  ·have h2':decide ((1:Int)<=(x.length:Int))=true:=Qw4 (by omega);by_cases h3:x.length<=8
   ·have h3':decide ((x.length:Int)<=8)=true:=Qw4 (by omega);have h4:=evLC_1 (lo:=1) (n:=2) (it:=evIt (evVar 0)) (e:=evBinO gIn 1 (Zw [97,98,99,100,101,102,103,104,105,106,107,108,109,110,111,112,113,114,115,116,117,118,119,120,121,122])) (env:=[Zs x]) x (λc=>.str [c]) (λc=>.bl (ltr c)) (by(simp (maxSteps:=2000000) (disch:=(first|((try simp only[Qqk,Qq0,Qqj,Qqx,List.length_range,sizeLine,Nat.reducePow])<;>omega)|fail)) only[evIt_s,evVar_s,gt0,rS,kVar_s,st0,cdF,bR,kUn_s,itD_s,lR]<;>try rfl)) rfl rfl (λc _=>by rw[<-in_abc];(simp (maxSteps:=2000000) (disch:=(first|((try simp only[Qqk,Qq0,Qqj,Qqx,List.length_range,sizeLine,Nat.reducePow])<;>omega)|fail)) only[Qw1,Qw3,evBinO_s,gtS,gt0,rS,kBinO_s,evC_s,bR,kBinO2_s,kBinO3_s,gIn_c,lR]<;>try rfl)) (Qq2 h3 (by decide));have h5:=gAllM ltr x
    (simp (maxSteps:=2000000) (disch:=(first|((try simp only[Qqk,Qq0,Qqj,Qqx,List.length_range,sizeLine,Nat.reducePow])<;>omega)|fail)) only[iT,kCh3_s,evC_s,bR,kCh4_s,gLe_i,lR,kBlIf_s, ↓bB,kBlIf2_s,evCall_s,evCons_s,kCons_s,evNil_s,kCons2_s,kUn_s,bO,kRet_s,dRt,decide_true,h2',h3',h4,h5,h2,h3]<;>try rfl)
   ·have h3':decide ((x.length:Int)<=8)=false:=Qwj (by omega)
    (simp (maxSteps:=2000000) (disch:=(first|((try simp only[Qqk,Qq0,Qqj,Qqx,List.length_range,sizeLine,Nat.reducePow])<;>omega)|fail)) only[iT,kCh3_s,evC_s,bR,kCh4_s,gLe_i,lR,kBlIf_s, ↓bB,kBlIf2_s, ↓iF,okB_s,bO,kRet_s,dRt,decide_true,decide_false,h2',h3',h2,h3]<;>try rfl)
  ·have h2':decide ((1:Int)<=(x.length:Int))=false:=Qwj (by omega)
   (simp (maxSteps:=2000000) (disch:=(first|((try simp only[Qqk,Qq0,Qqj,Qqx,List.length_range,sizeLine,Nat.reducePow])<;>omega)|fail)) only[iF,okB_s,bR,kBlIf_s, ↓bB,kBlIf2_s,bO,kRet_s,dRt,decide_false,h2',h2]<;>try rfl)
def sd(x:List Nat):Bool:=nm x&&x.length == 1
theorem is_sound(x:List Nat):f_is_sound [.str x]=some (.bl (sd x)):=by
  have h:=is_name x;unfold f_is_sound b_is_sound
  (simp (maxSteps:=2000000) (disch:=(first|((try simp only[Qqk,Qq0,Qqj,Qqx,List.length_range,sizeLine,Nat.reducePow])<;>omega)|fail)) only[runP_s,envOf,Qq9,Qzx,Qqk,Qq0,Nat.reduceAdd,Nat.reduceSub,List.replicate_zero,Qw1,Qw3,stRet_s,evAnd_s,evCall_s,evCons_s,evVar_s,gt0,rS,kVar_s,st0,cdF,bR,kCons_s,evNil_s,kCons2_s,kUn_s,lR,kBlIf_s, ↓bB,kBlIf2_s,h]<;>try rfl)
  unfold sd;cases hn:nm x
  ·(simp (maxSteps:=2000000) (disch:=(first|((try simp only[Qqk,Qq0,Qqj,Qqx,List.length_range,sizeLine,Nat.reducePow])<;>omega)|fail)) only[↓iF,okB_s,bO,kRet_s,dRt]<;>try rfl)
  ·(simp (maxSteps:=2000000) (disch:=(first|((try simp only[Qqk,Qq0,Qqj,Qqx,List.length_range,sizeLine,Nat.reducePow])<;>omega)|fail)) only[↓iT,evBin_s,evCall_s,evCons_s,evRd_s,gt0,rS,kRd_s,bR,kCons_s,evNil_s,kCons2_s,kUn_s,gLen_s,lR,kBin_s,evC_s,kBin2_s,gEq_i,bO,kRet_s,dRt]<;>try rfl)
   congr 2
   rw[Qjx];simp;omega
def risB:List (List Nat)->Bool
 | []=>true
 | [_]=>true
 | x::y::r=>decide (x<y)&&risB (y::r)
theorem ris_all:∀zs:List (List Nat),((List.range (zs.length - 1)).all λi=>decide (zs.getD i []<zs.getD (i+1) []))=risB zs
 | []=>rfl
 | [_]=>rfl
 | x::y::r=>by
  have ih:=ris_all (y::r);have e:(x::y::r).length - 1=(y::r).length - 1+1:=by simp
  rw[e,List.range_succ_eq_map,List.all_cons,List.all_map];show _=(decide (x<y)&&risB (y::r));rw[<-ih]
  rfl
theorem rises(t:List D->D)(ht:t = .tup\/t = .lst)(zs:List (List Nat))(hz:zs.length<=1000):f_rises [t (zs.map .str)]=some (.bl (risB zs)):=by
 unfold f_rises b_rises lc_rises_1;have hlen:gLen [t (zs.map .str)]=some (.int zs.length):=by rcases ht with rfl|rfl<;>simp[gLen]
 have hr:rngD [.int ((zs.length:Int) - 1)]=some ((List.range (zs.length - 1)).map λ(i:Nat)=>D.int (i:Int)):=by
  cases zs with
  | nil=>rfl
  | cons z r=>
   have e:(((z::r).length:Int) - 1)=((r.length:Nat):Int):=by rw[Qqk];omega
   rw[e,rng1 (by simp at hz;omega)]
   rfl
 have h4:=evLC_1 (lo:=1) (n:=2) (it:=evRng (evCons (evBin gSub (evCall gLen (evCons (evRd 0) evNil)) (Zi 1)) evNil)) (e:=evBin gLt (evBinO gIx 0 (evRd 1)) (evBinO gIx 0 (evBinO gAdd 1 (Zi 1)))) (env:=[(Zf (t (zs.map .str)))]) (List.range (zs.length - 1)) (λi=>.int (i:Nat)) (λi=>.bl (decide (zs.getD i []<zs.getD (i+1) []))) (by(simp (maxSteps:=2000000) (disch:=(first|((try simp only[Qqk,Qq0,Qqj,Qqx,List.length_range,sizeLine,Nat.reducePow])<;>omega)|fail)) only[evRng_s,evCons_s,evBin_s,evCall_s,evRd_s,gt0,rS,kRd_s,bR,kCons_s,evNil_s,kCons2_s,kUn_s,lR,kBin_s,evC_s,kBin2_s,gSub_i,hlen,hr]<;>try rfl)) rfl rfl (λi hi=>by
  have hi:=Qx1.mp hi;have g:∀j:Nat,j<zs.length->gIx (t (zs.map .str)) (.int (j:Int))=some (.str (zs.getD j [])):=λj hj=>by
   rcases ht with rfl|rfl<;>simp[gIx_t,gIx_l,atN,hj]
  have g1:=g i (by omega);have g2:=g (i+1) (by omega);rw[show(((i+1:Nat):Int))=(i:Int)+1 from rfl] at g2
  (simp (maxSteps:=2000000) (disch:=(first|((try simp only[Qqk,Qq0,Qqj,Qqx,List.length_range,sizeLine,Nat.reducePow])<;>omega)|fail)) only[Qw1,Qw3,evBin_s,evBinO_s,gt0,rS,kBinO_s,evRd_s,gtS,kRd_s,bR,kBinO2_s,kBinO3_s,lR,kBin_s,evC_s,gAdd_i,kBin2_s,gLt_s,g,g2]<;>try rfl)) (by rw[List.length_range];exact Qq2 (show zs.length - 1<=1000 by omega) (by decide))
 have h5:=gAllM (λi=>decide (zs.getD i []<zs.getD (i+1) [])) (List.range (zs.length - 1));rw[ris_all] at h5
 (simp (maxSteps:=2000000) (disch:=(first|((try simp only[Qqk,Qq0,Qqj,Qqx,List.length_range,sizeLine,Nat.reducePow])<;>omega)|fail)) only[runP_s,envOf,Qq9,Qzx,Qqk,Qq0,Nat.reduceAdd,Nat.reduceSub,List.replicate_zero,Qw1,Qw3,stRet_s,evCall_s,evCons_s,bR,kCons_s,evNil_s,kCons2_s,kUn_s,lR,bO,kRet_s,dRt,h4,h5]<;>try rfl)
def mk(zs:List (List Nat)):Bool:=decide (zs.length<=4)&&(zs.all nm&&risB zs)
theorem are_marks(zs:List (List Nat)):f_are_marks [.tup (zs.map .str)]=some (.bl (mk zs)):=by
  unfold f_are_marks b_are_marks lc_are_marks_1;have h1:gIsi "tuple" (.tup (zs.map .str))=some (.bl true):=rfl;unfold mk;by_cases h2:zs.length<=4
  ·have h2':decide ((4:Int)<((zs.map D.str).length:Int))=false:=Qwj (by rw[Qqx];omega);have h2'':decide (zs.length<=4)=true:=Qw4 h2;have h4:=evLC_1 (lo:=1) (n:=2) (it:=evIt (evVar 0)) (e:=evCall f_is_name (Zv 1 evNil)) (env:=[(Zf (.tup (zs.map .str)))]) zs D.str (λd=>.bl (nm d)) (by(simp (maxSteps:=2000000) (disch:=(first|((try simp only[Qqk,Qq0,Qqj,Qqx,List.length_range,sizeLine,Nat.reducePow])<;>omega)|fail)) only[evIt_s,evVar_s,gt0,rS,kVar_s,st0,cdF,bR,kUn_s,itD_t,lR]<;>try rfl)) rfl rfl (λd _=>by
    have:=is_name d
    (simp (maxSteps:=2000000) (disch:=(first|((try simp only[Qqk,Qq0,Qqj,Qqx,List.length_range,sizeLine,Nat.reducePow])<;>omega)|fail)) only[Qw1,Qw3,evCall_s,evCons_s,evVar_s,gtS,gt0,rS,kVar_s,stS,st0,cdF,bR,kCons_s,evNil_s,kCons2_s,kUn_s,lR,this]<;>try rfl)) (Qq2 h2 (by decide))
   have h5:=gAllM nm zs;cases hn:zs.all nm
   ·rw[hn] at h5;(simp (maxSteps:=2000000) (disch:=(first|((try simp only[Qqk,Qq0,Qqj,Qqx,List.length_range,sizeLine,Nat.reducePow])<;>omega)|fail)) only[runP_s,envOf,Qq9,Qzx,Qqk,Qq0,Nat.reduceAdd,Nat.reduceSub,List.replicate_zero,Qw1,Qw3,stSeq_s,stIf_s,evOrT_s,evNotT_s,evB_s,evUn_s,evVar_s,gt0,rS,kVar_s,st0,cdF,bR,kUn_s,lR,kB_s, ↓bB,kB2_s,kNotT_s,Bool.not_true,kIf_s, ↓iF,evBin_s,evCall_s,evCons_s,evRd_s,kRd_s,kCons_s,evNil_s,kCons2_s,gLen_t,kBin_s,evC_s,kBin2_s,gGt_i,bO,stNext_s,sNx,stRet_s,evAnd_s,kBlIf_s,kBlIf2_s,okB_s,kRet_s,dRt,decide_true,h1,h2',h4,h5,h2]<;>try rfl)
   ·rw[hn] at h5;have h6:=rises .tup (.inl rfl) zs (by omega)
    (simp (maxSteps:=2000000) (disch:=(first|((try simp only[Qqk,Qq0,Qqj,Qqx,List.length_range,sizeLine,Nat.reducePow])<;>omega)|fail)) only[runP_s,envOf,Qq9,Qzx,Qqk,Qq0,Nat.reduceAdd,Nat.reduceSub,List.replicate_zero,Qw1,Qw3,stSeq_s,stIf_s,evOrT_s,evNotT_s,evB_s,evUn_s,evVar_s,gt0,rS,kVar_s,st0,cdF,bR,kUn_s,lR,kB_s, ↓bB,kB2_s,kNotT_s,Bool.not_true,kIf_s, ↓iF,evBin_s,evCall_s,evCons_s,evRd_s,kRd_s,kCons_s,evNil_s,kCons2_s,gLen_t,kBin_s,evC_s,kBin2_s,gGt_i,bO,stNext_s,sNx,stRet_s,evAnd_s,kBlIf_s,kBlIf2_s, ↓iT,kRet_s,dRt,decide_true,h1,h2',h4,h5,h6,h2]<;>try rfl)
  ·have h2':decide ((4:Int)<((zs.map D.str).length:Int))=true:=Qw4 (by rw[Qqx];omega);have h2'':decide (zs.length<=4)=false:=Qwj h2
   (simp (maxSteps:=2000000) (disch:=(first|((try simp only[Qqk,Qq0,Qqj,Qqx,List.length_range,sizeLine,Nat.reducePow])<;>omega)|fail)) only[runP_s,envOf,Qq9,Qzx,Qqk,Qq0,Nat.reduceAdd,Nat.reduceSub,List.replicate_zero,Qw1,Qw3,stSeq_s,stIf_s,evOrT_s,evNotT_s,evB_s,evUn_s,evVar_s,gt0,rS,kVar_s,st0,cdF,bR,kUn_s,lR,kB_s, ↓bB,kB2_s,kNotT_s,Bool.not_true,kIf_s, ↓iF,evBin_s,evCall_s,evCons_s,evRd_s,kRd_s,kCons_s,evNil_s,kCons2_s,gLen_t,kBin_s,evC_s,kBin2_s,gGt_i,bO, ↓iT,stRet_s,kRet_s,sRt,dRt,decide_false,h1,h2',h2]<;>try rfl)
def ms(r:Rw):Bool:=sd r.1&&mk r.2
theorem is_marked(r:Rw):f_is_marked_sound [enc r]=some (.bl (ms r)):=by
 unfold f_is_marked_sound b_is_marked_sound enc;have h1:f_is_pair [.tup [.str r.1,.tup (r.2.map .str)]]=some (.bl true):=rfl;have h2:=is_sound r.1;have h3:=are_marks r.2;unfold ms;cases ha:sd r.1
 ·rw[ha] at h2;(simp (maxSteps:=2000000) (disch:=(first|((try simp only[Qqk,Qq0,Qqj,Qqx,List.length_range,sizeLine,Nat.reducePow])<;>omega)|fail)) only[runP_s,envOf,Qq9,Qzx,Qqk,Qq0,Nat.reduceAdd,Nat.reduceSub,List.replicate_zero,Qw1,Qw3,stRet_s,evAnd_s,evCall_s,evCons_s,evVar_s,gt0,rS,kVar_s,st0,cdF,bR,kCons_s,evNil_s,kCons2_s,kUn_s,lR,kBlIf_s, ↓bB,kBlIf2_s, ↓iT,evBinO_s,kBinO_s,evC_s,kBinO2_s,kBinO3_s,gIx_t,at0, ↓iF,okB_s,bO,kRet_s,dRt,h1,h2]<;>try rfl)
 ·rw[ha] at h2;(simp (maxSteps:=2000000) (disch:=(first|((try simp only[Qqk,Qq0,Qqj,Qqx,List.length_range,sizeLine,Nat.reducePow])<;>omega)|fail)) only[runP_s,envOf,Qq9,Qzx,Qqk,Qq0,Nat.reduceAdd,Nat.reduceSub,List.replicate_zero,Qw1,Qw3,stRet_s,evAnd_s,evCall_s,evCons_s,evVar_s,gt0,rS,kVar_s,st0,cdF,bR,kCons_s,evNil_s,kCons2_s,kUn_s,lR,kBlIf_s, ↓bB,kBlIf2_s, ↓iT,evBinO_s,kBinO_s,evC_s,kBinO2_s,kBinO3_s,gIx_t,at0,at1,bO,kRet_s,dRt,h1,h2,h3]<;>try rfl)
def st(rs:List Rw):Bool:=decide (1<=rs.length)&&decide (rs.length<=4)&&(rs.all ms&&risB (rs.map Prod.fst))
theorem sounds_of{rs:List Rw}(hz:rs.length<=1000):f_sounds_of [.tup (rs.map enc)]=some (.tup ((rs.map Prod.fst).map .str)):=by
 unfold f_sounds_of b_sounds_of lc_sounds_of_1;have h4:=evLC_p (lo:=1) (n:=3) (it:=evIt (evVar 0)) (g:=gvTup 2 (gvCons (gvName 1) (gvCons (gvName 2) gvNil))) (c:=evTrue) (e:=evVar 1) (env:=[(Zf (.tup (rs.map enc)))]) rs enc (λr=>[Zs r.1,(Zf (.tup (r.2.map .str)))]) (λ_=>true) (λr=>.str r.1) (by(simp (maxSteps:=2000000) (disch:=(first|((try simp only[Qqk,Qq0,Qqj,Qqx,List.length_range,sizeLine,Nat.reducePow])<;>omega)|fail)) only[evIt_s,evVar_s,gt0,rS,kVar_s,st0,cdF,bR,kUn_s,itD_t,lR]<;>try rfl)) rfl (λd hd=>by
  refine⟨rfl,λvs hv=>?_,rfl,λ_=>rfl⟩
  match vs,hv with
  | [_,_],_=>rfl) (Qq2 hz (by decide))
 rw[List.filter_eq_self.mpr (λ_ _=>rfl)] at h4;have e:(rs.map Prod.fst).map D.str=rs.map λr=>.str r.1:=by rw[Qz7];rfl
 rw[e]
 (simp (maxSteps:=2000000) (disch:=(first|((try simp only[Qqk,Qq0,Qqj,Qqx,List.length_range,sizeLine,Nat.reducePow])<;>omega)|fail)) only[runP_s,envOf,Qq9,Qzx,Qqk,Qq0,Nat.reduceAdd,Nat.reduceSub,List.replicate_zero,Qw1,Qw3,stRet_s,evCall_s,evCons_s,bR,kCons_s,evNil_s,kCons2_s,kUn_s,gTuple_l,lR,bO,kRet_s,dRt,h4]<;>try rfl)
theorem is_stock(rs:List Rw):f_is_stock [.tup (rs.map enc)]=some (.bl (st rs)):=by
  unfold f_is_stock b_is_stock lc_is_stock_1;have h1:gIsi "tuple" (.tup (rs.map enc))=some (.bl true):=rfl;unfold st;by_cases h2:1<=rs.length
  ·have h2':decide ((1:Int)<=((rs.map enc).length:Int))=true:=Qw4 (by rw[Qqx];omega);have g2:decide (1<=rs.length)=true:=Qw4 h2;by_cases h3:rs.length<=4
   ·have h3':decide (((rs.map enc).length:Int)<=4)=true:=Qw4 (by rw[Qqx];omega);have g3:decide (rs.length<=4)=true:=Qw4 h3;have h4:=evLC_1 (lo:=1) (n:=2) (it:=evIt (evVar 0)) (e:=evCall f_is_marked_sound (Zv 1 evNil)) (env:=[(Zf (.tup (rs.map enc)))]) rs enc (λd=>.bl (ms d)) (by(simp (maxSteps:=2000000) (disch:=(first|((try simp only[Qqk,Qq0,Qqj,Qqx,List.length_range,sizeLine,Nat.reducePow])<;>omega)|fail)) only[evIt_s,evVar_s,gt0,rS,kVar_s,st0,cdF,bR,kUn_s,itD_t,lR]<;>try rfl)) rfl rfl (λd _=>by
     have:=is_marked d
     (simp (maxSteps:=2000000) (disch:=(first|((try simp only[Qqk,Qq0,Qqj,Qqx,List.length_range,sizeLine,Nat.reducePow])<;>omega)|fail)) only[Qw1,Qw3,evCall_s,evCons_s,evVar_s,gtS,gt0,rS,kVar_s,stS,st0,cdF,bR,kCons_s,evNil_s,kCons2_s,kUn_s,lR,this]<;>try rfl)) (Qq2 h3 (by decide))
    have h5:=gAllM ms rs;cases hn:rs.all ms
    ·rw[hn] at h5;(simp (maxSteps:=2000000) (disch:=(first|((try simp only[Qqk,Qq0,Qqj,Qqx,List.length_range,sizeLine,Nat.reducePow])<;>omega)|fail)) only[runP_s,envOf,Qq9,Qzx,Qqk,Qq0,Nat.reduceAdd,Nat.reduceSub,List.replicate_zero,Qw1,Qw3,stSeq_s,stIf_s,evOrT_s,evNotT_s,evB_s,evUn_s,evVar_s,gt0,rS,kVar_s,st0,cdF,bR,kUn_s,lR,kB_s, ↓bB,kB2_s,kNotT_s,Bool.not_true,kIf_s, ↓iF,evChain_s,evC_s,kCh_s,evCall_s,evCons_s,evRd_s,kRd_s,kCons_s,evNil_s,kCons2_s,gLen_t,kCh2_s,gLe_i,obS,kCh2b_s, ↓iT,kCh3_s,kCh4_s,bO,stNext_s,sNx,stRet_s,evAnd_s,kBlIf_s,kBlIf2_s,okB_s,kRet_s,dRt,decide_true,h1,h2',h3',h4,h5,h2,h3]<;>try rfl)
    ·rw[hn] at h5;have h6:=rises .tup (.inl rfl) (rs.map Prod.fst) (by rw[Qqx];omega);have h8:=sounds_of (rs:=rs) (by omega)
     (simp (maxSteps:=2000000) (disch:=(first|((try simp only[Qqk,Qq0,Qqj,Qqx,List.length_range,sizeLine,Nat.reducePow])<;>omega)|fail)) only[runP_s,envOf,Qq9,Qzx,Qqk,Qq0,Nat.reduceAdd,Nat.reduceSub,List.replicate_zero,Qw1,Qw3,stSeq_s,stIf_s,evOrT_s,evNotT_s,evB_s,evUn_s,evVar_s,gt0,rS,kVar_s,st0,cdF,bR,kUn_s,lR,kB_s, ↓bB,kB2_s,kNotT_s,Bool.not_true,kIf_s, ↓iF,evChain_s,evC_s,kCh_s,evCall_s,evCons_s,evRd_s,kRd_s,kCons_s,evNil_s,kCons2_s,gLen_t,kCh2_s,gLe_i,obS,kCh2b_s, ↓iT,kCh3_s,kCh4_s,bO,stNext_s,sNx,stRet_s,evAnd_s,kBlIf_s,kBlIf2_s,kRet_s,dRt,decide_true,h1,h2',h3',h4,h5,h8,h6,h2,h3]<;>try rfl)
   ·have h3':decide (((rs.map enc).length:Int)<=4)=false:=Qwj (by rw[Qqx];omega);have g3:decide (rs.length<=4)=false:=Qwj h3
    (simp (maxSteps:=2000000) (disch:=(first|((try simp only[Qqk,Qq0,Qqj,Qqx,List.length_range,sizeLine,Nat.reducePow])<;>omega)|fail)) only[runP_s,envOf,Qq9,Qzx,Qqk,Qq0,Nat.reduceAdd,Nat.reduceSub,List.replicate_zero,Qw1,Qw3,stSeq_s,stIf_s,evOrT_s,evNotT_s,evB_s,evUn_s,evVar_s,gt0,rS,kVar_s,st0,cdF,bR,kUn_s,lR,kB_s, ↓bB,kB2_s,kNotT_s,Bool.not_true,kIf_s, ↓iF,evChain_s,evC_s,kCh_s,evCall_s,evCons_s,evRd_s,kRd_s,kCons_s,evNil_s,kCons2_s,gLen_t,kCh2_s,gLe_i,obS,kCh2b_s, ↓iT,kCh3_s,kCh4_s,Bool.not_false,bO,stRet_s,kRet_s,sRt,dRt,decide_true,decide_false,h1,h2',h3',h2,h3]<;>try rfl)
  ·have h2':decide ((1:Int)<=((rs.map enc).length:Int))=false:=Qwj (by rw[Qqx];omega);have g2:decide (1<=rs.length)=false:=Qwj h2
   (simp (maxSteps:=2000000) (disch:=(first|((try simp only[Qqk,Qq0,Qqj,Qqx,List.length_range,sizeLine,Nat.reducePow])<;>omega)|fail)) only[runP_s,envOf,Qq9,Qzx,Qqk,Qq0,Nat.reduceAdd,Nat.reduceSub,List.replicate_zero,Qw1,Qw3,stSeq_s,stIf_s,evOrT_s,evNotT_s,evB_s,evUn_s,evVar_s,gt0,rS,kVar_s,st0,cdF,bR,kUn_s,lR,kB_s, ↓bB,kB2_s,kNotT_s,Bool.not_true,kIf_s, ↓iF,evChain_s,evC_s,kCh_s,evCall_s,evCons_s,evRd_s,kRd_s,kCons_s,evNil_s,kCons2_s,gLen_t,kCh2_s,gLe_i,obS,kCh2b_s,okB_s,Bool.not_false,bO, ↓iT,stRet_s,kRet_s,sRt,dRt,decide_false,h1,h2',h2]<;>try rfl)
open Ev PySem L2 PySem.Spec
theorem at_iff(x y:List Nat)(k:Nat):StrLaws.At (strOf x) (strOf y) (strOf x).length k↔k+y.length<=x.length/\(x.drop k).take y.length=y:=by
 show(k+(strOf y).length<=(strOf x).length/\Builtin.Str.subAt (strOf x) (strOf y) k=true)↔_;rw[StrLaws.subAt_eq,strOf_length,strOf_length,beq_iff_eq];have e:∀z:List Nat,(strOf z).cps.toList=z:=λz=>by simp[strOf]
 rw[e,e]
theorem joinN_cons(sep p q:List Nat)(ps:List (List Nat)):joinN sep (p::q::ps)=p++sep++joinN sep (q::ps):=by
 have h:∀(r:List (List Nat)) (a b:List Nat),r.foldl (λacc y=>acc++sep++y) (a++b)=a++r.foldl (λacc y=>acc++sep++y) b:=by
  intro r
  induction r with
  | nil=>intro a b;rfl
  | cons y r ih=>intro a b;rw[Qzk,Qzk,Qx0,Qx0,ih,<-Qx0 b]
 show(q::ps).foldl (λacc y=>acc++sep++y) p=_;rw[Qzk];exact h ps (p++sep) q
def Np(sep p:List Nat):Prop:=∀k,k<p.length->((p++sep).drop k).take sep.length≠sep
instance (sep p:List Nat):Decidable (Np sep p):=by unfold Np;infer_instance
theorem Np.of{c:Nat}{r p:List Nat}(h:c ∉ p):Np (c::r) p:=λk hk e=>by
 have:=Qkz List.head? e;rw[Qqk,List.head?_take,if_neg (by omega),List.head?_drop,Qw5 hk] at this;exact h (List.mem_of_getElem? this)
theorem Np.last{sep p pre:List Nat}(h:Np sep p)(hs:0<sep.length){k:Nat}(hk:pre.length<=k):¬StrLaws.At (strOf (pre++p)) (strOf sep) (strOf (pre++p)).length k:=λe=>by
 obtain⟨h1,h2⟩:=(at_iff _ sep k).mp e;obtain⟨j,rfl⟩:=Nat.exists_eq_add_of_le hk;rw[Qqj] at h1;rw[List.drop_append,List.drop_of_length_le (Nat.le_add_right _ _),Qw3,Nat.add_sub_cancel_left] at h2;refine h j (by omega) ?_;rw[List.drop_append_of_le_length (by omega),List.take_append_of_le_length (by rw[Qx8];omega)];exact h2
theorem Np.mid{sep p pre rest:List Nat}(h:Np sep p){k:Nat}(hk:pre.length<=k)(hk2:k<pre.length+p.length):¬StrLaws.At (strOf (pre++(p++sep++rest))) (strOf sep) (strOf (pre++(p++sep++rest))).length k:=λe=>by
 obtain⟨h1,h2⟩:=(at_iff _ sep k).mp e;obtain⟨j,rfl⟩:=Nat.exists_eq_add_of_le hk;rw[List.drop_append,List.drop_of_length_le (Nat.le_add_right _ _),Qw3,Nat.add_sub_cancel_left] at h2;refine h j (by omega) ?_;rw[List.drop_append_of_le_length (by rw[Qqj];omega),List.take_append_of_le_length (by rw[Qx8,Qqj];omega)] at h2;exact h2
theorem chain_nil{x y:Str}{hi a f:Nat}(h:StrLaws.ChainG x y hi a [] f):f=a:=by unfold StrLaws.ChainG at h;exact h
theorem parts_of{sep:List Nat}(hs:0<sep.length):∀(ps:List (List Nat)) (p:List Nat) (pre:List Nat) (cuts:List Nat) (f:Nat) (x:List Nat),x=pre++joinN sep (p::ps)->(∀q∈p::ps,Np sep q)->
  StrLaws.ChainG (strOf x) (strOf sep) (strOf x).length pre.length cuts f->(∀k,f<=k->¬StrLaws.At (strOf x) (strOf sep) (strOf x).length k)->
  (StrLaws.partsFrom (strOf x) sep.length pre.length cuts).map (λs=>s.cps.toList)=p::ps
 | [],p,pre,cuts,f,x,hx,hp,hc,hf=>by
  have hx':x=pre++p:=hx;cases cuts with
  | nil=>
   show [(Builtin.Str.strSub (strOf x) pre.length (strOf x).length).cps.toList]=[p];rw[StrLaws.strSub_toList,strOf_length];have e:(strOf x).cps.toList=x:=by simp[strOf]
   rw[e,hx',List.drop_left,Qqj,Nat.add_sub_cancel_left,List.take_length]
  | cons i cs=>
   have h:=hc;unfold StrLaws.ChainG at h;have h2:=h.2.1;rw[hx'] at h2;exact absurd h2 ((hp p (Qq3 ..)).last hs h.1)
 | q::ps,p,pre,cuts,f,x,hx,hp,hc,hf=>by
  rw[joinN_cons] at hx;have hn:∀k,pre.length<=k->k<pre.length+p.length->¬StrLaws.At (strOf x) (strOf sep) (strOf x).length k:=λk hk hk2=>by
   rw[hx];exact(hp p (Qq3 ..)).mid hk hk2
  have ha:StrLaws.At (strOf x) (strOf sep) (strOf x).length (pre.length+p.length):=by
   refine(at_iff x sep _).mpr ⟨?_,?_⟩
   ·rw[hx,Qqj,Qqj,Qqj];omega
   ·have e:x=(pre++p)++(sep++joinN sep (q::ps)):=by rw[hx];simp
    rw[e,<-Qqj,List.drop_left,List.take_left]
  cases cuts with
  | nil=>
   have h:=chain_nil hc;subst h;exact absurd ha (hf _ (Nat.le_add_right _ _))
  | cons i cs=>
   have h:=hc;unfold StrLaws.ChainG at h;obtain⟨h1,h2,h3,h4⟩:=h;have hi:i=pre.length+p.length:=by
    rcases Nat.lt_trichotomy i (pre.length+p.length) with l|l|l
    ·exact absurd h2 (hn i h1 l)
    ·exact l
    ·exact absurd ha (h3 _ (Nat.le_add_right _ _) l)
   subst hi;show(Builtin.Str.strSub (strOf x) pre.length (pre.length+p.length)).cps.toList::(StrLaws.partsFrom (strOf x) sep.length (pre.length+p.length+sep.length) cs).map (λs=>s.cps.toList)=_;have e0:(strOf x).cps.toList=x:=by simp[strOf]
   have e1:(Builtin.Str.strSub (strOf x) pre.length (pre.length+p.length)).cps.toList=p:=by rw[StrLaws.strSub_toList,e0,hx,List.drop_left,Nat.add_sub_cancel_left,Qx0,List.take_left]
   have e2:pre.length+p.length+sep.length=(pre++p++sep).length:=by rw[Qqj,Qqj]
   have e3:(strOf sep).length=sep.length:=strOf_length _;rw[e3,e2] at h4;rw[e1,e2,parts_of hs ps q (pre++p++sep) cs f x (by rw[hx];simp) (λz hz=>hp z (Qq4 _ hz)) h4 hf]
theorem split_join{sep:List Nat}(hs:0<sep.length)(hk:Builtin.Str.strKind (strOf sep)=1)(p:List Nat)(ps:List (List Nat))(hp:∀q∈p::ps,Np sep q):splitX (joinN sep (p::ps)) sep=p::ps:=by
 have hk:∀z,¬Builtin.Str.strKind z<Builtin.Str.strKind (strOf sep):=λz=>by
  rw[hk];unfold Builtin.Str.strKind;split<;>(try split)<;>(try split)<;>omega
 unfold splitX Txt.split;generalize hx:joinN sep (p::ps)=x;obtain⟨f,h1,h2⟩:=StrLaws.occ_tight (strOf x) (strOf sep) (by rw[strOf_length];omega);have key:=parts_of hs ps p [] _ f x (by rw[<-hx];rfl) hp h1 h2;split
 ·rename_i hc;have hl:x.length<sep.length:=by
   rcases Bool.or_eq_true_iff.mp hc with h|h
   ·have:=Qw2 h;rw[strOf_length,strOf_length] at this;exact this
   ·exact absurd (Qw2 h) (hk _)
  cases ps with
  | nil=>
   have:x=p:=hx.symm;show [(strOf x).cps.toList]=[p];rw[this];simp[strOf]
  | cons q ps=>
   rw[joinN_cons] at hx;rw[<-hx,Qqj,Qqj] at hl;omega
 ·split
  ·rename_i h0 he;have e:=List.isEmpty_iff.mp he;rw[e] at key;have:[(Builtin.Str.strSub (strOf x) 0 (strOf x).length).cps.toList]=p::ps:=key;rw[<-this,StrLaws.strSub_toList];have e0:(strOf x).cps.toList=x:=by simp[strOf]
   rw[e0,strOf_length];simp[e0]
  ·rw[StrLaws.partsBetween_eq,strOf_length];exact key
structure Few(xs:List (List Nat))(n m:Nat):Prop where
 len:xs.length<=n
 each:∀p∈xs,p.length<=m
theorem sum_le{m:Nat}:∀(xs:List (List Nat)),(∀p∈xs,p.length<=m)->(xs.map List.length).sum<=xs.length*m
 | [],_=>by simp
 | p::xs,h=>by
  rw[Qq9,List.sum_cons,Qqk,Nat.succ_mul,Nat.add_comm];exact Nat.add_le_add (sum_le xs λq hq=>h q (Qq4 _ hq)) (h p (Qq3 ..))
theorem joinN_len(sep:List Nat):∀xs:List (List Nat),(joinN sep xs).length<=(xs.map List.length).sum+xs.length*sep.length
 | []=>Qz9 _
 | [p]=>by show p.length<=_;simp
 | p::q::r=>by
  have:=joinN_len sep (q::r);rw[joinN_cons,Qqj,Qqj,Qq9,List.sum_cons,Qqk,Nat.succ_mul];omega
theorem Few.sum{xs:List (List Nat)}{n m:Nat}(h:Few xs n m):(xs.map List.length).sum<=n*m:=
 Qq2 (sum_le xs h.each) (Nat.mul_le_mul_right _ h.len)
theorem Few.join{xs:List (List Nat)}{n m:Nat}(h:Few xs n m){sep:List Nat}(hs:sep.length<=2):(joinN sep xs).length<=n*m+n*2:=
 Qq2 (joinN_len sep xs) (Nat.add_le_add h.sum (Nat.mul_le_mul h.len hs))
theorem Few.fits{xs:List (List Nat)}{n m:Nat}(h:Few xs n m){sep:List Nat}(hs:sep.length<=2)(hb:n*m+n*2<=100000):joinFits sep xs=true:=
 Qw4 (Qq2 (Qq2 (Nat.add_le_add h.sum (Nat.mul_le_mul h.len hs)) hb) (by decide))
theorem strs_map(zs:List (List Nat)):strsD (zs.map D.str)=some zs:=by
 induction zs with
 | nil=>rfl
 | cons z r ih=>rw[Qq9];show(strsD _).map _=_;rw[ih];rfl
theorem join_l{xs:List (List Nat)}{n m:Nat}(h:Few xs n m){sep:List Nat}(hs:sep.length<=2)(hb:n*m+n*2<=100000):gJoin (.str sep) (.lst (xs.map .str))=some (.str (joinN sep xs)):=by show(match strsD (xs.map D.str) with|some xs=>if joinFits sep xs=true then some (D.str (joinN sep xs)) else none|none=>none)=_;rw[strs_map];exact if_pos (h.fits hs hb)
theorem join_t{xs:List (List Nat)}{n m:Nat}(h:Few xs n m){sep:List Nat}(hs:sep.length<=2)(hb:n*m+n*2<=100000):gJoinT (.str sep) (.tup (xs.map .str))=some (.str (joinN sep xs)):=by show(match strsD (xs.map D.str) with|some xs=>if joinFits sep xs=true then some (D.str (joinN sep xs)) else none|none=>none)=_;rw[strs_map];exact if_pos (h.fits hs hb)
theorem split_l{sep p:List Nat}{ps:List (List Nat)}{n m:Nat}(hs:0<sep.length)(h2:sep.length<=2)(hk:Builtin.Str.strKind (strOf sep)=1)(h:Few (p::ps) n m)(hb:n*m+n*2<=100000)(hn:n<=100000)(hm:m<=100000)(hp:∀q∈p::ps,Np sep q) :
  gSplit (.str (joinN sep (p::ps))) (.str sep)=some (.lst ((p::ps).map .str)):=by
 have e:=split_join hs hk p ps hp;have hz:(100000:Nat)<=sizeLine:=by decide
 show(if _ then some (D.lst ((splitX (joinN sep (p::ps)) sep).map .str)) else none)=_;rw[e];refine if_pos ⟨λz=>by rw[z] at hs;exact absurd hs (by decide),?_,?_,?_⟩
 ·exact Qq2 (Qq2 (h.join h2) hb) hz
 ·exact Qq2 (Qq2 h.len hn) hz
 ·exact λq hq=>Qq2 (Qq2 (h.each q hq) hm) hz
def rwd(r:Rw):List (List Nat):=r.1::r.2
def rtx(r:Rw):List Nat:=joinN [32] (rwd r)
def stx(rs:List Rw):List Nat:=joinN [44,32] (rs.map rtx)
structure RowOk(r:Rw):Prop where
 n:(rwd r).length<=7
 m:∀w∈rwd r,w.length<=10
 s:∀w∈rwd r,32 ∉ w
 p:Np [44,32] (rtx r)
theorem RowOk.few{r:Rw}(h:RowOk r):Few (rwd r) 7 10:=⟨h.n,h.m⟩
theorem RowOk.len{r:Rw}(h:RowOk r):(rtx r).length<=84:=h.few.join (by decide)
theorem stx_few{rs:List Rw}(h:∀r∈rs,RowOk r)(h4:rs.length<=6):Few (rs.map rtx) 6 84:=⟨by rw[Qqx];exact h4,λz hz=>by obtain⟨r,hr,rfl⟩:=Qxv.mp hz;exact(h r hr).len⟩
theorem split_row{r:Rw}(h:RowOk r):gSplit (.str (rtx r)) (.str [32])=some (.lst ((rwd r).map .str)):=
 split_l (by decide) (by decide) (by decide +kernel) h.few (by decide) (by decide) (by decide) λq hq=>Np.of (h.s q hq)
theorem split_stock{rs:List Rw}(h:∀r∈rs,RowOk r)(h0:0<rs.length)(h4:rs.length<=6):gSplit (.str (stx rs)) (.str [44,32])=some (.lst ((rs.map rtx).map .str)):=by
 cases rs with
 | nil=>exact absurd h0 (by decide)
 | cons r rs=>exact split_l (by decide) (by decide) (by decide +kernel) (stx_few h h4) (by decide) (by decide) (by decide) λq hq=>by obtain⟨r,hr,rfl⟩:=Qxv.mp (show q∈(r::rs).map rtx from hq);exact(h r hr).p
theorem cut_from{α:Type}(xs:List α)(k:Nat):cutD xs (some (k:Int)) none=xs.drop k:=by
 unfold cutD;rw[HT.sIx_nat];show(xs.drop (min k xs.length)).take (xs.length - min k xs.length)=_;by_cases h:k<=xs.length
 ·rw[Nat.min_eq_left h,Qjz (by rw[Qx8];omega)]
 ·rw[Nat.min_eq_right (by omega),List.drop_length,List.drop_of_length_le (by omega),List.take_nil]
theorem evSlA_eq{a:Ev}{lo hi:EvP}{env e1 e2 e3:Ev.Env}{d v:D}{l u:Option Int}(h1:a env = .ok d e1)(h2:lo e1 = .ok l e2)(h3:hi e2 = .ok u e3)(h:gSlA d l u=some v):evSlA a lo hi env = .ok v e3:=by
 unfold evSlA;rw[h1];show bindR (lo e1) _=_;rw[h2];show bindR (hi e2) _=_;rw[h3];show liftR (gSlA d l u) e3=_;rw[h]
 rfl
abbrev E5(T:D)(acc:List Rw)(v2 v3 v4:OD):Ev.Env:=[Zf T,(Zf (.tup (acc.map enc))),v2,v3,v4]
theorem step{T:D}{acc:List Rw}{k:Nat}{r:Rw}{v4:OD}(h:RowOk r)(ha:acc.length<=10)(rest:EvS) :
  stSeq (stAsg (evBin gSplit (evVar 3) (Zw [32])) (gvName 4)) (stSeq (stAsg (evBinO gAdd 1 (evTup (evCons (evTup (evCons (evBinO gIx 4 (Zi 0)) (evCons (evCall gTuple (evCons (evSlA (evVar 4) (evP (Zi 1)) evNoP) evNil)) evNil))) evNil))) (gvName 1)) rest) (E5 T acc (Zf (.int (k:Nat))) (Zs (rtx r)) v4)
   = rest (E5 T (acc++[r]) (Zf (.int (k:Nat))) (Zs (rtx r)) (Zf (.lst ((rwd r).map .str)))):=by
 refine(stSeq_nx (e:=E5 T acc (Zf (.int (k:Nat))) (Zs (rtx r)) (Zf (.lst ((rwd r).map .str)))) (stAsg_eq (e:=E5 T acc (Zf (.int (k:Nat))) (Zs (rtx r)) v4) (evBin_eq (x:=.str (rtx r)) (y:=.str [32]) (e1:=E5 T acc (Zf (.int (k:Nat))) (Zs (rtx r)) v4) rfl rfl (split_row h)) rfl)).trans ?_;generalize hE:E5 T acc (Zf (.int (k:Nat))) (Zs (rtx r)) (Zf (.lst ((rwd r).map .str)))=env;refine stSeq_nx (stAsg_eq (d:=.tup ((acc++[r]).map enc)) (e:=env) ?_ (by rw[<-hE];rfl));have sl:evSlA (evVar 4) (evP (Zi 1)) evNoP env = .ok (.lst (r.2.map .str)) env:=by
  refine evSlA_eq (d:=.lst ((rwd r).map .str)) (l:=some ((1:Nat):Int)) (u:=none) (e1:=env) (e2:=env) (by rw[<-hE];rfl) rfl rfl ?_;show some (D.lst (cutD ((rwd r).map D.str) (some ((1:Nat):Int)) none))=_;rw[cut_from]
  rfl
 refine evBF (x:=.tup (acc.map enc)) (y:=.tup [enc r]) (e2:=env) (by rw[<-hE];rfl) ?_ (by rw[<-hE];rfl) ?_
 ·refine evTup_eq (evCons_eq (evTup_eq (ds:=[.str r.1,.tup (r.2.map .str)]) (evCons_eq (d:=.str r.1) (e1:=env) (evBF (x:=.lst ((rwd r).map .str)) (y:=.int 0) (by rw[<-hE];rfl) rfl (by rw[<-hE];rfl) (K06.atI_zero _ _)) (evCons_eq (evCall_eq (ds:=[.lst (r.2.map .str)]) (evCons_eq sl evNil_eq) rfl) evNil_eq)) Ev.zz2) evNil_eq) Ev.zz1
 ·show(if (acc.map enc).length+1<=sizeLine then some (D.tup (acc.map enc++[enc r])) else none)=_;rw[if_pos,Qxz]
  ·rfl
  ·rw[Qqx];exact Qq2 (Nat.succ_le_succ ha) (by decide)
theorem lb_go{T:D}{acc:List Rw}{k:Nat}{r:Rw}{v4:OD}(h:RowOk r)(ha:acc.length<=10)(hs:st (acc++[r])=true) :
  lb_read_stock_1 (E5 T acc (Zf (.int (k:Nat))) (Zs (rtx r)) v4) = .nx (E5 T (acc++[r]) (Zf (.int (k:Nat))) (Zs (rtx r)) (Zf (.lst ((rwd r).map .str)))):=
 (step h ha _).trans ((stIf_f (evNotT_eq (b:=true) (evB_eq (evCall_eq (ds:=[.tup ((acc++[r]).map enc)]) rfl ((is_stock _).trans (by rw[hs])))))).trans rfl)
theorem xb_go{T:D}{acc:List Rw}{k:Nat}{r:Rw}{v4:OD}(h:RowOk r)(ha:acc.length<=10)(hs:st (acc++[r])=true) :
  xb_read_stock_1 (E5 T acc (Zf (.int (k:Nat))) (Zs (rtx r)) v4) = .nx (E5 T (acc++[r]) (Zf (.int (k:Nat))) (Zs (rtx r)) (Zf (.lst ((rwd r).map .str)))):=
 (step h ha _).trans ((stIf_f (evNotT_eq (b:=true) (evB_eq (evCall_eq (ds:=[.tup ((acc++[r]).map enc)]) rfl ((is_stock _).trans (by rw[hs])))))).trans rfl)
theorem xb_no{T:D}{acc:List Rw}{k:Nat}{r:Rw}{v4:OD}(h:RowOk r)(ha:acc.length<=10)(hs:st (acc++[r])=false) :
  ∃e,xb_read_stock_1 (E5 T acc (Zf (.int (k:Nat))) (Zs (rtx r)) v4) = .rt true (.tup [.int (k:Nat)]) e:=
 ⟨_,(step h ha _).trans ((stIf_t (evNotT_eq (b:=false) (evB_eq (evCall_eq (ds:=[.tup ((acc++[r]).map enc)]) rfl ((is_stock _).trans (by rw[hs])))))).trans rfl)⟩
def itm:Nat->List Rw->List D
 | _,[]=>[]
 | k,r::rs=>.tup [.int (k:Nat),.str (rtx r)]::itm (k+1) rs
theorem itm_is:∀(rs:List Rw) (k:Nat),(((rs.map rtx).map D.str).zipIdx k).map (λp=>D.tup [.int (p.2:Nat),p.1])=itm k rs
 | [],_=>rfl
 | r::rs,k=>by
  rw[Qq9,Qq9,List.zipIdx_cons,Qq9,itm_is rs (k+1)]
  rfl
abbrev GV2:GV:=gvTup 2 (gvCons (gvName 2) (gvCons (gvName 3) gvNil))
theorem forO_nx{g:GV}{b:EvS}{d:D}{ds:List D}{env e1 e2:Ev.Env}(h1:g d env=some e1)(h2:b e1 = .nx e2):forO g b (d::ds) env=forO g b ds e2:=by show(match g d env with|none=>_|some e1=>_)=_;rw[h1];show(match b e1 with|.nx e2=>_|.ct e2=>_|.bk e2=>_|.rt o d e2=>_|.stuck=>_)=_;rw[h2]
theorem forO_rt{g:GV}{b:EvS}{d x:D}{ds:List D}{o:Bool}{env e1 e2:Ev.Env}(h1:g d env=some e1)(h2:b e1 = .rt o x e2):forO g b (d::ds) env = .rt o x e2:=by show(match g d env with|none=>_|some e1=>_)=_;rw[h1];show(match b e1 with|.nx e2=>_|.ct e2=>_|.bk e2=>_|.rt o d e2=>_|.stuck=>_)=_;rw[h2]
theorem good_loop{b:EvS}(T:D)(hb:∀(acc:List Rw) (k:Nat) (r:Rw) (v4:OD),RowOk r->acc.length<=10->st (acc++[r])=true->b (E5 T acc (Zf (.int (k:Nat))) (Zs (rtx r)) v4) = .nx (E5 T (acc++[r]) (Zf (.int (k:Nat))) (Zs (rtx r)) (Zf (.lst ((rwd r).map .str)))))(more:List D) :
  ∀(rs acc:List Rw) (k:Nat) (v2 v3 v4:OD),(∀r∈rs,RowOk r)->acc.length+rs.length<=10->(∀j,j<rs.length->st (acc++rs.take (j+1))=true)->∃w2 w3 w4,forO GV2 b (itm k rs++more) (E5 T acc v2 v3 v4)=forO GV2 b more (E5 T (acc++rs) w2 w3 w4)
 | [],acc,k,v2,v3,v4,_,_,_=>⟨v2,v3,v4,by rw[Qxx];rfl⟩
 | r::rs,acc,k,v2,v3,v4,h,hl,hs=>by
  rw[Qqk] at hl;have h0:=hs 0 (Nat.succ_pos _);obtain⟨w2,w3,w4,e⟩:=good_loop T hb more rs (acc++[r]) (k+1) (Zf (.int (k:Nat))) (Zs (rtx r)) (Zf (.lst ((rwd r).map .str))) (λq hq=>h q (Qq4 _ hq)) (by rw[Qqj];show acc.length+1+rs.length<=10;omega) (λj hj=>by
   have:=hs (j+1) (Nat.succ_lt_succ hj);rw[List.take_succ_cons] at this;rw[Qx0];exact this)
  refine⟨w2,w3,w4,?_⟩;rw[Qx0] at e;exact(forO_nx (e1:=E5 T acc (Zf (.int (k:Nat))) (Zs (rtx r)) v4) rfl (hb acc k r v4 (h r (Qq3 ..)) (by omega) h0)).trans e
def Beg(rs:List Rw):Prop:=∀j,j<rs.length->st (rs.take (j+1))=true
theorem stDrop_eq{a:Ev}{env e:Ev.Env}{d:D}(h:a env = .ok d e):stDrop a env = .nx e:=by
 unfold stDrop;rw[h]
 rfl
theorem itm_app:∀(a b:List Rw) (k:Nat),itm k (a++b)=itm k a++itm (k+a.length) b
 | [],b,k=>rfl
 | r::a,b,k=>by
  show _::itm (k+1) (a++b)=_::(itm (k+1) a++itm (k+(a.length+1)) b);rw[itm_app a b (k+1),Nat.add_right_comm]
  rfl
theorem enum_eq{rs:List Rw}(h:∀r∈rs,RowOk r)(h0:0<rs.length)(h4:rs.length<=6):evEnumL (evCons (evBin gSplit (evVar 0) (Zw [44,32])) evNil) (E5 (.str (stx rs)) [] none none none) = .ok (itm 0 rs) (E5 (.str (stx rs)) [] none none none):=by have he:evCons (evBin gSplit (evVar 0) (Zw [44,32])) evNil (E5 (.str (stx rs)) [] none none none) = .ok [.lst ((rs.map rtx).map .str)] (E5 (.str (stx rs)) [] none none none):=evCons_eq (evBin_eq (x:=.str (stx rs)) (y:=.str [44,32]) (e1:=E5 (.str (stx rs)) [] none none none) (e2:=E5 (.str (stx rs)) [] none none none) rfl rfl (split_stock h h0 h4)) evNil_eq;unfold evEnumL;rw[he];show R.ok (enumT _) _=_;unfold enumT;rw[itm_is]
theorem read_stock{rs:List Rw}(h:∀r∈rs,RowOk r)(h0:0<rs.length)(h4:rs.length<=6)(hb:Beg rs):f_read_stock [.str (stx rs)]=some (.tup (rs.map enc)):=by obtain⟨w2,w3,w4,e⟩:=good_loop (b:=lb_read_stock_1) (.str (stx rs)) (λacc k r v4 h1 h2 h3=>lb_go h1 h2 h3) [] rs [] 0 none none none h (by show 0+rs.length<=10;omega) hb;rw[Qxx] at e;refine runP_eq (env:=E5 (.str (stx rs)) rs w2 w3 w4) ?_;unfold b_read_stock;refine(stSeq_nx (e:=[Zs (stx rs),Zn,Zn,Zn,Zn]) (stDrop_eq (d:=.non) (evCall_eq (g:=f_need_text) (ds:=[.str (stx rs)]) rfl rfl))).trans ?_;refine(stSeq_nx (e:=E5 (.str (stx rs)) [] none none none) rfl).trans ?_;refine(stSeq_nx (e:=E5 (.str (stx rs)) rs w2 w3 w4) ?_).trans rfl;exact(stFor_eq (enum_eq h h0 h4)).trans e
theorem read_no{gs:List Rw}{b:Rw}{rest:List Rw}(h:∀r∈gs++b::rest,RowOk r)(h4:(gs++b::rest).length<=6)(hb:Beg gs)(hs:st (gs++[b])=false):x_read_stock [.str (stx (gs++b::rest))]=some (.tup [.int (gs.length:Nat)]):=by
 have hl:(gs++b::rest).length=gs.length+(rest.length+1):=by rw[Qqj];rfl
 generalize hT:D.str (stx (gs++b::rest))=T;obtain⟨w2,w3,w4,e⟩:=good_loop (b:=xb_read_stock_1) T (λacc k r v4 h1 h2 h3=>xb_go h1 h2 h3) (itm gs.length (b::rest)) gs [] 0 none none none (λr hr=>h r (List.mem_append_left _ hr)) (by show 0+gs.length<=10;omega) hb;obtain⟨e',e2⟩:=xb_no (T:=T) (acc:=gs) (k:=gs.length) (r:=b) (v4:=w4) (h b (Qw7 _ (Qq3 ..))) (by omega) hs;have e3:forO GV2 xb_read_stock_1 (itm 0 (gs++b::rest)) (E5 T [] none none none) = .rt true (.tup [.int (gs.length:Nat)]) e':=by rw[itm_app,Nat.zero_add];exact e.trans (forO_rt (e1:=E5 T gs (Zf (.int (gs.length:Nat))) (Zs (rtx b)) w4) rfl e2)
 have e4:=enum_eq h (by omega) h4;rw[hT] at e4;have key:bx_read_stock (envOf 5 [T]) = .rt true (.tup [.int (gs.length:Nat)]) e':=by unfold bx_read_stock;refine(stSeq_nx (e:=[Zf T,Zn,Zn,Zn,Zn]) (by rw[<-hT];rfl)).trans ?_;refine(stSeq_nx (e:=E5 T [] none none none) rfl).trans ?_;exact stSeq_rt ((stFor_eq e4).trans e3)
 show runX 5 bx_read_stock [T]=_;unfold runX;rw[key]
 rfl
theorem read_non(d:D)(h:d = .non\/d = .int 7\/d = .bl true\/d = .tup []\/d = .lst [.str [97]]\/d = .dct []):x_read_stock [d]=some (.tup [.non]):=by rcases h with rfl|rfl|rfl|rfl|rfl|rfl<;>rfl
open K06 (mulFits_of bits_of)
theorem lcE{α:Type}{g:GV}{e:Ev}(P:Ev.Env->Prop)(enc out:α->D):∀(l:List α) (env:Ev.Env),P env->(∀a∈l,∀env,P env->∃e1 e2,g (enc a) env=some e1/\e e1 = .ok (out a) e2/\P e2)->∃env',lcO g evTrue e (l.map enc) env = .ok (l.map out) env'/\P env'
 | [],env,hp,_=>⟨env,rfl,hp⟩
 | d::ds,env,hp,h=>by
  obtain⟨e1,e2,h1,h2,h3⟩:=h d (Qq3 ..) env hp;obtain⟨e3,h4,h5⟩:=lcE P enc out ds e2 h3 λd' hd=>h d' (Qq4 _ hd);refine⟨e3,?_,h5⟩;rw[Qq9];unfold lcO;rw[h1];show bindR (e e1) _=_;rw[h2];show bindR (lcO g evTrue e (ds.map enc) e2) _=_;rw[h4]
  rfl
theorem evUn_eq{g:D->Option D}{a:Ev}{env e:Ev.Env}{x d:D}(h:a env = .ok x e)(h':g x=some d):evUn g a env = .ok d e:=by
 unfold evUn;rw[h];show liftR (g x) e=_;rw[h']
 rfl
theorem evRngE{a:EvA}{env e:Ev.Env}{ds ys:List D}(h:a env = .ok ds e)(h':rngD ds=some ys):evRng a env = .ok ys e:=by
 unfold evRng;rw[h];show liftR (rngD ds) e=_;rw[h']
 rfl
def ABC:List Nat:=[97,98,99,100,101,102,103,104,105,106,107,108,109,110,111,112,113,114,115,116,117,118,119,120,121,122]
def lt(a b k:Nat):Nat:=97+(a+(1+b)*k) % 26
theorem abc_at:∀m:Nat,m<26->atI ABC (m:Int)=some (97+m):=by
 have h:((List.range 26).all λ(m:Nat)=>atI ABC (m:Int) == some (97+m))=true:=by decide +kernel
 intro m hm;exact eq_of_beq (Qwk.mp h m (Qx1.mpr hm))
def eltD:Ev:=evBinO gIx 1 (evBin gMod (evBinO gAdd 2 (evBinO gMul 3 (evRd 4))) (Zi 26))
theorem elt(a b k:Nat)(hb:b<25)(hk:k<4)(v:OD):eltD [v,Zs ABC,(Zf (.int (a:Int))),(Zf (.int (1+(b:Int)))),(Zf (.int (k:Int)))] = .ok (.str [lt a b k]) [v,Zs ABC,(Zf (.int (a:Int))),(Zf (.int (1+(b:Int)))),(Zf (.int (k:Int)))]:=by
 generalize hE:([v,Zs ABC,(Zf (.int (a:Int))),(Zf (.int (1+(b:Int)))),(Zf (.int (k:Int)))]:Ev.Env)=env;have m1:mulFits (1+(b:Int)) (k:Int)=true:=mulFits_of (a:=8) (b:=8) (bits_of (by omega)) (bits_of (by omega)) (by decide);have e1:evBinO gMul 3 (evRd 4) env = .ok (.int ((1+(b:Int))*(k:Int))) env:=evBF (x:=.int (1+(b:Int))) (by rw[<-hE];rfl) (by rw[<-hE];rfl) (by rw[<-hE];rfl) (gMul_eq m1);have e2:evBinO gAdd 2 (evBinO gMul 3 (evRd 4)) env = .ok (.int ((a:Int)+(1+(b:Int))*(k:Int))) env:=evBF (x:=.int (a:Int)) (by rw[<-hE];rfl) e1 (by rw[<-hE];rfl) rfl;have e3:evBin gMod (evBinO gAdd 2 (evBinO gMul 3 (evRd 4))) (Zi 26) env = .ok (.int (((a:Int)+(1+(b:Int))*(k:Int)) % 26)) env:=evBin_eq e2 (y:=.int 26) rfl rfl;have e4:((a:Int)+(1+(b:Int))*(k:Int)) % 26=(((a+(1+b)*k) % 26:Nat):Int):=by push_cast;rfl
 rw[e4] at e3;refine evBF (x:=.str ABC) (by rw[<-hE];rfl) e3 (by rw[<-hE];rfl) ?_;show(atI ABC _).map _=_;rw[abc_at _ (Nat.mod_lt _ (by decide))]
 rfl
def zsOf(a b m:Nat):List (List Nat):=(List.range m).map λk=>[lt a b k]
def risingB:List Nat->Bool
 | []=>true
 | [_]=>true
 | x::y::r=>decide (x<y)&&risingB (y::r)
def good(x:List Nat):Bool:=decide (1<=x.length)&&decide (x.length<=4)&&x.all (λc=>decide (97<=c)&&decide (c<=122))&&risingB x
def chk(a b m:Nat):Bool:=match (gSortSet (.lst ((zsOf a b m).map .str))) with
 | some l=>(match gJoin (.str []) l with
  | some (.str x)=>good x
  | _=>false)
 | none=>false
theorem chk_all:((List.range 26).all λa=>(List.range 25).all λb=>(List.range 4).all λm=>chk a b (m+1))=true:=by decide +kernel
theorem chk_ok{a b m:Nat}(ha:a<26)(hb:b<25)(hm:m<4):∃l x,gSortSet (.lst ((zsOf a b (m+1)).map .str))=some l/\gJoin (.str []) l=some (.str x)/\good x=true:=by
 have h:=Qwk.mp (Qwk.mp (Qwk.mp chk_all a (Qx1.mpr ha)) b (Qx1.mpr hb)) m (Qx1.mpr hm);unfold chk at h;split at h
 ·rename_i l e;split at h
  ·rename_i x e2;exact⟨l,x,e,e2,h⟩
  ·cases h
 ·cases h
theorem drawn(n:Int):∃x n',f_law_drawn_sounds [.lst [.int n]]=some (.str x,.lst [.int n'])/\good x=true:=by
 obtain⟨a,ha,ea⟩:=dig n 26 (by decide);obtain⟨b,hb,eb⟩:=dig (n / 26) 25 (by decide);obtain⟨m,hm,em⟩:=dig (n / 26 / 25) 4 (by decide);obtain⟨l,x,h1,h2,h3⟩:=chk_ok ha hb hm;refine⟨x,n / 26 / 25 / 4,runIO_eq (env:=[Zl [.int (n / 26 / 25 / 4)],Zs ABC,(Zf (.int (a:Int))),(Zf (.int (1+(b:Int))))]) ?_ rfl,h3⟩;unfold b_law_drawn_sounds;refine(stSeq_nx (e:=[Zl [.int n],Zs ABC,Zn,Zn]) (by rfl)).trans ?_;refine(stSeq_nx (e:=[Zl [.int (n / 26 / 25)],Zs ABC,(Zf (.int (n % (26:Nat)))),(Zf (.int (1+n / 26 % (25:Nat))))]) (by rfl)).trans ?_;rw[ea,eb];have hr:evRng (evCons (evBin gAdd (Zi 1) (evIO f_law_take 0 (evCons (Zi 4) evNil))) evNil) [Zl [.int (n / 26 / 25)],Zs ABC,(Zf (.int (a:Int))),(Zf (.int (1+(b:Int))))] = .ok ((List.range (m+1)).map λ(k:Nat)=>D.int (k:Int)) [Zl [.int (n / 26 / 25 / 4)],Zs ABC,(Zf (.int (a:Int))),(Zf (.int (1+(b:Int))))]:=by
  refine evRngE (ds:=[.int (1+n / 26 / 25 % (4:Nat))]) (by rfl) ?_;rw[em];have hc:m=0\/m=1\/m=2\/m=3:=by omega
  rcases hc with rfl|rfl|rfl|rfl<;>rfl
 obtain⟨e',f1,v4,rfl⟩:=lcE (g:=gvName 4) (e:=eltD) (λenv=>∃v,env=[Zl [.int (n / 26 / 25 / 4)],Zs ABC,(Zf (.int (a:Int))),(Zf (.int (1+(b:Int)))),v]) (λ(k:Nat)=>D.int (k:Int)) (λk=>.str [lt a b k]) (List.range (m+1)) [Zl [.int (n / 26 / 25 / 4)],Zs ABC,(Zf (.int (a:Int))),(Zf (.int (1+(b:Int)))),Zn] ⟨_,rfl⟩
  (λk hk env ⟨v,he⟩=>by
   subst he;exact⟨_,_,rfl,elt a b k hb (by have:=Qx1.mp hk;omega) _,_,rfl⟩)
 have hz:(List.range (m+1)).map (λk=>D.str [lt a b k])=(zsOf a b (m+1)).map .str:=by unfold zsOf;rw[Qz7];rfl
 rw[hz] at f1;have hl:=evLC_eq (lo:=4) (n:=5) hr rfl f1 (by unfold zsOf;rw[Qqx,Qqx,List.length_range];exact Qq2 (Nat.succ_le_of_lt hm) (by decide));exact stRet_eq (evBin_eq (x:=.str []) rfl (evUn_eq hl h1) h2)
abbrev Rn:=Nat×List (List Nat)
def rn(p:Rn):Rw:=([p.1],p.2)
def row(p:Rn):D:=enc (rn p)
def snd(p:Rn):D:=.str [p.1]
theorem good_len{x:List Nat}(h:good x=true):1<=x.length/\x.length<=4:=by unfold good at h;simp only[Qwv,decide_eq_true_eq] at h;exact⟨h.1.1.1,h.1.1.2⟩
theorem snd_inj:∀{x:List Nat} {L:List Rn},sgs x=L.map snd->x=L.map (·.1)
 | [],[],_=>rfl
 | [],p::L,h=>by cases h
 | c::x,[],h=>by cases h
 | c::x,p::L,h=>by
  have h':D.str [c]::sgs x=D.str [p.1]::L.map snd:=h;injection h' with h1 h2
  injection h1 with h1
  injection h1 with h1
  rw[Qq9,<-snd_inj h2,h1]
def tn(t:Nat):List Nat:=ABC.drop t++ABC.take t
def kn(t:Nat):List (List Nat):=[(tn t).take 1,(tn t).take 3,((tn t).drop 4).take 5,((tn t).drop 9).take 8,((tn t).drop 20).take 2]
theorem law_marks(n:Int):∃t:Nat,t<26/\f_law_marks [.lst [.int n]]=some (.lst ((kn t).map .str),.lst [.int (n / 26)]):=by
 obtain⟨t,ht,e⟩:=dig n 26 (by decide);refine⟨t,ht,?_⟩;have hc:t=0\/t=1\/t=2\/t=3\/t=4\/t=5\/t=6\/t=7\/t=8\/t=9\/t=10\/t=11\/t=12\/t=13\/t=14\/t=15\/t=16\/t=17\/t=18\/t=19\/t=20\/t=21\/t=22\/t=23\/t=24\/t=25:=by omega
 refine runIO_eq (env:=[Zl [.int (n / 26)],Zs (tn t),(Zf (.int (t:Int)))]) ?_ rfl;unfold b_law_marks;refine(stSeq_nx (e:=[Zl [.int n],Zs ABC,Zn]) (by rfl)).trans ?_;refine(stSeq_nx (e:=[Zl [.int (n / 26)],Zs ABC,(Zf (.int (n % (26:Nat))))]) (by rfl)).trans ?_;rw[e];clear e ht;generalize n / 26=m;rcases hc with rfl|rfl|rfl|rfl|rfl|rfl|rfl|rfl|rfl|rfl|rfl|rfl|rfl|rfl|rfl|rfl|rfl|rfl|rfl|rfl|rfl|rfl|rfl|rfl|rfl|rfl
 all_goals kernel_rfl
def pick(d:Nat)(l:List (List Nat)):List (List Nat):=(l.zipIdx.filter λp=>d.testBit p.2).map (·.1)
theorem picked(d:Nat)(hd:d<32)(k0 k1 k2 k3 k4:List Nat)(a b c e f:OD):lc_law_stock_1 [a,b,Zf (.lst [.str k0,.str k1,.str k2,.str k3,.str k4]),c,e,(Zf (.int (d:Int))),f] = .ok (.lst ((pick d [k0,k1,k2,k3,k4]).map .str)) [a,b,Zf (.lst [.str k0,.str k1,.str k2,.str k3,.str k4]),c,e,(Zf (.int (d:Int))),f]:=by
 have hc:d=0\/d=1\/d=2\/d=3\/d=4\/d=5\/d=6\/d=7\/d=8\/d=9\/d=10\/d=11\/d=12\/d=13\/d=14\/d=15\/d=16\/d=17\/d=18\/d=19\/d=20\/d=21\/d=22\/d=23\/d=24\/d=25\/d=26\/d=27\/d=28\/d=29\/d=30\/d=31:=by omega
 rcases hc with rfl|rfl|rfl|rfl|rfl|rfl|rfl|rfl|rfl|rfl|rfl|rfl|rfl|rfl|rfl|rfl|rfl|rfl|rfl|rfl|rfl|rfl|rfl|rfl|rfl|rfl|rfl|rfl|rfl|rfl|rfl|rfl
 all_goals kernel_rfl
def own(t d:Nat):List (List Nat):=(sortX (pick d (kn t))).take 4
theorem own_all:((List.range 26).all λt=>(List.range 32).all λd=>mk (own t d)&&decide ((pick d (kn t)).length<=5)&&(pick d (kn t)).all λz=>decide (z.length<=8))=true:=by decide +kernel
theorem own_ok{t d:Nat}(ht:t<26)(hd:d<32):mk (own t d)=true/\(pick d (kn t)).length<=5/\∀z∈pick d (kn t),z.length<=8:=by have h:=Qwk.mp (Qwk.mp own_all t (Qx1.mpr ht)) d (Qx1.mpr hd);simp only[Qwv,decide_eq_true_eq,Qwk] at h;exact⟨h.1.1,h.1.2,h.2⟩
def knD(t:Nat):D:=.lst ((kn t).map .str)
theorem body(n:Int)(t:Nat)(ht:t<26)(b v5 v6:OD)(acc:List D)(s:D)(ha:acc.length<=10):∃ms v5' v6',mk ms=true/\lb_law_stock_1 [Zl [.int n],b,Zf (knD t),Zl acc,Zf s,v5,v6] = .nx [Zl [.int (n / 32)],b,Zf (knD t),(Zl (acc++[.tup [s,.tup (ms.map .str)]])),Zf s,v5',v6']:=by
 obtain⟨d,hd,e⟩:=dig n 32 (by decide);obtain⟨h1,h2,h3⟩:=own_ok ht hd;have hp:=picked d hd ((tn t).take 1) ((tn t).take 3) (((tn t).drop 4).take 5) (((tn t).drop 9).take 8) (((tn t).drop 20).take 2) (Zl [.int (n / 32)]) b (Zl acc) (Zf s) v6;have hk:D.lst [.str ((tn t).take 1),.str ((tn t).take 3),.str (((tn t).drop 4).take 5),.str (((tn t).drop 9).take 8),.str (((tn t).drop 20).take 2)]=knD t:=rfl;have hq:pick d [(tn t).take 1,(tn t).take 3,((tn t).drop 4).take 5,((tn t).drop 9).take 8,((tn t).drop 20).take 2]=pick d (kn t):=rfl;rw[hk,hq] at hp;have hs:gSorted [.lst ((pick d (kn t)).map .str)]=some (.lst ((sortX (pick d (kn t))).map .str)):=by show((strsD _).bind λzs=>if zs.length<64/\(∀z∈zs,z.length<=sizeLine) then some (D.lst ((sortX zs).map .str)) else none)=_;rw[strs_map];exact if_pos ⟨by omega,λz hz=>Qq2 (h3 z hz) (by decide)⟩
 have hc:cutD ((sortX (pick d (kn t))).map D.str) none (some 4)=(own t d).map .str:=by rw[show(4:Int)=((4:Nat):Int) from rfl,cutD_to];unfold own;rw[List.map_take]
 have hT:f_law_take [.lst [.int n],.int 32]=some (.int (n % (32:Nat)),.lst [.int (n / 32)]):=by rfl
 rw[e] at hT;refine⟨own t d,(Zf (.int (d:Int))),(Zf (.lst ((sortX (pick d (kn t))).map .str))),h1,?_⟩;unfold lb_law_stock_1;clear hk hq e h1 h2 h3 hd ht
 (simp (maxSteps:=2000000) (disch:=(first|((try simp only[Qqk,Qq0,Qqj,Qqx,List.length_range,sizeLine,Nat.reducePow])<;>omega)|fail)) only[stSeq_s,stAsg_s,evIO_s,gt0,rS,kIO_s, ↓iT,kIO1_s,evCons_s,evC_s,bR,kCons_s,evNil_s,kCons2_s,kIO2_s,kIO3_s,kIO4_s,oS,kIO5_s,st0,bO,kAsg_s,gvName_s,stS,lO,sNx,evCall_s,kUn_s,lR,stApp_s,gtS,lS,kApp_s,evTup_s,evVar_s,kVar_s,cdF,evSlA_s,kSl_s,evNoP_s,kSl2_s,evP_s,kP_s, ↓nS,kP2_s,kSl3_s,gSlA_l,gTuple_l,kTup_s,Qqk,Qq0,Nat.reduceAdd,zR,kApp2_s,kApp3_s,zO,hT,hp,hs,hc]<;>try rfl)
structure Stk(L:List Rn):Prop where
 snds:good (L.map (·.1))=true
 mks:∀p∈L,mk p.2=true
theorem stock(n:Int):∃L n',Stk L/\f_law_stock [.lst [.int n]]=some (.tup (L.map row),.lst [.int n']):=by
 obtain⟨x,n1,h1,hx⟩:=drawn n;obtain⟨t,ht,h2⟩:=law_marks n1;have hxl:=good_len hx;obtain⟨e',f1,n',L,v4,v5,v6,rfl,hs,hm⟩:=forO_inv' (g:=gvName 4) (b:=lb_law_stock_1) (sgs x) (λdone env=>∃(n:Int) (L:List Rn) (v4 v5 v6:OD),env=[Zl [.int n],Zs x,Zf (knD t),Zl (L.map row),v4,v5,v6]/\done=L.map snd/\∀p∈L,mk p.2=true)
  (λdone s rest hall env ⟨n,L,v4,v5,v6,he,hd,hm⟩=>by
   subst he;have hl:L.length<=4:=by have:=Qkz List.length hall;unfold sgs at this;rw[Qqx,Qqj,Qqk,hd,Qqx] at this;omega
   obtain⟨c,hc⟩:∃c,s = .str [c]:=by
    have:s∈sgs x:=by rw[hall];simp
    unfold sgs at this;obtain⟨c,_,e⟩:=Qxv.mp this;exact⟨c,e.symm⟩
   subst hc;obtain⟨ws,w5,w6,hw,hb⟩:=body n t ht (Zs x) v5 v6 (L.map row) (.str [c]) (by rw[Qqx];omega);refine⟨_,_,rfl,hb,n / 32,L++[(c,ws)],Zs [c],w5,w6,?_,?_,?_⟩
   ·rw[Qxz];rfl
   ·rw[hd,Qxz];rfl
   ·intro p hp;rcases Qzz.mp hp with hp|hp
    ·exact hm p hp
    ·rw[Qx2.mp hp];exact hw)
  [Zl [.int (n1 / 26)],Zs x,Zf (knD t),Zl [],Zn,Zn,Zn] ⟨n1 / 26,[],_,_,_,rfl,rfl,by simp⟩
 have e:=snd_inj hs;refine⟨L,n',⟨by rw[<-e];exact hx,hm⟩,runIO_eq (env:=[Zl [.int n'],Zs x,Zf (knD t),Zl (L.map row),v4,v5,v6]) ?_ rfl⟩;show b_law_stock [Zl [.int n],Zn,Zn,Zn,Zn,Zn,Zn]=_;have h2':f_law_marks [.lst [.int n1]]=some (knD t,.lst [.int (n1 / 26)]):=h2;unfold b_law_stock;clear h2 hs hm e hx
 (simp (maxSteps:=2000000) (disch:=(first|((try simp only[Qqk,Qq0,Qqj,Qqx,List.length_range,sizeLine,Nat.reducePow])<;>omega)|fail)) only[stSeq_s,stAsg_s,evIO_s,gt0,rS,kIO_s, ↓iT,kIO1_s,evNil_s,bR,kIO2_s,kIO3_s,kIO4_s,oS,kIO5_s,st0,bO,kAsg_s,gvName_s,stS,lO,sNx,stOwn_s,evLst_s,kLst_s,Qq0,zR,kOwn_s,stFor_s,evIt_s,evVar_s,gtS,kVar_s,cdF,kUn_s,itD_s,lR,stRet_s,evCall_s,evCons_s,evRd_s,kRd_s,kCons_s,kCons2_s,gTuple_l,kRet_s,h1,h2',f1]<;>try rfl)
theorem join_sgn(sep:List Nat)(P:Nat->Prop)(hs:∀c∈sep,P c):∀xs:List (List Nat),(∀z∈xs,∀c∈z,P c)->∀c∈joinN sep xs,P c
 | [],_,c,hc=>by simp[joinN] at hc
 | [p],h,c,hc=>h p (Qq3 ..) c hc
 | p::q::r,h,c,hc=>by
  rw[joinN_cons] at hc;rcases Qzz.mp hc with hc|hc
  ·rcases Qzz.mp hc with hc|hc
   ·exact h p (Qq3 ..) c hc
   ·exact hs c hc
  ·exact join_sgn sep P hs (q::r) (λz hz=>h z (Qq4 _ hz)) c hc
theorem nm_ok{x:List Nat}(h:nm x=true):x.length<=8/\∀c∈x,97<=c/\c<=122:=by
 unfold nm at h;simp only[Qwv,decide_eq_true_eq,Qwk] at h;refine⟨h.1.2,λc hc=>?_⟩;have:=h.2 c hc;unfold ltr at this
 simpa using this
theorem row_ok{r:Rw}(h1:nm r.1=true)(h2:r.2.length<=4)(h3:∀z∈r.2,nm z=true):RowOk r:=by
 have hz:∀z∈rwd r,nm z=true:=λz hz=>by
  rcases Qwq.mp hz with rfl|hz
  ·exact h1
  ·exact h3 z hz
 refine⟨?_,λz h=>?_,λz h hc=>?_,Np.of λhc=>?_⟩
 ·show r.2.length+1<=7;omega
 ·have:=(nm_ok (hz z h)).1;omega
 ·have:=(nm_ok (hz z h)).2 32 hc;omega
 ·exact join_sgn [32] (λc=>c≠44) (by decide) (rwd r) (λz h c hc=>by have:=(nm_ok (hz z h)).2 c hc;omega) 44 hc rfl
theorem nm1{c:Nat}(h:97<=c/\c<=122):nm [c]=true:=by unfold nm ltr;simp[h.1,h.2]
theorem ris_pw:∀{x:List Nat},risingB x=true->x.Pairwise (·< ·)
 | [],_=>.nil
 | [_],_=>by simp
 | a::b::r,h=>by
  unfold risingB at h;rw[Qwv,decide_eq_true_eq] at h;have ih:=ris_pw h.2;refine Qx7.mpr ⟨λc hc=>?_,ih⟩;rcases Qwq.mp hc with rfl|hc
  ·exact h.1
  ·exact Nat.lt_trans h.1 ((Qx7.mp ih).1 c hc)
theorem lt1(a b:Nat):decide (([a]:List Nat) < [b])=decide (a<b):=by rw[decide_eq_decide,List.cons_lt_cons_iff];simp
theorem ris_map:∀x:List Nat,risB (x.map λc=>[c])=risingB x
 | []=>rfl
 | [_]=>rfl
 | a::b::r=>by
  show(decide (([a]:List Nat) < [b])&&risB ((b::r).map λc=>[c]))=(decide (a<b)&&risingB (b::r));rw[ris_map (b::r),lt1]
theorem pw_ris:∀{x:List Nat},x.Pairwise (·< ·)->risingB x=true
 | [],_=>rfl
 | [_],_=>rfl
 | a::b::r,h=>by
  unfold risingB;rw[Qwv,decide_eq_true_eq];exact⟨(Qx7.mp h).1 b (Qq3 ..),pw_ris (Qx7.mp h).2⟩
section
variable{L:List Rn}(h:Stk L)
theorem fst_rn(M:List Rn):(M.map rn).map Prod.fst=(M.map (·.1)).map λc=>[c]:=by rw[Qz7,Qz7];rfl
include h
theorem Stk.len:1<=L.length/\L.length<=4:=by have:=good_len h.snds;rwa [Qqx] at this
theorem Stk.ltr{p:Rn}(hp:p∈L):97<=p.1/\p.1<=122:=by have:=h.snds;unfold good at this;simp only[Qwv,Qwk,decide_eq_true_eq] at this;exact this.1.2 p.1 (Qxv.mpr ⟨p,hp,rfl⟩)
theorem Stk.pw:(L.map (·.1)).Pairwise (·< ·):=by have:=h.snds;unfold good at this;simp only[Qwv] at this;exact ris_pw this.2
theorem Stk.ok:∀r∈L.map rn,RowOk r:=λr hr=>by
 obtain⟨p,hp,rfl⟩:=Qxv.mp hr;have:=h.mks p hp;unfold K72.mk at this;simp only[Qwv,decide_eq_true_eq,Qwk] at this;exact row_ok (nm1 (h.ltr hp)) this.1 this.2.1
theorem Stk.ms{r:Rw}(hr:r∈L.map rn):ms r=true:=by
 obtain⟨p,hp,rfl⟩:=Qxv.mp hr;show(sd [p.1]&&K72.mk p.2)=true;rw[h.mks p hp];unfold sd;rw[nm1 (h.ltr hp)]
 rfl
theorem Stk.beg:Beg (L.map rn):=λj hj=>by
 rw[Qqx] at hj;have:=h.len;have hl:((L.map rn).take (j+1)).length=j+1:=by rw[Qw9,Qqx];omega
 unfold st;rw[hl,Qw4 (show 1<=j+1 by omega),Qw4 (show j+1<=4 by omega)];have e1:((L.map rn).take (j+1)).all K72.ms=true:=Qwk.mpr λr hr=>h.ms (List.mem_of_mem_take hr);have e2:risB (((L.map rn).take (j+1)).map Prod.fst)=true:=by rw[<-List.map_take,fst_rn,ris_map];refine pw_ris ?_;rw[List.map_take];exact h.pw.sublist (List.take_sublist _ _)
 rw[e1,e2]
 rfl
theorem Stk.again{p:Rn}(hp:p∈L):st (L.map rn++[rn p])=false:=by
 have e:L.map rn++[rn p]=(L++[p]).map rn:=by rw[Qxz];rfl
 have e2:risB ((L.map rn++[rn p]).map Prod.fst)=false:=by
  rw[e,fst_rn,ris_map];cases z:risingB ((L++[p]).map (·.1)) with
  | false=>rfl
  | true=>
   have:=ris_pw z;rw[Qxz] at this;exact absurd ((List.pairwise_append.mp this).2.2 p.1 (Qxv.mpr ⟨p,hp,rfl⟩) p.1 (by simp)) (Qx9 _)
 unfold st;rw[e2,Bool.and_false,Bool.and_false]
end
theorem odd_no{gs:List Rw}{b:Rw}(h:ms b=false):st (gs++[b])=false:=by
 unfold st;have:(gs++[b]).all ms=false:=by rw[List.all_append];simp[h]
 rw[this,Bool.false_and,Bool.and_false]
theorem Beg.take{rs:List Rw}(h:Beg rs)(k:Nat):Beg (rs.take k):=λj hj=>by
 rw[Qw9] at hj;have:=h j (by omega)
 rwa [List.take_take,Nat.min_eq_left (by omega)]
def oddR(c:Nat):List Rw:=[([],[]),([],[[]]),([65],[]),([97,98],[]),([35],[]),([48],[]),([c],[[]]),([],[[c]]),([c],[[],[115,116,111,112]]),([c],[[83,116,111,112]]),
 ([c],[[115,116,111,112],[115,116,111,112]]),
 ([c],[[115,116,111,112],[111,112,101,110]]),([c],[[97,98,99,100,101,102,103,104,105]]),([c],[[97,49]]),([c],[[35]]),([c,44],[]),
 ([c,59],[]),([44,c],[]),
 ([c],[[97],[98],[99],[100],[101]]),([c,58,115,116,111,112],[]),([c],[[115,116,111,112,44]]),([c,10],[]),([c],[[91,115,116,111,112,93]]),
 ([c,44,115,116,111,112],[]),
 ([49],[]),([45],[]),([c],[[45]]),([c],[[115,116,111,112],[]]),([c,c],[]),([115,116,111,112],[])]
theorem odd_parts(c:Nat):f_law_odd_parts [.str [c]]=some (.lst ((oddR c).map λr=>.str (rtx r))):=by rfl
instance (r:Rw):Decidable (RowOk r):=decidable_of_iff ((rwd r).length<=7/\(∀w∈rwd r,w.length<=10)/\(∀w∈rwd r,32 ∉ w)/\Np [44,32] (rtx r)) ⟨λh=>⟨h.1,h.2.1,h.2.2.1,h.2.2.2⟩,λh=>⟨h.n,h.m,h.s,h.p⟩⟩
theorem odd_all:((List.range 26).all λc=>(oddR (97+c)).all λr=>decide (RowOk r) && !(ms r))=true:=by decide +kernel
theorem odd_is{c:Nat}(h:97<=c/\c<=122){r:Rw}(hr:r∈oddR c):RowOk r/\ms r=false:=by have:=Qwk.mp odd_all (c - 97) (Qx1.mpr (by omega));rw[show 97+(c - 97)=c by omega] at this;have:=Qwk.mp this r hr;rw[Qwv,decide_eq_true_eq,Bool.not_eq_true'] at this;exact this
abbrev xC(d:D):D:=.clo (.Nonlocal ["NoText","part"] ⟨0,0,0,0⟩) [d]
theorem sort_is(d:D):f_law_sort [xC d]=some (.int 0):=by rfl
theorem refused{t d:D}(h:x_read_stock [t]=some (.tup [d]))(hd:d = .non\/∃n:Nat,d = .int (n:Nat)):f_law_refused [t,d]=some (.bl true):=by
 refine runP_eq (env:=[Zf t,Zf d,Zf (xC d),Zn]) ?_;unfold b_law_refused;refine(stSeq_nx (e:=[Zf t,Zf d,Zf (.non),Zn]) rfl).trans ?_;refine(stSeq_nx (e:=[Zf t,Zf d,Zf (xC d),Zn]) ?_).trans ?_
 ·unfold stTry;have e:evCallX x_read_stock (Zv 0 evNil) [Zf t,Zf d,Zf (.non),Zn] = .ok (.tup [d]) [Zf t,Zf d,Zf (.non),Zn]:=by
   show(match x_read_stock [t] with|some d=>R.ok d _|none=>.stuck)=_;rw[h]
  rw[e]
  rfl
 ·refine stRet_eq ((evAnd_t (e:=[Zf t,Zf d,Zf (xC d),Zn]) rfl).trans ?_);refine(evAnd_t (e:=[Zf t,Zf d,Zf (xC d),Zn]) (evBin_eq (x:=.int 0) (y:=.int 0) (evCall_eq (ds:=[xC d]) rfl (sort_is d)) rfl rfl)).trans ?_;rcases hd with rfl|⟨n,rfl⟩
  ·rfl
  ·refine(evAnd_t (e:=[Zf t,(Zf (.int (n:Nat))),(Zf (xC (.int (n:Nat)))),Zn]) (evBin_eq (x:=.int (n:Nat)) (y:=.int (n:Nat)) rfl rfl ?_)).trans rfl;rw[gEq_i,beq_self_eq_true]
theorem map2R(f:Rw->List Nat)(ps:List Rw):ps.map (λp=>D.str (f p))=(ps.map f).map D.str:=by rw[Qz7];rfl
section
variable{rs:List Rw}(h:∀r∈rs,RowOk r)(h4:rs.length<=6)
include h h4
theorem show_stock:f_show_stock [.tup (rs.map enc)]=some (.str (stx rs)):=by
 obtain⟨env',h1,v1,v2,rfl⟩:=lcE (g:=gvTup 2 (gvCons (gvName 1) (gvCons (gvName 2) gvNil))) (e:=evBin gJoinT (Zw [32]) (evBin gAdd (evTup (Zv 1 evNil)) (evRd 2))) (λenv=>∃v1 v2,env=[(Zf (.tup (rs.map enc))),v1,v2]) enc (λr=>.str (rtx r)) rs [(Zf (.tup (rs.map enc))),Zn,Zn] ⟨none,Zn,rfl⟩
  (λr hr env ⟨v1,v2,he⟩=>by
   subst he;refine⟨[(Zf (.tup (rs.map enc))),Zs r.1,(Zf (.tup (r.2.map .str)))],[(Zf (.tup (rs.map enc))),Zs r.1,(Zf (.tup (r.2.map .str)))],rfl,?_,_,_,rfl⟩;refine evBin_eq (x:=.str [32]) (y:=.tup ((rwd r).map .str)) (e1:=[(Zf (.tup (rs.map enc))),Zs r.1,(Zf (.tup (r.2.map .str)))]) rfl (evBin_eq (x:=.tup [.str r.1]) (y:=.tup (r.2.map .str)) (e1:=[(Zf (.tup (rs.map enc))),Zs r.1,(Zf (.tup (r.2.map .str)))]) rfl rfl ?_) (join_t (h r hr).few (by decide) (by decide));show(if 1+(r.2.map D.str).length<=sizeLine then some (D.tup ([.str r.1]++r.2.map D.str)) else none)=_;rw[if_pos (by rw[Qqx];have:r.2.length+1<=7:=(h r hr).n;exact Qq2 (show 1+r.2.length<=7 by omega) (by decide))]
   rfl)
 rw[map2R] at h1;refine runP_eq (env:=[(Zf (.tup (rs.map enc)))]) (stRet_eq (evBin_eq (x:=.str [44,32]) (e1:=[(Zf (.tup (rs.map enc)))]) rfl ?_ (join_l (stx_few h h4) (by decide) (by decide))));exact evLC_eq (lo:=1) (n:=3) (ds:=rs.map enc) (env1:=[(Zf (.tup (rs.map enc)))]) rfl rfl h1 (by rw[Qqx,Qqx];exact Qq2 h4 (by decide))
theorem law_stock_text:f_law_stock_text [.tup (rs.map enc)]=some (.str (stx rs)):=by
 obtain⟨env',h1,v1,v2,rfl⟩:=lcE (g:=gvTup 2 (gvCons (gvName 1) (gvCons (gvName 2) gvNil))) (e:=evBin gJoin (Zw [32]) (evBin gAdd (evLst (Zv 1 evNil)) (evCall gList (evCons (evRd 2) evNil)))) (λenv=>∃v1 v2,env=[(Zf (.tup (rs.map enc))),v1,v2]) enc (λr=>.str (rtx r)) rs [(Zf (.tup (rs.map enc))),Zn,Zn] ⟨none,Zn,rfl⟩
  (λr hr env ⟨v1,v2,he⟩=>by
   subst he;refine⟨[(Zf (.tup (rs.map enc))),Zs r.1,(Zf (.tup (r.2.map .str)))],[(Zf (.tup (rs.map enc))),Zs r.1,(Zf (.tup (r.2.map .str)))],rfl,?_,_,_,rfl⟩;refine evBin_eq (x:=.str [32]) (y:=.lst ((rwd r).map .str)) (e1:=[(Zf (.tup (rs.map enc))),Zs r.1,(Zf (.tup (r.2.map .str)))]) rfl (evBin_eq (x:=.lst [.str r.1]) (y:=.lst (r.2.map .str)) (e1:=[(Zf (.tup (rs.map enc))),Zs r.1,(Zf (.tup (r.2.map .str)))]) rfl rfl ?_) (join_l (h r hr).few (by decide) (by decide));refine(gAddL_eq ?_).trans rfl;rw[Qqx];have:r.2.length+1<=7:=(h r hr).n;exact Qq2 (show 1+r.2.length<=7 by omega) (by decide))
 rw[map2R] at h1;refine runP_eq (env:=[(Zf (.tup (rs.map enc)))]) (stRet_eq (evBin_eq (x:=.str [44,32]) (e1:=[(Zf (.tup (rs.map enc)))]) rfl ?_ (join_l (stx_few h h4) (by decide) (by decide))));exact evLC_eq (lo:=1) (n:=3) (ds:=rs.map enc) (env1:=[(Zf (.tup (rs.map enc)))]) rfl rfl h1 (by rw[Qqx,Qqx];exact Qq2 h4 (by decide))
end
theorem ok_rows(rs:List Rw):okN 60 (.tup (rs.map enc))=true:=by
 show(rs.map enc).all (okN 59)=true;refine Qwk.mpr λd hd=>?_;obtain⟨r,_,rfl⟩:=Qxv.mp hd;show([D.str r.1,.tup (r.2.map .str)]).all (okN 58)=true;have:okN 58 (.tup (r.2.map .str))=true:=by
  show(r.2.map D.str).all (okN 57)=true;refine Qwk.mpr λd hd=>?_;obtain⟨z,_,rfl⟩:=Qxv.mp hd
  rfl
 rw[List.all_cons,List.all_cons,this]
 rfl
theorem gNe_self{d:D}(h:okN 60 d=true):gNe d d=some (.bl false):=by
 unfold gNe;rw[eqN_self 60 d h]
 rfl
theorem join_end(ps:List (List Nat))(p:List Nat):joinN [44,32] (p::ps)++[44,32]=joinN [44,32] ((p::ps)++[[]]):=by show ps.foldl (λacc y=>acc++[44,32]++y) p++[44,32]=(ps++[[]]).foldl (λacc y=>acc++[44,32]++y) p;rw[List.foldl_append];simp
abbrev EL(S:D)(a1 a2 a3 a4 a5 a6 a7 a8 a9:OD):Ev.Env:=[Zf S,a1,a2,a3,a4,a5,a6,a7,a8,a9]
theorem odd_go{L:List Rn}(h:Stk L){S:D}{a1 a2 a3 a4 a5 a9:OD}{p:Rn}{k:Nat}(hk:k<L.length)(hp:L[k]=p){b:Rw}(hb:b∈oddR p.1) :
  lb_law_1 (EL S a1 a2 a3 a4 a5 (Zf (.lst (((L.map rn).map rtx).map .str))) (Zf (.int (k:Nat))) (Zs (rtx b)) a9) = .nx (EL S a1 a2 a3 a4 a5 (Zf (.lst (((L.map rn).map rtx).map .str))) (Zf (.int (k:Nat))) (Zs (rtx b)) a9):=by
 have hl:=h.len;have hpm:p∈L:=hp ▸ List.getElem_mem hk;obtain⟨o1,o2⟩:=odd_is (h.ltr hpm) hb;generalize hrs:L.map rn=rs;have hlr:rs.length=L.length:=by rw[<-hrs,Qqx]
 have hok:∀r∈rs.take k++b::rs.drop (k+1),RowOk r:=λr hr=>by
  rcases Qzz.mp hr with hr|hr
  ·exact h.ok r (by rw[hrs];exact List.mem_of_mem_take hr)
  ·rcases Qwq.mp hr with rfl|hr
   ·exact o1
   ·exact h.ok r (by rw[hrs];exact List.mem_of_mem_drop hr)
 have hn:(rs.take k++b::rs.drop (k+1)).length<=6:=by rw[Qqj,Qqk,Qw9,Qx8];omega
 have hx:=read_no hok hn (by rw[<-hrs];exact h.beg.take k) (odd_no o2);have hlen:(rs.take k).length=k:=by rw[Qw9];omega
 rw[hlen] at hx;have hr:=refused hx (.inr ⟨k,rfl⟩);generalize hE:EL S a1 a2 a3 a4 a5 (Zf (.lst ((rs.map rtx).map .str))) (Zf (.int (k:Nat))) (Zs (rtx b)) a9=env;have s1:evSlA (evVar 6) evNoP (evP (evVar 7)) env = .ok (.lst (((rs.map rtx).take k).map .str)) env:=by refine evSlA_eq (d:=.lst ((rs.map rtx).map .str)) (l:=none) (u:=some (k:Int)) (e1:=env) (e2:=env) (by rw[<-hE];rfl) rfl (by rw[<-hE];rfl) ?_;show some (D.lst (cutD ((rs.map rtx).map D.str) none (some (k:Int))))=_;rw[cutD_to,List.map_take]
 have s2:evSlA (evVar 6) (evP (evBinO gAdd 7 (Zi 1))) evNoP env = .ok (.lst (((rs.map rtx).drop (k+1)).map .str)) env:=by refine evSlA_eq (d:=.lst ((rs.map rtx).map .str)) (l:=some ((k+1:Nat):Int)) (u:=none) (e1:=env) (e2:=env) (by rw[<-hE];rfl) (by rw[<-hE];rfl) rfl ?_;show some (D.lst (cutD ((rs.map rtx).map D.str) (some ((k+1:Nat):Int)) none))=_;rw[cut_from,List.map_drop]
 have e:(rs.map rtx).take k++[rtx b]++(rs.map rtx).drop (k+1)=(rs.take k++b::rs.drop (k+1)).map rtx:=by rw[Qxz,Qq9,List.map_take,List.map_drop,Qx0];rfl
 unfold lb_law_1;refine(stIf_f (e:=env) (evNotT_eq (b:=true) (evB_eq (evCall_eq (ds:=[.str (stx (rs.take k++b::rs.drop (k+1))),.int (k:Nat)]) (evCons_eq (e1:=env) (evBin_eq (x:=.str [44,32]) (y:=.lst (((rs.take k++b::rs.drop (k+1)).map rtx).map .str)) (e1:=env) rfl ?_ (join_l (stx_few hok hn) (by decide) (by decide))) (by rw[<-hE];rfl)) hr)))).trans rfl;refine evBin_eq (x:=.lst (((rs.map rtx).take k++[rtx b]).map .str)) (y:=.lst (((rs.map rtx).drop (k+1)).map .str)) (e1:=env) (evBin_eq (x:=.lst (((rs.map rtx).take k).map .str)) (y:=.lst [.str (rtx b)]) (e1:=env) s1 (by rw[<-hE];rfl) ?_) s2 ?_
 ·refine(gAddL_eq ?_).trans (by rw[Qxz];rfl);rw[Qqx,Qw9,Qqx];exact Qq2 (show min k rs.length+1<=10 by omega) (by decide)
 ·refine(gAddL_eq ?_).trans (by rw[<-Qxz,e]);rw[Qqx,Qqj,Qw9,Qqx,Qqx,Qx8,Qqx];exact Qq2 (show min k rs.length+1+(rs.length - (k+1))<=10 by omega) (by decide)
theorem all_tups(rs:List Rw)(hn:rs.length<=6)(A:Ev.Env)(hA:A.length=10)(h5:A[5]? = some (Zf (.tup (rs.map enc)))):evCall gAll (evCons lc_law_1 evNil) A = .ok (.bl true) A:=by
 obtain⟨env',h1,v,rfl⟩:=lcE (g:=gvName 10) (e:=evAnd (evUn (gIsi "tuple") (evVar 10)) (evUn (gIsi "tuple") (evBinO gIx 10 (Zi 1)))) (λenv=>∃v,env=A++[v]) enc (λ_=>D.bl true) rs (A++[Zn]) ⟨none,rfl⟩
  (λr hr env ⟨v,he⟩=>by
   subst he;have ha:(A++[Zf (enc r)])[10]? = some (Zf (enc r)):=by rw[Qxw (by omega),hA];rfl
   refine⟨A++[Zf (enc r)],A++[Zf (enc r)],?_,?_,_,rfl⟩
   ·show some ((A++[v]).set 10 (Zf (enc r)))=_;rw[List.set_append_right _ _ (by omega),hA]
    rfl
   ·have e1:evVar 10 (A++[Zf (enc r)]) = .ok (enc r) (A++[Zf (enc r)]):=by unfold evVar;rw[ha]
    refine(evAnd_t (evUn_eq e1 rfl)).trans ?_;exact evUn_eq (evBF (x:=enc r) (y:=.int 1) ha rfl ha rfl) rfl)
 have h2:evLC 10 11 (evIt (evVar 5)) (gvName 10) evTrue (evAnd (evUn (gIsi "tuple") (evVar 10)) (evUn (gIsi "tuple") (evBinO gIx 10 (Zi 1)))) A = .ok (.lst (rs.map λ_=>.bl true)) ((A++[v]).take 10):=by
  refine evLC_eq (lo:=10) (n:=11) (ds:=rs.map enc) (env1:=A) ?_ hA h1 (by rw[Qqx];exact Qq2 hn (by decide));have e5:evVar 5 A = .ok (.tup (rs.map enc)) A:=by unfold evVar;rw[h5]
  unfold evIt;rw[e5]
  rfl
 rw[List.take_append_of_le_length (by omega),Qjz (by omega)] at h2;refine evCall_eq (evCons_eq h2 evNil_eq) ?_;have:=gAllM (λ_:Rw=>true) rs;rw[this];have:(rs.all λ_=>true)=true:=Qwk.mpr λ_ _=>rfl;rw[this]
theorem head_of(p:Rn):∃t,rtx (rn p)=p.1::t:=by
 obtain⟨c,ms⟩:=p;cases ms with
 | nil=>exact⟨[],rfl⟩
 | cons m ms=>exact⟨32::joinN [32] (m::ms),by show joinN [32] ([c]::m::ms)=_;rw[joinN_cons];rfl⟩
theorem law_body(ns:List Int)(hl:ns.length<=63)(hb:Bits ns)(k:Int)(h0:0<=k)(h1:k<=400)(b2 b3 b4 b5 b6 b7 b8 b9:OD) :
  ∃c2 c3 c4 c5 c6 c7 c8,lb_law_2 (EL (.arr (ns.map .int)) (Zf (.int k)) b2 b3 b4 b5 b6 b7 b8 b9) = .nx (EL (.arr (ns.map .int)) (Zf (.int k)) c2 c3 c4 c5 c6 c7 c8 b9):=by
 obtain⟨p,hp⟩:=K06.pack ns hl hb k h0 (by omega);obtain⟨L,n,hS,hst⟩:=stock p;have hlen:=hS.len;generalize hrs:L.map rn=rs;have hrow:L.map row=rs.map enc:=by rw[<-hrs,Qz7];rfl
 rw[hrow] at hst;have hlr:rs.length=L.length:=by rw[<-hrs,Qqx]
 have hok:∀r∈rs,RowOk r:=by rw[<-hrs];exact hS.ok
 have hbeg:Beg rs:=by rw[<-hrs];exact hS.beg
 obtain⟨d,hd,ed⟩:=dig n rs.length (by omega);have hdL:d<L.length:=by omega
 generalize hS0:D.arr (ns.map .int)=S at hp;have t1:=law_stock_text hok (by omega);have t2:=show_stock hok (by omega);have t3:=read_stock hok (by omega) (by omega) hbeg;have t4:=split_stock hok (by omega) (by omega);have ht:=K06.take_eq n rs.length (by omega) (by omega);rw[ed] at ht;have htk:f_law_take [.lst [.int n],.int (rs.length:Int)]=some (.int (d:Int),.lst [.int (n / rs.length)]):=ht;generalize hm:n / (rs.length:Int)=m at htk;have hgl:∀(a7 a8:OD) (m:Int),evCall gLen (evCons (evRd 6) evNil) (EL S (Zf (.int k)) (Zl [.int m]) (Zf (.tup (rs.map enc))) (Zs (stx rs)) (Zf (.tup (rs.map enc))) (Zf (.lst ((rs.map rtx).map .str))) a7 a8 b9) = .ok (.int (rs.length:Int)) (EL S (Zf (.int k)) (Zl [.int m]) (Zf (.tup (rs.map enc))) (Zs (stx rs)) (Zf (.tup (rs.map enc))) (Zf (.lst ((rs.map rtx).map .str))) a7 a8 b9):=λa7 a8 m=>by
  refine evCall_eq (ds:=[.lst ((rs.map rtx).map .str)]) rfl ?_;show some (D.int (((rs.map rtx).map D.str).length:Int))=_;rw[Qqx,Qqx]
 -- the odd parts
 obtain⟨tl,htl⟩:=head_of L[d];have hrd:rs[d]'(by omega)=rn L[d]:=by subst hrs;simp
 have hix:evCall f_law_odd_parts (evCons (evBin gIx (evBinO gIx 6 (evRd 7)) (Zi 0)) evNil) (EL S (Zf (.int k)) (Zl [.int m]) (Zf (.tup (rs.map enc))) (Zs (stx rs)) (Zf (.tup (rs.map enc))) (Zf (.lst ((rs.map rtx).map .str))) (Zf (.int (d:Int))) b8 b9) = .ok (.lst ((oddR (L[d]).1).map λr=>.str (rtx r))) (EL S (Zf (.int k)) (Zl [.int m]) (Zf (.tup (rs.map enc))) (Zs (stx rs)) (Zf (.tup (rs.map enc))) (Zf (.lst ((rs.map rtx).map .str))) (Zf (.int (d:Int))) b8 b9):=by
  refine evCall_eq (ds:=[.str [(L[d]).1]]) (evCons_eq (evBin_eq (x:=.str (rtx (rn L[d]))) (y:=.int 0) (e1:=EL S (Zf (.int k)) (Zl [.int m]) (Zf (.tup (rs.map enc))) (Zs (stx rs)) (Zf (.tup (rs.map enc))) (Zf (.lst ((rs.map rtx).map .str))) (Zf (.int (d:Int))) b8 b9) (evBF (x:=.lst ((rs.map rtx).map .str)) (y:=.int (d:Int)) rfl rfl rfl ?_) rfl ?_) evNil_eq) (odd_parts _)
  ·show atI ((rs.map rtx).map D.str) (d:Int)=_;rw[atI_lt (by rw[Qqx,Qqx];omega)];simp[hrd]
  ·rw[htl];show(atI ((L[d]).1::tl) 0).map _=_;rw[K06.atI_zero]
   rfl
 obtain⟨e',f1,a8,rfl⟩:=forO_inv (g:=gvName 8) (b:=lb_law_1) (λenv=>∃a8,env=EL S (Zf (.int k)) (Zl [.int m]) (Zf (.tup (rs.map enc))) (Zs (stx rs)) (Zf (.tup (rs.map enc))) (Zf (.lst ((rs.map rtx).map .str))) (Zf (.int (d:Int))) a8 b9) ((oddR (L[d]).1).map λr=>.str (rtx r))
  (λx hx env ⟨a8,he⟩=>by
   subst he;obtain⟨b,hb,rfl⟩:=Qxv.mp hx;have:=odd_go hS (S:=S) (a1:=Zf (.int k)) (a2:=Zl [.int m]) (a3:=Zf (.tup (rs.map enc))) (a4:=Zs (stx rs)) (a5:=Zf (.tup (rs.map enc))) (a9:=b9) hdL rfl hb;rw[hrs] at this;exact⟨_,_,rfl,this,_,rfl⟩)
  (EL S (Zf (.int k)) (Zl [.int m]) (Zf (.tup (rs.map enc))) (Zs (stx rs)) (Zf (.tup (rs.map enc))) (Zf (.lst ((rs.map rtx).map .str))) (Zf (.int (d:Int))) b8 b9) ⟨b8,rfl⟩
 refine⟨(Zl [.int m]),(Zf (.tup (rs.map enc))),Zs (stx rs),(Zf (.tup (rs.map enc))),(Zf (.lst ((rs.map rtx).map .str))),(Zf (.int (d:Int))),a8,?_⟩;unfold lb_law_2;refine(stSeq_nx (e:=EL S (Zf (.int k)) (Zl [.int p]) b3 b4 b5 b6 b7 b8 b9) (stOwn_eq (evCall_eq (g:=f_law_pack) (ds:=[S,.int k]) rfl hp))).trans ?_;refine(stSeq_nx (e:=EL S (Zf (.int k)) (Zl [.int n]) (Zf (.tup (rs.map enc))) b4 b5 b6 b7 b8 b9) (stAsg_eq (evIO_eq (x0:=.lst [.int p]) (x:=.lst [.int p]) (e1:=EL S (Zf (.int k)) (Zl [.int p]) b3 b4 b5 b6 b7 b8 b9) rfl rfl rfl hst) rfl)).trans ?_;refine(stSeq_nx (e:=EL S (Zf (.int k)) (Zl [.int n]) (Zf (.tup (rs.map enc))) (Zs (stx rs)) b5 b6 b7 b8 b9) (stAsg_eq (e:=EL S (Zf (.int k)) (Zl [.int n]) (Zf (.tup (rs.map enc))) b4 b5 b6 b7 b8 b9) (evCall_eq (ds:=[.tup (rs.map enc)]) rfl t1) rfl)).trans ?_;refine(stSeq_nx (e:=EL S (Zf (.int k)) (Zl [.int n]) (Zf (.tup (rs.map enc))) (Zs (stx rs)) (Zf (.tup (rs.map enc))) b6 b7 b8 b9) (stAsg_eq (e:=EL S (Zf (.int k)) (Zl [.int n]) (Zf (.tup (rs.map enc))) (Zs (stx rs)) b5 b6 b7 b8 b9) (evCall_eq (ds:=[.str (stx rs)]) rfl t3) rfl)).trans ?_;generalize hE5:EL S (Zf (.int k)) (Zl [.int n]) (Zf (.tup (rs.map enc))) (Zs (stx rs)) (Zf (.tup (rs.map enc))) b6 b7 b8 b9=E5v;refine(stSeq_nx (e:=E5v) ?_).trans ?_
 ·refine(stIf_f (e:=E5v) ?_).trans rfl;refine(evOrT_f (e:=E5v) (evB_eq (evBin_eq (x:=.str (stx rs)) (y:=.str (stx rs)) (e1:=E5v) (evCall_eq (ds:=[.tup (rs.map enc)]) (by rw[<-hE5];rfl) t2) (by rw[<-hE5];rfl) (by rw[gNe_s,beq_self_eq_true];rfl)))).trans ?_;refine(evOrT_f (e:=E5v) (evB_eq (evBF (x:=.tup (rs.map enc)) (y:=.tup (rs.map enc)) (by rw[<-hE5];rfl) (by rw[<-hE5];rfl) (by rw[<-hE5];rfl) (gNe_self (ok_rows rs))))).trans ?_;exact evNotT_eq (b:=true) (evB_eq (evUn_eq (x:=.tup (rs.map enc)) (by rw[<-hE5];rfl) rfl))
 refine(stSeq_nx (e:=E5v) ((stIf_f (e:=E5v) (evNotT_eq (b:=true) (evB_eq (all_tups rs (by omega) E5v (by rw[<-hE5];rfl) (by rw[<-hE5];rfl))))).trans rfl)).trans ?_;rw[<-hE5];refine(stSeq_nx (e:=EL S (Zf (.int k)) (Zl [.int n]) (Zf (.tup (rs.map enc))) (Zs (stx rs)) (Zf (.tup (rs.map enc))) (Zf (.lst ((rs.map rtx).map .str))) b7 b8 b9) (stAsg_eq (e:=EL S (Zf (.int k)) (Zl [.int n]) (Zf (.tup (rs.map enc))) (Zs (stx rs)) (Zf (.tup (rs.map enc))) b6 b7 b8 b9) (evBin_eq (x:=.str (stx rs)) (y:=.str [44,32]) (e1:=EL S (Zf (.int k)) (Zl [.int n]) (Zf (.tup (rs.map enc))) (Zs (stx rs)) (Zf (.tup (rs.map enc))) b6 b7 b8 b9) rfl rfl t4) rfl)).trans ?_;refine(stSeq_nx (e:=EL S (Zf (.int k)) (Zl [.int m]) (Zf (.tup (rs.map enc))) (Zs (stx rs)) (Zf (.tup (rs.map enc))) (Zf (.lst ((rs.map rtx).map .str))) (Zf (.int (d:Int))) b8 b9) (stAsg_eq (evIO_eq (x0:=.lst [.int n]) (x:=.lst [.int n]) (ds:=[.int (rs.length:Int)]) rfl (evCons_eq (hgl b7 b8 n) evNil_eq) rfl htk) rfl)).trans ?_;have hpm:L[d]∈L:=List.getElem_mem hdL;have hag:st (rs++[rn L[d]])=false:=by rw[<-hrs];exact hS.again hpm
 have hok2:∀r∈rs++[rn L[d]],RowOk r:=λr hr=>by
  rcases Qzz.mp hr with hr|hr
  ·exact hok r hr
  ·rw[Qx2.mp hr];exact hok _ (by rw[<-hrs];exact Qxv.mpr ⟨_,hpm,rfl⟩)
 have hn2:(rs++[rn L[d]]).length<=6:=by rw[Qqj];show rs.length+1<=6;omega
 have r1:=refused (read_no (rest:=[]) hok2 hn2 hbeg hag) (.inr ⟨_,rfl⟩);have hok3:∀r∈rs++[(([],[]):Rw)],RowOk r:=λr hr=>by
  rcases Qzz.mp hr with hr|hr
  ·exact hok r hr
  ·rw[Qx2.mp hr];decide
 have hn3:(rs++[(([],[]):Rw)]).length<=6:=by rw[Qqj];show rs.length+1<=6;omega
 have r2:=refused (read_no (rest:=[]) hok3 hn3 hbeg (odd_no (by decide))) (.inr ⟨_,rfl⟩);generalize hE:EL S (Zf (.int k)) (Zl [.int m]) (Zf (.tup (rs.map enc))) (Zs (stx rs)) (Zf (.tup (rs.map enc))) (Zf (.lst ((rs.map rtx).map .str))) (Zf (.int (d:Int))) a8 b9=env at f1 ⊢;have hgl':evCons (evCall gLen (evCons (evRd 6) evNil)) evNil env = .ok [.int (rs.length:Int)] env:=by rw[<-hE];exact evCons_eq (hgl _ _ _) evNil_eq
 refine(stSeq_nx (e:=env) ?_).trans ?_
 ·refine(stFor_eq ?_).trans f1;unfold evIt;rw[hix]
  rfl
 have s1:evSlA (evVar 6) (evP (evVar 7)) (evP (evBinO gAdd 7 (Zi 1))) env = .ok (.lst [.str (rtx (rn L[d]))]) env:=by
  refine evSlA_eq (d:=.lst ((rs.map rtx).map .str)) (l:=some (d:Int)) (u:=some ((d+1:Nat):Int)) (e1:=env) (e2:=env) (by rw[<-hE];rfl) (by rw[<-hE];rfl) (by rw[<-hE];rfl) ?_;show some (D.lst (cutD ((rs.map rtx).map D.str) (some (d:Int)) (some ((d+1:Nat):Int))))=_;unfold cutD;rw[HT.sIx_nat,HT.sIx_nat];have hl2:((rs.map rtx).map D.str).length=rs.length:=by rw[Qqx,Qqx]
  rw[hl2,Nat.min_eq_left (by omega),Nat.min_eq_left (by omega),Nat.add_sub_cancel_left];have hd2:d<((rs.map rtx).map D.str).length:=by omega
  rw[Qz2 hd2,List.take_succ_cons,List.take_zero];simp[hrd]
 have s2:evBinO gAdd 6 (evSlA (evVar 6) (evP (evVar 7)) (evP (evBinO gAdd 7 (Zi 1)))) env = .ok (.lst (((rs++[rn L[d]]).map rtx).map .str)) env:=by refine evBF (x:=.lst ((rs.map rtx).map .str)) (by rw[<-hE];rfl) s1 (by rw[<-hE];rfl) ((gAddL_eq ?_).trans (by rw[Qxz,Qxz];rfl));rw[Qqx,Qqx];exact Qq2 (show rs.length+1<=10 by omega) (by decide)
 refine(stSeq_nx (e:=env) ((stIf_f (e:=env) (evNotT_eq (b:=true) (evB_eq (evCall_eq (ds:=[.str (stx (rs++[rn L[d]])),.int (rs.length:Int)]) (evCons_eq (evBin_eq (x:=.str [44,32]) (e1:=env) rfl s2 (join_l (stx_few hok2 hn2) (by decide) (by decide))) hgl') r1)))).trans rfl)).trans ?_;refine(stIf_f (e:=env) (evNotT_eq (b:=true) (evB_eq (evCall_eq (ds:=[.str (stx (rs++[(([],[]):Rw)])),.int (rs.length:Int)]) (evCons_eq (evBF (x:=.str (stx rs)) (y:=.str [44,32]) (by rw[<-hE];rfl) rfl (by rw[<-hE];rfl) ?_) hgl') r2)))).trans rfl;have hsl:(stx rs).length<=600:=Qq2 ((stx_few hok (by omega)).join (by decide)) (by decide);show(if (stx rs).length+2<=sizeLine then some (D.str (stx rs++[44,32])) else none)=_;rw[if_pos (Qq2 (show(stx rs).length+2<=602 by omega) (by decide))]
 congr 2
 unfold stx;cases rs with
 | nil=>exact absurd hlr (by simp;omega)
 | cons r rs=>rw[Qxz];exact join_end _ _
instance (rs:List Rw):Decidable (Beg rs):=by unfold Beg;infer_instance
theorem ref_1:f_law_refused [.str [98,44,32,97,44,32,65],.int 1]=some (.bl true):=
 refused (read_no (gs:=[([98],[])]) (b:=([97],[])) (rest:=[([65],[])]) (by decide +kernel) (by decide) (by decide +kernel) (by decide +kernel)) (.inr ⟨1,rfl⟩)
theorem ref_2:f_law_refused [.str [97,44,32,98,44,32,99,44,32,100,44,32,101,44,32,70],.int 4]=some (.bl true):=
 refused (read_no (gs:=[([97],[]),([98],[]),([99],[]),([100],[])]) (b:=([101],[])) (rest:=[([70],[])]) (by decide +kernel) (by decide) (by decide +kernel) (by decide +kernel)) (.inr ⟨4,rfl⟩)
theorem ref_3:f_law_refused [.str [],.int 0]=some (.bl true):=
 refused (read_no (gs:=[]) (b:=([],[])) (rest:=[]) (by decide +kernel) (by decide) (by decide +kernel) (by decide +kernel)) (.inr ⟨0,rfl⟩)
theorem ref_4:f_law_refused [.str [97,44,32,98,44,32,99,44,32,100,44,32,101],.int 4]=some (.bl true):=
 refused (read_no (gs:=[([97],[]),([98],[]),([99],[]),([100],[])]) (b:=([101],[])) (rest:=[]) (by decide +kernel) (by decide) (by decide +kernel) (by decide +kernel)) (.inr ⟨4,rfl⟩)
theorem ref_5:f_law_refused [.str [98,44,32,97],.int 1]=some (.bl true):=
 refused (read_no (gs:=[([98],[])]) (b:=([97],[])) (rest:=[]) (by decide +kernel) (by decide) (by decide +kernel) (by decide +kernel)) (.inr ⟨1,rfl⟩)
theorem rngD3{i j c:Int}(h:c≠0/\c.natAbs<1073741824/\Builtin.Range.small i j c=true):rngD [.int i,.int j,.int c]=some (stepsI i c (Builtin.Range.rangeSize i j c).toNat):=by unfold rngD;simp only;rw[if_pos h]
theorem rng_is{j:Nat}(h:j<17):∃ds,rngD [.int 0,.int (j:Int),.int 2]=some ds/\∀d∈ds,∃k:Int,d = .int k/\0<=k/\k<=400:=by
 have hall:((List.range 17).all λj=>Builtin.Range.small 0 (j:Int) 2&&decide ((Builtin.Range.rangeSize 0 (j:Int) 2).toNat<=20))=true:=by decide +kernel
 have hj:=Qwk.mp hall j (Qx1.mpr h);rw[Qwv] at hj;have hsz:=Qw2 hj.2;refine⟨stepsI 0 2 (Builtin.Range.rangeSize 0 (j:Int) 2).toNat,rngD3 ⟨by decide,by decide,hj.1⟩,λd hd=>?_⟩;unfold stepsI at hd;obtain⟨i,hi,rfl⟩:=Qxv.mp hd;have:=Qx1.mp hi;exact⟨0+(i:Int)*2,rfl,by omega,by omega⟩
theorem true_law(ns:List Int)(hl:ns.length<=63)(hb:Bits ns):f_law [.arr (ns.map .int)]=some (.bl true):=by
 have hlen:evCall gLen (evCons (evRd 0) evNil) (EL (.arr (ns.map .int)) none none none none none none none none none) = .ok (.int (ns.length:Int)) (EL (.arr (ns.map .int)) none none none none none none none none none):=by show R.ok (D.int ((ns.map D.int).length:Int)) _=_;rw[Qqx]
 obtain⟨ds,hds,hk⟩:∃ds,evRng (evCons (Zi 0) (evCons (evCall gMax (evCons (Zi 1) (evCons (evCall gMin (evCons (evCall gLen (evCons (evRd 0) evNil)) (evCons (Zi 16) evNil))) evNil))) (evCons (Zi 2) evNil))) (EL (.arr (ns.map .int)) none none none none none none none none none) = .ok ds (EL (.arr (ns.map .int)) none none none none none none none none none)/\∀d∈ds,∃k:Int,d = .int k/\0<=k/\k<=400:=by
  generalize hE:EL (.arr (ns.map .int)) none none none none none none none none none=env at hlen ⊢;have a1:evCons (Zi 0) (evCons (evCall gMax (evCons (Zi 1) (evCons (evCall gMin (evCons (evCall gLen (evCons (evRd 0) evNil)) (evCons (Zi 16) evNil))) evNil))) (evCons (Zi 2) evNil)) env = .ok [.int 0,.int (if (if (16:Int)<ns.length then 16 else (ns.length:Int)) > 1 then (if (16:Int)<ns.length then 16 else (ns.length:Int)) else 1),.int 2] env:=
   evCons_eq (d:=.int 0) (by rfl) (evCons_eq (evCall_eq (ds:=[.int 1,.int (if (16:Int)<ns.length then 16 else (ns.length:Int))]) (evCons_eq (d:=.int 1) (by rfl) (evCons_eq (evCall_eq (ds:=[.int (ns.length:Int),.int 16]) (evCons_eq hlen (by rfl)) (by rfl)) evNil_eq)) (by rfl)) (by rfl))
  generalize hm:(if (if (16:Int)<ns.length then 16 else (ns.length:Int)) > 1 then (if (16:Int)<ns.length then 16 else (ns.length:Int)) else 1)=m at a1;have hm1:1<=m/\m<=16:=by rw[<-hm];split<;>split<;>omega
  obtain⟨j,rfl⟩:∃j:Nat,m=(j:Int):=⟨m.toNat,by omega⟩;obtain⟨ds,h1,h2⟩:=rng_is (j:=j) (by omega);exact⟨ds,evRngE a1 h1,h2⟩
 obtain⟨e',f1,c1,c2,c3,c4,c5,c6,c7,c8,rfl⟩:=forO_inv (g:=gvName 1) (b:=lb_law_2) (λenv=>∃c1 c2 c3 c4 c5 c6 c7 c8,env=EL (.arr (ns.map .int)) c1 c2 c3 c4 c5 c6 c7 c8 none) ds
  (λd hd env ⟨c1,c2,c3,c4,c5,c6,c7,c8,he⟩=>by
   subst he;obtain⟨k,rfl,h0,h1⟩:=hk d hd;obtain⟨x2,x3,x4,x5,x6,x7,x8,hb⟩:=law_body ns hl hb k h0 h1 c2 c3 c4 c5 c6 c7 c8 none;exact⟨_,_,rfl,hb,_,_,_,_,_,_,_,_,rfl⟩)
  (EL (.arr (ns.map .int)) none none none none none none none none none) ⟨_,_,_,_,_,_,_,_,rfl⟩
 generalize D.arr (ns.map .int)=S at hds f1 ⊢;obtain⟨e',f2,c9,rfl⟩:=forO_inv (g:=gvName 9) (b:=lb_law_3) (λenv=>∃c9,env=EL S c1 c2 c3 c4 c5 c6 c7 c8 c9) [.non,.int 7,.bl true,.tup [],.lst [.str [97]],.dct []]
  (λd hd env ⟨c9,he⟩=>by
   subst he;have hr:=refused (read_non d (by simpa using hd)) (.inl rfl);refine⟨EL S c1 c2 c3 c4 c5 c6 c7 c8 (Zf d),EL S c1 c2 c3 c4 c5 c6 c7 c8 (Zf d),rfl,?_,Zf d,rfl⟩;unfold lb_law_3;exact(stIf_f (e:=EL S c1 c2 c3 c4 c5 c6 c7 c8 (Zf d)) (evNotT_eq (b:=true) (evB_eq (evCall_eq (ds:=[d,.non]) rfl hr)))).trans rfl)
  (EL S c1 c2 c3 c4 c5 c6 c7 c8 none) ⟨_,rfl⟩
 refine runP_eq (env:=EL S c1 c2 c3 c4 c5 c6 c7 c8 c9) ?_;unfold b_law;refine(stSeq_nx (e:=EL S c1 c2 c3 c4 c5 c6 c7 c8 none) ((stFor_eq hds).trans f1)).trans ?_;refine(stSeq_nx (e:=EL S c1 c2 c3 c4 c5 c6 c7 c8 c9) ((stFor_eq (ds:=[.non,.int 7,.bl true,.tup [],.lst [.str [97]],.dct []]) (e:=EL S c1 c2 c3 c4 c5 c6 c7 c8 none) rfl).trans f2)).trans ?_;generalize EL S c1 c2 c3 c4 c5 c6 c7 c8 c9=env;refine(stSeq_nx (e:=env) ((stIf_f (e:=env) ((evOrT_f (e:=env) (evNotT_eq (b:=true) (evB_eq (evCall_eq (ds:=[.str [98,44,32,97,44,32,65],.int 1]) rfl ref_1)))).trans (evNotT_eq (b:=true) (evB_eq (evCall_eq (ds:=[.str [97,44,32,98,44,32,99,44,32,100,44,32,101,44,32,70],.int 4]) rfl ref_2))))).trans rfl)).trans ?_;refine stRet_eq ((evAnd_t (e:=env) (evCall_eq (ds:=[.str [],.int 0]) rfl ref_3)).trans ((evAnd_t (e:=env) (evCall_eq (ds:=[.str [97,44,32,98,44,32,99,44,32,100,44,32,101],.int 4]) rfl ref_4)).trans ?_));exact evCall_eq (ds:=[.str [98,44,32,97],.int 1]) rfl ref_5
open PySem PySem.Spec PyProof.Rows L2 Ev
theorem xg_mk{K:Fg}{c_NoText c_SoundError xi:Addr}{x_nm x_q:Str}{x_N:Addr}{x_bs x_sub:List Value}{x_sn:List Str}{x_ab:Bool}{x_col:Option Bool}{x_dd:Option Addr}{x_k0 x_k1 x_k2 x_k3 x_k5:Option Value}{x_oc x_kV x_doc x_pm x_cdv x_ct:Value}{x_od x_an:Option Addr}{x_osl:Array (Option Value)}(n_NoText:PySem.W.nsIn K mainGlobals "NoText" = some (some (.ref c_NoText)))(xo:K.lookup c_NoText=some (excClassObj x_nm x_q c_NoText x_N x_bs (.ref c_SoundError::XC.bmV) true x_sn x_sub x_ab x_col x_dd x_k0 x_k1 x_k2 x_k3 x_k5 "ValueError.__new__"))(xsa:PySem.W.findIn K (.ref c_NoText) "__setattr__" = some (some (.builtin "object.__setattr__")))(xno:PySem.W.findIn K (.ref c_NoText) "part" = some none)(xu:PySem.W.excIn K c_SoundError [.type "ValueError",.type "Exception",.type "BaseException",.type "object"] "ValueError.__new__" = true)(xin:PySem.W.findIn K (.ref c_NoText) "__init__" = some (some (.ref xi)))(xty:PySem.W.typeIn K (.ref xi)=some (.type "function"))(xfn:K.lookup xi=some ⟨x_oc,x_od,.func (PySem.W.fnOf "__init__" "NoText.__init__" (defArgs s_init) (defBody s_init) (defScope s_init) .none x_kV x_doc x_pm x_an x_cdv x_ct),x_osl⟩)(xcd:PySem.W.codeIn K x_cdv "NoText.__init__" = true)(xkp:PySem.W.keepIn K (.ref xi)=true)(xl_NoText:XC.Cl K c_NoText):XG K "NoText" "part" "NoText.__init__" s_init c_NoText c_SoundError xi:=
 ⟨n_NoText,⟨_,_,_,_,_,_,_,_,_,_,_,_,_,_,xo⟩,xl_NoText,xsa,xno,xu,xin,xty,⟨_,_,_,_,_,_,_,_,_,xfn,xcd⟩,xkp⟩
theorem all_mk{P:Program}{w:World}{K:Fg}{h:Heap}{mg:Str->Option Value}{fa:Addr}(X:K.In h)(G:h.Ns mainGlobals mg)(hfa:mg "law" = some (.ref fa))
  {c_NoCall c_NoKept c_NoNumber c_NoSide c_NoSource c_NoText c_SoundError c_TooMany:Addr} {xi:Addr} {x_nm x_q:Str} {x_N:Addr} {x_bs x_sub:List Value} {x_sn:List Str} {x_ab:Bool} {x_col:Option Bool} {x_dd:Option Addr} {x_k0 x_k1 x_k2 x_k3 x_k5:Option Value} {x_oc x_kV x_doc x_pm x_cdv x_ct:Value} {x_od x_an:Option Addr} {x_osl:Array (Option Value)} {t_LETTERS:Tok} {t_MOST_LETTERS:Tok} {t_MOST_MARKS:Tok} {t_MOST_SOUNDS:Tok}
  (z_ValueError:PySem.W.nsIn K mainGlobals "ValueError" = some none) (z_all:PySem.W.nsIn K mainGlobals "all" = some none) (z_bool:PySem.W.nsIn K mainGlobals "bool" = some none) (z_divmod:PySem.W.nsIn K mainGlobals "divmod" = some none) (z_enumerate:PySem.W.nsIn K mainGlobals "enumerate" = some none) (z_isinstance:PySem.W.nsIn K mainGlobals "isinstance" = some none) (z_len:PySem.W.nsIn K mainGlobals "len" = some none) (z_list:PySem.W.nsIn K mainGlobals "list" = some none) (z_max:PySem.W.nsIn K mainGlobals "max" = some none) (z_min:PySem.W.nsIn K mainGlobals "min" = some none) (z_range:PySem.W.nsIn K mainGlobals "range" = some none) (z_set:PySem.W.nsIn K mainGlobals "set" = some none) (z_sorted:PySem.W.nsIn K mainGlobals "sorted" = some none) (z_str:PySem.W.nsIn K mainGlobals "str" = some none) (z_sum:PySem.W.nsIn K mainGlobals "sum" = some none) (z_tuple:PySem.W.nsIn K mainGlobals "tuple" = some none) (isi_bool:∀d:D,PySem.W.kitOne K (.type (tyD d)) (.type "bool")=some (instD d "bool")) (isi_str:∀d:D,PySem.W.kitOne K (.type (tyD d)) (.type "str")=some (instD d "str")) (isi_tuple:∀d:D,PySem.W.kitOne K (.type (tyD d)) (.type "tuple")=some (instD d "tuple")) (n_NoCall:PySem.W.nsIn K mainGlobals "NoCall" = some (some (.ref c_NoCall))) (n_NoKept:PySem.W.nsIn K mainGlobals "NoKept" = some (some (.ref c_NoKept))) (n_NoNumber:PySem.W.nsIn K mainGlobals "NoNumber" = some (some (.ref c_NoNumber))) (n_NoSide:PySem.W.nsIn K mainGlobals "NoSide" = some (some (.ref c_NoSide))) (n_NoSource:PySem.W.nsIn K mainGlobals "NoSource" = some (some (.ref c_NoSource))) (n_NoText:PySem.W.nsIn K mainGlobals "NoText" = some (some (.ref c_NoText))) (n_SoundError:PySem.W.nsIn K mainGlobals "SoundError" = some (some (.ref c_SoundError))) (n_TooMany:PySem.W.nsIn K mainGlobals "TooMany" = some (some (.ref c_TooMany))) (xo:K.lookup c_NoText=some (excClassObj x_nm x_q c_NoText x_N x_bs (.ref c_SoundError::XC.bmV) true x_sn x_sub x_ab x_col x_dd x_k0 x_k1 x_k2 x_k3 x_k5 "ValueError.__new__")) (xsa:PySem.W.findIn K (.ref c_NoText) "__setattr__" = some (some (.builtin "object.__setattr__"))) (xno:PySem.W.findIn K (.ref c_NoText) "part" = some none) (xu:PySem.W.excIn K c_SoundError [.type "ValueError",.type "Exception",.type "BaseException",.type "object"] "ValueError.__new__" = true) (xin:PySem.W.findIn K (.ref c_NoText) "__init__" = some (some (.ref xi))) (xty:PySem.W.typeIn K (.ref xi)=some (.type "function")) (xfn:K.lookup xi=some ⟨x_oc,x_od,.func (PySem.W.fnOf "__init__" "NoText.__init__" (defArgs s_init) (defBody s_init) (defScope s_init) .none x_kV x_doc x_pm x_an x_cdv x_ct),x_osl⟩) (xcd:PySem.W.codeIn K x_cdv "NoText.__init__" = true) (xkp:PySem.W.keepIn K (.ref xi)=true) (xl_NoText:XC.Cl K c_NoText) (xl_SoundError:XC.Cl K c_SoundError) (xt_SoundError:PySem.W.typeIn K (.ref c_SoundError)=some (.type "type")) (xs_SoundError:PySem.W.mroIn K c_NoText (.ref c_SoundError)=some true) (xk_NoCall:PySem.W.kitOne K (.ref c_NoText) (.ref c_NoCall)=some false) (xk_NoKept:PySem.W.kitOne K (.ref c_NoText) (.ref c_NoKept)=some false) (xk_NoNumber:PySem.W.kitOne K (.ref c_NoText) (.ref c_NoNumber)=some false) (xk_NoSide:PySem.W.kitOne K (.ref c_NoText) (.ref c_NoSide)=some false) (xk_NoSource:PySem.W.kitOne K (.ref c_NoText) (.ref c_NoSource)=some false) (xk_NoText:PySem.W.kitOne K (.ref c_NoText) (.ref c_NoText)=some true) (xk_TooMany:PySem.W.kitOne K (.ref c_NoText) (.ref c_TooMany)=some false) (xb_ValueError:PySem.W.kitOne K (.ref c_NoText) (.type "ValueError")=some true) (g_LETTERS:PySem.W.nsIn K mainGlobals "LETTERS" = some (some (.str "abcdefghijklmnopqrstuvwxyz" t_LETTERS))) (g_MOST_LETTERS:PySem.W.nsIn K mainGlobals "MOST_LETTERS" = some (some (.int 8 t_MOST_LETTERS))) (g_MOST_MARKS:PySem.W.nsIn K mainGlobals "MOST_MARKS" = some (some (.int 4 t_MOST_MARKS))) (g_MOST_SOUNDS:PySem.W.nsIn K mainGlobals "MOST_SOUNDS" = some (some (.int 4 t_MOST_SOUNDS))) (a_is_name:FA K "is_name" s_is_name) (a_is_sound:FA K "is_sound" s_is_sound) (a_rises:FA K "rises" s_rises) (a_is_pair:FA K "is_pair" s_is_pair) (a_are_marks:FA K "are_marks" s_are_marks) (a_is_marked_sound:FA K "is_marked_sound" s_is_marked_sound) (a_sounds_of:FA K "sounds_of" s_sounds_of) (a_is_stock:FA K "is_stock" s_is_stock) (a_need_text:FA K "need_text" s_need_text) (a_show_stock:FA K "show_stock" s_show_stock) (a_read_stock:FA K "read_stock" s_read_stock) (a_law_mixed:FA K "_law_mixed" s_law_mixed) (a_law_pack:FA K "_law_pack" s_law_pack) (a_law_take:FA K "_law_take" s_law_take) (a_law_drawn_sounds:FA K "_law_drawn_sounds" s_law_drawn_sounds) (a_law_marks:FA K "_law_marks" s_law_marks) (a_law_stock:FA K "_law_stock" s_law_stock) (a_law_stock_text:FA K "_law_stock_text" s_law_stock_text) (a_law_sort:FA K "_law_sort" s_law_sort) (a_law_refused:FA K "_law_refused" s_law_refused) (a_law_odd_parts:FA K "_law_odd_parts" s_law_odd_parts) (a_law:FA K "law" s_law) :
  ∃fd:FuncData,(∀(s:Shared) (v:Value),BindsTo s fd ⟨[v],[]⟩ [("_law_script",v)])/\∀base:Heap,K.In base->base.Ns mainGlobals mg->FnOk P w K mg base CX0 7 fa fd ["_law_script"] (spP K 1 f_law):=
 a_law.law X G hfa (λs v=>.of_eq rfl) λbase F=>fn_law ⟨nbAt X G z_ValueError,
  nbAt X G z_all,
  nbAt X G z_bool,
  nbAt X G z_divmod,
  nbAt X G z_enumerate,
  nbAt X G z_isinstance,
  nbAt X G z_len,
  nbAt X G z_list,
  nbAt X G z_max,
  nbAt X G z_min,
  nbAt X G z_range,
  nbAt X G z_set,
  nbAt X G z_sorted,
  nbAt X G z_str,
  nbAt X G z_sum,
  nbAt X G z_tuple,
  isi_bool,
  isi_str,
  isi_tuple,
  XG.raises (xg_mk n_NoText xo xsa xno xu xin xty xfn xcd xkp xl_NoText) X G (fun|[_,_],_=>rfl) sc_init rfl,
  XG.part (xg_mk n_NoText xo xsa xno xu xin xty xfn xcd xkp xl_NoText),
  XG.below (xg_mk n_NoText xo xsa xno xu xin xty xfn xcd xkp xl_NoText) X G n_SoundError xl_SoundError xt_SoundError xs_SoundError,
  XG.isx (xg_mk n_NoText xo xsa xno xu xin xty xfn xcd xkp xl_NoText) X G n_NoCall xk_NoCall,
  XG.isx (xg_mk n_NoText xo xsa xno xu xin xty xfn xcd xkp xl_NoText) X G n_NoKept xk_NoKept,
  XG.isx (xg_mk n_NoText xo xsa xno xu xin xty xfn xcd xkp xl_NoText) X G n_NoNumber xk_NoNumber,
  XG.isx (xg_mk n_NoText xo xsa xno xu xin xty xfn xcd xkp xl_NoText) X G n_NoSide xk_NoSide,
  XG.isx (xg_mk n_NoText xo xsa xno xu xin xty xfn xcd xkp xl_NoText) X G n_NoSource xk_NoSource,
  XG.isx (xg_mk n_NoText xo xsa xno xu xin xty xfn xcd xkp xl_NoText) X G n_NoText xk_NoText,
  XG.isx (xg_mk n_NoText xo xsa xno xu xin xty xfn xcd xkp xl_NoText) X G n_TooMany xk_TooMany,
  XG.isB (xg_mk n_NoText xo xsa xno xu xin xty xfn xcd xkp xl_NoText) xb_ValueError,
  glb_str X G g_LETTERS (by decide +kernel) (by decide),
  glb_int X G g_MOST_LETTERS,
  glb_int X G g_MOST_MARKS,
  glb_int X G g_MOST_SOUNDS,
  a_is_name.at X G (fun|[_],_=>rfl),
  a_is_sound.at X G (fun|[_],_=>rfl),
  a_rises.at X G (fun|[_],_=>rfl),
  a_is_pair.at X G (fun|[_],_=>rfl),
  a_are_marks.at X G (fun|[_],_=>rfl),
  a_is_marked_sound.at X G (fun|[_],_=>rfl),
  a_sounds_of.at X G (fun|[_],_=>rfl),
  a_is_stock.at X G (fun|[_],_=>rfl),
  a_need_text.at X G (fun|[_],_=>rfl),
  a_show_stock.at X G (fun|[_],_=>rfl),
  a_read_stock.at X G (fun|[_],_=>rfl),
  a_law_mixed.at X G (fun|[_],_=>rfl),
  a_law_pack.at X G (fun|[_,_],_=>rfl),
  a_law_take.at X G (fun|[_,_],_=>rfl),
  a_law_drawn_sounds.at X G (fun|[_],_=>rfl),
  a_law_marks.at X G (fun|[_],_=>rfl),
  a_law_stock.at X G (fun|[_],_=>rfl),
  a_law_stock_text.at X G (fun|[_],_=>rfl),
  a_law_sort.at X G (fun|[_],_=>rfl),
  a_law_refused.at X G (fun|[_,_],_=>rfl),
  a_law_odd_parts.at X G (fun|[_],_=>rfl)⟩ F
end K72
theorem PySem.W.Fast.tw15328777471743541831:True:=trivial
theorem PySem.W.Fast.tw15766759430291221172:True:=trivial
theorem PySem.W.Fast.tw3550466801894398457:True:=trivial
theorem PySem.W.Fast.tw15198290562783532547:True:=trivial
theorem PySem.W.Fast.tw9271703857304055324:True:=trivial
theorem PySem.W.Fast.tw9425935473452447139:True:=trivial
theorem PySem.W.Fast.tw16674359810755984833:True:=trivial
theorem PySem.W.Fast.tw6437011608376225604:True:=trivial
theorem PySem.W.Fast.tw5086905140305698611:True:=trivial
theorem PySem.W.Fast.tw12499154369606154982:True:=trivial
theorem PySem.W.Fast.tw17815323324262130742:True:=trivial
theorem PySem.W.Fast.tw14599481046201491795:True:=trivial
theorem PySem.W.Fast.tw8561663971696815369:True:=trivial
theorem PySem.W.Fast.tw3542296478547302899:True:=trivial
theorem PySem.W.Fast.tw2397758900679951167:True:=trivial
theorem PySem.W.Fast.tw17837264718537588792:True:=trivial
theorem PySem.W.Fast.tw15655849610569244692:True:=trivial
theorem PySem.W.Fast.tw2228302990471705391:True:=trivial
theorem PySem.W.Fast.tw11344607908388709952:True:=trivial
theorem PySem.W.Fast.tw16115550933434289196:True:=trivial
theorem PySem.W.Fast.tw5387703670341434985:True:=trivial
theorem PySem.W.Fast.tw16176474444478606487:True:=trivial
theorem PySem.W.Fast.tw17576852651751362541:True:=trivial
theorem PySem.W.Fast.tw14160257194705868085:True:=trivial
theorem PySem.W.Fast.tw12517194733098962609:True:=trivial
theorem PySem.W.Fast.tw12042599885079414152:True:=trivial
theorem PySem.W.Fast.tw14179628979639948844:True:=trivial
theorem PySem.W.Fast.tw9083400971619395919:True:=trivial
theorem PySem.W.Fast.tw14187725262958443023:True:=trivial
theorem PySem.W.Fast.tw8165950572937049648:True:=trivial
theorem PySem.W.Fast.tw14185289889103571644:True:=trivial
theorem PySem.W.Fast.tw13198549608329932516:True:=trivial
theorem PySem.W.Fast.tw2090309274011967469:True:=trivial
open PySem PySem.W PyProof.Rows
set_option maxRecDepth 100000 in
set_option maxHeartbeats 0 in
theorem PySem.Challenge.cw_soundrules_k72_stocks_written_holds : PySem.Challenge.rw_soundrules_k72_stocks_written.Holds := by
 w_on;o_law;k_head;(case hw=>w_witness2)
 k_fill
 refine Ev.walkB (l:=PySem.Challenge.rw_soundrules_k72_stocks_written) (k:=7) (x:="_law_script") (f:=K72.f_law) rfl (by decide) rfl ⟨rfl,by decide,by decide⟩ (λw h Y=>PySem.W.kIn_of Y) K72.true_law ?F
 case F=>
  intro w mg fa h KX G hmg
  refine' K72.all_mk KX G hmg ?z_ValueError ?z_all ?z_bool ?z_divmod ?z_enumerate ?z_isinstance ?z_len ?z_list ?z_max ?z_min ?z_range ?z_set ?z_sorted ?z_str ?z_sum ?z_tuple ?isi_bool ?isi_str ?isi_tuple ?n_NoCall ?n_NoKept ?n_NoNumber ?n_NoSide ?n_NoSource ?n_NoText ?n_SoundError ?n_TooMany ?xo ?xsa ?xno ?xu ?xin ?xty ?xfn ?xcd ?xkp ?xl_NoText ?xl_SoundError ?xt_SoundError ?xs_SoundError ?xk_NoCall ?xk_NoKept ?xk_NoNumber ?xk_NoSide ?xk_NoSource ?xk_NoText ?xk_TooMany ?xb_ValueError ?g_LETTERS ?g_MOST_LETTERS ?g_MOST_MARKS ?g_MOST_SOUNDS ?a_is_name ?a_is_sound ?a_rises ?a_is_pair ?a_are_marks ?a_is_marked_sound ?a_sounds_of ?a_is_stock ?a_need_text ?a_show_stock ?a_read_stock ?a_law_mixed ?a_law_pack ?a_law_take ?a_law_drawn_sounds ?a_law_marks ?a_law_stock ?a_law_stock_text ?a_law_sort ?a_law_refused ?a_law_odd_parts ?a_law
  (case isi_bool=>(intro d;cases d with|clo=>(show PySem.W.kitOne _ (.type "NoneType") (.type "bool")=some false;kit_is)|non=>(show PySem.W.kitOne _ (.type "NoneType") (.type "bool")=some false;kit_is)|bl=>(show PySem.W.kitOne _ (.type "bool") (.type "bool")=some true;kit_is)|int=>(show PySem.W.kitOne _ (.type "int") (.type "bool")=some false;kit_is)|str=>(show PySem.W.kitOne _ (.type "str") (.type "bool")=some false;kit_is)|tup=>(show PySem.W.kitOne _ (.type "tuple") (.type "bool")=some false;kit_is)|lst=>(show PySem.W.kitOne _ (.type "list") (.type "bool")=some false;kit_is)|arr=>(show PySem.W.kitOne _ (.type "list") (.type "bool")=some false;kit_is)|dct=>(show PySem.W.kitOne _ (.type "dict") (.type "bool")=some false;kit_is)|dcn=>(show PySem.W.kitOne _ (.type "dict") (.type "bool")=some false;kit_is)))
  (case isi_str=>(intro d;cases d with|clo=>(show PySem.W.kitOne _ (.type "NoneType") (.type "str")=some false;kit_is)|non=>(show PySem.W.kitOne _ (.type "NoneType") (.type "str")=some false;kit_is)|bl=>(show PySem.W.kitOne _ (.type "bool") (.type "str")=some false;kit_is)|int=>(show PySem.W.kitOne _ (.type "int") (.type "str")=some false;kit_is)|str=>(show PySem.W.kitOne _ (.type "str") (.type "str")=some true;kit_is)|tup=>(show PySem.W.kitOne _ (.type "tuple") (.type "str")=some false;kit_is)|lst=>(show PySem.W.kitOne _ (.type "list") (.type "str")=some false;kit_is)|arr=>(show PySem.W.kitOne _ (.type "list") (.type "str")=some false;kit_is)|dct=>(show PySem.W.kitOne _ (.type "dict") (.type "str")=some false;kit_is)|dcn=>(show PySem.W.kitOne _ (.type "dict") (.type "str")=some false;kit_is)))
  (case isi_tuple=>(intro d;cases d with|clo=>(show PySem.W.kitOne _ (.type "NoneType") (.type "tuple")=some false;kit_is)|non=>(show PySem.W.kitOne _ (.type "NoneType") (.type "tuple")=some false;kit_is)|bl=>(show PySem.W.kitOne _ (.type "bool") (.type "tuple")=some false;kit_is)|int=>(show PySem.W.kitOne _ (.type "int") (.type "tuple")=some false;kit_is)|str=>(show PySem.W.kitOne _ (.type "str") (.type "tuple")=some false;kit_is)|tup=>(show PySem.W.kitOne _ (.type "tuple") (.type "tuple")=some true;kit_is)|lst=>(show PySem.W.kitOne _ (.type "list") (.type "tuple")=some false;kit_is)|arr=>(show PySem.W.kitOne _ (.type "list") (.type "tuple")=some false;kit_is)|dct=>(show PySem.W.kitOne _ (.type "dict") (.type "tuple")=some false;kit_is)|dcn=>(show PySem.W.kitOne _ (.type "dict") (.type "tuple")=some false;kit_is)))
  (case n_NoCall=>k_is)
  (case n_NoKept=>k_is)
  (case n_NoNumber=>k_is)
  (case n_NoSide=>k_is)
  (case n_NoSource=>k_is)
  (case n_NoText=>k_is)
  (case n_SoundError=>k_is)
  (case n_TooMany=>k_is)
  (case xo=>k_is)
  (case xsa=>k_is)
  (case xno=>k_is)
  (case xu=>k_exc)
  (case xin=>k_is)
  (case xty=>k_is)
  (case xfn=>k_is)
  (case xcd=>k_is)
  (case xkp=>k_is)
  (case xl_NoText=>(refine' XC.Cl.mk ?gaNoText ?gtNoText ?clNoText ?obNoText ?beNoText<;>k_is))
  (case xl_SoundError=>(refine' XC.Cl.mk ?gaSoundError ?gtSoundError ?clSoundError ?obSoundError ?beSoundError<;>k_is))
  (case xt_SoundError=>k_is)
  (case xs_SoundError=>k_is)
  (case xk_NoCall=>kit_is)
  (case xk_NoKept=>kit_is)
  (case xk_NoNumber=>kit_is)
  (case xk_NoSide=>kit_is)
  (case xk_NoSource=>kit_is)
  (case xk_NoText=>kit_is)
  (case xk_TooMany=>kit_is)
  (case xb_ValueError=>kit_is)
  (case g_LETTERS=>k_is)
  (case g_MOST_LETTERS=>k_is)
  (case g_MOST_MARKS=>k_is)
  (case g_MOST_SOUNDS=>k_is)
  all_goals first|k_is|(refine' Ev.FA.mk ?a ?l ?c ?k;(case a=>k_is);(case l=>k_is);(case c=>k_is);(case k=>k_is))|(refine' Ev.FC.mk ?a ?l ?c ?k ?lc ?v;(case a=>k_is);(case l=>k_is);(case c=>k_is);(case k=>k_is);(case lc=>k_is);(case v=>exact rfl))
