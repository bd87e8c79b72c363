import PyProof.Rows.All
import Wide.All
import OpenK.AllK
import Wide.FinOn
import Lean
import PyProof.EqAt
import PyProof.EqKinds
import PyProof.TupleCall
import PyProof.TupleKey
import PyProof.DictRoadsH
import PyProof.FactsAll.bool_1
import PyProof.AttrMissHeap
import KE.KDictOf
import PyProof.ListMulRoad
import PyProof.FactsAll.tuple_2
import KE.KSortTup
import PyProof.TupleOfSeq
import PyProof.Rows.SortRuns
import PyProof.ListRange
import PyProof.DictTable
import PyProof.Rows.TupTab
import PyProof.FactsAll.range_1
import KE.KDictList
import PyProof.SetRoads
import PyProof.DictTruth
import PyProof.RulesTry
import KE.KIsAll
import KE.KTryDeep
import PyProof.ExcArgsOwn
import PyProof.ExcAttrAll.ValueError
import PyProof.InstStoreFacts
import PyProof.ExcInit
import PyProof.SumAnyB
import PyProof.ToksMono
import PyProof.StrReplace2
import PySem.Challenge.RW_soundrules_k71_whole_papers_of_books
noncomputable section
set_option Elab.async false
set_option linter.all false
set_option maxRecDepth 100000
set_option maxHeartbeats 4000000
theorem Qqq:type_of% @PySem.Heap.get?_push_of_some:=@PySem.Heap.get?_push_of_some
theorem Qqx:type_of% @PySem.wpAny_bind:=@PySem.wpAny_bind
theorem Qqz:type_of% @List.length_map:=@List.length_map
theorem Qqj:type_of% @Nat.le_trans:=@Nat.le_trans
theorem Qqk:type_of% @PySem.wpAny_pure:=@PySem.wpAny_pure
theorem Qqv:type_of% @PySem.Heap.lt_size:=@PySem.Heap.lt_size
theorem Qqw:type_of% @Nat.le_refl:=@Nat.le_refl
theorem Qqy:type_of% @List.getElem?_eq_getElem:=@List.getElem?_eq_getElem
theorem Qq0:type_of% @List.mem_cons_of_mem:=@List.mem_cons_of_mem
theorem Qq1:type_of% @List.length_append:=@List.length_append
theorem Qq2:type_of% @PySem.Heap.get?_push_size:=@PySem.Heap.get?_push_size
theorem Qq3:type_of% @List.length_cons:=@List.length_cons
theorem Qq4:type_of% @List.map_cons:=@List.map_cons
theorem Qq5:type_of% @List.mem_cons_self:=@List.mem_cons_self
theorem Qq6:type_of% @List.mem_append_right:=@List.mem_append_right
theorem Qq7:type_of% @List.size_toArray:=@List.size_toArray
theorem Qq8:type_of% @List.getD_eq_getElem?_getD:=@List.getD_eq_getElem?_getD
theorem Qq9:type_of% @List.mem_singleton:=@List.mem_singleton
theorem Qwq:type_of% @List.mem_cons:=@List.mem_cons
theorem Qwx:type_of% @List.getElem?_set_ne:=@List.getElem?_set_ne
theorem Qwz:type_of% @List.getElem?_eq_some_iff:=@List.getElem?_eq_some_iff
theorem Qwj:type_of% @Bool.false_ne_true:=@Bool.false_ne_true
theorem Qwk:type_of% @List.mem_map:=@List.mem_map
theorem Qwv:type_of% @Nat.ne_of_lt:=@Nat.ne_of_lt
theorem Qww:type_of% @Option.map_eq_some_iff:=@Option.map_eq_some_iff
theorem Qwy:type_of% @Nat.lt_of_lt_of_le:=@Nat.lt_of_lt_of_le
theorem Qw0:type_of% @List.all_eq_true:=@List.all_eq_true
theorem Qw1:type_of% @List.getElem?_map:=@List.getElem?_map
theorem Qw2:type_of% @decide_eq_false:=@decide_eq_false
theorem Qw3:type_of% @PySem.wpAny_mono:=@PySem.wpAny_mono
theorem Qw4:type_of% @List.length_take:=@List.length_take
theorem Qw5:type_of% @List.mem_append:=@List.mem_append
theorem Qw6:type_of% @Option.some.inj:=@Option.some.inj
theorem Qw7:type_of% @List.mem_range:=@List.mem_range
theorem Qw8:type_of% @decide_eq_true:=@decide_eq_true
theorem Qw9:type_of% @List.getElem_mem:=@List.getElem_mem
theorem Qxq:type_of% @Option.isSome_iff_exists:=@Option.isSome_iff_exists
theorem Qxx:type_of% @Nat.lt_of_le_of_lt:=@Nat.lt_of_le_of_lt
theorem Qxz:type_of% @List.length_replicate:=@List.length_replicate
theorem Qxj:type_of% @List.map_map:=@List.map_map
theorem Qxk:type_of% @List.map_append:=@List.map_append
theorem Qxv:type_of% @PyProof.Rows.callWith_type1:=@PyProof.Rows.callWith_type1
theorem Qxw:type_of% @Nat.zero_le:=@Nat.zero_le
theorem Qxy:type_of% @Option.bind_eq_some_iff:=@Option.bind_eq_some_iff
theorem Qx0:type_of% @List.drop_eq_getElem_cons:=@List.drop_eq_getElem_cons
theorem Qx1:type_of% @PySem.wpAny_truthy_bool:=@PySem.wpAny_truthy_bool
theorem Qx2:type_of% @List.getElem?_set_self:=@List.getElem?_set_self
theorem Qx3:type_of% @Nat.lt_irrefl:=@Nat.lt_irrefl
theorem Qx4:type_of% @List.length_drop:=@List.length_drop
theorem Qx5:type_of% @List.append_nil:=@List.append_nil
theorem Qx6:type_of% @PySem.Heap.size_push:=@PySem.Heap.size_push
theorem Qx7:type_of% @congrArg:=@congrArg
theorem Qx8:type_of% @List.eq_nil_of_length_eq_zero:=@List.eq_nil_of_length_eq_zero
theorem Qx9:type_of% @of_decide_eq_true:=@of_decide_eq_true
theorem Qzq:type_of% @PySem.wpAny_callSpecial?_slot:=@PySem.wpAny_callSpecial?_slot
theorem Qzx:type_of% @PySem.wpAny_field:=@PySem.wpAny_field
theorem Qzz:type_of% @Nat.ne_of_gt:=@Nat.ne_of_gt
theorem Qzj:type_of% @PySem.wpAny_call_entry:=@PySem.wpAny_call_entry
theorem Qzk:type_of% @beq_eq_false_iff_ne:=@beq_eq_false_iff_ne
theorem Qzv:type_of% @PyProof.Rows.slot_tuple_getitem:=@PyProof.Rows.slot_tuple_getitem
theorem Qzw:type_of% @PySem.wpAny_newObj_type:=@PySem.wpAny_newObj_type
theorem Qzy:type_of% @Int.toNat_natCast:=@Int.toNat_natCast
theorem Qz0:type_of% @PySem.wpAny_standAt:=@PySem.wpAny_standAt
theorem Qz1:type_of% @List.length_singleton:=@List.length_singleton
theorem Qz2:type_of% @List.nodup_cons:=@List.nodup_cons
theorem Qz3:type_of% @List.length_set:=@List.length_set
theorem Qz4:type_of% @Nat.le_of_ble_eq_true:=@Nat.le_of_ble_eq_true
theorem Qz5:type_of% @Bool.eq_iff_iff:=@Bool.eq_iff_iff
theorem Qz6:type_of% @List.pairwise_cons:=@List.pairwise_cons
theorem Qz7:type_of% @PySem.wpAny_seqItems:=@PySem.wpAny_seqItems
theorem Qz8:type_of% @Array.length_toList:=@Array.length_toList
theorem Qz9:type_of% @List.length_zip:=@List.length_zip
theorem Qjq:type_of% @PySem.wpAny_holding:=@PySem.wpAny_holding
theorem Qjx:type_of% @PySem.wpAny_setField_rec:=@PySem.wpAny_setField_rec
theorem Qjz:type_of% @List.getElem?_eq_none:=@List.getElem?_eq_none
theorem Qjj:type_of% @List.getElem?_append_left:=@List.getElem?_append_left
theorem Qjk:type_of% @Bool.and_eq_true_iff:=@Bool.and_eq_true_iff
theorem Qjv:type_of% @Option.some.injEq:=@Option.some.injEq
theorem Qjw:type_of% @List.foldl_cons:=@List.foldl_cons
theorem Qjy:type_of% @PySem.wpAny_pyIter_list:=@PySem.wpAny_pyIter_list
theorem Qj0:type_of% @PySem.mem_of_lookup:=@PySem.mem_of_lookup
theorem Qj1:type_of% @List.filter_eq_self:=@List.filter_eq_self
theorem Qj2:type_of% @PySem.W.mg_of:=@PySem.W.mg_of
theorem Qj3:type_of% @List.lookup_cons:=@List.lookup_cons
theorem Qj4:type_of% @Bool.and_eq_true:=@Bool.and_eq_true
theorem Qj5:type_of% @List.find?_cons:=@List.find?_cons
theorem Qj6:type_of% @List.of_mem_zip:=@List.of_mem_zip
theorem Qj7:type_of% @Option.map_some:=@Option.map_some
theorem Qj8:type_of% @Nat.le_of_succ_le:=@Nat.le_of_succ_le
theorem Qj9:type_of% @List.forIn_nil:=@List.forIn_nil
theorem Qkq:type_of% @Nat.le_of_lt:=@Nat.le_of_lt
abbrev qi(x:PySem.Str):Prop:=(x == ("__debug__" : PySem.Str))=false
abbrev Am(x:PySem.Str):Prop:=(x == ("__classdict__" : PySem.Str))=false
open PySem PySem.Spec PyProof.Rows in
abbrev Qd(e:Expr)(E:PySem.Env):Prop:=starEach [e] E=(false,eval e E)::starEach [] E
namespace L2
open PySem PySem.Spec PyProof.Rows
inductive NK where
 | num (i:Int)
 | txt (x:Str)
 | tup (xs:List NK)
noncomputable instance:DecidableEq NK:=λ_ _=>Classical.propDecidable _
mutual
noncomputable def P0(h:Heap):NK->Value->Prop
 | .num i,v=>(∃t,v = .int i t)\/∃b:Bool,v = .bool b/\i=if b then 1 else 0
 | .txt x,v=>∃t,v = .str x t
 | .tup ks,v=>∃a o items n,v = .ref a/\h.get? a=some o/\o.cls = .type "tuple"/\o.data = .seq items n/\tR h ks items.toList
noncomputable def tR(h:Heap):List NK->List Value->Prop
 | [],vs=>vs=[]
 | k::ks,vs=>∃v r,vs=v::r/\P0 h k v/\tR h ks r
end
mutual
noncomputable def NK.dep:NK->Nat
 | .num _=>0
 | .txt _=>0
 | .tup ks=>1+NK.K3 ks
noncomputable def NK.K3:List NK->Nat
 | []=>0
 | k::ks=>max (NK.dep k) (NK.K3 ks)
end
mutual
noncomputable def NK.draws:NK->Nat
 | .num _=>1
 | .txt _=>1
 | .tup ks=>NK.zA ks+1
noncomputable def NK.zA:List NK->Nat
 | []=>0
 | k::ks=>NK.draws k+NK.zA ks
end
section
variable(P:Program)(w:World)
mutual
noncomputable def NK.hash:NK->Int
 | .num i=>hashInt i
 | .txt x=>(strKind P w).hash x
 | .tup ks=>reduceHash (Builtin.Tuple.tupleHashOf (NK.hashes ks))
noncomputable def NK.hashes:List NK->List Int
 | []=>[]
 | k::ks=>NK.hash k::NK.hashes ks
end
end
theorem tR.length:∀{ks} {vs},tR h ks vs->vs.length=ks.length
 | [],_,e=>by cases e;rfl
 | k::ks,_,e=>by obtain⟨v,r,rfl,_,q⟩:=e;rw[Qq3,Qq3,q.length]
theorem tR.get:∀{ks} {vs} {j:Nat} {v},tR h ks vs->vs[j]? = some v->∃k,ks[j]? = some k/\P0 h k v
 | [],_,_,_,e,g=>by cases e;simp at g
 | k::ks,_,j,v,e,g=>by
  obtain⟨u,r,rfl,h1,h2⟩:=e;cases j with
  | zero=>simp_all
  | succ j=>obtain⟨k',e1,e2⟩:=tR.get h2 (j:=j) (by simpa using g);exact⟨k',by simpa using e1,e2⟩
theorem NK.Er:∀{ks} {j:Nat} {k},ks[j]? = some k->k.dep<=NK.K3 ks
 | [],_,_,e=>by simp at e
 | c::ks,j,k,e=>by
  unfold NK.K3;cases j with
  | zero=>simp at e;subst e;exact Nat.le_max_left _ _
  | succ j=>exact Qqj (NK.Er (j:=j) (by simpa using e)) (Nat.le_max_right _ _)
mutual
theorem P0.inj{h:Heap}:∀{x y:NK} {v:Value},P0 h x v->P0 h y v->x=y
 | .num i,.num j,v,a,b=>by
  rcases a with ⟨t,rfl⟩|⟨c,rfl,rfl⟩
  ·rcases b with ⟨t',e⟩|⟨c,e,_⟩
   all_goals simp_all
  ·rcases b with ⟨t',e⟩|⟨c,e,rfl⟩
   all_goals simp_all
 | .num i,.txt x,v,a,b=>by obtain⟨t,rfl⟩:=b;rcases a with ⟨t',e⟩|⟨c,e,_⟩<;>cases e
 | .num i,.tup ks,v,a,b=>by obtain⟨_,_,_,_,rfl,_⟩:=b;rcases a with ⟨t',e⟩|⟨c,e,_⟩<;>cases e
 | .txt x,.num i,v,a,b=>by obtain⟨t,rfl⟩:=a;rcases b with ⟨t',e⟩|⟨c,e,_⟩<;>cases e
 | .txt x,.txt y,v,a,b=>by obtain⟨t,rfl⟩:=a;obtain⟨t',e⟩:=b;cases e;rfl
 | .txt x,.tup ks,v,a,b=>by obtain⟨t,rfl⟩:=a;obtain⟨_,_,_,_,e,_⟩:=b;cases e
 | .tup ks,.num i,v,a,b=>by obtain⟨_,_,_,_,rfl,_⟩:=a;rcases b with ⟨t',e⟩|⟨c,e,_⟩<;>cases e
 | .tup ks,.txt y,v,a,b=>by obtain⟨_,_,_,_,rfl,_⟩:=a;obtain⟨t',e⟩:=b;cases e
 | .tup ks,.tup ls,v,a,b=>by
  obtain⟨p,o,items,n,rfl,h1,_,h3,h4⟩:=a;obtain⟨p',o',items',n',e,h1',_,h3',h4'⟩:=b;cases e;rw[h1] at h1';cases h1';rw[h3] at h3';cases h3';rw[tR.inj h4 h4']
theorem tR.inj{h:Heap}:∀{x y:List NK} {v:List Value},tR h x v->tR h y v->x=y
 | [],[],_,_,_=>rfl
 | [],k::ks,_,a,b=>by cases a;obtain⟨_,_,e,_⟩:=b;cases e
 | k::ks,[],_,a,b=>by cases b;obtain⟨_,_,e,_⟩:=a;cases e
 | k::ks,l::ls,_,a,b=>by
  obtain⟨v,r,rfl,h1,h2⟩:=a;obtain⟨v',r',e,h1',h2'⟩:=b;cases e;rw[P0.inj h1 h1',tR.inj h2 h2']
end
mutual
theorem P0.keeps{h h':Heap}{d:Addr}{o:Obj}{es ep}(ho:h.get? d=some o)(hd:o.data = .dict es ep)(hs:Heap.SameBut d h h'):∀{k:NK} {v:Value},P0 h k v->P0 h' k v
 | .num _,_,e=>e
 | .txt _,_,e=>e
 | .tup ks,_,e=>by
  obtain⟨a,o',items,n,rfl,h1,h2,h3,h4⟩:=e;have hne:a≠d:=by grind
  exact⟨a,o',items,n,rfl,(hs.2 a hne).trans h1,h2,h3,tR.keeps ho hd hs h4⟩
theorem tR.keeps{h h':Heap}{d:Addr}{o:Obj}{es ep}(ho:h.get? d=some o)(hd:o.data = .dict es ep)(hs:Heap.SameBut d h h'):∀{ks:List NK} {vs:List Value},tR h ks vs->tR h' ks vs
 | [],_,e=>e
 | k::ks,_,e=>by obtain⟨v,r,rfl,h1,h2⟩:=e;exact⟨v,r,rfl,P0.keeps ho hd hs h1,tR.keeps ho hd hs h2⟩
end
section
variable{P:Program}{w:World}
theorem W0(h:Q (hashInt (if b then 1 else 0)) { s with toks:=s.toks+1 }):wpAny (model P w) A (pyHash (.bool b)) Q E s:=by
 have hT:s.TypeIs (.bool b) "bool":=rfl;have hr:=rawHash_range (if b then 1 else 0);unfold pyHash;have hv:[Value.bool b].any Value.onHeap=false:=rfl;refine Qqx ?_;rw[cRoomFor,if_neg (by simp_all)];refine Qqk ?_;refine Qqx (wpAny_specialOf hT F.slot_bool_hash.lookup ?_);show wpAny _ _ (if (some (Value.builtin "int.__hash__") == some Value.none)=true then _ else _) Q E s;rw[if_neg (by simp_all)];refine Qqx (wpAny_specialOf hT F.slot_bool_hash.lookup ?_);show wpAny _ _ (callSpecialIfBoundUnlessNone? (.bool b) "__hash__" _ >>= _) Q E s;refine Qqx (wpAny_callSpecialIfBoundUnlessNone?_slot hT F.slot_bool_hash
  (Qzj F.slot_bool_hash hT entry_int_hash
   (show wpAny _ _ (do ret (<-mkInt (rawHash (if b then 1 else 0)))) _ _ s from wpAny_ret_mkInt ?_) (args_int_hash _)))
 show wpAny _ _ (if (decide (-(2:Int)^63<=rawHash (if b then 1 else 0))&&decide (rawHash (if b then 1 else 0)<2^63))=true then _ else _) Q E _;rw[if_pos (by simp_all)];exact Qqk h
mutual
theorem aan:∀(k:NK) (v:Value) (A:Around) (E:Value->Shared->Prop) (s:Shared) (Q:Int->Shared->Prop),A.units+k.dep<cLine->P0 s.heap k v->Q (k.hash P w) { s with toks:=s.toks+k.draws }->wpAny (model P w) A (pyHash v) Q E s
 | .num i,v,A,E,s,Q,hu,e,h=>by
  rcases e with ⟨t,rfl⟩|⟨b,rfl,rfl⟩
  ·exact wpAny_pyHash_int h
  ·exact W0 h
 | .txt x,v,A,E,s,Q,hu,e,h=>by
  obtain⟨t,rfl⟩:=e;exact wpAny_pyHash_str h
 | .tup ks,v,A,E,s,Q,hu,e,h=>by
  obtain⟨a,o,items,n,rfl,ho,hc,hd,hi⟩:=e;have hT:s.TypeIs (.ref a) "tuple":=⟨o,ho,hc⟩;have ai9:(NK.tup ks).dep=1+NK.K3 ks:=by rw[NK.dep]
  rw[ai9] at hu;have hu0:A.units<cLine:=by omega
  have hin:A.in1.units+NK.K3 ks<cLine:=by grind
  unfold pyHash
  first|unfold pyHashByItsType|skip
  first|refine Qqx (wpAny_cRoomFor_or (.inr hu0) ?_)|skip
  refine Qqx (wpAny_specialOf hT F.slot_tuple_hash.lookup ?_);show wpAny _ _ (if (some (Value.builtin "tuple.__hash__") == some Value.none)=true then _ else _) Q E s;rw[if_neg (by simp_all)];refine Qqx (wpAny_specialOf hT F.slot_tuple_hash.lookup ?_);show wpAny _ _ (callSpecialIfBoundUnlessNone? (.ref a) "__hash__" _ >>= _) Q E s;refine Qqx (wpAny_callSpecialIfBoundUnlessNone?_slot hT F.slot_tuple_hash (Qzj F.slot_tuple_hash hT F.entry_tuple_hash ?_ (F.args_tuple_hash_1 _)));show wpAny _ _ (Builtin.Tuple.tupleItemsOf (.ref a) >>= _) _ _ s;refine Qqx (wpAny_tupleItemsOf ho hd ?_);refine Qqx ?_;rw[<-Array.forIn_toList];refine Nt ks items.toList A.in1 _ s _ _ #[] hin hi (λx b s' R q=>?_) ?_
  ·first
    | exact Qqx (Qw3 q (λz s2 hz=>Qqk hz) λ_ _ z=>z)
    | exact Qqx (Qw3 q (λz s2 hz=>Qqx (Qqk (Qqk hz))) λ_ _ z=>z)
  ·show wpAny _ _ (retInt (Builtin.Tuple.tupleHashOf ((#[]:Array Int).toList++NK.hashes P w ks))) _ _ _;have hh:(NK.tup ks).hash P w=reduceHash (Builtin.Tuple.tupleHashOf (NK.hashes P w ks)):=by rfl
   have hdr:(NK.tup ks).draws=NK.zA ks+1:=by rfl
   rw[hh,hdr] at h;rw[show(#[]:Array Int).toList++NK.hashes P w ks=NK.hashes P w ks from rfl];refine wpAny_ret_mkInt ?_;show wpAny _ _ (if (decide (-(2:Int)^63<=Builtin.Tuple.tupleHashOf (NK.hashes P w ks))&&decide (Builtin.Tuple.tupleHashOf (NK.hashes P w ks)<2^63))=true then _ else _) Q E _;unfold reduceHash at h;by_cases hr:(decide (-(2:Int)^63<=Builtin.Tuple.tupleHashOf (NK.hashes P w ks))&&decide (Builtin.Tuple.tupleHashOf (NK.hashes P w ks)<2^63))=true
   ·rw[if_pos hr];rw[if_pos hr] at h;exact Qqk (by assumption)
   ·rw[if_neg hr];rw[if_neg hr] at h;exact Qqx (wpAny_rule (Qqk (by assumption)))
theorem Nt:∀(ks:List NK) (vs:List Value) (A:Around) (E:Value->Shared->Prop) (s:Shared) (body:Value->Array Int->Sem (ForInStep (Array Int))) (Q:Array Int->Shared->Prop) (acc:Array Int),A.units+NK.K3 ks<cLine->tR s.heap ks vs->
  (∀x b s' (R:ForInStep (Array Int)->Shared->Prop),wpAny (model P w) A (pyHash x) (λz s2=>R (.yield (b.push z)) s2) E s'->wpAny (model P w) A (body x b) R E s')->
  Q (acc.toList++NK.hashes P w ks).toArray { s with toks:=s.toks+NK.zA ks }->wpAny (model P w) A (forIn vs acc body) Q E s
 | [],vs,A,E,s,body,Q,acc,hu,e,hb,q=>by
  cases e;rw[Qj9];refine Qqk ?_;have:(acc.toList++NK.hashes P w []).toArray=acc:=by rw[NK.hashes];simp
  rw[this] at q
  assumption
 | k::ks,vs,A,E,s,body,Q,acc,hu,e,hb,q=>by
  obtain⟨v,r,rfl,h1,h2⟩:=e;have ai9:NK.K3 (k::ks)=max k.dep (NK.K3 ks):=by rfl
  rw[ai9] at hu;rw[List.forIn_cons];refine Qqx (hb v acc s _ (aan k v A E s _ (by omega) h1 ?_));refine Nt ks r A E { s with toks:=s.toks+k.draws } body Q (acc.push (k.hash P w)) (by omega) h2 hb ?_;have e1:NK.hashes P w (k::ks)=k.hash P w::NK.hashes P w ks:=by rfl
  have e2:NK.zA (k::ks)=k.draws+NK.zA ks:=by rfl
  grind
end
theorem al4:∀n x y u v A s,x.dep<=n->A.units+n+1<cLine->P0 s.heap x u->P0 s.heap y v->SeqAt.EqAt A s u v (decide (x=y))
 | n,.num i,.num j,u,v,A,s,hn,hu,hx,hy=>by
  have e:decide (NK.num i=NK.num j)=(i == j):=by grind
  rw[e];rcases hx with ⟨t,rfl⟩|⟨b,rfl,rfl⟩
  ·rcases hy with ⟨t',rfl⟩|⟨c,rfl,rfl⟩
   ·exact SeqAt.EqAt.int_int i t j t'
   ·exact SeqAt.EqAt.int_bool i t c
  ·rcases hy with ⟨t',rfl⟩|⟨c,rfl,rfl⟩
   ·exact SeqAt.EqAt.bool_int b j t'
   ·have:((if b then (1:Int) else 0) == (if c then 1 else 0))=(b == c):=by grind
    rw[this];exact SeqAt.EqAt.bool_bool b c
 | n,.num i,.txt z,u,v,A,s,hn,hu,hx,hy=>by
  rw[Qw2 (λe=>by cases e)];obtain⟨t,rfl⟩:=hy;rcases hx with ⟨t',rfl⟩|⟨b,rfl,rfl⟩
  ·exact SeqAt.EqAt.int_str i t' _ t
  ·exact SeqAt.EqAt.bool_str b _ t
 | n,.num i,.tup ks,u,v,A,s,hn,hu,hx,hy=>by
  rw[Qw2 (λe=>by cases e)];obtain⟨a,o,items,m,rfl,h1,h2,h3,_⟩:=hy;have p:s.heap.IsTuple a items:=⟨o,h1,h2,m,h3⟩;rcases hx with ⟨t',rfl⟩|⟨b,rfl,rfl⟩
  ·exact SeqAt.EqAt.int_tuple i t' p (by omega)
  ·exact SeqAt.EqAt.bool_tuple b p (by omega)
 | n,.txt z,.num i,u,v,A,s,hn,hu,hx,hy=>by
  rw[Qw2 (λe=>by cases e)];obtain⟨t,rfl⟩:=hx;rcases hy with ⟨t',rfl⟩|⟨b,rfl,rfl⟩
  ·exact SeqAt.EqAt.str_int _ t i t'
  ·exact SeqAt.EqAt.str_bool _ t b
 | n,.txt z,.txt z',u,v,A,s,hn,hu,hx,hy=>by
  have e:decide (NK.txt z=NK.txt z')=(z == z'):=by grind
  rw[e];obtain⟨t,rfl⟩:=hx;obtain⟨t',rfl⟩:=hy;exact SeqAt.EqAt.str_str _ t _ t'
 | n,.txt z,.tup ks,u,v,A,s,hn,hu,hx,hy=>by
  rw[Qw2 (λe=>by cases e)];obtain⟨t,rfl⟩:=hx;obtain⟨a,o,items,m,rfl,h1,h2,h3,_⟩:=hy;have p:s.heap.IsTuple a items:=⟨o,h1,h2,m,h3⟩;exact SeqAt.EqAt.str_tuple _ t p (by omega)
 | n,.tup ks,.num i,u,v,A,s,hn,hu,hx,hy=>by
  rw[Qw2 (λe=>by cases e)];obtain⟨a,o,items,m,rfl,h1,h2,h3,_⟩:=hx;have p:s.heap.IsTuple a items:=⟨o,h1,h2,m,h3⟩;rcases hy with ⟨t',rfl⟩|⟨b,rfl,rfl⟩
  ·exact SeqAt.EqAt.tuple_int i t' p (by omega)
  ·exact SeqAt.EqAt.tuple_bool b p (by omega)
 | n,.tup ks,.txt z,u,v,A,s,hn,hu,hx,hy=>by
  rw[Qw2 (λe=>by cases e)];obtain⟨a,o,items,m,rfl,h1,h2,h3,_⟩:=hx;have p:s.heap.IsTuple a items:=⟨o,h1,h2,m,h3⟩;obtain⟨t,rfl⟩:=hy;exact SeqAt.EqAt.tuple_str _ t p (by omega)
 | 0,.tup ks,.tup ls,u,v,A,s,hn,hu,hx,hy=>by
  rw[NK.dep] at hn;omega
 | n+1,.tup ks,.tup ls,u,v,A,s,hn,hu,hx,hy=>by
  have hx0:=hx;have hy0:=hy;obtain⟨a,o,items,m,rfl,h1,h2,h3,h4⟩:=hx;obtain⟨a',o',items',m',rfl,h1',h2',h3',h4'⟩:=hy;have p:s.heap.IsTuple a items:=⟨o,h1,h2,m,h3⟩;have p':s.heap.IsTuple a' items':=⟨o',h1',h2',m',h3'⟩;rw[NK.dep] at hn;by_cases haa:a=a'
  ·subst haa;rw[Qw8 (P0.inj hx0 hy0)];exact SeqAt.EqAt.same _
  ·refine SeqAt.EqAt.of_refs haa ?_;have l1:=h4.length;have l2:=h4'.length;rw[Qz8] at l1 l2;have hu0:A.units<cLine:=by omega
   have:=SeqAt.RcAt.tuples (e:=λj=>decide (ks[j]? = ls[j]?)) p p' hu0 λj q1 q2=>?_
   ·have e:((List.range (min items.size items'.size)).all (λj=>decide (ks[j]? = ls[j]?))&&items.size == items'.size)=decide (NK.tup ks=NK.tup ls):=by
     rw[Qz5];simp only[Qj4,Qw0,Qw7,decide_eq_true_eq,beq_iff_eq,NK.tup.injEq];constructor
     ·rintro⟨g1,g2⟩;apply List.ext_getElem?
      grind
     simp_all
    simp_all
   ·have g1:items.toList[j]? = some items[j]:=by simp
    have g2:items'.toList[j]? = some items'[j]:=by simp
    obtain⟨k,r1,r2⟩:=h4.get g1;obtain⟨l,r3,r4⟩:=h4'.get g2;have e:decide (ks[j]? = ls[j]?)=decide (k=l):=by simp_all
    rw[e];exact al4 n k l _ _ A.in1 s (Qqj (NK.Er r1) (by omega)) (by grind) r2 r4
theorem Uh:∀n k v A E s Q,k.dep<=n->P0 s.heap k v->Q true s->wpAny (model P w) A (eqIsQuiet n v) Q E s
 | n,.num i,v,A,E,s,Q,hn,e,h=>by
  rcases e with ⟨t,rfl⟩|⟨b,rfl,rfl⟩
  ·rw[eqIsQuiet_byValue n rfl];exact Qqk h
  ·rw[eqIsQuiet_byValue n rfl];exact Qqk h
 | n,.txt x,v,A,E,s,Q,hn,e,h=>by
  obtain⟨t,rfl⟩:=e;rw[eqIsQuiet_byValue n rfl];exact Qqk h
 | 0,.tup ks,v,A,E,s,Q,hn,e,h=>by
  rw[NK.dep] at hn;omega
 | n+1,.tup ks,v,A,E,s,Q,hn,e,h=>by
  obtain⟨a,o,items,m,rfl,ho,hc,hd,hi⟩:=e;rw[NK.dep] at hn;have hT:s.TypeIs (.ref a) "tuple":=⟨o,ho,hc⟩;unfold eqIsQuiet;refine Qqx (wpAny_specialOf hT F.slot_tuple_eq.lookup ?_);show wpAny _ _ (isInstance (.ref a) (.type "tuple") >>= _) _ _ s;refine Qqx (wpAny_isInstance hT isSubtype_tuple_tuple ?_);simp only[Bool.not_true,Bool.false_eq_true,if_false];refine Qqx (Qz7 ho hd ?_);refine Qqx ?_;show wpAny _ _ (forIn items _ _) _ _ s;rw[<-Array.forIn_toList];refine wpAny_forIn_list _ (λrest r s'=>r.1=none/\s'=s/\∀v∈rest,∃k:NK,k.dep<=n/\P0 s.heap k v) _ ?_ ?_ _ _ ⟨rfl,rfl,λv hv=>?_⟩
  ·rintro v rest r s' ⟨hr,rfl,hall⟩;obtain⟨k,hk1,hk2⟩:=hall v Qq5;refine Qqx (Uh n k v A E _ _ hk1 hk2 ?_);simp only[Bool.not_true,Bool.false_eq_true,if_false];exact Qqk ⟨rfl,rfl,λu hu'=>hall u (Qq0 _ hu')⟩
  ·rintro⟨r1,r2⟩ s' ⟨hr,rfl,_⟩;simp only at hr;subst hr;exact Qqk h
  ·obtain⟨j,hj,rfl⟩:=List.mem_iff_getElem.mp hv;obtain⟨k,r1,r2⟩:=hi.get (Qqy hj);exact⟨k,Qqj (NK.Er r1) (by omega),r2⟩
noncomputable def aaj(P:Program)(w:World):HeapKind P w NK where
 is:=λh k a=>P0 h k (.ref a)/\k.dep<=8
 hash:=NK.hash P w
 draws:=NK.draws
 room:=λA=>A.units+10<cLine
 inj:=λhx hy=>hx.1.inj hy.1
 keeps:=λx ho hd hs=>⟨x.1.keeps ho hd hs,x.2⟩
 pyHash:=λhu hk h=>aan _ _ _ _ _ _ (by omega) hk.1 h
 eqBool:=λhu hx hy h=>al4 8 _ _ _ _ _ _ hx.2 (by omega) hx.1 hy.1 P w _ _ h
 quiet:=λhk h=>Uh 8 _ _ _ _ _ _ hk.2 hk.1 h
end
abbrev Key:=Sum Int Str
noncomputable def Dl:Key->Value->Bool
 | .inl k,v=>Value.isInt k v
 | .inr x,v=>Value.isStrOf x v
noncomputable def aoY(w:World):Key->Int
 | .inl k=>hashInt k
 | .inr x=>hashStr w x
theorem gM:∀{k} {v},Dl k v=true->(∃i t,k=Sum.inl i/\v=Value.int i t)\/(∃x t,k=Sum.inr x/\v=Value.str x t)
 | .inl i,v,h=>by
  obtain⟨t,e⟩:=Value.isInt_shape (k:=i) (v:=v) h;exact .inl ⟨i,t,rfl,e⟩
 | .inr x,v,h=>by
  obtain⟨t,e⟩:=Value.isStrOf_shape (x:=x) (v:=v) h;exact .inr ⟨x,t,rfl,e⟩
theorem WQ(i)(t):Dl (.inl i) (.int i t)=true:=by simp[Dl,Value.isInt]
theorem WN(x)(t):Dl (.inr x) (.str x t)=true:=by simp[Dl,Value.isStrOf]
theorem aid(a b):decide ((Sum.inl a:Key)=Sum.inl b)=(a == b):=by
 by_cases e:a=b
 ·subst e;simp
 ·have h:¬(Sum.inl a:Key)=Sum.inl b:=λq=>e (Sum.inl.inj q);rw[Qw2 h];exact(Qzk.mpr e).symm
theorem aia(a b):decide ((Sum.inr a:Key)=Sum.inr b)=decide (a=b):=by
 by_cases e:a=b
 ·subst e;simp
 ·have h:¬(Sum.inr a:Key)=Sum.inr b:=λq=>e (Sum.inr.inj q);rw[Qw2 h,Qw2 e]
theorem aic(a)(b):decide ((Sum.inl a:Key)=Sum.inr b)=false:=Qw2 (λq=>nomatch q)
theorem aib(a)(b):decide ((Sum.inr a:Key)=Sum.inl b)=false:=Qw2 (λq=>nomatch q)
def cI(prog:Program)(w:World):PySem.KeyKind prog w Key where
 is:=Dl
 hash:=aoY w
 inj:=λv a b ha hb=>by
  rcases gM ha with ⟨i,t,rfl,rfl⟩|⟨x,t,rfl,rfl⟩
  ·rcases gM hb with ⟨j,u,rfl,e⟩|⟨y,u,rfl,e⟩
   ·injection e with e1 _;rw[e1]
   ·exact nomatch e
  ·rcases gM hb with ⟨j,u,rfl,e⟩|⟨y,u,rfl,e⟩
   ·exact nomatch e
   ·injection e with e1 _;rw[e1]
 byValue:=λk v h=>by
  rcases gM h with ⟨i,t,rfl,rfl⟩|⟨x,t,rfl,rfl⟩<;>rfl
 pyHash:=λhv h=>by
  rcases gM hv with ⟨i,t,rfl,rfl⟩|⟨x,t,rfl,rfl⟩
  ·exact wpAny_pyHash_int h
  ·exact wpAny_pyHash_str h
 eqBool:=λhu hv h=>by
  rcases gM hu with ⟨i,t,rfl,rfl⟩|⟨x,t,rfl,rfl⟩
  ·rcases gM hv with ⟨j,u,rfl,rfl⟩|⟨y,u,rfl,rfl⟩
   ·rw[aid] at h;exact wpAny_eqBool_int h
   ·rw[aic] at h;exact SeqAt.EqAt.int_str i t y u _ _ _ _ h
  ·rcases gM hv with ⟨j,u,rfl,rfl⟩|⟨y,u,rfl,rfl⟩
   ·rw[aib] at h;exact SeqAt.EqAt.str_int x t j u _ _ _ _ h
   ·rw[aia] at h;exact wpAny_eqBool_str h
 «strs»:=λk x t v h=>by
  rcases gM h with ⟨i,u,rfl,e⟩|⟨y,u,rfl,e⟩
  ·exact nomatch e
  ·injection e with e1 _
   subst e1;cases v<;>rfl
theorem Nx(prog)(w)(i)(t):(cI prog w).is (.inl i) (.int i t)=true:=WQ i t
theorem Nv(prog)(w)(x)(t):(cI prog w).is (.inr x) (.str x t)=true:=WN x t
inductive V where
 | non|bl (b:Bool)|int (i:Int)|str (x:Str)|byt (b:Array UInt8)|flt (b:UInt64)|ref (a:Addr)|ty (n:String)
 deriving DecidableEq
def RelV:V->Value->Prop
 | .non,u=>u=Value.none
 | .bl b,u=>u=Value.bool b
 | .int i,u=>∃t,u=Value.int i t
 | .str x,u=>∃t,u=Value.str x t
 | .byt b,u=>∃t,u=Value.bytes b t
 | .flt b,u=>∃t,u=Value.float b t
 | .ref a,u=>u=Value.ref a
 | .ty n,u=>u=Value.type n
abbrev Vals:List V->List Value->Prop:=Paired RelV
theorem Vals.length(r:Vals xs us):xs.length=us.length:=Paired.length r
theorem Vals.get:∀{xs} {us} {i:Nat} {x},Vals xs us->xs[i]? = some x->∃u,us[i]? = some u/\RelV x u
 | _,_,_,_,.nil,e=>by simp at e
 | _,_,0,_,.cons r _,e=>by simp at e;subst e;exact⟨_,rfl,r⟩
 | _,_,i+1,x,.cons _ t,e=>by
  obtain⟨u,h1,h2⟩:=Vals.get t (by simpa using e);exact⟨u,by simpa using h1,h2⟩
theorem Vals.set(r:RelV x u):∀{xs} {us} i,Vals xs us->Vals (xs.set i x) (us.set i u)
 | _,_,_,.nil=>.nil
 | _,_,0,.cons _ t=>.cons r t
 | _,_,i+1,.cons q t=>.cons q<|Vals.set r i t
theorem Vals.append:∀{xs ys} {us ws},Vals xs us->Vals ys ws->Vals (xs++ys) (us++ws)
 | _,_,_,_,.nil,s=>s
 | _,_,_,_,.cons r t,s=>.cons r<|Vals.append t s
theorem Vals.take:∀{xs} {us} n,Vals xs us->Vals (xs.take n) (us.take n)
 | _,_,0,_=>.nil
 | _,_,_+1,.nil=>.nil
 | _,_,n+1,.cons r t=>.cons r<|Vals.take n t
theorem Vals.drop:∀{xs} {us} n,Vals xs us->Vals (xs.drop n) (us.drop n)
 | _,_,0,r=>r
 | _,_,_+1,.nil=>.nil
 | _,_,n+1,.cons _ t=>Vals.drop n t
def Gq:Option V->Option Value->Prop
 | some v,some u=>RelV v u
 | none,none=>True
 | _,_=>False
def KV{κ:Type}:List (κ×V)->List (κ×Value)->Prop:=Paired λ(p:κ×V) (q:κ×Value)=>p.1=q.1/\RelV p.2 q.2
noncomputable def kV:Key->V
 | .inl i=>.int i
 | .inr x=>.str x
inductive HO where
 /-- a list -/
 | lst (xs:List V)
 /-- a tuple (never changes) -/
 | tup (xs:List V)
 /-- a dict whose keys are ints and texts;one whose keys are tuples of ints and texts (the empty one is both) -/
 | dK (kvs:List (Key×V))|dT (kvs:List (List Key×V))|dN (kvs:List (NK×V×V))
 /-- a set of ints: its members,its size -/
 | set (S:Int->Bool) (n:Nat)
 /-- an instance of the class at C,its dict at dx,its attributes -/
 | ins (C dx:Addr) (fs:List (Str×V))
 /-- the dict of the instance at x -/
 | own (x:Addr)
 /-- the dict of an exception -/
 | xd (fs:List (Str×V))
 /-- a bound method,f of x -/
 | met (f x:Addr)
 /-- a range object lo,lo+1,.. below hi -/
 | rng (lo hi:Int)
 /-- a thing that is known to the object (the script;a dict while a loop walks it): read,never written while it is so -/
 | KQ (o:Obj) (u:HO)
 /-- a code object's table -/
 | tbl (ps:Array Value)
 /-- a code object's table: whatever it holds,the codes made at these places are known and bear these names -/
 | tab (qs:List (Pos×Str))
 /-- any other thing,by what is true of its one object (a def of one's own: akf a S n:=HO.ext λh=>..) -/
 | ext (φ:Heap->Prop)
abbrev Hp:=Addr->Option HO
noncomputable def upd(H:Hp)(a:Addr)(o:HO):Hp:=λb=>if b=a then some o else H b
theorem bD:upd H a o a=some o:=by unfold upd;rw[if_pos rfl]
theorem cz(h:b≠a):upd H a o b=H b:=by unfold upd;rw[if_neg h]
theorem Jq:upd (upd H a o) a u=upd H a u:=by funext b;unfold upd;split<;>rfl
theorem al2{H:Hp}(h:H a=some o)(h':H b=some u)(d:o≠u):a≠b:=by intro e;subst e;rw[h] at h';exact d<|Qw6 h'
theorem gw{H:Hp}(h:H a=some o)(h':H b=none):a≠b:=by intro e;subst e;rw[h] at h';cases h'
def Gn(h:Heap)(a:Addr)(items:Array Value):Prop:=∃o,h.get? a=some o/\o.cls = .type "tuple"/\(∃n,o.data = .seq items n)/\o.dict=none
theorem Gn.is(x:Gn h a items):IsTup h a items:=let ⟨o,h1,h2,h3,_⟩:=x;⟨o,h1,h2,h3⟩
theorem Gn.new(h:Heap)(items):Gn (h.push { cls:=.type "tuple",data:=.seq items }) h.objs.size items:=⟨_,Qq2 _ rfl,rfl,⟨_,rfl⟩,rfl⟩
section
variable(P:Program)(w:World)
def iZ(H:Hp)(h:Heap)(a:Addr):HO->Prop
 | .lst xs=>xs.length<=sizeLine/\∃(its:List Value) (n:Nat),Vals xs its/\h.get? a=some { cls:=.type "list",data:=.seq its.toArray n }
 | .tup xs=>xs.length<=sizeLine/\∃its:List Value,Vals xs its/\Gn h a its.toArray
 | .dK kvs=>kvs.length<=sizeLine/\(a == sysModules)=false/\∃vs,KV kvs vs/\h.DictOf (cI P w) a vs
 | .dT kvs=>kvs.length<=sizeLine/\(a == sysModules)=false/\∃xs:List (List Key×Addr×Value),
   Paired (λ(p:List Key×V) (q:List Key×Addr×Value)=>p.1=q.1/\H q.2.1=some (.tup (p.1.map kV))/\RelV p.2 q.2.2) kvs xs/\
   ∃o es ep,h.get? a=some o/\o.ExactDict/\o.data = .dict es ep/\es.toList=xs.map (entryOfKey (tupleKind (cI P w)))/\(xs.map (·.1)).Nodup
 | .dN kvs=>kvs.length<=sizeLine/\(a == sysModules)=false/\∃xs:List (NK×Addr×Value),
   Paired (λ(p:NK×V×V) (q:NK×Addr×Value)=>p.1=q.1/\p.2.1 = .ref q.2.1/\RelV p.2.2 q.2.2) kvs xs/\
   ∃o es ep,h.get? a=some o/\o.ExactDict/\o.data = .dict es ep/\es.toList=xs.map (entryOfKey (aaj P w))/\(xs.map (·.1)).Nodup
 | .set S n=>h.SetOf (intKind P w) a S n
 | .ins C dx fs=>H dx=some (.own a)/\fs.length<=1000/\dx≠a/\h.get? a=some (PySem.W.instObj C dx)/\
   ∃mA,h.Ns1 dx mA/\(∀f,Gq (fs.lookup f) (mA f))/\PySem.Within mA (fs.map (·.1))
 | .own _=>∃o,h.get? a=some o
 | .xd fs=>∃mA,h.Ns1 a mA/\∀f,Gq (fs.lookup f) (mA f)
 | .rng lo hi=>∃t u v,h.get? a=some { cls:=.type "range",data:=.fields #[.int lo t,.int hi u,.int 1 v] }
 | .KQ o u=>h.get? a=some o/\iZ H h a u
 | .tbl ps=>h.get? a=some { cls:=.none,data:=.fields ps }
 | .tab qs=>∃ps:Array Value,h.get? a=some { cls:=.none,data:=.fields ps }/\TriplesOk ps.toList/\∀q∈qs,codeAmong q.1 ps.toList=none\/∃(c:Addr) (o:Obj) (u:HO) (vs:Array Value) (t:Tok),codeAmong q.1 ps.toList=some (.ref c)/\H c=some (.KQ o u)/\o.data = .fields vs/\vs[1]? = some (.str q.2 t)
 | .met f x=>h.get? a=some (PySem.W.methodObj (.ref f) (.ref x))
 | .ext φ=>φ h/\(∃o,h.get? a=some o)/\∀h1 h2:Heap,φ h1->(∀o,h1.get? a=some o->h2.get? a=some o)->φ h2
def yg(H:Hp)(h:Heap):Prop:=∀a o,H a=some o->iZ P w H h a o
end
section
variable{P:Program}{w:World}{H H':Hp}{h h':Heap}{a:Addr}{o:HO}
theorem iZ.lt(x:iZ P w H h a o):a<h.objs.size:=by
 cases o with
 | lst xs=>obtain⟨_,_,_,_,e⟩:=x;exact Qqv e
 | tup xs=>obtain⟨_,_,_,p⟩:=x;exact p.is.lt
 | dK kvs=>obtain⟨_,_,_,_,o,_,_,e,_⟩:=x;exact Qqv e
 | dT kvs=>obtain⟨_,_,_,_,o,_,_,e,_⟩:=x;exact Qqv e
 | dN kvs=>obtain⟨_,_,_,_,o,_,_,e,_⟩:=x;exact Qqv e
 | set S n=>obtain⟨o,_,_,_,e,_⟩:=x;exact Qqv e
 | ins C dx fs=>obtain⟨_,_,_,e,_⟩:=x;exact Qqv e
 | own y=>obtain⟨_,e⟩:=x;exact Qqv e
 | xd fs=>obtain⟨_,⟨_,_,_,e,_⟩,_⟩:=x;exact Qqv e
 | rng lo hi=>obtain⟨_,_,_,e⟩:=x;exact Qqv e
 | KQ ob u=>obtain⟨e,_⟩:=x;exact Qqv e
 | tbl ps=>exact Qqv<|show h.get? a=some _ from x
 | tab qs=>obtain⟨_,e,_⟩:=x;exact Qqv e
 | met f y=>exact Qqv<|show h.get? a=some _ from x
 | ext φ=>obtain⟨_,⟨_,e⟩,_⟩:=x;exact Qqv e
theorem Paired.ah3{α β:Type}{F G:α->β->Prop}:∀{l₁} {l₂},Paired F l₁ l₂->(∀a b,F a b->G a b)->Paired G l₁ l₂
 | _,_,.nil,_=>.nil
 | _,_,.cons r t,f=>.cons (f _ _ r)<|Paired.ah3 t f
theorem iZ.stay(x:iZ P w H h a o)(k:∀b u,(b=a\/H b=some (.own a))->h.get? b=some u->h'.get? b=some u)
  (ho:∀b,H b=some (.own a)->H' b=some (.own a)) (ht:∀b xs,H b=some (.tup xs)->H' b=some (.tup xs))
  (hz:∀b o u vs,o.data = .fields vs->H b=some (.KQ o u)->H' b=some (.KQ o u):=by intro _ _ _ _ _ q;exact q):iZ P w H' h' a o:=by
 induction o with
 | lst xs=>obtain⟨z,its,n,r,e⟩:=x;exact⟨z,its,n,r,k _ _ (.inl rfl) e⟩
 | tup xs=>obtain⟨z,its,r,ob,e,c⟩:=x;exact⟨z,its,r,ob,k _ _ (.inl rfl) e,c⟩
 | dK kvs=>obtain⟨z,y,vs,r,ob,es,ep,e,c⟩:=x;exact⟨z,y,vs,r,ob,es,ep,k _ _ (.inl rfl) e,c⟩
 | dT kvs=>
  obtain⟨z,y,xs,r,ob,es,ep,e,c⟩:=x;exact⟨z,y,xs,Paired.ah3 r λp q z=>⟨z.1,ht _ _ z.2.1,z.2.2⟩,ob,es,ep,k _ _ (.inl rfl) e,c⟩
 | dN kvs=>obtain⟨z,y,xs,r,ob,es,ep,e,c⟩:=x;exact⟨z,y,xs,r,ob,es,ep,k _ _ (.inl rfl) e,c⟩
 | set S n=>obtain⟨ob,es,ep,t,e,c⟩:=x;exact⟨ob,es,ep,t,k _ _ (.inl rfl) e,c⟩
 | ins C dx fs=>
  obtain⟨d,z,ne,e,mA,⟨od,es,ep,e2,c⟩,r⟩:=x;exact⟨ho _ d,z,ne,k _ _ (.inl rfl) e,mA,⟨od,es,ep,k _ _ (.inr d) e2,c⟩,r⟩
 | own y=>obtain⟨ob,e⟩:=x;exact⟨ob,k _ _ (.inl rfl) e⟩
 | xd fs=>obtain⟨mA,⟨od,es,ep,e,c⟩,r⟩:=x;exact⟨mA,⟨od,es,ep,k _ _ (.inl rfl) e,c⟩,r⟩
 | rng lo hi=>obtain⟨t,u,v,e⟩:=x;exact⟨t,u,v,k _ _ (.inl rfl) e⟩
 | KQ ob u ih=>obtain⟨e,q⟩:=x;exact⟨k _ _ (.inl rfl) e,ih q⟩
 | tbl ps=>
  have e:=x;exact k a _ (.inl rfl) e
 | tab qs=>
  obtain⟨ps,e,t,r⟩:=x;refine⟨ps,k a _ (.inl rfl) e,t,λq hq=>?_⟩;rcases r q hq with z|⟨c,o,u,vs,t,h1,h2,h3,h4⟩
  ·exact .inl z
  ·exact .inr ⟨c,o,u,vs,t,h1,hz c o u vs h3 h2,h3,h4⟩
 | met f y=>
  have e:=x;show h'.get? a=some (PySem.W.methodObj (.ref f)<|.ref y);exact k a _ (.inl rfl) e
 | ext φ=>obtain⟨p,⟨o,e⟩,st⟩:=x;exact⟨st _ _ p λo q=>k _ _ (.inl rfl) q,⟨o,k _ _ (.inl rfl) e⟩,st⟩
theorem yg.lt(x:yg P w H h)(e:H a=some o):a<h.objs.size:=(x a o e).lt
theorem yg.fresh(x:yg P w H h)(e:h.objs.size<=a):H a=none:=by
 cases q:H a with
 | none=>rfl
 | some u=>exact absurd (Qwy (x.lt q) e)<|Qx3 _
theorem yg.kept(x:yg P w H h)(k:∀b u,h.get? b=some u->h'.get? b=some u):yg P w H h':=λa o e=>
 (x a o e).stay (λb u _ q=>k b u q) (λ_ q=>q) λ_ _ q=>q
theorem yg.laid(x:yg P w H h)(k:∀b u,h.get? b=some u->h'.get? b=some u)(hp:h.objs.size<=a)(new:iZ P w (upd H a o) h' a o):yg P w (upd H a o) h':=λb u e=>by
 have hn:=x.fresh hp;by_cases hb:b=a
 ·subst hb;rw[bD] at e;cases e;exact new
 ·rw[cz hb] at e;exact(x b u e).stay (λc v _ q=>k c v q) (λc q=>by rw[cz (gw q hn)];exact q) (λc xs q=>by rw[cz (gw q hn)];exact q) λc _ _ _ _ q=>by rw[cz (gw q hn)];exact q
end
def Rd(H:Hp)(a:Addr)(u:HO):Prop:=H a=some u\/∃o,H a=some (.KQ o u)
theorem Rd.ok(r:Rd H a u)(x:yg P w H h):iZ P w H h a u:=by
 rcases r with r|⟨o,r⟩
 ·exact x a u r
 ·obtain⟨_,q⟩:=x a _ r;exact q
def Mut:Option HO->Prop
 | some (.lst _)=>True
 | some (.dK _)=>True
 | some (.dT _)=>True
 | some (.dN _)=>True
 | some (.set _ _)=>True
 | some (.ins _ _ _)=>True
 | some (.ext _)=>True
 | _=>False
section
variable{P:Program}{w:World}{H:Hp}{h h':Heap}{x e:Addr}{o':HO}
theorem yg.write(ok:yg P w H h)(mu:Mut (H x))(he:e=x\/H e=some (.own x))(k:∀b u,b≠e->h.get? b=some u->h'.get? b=some u)(heo:∃u,h'.get? e=some u)
  (new:iZ P w (upd H x o') h' x o'):yg P w (upd H x o') h':=λb u q=>by
 have alY:∀c y,H c=some (.own y)->c≠x:=λc y r z=>by subst z;rw[r] at mu;exact mu
 have aoR:∀c xs,H c=some (.tup xs)->c≠x:=λc xs r z=>by subst z;rw[r] at mu;exact mu
 by_cases hb:b=x
 ·subst hb;rw[bD] at q;cases q;exact new
 ·rw[cz hb] at q;by_cases hbe:b=e
  ·have q':H b=some (.own x):=by
    rcases he with z|z
    ·exact absurd (hbe.trans z) hb
    ·rw[hbe];exact z
   rw[q] at q';cases q';obtain⟨v,hv⟩:=heo;exact⟨v,by rw[hbe];exact hv⟩
  ·refine(ok b u q).stay (λc v hc r=>k c v ?_ r) (λc r=>by rw[cz (alY c b r)];exact r) (λc xs r=>by rw[cz (aoR c xs r)];exact r) λc _ _ _ _ r=>by rw[cz (λz=>by subst z;rw[r] at mu;exact mu)];exact r
   rcases hc with rfl|hc
   ·exact hbe
   ·rintro rfl;rcases he with z|z
    ·exact alY c b hc z
    ·rw[hc] at z;cases z;exact hb rfl
end
structure Un(fs ex:List Addr)(H H':Hp)(h h':Heap):Prop where
 keep:∀b o,h.get? b=some o->H b=none->b ∉ fs->b ∉ ex->h'.get? b=some o
 slot:∀b o,h.get? b=some o->H b=none->b∈fs->b ∉ ex->∃sl,h'.get? b=some { o with slots:=sl }
 free:∀b o,h.get? b=some o->H b=none->b ∉ ex->H' b=none
 there:∀b o,h.get? b=some o->b ∉ ex->∃o',h'.get? b=some o'
 tups:∀b xs,H b=some (.tup xs)->H' b=some (.tup xs)
 Ef:∀b o u,H b=some (.KQ o u)->H' b=some (.KQ o u)
 Lq:∀b ps,H b=some (.tbl ps)->∃more,H' b=some (.tbl (ps++more))
 tabs:∀b qs,H b=some (.tab qs)->H' b=some (.tab qs)
section
variable{fs fs' ex ex':List Addr}{H H1 H2:Hp}{h h1 h2 h':Heap}{a x e:Addr}{o:HO}
theorem Un.any(u:Un fs ex H H1 h h1)(q:h.get? b=some ob)(n:H b=none)(hx:b ∉ ex):∃sl,h1.get? b=some { ob with slots:=sl }:=by
 by_cases hb:b∈fs
 ·exact u.slot b ob q n hb hx
 ·exact⟨ob.slots,u.keep b ob q n hb hx⟩
theorem Un.kept(k:∀b u,h.get? b=some u->h'.get? b=some u):Un fs ex H H h h':=
 ⟨λb ob q _ _ _=>k b ob q,λb ob q _ _ _=>⟨ob.slots,k b ob q⟩,λ_ _ _ n _=>n,λb ob q _=>⟨ob,k b ob q⟩,λ_ _ q=>q,λ_ _ _ q=>q,λ_ ps q=>⟨#[],by rw[q];simp⟩,λ_ _ q=>q⟩
theorem Un.refl:Un fs ex H H h h:=Un.kept λ_ _ q=>q
theorem Un.laid(k:∀b u,h.get? b=some u->h'.get? b=some u)(hp:h.objs.size<=a)(hn:H a=none):Un fs ex H (upd H a o) h h' where
 keep:=λb u q _ _ _=>k b u q
 slot:=λb u q _ _ _=>⟨u.slots,k b u q⟩
 free:=λb u q n _=>by rw[cz (Qwv<|Qwy (Qqv q) hp)];exact n
 there:=λb u q _=>⟨u,k b u q⟩
 tups:=λb xs q=>by rw[cz (gw q hn)];exact q
 Ef:=λb u xs q=>by rw[cz (gw q hn)];exact q
 Lq:=λb ps q=>⟨#[],by rw[cz (gw q hn),q];simp⟩
 tabs:=λb qs q=>by rw[cz (gw q hn)];exact q
theorem Un.write(mu:Mut (H x))(he:e=x\/H e=some (.own x))(k:∀b u,b≠e->h.get? b=some u->h'.get? b=some u)(heo:∃u,h'.get? e=some u):Un fs ex H (upd H x o) h h':=by
 have hx:∀b,H b=none->b≠x:=λb n z=>by subst z;rw[n] at mu;exact mu
 have hb:∀b,H b=none->b≠e:=λb n z=>by
  subst z;rcases he with r|r
  ·exact hx b n r
  ·rw[n] at r;cases r
 have hm:∀b u,H b=some u->¬Mut (some u)->b≠x:=λb u q nm z=>by subst z;rw[q] at mu;exact nm mu
 refine⟨λb u q n _ _=>k b u (hb b n) q,λb u q n _ _=>⟨u.slots,k b u (hb b n) q⟩,λb u q n _=>by rw[cz (hx b n)];exact n,λb u q _=>?_,
  λb xs q=>by rw[cz (hm b _ q λz=>z)];exact q,λb u xs q=>by rw[cz (hm b _ q λz=>z)];exact q,λb ps q=>⟨#[],by rw[cz (hm b _ q λz=>z),q];simp⟩,λb qs q=>by rw[cz (hm b _ q λz=>z)];exact q⟩
 by_cases hbe:b=e
 ·subst hbe;exact heo
 ·exact⟨u,k b u hbe q⟩
end
noncomputable def trk(h:Heap)(H:Hp):List Addr:=(List.range h.objs.size).filter λa=>(H a).isSome
def KJ(h:Heap)(H:Hp):Heap:=PySem.W.hideAll h (trk h H)
theorem WY(h)(H):(KJ h H).objs.size=h.objs.size:=PySem.W.hideAll_size _ _
theorem aaZ(e:h.get? b=some o)(n:H b=none):(KJ h H).get? b=some o:=
 PySem.W.hideAll_get _ e λhm=>by
  have q:=(List.mem_filter.mp hm).2;rw[n] at q;simp at q
theorem adI(e:(KJ h H).get? b=some o):h.get? b=some o/\H b=none:=by
 have e':=PySem.W.of_hideAll (trk h H) e;refine⟨e',?_⟩;cases q:H b with
 | none=>rfl
 | some x=>
  have hm:b∈trk h H:=List.mem_filter.mpr ⟨Qw7.mpr<|Qqv e',by simp[q]⟩;have z:(KJ h H).get? b=none:=PySem.W.hideAll_none (trk h H) hm;rw[z] at e;cases e
noncomputable def ae6(g h:Heap)(L:Addr):List (Addr×Obj):=(List.range h.objs.size).filterMap λa=>if a=L\/(g.get? a).isSome=true then none else (h.get? a).map λo=>(a,o)
def rest(g h:Heap)(L d:Addr):List (Addr×Obj):=(ae6 g h L).filter λp=>decide (p.1≠d)
structure Mod(K:PySem.W.Frag)(mg:Str->Option Value)(base:Heap):Prop where
 Um:K.In base
 glob:base.Ns mainGlobals mg
 blt:∃mb,base.Ns builtinsNs mb/\∀x:Str,x ≠ "__name__"->mb x=bootBuiltins x
 nolimit:base.NoLimit
structure Cx where
 prog:Program
 w:World
 K:PySem.W.Frag
 mg:Str->Option Value
 base:Heap
 A:Around
 N:List Str
 s₀:Shared
 H₀:Hp
 env:Env
 outer:List Env
 stack:List Env
 ex:List Addr
 fn:Str->Bool
 calm:Bool
 pn:List (Addr×Obj)
 xe:Value->Shared->Prop
noncomputable def frs(l:List Env):List Addr:=l.filterMap (·.frame)
abbrev Cx.fs(X:Cx):List Addr:=frs X.outer
def Aa(sc:Scope)(x:Str):Prop:=sc.names.lookup x=some .local\/sc.names.lookup x=some .cell\/sc.names.lookup x=some .free
def Loc(sc:Scope)(x:Str):Prop:=sc.names.lookup x=some .local\/sc.names.lookup x=some .cell
def Look(env:Env)(h:Heap)(m:Str->Option Value)(x:Str)(u:Value):Prop:=
 (env.kindOf x=some .local/\m x=some u)\/((env.kindOf x=some .cell\/env.kindOf x=some .free)/\∃c,env.cells.lookup x=some c/\h.IsCell c (some u))
structure Cx.Ok(X:Cx):Prop where
 mod:Mod X.K X.mg X.base
 kind:X.env.scope.kind = .function
 glob:X.env.globals=mainGlobals
 blt:X.env.builtins=builtinsNs
 above:X.s₀.heap.objs.size<=X.env.locals
 inj:∀x y c,X.env.cells.lookup x=some c->X.env.cells.lookup y=some c->x=y
 has:∀x,(X.env.kindOf x=some .cell\/X.env.kindOf x=some .free)->∃c,X.env.cells.lookup x=some c
 cab:∀x c,X.fn x=true->X.env.cells.lookup x=some c->X.s₀.heap.objs.size<=c
 hd:X.calm=true->X.A.handled=none
 frames:X.A.frames=some X.stack
 XM:X.stack=X.outer\/(X.stack=X.env::X.outer/\X.env.frame=some X.env.locals)
 exf:∀b∈X.ex,b≠X.env.locals/\∀x c,X.env.cells.lookup x=some c->c≠b
 bs:∀b o,X.base.get? b=some o->X.s₀.heap.get? b=some o/\X.H₀ b=none
 bsz:X.base.objs.size<=X.s₀.heap.objs.size
 aah:∀b o,X.base.get? b=some o->b ∉ X.ex
 Sq:∀b∈X.ex,b ∉ X.fs
 Ed:X.s₀.heap.FunFrames X.base X.outer
 frf:∀b∈X.fs,X.H₀ b=none
structure Inv(X:Cx)(pins:List (Addr×Obj))(σ:List (Option V))(H:Hp)(s:Shared):Prop where
 ok:X.Ok
 os:s.os=X.s₀.os
 bare:AllBare s.gens
 base:Un X.fs X.ex X.H₀ H X.s₀.heap s.heap
 loc:∃m,s.heap.Ns X.env.locals m/\∀(i:Nat) (x:Str) (v:V),X.N[i]? = some x->σ[i]? = some (some v)->Aa X.env.scope x->∃u,RelV v u/\Look X.env s.heap m x u
 cell:∀x c,X.env.cells.lookup x=some c->∃v,s.heap.IsCell c v
 free:H X.env.locals=none
 xU:∀x c,X.env.cells.lookup x=some c->H c=none\/(X.fn x=false/\∃o u,H c=some (.KQ o u))
 pin:∀p∈X.pn++pins,s.heap.get? p.1=some p.2/\H p.1=none/\p.1≠X.env.locals/\p.1 ∉ X.fs/\∀v,p.2.data ≠ .cell v
 hok:yg X.prog X.w H s.heap
 len:σ.length=X.N.length
section
variable{X:Cx}{pins:List (Addr×Obj)}{σ:List (Option V)}{H H':Hp}{s:Shared}{h':Heap}
theorem Cx.Ok.aoT(ok:X.Ok)(e:X.base.get? b=some o):b ∉ X.fs:=λhb=>by
 have:=(ok.Ed.mem hb).1;rw[e] at this;cases this
theorem Inv.bs(I:Inv X pins σ H s):∀b o,X.base.get? b=some o->s.heap.get? b=some o/\H b=none:=λb o e=>
 ⟨I.base.keep b o (I.ok.bs b o e).1 (I.ok.bs b o e).2 (I.ok.aoT e)<|I.ok.aah b o e,I.base.free b o (I.ok.bs b o e).1 (I.ok.bs b o e).2<|I.ok.aah b o e⟩
theorem Inv.bk(I:Inv X pins σ H s):∀b o,X.base.get? b=some o->s.heap.get? b=some o:=λb o e=>(I.bs b o e).1
theorem Inv.mod(I:Inv X pins σ H s):Mod X.K X.mg X.base:=I.ok.mod
theorem Inv.WR(I:Inv X pins σ H s):X.K.In s.heap:=I.ok.mod.Um.keeps I.bk
theorem Inv.lt(I:Inv X pins σ H s):X.env.locals<s.heap.objs.size:=let ⟨_,hn,_⟩:=I.loc;hn.lt
theorem Inv.sz(I:Inv X pins σ H s):X.s₀.heap.objs.size<=s.heap.objs.size:=Qqj I.ok.above<|Qkq I.lt
theorem Inv.aoS(I:Inv X pins σ H s){a:Addr}(h:s.heap.objs.size<=a):a ∉ X.fs:=λhb=>by
 obtain⟨_,o,ho,_⟩:=I.ok.Ed.mem hb;exact absurd (Qwy (Qqv ho)<|Qqj I.sz h)<|Qx3 _
theorem Inv.cne(I:Inv X pins σ H s):∀x c,X.env.cells.lookup x=some c->c≠X.env.locals:=λx c e z=>by
 obtain⟨v,o,ho,hd⟩:=I.cell x c e;obtain⟨m,⟨o',es,ep,ho',hd',_⟩,_⟩:=I.loc;rw[z,ho'] at ho;cases ho;rw[hd'] at hd;cases hd
theorem Inv.Ed(I:Inv X pins σ H s):s.heap.FunFrames X.base X.outer:=by
 have all:∀l,(∀b∈frs l,b∈X.fs)->X.s₀.heap.FunFrames X.base l->s.heap.FunFrames X.base l:=by
  intro l
  induction l with
  | nil=>intro _ _;trivial
  | cons env r ih=>
   intro hs hl;obtain⟨hk,⟨L,o,hf,hn,ho,hd⟩,hr⟩:=hl;have hL:=hs L (by unfold frs;rw[List.filterMap_cons,hf];exact Qq5);obtain⟨sl,e⟩:=I.base.slot L o ho (I.ok.frf L hL) hL λz=>I.ok.Sq L z hL;exact⟨hk,⟨L,_,hf,hn,e,hd⟩,ih (λb hb=>hs b (by unfold frs;rw[List.filterMap_cons,hf];exact Qq0 _ hb)) hr⟩
 exact all X.outer (λ_ hb=>hb) I.ok.Ed
theorem Inv.stack(I:Inv X pins σ H s):s.heap.FunFrames X.base X.stack:=by
 rcases I.ok.XM with e|⟨e,hf⟩
 ·rw[e];exact I.Ed
 ·rw[e];obtain⟨m,hn,_⟩:=I.loc;refine .cons (by rw[I.ok.kind];decide) hf hn ?_ I.Ed;exact Heap.get?_none_of_le<|Qqj I.ok.bsz I.ok.above
theorem Inv.QM(I:Inv X pins σ H s):∀b∈frs X.stack,b∈X.env.locals::X.fs:=λb hb=>by
 rcases I.ok.XM with e|⟨e,hf⟩
 ·rw[e] at hb;exact Qq0 _ hb
 ·rw[e] at hb;unfold frs at hb;rw[List.filterMap_cons,hf] at hb;exact hb
theorem Inv.Tv(I:Inv X pins σ H s):∀b∈frs X.stack,H b=none:=λb hb=>by
 rcases Qwq.mp (I.QM b hb) with e|hb
 ·rw[e];exact I.free
 ·obtain⟨_,o,ho,_⟩:=I.ok.Ed.mem hb;exact I.base.free b o ho (I.ok.frf b hb) λz=>I.ok.Sq b z hb
theorem Inv.step{ch:List Addr}(I:Inv X pins σ H s)
  (hch:∀b∈ch,(b∈X.ex\/X.s₀.heap.objs.size<=b)/\b≠X.env.locals/\(∀x c,X.env.cells.lookup x=some c->c≠b)/\∀p∈X.pn++pins,p.1≠b)
  (keep:∀b o,b≠X.env.locals->b ∉ X.fs->b ∉ ch->s.heap.get? b=some o->H b=none->h'.get? b=some o)
  (slot:∀b o,b≠X.env.locals->b∈X.fs->b ∉ ch->s.heap.get? b=some o->H b=none->∃sl,h'.get? b=some { o with slots:=sl }) (free:∀b o,b ∉ ch->s.heap.get? b=some o->H b=none->H' b=none)
  (there:∀b o,b ∉ ch->s.heap.get? b=some o->∃o',h'.get? b=some o')
  (tups:∀b xs,H b=some (.tup xs)->H' b=some (.tup xs)) (Ef:∀b o u,H b=some (.KQ o u)->H' b=some (.KQ o u)) (Lq:∀b ps,H b=some (.tbl ps)->∃more,H' b=some (.tbl (ps++more)))
  (ns:∀m,s.heap.Ns X.env.locals m->h'.Ns X.env.locals m) (hok:yg X.prog X.w H' h') (hg:AllBare g')
  (tabs:∀b qs,H b=some (.tab qs)->H' b=some (.tab qs):=by intro _ _ q;exact q) :
  Inv X pins σ H' { s with heap:=h',gens:=g',drawn:=d',toks:=t' }:=by
 have neL:∀b o,X.s₀.heap.get? b=some o->b≠X.env.locals:=λb o e=>Qwv<|Qwy (Qqv e) I.ok.above;have neC:∀b o,X.s₀.heap.get? b=some o->b ∉ X.ex->b ∉ ch:=λb o e hx hb=>by
  rcases(hch b hb).1 with z|z
  ·exact hx z
  ·exact absurd (Qwy (Qqv e) z)<|Qx3 _
 have cellK:∀x c,X.env.cells.lookup x=some c->∀v,s.heap.IsCell c v->h'.IsCell c v:=λx c e v ⟨o,ho,hd⟩=>by
  have nch:=λz=>(hch c z).2.2.1 x c e rfl;rcases I.xU x c e with hn|⟨_,fo,fu,hz⟩
  ·by_cases hc:c∈X.fs
   ·obtain⟨sl,q⟩:=slot c o (I.cne x c e) hc nch ho hn;exact⟨_,q,hd⟩
   ·exact⟨o,keep c o (I.cne x c e) hc nch ho hn,hd⟩
  ·have e1:=(I.hok c _ hz).1;rw[ho] at e1;cases e1;exact⟨o,(hok c _<|Ef c o fu hz).1,hd⟩
 refine⟨I.ok,I.os,hg,⟨λb o e n hb hx=>?_,λb o e n hb hx=>?_,λb o e n hx=>?_,λb o e hx=>?_,λb xs e=>tups b xs<|I.base.tups b xs e,λb o xs e=>Ef b o xs<|I.base.Ef b o xs e,λb ps e=>?_,λb qs e=>tabs b qs<|I.base.tabs b qs e⟩,?_,λx c e=>?_,?_,λx c e=>?_,λp hp=>?_,hok,I.len⟩
 ·exact keep b o (neL b o e) hb (neC b o e hx) (I.base.keep b o e n hb hx)<|I.base.free b o e n hx
 ·obtain⟨sl,e1⟩:=I.base.slot b o e n hb hx;obtain⟨sl',e2⟩:=slot b _ (neL b o e) hb (neC b o e hx) e1<|I.base.free b o e n hx;exact⟨sl',e2⟩
 ·obtain⟨o',e1⟩:=I.base.there b o e hx;exact free b o' (neC b o e hx) e1<|I.base.free b o e n hx
 ·obtain⟨o',e1⟩:=I.base.there b o e hx;exact there b o' (neC b o e hx) e1
 ·obtain⟨m1,e1⟩:=I.base.Lq b ps e;obtain⟨m2,e2⟩:=Lq b _ e1;exact⟨m1++m2,by rw[e2,Array.append_assoc]⟩
 ·obtain⟨m,hn,hl⟩:=I.loc;refine⟨m,ns m hn,λi x v e1 e2 e3=>?_⟩;obtain⟨u,r,l⟩:=hl i x v e1 e2 e3;refine⟨u,r,?_⟩;rcases l with l|⟨k,c,e,z⟩
  ·exact .inl l
  ·exact .inr ⟨k,c,e,cellK x c e _ z⟩
 ·obtain⟨v,z⟩:=I.cell x c e;exact⟨v,cellK x c e v z⟩
 ·obtain⟨m,⟨o,_,_,ho,_⟩,_⟩:=I.loc;exact free _ o (λz=>(hch _ z).2.1 rfl) ho I.free
 ·rcases I.xU x c e with hn|⟨h1,fo,fu,hz⟩
  ·obtain⟨v,o,ho,hd⟩:=I.cell x c e;exact .inl<|free c o (λz=>(hch c z).2.2.1 x c e rfl) ho hn
  ·exact .inr ⟨h1,fo,fu,Ef c fo fu hz⟩
 ·obtain⟨e,n,ne,nf,d⟩:=I.pin p hp;have nch:=λz=>(hch p.1 z).2.2.2 p hp rfl;exact⟨keep p.1 p.2 ne nf nch e n,free p.1 p.2 nch e n,ne,nf,d⟩
theorem Inv.un(I:Inv X pins σ H s)(u:Un X.fs [] H H' s.heap h')(hok:yg X.prog X.w H' h'):Inv X pins σ H' { s with heap:=h',toks:=t' }:=by
 obtain⟨m,⟨o,es,ep,ho,r⟩,_⟩:=id I.loc;obtain⟨sl,hL⟩:=u.any ho I.free (by simp);exact I.step (ch:=[]) (λ_ z=>nomatch z) (λb o _ hb _ e n=>u.keep b o e n hb (by simp)) (λb o _ hb _ e n=>u.slot b o e n hb (by simp)) (λb o _ e n=>u.free b o e n (by simp)) (λb o _ e=>u.there b o e (by simp)) u.tups u.Ef u.Lq (λm' hm=>by
  obtain⟨o',es',ep',ho',r'⟩:=hm;rw[ho] at ho';cases ho';exact⟨_,es',ep',hL,r'⟩) hok I.bare u.tabs
theorem Inv.call(I:Inv X pins σ H s)(u:Un (frs X.stack) ch H H' s.heap h')(hok:yg X.prog X.w H' h')(hg:AllBare g')
  (hch:∀b∈ch,(b∈X.ex\/X.s₀.heap.objs.size<=b)/\b≠X.env.locals/\(∀x c,X.env.cells.lookup x=some c->c≠b)/\∀p∈X.pn++pins,p.1≠b) :
  Inv X pins σ H' { s with heap:=h',gens:=g',drawn:=d',toks:=t' }:=by
 obtain⟨m,⟨o,es,ep,ho,r⟩,_⟩:=id I.loc;obtain⟨sl,hL⟩:=u.any ho I.free λz=>(hch _ z).2.1 rfl;exact I.step hch (λb o hL hb hc e n=>u.keep b o e n (λz=>(Qwq.mp<|I.QM b z).elim hL hb) hc) (λb o _ _ hc e n=>u.any e n hc) (λb o hc e n=>u.free b o e n hc) (λb o hc e=>u.there b o e hc) u.tups u.Ef u.Lq (λm' hm=>by
  obtain⟨o',es',ep',ho',r'⟩:=hm;rw[ho] at ho';cases ho';exact⟨_,es',ep',hL,r'⟩) hok hg u.tabs
theorem Inv.turned(I:Inv X pins σ H s)(k:∀b o,b≠it->s.heap.get? b=some o->h'.get? b=some o)(hn:H it=none)(hL:it≠X.env.locals)
  (h1:it∈X.ex\/X.s₀.heap.objs.size<=it) (h2:∀x c,X.env.cells.lookup x=some c->c≠it) (h3:∀p∈X.pn++pins,p.1≠it):Inv X pins σ H { s with heap:=h',toks:=t' }:=by
 have nit:∀b u,H b=some u->b≠it:=λb u e z=>by rw[z,hn] at e;cases e
 refine I.step (ch:=[it]) (λb hb=>?_) (λb o _ _ hc e _=>k b o (λz=>hc (by simp[z])) e) (λb o _ _ hc e _=>⟨o.slots,k b o (λz=>hc (by simp[z])) e⟩) (λ_ _ _ _ n=>n)
  (λb o hc e=>⟨o,k b o (λz=>hc (by simp[z])) e⟩) (λ_ _ e=>e) (λ_ _ _ e=>e) (λb ps e=>⟨#[],by rw[e];simp⟩) (λm hm=>?_) (λb u e=>?_) I.bare
 ·have e:b=it:=by simpa using hb
  subst e;exact⟨h1,hL,h2,h3⟩
 ·obtain⟨o,es,ep,ho,r⟩:=hm;exact⟨o,es,ep,k _ o (Ne.symm hL) ho,r⟩
 ·refine(I.hok b u e).stay (λc v hc q=>k c v ?_ q) (λ_ q=>q) λ_ _ q=>q;rcases hc with z|z
  ·rw[z];exact nit b u e
  ·exact nit c _ z
theorem Inv.tok(I:Inv X pins σ H s)(t):Inv X pins σ H { s with toks:=t }:=I.un Un.refl I.hok
theorem Inv.kept(I:Inv X pins σ H s)(k:∀b u,s.heap.get? b=some u->h'.get? b=some u):Inv X pins σ H { s with heap:=h',toks:=t' }:=I.un (Un.kept k)<|I.hok.kept k
theorem Inv.laid{a:Addr}(I:Inv X pins σ H s)(k:∀b u,s.heap.get? b=some u->h'.get? b=some u)(hp:s.heap.objs.size<=a)(new:iZ X.prog X.w (upd H a o) h' a o) :
  Inv X pins σ (upd H a o) { s with heap:=h',toks:=t' }:=I.un (Un.laid k hp<|I.hok.fresh hp)<|I.hok.laid k hp new
theorem Inv.write(I:Inv X pins σ H s)(mu:Mut (H x))(he:e=x\/H e=some (.own x))(k:∀b u,b≠e->s.heap.get? b=some u->h'.get? b=some u)(heo:∃u,h'.get? e=some u)
  (new:iZ X.prog X.w (upd H x o) h' x o):Inv X pins σ (upd H x o) { s with heap:=h',toks:=t' }:=I.un (Un.write mu he k heo)<|I.hok.write mu he k heo new
theorem Inv.T6(I:Inv X pins σ H s)(h:∀p∈afJ,s.heap.get? p.1=some p.2/\H p.1=none/\p.1≠X.env.locals/\p.1 ∉ X.fs/\∀v,p.2.data ≠ .cell v):Inv X afJ σ H s:=
 ⟨I.ok,I.os,I.bare,I.base,I.loc,I.cell,I.free,I.xU,λp hp=>(Qw5.mp hp).elim (λz=>I.pin p<|List.mem_append_left _ z)<|h p,I.hok,I.len⟩
theorem Nq{N:List Str}(hN:N.Nodup){i j:Nat}(a:N[i]? = some x)(b:N[j]? = some x):i=j:=by obtain⟨h1,e1⟩:=Qwz.mp a;obtain⟨h2,e2⟩:=Qwz.mp b;exact(List.getElem_inj hN).mp<|e1.trans e2.symm
theorem yr(I:Inv X pins σ H s)(hN:X.N.Nodup)(hi:X.N[i]? = some x)(hx:Loc X.env.scope x)(r:RelV v u)
  (h:∀s',Inv X pins (σ.set i (some v)) H s'->(∃a,Heap.SameBut a s.heap s'.heap/\(a=X.env.locals\/X.env.cells.lookup x=some a))->Q () s') (hf:X.fn x=true\/X.env.scope.names.lookup x=some .local:=by first|exact .inl rfl|exact .inr rfl|assumption):wpAny M A (storeName X.env x u) Q E s:=by
 obtain⟨m,hn,hl⟩:=id I.loc;have hcls:(X.env.scope.kind == .class||(X.env.scope.kind == .module&&X.env.locals != X.env.globals))=false:=by rw[I.ok.kind];rfl
 have hiσ:i<σ.length:=by rw[I.len];exact(Qwz.mp hi).1
 have cne:=I.cne;have tracked:∀{a} {h'},(∃o,s.heap.get? a=some o/\H a=none)->Heap.SameBut a s.heap h'->yg X.prog X.w H h':=λ{a h'} ha hs b ob e=>by
  obtain⟨_,_,hfree⟩:=ha;refine(I.hok b ob e).stay (λc w' hc q=>(hs.2 c ?_).trans q) (λ_ q=>q) λ_ _ q=>q;rintro rfl;rcases hc with rfl|hc
  ·rw[hfree] at e;cases e
  ·rw[hfree] at hc;cases hc
 rcases hx with hk|hk
 ·refine wpAny_storeName_local hk hn (λh' hn' hs=>?_) hcls;obtain⟨oL,_,_,hoL,_⟩:=id hn;refine h _ ⟨I.ok,I.os,I.bare,⟨λb o e n hb hx=>?_,λb o e n hb hx=>?_,I.base.free,λb o e hx=>?_,I.base.tups,I.base.Ef,I.base.Lq,I.base.tabs⟩,⟨_,hn',λj y v' e1 e2 e3=>?_⟩,λy c e=>?_,I.free,I.xU,λp hp=>?_,tracked ⟨oL,hoL,I.free⟩ hs,by simpa using I.len⟩ ⟨_,hs,.inl rfl⟩
  ·exact(hs.2 b<|Qwv<|Qwy (Qqv e) I.ok.above).trans<|I.base.keep b o e n hb hx
  ·obtain⟨sl,e1⟩:=I.base.slot b o e n hb hx;exact⟨sl,(hs.2 b<|Qwv<|Qwy (Qqv e) I.ok.above).trans e1⟩
  ·obtain⟨o',e1⟩:=I.base.there b o e hx;exact⟨o',(hs.2 b<|Qwv<|Qwy (Qqv e) I.ok.above).trans e1⟩
  ·by_cases hj:j=i
   ·subst hj;rw[hi] at e1;cases e1;rw[Qx2 hiσ] at e2;cases e2;exact⟨u,r,.inl ⟨hk,by simp⟩⟩
   ·rw[Qwx (Ne.symm hj)] at e2;obtain⟨u',r',q⟩:=hl j y v' e1 e2 e3;refine⟨u',r',?_⟩;rcases q with ⟨k,e⟩|⟨k,c,e,z⟩
    ·refine .inl ⟨k,?_⟩;have:y≠x:=λe=>hj<|Nq hN e1<|e ▸ hi;simp[this,e]
    ·exact .inr ⟨k,c,e,z.sameBut hs<|cne y c e⟩
  ·obtain⟨w',z⟩:=I.cell y c e;exact⟨w',z.sameBut hs<|cne y c e⟩
  ·obtain⟨e,n,ne,nf,d⟩:=I.pin p hp;exact⟨(hs.2 p.1 ne).trans e,n,ne,nf,d⟩
 ·have hfn:X.fn x=true:=by
   rcases hf with z|z
   ·exact z
   ·rw[z] at hk;cases hk
  obtain⟨c,hc⟩:=I.ok.has x<|.inl hk;obtain⟨w',z⟩:=I.cell x c hc;refine wpAny_storeName_cell I.ok.kind hk hc z<|λh' hc' hs=>?_;obtain⟨oc,hoc,apf⟩:=id z;refine h { s with heap:=h' } ⟨I.ok,I.os,I.bare,⟨λb o e n hb hx=>?_,λb o e n hb hx=>?_,I.base.free,λb o e hx=>?_,I.base.tups,I.base.Ef,I.base.Lq,I.base.tabs⟩,⟨m,hn.sameBut hs<|Ne.symm<|cne x c hc,λj y v' e1 e2 e3=>?_⟩,λy c' e=>?_,I.free,I.xU,λp hp=>?_,tracked ⟨oc,hoc,(I.xU x c hc).resolve_right λz=>by rw[hfn] at z;cases z.1⟩ hs,by simpa using I.len⟩ ⟨c,hs,.inr hc⟩
  ·exact(hs.2 b<|Qwv<|Qwy (Qqv e)<|I.ok.cab x c hfn hc).trans<|I.base.keep b o e n hb hx
  ·obtain⟨sl,e1⟩:=I.base.slot b o e n hb hx;exact⟨sl,(hs.2 b<|Qwv<|Qwy (Qqv e)<|I.ok.cab x c hfn hc).trans e1⟩
  ·obtain⟨o',e1⟩:=I.base.there b o e hx;exact⟨o',(hs.2 b<|Qwv<|Qwy (Qqv e)<|I.ok.cab x c hfn hc).trans e1⟩
  ·by_cases hj:j=i
   ·subst hj;rw[hi] at e1;cases e1;rw[Qx2 hiσ] at e2;cases e2;exact⟨u,r,.inr ⟨.inl hk,c,hc,hc'⟩⟩
   ·rw[Qwx (Ne.symm hj)] at e2;obtain⟨u',r',q⟩:=hl j y v' e1 e2 e3;refine⟨u',r',?_⟩;rcases q with q|⟨k,c',e,z'⟩
    ·exact .inl q
    ·refine .inr ⟨k,c',e,z'.sameBut hs ?_⟩;rintro rfl;exact hj<|Nq hN e1<|I.ok.inj _ _ _ e hc ▸ hi
  ·by_cases hcc:c'=c
   ·subst hcc;exact⟨_,hc'⟩
   ·obtain⟨w2,z2⟩:=I.cell y c' e;exact⟨w2,z2.sameBut hs hcc⟩
  ·obtain⟨e,n,ne,nf,d⟩:=I.pin p hp;refine⟨(hs.2 p.1 ?_).trans e,n,ne,nf,d⟩;intro q;rw[q,hoc] at e;have q':=Qw6 e;exact d w' (by rw[<-q'];exact apf)
theorem Mj(I:Inv X pins σ H s)(hN:X.N.Nodup)(hi:X.N[i]? = some x)(hx:Loc X.env.scope x)(r:RelV v u)
  (h:∀s',Inv X pins (σ.set i (some v)) H s'->Q () s') (hf:X.fn x=true\/X.env.scope.names.lookup x=some .local:=by first|exact .inl rfl|exact .inr rfl|assumption):wpAny M A (storeName X.env x u) Q E s:=
 yr I hN hi hx r (λs' I' _=>h s' I') hf
theorem Inv.call'(I:Inv X pins σ H s)(ho:s'.os=s.os)(u:Un (frs X.stack) ch H H' s.heap s'.heap)(hok:yg X.prog X.w H' s'.heap)(hg:AllBare s'.gens)
  (hch:∀b∈ch,(b∈X.ex\/X.s₀.heap.objs.size<=b)/\b≠X.env.locals/\(∀x c,X.env.cells.lookup x=some c->c≠b)/\∀p∈X.pn++pins,p.1≠b):Inv X pins σ H' s':=by
 obtain⟨h',g',d',t',o'⟩:=s';have e:=ho;subst e;exact I.call u hok hg hch
end
abbrev XK:=Value->Option Addr->Hp->Prop
abbrev St:=List (Option V)
abbrev VK:=V->Hp->Prop
abbrev TE:=St->Hp->VK->Prop
abbrev TT:=St->Hp->(Bool->Hp->Prop)->Prop
abbrev TA:=St->Hp->(List V->Hp->Prop)->Prop
structure Ends where
 nx:St->Hp->Prop
 rt:VK
 bk:St->Hp->Prop:=λ_ _=>False
 ct:St->Hp->Prop:=λ_ _=>False
abbrev TS:=Ends->St->Hp->Prop
inductive EP (X:Cx) (pins:List (Addr×Obj)) (σ:St) (Q:VK) (u:Value) (s':Shared):Prop
 | mk (v:V) (H':Hp) (_:Inv X pins σ H' s') (_:RelV v u) (_:Q v H'):EP X pins σ Q u s'
inductive TP (X:Cx) (pins:List (Addr×Obj)) (σ:St) (Q:Bool->Hp->Prop) (b:Bool) (s':Shared):Prop
 | mk (H':Hp) (_:Inv X pins σ H' s') (_:Q b H'):TP X pins σ Q b s'
inductive AP (X:Cx) (pins:List (Addr×Obj)) (σ:St) (Q:List V->Hp->Prop) (us:List Value) (s':Shared):Prop
 | mk (vs:List V) (H':Hp) (_:Inv X pins σ H' s') (_:Vals vs us) (_:Q vs H'):AP X pins σ Q us s'
def SP(X:Cx)(pins:List (Addr×Obj))(D:Ends)(f:Flow)(s':Shared):Prop:=
 match f with
 | .next=>∃σ' H',Inv X pins σ' H' s'/\D.nx σ' H'
 | .brk=>∃σ' H',Inv X pins σ' H' s'/\D.bk σ' H'
 | .cont=>∃σ' H',Inv X pins σ' H' s'/\D.ct σ' H'
 | .ret u=>∃v σ' H',Inv X pins σ' H' s'/\RelV v u/\D.rt v H'
def PE(X:Cx)(e:Expr)(t:TE):Prop:=
 ∀(pins:List (Addr×Obj)) (s:Shared) (σ:St) (H:Hp) (Q:VK),Inv X pins σ H s->t σ H Q->wpAny (model X.prog X.w) X.A (eval e X.env) (EP X pins σ Q) X.xe s
def PT(X:Cx)(e:Expr)(t:TT):Prop:=
 ∀(pins:List (Addr×Obj)) (s:Shared) (σ:St) (H:Hp) (Q:Bool->Hp->Prop),Inv X pins σ H s->t σ H Q->wpAny (model X.prog X.w) X.A (isTrue e X.env (eval e X.env)) (TP X pins σ Q) X.xe s
def PW(X:Cx)(e:Expr)(t:TT):Prop:=
 ∀(whole:Sem Value) (pins:List (Addr×Obj)) (s:Shared) (σ:St) (H:Hp) (Q:Bool->Hp->Prop),Inv X pins σ H s->t σ H Q->wpAny (model X.prog X.w) X.A (isTrue e X.env whole) (TP X pins σ Q) X.xe s
theorem PW.pt(h:PW X e t):PT X e t:=h _
def PA(X:Cx)(es:List Expr)(t:TA):Prop:=
 ∀(pos:Pos) (pins:List (Addr×Obj)) (s:Shared) (σ:St) (H:Hp) (Q:List V->Hp->Prop),Inv X pins σ H s->t σ H Q->wpAny (model X.prog X.w) X.A (spliced (backTo pos (starEach es X.env))) (AP X pins σ Q) X.xe s
def PS(X:Cx)(st:Stmt)(t:TS):Prop:=
 ∀(pins:List (Addr×Obj)) (s:Shared) (σ:St) (H:Hp) (D:Ends),Inv X pins σ H s->t D σ H->wpAny (model X.prog X.w) X.A (exec st X.env) (SP X pins D) X.xe s
def Qh(X:Cx)(st:List Stmt)(t:TS):Prop:=
 ∀(pins:List (Addr×Obj)) (s:Shared) (σ:St) (H:Hp) (D:Ends),Inv X pins σ H s->t D σ H->wpAny (model X.prog X.w) X.A (execs st X.env) (SP X pins D) X.xe s
theorem fG{α:Type}{t:Sem α}{Q Q':α->Shared->Prop}(h:wpAny M A t Q E s)(hQ:∀a s,Q a s->Q' a s):wpAny M A t Q' E s:=Qw3 h hQ λ_ _ x=>x
section
variable{X:Cx}
def akR(i:Nat):TE:=λσ H Q=>∃v,σ[i]? = some (some v)/\Q v H
def tC(v:V):TE:=λ_ H Q=>Q v H
theorem ni{pos:Pos}(hN:X.N[i]? = some x)(hv:Aa X.env.scope x)(hd:qi x:=by decide)(hcd:Am x:=by decide):PE X (.Name x pos) (akR i):=by
 intro pins s σ H Q I h;obtain⟨v,e,h⟩:=h;obtain⟨m,hn,hl⟩:=I.loc;obtain⟨u,r,l⟩:=hl i x v hN e hv;have fin:EP X pins σ Q u s:=⟨v,H,I,r,h⟩;rcases l with ⟨hk,hm⟩|⟨hk,c,hc,hcell⟩
 ·exact wpAny_Name (wpAny_loadName_local I.ok.kind hk hn hm fin) hd
 ·rcases hk with hk|hk
  ·exact wpAny_Name (wpAny_loadName_cell I.ok.kind hk hc hcell fin) hd
  ·exact wpAny_Name (wpAny_loadName_free I.ok.kind hk hc hcell fin hcd) hd
theorem ZV{i j pos}:PE X (.Constant (.int i) j pos) (tC (.int i)):=λ_ _ _ H _ I h=>wpAny_Constant_int ⟨.int i,H,I.tok _,⟨_,rfl⟩,h⟩
theorem alH{b j pos}:PE X (.Constant (.bool b) j pos) (tC (.bl b)):=λ_ _ _ H _ I h=>Constant_bool ⟨.bl b,H,I,rfl,h⟩
theorem ahp{j pos}:PE X (.Constant .none j pos) (tC .non):=λ_ _ _ H _ I h=>Constant_none ⟨.non,H,I,rfl,h⟩
theorem ahl{x j pos}:PE X (.Constant (.str x) j pos) (tC (.str x)):=λ_ _ _ H _ I h=>Calls.Constant_str ⟨.str x,H,I.tok _,⟨_,rfl⟩,h⟩
def Gl(X:Cx)(x:Str):Prop:=X.env.kindOf x=some .globalImplicit
theorem Uk{σ:St}(I:Inv X pins σ H s)(hg:Gl X x)(hm:X.mg x=some u)(h:Q u s)
  (hd:qi x:=by decide):wpAny (model X.prog X.w) X.A (eval (.Name x pos) X.env) Q E s:=
 Calls.Name_function_global I.ok.kind hg (Calls.loadGlobal_global (by rw[I.ok.glob];exact I.mod.glob.keeps I.bk) hm h) hd
theorem rQ{E:Value->Shared->Prop}{σ:St}{pos:Pos}(I:Inv X pins σ H s)(hg:Gl X x)(hm:X.mg x=none)(hv:bootBuiltins x=some u)(h:Q u s)
  (hn:x ≠ "__name__":=by decide) (hd:qi x:=by decide):wpAny (model X.prog X.w) X.A (eval (.Name x pos) X.env) Q E s:=by
 obtain⟨mb,h1,h2⟩:=I.mod.blt;exact Calls.Name_function_global I.ok.kind hg (Calls.loadGlobal_builtin (by rw[I.ok.glob];exact I.mod.glob.keeps I.bk) hm (by rw[I.ok.blt];exact h1.keeps I.bk) ((h2 x hn).trans hv) h) hd
theorem J8(hg:Gl X x)(hm:X.mg x=some u)(r:RelV v u)(hd:qi x:=by decide):PE X (.Name x pos) (tC v):=
 λ_ _ _ H _ I h=>Uk I hg hm ⟨v,H,I,r,h⟩ hd
theorem ady{pos:Pos}(hg:Gl X x)(hm:X.mg x=none)(hv:bootBuiltins x=some u)(r:RelV v u)(hn:x ≠ "__name__":=by decide)(hd:qi x:=by decide):PE X (.Name x pos) (tC v):=
 λ_ _ _ H _ I h=>rQ I hg hm hv ⟨v,H,I,r,h⟩ hn hd
variable{a b:Expr}{ta tb:TE}{pos:Pos}
def PC(X:Cx)(op:CmpOp)(a b:Expr)(t:TE):Prop:=
 ∀(pins:List (Addr×Obj)) (s:Shared) (σ:St) (H:Hp) (Q:VK),Inv X pins σ H s->t σ H Q->
  wpAny (model X.prog X.w) X.A (eval a X.env) (λv s₁=>wpAny (model X.prog X.w) X.A (eval b X.env) (λu s₂=>wpAny (model X.prog X.w) X.A (compareOp op v u) (EP X pins σ Q) X.xe s₂) X.xe s₁) X.xe s
def tB(t:TE):TT:=λσ H Q=>t σ H λx H1=>∃c,x = .bl c/\Q c H1
theorem ahd(h:PC X op a b t)(h1:behindInMarks op b=false:=by first|exact alZ _ (by decide) (by decide)|rfl):PT X (.Compare a [op] [b] pos) (tB t):=by intro pins s σ H Q I hw;refine wpAny_isTrue_Compare1 (fG (h pins s σ H _ I hw) λv s1 h1=>fG h1 λu s2 h2=>fG h2 λc s3 ⟨x,H1,I1,r1,q1⟩=>?_) h1;obtain⟨d,rfl,q⟩:=q1;cases r1;exact Qx1 ⟨H1,I1,q⟩
theorem ahb(h:PE X e t)(he:∀whole,isTrue e X.env whole=(do let v <-whole;standAt e.pos;holding [v] (truthy v)):=by intro _;rfl):PT X e (tB t):=by intro pins s σ H Q I hw;refine isTrue_plain (fG (h pins s σ H _ I hw) λv s1 ⟨x,H1,I1,r1,q1⟩=>?_)<|he _;obtain⟨d,rfl,q⟩:=q1;cases r1;exact Qx1 ⟨H1,I1,q⟩
variable{tA tB':TT}{rest:List Expr}
def aoG(t u:TT):TT:=λσ H Q=>t σ H λc H1=>if c=true then u σ H1 Q else Q false H1
def tOr(t u:TT):TT:=λσ H Q=>t σ H λc H1=>if c=true then Q true H1 else u σ H1 Q
def aoz(t:TT):TT:=λσ H Q=>t σ H λc H1=>Q (!c) H1
theorem pw_and1(ha:PT X a tA):PW X (.BoolOp .And [a] pos) tA:=by
 intro wh pins s σ H Q I h;refine isTrue_and<|fG (ha pins s σ H Q I h) λc s1 e=>?_;cases c with
 | true=>exact isTrue_and_nil e
 | false=>exact e
theorem pw_or1(ha:PT X a tA):PW X (.BoolOp .Or [a] pos) tA:=by
 intro wh pins s σ H Q I h;refine isTrue_or<|fG (ha pins s σ H Q I h) λc s1 e=>?_;cases c with
 | false=>exact isTrue_or_nil e
 | true=>exact e
theorem pw_and(ha:PT X a tA)(hb:PW X (.BoolOp .And (b::rest) pos) tB'):PW X (.BoolOp .And (a::b::rest) pos) (aoG tA tB'):=by
 intro wh pins s σ H Q I h;refine isTrue_and<|fG (ha pins s σ H _ I h) λc s1 ⟨H1,I1,q1⟩=>?_;cases c with
 | true=>exact hb wh pins s1 σ H1 Q I1 q1
 | false=>exact⟨H1,I1,q1⟩
theorem pw_or(ha:PT X a tA)(hb:PW X (.BoolOp .Or (b::rest) pos) tB'):PW X (.BoolOp .Or (a::b::rest) pos) (tOr tA tB'):=by
 intro wh pins s σ H Q I h;refine isTrue_or<|fG (ha pins s σ H _ I h) λc s1 ⟨H1,I1,q1⟩=>?_;cases c with
 | true=>exact⟨H1,I1,q1⟩
 | false=>exact hb wh pins s1 σ H1 Q I1 q1
theorem ahc(ha:PT X a tA):PT X (.UnaryOp .Not a pos) (aoz tA):=by intro pins s σ H Q I h;exact isTrue_not<|fG (ha pins s σ H (λc H1=>Q (!c) H1) I h) λc s1 ⟨H1,I1,q1⟩=>⟨H1,I1,q1⟩
def akZ(ta tb:TE):TE:=λσ H Q=>ta σ H λx H1=>∃c,x = .bl c/\if c=true then tb σ H1 Q else Q (.bl false) H1
def aoy(ta tb:TE):TE:=λσ H Q=>ta σ H λx H1=>∃c,x = .bl c/\if c=true then Q (.bl true) H1 else tb σ H1 Q
def akT(ta:TE):TE:=λσ H Q=>ta σ H λx H1=>∃c,x = .bl c/\Q (.bl (!c)) H1
theorem ahn{op}(h:PE X a t):PE X (.BoolOp op [a] pos) t:=λpins s σ H Q I hw=>BoolOp_one<|h pins s σ H Q I hw
theorem ahr(ha:PE X a ta)(hb:PE X (.BoolOp .And (b::rest) pos) tb):PE X (.BoolOp .And (a::b::rest) pos) (akZ ta tb):=by
 intro pins s σ H Q I h;refine BoolOp_and<|fG (ha pins s σ H _ I h) λv s1 ⟨x,H1,I1,r1,q1⟩=>?_;obtain⟨c,rfl,q1⟩:=q1;cases r1;refine Qx1 ?_;cases c with
 | true=>exact hb pins s1 σ H1 Q I1 q1
 | false=>exact⟨.bl false,H1,I1,rfl,q1⟩
theorem alF(ha:PE X a ta)(hb:PE X (.BoolOp .Or (b::rest) pos) tb):PE X (.BoolOp .Or (a::b::rest) pos) (aoy ta tb):=by
 intro pins s σ H Q I h;refine BoolOp_or<|fG (ha pins s σ H _ I h) λv s1 ⟨x,H1,I1,r1,q1⟩=>?_;obtain⟨c,rfl,q1⟩:=q1;cases r1;refine Qx1 ?_;cases c with
 | false=>exact hb pins s1 σ H1 Q I1 q1
 | true=>exact⟨.bl true,H1,I1,rfl,q1⟩
theorem aho(ha:PE X a ta):PE X (.UnaryOp .Not a pos) (akT ta):=by intro pins s σ H Q I h;refine UnaryOp_<|fG (ha pins s σ H _ I h) λv s1 ⟨x,H1,I1,r1,q1⟩=>?_;obtain⟨c,rfl,q1⟩:=q1;cases r1;exact not_of<|Qx1 ⟨.bl<|!c,H1,I1,rfl,q1⟩
end
def jR(K:PySem.W.Frag)(H:Hp)(a:Addr)(xs:List V):Prop:=
 Rd H a (.lst xs)\/
  ∃(o:Obj) (its:Array Value) (n:Nat),K.lookup a=some o/\o.cls = .type "list"/\o.dict=none/\o.data = .seq its n/\its.size<=sizeLine/\Vals xs its.toList
def oH(K:PySem.W.Frag)(H:Hp)(a:Addr)(xs:List V):Prop:=
 Rd H a (.tup xs)\/
  ∃(o:Obj) (its:Array Value) (n:Nat),K.lookup a=some o/\o.cls = .type "tuple"/\o.dict=none/\o.data = .seq its n/\its.size<=sizeLine/\Vals xs its.toList
noncomputable def apD:Value->Option V
 | .none=>some .non
 | .bool b=>some (.bl b)
 | .int i _=>some (.int i)
 | .str x _=>some (.str x)
 | .bytes b _=>some (.byt b)
 | .float b _=>some (.flt b)
 | .ref a=>some (.ref a)
 | .type n=>some (.ty n)
 | _=>none
theorem RelV.abs(r:RelV x u):apD u=some x:=by
 cases x with
 | non=>cases r;rfl
 | bl _=>cases r;rfl
 | int _=>obtain⟨t,rfl⟩:=r;rfl
 | str _=>obtain⟨t,rfl⟩:=r;rfl
 | byt _=>obtain⟨t,rfl⟩:=r;rfl
 | flt _=>obtain⟨t,rfl⟩:=r;rfl
 | ref _=>cases r;rfl
 | ty _=>cases r;rfl
theorem RelV.inj(r:RelV x u)(q:RelV y u):x=y:=Qw6<|r.abs.symm.trans q.abs
theorem Vals.inj:∀{xs ys} {us},Vals xs us->Vals ys us->xs=ys
 | _,_,_,.nil,.nil=>rfl
 | _,_,_,.cons r t,.cons r' t'=>by rw[r.inj r',Vals.inj t t']
section
variable{X:Cx}{pins:List (Addr×Obj)}{σ:St}{H:Hp}{s:Shared}{a:Addr}{xs ys:List V}
theorem jR.of{K:PySem.W.Frag}(h:H a=some (.lst xs)):jR K H a xs:=.inl<|.inl h
theorem oH.of{K:PySem.W.Frag}(h:H a=some (.tup xs)):oH K H a xs:=.inl<|.inl h
theorem Inv.list(I:Inv X pins σ H s)(h:jR X.K H a xs):∃its,Vals xs its/\PlainL s.heap a its.toArray/\xs.length<=sizeLine:=by
 rcases h with h|⟨o,its,n,hk,hc,hd,hs,hz,r⟩
 ·obtain⟨z,its,n,r,e⟩:=h.ok I.hok;exact⟨its,r,⟨_,n,e,rfl,rfl,rfl⟩,z⟩
 ·refine⟨its.toList,r,⟨o,n,I.WR a o hk,hc,hd,by simpa using hs⟩,?_⟩;have e:=r.length;simp[Qz8] at e;omega
theorem Inv.tuple(I:Inv X pins σ H s)(h:oH X.K H a xs):∃its,Vals xs its/\IsTup s.heap a its.toArray/\xs.length<=sizeLine:=by
 rcases h with h|⟨o,its,n,hk,hc,hdn,hs,hz,r⟩
 ·obtain⟨z,its,r,p⟩:=h.ok I.hok;exact⟨its,r,p.is,z⟩
 ·refine⟨its.toList,r,⟨o,I.WR a o hk,hc,n,by simpa using hs⟩,?_⟩;have e:=r.length;simp[Qz8] at e;omega
theorem Inv.xF(I:Inv X pins σ H s)(h:jR X.K H a xs)(h':jR X.K H a ys):xs=ys:=by
 obtain⟨its,r,⟨o,n,e,_,_,d⟩,_⟩:=I.list h;obtain⟨its',r',⟨o',n',e',_,_,d'⟩,_⟩:=I.list h';rw[e] at e';cases e';rw[d] at d';injection d' with d1 _
 have:its=its':=by simpa using Qx7 Array.toList d1
 subst this;exact r.inj r'
theorem Inv.uR(I:Inv X pins σ H s)(h:oH X.K H a xs)(h':oH X.K H a ys):xs=ys:=by
 obtain⟨its,r,⟨o,e,_,n,d⟩,_⟩:=I.tuple h;obtain⟨its',r',⟨o',e',_,n',d'⟩,_⟩:=I.tuple h';rw[e] at e';cases e';rw[d] at d';injection d' with d1 _
 have:its=its':=by simpa using Qx7 Array.toList d1
 subst this;exact r.inj r'
end
abbrev Cx.wish(X:Cx)(E:Value->Shared->Prop):Cx:={ X with xe:=E }
abbrev Cx.nox(X:Cx):Cx:=X.wish λ_ _=>False
theorem Cx.Ok.wish{X:Cx}(ok:X.Ok)(E):(X.wish E).Ok:=
 ⟨ok.mod,ok.kind,ok.glob,ok.blt,ok.above,ok.inj,ok.has,ok.cab,ok.hd,ok.frames,ok.XM,ok.exf,ok.bs,ok.bsz,ok.aah,ok.Sq,ok.Ed,ok.frf⟩
theorem Cx.Ok.tV{X:Cx}(ok:(X.wish E).Ok):X.Ok:=
 ⟨ok.mod,ok.kind,ok.glob,ok.blt,ok.above,ok.inj,ok.has,ok.cab,ok.hd,ok.frames,ok.XM,ok.exf,ok.bs,ok.bsz,ok.aah,ok.Sq,ok.Ed,ok.frf⟩
section
variable{X:Cx}{pins:List (Addr×Obj)}{σ:St}{H:Hp}{s:Shared}{E:Value->Shared->Prop}
theorem Inv.wish(I:Inv X pins σ H s)(E):Inv (X.wish E) pins σ H s:=⟨I.ok.wish E,I.os,I.bare,I.base,I.loc,I.cell,I.free,I.xU,I.pin,I.hok,I.len⟩
theorem Inv.tV(I:Inv (X.wish E) pins σ H s):Inv X pins σ H s:=⟨I.ok.tV,I.os,I.bare,I.base,I.loc,I.cell,I.free,I.xU,I.pin,I.hok,I.len⟩
theorem SP.tV(h:SP (X.wish E) pins D f s'):SP X pins D f s':=by
 cases f with
 | next=>obtain⟨σ',H',I,q⟩:=h;exact⟨σ',H',I.tV,q⟩
 | brk=>obtain⟨σ',H',I,q⟩:=h;exact⟨σ',H',I.tV,q⟩
 | cont=>obtain⟨σ',H',I,q⟩:=h;exact⟨σ',H',I.tV,q⟩
 | ret u=>obtain⟨v,σ',H',I,r,q⟩:=h;exact⟨v,σ',H',I.tV,r,q⟩
theorem Qh.nox{st:List Stmt}(h:Qh X.nox st t):Qh X st t:=λpins s σ H D I hw=>
 Qw3 (h pins s σ H D (I.wish _) hw) (λ_ _ q=>q.tV) λ_ _ z=>False.elim z
end
section
variable{X:Cx}{st:Stmt}{rest:List Stmt}{t u:TS}{e:Expr}{te:TE}{pos:Pos}
def akU:TS:=λD σ H=>D.nx σ H
def aou(t u:TS):TS:=λD σ H=>t { D with nx:=u D } σ H
theorem adh:Qh X [] akU:=λ_ _ σ H _ I h=>wpAny_execs_nil ⟨σ,H,I,h⟩
theorem ZC(h1:PS X st t)(h2:Qh X rest u):Qh X (st::rest) (aou t u):=by
 intro pins s σ H D I h;refine wpAny_execs_cons<|fG (h1 pins s σ H { D with nx:=u D } I h) λf s1 q=>?_;cases f with
 | next=>
  obtain⟨σ',H',I',q⟩:=q;exact h2 pins s1 σ' H' D I' q
 | ret v=>exact q
 | brk=>exact q
 | cont=>exact q
theorem adg(h1:PS X st t):Qh X [st] t:=by
 intro pins s σ H D I h;refine wpAny_execs_cons<|fG (h1 pins s σ H D I h) λf s1 q=>?_;cases f with
 | next=>exact wpAny_execs_nil q
 | ret v=>exact q
 | brk=>exact q
 | cont=>exact q
theorem Inv.quiet{σ:St}(I:Inv X pins σ H s):interactive X.env=false:=by simp[interactive,I.ok.kind]
def akW(te:TE):TS:=λD σ H=>te σ H λ_ H1=>D.nx σ H1
theorem T4(he:PE X e te)(hs:swapsWith e none pos.line X.env=pure false:=by rfl):PS X (.Expr e pos) (akW te):=by intro pins s σ H D I h;exact wpAny_Expr_any (fG (he pins s σ H _ I h) λv s1 ⟨x,H1,I1,r1,q1⟩=>⟨σ,H1,I1,q1⟩) I.quiet hs
def aox(te:TE):TS:=λD σ H=>te σ H D.rt
theorem ZG(he:PE X e te):PS X (.Return (some e) pos) (aox te):=by intro pins s σ H D I h;exact wpAny_Return_some<|fG (he pins s σ H _ I h) λv s1 ⟨x,H1,I1,r1,q1⟩=>⟨x,σ,H1,I1,r1,q1⟩
def aoD(c:TT)(t u:TS):TS:=λD σ H=>c σ H λb H1=>if b=true then t D σ H1 else u D σ H1
theorem alD(hc:PT X c tc)(ha:Qh X a t)(hb:Qh X b u):PS X (.If c a b pos) (aoD tc t u):=by
 intro pins s σ H D I h;refine wpAny_If<|fG (hc pins s σ H _ I h) λd s1 ⟨H1,I1,q1⟩=>?_;cases d with
 | true=>exact ha pins s1 σ H1 D I1 q1
 | false=>exact hb pins s1 σ H1 D I1 q1
end
abbrev TG:=V->St->Hp->(St->Hp->Prop)->Prop
abbrev TGs:=List V->St->Hp->(St->Hp->Prop)->Prop
def PG(X:Cx)(target:Expr)(t:TG):Prop:=
 ∀(pins:List (Addr×Obj)) (s:Shared) (σ:St) (H:Hp) (v:V) (u:Value) (Q:St->Hp->Prop),Inv X pins σ H s->RelV v u->t v σ H Q->
  wpAny (model X.prog X.w) X.A (assign target X.env u) (λ_ s'=>∃σ' H',Inv X pins σ' H' s'/\Q σ' H') X.xe s
def PGs(X:Cx)(ts:List Expr)(t:TGs):Prop:=
 ∀(pins:List (Addr×Obj)) (s:Shared) (σ:St) (H:Hp) (vs:List V) (us:List Value) (Q:St->Hp->Prop),Inv X pins σ H s->Vals vs us->t vs σ H Q->
  wpAny (model X.prog X.w) X.A (assignInOrder ((assignEach ts X.env).map (·.2)) us) (λ_ s'=>∃σ' H',Inv X pins σ' H' s'/\Q σ' H') X.xe s
abbrev Lh:=V->V->V->Hp->(Hp->Prop)->Prop
def anD(X:Cx)(t:Lh):Prop:=
 ∀(pins:List (Addr×Obj)) (s:Shared) (σ:St) (H:Hp) (o i v:V) (ov iv u:Value) (Q:Hp->Prop),Inv X pins σ H s->RelV o ov->RelV i iv->RelV v u->t o i v H Q->
  wpAny (model X.prog X.w) X.A (setItem ov iv u) (λ_ s'=>∃H',Inv X pins σ H' s'/\Q H') X.xe s
section
variable{X:Cx}{pos:Pos}
def zV(i:Nat):TG:=λv σ H Q=>Q (σ.set i (some v)) H
theorem adv(hN:X.N.Nodup)(hi:X.N[i]? = some x)(hx:Loc X.env.scope x)(hf:X.fn x=true\/X.env.scope.names.lookup x=some .local:=by first|exact .inl rfl|exact .inr rfl|assumption):PG X (.Name x pos) (zV i):=by intro pins s σ H v u Q I r h;exact wpAny_assign_Name<|Mj I hN hi hx r (λs' I'=>⟨_,H,I',h⟩) hf
def apv:TGs:=λvs σ H Q=>vs=[]/\Q σ H
def am3(t:TG)(u:TGs):TGs:=λvs σ H Q=>∃v r,vs=v::r/\t v σ H λσ' H'=>u r σ' H' Q
theorem adu:PGs X [] apv:=by intro pins s σ H vs us Q I r h;obtain⟨e,h⟩:=h;subst e;cases r;exact assignInOrder_nil ⟨σ,H,I,h⟩
theorem ZS(h1:PG X e t)(h2:PGs X es u)
  (hs:(assignEach (e::es) X.env).map (·.2)=assign e X.env::(assignEach es X.env).map (·.2):=by rfl):PGs X (e::es) (am3 t u):=by
 intro pins s σ H vs us Q I r h;obtain⟨v,vr,e1,h⟩:=h;subst e1;cases r with
 | cons r rr=>
  rw[hs];refine assignInOrder_cons<|fG (h1 pins s σ H _ _ _ I r h) λ_ s1 ⟨σ1,H1,I1,q1⟩=>?_;exact h2 pins s1 σ1 H1 _ _ Q I1 rr q1
def apu(K:PySem.W.Frag)(n:Nat)(t:TGs):TG:=λv σ H Q=>∃a xs,v = .ref a/\oH K H a xs/\xs.length=n/\t xs σ H Q
theorem ahi{k:Nat}(hc:X.calm=true)(h:PGs X es t)
  (hn:(assignEach es X.env).length=n:=by rfl) (hst:(assignEach es X.env).findIdx? (·.1)=none:=by rfl):PG X (.Tuple es k pos) (apu X.K n t):=by
 intro pins s σ H v u Q I r hw;obtain⟨a,xs,e1,hq,hl,hw⟩:=hw;subst e1;cases r;obtain⟨its,rv,ht,hz⟩:=I.tuple hq;refine assign_Tuple_tuple (I.ok.hd hc) ht (by simp[hn,<-hl,rv.length]) hst λh' hx=>?_;have I1:Inv X pins σ H { s with heap:=h' }:=I.kept λb o e=>hx b o (Qwv<|Qqv e) e;exact h pins _ σ H xs _ Q I1 (by simpa using rv) hw
def qZ(to ti:TE)(t:Lh):TG:=λv σ H Q=>to σ H λo H1=>ti σ H1 λi H2=>t o i v H2 λH3=>Q σ H3
theorem ahj(ho:PE X o to)(hi:PE X i ti)(hs:anD X t)
  (ha:∀v,assign (.Subscript o i pos) X.env v=(do
   let ov <-holding [v] (eval o X.env)
   let iv <-holding [v,ov] (eval i X.env)
   standAt pos
   holding [v,ov,iv] (setItem ov iv v)
   release [v,ov,iv] []):=by intro _;rfl):PG X (.Subscript o i pos) (qZ to ti t):=by
 intro pins s σ H v u Q I r h;rw[ha];refine Qqx<|Qjq<|fG (ho pins s σ H _ I h) λov s1 ⟨x,H1,I1,r1,q1⟩=>?_;refine Qqx<|Qjq<|fG (hi pins s1 σ H1 _ I1 q1) λiv s2 ⟨y,H2,I2,r2,q2⟩=>?_;refine Qqx<|Qz0<|Qqx<|Qjq<|fG (hs pins s2 σ H2 x y v ov iv u _ I2 r1 r2 r q2) λ_ s3 ⟨H3,I3,q3⟩=>?_;exact wpAny_release ⟨σ,H3,I3,q3⟩
def Yz(te:TE)(g:TG):TS:=λD σ H=>te σ H λx H1=>g x σ H1 D.nx
theorem ahf(he:PE X e te)(hg:PG X tg g)(hs:swapsWithSole [tg] e pos.line X.env=pure false:=by rfl)(hw:swappedStores [tg] e X.env=pure none:=by rfl)
  (h1:(assignEach [tg] X.env).map (·.2)=[assign tg X.env]:=by rfl):PS X (.Assign [tg] e pos) (Yz te g):=by
 intro pins s σ H D I h;refine wpAny_Assign_stores (fG (he pins s σ H _ I h) λv s1 ⟨x,H1,I1,r1,q1⟩=>?_) hs hw;rw[h1];exact fG (hg pins s1 σ H1 x v _ I1 r1 q1) λ_ s2 q=>q
theorem ZF(hN:X.N.Nodup)(hi:X.N[i]? = some x)(hx:Loc X.env.scope x)(he:PE X e te)(hs:swapsWith e (some (.Name x pos')) pos.line X.env=pure false:=by rfl)(hf:X.fn x=true\/X.env.scope.names.lookup x=some .local:=by first|exact .inl rfl|exact .inr rfl|assumption) :
  PS X (.Assign [.Name x pos'] e pos) (Yz te (zV i)):=by
 intro pins s σ H D I h;refine wpAny_Assign_Name (fG (he pins s σ H _ I h) λv s1 ⟨y,H1,I1,r1,q1⟩=>?_) hs;exact Mj I1 hN hi hx r1 (λs2 I2=>⟨_,H1,I2,q1⟩) hf
end
structure It where
 go:Nat->Hp->Prop
 Yb:Nat->Hp->V->Hp->Prop
 stop:Nat->Hp->Prop
def pG(X:Cx)(pins:List (Addr×Obj))(H:Hp)(b:Addr):Prop:=
 H b=none/\b≠X.env.locals/\b ∉ X.fs/\(b∈X.ex\/X.s₀.heap.objs.size<=b)/\(∀x c,X.env.cells.lookup x=some c->c≠b)/\∀p∈X.pn++pins,p.1≠b
theorem Inv.Sg{σ:St}{b:Addr}(I:Inv X pins σ H s)(hb:s.heap.objs.size<=b)(hn:H' b=none):pG X pins H' b:=by
 refine⟨hn,Qzz<|Qwy I.lt hb,I.aoS hb,.inr<|Qqj I.sz hb,λx c e z=>?_,λp hp z=>?_⟩
 ·obtain⟨v,q⟩:=I.cell x c e;exact absurd (Qwy q.lt (by rw[z];exact hb))<|Qx3 _
 ·exact absurd (Qwy (Qqv (I.pin p hp).1) (by rw[z];exact hb))<|Qx3 _
structure Turn(P:Program)(w:World)(K:PySem.W.Frag)(tg:Expr)(J:It)(fp:List Addr)(it:Addr)(tn:Nat->Heap->Prop):Prop where
 mem:it∈fp
 obj:∀i h,tn i h->∀b∈fp,∃o,h.get? b=some o/\∀v,o.data ≠ .cell v
 keep:∀i h h',tn i h->(∀b∈fp,∀o,h.get? b=some o->h'.get? b=some o)->tn i h'
 item:∀(X:Cx),X.prog=P->X.w=w->X.K=K->X.calm=true->∀(i:Nat) (pins:List (Addr×Obj)) (s:Shared) (σ:St) (H:Hp) (E:Value->Shared->Prop),Inv X pins σ H s->(∀b∈fp,pG X pins H b)->tn i s.heap->J.go i H->
  wpAny (model P w) X.A (pyNext (.ref it)) (λr s1=>∃u,r=some u/\
   wpAny (model P w) X.A (letOwnedTupleGo tg (.ref it) u) (λ_ s2=>∃x H',Inv X pins σ H' s2/\RelV x u/\J.Yb i H x H'/\tn (i+1) s2.heap/\∀b∈fp,H' b=none) E s1) E s
 done:∀(X:Cx),X.prog=P->X.w=w->X.K=K->X.calm=true->∀(i:Nat) (pins:List (Addr×Obj)) (s:Shared) (σ:St) (H:Hp) (E:Value->Shared->Prop),Inv X pins σ H s->(∀b∈fp,pG X pins H b)->tn i s.heap->J.stop i H->
  wpAny (model P w) X.A (pyNext (.ref it)) (λr s1=>r=none/\Inv X pins σ H s1) E s
 self:∀(A:Around) (i:Nat) (s:Shared) (Q:Value->Shared->Prop) (E:Value->Shared->Prop),tn i s.heap->Q (.ref it) s->wpAny (model P w) A (pyIter (.ref it)) Q E s
abbrev TI:=St->Hp->(It->Hp->Prop)->Prop
def PIE(X:Cx)(pins:List (Addr×Obj))(σ:St)(tg:Expr)(R:It->Hp->Prop)(itv:Value)(s2:Shared):Prop:=
 ∃(it:Addr) (fp:List Addr) (tn:Nat->Heap->Prop) (J:It) (H':Hp),itv = .ref it/\Inv X pins σ H' s2/\Turn X.prog X.w X.K tg J fp it tn/\tn 0 s2.heap/\(∀b∈fp,pG X pins H' b)/\R J H'
def PI(X:Cx)(tg iter:Expr)(wi:TI):Prop:=
 ∀(pins:List (Addr×Obj)) (s:Shared) (σ:St) (H:Hp) (R:It->Hp->Prop),Inv X pins σ H s->wi σ H R->
  wpAny (model X.prog X.w) X.A (eval iter X.env) (λv s1=>wpAny (model X.prog X.w) X.A (pyIter v) (PIE X pins σ tg R) X.xe s1) X.xe s
theorem Oc(ho : s.heap.get? it = some o)(hc : o.cls = .type n)(hd : o.data = .fields vs)
    (hn : ["enumerate", "zip", "dict_itemiterator", "dict_reverseitemiterator", "odict_iterator", "itertools.zip_longest", "itertools.pairwise"].contains n = false) (hQ : Q () s) : wpAny M A (letOwnedTupleGo tg (.ref it) u) Q E s := by
  unfold letOwnedTupleGo;cases tg <;> first
    | exact Qqk hQ
    | (cases u <;> first
        | exact Qqk hQ
        | (refine Qqx<|wpAny_load ho ?_
           rw [hc, hd];show wpAny M A (if (["enumerate", "zip", "dict_itemiterator", "dict_reverseitemiterator", "odict_iterator", "itertools.zip_longest", "itertools.pairwise"].contains n && vs[0]? == some (rawInt _)) = true then _ else _) Q E s;rw [if_neg (by intro h; rw [hn, Bool.false_and] at h; cases h)];exact Qqk hQ))
noncomputable def Itl(K:PySem.W.Frag)(a:Addr):It:=
 ⟨λi H=>∃xs x,jR K H a xs/\xs[i]? = some x,λi H x H'=>H'=H/\∀xs,jR K H a xs->xs[i]? = some x,λi H=>∃xs,jR K H a xs/\xs.length<=i⟩
noncomputable def Itt(K:PySem.W.Frag)(a:Addr):It:=
 ⟨λi H=>∃xs x,oH K H a xs/\xs[i]? = some x,λi H x H'=>H'=H/\∀xs,oH K H a xs->xs[i]? = some x,λi H=>∃xs,oH K H a xs/\xs.length<=i⟩
noncomputable def Itr(lo:Int)(n:Nat):It:=⟨λi _=>i<n,λi H x H'=>H'=H/\x = .int (lo+i),λi _=>n<=i⟩
theorem Vt{P:Program}{w:World}{K:PySem.W.Frag}{tg:Expr}(a it:Addr):Turn P w K tg (Itl K a) [it] it (λi h=>h.IsListIter it a i) where
 mem:=by simp
 obj:=λi h st b hb=>by
  have e:b=it:=by simpa using hb
  subst e;obtain⟨o,e,c,d⟩:=st;exact⟨o,e,λv z=>by rw[d] at z;cases z⟩
 keep:=λi h h' st k=>st.at λo e=>k it (by simp) o e
 item:=by intro X hP hw hK hc i pins s σ H E I hf st hg;subst hP hw hK;obtain⟨xs,x,hq,hx⟩:=hg;obtain⟨its,rv,p,hz⟩:=I.list hq;obtain⟨u,hu,ru⟩:=rv.get hx;obtain⟨f0,f1,f2,f3,f4,f5⟩:=hf it (by simp);refine wpAny_pyNext_list_item st p.isList (by simpa using hu) λh' st' sb=>?_;have I1:Inv X pins σ H { s with heap:=h' }:=I.turned (λb o hb e=>(sb.2 b hb).trans e) f0 f1 f3 f4 f5;obtain⟨o,e,c,d⟩:=id st';exact⟨u,rfl,Oc e c d (by decide) ⟨x,H,I1,ru,⟨rfl,λys hy=>by rw[I.xF hy hq];exact hx⟩,st',λb hb=>(hf b hb).1⟩⟩
 done:=by intro X hP hw hK hc i pins s σ H E I hf st hg;subst hP hw hK;obtain⟨xs,hq,hx⟩:=hg;obtain⟨its,rv,p,hz⟩:=I.list hq;obtain⟨f0,f1,f2,f3,f4,f5⟩:=hf it (by simp);have hl:=rv.length;exact wpAny_pyNext_list_end (I.ok.hd hc) st p.isList (by simp;omega) λh' eb=>⟨rfl,I.turned (λb o hb e=>eb b o hb e) f0 f1 f3 f4 f5⟩
 self:=λ_ _ _ _ _ st h=>wpAny_pyIter_listiter st h
theorem Qo{P:Program}{w:World}{K:PySem.W.Frag}{tg:Expr}(a it:Addr):Turn P w K tg (Itt K a) [it] it (λi h=>h.IsTupleIter it a i) where
 mem:=by simp
 obj:=λi h st b hb=>by
  have e:b=it:=by simpa using hb
  subst e;obtain⟨o,e,c,d⟩:=st;exact⟨o,e,λv z=>by rw[d] at z;cases z⟩
 keep:=λi h h' st k=>st.at λo e=>k it (by simp) o e
 item:=by intro X hP hw hK hc i pins s σ H E I hf st hg;subst hP hw hK;obtain⟨xs,x,hq,hx⟩:=hg;obtain⟨its,rv,p,hz⟩:=I.tuple hq;obtain⟨u,hu,ru⟩:=rv.get hx;obtain⟨f0,f1,f2,f3,f4,f5⟩:=hf it (by simp);refine wpAny_pyNext_tuple_item st p (by simpa using hu) λh' st' sb=>?_;have I1:Inv X pins σ H { s with heap:=h' }:=I.turned (λb o hb e=>(sb.2 b hb).trans e) f0 f1 f3 f4 f5;obtain⟨o,e,c,d⟩:=id st';exact⟨u,rfl,Oc e c d (by decide) ⟨x,H,I1,ru,⟨rfl,λys hy=>by rw[I.uR hy hq];exact hx⟩,st',λb hb=>(hf b hb).1⟩⟩
 done:=by intro X hP hw hK hc i pins s σ H E I hf st hg;subst hP hw hK;obtain⟨xs,hq,hx⟩:=hg;obtain⟨its,rv,p,hz⟩:=I.tuple hq;obtain⟨f0,f1,f2,f3,f4,f5⟩:=hf it (by simp);have hl:=rv.length;exact wpAny_pyNext_tuple_end (I.ok.hd hc) st p (by simp;omega) λh' eb=>⟨rfl,I.turned (λb o hb e=>eb b o hb e) f0 f1 f3 f4 f5⟩
 self:=λ_ _ _ _ _ st h=>wpAny_pyIter_tupleiter st h
theorem Qp{P:Program}{w:World}{K:PySem.W.Frag}{tg:Expr}(it:Addr)(lo:Int)(n:Nat):Turn P w K tg (Itr lo n) [it] it (λi h=>IsRangeIter h it (lo+(i:Nat)*1) ((n:Int) - (i:Nat)) 1) where
 mem:=by simp
 obj:=λi h st b hb=>by
  have e:b=it:=by simpa using hb
  subst e;exact⟨_,st,λv z=>by
   have z':=z;cases z'⟩
 keep:=λi h h' st k=>k it (by simp) _ st
 item:=by intro X hP hw hK hc i pins s σ H E I hf st hg;subst hP hw hK;obtain⟨f0,f1,f2,f3,f4,f5⟩:=hf it (by simp);have W:=Walks.range (prog:=X.prog) (w:=X.w) (I.ok.hd hc) it lo 1 n;refine W.item i s _ _ hg st λv h' tk hv st' kk=>?_;obtain⟨t,rfl⟩:=hv;have I1:Inv X pins σ H { s with heap:=h',toks:=tk }:=I.turned (λb o hb e=>kk b o (by simpa using hb) e) f0 f1 f3 f4 f5;refine⟨_,rfl,Oc st' rfl rfl (by decide) ⟨.int<|lo+i,H,I1,⟨t,?_⟩,⟨rfl,rfl⟩,st',λb hb=>(hf b hb).1⟩⟩;rw[Int.mul_one]
 done:=by intro X hP hw hK hc i pins s σ H E I hf st hg;subst hP hw hK;obtain⟨f0,f1,f2,f3,f4,f5⟩:=hf it (by simp);exact wpAny_pyNext_range_end (I.ok.hd hc) st (by have:n<=i:=hg;omega) λh' eb=>⟨rfl,I.turned (λb o hb e=>eb b o hb e) f0 f1 f3 f4 f5⟩
 self:=λ_ _ _ _ _ st h=>wpAny_pyIter_rangeiter st h
section
variable{X:Cx}{tg:Expr}
theorem M5{σ:St}{lo hi:Int}(I:Inv X pins σ H s)(h1 : -(2^62)<=lo)(h2:lo<2^62)(h3 : -(2^62)<=hi)(h4:hi<2^62)
  (q:R (Itr lo (hi - lo).toNat) H):wpAny (model X.prog X.w) X.A (pyIter (.ref s.heap.objs.size)) (PIE X pins σ tg R) E { s with heap:=s.heap.push { cls:=.type "range",data:=.fields #[.int lo t,.int hi u,.int 1 v] },toks:=tk }:=by
 refine wpAny_pyIter_range (IsRange.new ..) (small_one h1 h2 h3 h4) ?_;have I1:Inv X pins σ H { s with heap:=s.heap.push { cls:=.type "range",data:=.fields #[.int lo t,.int hi u,.int 1 v] },toks:=tk }:=I.kept λb o e=>Qqq _ e;refine⟨(s.heap.push { cls:=.type "range",data:=.fields #[.int lo t,.int hi u,.int 1 v] }).objs.size,[(s.heap.push { cls:=.type "range",data:=.fields #[.int lo t,.int hi u,.int 1 v] }).objs.size],_,_,H,rfl,
  I1.kept λb o e=>Qqq _ e,Qp _ lo (hi - lo).toNat,?_,λb hb=>?_,q⟩
 ·have e1:lo+(0:Nat)*1=lo:=by simp
  have e2:((hi - lo).toNat) - (0:Nat)=Builtin.Range.rangeSize lo hi 1:=by rw[rangeSize_one];split<;>omega
  show IsRangeIter _ _ (lo+(0:Nat)*1) (((hi - lo).toNat) - (0:Nat)) 1;rw[e1,e2];exact Qq2 _ rfl
 ·have e:b=(s.heap.push { cls:=.type "range",data:=.fields #[.int lo t,.int hi u,.int 1 v] }).objs.size:=by simpa using hb
  subst e;exact I1.Sg (Qqw _)<|I1.hok.fresh<|Qqw _
def amK(ta:TA):TI:=λσ H R=>ta σ H λvs H1=>∃j:Int,vs=[.int j]/\-(2^62)<=j/\j<2^62/\R (Itr 0 j.toNat) H1
def amJ(ta:TA):TI:=λσ H R=>ta σ H λvs H1=>∃i j:Int,vs=[.int i,.int j]/\(-(2^62)<=i/\i<2^62/\-(2^62)<=j/\j<2^62)/\R (Itr i (j - i).toNat) H1
theorem Wg(hg:Gl X "range")(hm:X.mg "range" = none)(ha:PA X [a] ta)(hs:starEach [a] X.env=[(false,eval a X.env)]:=by rfl):PI X tg (.Call (.Name "range" p) [a] [] pos) (amK ta):=by
 intro pins s σ H R I h;refine Call_<|rQ I hg hm boot_range<|Qxv (fG (ha pos pins s σ H _ I h) λus s1 ⟨vs,H1,I1,r1,q1⟩=>?_) hs rfl;obtain⟨j,e,q1,q2,q⟩:=q1;subst e;cases r1 with
 | cons r rr=>
  cases rr;obtain⟨t,rfl⟩:=r;exact call_range_1<|M5 I1 (by omega) (by omega) q1 q2 (by simpa using q)
theorem Wf{p pos:Pos}(hg:Gl X "range")(hm:X.mg "range" = none)(ha:PA X [a,b] ta)(hs:starEach [a,b] X.env=[(false,eval a X.env),(false,eval b X.env)]:=by rfl)(hs2:starEach [b] X.env=[(false,eval b X.env)]:=by rfl) :
  PI X tg (.Call (.Name "range" p) [a,b] [] pos) (amJ ta):=by
 intro pins s σ H R I h;refine Call_<|rQ I hg hm boot_range<|Qxv (fG (ha pos pins s σ H _ I h) λus s1 ⟨vs,H1,I1,r1,q1⟩=>?_) (by rw[hs,hs2]) (by rw[hs2];rfl);obtain⟨i,j,e,⟨q1,q2,q3,q4⟩,q⟩:=q1;subst e;cases r1 with
 | cons r rr=>
  cases rr with
  | cons r' rr=>
   cases rr;obtain⟨t,rfl⟩:=r;obtain⟨t',rfl⟩:=r';exact call_range_2<|M5 I1 q1 q2 q3 q4 q
def aoE(wi:TI)(g:TG)(tb:TS):TS:=λD σ H=>wi σ H λJ H1=>∃W:Nat->Nat->St->Hp->Prop,(∃m,W 0 m σ H1)/\∀i m σ H,W i m σ H->
 (J.stop i H/\D.nx σ H)\/(J.go i H/\∃N:St->Hp->Prop,(∀σ' H',N σ' H'->∃m',m'<m/\W (i+1) m' σ' H')/\∀x H',J.Yb i H x H'->g x σ H' λσ2 H2=>tb { D with nx:=N,ct:=N,bk:=D.nx } σ2 H2)
noncomputable def oW(fp:List Addr)(h:Heap):List (Addr×Obj):=fp.filterMap λb=>(h.get? b).map λo=>(b,o)
theorem iG(hb:b∈fp)(e:h.get? b=some o):(b,o)∈oW fp h:=List.mem_filterMap.mpr ⟨b,hb,by rw[e];rfl⟩
theorem Wq(hp:p∈oW fp h):p.1∈fp/\h.get? p.1=some p.2:=by
 obtain⟨b,hb,e⟩:=List.mem_filterMap.mp hp;cases q:h.get? b with
 | none=>rw[q] at e;cases e
 | some o=>
  rw[q] at e;have e':=Qw6 e;subst e';exact⟨hb,q⟩
theorem Inv.pinned{σ:St}(I:Inv X pins σ H s)(hf:∀b∈fp,pG X pins H b)(ho:∀b∈fp,∃o,s.heap.get? b=some o/\∀v,o.data ≠ .cell v):Inv X (pins++oW fp s.heap) σ H s:=
 I.T6 λp hp=>(Qw5.mp hp).elim (λz=>I.pin p<|Qq6 _ z) λz=>by
  obtain⟨hb,e⟩:=Wq z;obtain⟨f0,f1,f2,_⟩:=hf p.1 hb;obtain⟨o,e',d⟩:=ho p.1 hb;rw[e] at e';cases e';exact⟨e,f0,f1,f2,d⟩
theorem Inv.pO{σ:St}(I:Inv X (pins++pl) σ H s):Inv X pins σ H s:=I.T6 λp hp=>I.pin p<|Qq6 _<|List.mem_append_left _ hp
theorem ahe(hp:PassesOwn (model X.prog X.w) X.A X.env X.xe)(hc:X.calm=true)(hi:PI X tg iter wi)(hg:PG X tg g)(hb:Qh X body tb)
  (hs:∀x,foldedSetIterable iter X.env x=pure x:=by intro _;rfl):PS X (.For tg iter body [] pos) (aoE wi g tb):=by
 intro pins s σ H D I h;refine wpAny_For (fG (hi pins s σ H _ I h) λv s1 h1=>fG h1 λitv s2 h2=>?_) hs;obtain⟨it,fp,tn,J,H2,e,I2,T,st2,f2,W,⟨m0,w0⟩,turn⟩:=h2;subst e
 -- what stays true of the iterator's objects through the loop
 have stat:∀{H'},(∀b∈fp,H' b=none)->∀b∈fp,pG X pins H' b:=λhn b hb=>⟨hn b hb,(f2 b hb).2⟩;refine codeAny_forLoop_any (λn s'=>∃i σ' H',Inv X pins σ' H' s'/\tn i s'.heap/\(∀b∈fp,H' b=none)/\W i n σ' H') ?_ m0 ⟨0,σ,H2,I2,st2,λb hb=>(f2 b hb).1,w0⟩;rintro n s3 ⟨i,σ3,H3,I3,st3,fr3,w3⟩;rcases turn i n σ3 H3 w3 with ⟨stop,qn⟩|⟨go,N,hN,step⟩
 ·refine wpAny_passesOwn hp<|fG (T.done X rfl rfl rfl hc i pins s3 σ3 H3 X.xe I3 (stat fr3) st3 stop) λr s4 ⟨hr,I4⟩=>?_;subst hr;exact wpAny_execs_nil ⟨σ3,H3,I4,qn⟩
 ·refine wpAny_passesOwn hp<|fG (T.item X rfl rfl rfl hc i pins s3 σ3 H3 X.xe I3 (stat fr3) st3 go) λr s4 ⟨u,hr,h4⟩=>?_;subst hr;refine wpAny_passesOwn hp<|fG h4 λ_ s5 ⟨x,H5,I5,r5,y5,XN,fr5⟩=>?_;have I5':=I5.pinned (stat fr5)<|T.obj _ _ XN;refine wpAny_passesOwn hp<|fG (hg _ s5 σ3 H5 x u _ I5' r5<|step x H5 y5) λ_ s6 ⟨σ6,H6,I6,q6⟩=>?_;refine wpAny_passesOwn hp<|fG (hb _ s6 σ6 H6 _ I6 q6) λf s7 q7=>?_;have again:∀{σ7} {H7},Inv X (pins++oW fp s5.heap) σ7 H7 s7->N σ7 H7->∃m,m<n/\∃i σ' H',Inv X pins σ' H' s7/\tn i s7.heap/\(∀b∈fp,H' b=none)/\W i m σ' H':=λ{σ7 H7} I7 n7=>by
   obtain⟨m',hm,w7⟩:=hN σ7 H7 n7;refine⟨m',hm,i+1,σ7,H7,I7.pO,T.keep _ _ _ XN λb hb o e=>(I7.pin (b,o)<|Qq6 _<|Qq6 _<|iG hb e).1,λb hb=>?_,w7⟩;obtain⟨o,e,d⟩:=T.obj _ _ XN b hb;exact(I7.pin (b,o)<|Qq6 _<|Qq6 _<|iG hb e).2.1
  cases f with
  | next=>obtain⟨σ7,H7,I7,n7⟩:=q7;exact again I7 n7
  | cont=>obtain⟨σ7,H7,I7,n7⟩:=q7;exact again I7 n7
  | brk=>obtain⟨σ7,H7,I7,q7⟩:=q7;exact⟨σ7,H7,I7.pO,q7⟩
  | ret v=>obtain⟨x7,σ7,H7,I7,r7,q7⟩:=q7;exact⟨x7,σ7,H7,I7.pO,r7,q7⟩
end
abbrev R2:=V->V->Hp->VK->Prop
def o9(X:Cx)(f:Value->Value->Sem Value)(r:R2):Prop:=
 ∀(pins:List (Addr×Obj)) (s:Shared) (σ:St) (H:Hp) (x y:V) (v u:Value) (Q:VK),Inv X pins σ H s->RelV x v->RelV y u->r x y H Q->
  wpAny (model X.prog X.w) X.A (f v u) (EP X pins σ Q) X.xe s
def UnR(X:Cx)(f:Value->Sem Value)(r:V->Hp->VK->Prop):Prop:=
 ∀(pins:List (Addr×Obj)) (s:Shared) (σ:St) (H:Hp) (x:V) (v:Value) (Q:VK),Inv X pins σ H s->RelV x v->r x H Q->
  wpAny (model X.prog X.w) X.A (f v) (EP X pins σ Q) X.xe s
def kZ(X:Cx)(f:Value)(r:List V->Hp->VK->Prop):Prop:=
 ∀(pins:List (Addr×Obj)) (s:Shared) (σ:St) (H:Hp) (xs:List V) (us:List Value) (Q:VK),Inv X pins σ H s->Vals xs us->r xs H Q->
  wpAny (model X.prog X.w) X.A (call f us) (EP X pins σ Q) X.xe s
def tOp(r:R2)(ta tb:TE):TE:=λσ H Q=>ta σ H λx H1=>tb σ H1 λy H2=>r x y H2 Q
def tUn(r:V->Hp->VK->Prop)(ta:TE):TE:=λσ H Q=>ta σ H λx H1=>r x H1 Q
def rI(C:Int->Int->Prop)(g:Int->Int->V):R2:=λx y H Q=>∃i j,x = .int i/\y = .int j/\C i j/\Q (g i j) H
def Qe(g:Int->Int->V):R2:=λx y H Q=>∃i j,x = .int i/\y = .int j/\Q (g i j) H
def rU(g:Int->V):V->Hp->VK->Prop:=λx H Q=>∃i,x = .int i/\Q (g i) H
section
variable{X:Cx}{a b c:Expr}{ta tb tc:TE}{pos:Pos}
theorem ajQ(ha:PE X a ta)(hb:PE X b tb){σ:St}{R:V->V->Hp->Prop}(I:Inv X pins σ H s)
  (h:ta σ H λx H1=>tb σ H1 λy H2=>R x y H2) {f:Value->Value->Sem Value}
  (hf:∀v u s2 x y H2,Inv X pins σ H2 s2->RelV x v->RelV y u->R x y H2->wpAny (model X.prog X.w) X.A (f v u) Q X.xe s2) :
  wpAny (model X.prog X.w) X.A (eval a X.env) (λv s₁=>wpAny (model X.prog X.w) X.A (eval b X.env) (λu s₂=>wpAny (model X.prog X.w) X.A (f v u) Q X.xe s₂) X.xe s₁) X.xe s:=by
 refine fG (ha pins s σ H _ I h) λv s1 ⟨x,H1,I1,r1,q1⟩=>?_;refine fG (hb pins s1 σ H1 _ I1 q1) λu s2 ⟨y,H2,I2,r2,q2⟩=>?_;exact hf v u s2 x y H2 I2 r1 r2 q2
theorem afL(ho:o9 X (binaryOp op) r)(ha:PE X a ta)(hb:PE X b tb):PE X (.BinOp a op b pos) (tOp r ta tb):=by intro pins s σ H Q I h;exact wpAny_BinOp<|ajQ ha hb I h λv u s2 x y H2 I2 rx ry q=>ho pins s2 σ H2 x y v u Q I2 rx ry q
theorem afK(ho:UnR X (unaryOp op) r)(ha:PE X a ta):PE X (.UnaryOp op a pos) (tUn r ta):=by intro pins s σ H Q I h;exact UnaryOp_<|fG (ha pins s σ H _ I h) λv s1 ⟨x,H1,I1,r1,q1⟩=>ho pins s1 σ H1 x v Q I1 r1 q1
theorem opI{g:Int->Int->Int}
  (rule:∀i j t u s Q E,C i j->Q (.int (g i j) s.toks) { s with toks:=s.toks+1 }->wpAny (model X.prog X.w) X.A (f (.int i t) (.int j u)) Q E s) :
  o9 X f (rI C λi j=>.int (g i j)):=by
 intro pins s σ H x y v u Q I rx ry h;obtain⟨i,j,rfl,rfl,hc,q⟩:=h;obtain⟨t,rfl⟩:=rx;obtain⟨t',rfl⟩:=ry;exact rule i j t t' s _ _ hc ⟨.int<|g i j,H,I.tok _,⟨_,rfl⟩,q⟩
theorem ahI{g:Int->Int->Int}
  (rule:∀i j t u s Q E,Q (.int (g i j) s.toks) { s with toks:=s.toks+1 }->wpAny (model X.prog X.w) X.A (f (.int i t) (.int j u)) Q E s) :
  o9 X f (Qe λi j=>.int (g i j)):=by
 intro pins s σ H x y v u Q I rx ry h;obtain⟨i,j,rfl,rfl,q⟩:=h;obtain⟨t,rfl⟩:=rx;obtain⟨t',rfl⟩:=ry;exact rule i j t t' s _ _ ⟨.int<|g i j,H,I.tok _,⟨_,rfl⟩,q⟩
theorem ahJ{g:Int->Int->Bool}
  (rule:∀i j t u s Q E,Q (.bool (g i j)) s->wpAny (model X.prog X.w) X.A (f (.int i t) (.int j u)) Q E s) :
  o9 X f (Qe λi j=>.bl (g i j)):=by
 intro pins s σ H x y v u Q I rx ry h;obtain⟨i,j,rfl,rfl,q⟩:=h;obtain⟨t,rfl⟩:=rx;obtain⟨t',rfl⟩:=ry;exact rule i j t t' s _ _ ⟨.bl<|g i j,H,I,rfl,q⟩
def anL(i j:Int):Prop:=0<j/\j<1073741824
def afy(i j:Int):Prop:=0<=j/\j<=1000000/\i.natAbs<2^64
theorem Qm(k):(0:Int)<=2^k:=by rw[two_pow_cast];exact Int.natCast_nonneg _
theorem ahH:o9 X (binaryOp .Add) (Qe λi j=>.int (i+j)):=ahI λ_ _ _ _ _ _ _ q=>add_int q
theorem aht:o9 X (binaryOp .Sub) (Qe λi j=>.int (i - j)):=ahI λ_ _ _ _ _ _ _ q=>sub_int q
theorem ahy:o9 X (binaryOp .Mod) (rI (λ_ j=>0<j) λi j=>.int (i % j)):=opI λi j _ _ _ _ _ hc q=>by
 have h1:=hc;exact mod_int' (by omega) (by rw[Int.fmod_eq_emod_of_nonneg i (by omega)];exact q)
theorem ahw:o9 X (binaryOp .Pow) (rI afy λi j=>.int (i^j.toNat)):=opI λ_ _ _ _ _ _ _ hc q=>pow_int_small hc.1 hc.2.1 hc.2.2 q
theorem ahv:o9 X (binaryOp .LShift) (rI afy λi j=>.int (i*2^j.toNat)):=opI λ_ _ _ _ _ _ _ hc q=>lshift_int_small hc.1 hc.2.1 hc.2.2 q
theorem ahu:o9 X (binaryOp .RShift) (rI (λ_ j=>0<=j) λi j=>.int (i / 2^j.toNat)):=opI λi j _ _ _ _ _ hc q=>
 rshift_int hc (by rw[Int.fdiv_eq_ediv_of_nonneg i (Qm _)];exact q)
theorem ahG:o9 X (binaryOp .BitAnd) (Qe λi j=>.int (Builtin.bitAnd i j)):=ahI λ_ _ _ _ _ _ _ q=>and_int q
theorem unI{g:Int->Int}
  (rule:∀i t s Q E,Q (.int (g i) s.toks) { s with toks:=s.toks+1 }->wpAny (model X.prog X.w) X.A (f (.int i t)) Q E s) :
  UnR X f (rU λi=>.int (g i)):=by
 intro pins s σ H x v Q I rx h;obtain⟨i,rfl,q⟩:=h;obtain⟨t,rfl⟩:=rx;exact rule i t s _ _ ⟨.int<|g i,H,I.tok _,⟨_,rfl⟩,q⟩
theorem Yo:UnR X (unaryOp .USub) (rU λi=>.int (-i)):=unI λ_ _ _ _ _ q=>neg_int q
end
theorem ajH:decide (V.bl i=V.bl j)=(i == j):=by rw[Qz5];simp
section
variable{X:Cx}{a b c:Expr}{ta tb tc:TE}{pos:Pos}
theorem wI{σ:St}(I:Inv X pins σ H s)(q:Q (.bl k) H)(e:k=k'):EP X pins σ Q (.bool k') s:=by subst e;exact⟨.bl k,H,I,rfl,q⟩
theorem alI:o9 X (compareOp .Lt) (Qe λi j=>.bl (decide (i<j))):=ahJ λ_ _ _ _ _ _ _ q=>lt_int q
theorem alJ:o9 X (compareOp .LtE) (Qe λi j=>.bl (decide (i<=j))):=ahJ λ_ _ _ _ _ _ _ q=>le_int q
theorem alK:o9 X (compareOp .Gt) (Qe λi j=>.bl (decide (j<i))):=ahJ λ_ _ _ _ _ _ _ q=>gt_int q
theorem Wm:o9 X (compareOp .Lt) (λx y H Q=>∃i j,x = .str i/\y = .str j/\Q (.bl (decide (i.cps.toList<j.cps.toList))) H):=by intro pins s σ H x y v u Q I rx ry h;obtain⟨i,j,rfl,rfl,q⟩:=h;obtain⟨t,rfl⟩:=rx;obtain⟨t',rfl⟩:=ry;exact lt_str<|wI I q rfl
theorem Wo:o9 X (compareOp .In) (λx y H Q=>∃i j,x = .str i/\y = .str j/\Q (.bl (!(Builtin.Str.occurrences j i 0 j.length 1).isEmpty)) H):=by intro pins s σ H x y v u Q I rx ry h;obtain⟨i,j,rfl,rfl,q⟩:=h;obtain⟨t,rfl⟩:=rx;obtain⟨t',rfl⟩:=ry;exact in_str<|wI I q rfl
theorem ahA:o9 X (compareOp .Is) (λx y H Q=>y = .non/\Q (.bl (decide (x = .non))) H):=by
 intro pins s σ H x y v u Q I rx ry h;obtain⟨rfl,q⟩:=h;cases ry;refine is_none_gen<|wI I q ?_;cases x<;>first
  | (cases rx;rfl)
  | (obtain⟨t,rfl⟩:=rx;rfl)
theorem adC:o9 X (compareOp .IsNot) (λx y H Q=>y = .non/\Q (.bl (!decide (x = .non))) H):=by
 intro pins s σ H x y v u Q I rx ry h;obtain⟨rfl,q⟩:=h;cases ry;refine isnot_none_gen<|wI I q ?_;cases x<;>first
  | (cases rx;rfl)
  | (obtain⟨t,rfl⟩:=rx;rfl)
theorem Ka:o9 X (compareOp .NotIn) (λx y H Q=>∃i j,x = .str i/\y = .str j/\Q (.bl (!(!(Builtin.Str.occurrences j i 0 j.length 1).isEmpty))) H):=by intro pins s σ H x y v u Q I rx ry h;obtain⟨i,j,rfl,rfl,q⟩:=h;obtain⟨t,rfl⟩:=rx;obtain⟨t',rfl⟩:=ry;exact notIn_str<|wI I q rfl
theorem o9.or(h:o9 X f r)(h':o9 X f r'):o9 X f (λx y H Q=>r x y H Q\/r' x y H Q):=by
 intro pins s σ H x y v u Q I rx ry q;rcases q with q|q
 ·exact h pins s σ H x y v u Q I rx ry q
 ·exact h' pins s σ H x y v u Q I rx ry q
theorem T7(ho:o9 X (compareOp op) r)(ha:PE X a ta)(hb:PE X b tb)(hm:behindInMarks op b=false):PE X (.Compare a [op] [b] pos) (tOp r ta tb):=by intro pins s σ H Q I h;exact wpAny_Compare1 (ajQ ha hb I h λv u s2 x y H2 I2 rx ry q=>ho pins s2 σ H2 x y v u Q I2 rx ry q) hm
def afC(t:TE):TT:=λσ H Q=>t σ H λx H'=>∃k,x = .bl k/\Q k H'
theorem T3(ho:o9 X (compareOp op) r)(ha:PE X a ta)(hb:PE X b tb)(hm:behindInMarks op b=false):PT X (.Compare a [op] [b] pos) (afC (tOp r ta tb)):=by
 intro pins s σ H Q I h;refine wpAny_isTrue_Compare1 (fG (ha pins s σ H _ I h) λv s1 ⟨x,H1,I1,r1,q1⟩=>fG (hb pins s1 σ H1 _ I1 q1) λu s2 ⟨y,H2,I2,r2,q2⟩=>
  fG (ho pins s2 σ H2 x y v u _ I2 r1 r2 q2) λc s3 ⟨z,H3,I3,r3,k,e,q3⟩=>?_) hm
 subst e;cases r3;exact Qx1 ⟨H3,I3,q3⟩
def QJ(r r':R2)(ta tb tc:TE):TE:=λσ H Q=>ta σ H λx H1=>tb σ H1 λy H2=>r x y H2 λz H3=>∃k,z = .bl k/\
 (if k=true then tc σ H3 λw' H4=>r' y w' H4 Q else Q (.bl false) H3)
theorem ZX(ho:o9 X (compareOp op) r)(ho':o9 X (compareOp op') r')(ha:PE X a ta)(hb:PE X b tb)(hc:PE X c tc)
  (hm:lastMarks [op,op'] [b,c]=false:=by with_unfolding_all rfl):PE X (.Compare a [op,op'] [b,c] pos) (QJ r r' ta tb tc):=by
 intro pins s σ H Q I h;refine Compare_chain (fG (ha pins s σ H _ I h) λv s1 ⟨x,H1,I1,r1,q1⟩=>chain_link (fG (hb pins s1 σ H1 _ I1 q1) λu s2 ⟨y,H2,I2,r2,q2⟩=>
  fG (ho pins s2 σ H2 x y v u _ I2 r1 r2 q2) λd s3 ⟨z,H3,I3,r3,k,e,q3⟩=>?_)) hm
 subst e;cases r3;refine Qx1 ?_;cases k with
 | false=>exact ite_ff ⟨.bl false,H3,I3,rfl,q3⟩
 | true=>exact ite_tt<|chain_last<|fG (hc pins s3 σ H3 _ I3 q3) λw' s4 ⟨z',H4,I4,r4,q4⟩=>ho' pins s4 σ H4 y z' u w' Q I4 r2 r4 q4
theorem Zz(ho:o9 X (compareOp op) r)(ho':o9 X (compareOp op') r')(ha:PE X a ta)(hb:PE X b tb)(hc:PE X c tc)
  (hm:lastMarks [op,op'] [b,c]=false:=by with_unfolding_all rfl):PT X (.Compare a [op,op'] [b,c] pos) (afC (QJ r r' ta tb tc)):=by
 intro pins s σ H Q I h;refine isTrue_chain (fG (ha pins s σ H _ I h) λv s1 ⟨x,H1,I1,r1,q1⟩=>test_link (fG (hb pins s1 σ H1 _ I1 q1) λu s2 ⟨y,H2,I2,r2,q2⟩=>
  fG (ho pins s2 σ H2 x y v u _ I2 r1 r2 q2) λd s3 ⟨z,H3,I3,r3,k,e,q3⟩=>?_)) hm
 subst e;cases r3;refine Qx1 ?_;cases k with
 | false=>
  obtain⟨k',e',q'⟩:=q3;cases e';exact ite_ff ⟨H3,I3,q'⟩
 | true=>
  refine ite_tt<|test_last<|fG (hc pins s3 σ H3 _ I3 q3) λw' s4 ⟨z',H4,I4,r4,q4⟩=>fG (ho' pins s4 σ H4 y z' u w' _ I4 r2 r4 q4) λd' s5 ⟨z2,H5,I5,r5,k2,e2,q5⟩=>?_;subst e2;cases r5;exact Qx1 ⟨H5,I5,q5⟩
theorem ai5{κ:Type}{kvs:List (κ×V)}{vs:List (κ×Value)}(r:KV kvs vs):(!vs.isEmpty) = !kvs.isEmpty:=by cases r<;>rfl
theorem ai4(r:Vals xs its):(!its.toArray.isEmpty) = !xs.isEmpty:=by cases r<;>simp
theorem Dc:sizeLine<2^63:=by rw[sizeLine_eq];decide
theorem Ru:o9 X (binaryOp .Add) (λx y H Q=>∃i j,x = .str i/\y = .str j/\i.length+j.length<=sizeLine/\Q (.str (i++j)) H):=by intro pins s σ H x y v u Q I rx ry h;obtain⟨i,j,rfl,rfl,hz,q⟩:=h;obtain⟨t,rfl⟩:=rx;obtain⟨t',rfl⟩:=ry;exact add_str (λt' tk=>⟨.str<|i++j,H,I.tok _,⟨_,rfl⟩,q⟩) hz
theorem vals1(r:Vals [x] us):∃u,us=[u]/\RelV x u:=by
 cases r with
 | cons r1 r2=>cases r2;exact⟨_,rfl,r1⟩
theorem vals2(r:Vals [x,y] us):∃u w',us=[u,w']/\RelV x u/\RelV y w':=by
 cases r with
 | cons r1 r2=>
  cases r2 with
  | cons r3 r4=>cases r4;exact⟨_,_,rfl,r1,r3⟩
def anF(K:PySem.W.Frag)(x:V)(H:Hp)(n:Nat):Prop:=
 match x with
 | .str y=>y.length<=sizeLine/\n=y.length
 | .byt y=>y.size<=sizeLine/\n=y.size
 | .ref p=>(∃xs,jR K H p xs/\n=xs.length)\/∃xs,oH K H p xs/\n=xs.length
 | _=>False
theorem abC:kZ X (.builtin "len") (λxs H Q=>∃x n,xs=[x]/\anF X.K x H n/\Q (.int n) H):=by
 intro pins s σ H xs us Q I r h;obtain⟨x,n,rfl,e,q⟩:=h;obtain⟨u,rfl,rx⟩:=vals1 r;have hl:=Dc;have hs:=sizeLine_eq;cases x with
 | str y=>
  obtain⟨t,rfl⟩:=rx;obtain⟨hy,e'⟩:y.length<=sizeLine/\n=y.length:=e;subst e';exact len_str (by omega) ⟨.int _,H,I.tok _,⟨_,rfl⟩,q⟩
 | byt y=>
  obtain⟨t,rfl⟩:=rx;obtain⟨hy,e'⟩:y.size<=sizeLine/\n=y.size:=e;subst e';exact PySem.W.len_bytes (by omega) ⟨.int _,H,I.tok _,⟨_,rfl⟩,q⟩
 | ref p=>
  cases rx;have e':=e;rcases e' with ⟨xs,hx,e'⟩|⟨xs,hx,e'⟩
  ·subst e';obtain⟨its,r',pl,hz⟩:=I.list hx;have hlen:=r'.length;exact Calls.call_len_list pl.isList (by simp[Qq7];omega) ⟨.int xs.length,H,I.tok _,⟨_,by simp only[Qq7];rw[hlen]⟩,q⟩
  ·subst e';obtain⟨its,r',pl,hz⟩:=I.tuple hx;have hlen:=r'.length;exact len_tuple pl (by simp[Qq7];omega) ⟨.int xs.length,H,I.tok _,⟨_,by simp only[Qq7];rw[hlen]⟩,q⟩
 | _=>exact e.elim
theorem Pg:kZ X (.builtin "divmod") (λxs H Q=>∃i j,xs=[.int i,.int j]/\anL i j/\∀p,H p=none->Q (.ref p) (upd H p (.tup [.int (i / j),.int (i % j)]))):=by intro pins s σ H xs us Q I r h;obtain⟨i,j,rfl,⟨h1,h2⟩,q⟩:=h;obtain⟨u,w',rfl,⟨t,rfl⟩,⟨t',rfl⟩⟩:=vals2 r;refine divmod_int (by omega) ?_<|.inl<|PyProof.noPylong_small (by omega);rw[Int.fdiv_eq_ediv_of_nonneg i (by omega),Int.fmod_eq_emod_of_nonneg i (by omega)];have hn:=I.hok.fresh<|Qqw _;refine⟨.ref s.heap.objs.size,_,?_,rfl,q _ hn⟩;refine I.laid (λb o e=>Qqq _ e) (Qqw _) ⟨by simp[Qq3,List.length_nil];rw[sizeLine_eq];decide,[.int (i / j) s.toks,.int (i % j)<|s.toks+1],.cons ⟨_,rfl⟩<|.cons ⟨_,rfl⟩ .nil,?_⟩;exact⟨_,Qq2 s.heap rfl,rfl,⟨0,rfl⟩,rfl⟩
end
theorem Gq.some_of(r:Gq (some v) o):∃u,o=some u/\RelV v u:=by
 cases o with
 | none=>exact r.elim
 | some u=>exact⟨u,rfl,r⟩
structure lF(k:Nat)(A:Around):Prop where
 hd:A.handled=none
 dp:A.depth+3*k+5<recursionLimit
 un:A.units+16*k+200<cLine
theorem lF.mono(r:lF k A)(h:j<=k):lF j A:=⟨r.hd,by have:=r.dp;omega,by have:=r.un;omega⟩
theorem lF.deeper(r:lF (k+1) A)(env):lF k (A.deeper env):=
 ⟨r.hd,by have:=r.dp;show A.depth+1+3*k+5<_;omega,by have:=r.un;show A.units+3+16*k+200<_;omega⟩
theorem lF.depth(r:lF k A):A.depth<recursionLimit:=by have:=r.dp;omega
theorem lF.units(r:lF k A):A.units+64<cLine:=by have:=r.un;omega
def aoA:TA:=λ_ H Q=>Q [] H
def akY(ta:TE)(tr:TA):TA:=λσ H Q=>ta σ H λx H1=>tr σ H1 λxs H2=>Q (x::xs) H2
section
variable{X:Cx}{e:Expr}{es:List Expr}{te:TE}{t:TA}{pos:Pos}
theorem qG:PA X [] aoA:=λ_ _ _ _ H Q I h=>Calls.spliced_nil ⟨[],H,I,.nil,h⟩
theorem j8(ha:PE X e te)(hr:PA X es t)(hs:starEach (e::es) X.env=(false,eval e X.env)::starEach es X.env:=by rfl):PA X (e::es) (akY te t):=by intro pos pins s σ H Q I h;rw[hs];show wpAny _ _ (spliced ((false,eval e X.env)::backTo pos (starEach es X.env))) _ _ s;refine Calls.spliced_cons<|fG (ha pins s σ H _ I h) λu s1 ⟨x,H1,I1,r1,q1⟩=>?_;exact fG (hr pos pins s1 σ H1 _ I1 q1) λus s2 ⟨xs,H2,I2,r2,q2⟩=>⟨x::xs,H2,I2,.cons r1 r2,q2⟩
def aot(t:TA):TE:=λσ H Q=>t σ H λxs H1=>xs.length<=sizeLine/\∀p,H1 p=none->Q (.ref p) (upd H1 p (.tup xs))
def aoB(t:TA):TE:=λσ H Q=>t σ H λxs H1=>xs.length<=sizeLine/\∀p,H1 p=none->Q (.ref p) (upd H1 p (.lst xs))
theorem ahk{x1}(h:PA X es t):PE X (.Tuple es x1 pos) (aot t):=by intro pins s σ H Q I hq;refine wpAny_Tuple_spliced<|fG (h pos pins s σ H _ I hq) λus s1 ⟨xs,H1,I1,r,z,q⟩=>⟨by rw[<-r.length];exact z,?_⟩;have hf:=I1.hok.fresh<|Qqw _;refine⟨.ref s1.heap.objs.size,upd H1 s1.heap.objs.size<|.tup xs,I1.laid (λb u e=>Qqq _ e) (Qqw _) ?_,rfl,q _ hf⟩;exact⟨z,us,r,Gn.new _ _⟩
theorem ahq(h:PA X es t):PE X (.List es pos) (aoB t):=by intro pins s σ H Q I hq;refine wpAny_List_spliced<|fG (h pos pins s σ H _ I hq) λus s1 ⟨xs,H1,I1,r,z,q⟩=>⟨by rw[<-r.length];exact z,?_⟩;have hf:=I1.hok.fresh<|Qqw _;refine⟨.ref s1.heap.objs.size,upd H1 s1.heap.objs.size<|.lst xs,I1.laid (λb u e=>Qqq _ e) (Qqw _) ?_,rfl,q _ hf⟩;exact⟨z,us,0,r,Qq2 _ rfl⟩
end
abbrev Sp:=List V->Hp->VK->XK->Prop
abbrev CXT:=List Env->Hp->Shared->XK->Value->Shared->Prop
structure afx(P:Program)(w:World)(K:PySem.W.Frag)(mg:Str->Option Value)(base:Heap)(A:Around)(outer:List Env)(s:Shared)(H:Hp):Prop where
 frames:A.frames=some outer
 mod:Mod K mg base
 bs:∀b o,base.get? b=some o->s.heap.get? b=some o/\H b=none
 bsz:base.objs.size<=s.heap.objs.size
 Ed:s.heap.FunFrames base outer
 frf:∀b∈frs outer,H b=none
 hok:yg P w H s.heap
 bare:AllBare s.gens
def CE(outer:List Env)(P:Program)(w:World)(H:Hp)(s:Shared)(Q:VK)(u:Value)(s':Shared):Prop:=
 ∃v H',s'.os=s.os/\AllBare s'.gens/\Un (frs outer) [] H H' s.heap s'.heap/\yg P w H' s'.heap/\RelV v u/\Q v H'
def CR(CX:CXT)(outer:List Env)(P:Program)(w:World)(H:Hp)(s:Shared)(Q:VK)(E:XK)(r:Result)(s':Shared):Prop:=
 match r with
 | .ok (.ret u)=>CE outer P w H s Q u s'
 | .ok _=>False
 | .error e=>CX outer H s E e s'
structure qd(P:Program)(w:World)(K:PySem.W.Frag)(mg:Str->Option Value)(base:Heap)(CX:CXT)(k:Nat)(f:Addr)(fd:FuncData)(ps:List Str)(sp:Sp):Prop where
 len:∀vs H Q E,sp vs H Q E->vs.length=ps.length
 run:∀(A:Around) (outer:List Env) (s:Shared) (H:Hp) (args:Args) (us:List Value) (vs:List V) (Q:VK) (E:XK),lF k A->afx P w K mg base A outer s H->BindsTo s fd args (ps.zip us)->Vals vs us->sp vs H Q E->
  codeAny (model P w) A (.call (.ref f) args) (CR CX outer P w H s Q E) s
section
variable{X:Cx}{pins:List (Addr×Obj)}{σ:St}{H:Hp}{s s':Shared}
theorem Inv.env0(I:Inv X pins σ H s):afx X.prog X.w X.K X.mg X.base X.A X.stack s H:=
 ⟨I.ok.frames,I.ok.mod,I.bs,Qqj I.ok.bsz I.sz,I.stack,I.Tv,I.hok,I.bare⟩
theorem Inv.after(I:Inv X pins σ H s)(h:CE X.stack X.prog X.w H s Q u s'):EP X pins σ Q u s':=by obtain⟨v,H',os,bare,un,hok,r,q⟩:=h;obtain⟨hh,g,d,t,os'⟩:=s';obtain rfl:os'=s.os:=os;exact⟨v,H',I.call un hok bare<|λb z=>absurd z (by simp),r,q⟩
end
def afD(sp:Sp)(dvs:List V)(E:XK)(t:TA):TE:=λσ H Q=>t σ H λvs H1=>sp (vs++dvs) H1 Q E
def Binds(K:PySem.W.Frag)(fd:FuncData)(ps:List Str)(ds:List Value):Prop:=
 ∀(s:Shared) (us:List Value),K.In s.heap->(us++ds).length=ps.length->BindsTo s fd ⟨us,[]⟩ (ps.zip (us++ds))
theorem Binds.all{K:PySem.W.Frag}(h:∀us,us.length=ps.length->bindArgs fd ⟨us,[]⟩=pure (ps.zip us)):Binds K fd ps []:=λs us _ hl=>by
 rw[Qx5] at hl ⊢;exact .of_eq<|h us hl
def Passes(CX:CXT)(X:Cx)(E:XK):Prop:=∀(pins:List (Addr×Obj)) (σ:St) (H:Hp) (s:Shared) (e:Value) (s':Shared),Inv X pins σ H s->CX X.stack H s E e s'->X.xe e s'
section
variable{X:Cx}{CX:CXT}{k:Nat}{f C:Addr}{fd:FuncData}{ps:List Str}{sp:Sp}{dvs:List V}{ds:List Value}{E:XK}{x m:Str}{p pos apos:Pos}{e o:Expr}{es:List Expr}{ta:TE}{t:TA}
theorem YZ{σ:St}(F:qd X.prog X.w X.K X.mg X.base CX k f fd ps sp)(hr:lF k X.A)(hb:Binds X.K fd ps ds)(hd:Vals dvs ds)(hx:Passes CX X E)
  (I:Inv X pins σ H s) (r:Vals vs us) (h:sp (vs++dvs) H Q E):wpAny (model X.prog X.w) X.A (call (.ref f) us) (EP X pins σ Q) X.xe s:=by
 have r2:=r.append hd;have hl:(us++ds).length=ps.length:=by rw[<-r2.length];exact F.len _ _ _ _ h
 refine wpAny_call<|codeAny_mono (F.run X.A X.stack s H ⟨us,[]⟩ (us++ds) (vs++dvs) Q E hr I.env0 (hb s us I.WR hl) r2 h) λr s' hq=>?_;cases r with
 | error e=>exact hx pins σ H s e s' I hq
 | ok fl=>
  cases fl with
  | ret u=>exact I.after hq
  | next=>exact False.elim hq
  | brk=>exact False.elim hq
  | cont=>exact False.elim hq
theorem J9(F:qd X.prog X.w X.K X.mg X.base CX k f fd ps sp)(hr:lF k X.A)(hg:Gl X x)(hm:X.mg x=some (.ref f))(hk:PySem.W.keepIn X.K (.ref f)=true)(hb:Binds X.K fd ps ds)(hd:Vals dvs ds)(hx:Passes CX X E)
  (ha:PA X (e::es) t) (hdb:qi x:=by decide) (he:starEach (e::es) X.env=(false,eval e X.env)::starEach es X.env:=by rfl) (hpl:(backTo pos (starEach es X.env)).any (·.1)=false:=by rfl) :
  PE X (.Call (.Name x p) (e::es) [] pos) (afD sp dvs E t):=by
 intro pins s σ H Q I h;refine wpAny_Call_Name_kw<|Uk I hg hm ?_ hdb;refine PySem.W.callWith_K I.ok.mod.Um hk (fG (ha pos pins s σ H _ I h) λus s1 ⟨vs,H1,I1,r,q⟩=>⟨I1.WR,?_⟩) he hpl;exact YZ F hr hb hd hx I1 r q
end
def PK(X:Cx)(kws:List Keyword)(t:TA):Prop:=
 ∀(pos:Pos) (pins:List (Addr×Obj)) (s:Shared) (σ:St) (H:Hp) (Q:List V->Hp->Prop),Inv X pins σ H s->t σ H Q->wpAny (model X.prog X.w) X.A (evalAll ((backToKw pos (keywordEach kws X.env)).map (·.2))) (AP X pins σ Q) X.xe s
structure bf(N P:List Str)(sc:Scope):Prop where
 kind:sc.kind = .function
 co:sc.isCoroutine=false
 gen:sc.isGenerator=false
 nd:N.Nodup
 pre:N.take P.length=P
 par:∀x∈P,sc.names.lookup x=some .local\/sc.names.lookup x=some .cell
 ahY:∀y∈sc.names,y.2 ≠ .free
theorem IV{kindOf:Str->Option NameKind}:∀{binds} {m},(∀v,(x,v) ∉ binds)->bindL kindOf binds m x=m x
 | [],_,_=>rfl
 | (n,v)::r,m,h=>by
  unfold bindL;rw[IV λw hw=>h w<|Qq0 _ hw];split
  ·have:x≠n:=by rintro rfl;exact h v Qq5
   simp[this]
  ·rfl
theorem Ja{kindOf:Str->Option NameKind}:∀{binds} {m},(∀v,(x,v) ∉ binds)->bindC kindOf binds m x=m x
 | [],_,_=>rfl
 | (n,v)::r,m,h=>by
  unfold bindC;rw[Ja λw hw=>h w<|Qq0 _ hw];split
  ·rfl
  ·have:x≠n:=by rintro rfl;exact h v Qq5
   simp[this]
theorem IW{kindOf:Str->Option NameKind}:∀{P:List Str} {vs} {i:Nat} {m},P.Nodup->P[i]? = some x->vs[i]? = some v->kindOf x=some .local->
  bindL kindOf (P.zip vs) m x=some v
 | [],_,_,_,_,h,_,_=>by simp at h
 | _::_,[],_,_,_,_,h,_=>by simp at h
 | p::P,w::vs,0,m,nd,h1,h2,hk=>by
  simp at h1 h2;subst h1;subst h2;show bindL kindOf ((p,w)::P.zip vs) m p=_;unfold bindL;rw[IV λv hv=>(Qz2.mp nd).1 (Qj6 hv).1,if_pos hk];simp
 | p::P,w::vs,i+1,m,nd,h1,h2,hk=>by
  show bindL kindOf ((p,w)::P.zip vs) m x=_;unfold bindL;exact IW (Qz2.mp nd).2 (by simpa using h1) (by simpa using h2) hk
theorem Jb{kindOf:Str->Option NameKind}:∀{P:List Str} {vs} {i:Nat} {m},P.Nodup->P[i]? = some x->vs[i]? = some v->kindOf x≠some .local->
  bindC kindOf (P.zip vs) m x=some v
 | [],_,_,_,_,h,_,_=>by simp at h
 | _::_,[],_,_,_,_,h,_=>by simp at h
 | p::P,w::vs,0,m,nd,h1,h2,hk=>by
  simp at h1 h2;subst h1;subst h2;show bindC kindOf ((p,w)::P.zip vs) m p=_;unfold bindC;rw[Ja λv hv=>(Qz2.mp nd).1 (Qj6 hv).1,if_neg hk];simp
 | p::P,w::vs,i+1,m,nd,h1,h2,hk=>by
  show bindC kindOf ((p,w)::P.zip vs) m x=_;unfold bindC;exact Jb (Qz2.mp nd).2 (by simpa using h1) (by simpa using h2) hk
noncomputable def start(N:List Str)(vs:List V):St:=vs.map some++List.replicate (N.length - vs.length) none
noncomputable def Sy(CX:CXT)(P:Program)(w:World)(K:PySem.W.Frag)(mg:Str->Option Value)(base:Heap)(N:List Str)(qual:Str)(scope:Scope)(f:Addr)(cd:Value)(A:Around)(outer:List Env)(s:Shared)(H:Hp)(E:XK):Cx where
 prog:=P
 w:=w
 K:=K
 mg:=mg
 base:=base
 A:=A.deeper (envOfC qual scope s.heap.objs.size f cd)
 N:=N
 s₀:=s
 H₀:=H
 env:=envOfC qual scope s.heap.objs.size f cd
 outer:=outer
 stack:=envOfC qual scope s.heap.objs.size f cd::outer
 ex:=[]
 calm:=true
 fn:=λ_=>true
 pn:=[]
 xe:=λe s'=>wpAny (model P w) (A.deeper (envOfC qual scope s.heap.objs.size f cd)) (leaving (envOfC qual scope s.heap.objs.size f cd) e) (λ_ s''=>CX outer H s E e s'') (λe' s''=>CX outer H s E e' s'') s'
theorem Et{sc:Scope}(h:sc.names.lookup x=some .cell):∃c,(cellsFrom n sc.names []).lookup x=some c:=by have q:=PySem.W.cellsFrom_some sc.names n []<|.inl h;exact Qxq.mp q
theorem WW{K:PySem.W.Frag}
  (S:bf N ps scope) (hd:A.handled=none) (e0:afx P w K mg base A outer s H) (hl:vs.length=ps.length) (r:Vals vs us)
  (x:InCallC s s.heap.objs.size (bindL (envOfC qual scope s.heap.objs.size f cd).kindOf (ps.zip us) λ_=>none) (cellsFrom (s.heap.objs.size+1) scope.names []) (bindC (envOfC qual scope s.heap.objs.size f cd).kindOf (ps.zip us) λ_=>none) s1) :
  Inv (Sy CX P w K mg base N qual scope f cd A outer s H E) [] (start N vs) H s1:=by
 have hpl:ps.length<=N.length:=by have:=Qx7 List.length S.pre;rw[Qw4] at this;omega
 obtain⟨h1,tk,rfl,hk⟩:=x.done;have noA:∀b,b ∉ (Sy CX P w K mg base N qual scope f cd A outer s H E).ex:=λb z=>absurd (show b∈[] from z) (by simp);refine⟨⟨e0.mod,S.kind,rfl,rfl,Qqw _,λy z c h1 h2=>?_,λy hy=>?_,λy c _ h=>?_,λ_=>hd,Around.frames_deeper e0.frames,.inr ⟨rfl,rfl⟩,λb z=>absurd z<|noA b,e0.bs,e0.bsz,λb _ _=>noA b,λb z=>absurd z<|noA b,e0.Ed,e0.frf⟩,
  rfl,e0.bare,Un.kept hk,⟨_,x.toInCall.ns,λi y v h1 h2 h3=>?_⟩,λy c h=>⟨_,x.cell y c h⟩,e0.hok.fresh<|Qqw _,λy c h=>?_,λp hp=>absurd (show p∈[] from hp) (by simp),e0.hok.kept hk,?_⟩
 ·exact name_of_addr x.apart (Qj0 h1)<|Qj0 h2
 ·have hy:=hy;rcases hy with hy|hy
  ·exact Et hy
  ·exact absurd rfl (S.ahY _<|Qj0 hy)
 ·exact Qkq<|x.above y c<|Qj0 h
 ·have hi:i<vs.length:=by
   unfold start at h2;by_cases hi:i<vs.length
   ·exact hi
   ·rw[List.getElem?_append_right (by simpa using hi)] at h2;rw[List.getElem?_replicate] at h2;split at h2<;>cases h2
  have ha:vs[i]? = some v:=by
   unfold start at h2;rw[Qjj (by simpa using hi),Qw1] at h2;cases e:vs[i]? with
   | none=>rw[e] at h2;cases h2
   | some a=>rw[e] at h2;cases h2;rfl
  obtain⟨u,hu,rv⟩:=r.get ha;have hp:ps[i]? = some y:=by rw[<-S.pre,List.getElem?_take_of_lt (by omega)];exact h1
  have ndP:ps.Nodup:=by rw[<-S.pre];exact S.nd.sublist<|List.take_sublist _ _
  refine⟨u,rv,?_⟩;rcases S.par y (List.mem_of_getElem? hp) with k|k
  ·exact .inl ⟨k,IW ndP hp hu k⟩
  ·obtain⟨c,e⟩:=Et k;refine .inr ⟨.inl k,c,e,?_⟩;have q:=x.cell y c e;rw[Jb ndP hp hu (by show scope.names.lookup y≠_;rw[k];decide)] at q;exact q
 ·exact .inl<|e0.hok.fresh<|Qkq<|x.above y c<|Qj0 h
 ·unfold start;show _=N.length;rw[Qq1,Qqz,Qxz];omega
theorem am7{K:PySem.W.Frag}{dV kV doc pm cdv ct oc:Value}
  (lk:K.lookup f=some ⟨oc,od,.func (PySem.W.fnOf name qual params body scope dV kV doc pm an cdv ct),osl⟩) (hcd:PySem.W.codeIn K cdv qual=true) (S:bf N ps scope)
  (len:∀vs H Q E,sp vs H Q E->vs.length=ps.length)
  (hbody:∀A outer s H vs Q E,lF k (A.deeper (envOfC qual scope s.heap.objs.size f cdv))->sp vs H Q E->
   ∃t,Qh (Sy CX P w K mg base N qual scope f cdv A outer s H E) body t/\t { nx:=λ_ H'=>Q .non H',rt:=Q } (start N vs) H) :
  qd P w K mg base CX (k+1) f (PySem.W.fnOf name qual params body scope dV kV doc pm an cdv ct) ps sp:=by
 refine⟨len,λA outer s H args us vs Q E hr e0 hb r hsp=>?_⟩;have hl:=len _ _ _ _ hsp;have KX:=e0.mod.Um.keeps λb o e=>(e0.bs b o e).1;have lim:=e0.mod.nolimit.keeps λb o e=>(e0.bs b o e).1;have hkind:∀y∈ps.zip us,scope.names.lookup y.1=some .local\/(scope.names.lookup y.1=some .cell/\((cellsFrom (s.heap.objs.size+1) scope.names []).lookup y.1).isSome=true):=λ⟨n,v⟩ hy=>by
  rcases S.par n (Qj6 hy).1 with q|q
  ·exact .inl q
  ·exact .inr ⟨q,PySem.W.cellsFrom_some _ _ _<|.inl q⟩
 refine codeAny_call_function hr.depth (KX _ _ lk) rfl S.co S.gen rfl (PySem.W.codeRec_of KX hcd) (hb _ _ _ _ ?_);refine wpAny_newFunctionEnv_cells S.kind hkind λenv he s1 x=>?_;subst he;refine⟨lim.keeps x.toInCall.keep,codeAny_func ?_⟩;obtain⟨t,ht,hq⟩:=hbody A outer s H vs Q E (hr.deeper _) hsp;have I:Inv (Sy CX P w K mg base N qual scope f cdv A outer s H E) [] (start N vs) H s1:=WW S hr.hd e0 hl r x;refine Qw3 (ht [] s1 (start N vs) H _ I hq) (λfl s' hs=>?_) λe s' hs=>hs;have fin:∀{σ'} {H'} {v} {u},Inv (Sy CX P w K mg base N qual scope f cdv A outer s H E) [] σ' H' s'->RelV v u->Q v H'->CE outer P w H s Q u s':=
  λ{σ' H' v u} J rv q=>⟨v,H',J.os,J.bare,J.base,J.hok,rv,q⟩
 cases fl with
 | ret u=>
  obtain⟨v,σ',H',J,rv,q⟩:=hs;exact fin J rv q
 | next=>
  obtain⟨σ',H',J,q⟩:=hs;exact fin (v:=V.non) J rfl q
 | brk=>
  obtain⟨_,_,_,q⟩:=hs;exact False.elim q
 | cont=>
  obtain⟨_,_,_,q⟩:=hs;exact False.elim q
section
variable{X:Cx}{x:Str}{p pos:Pos}{e:Expr}{es:List Expr}{t:TA}{id T:String}{r:List V->Hp->VK->Prop}
def tCB(r:List V->Hp->VK->Prop)(t:TA):TE:=λσ H Q=>t σ H λvs H1=>r vs H1 Q
theorem Cw(hc:kZ X (.builtin id) r)(hg:Gl X x)(hm:X.mg x=none)(hv:bootBuiltins x=some (.builtin id))(ha:PA X (e::es) t)(hn:x ≠ "__name__":=by decide)(hdb:qi x:=by decide)
  (he:starEach (e::es) X.env=(false,eval e X.env)::starEach es X.env:=by rfl) (hpl:(backTo pos (starEach es X.env)).any (·.1)=false:=by rfl):PE X (.Call (.Name x p) (e::es) [] pos) (tCB r t):=by
 intro pins s σ H Q I h;refine wpAny_Call_Name_kw<|rQ I hg hm hv ?_ hn hdb;exact PyProof.Rows.callWith_builtin1 (fG (ha pos pins s σ H _ I h) λus s1 ⟨vs,H1,I1,r1,q1⟩=>hc pins s1 σ H1 vs us Q I1 r1 q1) he hpl
theorem yZ(hc:kZ X (.type T) r)(hg:Gl X x)(hm:X.mg x=none)(hv:bootBuiltins x=some (.type T))(ha:PA X (e::es) t)(hn:x ≠ "__name__":=by decide)(hdb:qi x:=by decide)
  (he:starEach (e::es) X.env=(false,eval e X.env)::starEach es X.env:=by rfl) (hpl:(backTo pos (starEach es X.env)).any (·.1)=false:=by rfl):PE X (.Call (.Name x p) (e::es) [] pos) (tCB r t):=by
 intro pins s σ H Q I h;refine wpAny_Call_Name_kw<|rQ I hg hm hv ?_ hn hdb;exact Qxv (fG (ha pos pins s σ H _ I h) λus s1 ⟨vs,H1,I1,r1,q1⟩=>hc pins s1 σ H1 vs us Q I1 r1 q1) he hpl
end
end L2
namespace HT
open PySem PyProof.Rows
section
variable{prog:Program}{w:World}{A:Around}{E:Value->Shared->Prop}{s:Shared}
theorem ae1(ht:IsTup s.heap t vs.toArray)(hb:IsTup s.heap b ws.toArray)(hv:vs≠[])
  (h1:ws=[]->Q (.ref t) s) (h2:ws≠[]->Q (.ref s.heap.objs.size) { s with heap:=s.heap.push { cls:=.type "tuple",data:=.seq (vs++ws).toArray } })
  (hsz:vs.length+ws.length<=sizeLine):wpAny (model prog w) A (binaryOp .Add (.ref t) (.ref b)) Q E s:=by
 obtain⟨⟨cls,dd,data,sl⟩,ho,hc,n,hd⟩:=id ht;obtain⟨⟨cls2,dd2,data2,sl2⟩,ho2,hc2,n2,hd2⟩:=id hb;simp at hc hd hc2 hd2;subst hc hd hc2 hd2;have e:vs.toArray++ws.toArray=(vs++ws).toArray:=by simp
 by_cases hw:ws=[]
 ·exact concat_meets ⟨_,ho,rfl⟩ ⟨_,ho2,rfl⟩ noFill_tuple_add seq_tuple_add PySem.F.slot_tuple_add PySem.F.entry_tuple_add (PySem.F.args_tuple_add_2 _ _)
   (tuple_addW1 t b vs.toArray ws.toArray n n2 dd dd2 sl sl2 (by simpa using hv) (by simp[hw])) ⟨ho,ho2,h1 hw⟩
 ·refine concat_meets ⟨_,ho,rfl⟩ ⟨_,ho2,rfl⟩ noFill_tuple_add seq_tuple_add PySem.F.slot_tuple_add PySem.F.entry_tuple_add (PySem.F.args_tuple_add_2 _ _)
   (tuple_addW2 t b vs.toArray ws.toArray n n2 dd dd2 sl sl2 (by simpa using hv) (by simpa using hw) (by rw[Qq7,Qq7];exact hsz)) ⟨ho,ho2,?_⟩
  rw[e];exact h2 hw
noncomputable def gZ(n d:Nat):Option Int->Nat
 | none=>d
 | some v=>if v<0 then (v+(n:Int)).toNat else min v.toNat n
theorem M3(n d):gZ n d none=d:=rfl
theorem Tz(n d k:Nat):gZ n d (some k)=min k n:=by show(if k<0 then (k+(n:Int)).toNat else min (k:Int).toNat n)=min k n;rw[if_neg (by omega),Qzy]
theorem J3(n d)(hd:d<=n)(o):gZ n d o<=n:=by
 cases o with
 | none=>exact hd
 | some v=>
  show(if v<0 then (v+n).toNat else min v.toNat n)<=n;by_cases hv:v<0
  ·rw[if_pos hv];omega
  ·rw[if_neg hv];exact Nat.min_le_right _ _
theorem U7(v)(n d:Nat):(if v<0 then max (v+(n:Int)) 0 else min v n)=(gZ n d (some v)):=by
 show(if v<0 then max (v+n) 0 else min v n)=(if v<0 then (v+n).toNat else min v.toNat n);by_cases hv:v<0
 ·simp only[if_pos hv];omega
 ·simp[if_neg hv];omega
theorem Tf(lo hi)(n:Nat):Builtin.Slice.sliceAdjust lo hi 1 n=(((gZ n 0 lo):Int),((gZ n n hi):Int)):=by
 have h1:¬(1<0):=by omega
 unfold Builtin.Slice.sliceAdjust;simp only[h1,if_false];refine Prod.ext ?_ ?_
 ·cases lo with
  | none=>rfl
  | some v=>exact U7 v n 0
 ·cases hi with
  | none=>rfl
  | some v=>exact U7 v n n
theorem Ro(i j:Nat):Builtin.Slice.slicePlaces i j 1=j - i:=by
 unfold Builtin.Slice.slicePlaces;have h1:1 > 0:=by omega
 simp[h1,if_true,Int.ediv_one];split<;>omega
theorem BV(p:IsPart v o)(h:Q o s):wpAny (model prog w) A (Builtin.Slice.slicePartIndex v) Q E s:=by
 cases p with
 | none=>exact slicePart_none h
 | int i t=>exact slicePart_int h
theorem qT{lo hi:Option Int}{Q:Int×Int×Nat->Shared->Prop}(hs:s.heap.IsSliceOf sl vl vu .none)(pl:IsPart vl lo)(pu:IsPart vu hi)
  (h:Q ((gZ n 0 lo),1,gZ n n hi - gZ n 0 lo) s):wpAny (model prog w) A (Builtin.Slice.sliceApplied (.ref sl) (pure n)) Q E s:=by
 obtain⟨os,hos,hcs,hds⟩:=id hs;unfold Builtin.Slice.sliceApplied Builtin.Slice.sliceFields;refine Qqx<|Qqx<|Qzx hos hds rfl (Qqx<|Qzx hos hds rfl (Qqx<|Qzx hos hds rfl (Qqk ?_)));refine Qqx<|slicePart_none ?_;show wpAny _ _ (if (1 == 0)=true then _ else _) _ _ s;rw[if_neg (by decide)];refine Qqx<|BV pl<|Qqx<|BV pu<|Qqx<|Qqk ?_;show wpAny _ _ (match Builtin.Slice.sliceAdjust lo hi 1 n with|(lo,hi)=>pure (lo,(1:Int),Builtin.Slice.slicePlaces lo hi 1)) _ _ s;rw[Tf lo hi n];show wpAny _ _ (pure (((gZ n 0 lo):Int),1,Builtin.Slice.slicePlaces (gZ n 0 lo) (gZ n n hi) 1)) _ _ s;rw[Ro];exact Qqk h
theorem ZR(xs:Array Value)(i k:Nat):((List.range k).filterMap λ(m:Nat)=>xs[(i+(m:Int)*1).toNat]?).toArray=((xs.toList.drop i).take k).toArray:=by
 have e:(λ(m:Nat)=>xs[(i+(m:Int)*1).toNat]?)=λm=>xs[i+m]?:=by
  funext m
  have:(i+(m:Int)*1).toNat=i+m:=by omega
  rw[this]
 rw[e];have:=pick_run xs i k;rw[List.filterMap_map] at this;have e2:((λx=>xs[x]?) ∘ λx=>i+x)=λm=>xs[i+m]?:=rfl;rw[e2] at this;rw[this]
theorem xN{lo hi:Option Int}(ht:IsTup s.heap t items)(hs:s.heap.IsSliceOf sl vl vu .none)(pl:IsPart vl lo)(pu:IsPart vu hi)
  (hw:¬(gZ items.size 0 lo=0/\gZ items.size items.size hi=items.size))
  (h:Q (.ref s.heap.objs.size) { s with heap:=s.heap.push { cls:=.type "tuple",data:=.seq ((items.toList.drop (gZ items.size 0 lo)).take (gZ items.size items.size hi - gZ items.size 0 lo)).toArray } })
  (hsz:items.size<=sizeLine):wpAny (model prog w) A (getItem (.ref t) (.ref sl)) Q E s:=by
 have Uu:sizeOk (.seq ((items.toList.drop<|gZ items.size 0 lo).take<|gZ items.size items.size hi - gZ items.size 0 lo).toArray):=by show((items.toList.drop<|gZ items.size 0 lo).take<|gZ items.size items.size hi - gZ items.size 0 lo).toArray.size<=sizeLine;rw[Qq7,Qw4,Qx4,Qz8];omega
 have hj:gZ items.size items.size hi<=items.size:=J3 _ _ (Qqw _) hi;obtain⟨os,hos,hcs,hds⟩:=id hs;have hTs:s.TypeIs (.ref sl) "slice":=⟨os,hos,hcs⟩;unfold getItem
 try with_reducible refine Qjq ?_
 first|refine Qqx (Qqk ?_)|skip
 refine Qqx<|wpAny_sequenceKey ht.typeIs (by decide) ?_;refine Qqx (Qzq ht.typeIs Qzv
  (Qzj Qzv ht.typeIs entry_tuple_getitem ?_<|args_tuple_getitem _ _))
 show wpAny _ _ (Builtin.Tuple.tupleItemsOf (.ref t) >>= _) _ _ s;refine Qqx<|tupleItemsOf_ ht ?_;refine Qqx<|wpAny_typeOf hTs ?_;rw[if_pos (by decide)];refine Qqx<|qT hs pl pu ?_;have hno:¬((((gZ items.size 0 lo):Int) == 0&&(1:Int) == 1&&(gZ items.size items.size hi - gZ items.size 0 lo) == items.size)=true):=by intro q;rw[Qj4,Qj4] at q;have q1:=eq_of_beq q.1.1;have q2:=eq_of_beq q.2;exact hw ⟨by omega,by omega⟩
 show wpAny _ _ (if (((gZ items.size 0 lo):Int) == 0&&1 == 1&&(gZ items.size items.size hi - gZ items.size 0 lo) == items.size)=true then _ else _) _ _ s;rw[if_neg hno,ZR]
 first
  | exact Qqx<|Qzw (Qqk ⟨_,rfl,Qqk h⟩) Uu
  | exact Qqx<|Qzw (Qqx<|Qqk<|Qqk ⟨_,rfl,Qqk h⟩) Uu
  | exact Qqx<|Qqx<|Qzw (Qqk<|Qqk ⟨_,rfl,Qqk h⟩) Uu
  | exact Qqx<|Qqx<|Qzw (Qqk ⟨_,rfl,Qqk h⟩) Uu
end
end HT
namespace L2
open PySem PySem.Spec PyProof.Rows
abbrev TO:=St->Hp->(Option Int->Hp->Prop)->Prop
def PO(X:Cx)(e:Option Expr)(t:TO):Prop:=
 ∀(pins:List (Addr×Obj)) (s:Shared) (σ:St) (H:Hp) (Q:Option Int->Hp->Prop),Inv X pins σ H s->t σ H Q->
  wpAny (model X.prog X.w) X.A (evalPart e X.env) (λu s'=>∃o H',Inv X pins σ H' s'/\IsPart u o/\Q o H') X.xe s
def acG:TO:=λ_ H Q=>Q none H
def akS(t:TE):TO:=λσ H Q=>t σ H λx H1=>∃i,x = .int i/\Q (some i) H1
section
variable{X:Cx}{e:Expr}{te:TE}{lo hi:Option Expr}{tl th:TO}{pos p2:Pos}
theorem adl:PO X none acG:=by intro pins s σ H Q I h;rw[evalPart_none];exact Qqk ⟨none,H,I,.none,h⟩
theorem adk(h:PE X e te):PO X (some e) (akS te):=by intro pins s σ H Q I hw;rw[evalPart_some];refine fG (h pins s σ H _ I hw) λu s1 ⟨x,H1,I1,r1,q1⟩=>?_;obtain⟨i,rfl,q⟩:=q1;obtain⟨t,rfl⟩:=r1;exact⟨some i,H1,I1,.int i t,q⟩
def Tj(X:Cx)(r:V->Option Int->Option Int->Hp->VK->Prop):Prop:=
 ∀(pins:List (Addr×Obj)) (s:Shared) (σ:St) (H:Hp) (x:V) (v vl vu:Value) (lo hi:Option Int) (sl:Addr) (Q:VK),Inv X pins σ H s->RelV x v->s.heap.IsSliceOf sl vl vu .none->IsPart vl lo->IsPart vu hi->r x lo hi H Q->
  ∃T id,typeLookup (.type T) "__getitem__" = pure (some (.builtin id))/\s.TypeIs v T/\wpAny (model X.prog X.w) X.A (getItem v (.ref sl)) (EP X pins σ Q) X.xe s
theorem Tj.or(h:Tj X r)(h':Tj X r'):Tj X (λx lo hi H Q=>r x lo hi H Q\/r' x lo hi H Q):=by
 intro pins s σ H x v vl vu lo hi sl Q I rx hs pl pu q;rcases q with q|q
 ·exact h pins s σ H x v vl vu lo hi sl Q I rx hs pl pu q
 ·exact h' pins s σ H x v vl vu lo hi sl Q I rx hs pl pu q
def tSl(r:V->Option Int->Option Int->Hp->VK->Prop)(te:TE)(tl th:TO):TE:=λσ H Q=>te σ H λx H1=>tl σ H1 λl H2=>th σ H2 λu H3=>r x l u H3 Q
theorem xB(hr:Tj X r)(he:PE X e te)(hl:PO X lo tl)(hu:PO X hi th):PE X (.Subscript e (.Slice lo hi none p2) pos) (tSl r te tl th):=by intro pins s σ H Q I h;refine Subscript_<|fG (he pins s σ H _ I h) λv s1 ⟨x,H1,I1,r1,q1⟩=>?_;refine wpAny_Slice<|fG (hl pins s1 σ H1 _ I1 q1) λvl s2 ⟨l,H2,I2,pl,q2⟩=>fG (hu pins s2 σ H2 _ I2 q2) λvu s3 ⟨u,H3,I3,pu,q3⟩=>?_;rw[evalPart_none];refine Qqk ?_;have I4:Inv X pins σ H3 { s3 with heap:=s3.heap.push { cls:=.type "slice",data:=.fields #[vl,vu,.none] } }:=I3.kept λb ob q=>Qqq _ q;obtain⟨T,id,hT,ht,hg⟩:=hr pins { s3 with heap:=s3.heap.push { cls:=.type "slice",data:=.fields #[vl,vu,.none] } } σ H3 x v vl vu l u s3.heap.objs.size Q I4 r1 (Heap.IsSliceOf.new ..) pl pu q3;show wpAny (model X.prog X.w) X.A (subscriptTail e (.Slice lo hi none p2) v<|.ref s3.heap.objs.size) (EP X pins σ Q) X.xe { s3 with heap:=s3.heap.push { cls:=.type "slice",data:=.fields #[vl,vu,.none] } };exact tail_any ht hT hg (by with_unfolding_all rfl)
def Ar(xs:List V)(lo hi:Option Int):List V:=(xs.drop (HT.gZ xs.length 0 lo)).take (HT.gZ xs.length xs.length hi - HT.gZ xs.length 0 lo)
theorem zZ(xs)(lo hi):(Ar xs lo hi).length<=xs.length:=by unfold Ar;rw[Qw4,Qx4];omega
def ag1(K:PySem.W.Frag):V->Option Int->Option Int->Hp->VK->Prop:=λx lo hi H Q=>∃a xs,x = .ref a/\oH K H a xs/\
 ¬(HT.gZ xs.length 0 lo=0/\HT.gZ xs.length xs.length hi=xs.length)/\∀p,H p=none->Q (.ref p) (upd H p (.tup (Ar xs lo hi)))
theorem JK:Tj X (ag1 X.K):=by
 intro pins s σ H x v vl vu lo hi sl Q I rx hs pl pu h;obtain⟨a,xs,rfl,hx,hw,q⟩:=h;cases rx;obtain⟨its,r,ht,hz⟩:=I.tuple hx;have hlen:its.toArray.size=xs.length:=by rw[Qq7];exact r.length.symm
 refine⟨"tuple",_,PyProof.Rows.slot_tuple_getitem.lookup,ht.typeIs,?_⟩;refine HT.xN ht hs pl pu (by rw[hlen];exact hw) ?_ (by rw[hlen];exact hz);rw[hlen];refine⟨.ref s.heap.objs.size,_,I.laid (λb ob q=>Qqq _ q) (Qqw _) ?_,rfl,q _<|I.hok.fresh<|Qqw _⟩;exact⟨Qqj (zZ xs lo hi) hz,_,(r.drop<|HT.gZ xs.length 0 lo).take<|HT.gZ xs.length xs.length hi - HT.gZ xs.length 0 lo,Gn.new _ _⟩
def afI(K:PySem.W.Frag):R2:=λx y H Q=>∃a b xs ys,x = .ref a/\y = .ref b/\oH K H a xs/\oH K H b ys/\xs≠[]/\xs.length+ys.length<=sizeLine/\
 (ys=[]->Q (.ref a) H)/\(ys≠[]->∀p,H p=none->Q (.ref p) (upd H p (.tup (xs++ys))))
theorem Vals.Kl(r:Vals xs us):us=[]↔xs=[]:=by
 cases r with
 | nil=>simp
 | cons _ _=>simp
theorem adE:o9 X (binaryOp .Add) (afI X.K):=by intro pins s σ H x y v u Q I rx ry h;obtain⟨a,b,xs,ys,rfl,rfl,ha,hb,hx,hz,q1,q2⟩:=h;cases rx;cases ry;obtain⟨its,r1,p1,_⟩:=I.tuple ha;obtain⟨its2,r2,p2,_⟩:=I.tuple hb;refine HT.ae1 p1 p2 (λz=>hx<|r1.Kl.mp z) (λz=>⟨.ref a,H,I,rfl,q1<|r2.Kl.mp z⟩) (λz=>?_) (by rw[<-r1.length,<-r2.length];exact hz);refine⟨.ref s.heap.objs.size,_,I.laid (λb ob q=>Qqq _ q) (Qqw _) ?_,rfl,q2 (λw=>z<|r2.Kl.mpr w) _<|I.hok.fresh<|Qqw _⟩;exact⟨by rw[Qq1];exact hz,_,r1.append r2,Gn.new _ _⟩
end
noncomputable def ixN(n:Nat)(i:Int):Option Nat:=if 0<=i then (if i<n then some i.toNat else none) else if -(n:Int)<=i then some (i+n).toNat else none
def qO{α:Type}(xs:List α)(i:Int):Option α:=(ixN xs.length i).bind λj=>xs[j]?
theorem Up(h:ixN n i=some j):seqIndex? i n=some j/\j<n/\-n<=i/\i<n:=by
 unfold ixN at h;by_cases h0:0<=i
 ·rw[if_pos h0] at h;by_cases h1:i<n
  ·rw[if_pos h1] at h;have e:=Qw6 h;exact⟨by rw[seqIndex_of h0 h1,e],by omega,by omega,h1⟩
  ·rw[if_neg h1] at h;cases h
 ·rw[if_neg h0] at h;by_cases h1 : -n<=i
  ·rw[if_pos h1] at h;have e:=Qw6 h;exact⟨by rw[seqIndex_neg (by omega) h1,e],by omega,h1,by omega⟩
  ·rw[if_neg h1] at h;cases h
theorem Lf{α:Type}{xs:List α}{v:α}(h:qO xs i=some v):∃j,seqIndex? i xs.length=some j/\xs[j]? = some v/\j<xs.length/\-xs.length<=i/\i<xs.length:=by
 unfold qO at h;cases e:ixN xs.length i with
 | none=>rw[e] at h;cases h
 | some j=>
  rw[e] at h;obtain⟨h1,h2,h3,h4⟩:=Up e;exact⟨j,h1,h,h2,h3,h4⟩
theorem m6{α:Type}{xs:List α}{j:Nat}{v:α}(h:xs[j]? = some v):qO xs j=some v:=by
 have hj:=(Qwz.mp h).1;have e:ixN xs.length j=some j:=by unfold ixN;rw[if_pos (by omega),if_pos (by omega)];simp
 unfold qO;rw[e];exact h
def yf(b:Expr):Prop:=∀o i,subscripted b false o i=operate [o,i] (getItem o i)
def IxR(X:Cx)(r:R2):Prop:=
 ∀(value slice:Expr) (pins:List (Addr×Obj)) (s:Shared) (σ:St) (H:Hp) (x y:V) (v u:Value) (Q:VK),Inv X pins σ H s->RelV x v->RelV y u->r x y H Q->
  subscripted slice false v u=operate [v,u] (getItem v u)->wpAny (model X.prog X.w) X.A (subscriptTail value slice v u) (EP X pins σ Q) X.xe s
def MtR(X:Cx)(id:String)(r:V->List V->Hp->VK->Prop):Prop:=
 ∀(pins:List (Addr×Obj)) (s:Shared) (σ:St) (H:Hp) (x:V) (xs:List V) (v:Value) (us:List Value) (Q:VK),Inv X pins σ H s->RelV x v->Vals xs us->r x xs H Q->
  wpAny (model X.prog X.w) X.A (call (.builtin id) (v::us)) (EP X pins σ Q) X.xe s
section
variable{X:Cx}{a b:Expr}{ta tb:TE}{pos:Pos}
theorem IxR.or(h:IxR X r)(h':IxR X r'):IxR X (λx y H Q=>r x y H Q\/r' x y H Q):=by
 intro value slice pins s σ H x y v u Q I rx ry q hs;rcases q with q|q
 ·exact h value slice pins s σ H x y v u Q I rx ry q hs
 ·exact h' value slice pins s σ H x y v u Q I rx ry q hs
theorem afM(hr:IxR X r)(ha:PE X a ta)(hb:PE X b tb)(hs:yf b):PE X (.Subscript a b pos) (tOp r ta tb):=by intro pins s σ H Q I h;exact Subscript_<|ajQ ha hb I h λv u s2 x y H2 I2 rx ry q=>hr a b pins s2 σ H2 x y v u Q I2 rx ry q<|hs _ _
def alp(K:PySem.W.Frag):R2:=λx y H Q=>∃p xs i v,x = .ref p/\y = .int i/\jR K H p xs/\qO xs i=some v/\Q v H
def aln(K:PySem.W.Frag):R2:=λx y H Q=>∃p xs i v,x = .ref p/\y = .int i/\oH K H p xs/\qO xs i=some v/\Q v H
def alo:R2:=λx y H Q=>∃z i c,x = .str z/\y = .int i/\z.length<=sizeLine/\qO z.cps.toList i=some c/\Q (.str ⟨#[c]⟩) H
theorem ad9:IxR X (alp X.K):=by
 intro value slice pins s σ H x y v u Q I rx ry h hs;obtain⟨p,xs,i,z,rfl,rfl,hq,he,q⟩:=h;cases rx;obtain⟨t,rfl⟩:=ry;obtain⟨its,r,pl,hz⟩:=I.list hq;obtain⟨j,h1,h2,h3,h4,h5⟩:=Lf he;obtain⟨w,ew,rw'⟩:=r.get h2;have hl:=r.length;have hn:=Dc;have fin:EP X pins σ Q w s:=⟨z,H,I,rw',q⟩;by_cases h0:0<=i
 ·have hj:i.toNat=j:=by
   rw[seqIndex_of h0 h5] at h1;exact Qw6 h1
  exact item_listR pl.isList h0 (by omega) (by rw[hj];simpa using ew) fin hs
 ·have hj:(i+its.toArray.size).toNat=j:=by
   rw[seqIndex_neg (by omega) h4] at h1;rw[Qq7,<-hl];exact Qw6 h1
  exact subscriptTail_builtinR pl.isList.typeIs slot_list_getitem.lookup
   (wpAny_getItem_list_neg pl.isList (by omega) (by rw[Qq7]<;>omega) (by omega) (by rw[hj];simpa using ew) ⟨rfl,fin⟩) hs
theorem ai0:IxR X (aln X.K):=by
 intro value slice pins s σ H x y v u Q I rx ry h hs;obtain⟨p,xs,i,z,rfl,rfl,hq,he,q⟩:=h;cases rx;obtain⟨t,rfl⟩:=ry;obtain⟨its,r,pl,hz⟩:=I.tuple hq;obtain⟨j,h1,h2,h3,h4,h5⟩:=Lf he;obtain⟨w,ew,rw'⟩:=r.get h2;have hl:=r.length;have hn:=Dc;have fin:EP X pins σ Q w s:=⟨z,H,I,rw',q⟩;exact subscriptTail_builtinR pl.typeIs slot_tuple_getitem.lookup
  (getItem_tuple pl (by omega) (by omega) (by rw[Qq7,<-hl];exact h1) (by simpa using ew) ⟨rfl,fin⟩) hs
theorem ai1:IxR X alo:=by
 intro value slice pins s σ H x y v u Q I rx ry h hs;obtain⟨z,i,c,rfl,rfl,hz,he,q⟩:=h;obtain⟨t,rfl⟩:=rx;obtain⟨t',rfl⟩:=ry;obtain⟨j,h1,h2,h3,h4,h5⟩:=Lf he;have hl:z.cps.toList.length=z.length:=by simp[Str.length]
 rw[hl] at h1 h4 h5;have hn:=Dc;exact tail_any (typeIs_str s z t) slot_str_getitem.lookup (getItem_str (by
  have e1:decide (i < -(2^63))=false:=Qw2 (by omega);have e2:decide (i ≥ 2^63)=false:=Qw2 (by omega);rw[e1,e2,Bool.or_false]) (by rw[h1];simpa using h2) ⟨.str ⟨#[c]⟩,H,I.tok _,⟨_,rfl⟩,q⟩) hs
def rIx(K:PySem.W.Frag):R2:=λx y H Q=>alp K x y H Q\/aln K x y H Q\/alo x y H Q
theorem aaS:IxR X (rIx X.K):=ad9.or<|ai0.or ai1
theorem RK(its:List Value)(n j)(u):Obj.mapSeq (·.setIfInBounds j u) { cls:=.type "list",data:=.seq its.toArray n } = { cls:=.type "list",data:=.seq (its.set j u).toArray n }:=by simp[Obj.mapSeq]
theorem Inv.lst{σ:St}(I:Inv X pins σ H s)(h:H p=some (.lst xs)) :
  ∃its n,Vals xs its/\s.heap.get? p=some { cls:=.type "list",data:=.seq its.toArray n }/\xs.length<=sizeLine:=by
 obtain⟨z,its,n,r,e⟩:=I.hok p _ h;exact⟨its,n,r,e,z⟩
theorem Inv.ah5{σ:St}{its its':List Value}(I:Inv X pins σ H s)(h:H p=some (.lst xs))
  (ho:s.heap.get? p=some { cls:=.type "list",data:=.seq its.toArray n }) (hf:f { cls:=.type "list",data:=.seq its.toArray n } = { cls:=.type "list",data:=.seq its'.toArray n' }) (r:Vals ys its') (hz:ys.length<=sizeLine) (t) :
  Inv X pins σ (upd H p (.lst ys)) { s with heap:=s.heap.update p f,toks:=t }:=by
 have e:(s.heap.update p f).get? p=some { cls:=.type "list",data:=.seq its'.toArray n' }:=by rw[Heap.get?_update_self f ho (by rw[hf]<;>rfl),hf]
 refine I.write (by rw[h];trivial) (.inl rfl) (λb u hb q=>(Heap.get?_update_other _ _<|Ne.symm hb).trans q) ⟨_,e⟩ ?_;exact⟨hz,its',n',r,e⟩
def ali:V->V->V->Hp->(Hp->Prop)->Prop:=λo i v H Q=>∃p xs k j,o = .ref p/\i = .int k/\H p=some (.lst xs)/\ixN xs.length k=some j/\Q (upd H p (.lst (xs.set j v)))
theorem set_list:anD X ali:=by
 intro pins s σ H o i v ov iv u Q I ro ri rv h;obtain⟨p,xs,k,j,rfl,rfl,hp,hj,q⟩:=h;cases ro;obtain⟨t,rfl⟩:=ri;obtain⟨its,n,r,ho,hz⟩:=I.lst hp;obtain⟨h1,h2,h3,h4⟩:=Up hj;have hl:=r.length;have hn:=Dc;have I':=
  I.ah5 hp ho (RK its n j u) (r.set rv j) (by rw[Qz3];exact hz) s.toks
 by_cases h0:0<=k
 ·have hk:k.toNat=j:=by
   rw[seqIndex_of h0 h4] at h1;exact Qw6 h1
  exact PySem.W.ki_setAt ho h0 (by omega) (by rw[Qq7,<-hl];exact h4) (by rw[hk];exact⟨_,I',q⟩)
 ·have hk:(k+its.toArray.size).toNat=j:=by
   rw[seqIndex_neg (by omega) h3] at h1;rw[Qq7,<-hl];exact Qw6 h1
  exact PySem.W.ki_setBack ho (by omega) (by rw[Qq7,<-hl];exact h3) (by omega) (by rw[hk];exact⟨_,I',q⟩)
theorem JG(lo hi)(n):(sliceBounds lo hi none n).1=(HT.gZ n 0 lo)/\(sliceBounds lo hi none n).2.1=(HT.gZ n n hi)/\(sliceBounds lo hi none n).2.2=1:=by
 refine⟨?_,?_,rfl⟩
 ·cases lo with
  | none=>simp[sliceBounds,HT.gZ]
  | some i=>
   simp[sliceBounds,HT.gZ,Option.getD_none,show(1:Int) > 0 by decide,if_true];by_cases h:i<0
   ·simp[h,if_true]<;>omega
   ·simp[h,if_false]<;>omega
 ·cases hi with
  | none=>simp[sliceBounds,HT.gZ]
  | some i=>
   simp[sliceBounds,HT.gZ,Option.getD_none,show(1:Int) > 0 by decide,if_true];by_cases h:i<0
   ·simp[h,if_true]<;>omega
   ·simp[h,if_false]<;>omega
theorem Fo(its:List Value)(lo hi):slicePick its.toArray lo hi none=((its.drop (HT.gZ its.length 0 lo)).take (HT.gZ its.length its.length hi - HT.gZ its.length 0 lo)).toArray:=by obtain⟨h1,h2,h3⟩:=JG lo hi its.toArray.size;unfold slicePick;rw[h1,h2,h3];simp only[sliceRange_one,pick_run,Qq7]<;>rfl
def alh(K:PySem.W.Frag):V->Option Int->Option Int->Hp->VK->Prop:=λx lo hi H Q=>∃a xs,x = .ref a/\jR K H a xs/\∀p,H p=none->Q (.ref p) (upd H p (.lst (Ar xs lo hi)))
theorem Tw:Tj X (alh X.K):=by intro pins s σ H x v vl vu lo hi sl Q I rx hs pl pu h;obtain⟨a,xs,rfl,hx,q⟩:=h;cases rx;obtain⟨its,r,ht,hz⟩:=I.list hx;have hlen:=r.length;refine⟨"list",_,slot_list_getitem.lookup,ht.isList.typeIs,?_⟩;refine wpAny_getItem_list_slice ht.isList hs pl pu .none (by simp) ?_ (by rw[Qq7]<;>omega);rw[Fo,<-hlen];refine⟨.ref s.heap.objs.size,_,I.laid (λb ob q=>Qqq _ q) (Qqw _) ?_,rfl,q _<|I.hok.fresh<|Qqw _⟩;exact⟨Qqj (zZ xs lo hi) hz,_,0,(r.drop<|HT.gZ xs.length 0 lo).take<|HT.gZ xs.length xs.length hi - HT.gZ xs.length 0 lo,Qq2 _ rfl⟩
theorem kZ.or(h:kZ X f r)(h':kZ X f r'):kZ X f (λxs H Q=>r xs H Q\/r' xs H Q):=by
 intro pins s σ H xs us Q I rs q;rcases q with q|q
 ·exact h pins s σ H xs us Q I rs q
 ·exact h' pins s σ H xs us Q I rs q
theorem K7:kZ X (.type "list") (λxs H Q=>∃p ys,xs=[.ref p]/\(jR X.K H p ys\/oH X.K H p ys)/\∀l,H l=none->Q (.ref l) (upd H l (.lst ys))):=by
 intro pins s σ H xs us Q I r h;obtain⟨p,ys,rfl,hq,q⟩:=h;obtain⟨u,rfl,rx⟩:=vals1 r;cases rx;have fin:∀its,Vals ys its->ys.length<=sizeLine->∀h' c',(∀b o',s.heap.get? b=some o'->h'.get? b=some o')->
   h'.get? s.heap.objs.size=some { cls:=.type "list",dict:=none,data:=.seq its.toArray c',slots:=#[] }->EP X pins σ Q (.ref s.heap.objs.size) { s with heap:=h' }:=λits r' hz h' c' kp e=>
  ⟨.ref s.heap.objs.size,_,I.laid kp (Qqw _)<|show iZ X.prog X.w _ h' _ (.lst ys) from⟨hz,its,c',r',e⟩,rfl,q _<|I.hok.fresh<|Qqw _⟩
 rcases hq with hq|hq
 ·obtain⟨its,r',pl,hz⟩:=I.list hq;have hlen:=r'.length;obtain⟨o,ho,hc,n,hd⟩:=pl.isList;exact call_list_seq p (.inl rfl) ho hc hd (λh' c' kp e=>fin its r' hz h' c' kp e) (by simp[Qq7]<;>omega)
 ·obtain⟨its,r',pl,hz⟩:=I.tuple hq;have hlen:=r'.length;obtain⟨o,ho,hc,n,hd⟩:=pl;exact call_list_seq p (.inr rfl) ho hc hd (λh' c' kp e=>fin its r' hz h' c' kp e) (by simp[Qq7]<;>omega)
theorem Gh:kZ X (.type "tuple") (λxs H Q=>∃p ys,xs=[.ref p]/\((jR X.K H p ys/\∀l,H l=none->Q (.ref l) (upd H l (.tup ys)))\/(oH X.K H p ys/\Q (.ref p) H))):=by
 intro pins s σ H xs us Q I r h;obtain⟨p,ys,rfl,h⟩:=h;obtain⟨u,rfl,rx⟩:=vals1 r;cases rx;rcases h with ⟨hq,q⟩|⟨hq,q⟩
 ·obtain⟨its,r',pl,hz⟩:=I.list hq;have hlen:=r'.length;refine call_tuple_list pl.isList (λh' kp=>?_) (by simp[Qq7]<;>omega);have I1:Inv X pins σ H { s with heap:=h' }:=I.kept kp;have I2:Inv X pins σ (upd H h'.objs.size<|.tup ys) { s with heap:=h'.push { cls:=.type "tuple",data:=.seq its.toArray } }:=
   I1.laid (λb o e=>Qqq _ e) (Qqw _) (show iZ X.prog X.w _ _ _ (.tup ys) from⟨hz,its,r',Gn.new _ _⟩)
  exact⟨.ref h'.objs.size,_,I2,rfl,q _<|I1.hok.fresh<|Qqw _⟩
 ·obtain⟨its,r',pl,hz⟩:=I.tuple hq;exact call_tuple_same pl ⟨.ref p,H,I,rfl,q⟩
def tyV(K:PySem.W.Frag)(T:String)(x:V)(H:Hp):Prop:=match x with
 | .str _=>T = "str"
 | .int _=>T = "int"
 | .ref p=>(T = "list"/\∃xs,jR K H p xs)\/(T = "tuple"/\∃o,K.lookup p=some o/\o.cls = .type "tuple"/\o.dict=none)\/
   (T = "dict"/\((∃kvs,H p=some (.dK kvs))\/∃kvs,H p=some (.dT kvs)))\/(T = "set"/\∃S n,H p=some (.set S n))
 | _=>False
theorem agz{σ:St}(I:Inv X pins σ H s)(r:RelV x v)(ty:tyV X.K T x H) :
  s.TypeIs v T/\∀a,v = .ref a->∃ob,s.heap.get? a=some ob/\ob.dict=none:=by
 cases x with
 | str z=>
  obtain⟨t,rfl⟩:=r;cases ty;exact⟨typeIs_str s z t,λ_ e=>nomatch e⟩
 | int i=>
  obtain⟨t,rfl⟩:=r;cases ty;exact⟨typeIs_int s i t,λ_ e=>nomatch e⟩
 | ref p=>
  cases r;rcases ty with ⟨rfl,xs,hq⟩|⟨rfl,o,hk,hc,hd⟩|⟨rfl,hk⟩|⟨rfl,S,n,hk⟩
  ·obtain⟨its,_,pl,_⟩:=I.list hq;refine⟨pl.isList.typeIs,λa e=>?_⟩;cases e;obtain⟨o,n,e,c,hd,_⟩:=pl;exact⟨o,e,hd⟩
  ·refine⟨⟨o,I.WR p o hk,hc⟩,λa e=>?_⟩;cases e;exact⟨o,I.WR _ o hk,hd⟩
  ·have z:∃o,s.heap.get? p=some o/\o.ExactDict:=by
    rcases hk with ⟨kvs,hk⟩|⟨kvs,hk⟩
    ·obtain⟨_,_,_,_,o,_,_,e,ex,_⟩:=I.hok p _ hk;exact⟨o,e,ex⟩
    ·obtain⟨_,_,_,_,o,_,_,e,ex,_⟩:=I.hok p _ hk;exact⟨o,e,ex⟩
   obtain⟨o,e,ex⟩:=z;refine⟨⟨o,e,ex.1⟩,λa e2=>?_⟩;cases e2;exact⟨o,e,ex.2.1⟩
  ·obtain⟨o,_,_,_,e,ex,_⟩:=I.hok p _ hk;refine⟨⟨o,e,ex.1⟩,λa e2=>?_⟩;cases e2;exact⟨o,e,ex.2.1⟩
 | _=>exact False.elim ty
def tBM(K:PySem.W.Frag)(T:String)(r:V->List V->Hp->VK->Prop)(to:TE)(t:TA):TE:=λσ H Q=>to σ H λx H1=>tyV K T x H1/\t σ H1 λxs H2=>r x xs H2 Q
variable{o e:Expr}{es:List Expr}{to:TE}{t:TA}{name:Str}{apos cpos:Pos}{T id:String}{r:V->List V->Hp->VK->Prop}
theorem T8(pa:PlainAttrs T)(slot:Slot T name id)(hty:typeOf (.builtin id)=pure (.type "method_descriptor"))(hm:MtR X id r)(ho:PE X o to)(ha:PA X (e::es) t)
  (hbase:attributeBase o name X.env (eval o X.env)=eval o X.env:=by rfl)
  (hfew:((backTo cpos (starEach (e::es) X.env)).all (λx=>!x.1)&&(backToKw cpos (keywordEach [] X.env)).all (λx=>x.1.isSome)
   && decide ((e::es).length+([]:List Keyword).length+(if ([]:List Keyword).isEmpty then 0 else 1)<30))=true:=by rfl)
  (hline:(apos.endLine == cpos.line)=true:=by rfl) (hs:starEach (e::es) X.env=(false,eval e X.env)::starEach es X.env:=by rfl) (hplain:(backTo cpos (starEach es X.env)).any (·.1)=false:=by rfl) :
  PE X (.Call (.Attribute o name apos) (e::es) [] cpos) (tBM X.K T r to t):=by
 intro pins s σ H Q I h;refine wpAny_Call_method_late hbase hfew hline rfl (fG (ho pins s σ H _ I h) λv s1 ⟨x,H1,I1,r1,ty,q1⟩=>?_);obtain⟨h1,h2⟩:=agz I1 r1 ty;refine⟨T,id,pa,slot,hty,h1,h2,?_⟩;have hA:=ha cpos pins s1 σ H1 _ I1 q1;rw[hs] at hA ⊢;refine Calls.callWith_builtin (by show(false||(backTo cpos<|starEach es X.env).any (·.1))=false;rw[hplain]<;>rfl)<|Calls.evalArgs_plain ?_;exact fG hA λus s2 ⟨vs,H2,I2,r2,q2⟩=>hm pins s2 σ H2 x vs v us Q I2 r1 r2 q2
end
def MtM(X:Cx)(id:String)(r:V->List V->Hp->VK->Prop):Prop:=
 ∀(pins:List (Addr×Obj)) (s:Shared) (σ:St) (H:Hp) (x:V) (xs:List V) (v:Value) (us:List Value) (Q:VK),Inv X pins σ H s->RelV x v->Vals xs us->r x xs H Q->
  wpAny (model X.prog X.w) X.A (call (.builtin id) (v::us)) (EP X pins σ Q) X.xe s
theorem Vals.one:∀{x} {us},Vals [x] us->∃u,us=[u]/\RelV x u
 | _,_,.cons r .nil=>⟨_,rfl,r⟩
theorem Vals.two:∀{x y} {us},Vals [x,y] us->∃u v,us=[u,v]/\RelV x u/\RelV y v
 | _,_,_,.cons r (.cons q .nil)=>⟨_,_,rfl,r,q⟩
section
variable{X:Cx}{pins:List (Addr×Obj)}{σ:St}{H:Hp}{s:Shared}{l b:Addr}{xs ys zs:List V}
theorem Inv.al5{its its':List Value}(I:Inv X pins σ H s)(hH:H l=some (.lst xs))
  (e:s.heap.get? l=some { cls:=.type "list",data:=.seq its.toArray n }) (hf:f its.toArray=its'.toArray) (hv:Vals ys its') (hz:ys.length<=sizeLine) :
  Inv X pins σ (upd H l (.lst ys)) { s with heap:=s.heap.update l (Obj.mapSeq f),toks:=t' }:=by
 have q:=PySem.IsL.update e f;rw[hf] at q;refine I.write (by rw[hH];exact trivial) (.inl rfl) (λb' u hb hu=>(Heap.get?_update_other s.heap (Obj.mapSeq f)<|Ne.symm hb).trans hu) ⟨_,q⟩ ?_;exact⟨hz,its',_,hv,q⟩
theorem Inv.ah6(I:Inv X pins σ H s)(hv:Vals ys its)(hz:ys.length<=sizeLine) :
  Inv X pins σ (upd H s.heap.objs.size (.lst ys)) { s with heap:=s.heap.push { cls:=.type "list",data:=.seq its.toArray },toks:=t' }:=
 I.laid (λ_ _ q=>Qqq _ q) (Qqw _) ⟨hz,its,0,hv,Qq2 _ rfl⟩
theorem Inv.fresh(I:Inv X pins σ H s):H s.heap.objs.size=none:=I.hok.fresh<|Qqw _
theorem Inv.aaq(I:Inv X pins σ H s)(hH:H l=some (.lst xs)):xs.length<=sizeLine/\∃its n,Vals xs its/\xs.length=its.length/\s.heap.get? l=some { cls:=.type "list",data:=.seq its.toArray n }:=by obtain⟨z,its,n,r,e⟩:=I.hok l _ hH;exact⟨z,its,n,r,r.length,e⟩
theorem aag(h:n<=sizeLine):Builtin.List.listTooLong n=false:=by unfold Builtin.List.listTooLong;exact Qw2 (by omega)
end
section
variable{X:Cx}{prog:Program}{w:World}{A:Around}{E:Value->Shared->Prop}{s:Shared}
def ac2:V->List V->Hp->VK->Prop:=λx vs H Q=>∃l xs y,x = .ref l/\vs=[y]/\H l=some (.lst xs)/\xs.length<sizeLine/\Q .non (upd H l (.lst (xs++[y])))
theorem za:MtM X "list.append" ac2:=by intro pins s σ H x vs v us Q I rx rv h;obtain⟨l,xs,y,rfl,rfl,hH,hz,q⟩:=h;cases rx;obtain⟨u,rfl,ru⟩:=rv.one;obtain⟨z,its,n,r,hl,e⟩:=I.aaq hH;refine call_meets F.slot_list_append ⟨_,e,rfl⟩ F.entry_list_append (F.args_list_append_2 _ _) (PySem.list_append l its.toArray n u (by rw[Qq7];omega)) ⟨e,?_⟩;refine⟨.non,_,I.al5 hH e (by simp) (r.append<|.cons ru .nil) ?_,rfl,q⟩;rw[Qq1,Qz1];omega
def ac1:V->List V->Hp->VK->Prop:=λx vs H Q=>∃l b xs zs,x = .ref l/\vs=[.ref b]/\H l=some (.lst xs)/\H b=some (.lst zs)/\xs.length+zs.length<=sizeLine/\Q .non (upd H l (.lst (xs++zs)))
theorem WL:MtM X "list.extend" ac1:=by
 intro pins s σ H x vs v us Q I rx rv h;obtain⟨l,b,xs,zs,rfl,rfl,hH,hB,hz,q⟩:=h;cases rx;obtain⟨u,rfl,ru⟩:=rv.one;cases ru;obtain⟨z,its,n,r,hl,e⟩:=I.aaq hH;obtain⟨z2,its2,n2,r2,hl2,e2⟩:=I.aaq hB;have hsz:its.toArray.size+its2.toArray.size<=sizeLine:=by rw[Qq7,Qq7];omega
 have amP:¬(!its.toArray.isEmpty&&Builtin.List.listTooLong (its.toArray.size+its2.toArray.size))=true:=by rw[aag hsz,Bool.and_false];exact Qwj
 refine call_meets F.slot_list_extend ⟨_,e,rfl⟩ F.entry_list_extend (F.args_list_extend_2 _ _)
  (AutoSeq1.list_extend_list_list_0 l its.toArray n b its2.toArray n2 amP (by rw[Qq7];omega) (by omega)) ⟨e,e2,?_⟩
 refine⟨.non,_,I.al5 hH e (by simp) (r.append r2) ?_,rfl,q⟩;rw[Qq1];omega
def alu:R2:=λx y H Q=>∃l b xs zs,x = .ref l/\y = .ref b/\H l=some (.lst xs)/\H b=some (.lst zs)/\xs.length+zs.length<=sizeLine/\∀p,H p=none->Q (.ref p) (upd H p (.lst (xs++zs)))
theorem ahF:o9 X (binaryOp .Add) alu:=by
 intro pins s σ H x y v u Q I rx ry h;obtain⟨l,b,xs,zs,rfl,rfl,hH,hB,hz,q⟩:=h;cases rx;cases ry;obtain⟨z,its,n,r,hl,e⟩:=I.aaq hH;obtain⟨z2,its2,n2,r2,hl2,e2⟩:=I.aaq hB;refine PySem.P.add_list e e2 ?_ (by rw[Qq7,Qq7];omega);have ea:its.toArray++its2.toArray=(its++its2).toArray:=by simp
 rw[ea];exact⟨.ref _,_,I.ah6 (r.append r2) (by rw[Qq1];omega),rfl,q _ I.fresh⟩
set_option maxRecDepth 100000 in
end
end L2
namespace Att
open PySem PySem.W PySem.Calls PyProof.Rows
theorem Aq:∀ns vs,WellAll P h vs (ns.map WData.int)->IntsAre vs ns:=by
 intro ns
 induction ns with
 | nil=>
  intro vs w;rw[List.map_nil] at w;cases w;exact .nil
 | cons n ns ih=>
  intro vs w;rw[Qq4] at w;cases w with
  | cons a b=>
   cases a;exact .cons _ _<|ih _ b
theorem V2{l:OpenLaw}(hn:l.most=some n)
  (hpre:l.row.toRowW.claim.pre args=true) (hwl:WellAll P h vals args) :
  ∃a vs ns,vals=[Value.ref a]/\args=[WData.list (ns.map WData.int)]/\h.get? a=some { cls:=.type "list",data:=.seq vs.toArray }/\IntsAre vs ns/\ns.length<=n:=by
 have hsh:=(pre_splitW hpre).1;have hc:l.pre.holds [] { args:=args }=true:=(pre_splitW hpre).2;obtain⟨d,r,rfl,h1,h2⟩:=hasAllW_cons hsh;obtain rfl:=hasAllW_nil h2;obtain⟨xs,rfl,h3⟩:=hasW_list h1;obtain⟨ns,rfl⟩:=items_int h3;have hlen:ns.length<=n:=by
  unfold OpenLaw.pre at hc;have h4:(WTm.not<|.lt (.lit<|.int n)<|.len<|.arg 0).holds [] { args:=[.list (ns.map .int)] }=true:=by have h4:=(holds_andW hc).1;rw[hn] at h4;exact h4
  have h5:=condW_of h4<|w_not<|w_lt w_lit<|w_len_list<|w_arg rfl;rw[Qqz] at h5;refine Nat.le_of_not_lt λq=>?_;have q':n<ns.length:=by omega
  first
   | (rw[Qw8 q'] at h5;exact absurd h5 (by decide))
   | (simp at h5;omega)
 cases hwl with
 | cons w1 w2=>
  cases w2;cases w1 with
  | list ho hall=>exact⟨_,_,ns,rfl,rfl,ho,Aq ns _ hall,hlen⟩
theorem Wd(l:OpenLaw)(args):l.row.toRowW.claim.post args (.bool true) args=true:=
 postW_of
  (show WShape.has [] (.bool true) .bool=true by first|rfl|decide|simp[WShape.has,WShape.arms,WShape.armsAll])
  (show(WTm.eq .res<|.lit<|.bool true).value [] { args:=args,res:=some<|.bool true,after:=args }=some (.bool<|true == true) from w_eq_bool (w_res rfl) w_lit) rfl
end Att
namespace L2
open PySem PySem.Spec PyProof.Rows
theorem Gs:∀{vs} {ns},IntsAre vs ns->Vals (ns.map V.int) vs
 | _,_,.nil=>.nil
 | _,_,.cons n t h=>.cons ⟨t,rfl⟩<|Gs h
def Only(H:Hp):Prop:=∀b,H b=none\/∃o xs,H b=some (.KQ o (.lst xs))
theorem aax{K:PySem.W.Frag}
  (KX:K.In s₁.heap) (hns:s₁.heap.Ns mainGlobals mg) (hb:s₁.heap.Ns builtinsNs mb) (hbb:∀x:Str,x ≠ "__name__"->mb x=bootBuiltins x) (hlim:s₁.heap.NoLimit) (hg:s₁.gens = #[])
  (ha:s₁.heap.get? a=some { cls:=.type "list",data:=.seq vs.toArray }) (hi:IntsAre vs ns) (hl:ns.length<=sizeLine) (hr:lF k callerA)
  (F:∀base,K.In base->base.Ns mainGlobals mg->qd P w K mg base CX k fa fd [x] sp) (hbind:∀s u,BindsTo s fd ⟨[u],[]⟩ [(x,u)])
  (hsp:∀H,Only H->jR K H a (ns.map V.int)->sp [.ref a] H (λv _=>v = .bl true) λ_ _ _=>False)
  (hCX:∀H e s',CX [] H s₁ (λ_ _ _=>False) e s'->False) :
  codeAny (model P w) callerA (.call (.ref fa) ⟨[.ref a],[]⟩) (λr s'=>r = .ok (.ret (.bool true))/\OldK s₁.heap s'.heap/\s'.os=s₁.os/\AllBare s'.gens) s₁:=by
 have rv:=Gs hi;have lenV:=hi.length
 -- from an abstract heap in which nothing but the script may be tracked
 have core:∀H,Only H->jR K H a (ns.map V.int)->yg P w H s₁.heap->(∀b,H b≠none->b=a)->(H a≠none->K.lookup a=none)->
   codeAny (model P w) callerA (.call (.ref fa) ⟨[.ref a],[]⟩) (λr s'=>r = .ok (.ret<|.bool true)/\OldK s₁.heap s'.heap/\s'.os=s₁.os/\AllBare s'.gens) s₁:=by
  intro H hO hS hok hA hK;have Vd:∀{b} {o},s₁.heap.get? b=some o->H b=none->(KJ s₁.heap H).get? b=some o:=λe n=>aaZ e n;have noA:∀{b} {o} {es} {ep},s₁.heap.get? b=some o->o.data = .dict es ep->H b=none:=λ{b o es ep} e d=>by
   cases q:H b with
   | none=>rfl
   | some u=>
    have e':=hA b (by rw[q];simp);subst e';rw[ha] at e;cases e;have d':=d;cases d'
  have nsK:∀{b} {m},s₁.heap.Ns b m->(KJ s₁.heap H).Ns b m:=λ{b m} ⟨o,es,ep,e,d,r⟩=>⟨o,es,ep,Vd e<|noA e d,d,r⟩;have hKb:=λb o e=>Vd (KX b o e) (by
   cases q:H b with
   | none=>rfl
   | some u=>
    have e':=hA b (by rw[q];simp);subst e';rw[hK (by rw[q];simp)] at e;cases e)
  have hM:Mod K mg (KJ s₁.heap H):=⟨hKb,nsK hns,⟨mb,nsK hb,hbb⟩,let ⟨mc,h1,h2⟩:=hlim;⟨mc,nsK h1,h2⟩⟩;have e0:afx P w K mg (KJ s₁.heap H) callerA [] s₁ H:=⟨rfl,hM,λb o e=>adI e,Nat.le_of_eq<|WY _ _,trivial,λb hb=>absurd (show b∈[] from hb) (by simp),hok,.of_eq hg⟩;refine codeAny_mono ((F _ hKb<|nsK hns).run callerA [] s₁ H ⟨[.ref a],[]⟩ [.ref a] [.ref a] _ _ hr e0 (hbind s₁<|.ref a) (.cons rfl .nil)<|hsp H hO hS) λr s' h=>?_;cases r with
  | error e=>exact(hCX H e s' h).elim
  | ok fl=>
   cases fl with
   | next=>exact False.elim h
   | brk=>exact False.elim h
   | cont=>exact False.elim h
   | ret u=>
    obtain⟨v,H',os,bare,un,hok',r',q⟩:=h;have q':=q;subst q';obtain rfl:u=Value.bool true:=r';refine⟨rfl,OldK.of_keep λb o e=>?_,os,bare⟩;cases q:H b with
    | none=>exact un.keep b o e q (by intro z;exact absurd (show b∈[] from z) (by simp)) (by simp)
    | some u=>
     rcases hO b with z|⟨ob,xs,z⟩
     ·rw[q] at z;cases z
     ·have z2:=un.Ef b ob _ z;obtain⟨e1,_⟩:=hok b _ z;obtain⟨e2,_⟩:=hok' b _ z2;rw[e] at e1;cases e1;exact e2
 cases hk:K.lookup a with
 | some o=>
  -- the script is one of the module's own objects
  have e:=KX a o hk;rw[ha] at e;cases e;refine core (λ_=>none) (λ_=>.inl rfl) (.inr ⟨_,vs.toArray,_,hk,rfl,rfl,rfl,by rw[Qq7,lenV];exact hl,by simpa using rv⟩) (λb u z=>by have z':=z;cases z') (λb z=>absurd rfl z) λz=>absurd rfl z
 | none=>
  refine core (λb=>if b=a then some (.KQ { cls:=.type "list",data:=.seq vs.toArray } (.lst<|ns.map V.int)) else none) (λb=>?_) (.inl<|.inr ⟨{ cls:=.type "list",data:=.seq vs.toArray },if_pos rfl⟩) (λb u z=>?_) (λb z=>?_) λ_=>hk
  ·by_cases hb:b=a
   ·exact .inr ⟨_,_,if_pos hb⟩
   ·exact .inl<|if_neg hb
  ·by_cases hb:b=a
   ·have z':=(if_pos hb).symm.trans z;cases z';subst hb;exact⟨ha,by rw[Qqz];exact hl,vs,_,rv,ha⟩
   ·have z':=(if_neg hb).symm.trans z;cases z'
  ·by_cases hb:b=a
   ·exact hb
   ·exact absurd (if_neg hb) z
noncomputable def lH(s:Stmt):Arguments:=match s with
 | .FunctionDef _ a _ _ _ _ _ _ _ _=>a
 | _=>{ posonlyargs:=[],args:=[],vararg:=none,kwonlyargs:=[],kw_defaults:=[],kwarg:=none,defaults:=[] }
noncomputable def gK(s:Stmt):List Stmt:=match s with
 | .FunctionDef _ _ b _ _ _ _ _ _ _=>b
 | _=>[]
noncomputable def aK(s:Stmt):Scope:=match s with
 | .FunctionDef _ _ _ _ _ _ sc _ _ _=>sc
 | _=>{ kind:=.function,names:=[],isGenerator:=false,isCoroutine:=false }
abbrev Jk:CXT:=λ_ _ _ _ _ _=>False
abbrev E0:XK:=λ_ _ _=>False
theorem T9:Passes Jk X E0:=λ_ _ _ _ _ _ _ h=>h.elim
structure Fun(K:PySem.W.Frag)(x qual:Str)(st:Stmt)(f:Addr)(fd:FuncData):Prop where
 ex:∃(oc:Value) (od:Option Addr) (kV doc pm:Value) (an:Option Addr) (cdv ct:Value) (osl:Array (Option Value)),
  fd=PySem.W.fnOf x qual (lH st) (gK st) (aK st) .none kV doc pm an cdv ct/\K.lookup f=some ⟨oc,od,.func fd,osl⟩/\PySem.W.codeIn K cdv qual=true
 kp:PySem.W.keepIn K (.ref f)=true
section
variable{P:Program}{w:World}{K:PySem.W.Frag}{mg:Str->Option Value}{base:Heap}
theorem Fun.ok{st:Stmt}(F:Fun K x qual st f fd)(S:bf N ps (aK st))(len:∀vs H Q E,sp vs H Q E->vs.length=ps.length)
  (hbody:∀cdv A outer s H vs Q E,lF k (A.deeper (envOfC qual (aK st) s.heap.objs.size f cdv))->sp vs H Q E->
   ∃t,Qh (Sy Jk P w K mg base N qual (aK st) f cdv A outer s H E).nox (gK st) t/\t { nx:=λ_ H'=>Q .non H',rt:=Q } (start N vs) H):qd P w K mg base Jk (k+1) f fd ps sp:=by
 obtain⟨oc,od,kV,doc,pm,an,cdv,ct,osl,rfl,lk,hcd⟩:=F.ex;refine am7 lk hcd S len λA outer s H vs Q E hr hsp=>?_;obtain⟨t,h,q⟩:=hbody cdv A outer s H vs Q E hr hsp;exact⟨t,h.nox,q⟩
theorem Fun.binds{st:Stmt}(F:Fun K x qual st f fd)
  (h:∀kV doc pm an cdv ct us,us.length=ps.length->bindArgs (PySem.W.fnOf x qual (lH st) (gK st) (aK st) .none kV doc pm an cdv ct) ⟨us,[]⟩=pure (ps.zip us)):Binds K fd ps []:=by
 obtain⟨oc,od,kV,doc,pm,an,cdv,ct,osl,rfl,lk,hcd⟩:=F.ex;exact .all<|h kV doc pm an cdv ct
theorem Sd{st:Stmt}{kV doc pm cdv ct:Value}(l:K.lookup f=some ⟨oc,od,.func (PySem.W.fnOf x qual (lH st) (gK st) (aK st) .none kV doc pm an cdv ct),osl⟩)
  (c:PySem.W.codeIn K cdv qual=true) (k:PySem.W.keepIn K (.ref f)=true):Fun K x qual st f (PySem.W.fnOf x qual (lH st) (gK st) (aK st) .none kV doc pm an cdv ct):=⟨⟨oc,od,kV,doc,pm,an,cdv,ct,osl,rfl,l,c⟩,k⟩
end
theorem amB{A B:Prop}(h:B):if false=true then A else B:=by rw[if_neg Qwj];exact h
theorem amA{A B:Prop}(h:A):if true=true then A else B:=by rw[if_pos rfl];exact h
def aY(H H':Hp):Prop:=∀b o,H b=some o->H' b=some o
theorem aY.refl(H):aY H H:=λ_ _ h=>h
theorem aY.trans(a:aY H H1)(b:aY H1 H2):aY H H2:=λc o h=>b c o<|a c o h
theorem aY.free(e:aY H H')(h:H' l=Option.none):H l=Option.none:=by
 cases q:H l with
 | none=>rfl
 | some o=>
  rw[e l o q] at h;cases h
theorem aY.seq{K:PySem.W.Frag}(e:aY H H')(h:jR K H a xs):jR K H' a xs:=by
 rcases h with (h|⟨o,h⟩)|h
 ·exact .inl<|.inl<|e _ _ h
 ·exact .inl<|.inr ⟨o,e _ _ h⟩
 ·exact .inr h
section
variable{κ:Type}[DecidableEq κ]
noncomputable def wV(kvs:List (κ×V))(k:κ):Option V:=(kvs.find? λkv=>decide (kv.1=k)).map (·.2)
noncomputable def putK(kvs:List (κ×V))(k:κ)(v:V):List (κ×V):=
 if (kvs.any λkv=>decide (kv.1=k))=true then kvs.map (λkv=>if kv.1=k then (kv.1,v) else kv) else kvs++[(k,v)]
theorem wR{k:κ}(e:p.1=k):wV (p::r) k=some p.2:=by simp[wV,Qj5,e]
theorem wU{k:κ}(e:¬p.1=k):wV (p::r) k=wV r k:=by simp[wV,Qj5,e]
theorem Bw(k):∀kvs:List (κ×V),(kvs.any λkv=>decide (kv.1=k))=(wV kvs k).isSome
 | []=>rfl
 | p::r=>by
  rw[List.any_cons];by_cases e:p.1=k
  ·simp[wR e,Qw8 e,Bool.true_or,Option.isSome_some]
  ·rw[wU e,Qw2 e,Bool.false_or];exact Bw k r
theorem uB(kvs)(k:κ)(v):(putK kvs k v).length<=kvs.length+1:=by
 unfold putK;split
 ·rw[Qqz];omega
 ·rw[Qq1,Qq3,List.length_nil];omega
theorem Gq.zj(r:Gq o u):o.isSome=u.isSome:=by
 cases o with
 | none=>cases u with
  | none=>rfl
  | some _=>exact r.elim
 | some _=>cases u with
  | none=>exact r.elim
  | some _=>rfl
theorem KV.val(r:KV kvs vs)(k:κ):Gq (wV kvs k) (valueAt vs k):=by
 unfold KV at r
 induction r with
 | nil=>exact True.intro
 | @cons p q ps qs h t ih=>
  obtain⟨h1,h2⟩:=h;by_cases e:p.1=k
  ·have e':=h1.symm.trans e;have b:valueAt (q::qs) k=some q.2:=by simp[valueAt,Qj5,e']
   rw[wR e,b];exact h2
  ·have e':¬q.1=k:=λz=>e<|h1.trans z;have b:valueAt (q::qs) k=valueAt qs k:=by simp[valueAt,Qj5,e']
   rw[wU e,b];exact ih
theorem KV.any(r:KV kvs vs)(k:κ):(kvs.any λkv=>decide (kv.1=k))=vs.any λkv=>decide (kv.1=k):=by
 unfold KV at r
 induction r with
 | nil=>rfl
 | cons h t ih=>rw[List.any_cons,List.any_cons,ih,h.1]
theorem KV.repl(r:KV kvs vs)(k:κ)(ry:RelV y u) :
  KV (kvs.map λkv=>if kv.1=k then (kv.1,y) else kv) (vs.map λkv=>if kv.1=k then (kv.1,u) else kv):=by
 unfold KV at r ⊢
 induction r with
 | nil=>exact .nil
 | @cons p q ps qs h t ih=>
  rw[Qq4,Qq4];refine .cons ?_ ih;obtain⟨h1,h2⟩:=h;by_cases e:p.1=k
  ·rw[if_pos e,if_pos<|h1.symm.trans e];exact⟨h1,ry⟩
  ·rw[if_neg e,if_neg<|λz=>e<|h1.trans z];exact⟨h1,h2⟩
theorem KV.put(r:KV kvs vs)(k:κ)(ry:RelV y u):KV (putK kvs k y) (stored vs k u):=by
 unfold putK stored;rw[r.any k];by_cases e:(vs.any λkv=>decide (kv.1=k))=true
 ·rw[if_pos e,if_pos e];exact r.repl k ry
 ·rw[if_neg e,if_neg e];exact Paired.snoc r ⟨rfl,ry⟩
theorem KV.keys{vs:List (κ×Value)}(r:KV kvs vs):kvs.map (·.1)=vs.map (·.1):=by
 unfold KV at r
 induction r with
 | nil=>rfl
 | cons h t ih=>rw[Qq4,Qq4,ih,h.1]
theorem KV.length{vs:List (κ×Value)}(r:KV kvs vs):kvs.length=vs.length:=Paired.length r
end
theorem xG(r:RelV (kV k) u):(cI P w).is k u=true:=by
 cases k with
 | inl i=>obtain⟨t,e⟩:=(show ∃t,u=Value.int i t from r);subst e;exact Nx P w i t
 | inr x=>obtain⟨t,e⟩:=(show ∃t,u=Value.str x t from r);subst e;exact Nv P w x t
theorem Hc:∀{ks} {us},Vals (ks.map kV) us->ItemsAre (cI P w) ks us
 | [],_,r=>by rw[List.map_nil] at r;cases r;exact .nil
 | k::ks,_,r=>by
  rw[Qq4] at r;cases r with
  | cons h t=>exact .cons (xG h)<|Hc t
abbrev KT(H:Hp):List (List Key×V)->List (List Key×Addr×Value)->Prop:=Paired λp q=>p.1=q.1/\H q.2.1=some (.tup (p.1.map kV))/\RelV p.2 q.2.2
theorem KT.val(r:KT H kvs xs)(k):Gq (wV kvs k) ((atKey xs k).map (·.2)):=by
 induction r with
 | nil=>exact True.intro
 | @cons p q ps qs h t ih=>
  obtain⟨h1,_,h2⟩:=h;by_cases e:p.1=k
  ·have e':=h1.symm.trans e;have b:atKey (q::qs) k=some q.2:=by simp[atKey,Qj5,e']
   rw[wR e,b];exact h2
  ·have e':¬q.1=k:=λz=>e<|h1.trans z;have b:atKey (q::qs) k=atKey qs k:=by simp[atKey,Qj5,e']
   rw[wU e,b];exact ih
theorem KT.repl(r:KT H kvs xs)(k)(ry:RelV y u) :
  KT H (kvs.map λkv=>if kv.1=k then (kv.1,y) else kv) (xs.map (putAt k u)):=by
 induction r with
 | nil=>exact .nil
 | @cons p q ps qs h t ih=>
  rw[Qq4,Qq4];refine .cons ?_ ih;obtain⟨h1,h2,h3⟩:=h;unfold putAt;by_cases e:p.1=k
  ·rw[if_pos e,if_pos<|h1.symm.trans e];exact⟨h1,h2,ry⟩
  ·rw[if_neg e,if_neg<|λz=>e<|h1.trans z];exact⟨h1,h2,h3⟩
theorem KT.put(r:KT H kvs xs)(k)(hb:H b=some (.tup (k.map kV)))(ry:RelV y u) :
  KT H (putK kvs k y) (storedH xs k b u):=by
 have e:(kvs.any λkv=>decide (kv.1=k))=(atKey xs k).isSome:=by rw[Bw,(r.val k).zj,Option.isSome_map]
 unfold putK storedH;rw[e];by_cases q:(atKey xs k).isSome=true
 ·rw[if_pos q,if_pos q];exact r.repl k ry
 ·rw[if_neg q,if_neg q];exact Paired.snoc r ⟨rfl,hb,ry⟩
theorem KT.keeps(r:KT H kvs xs)(ht:∀b ys,H b=some (.tup ys)->H' b=some (.tup ys)):KT H' kvs xs:=
 Paired.ah3 r λ_ _ z=>⟨z.1,ht _ _ z.2.1,z.2.2⟩
section
variable{P:Program}{w:World}{H:Hp}{h:Heap}{a:Addr}
theorem afF(ok:yg P w H h)(e:Rd H a u):iZ P w H h a u:=e.ok ok
theorem OJ(ok:yg P w H h)(e:Rd H a (.dK kvs)):kvs.length<=sizeLine/\(a == sysModules)=false/\∃vs,KV kvs vs/\h.DictOf (cI P w) a vs:=
 show iZ P w H h a (.dK kvs) from afF ok e
theorem anj(ok:yg P w H h)(e:H a=some (.dK kvs)):kvs.length<=sizeLine/\(a == sysModules)=false/\∃vs,KV kvs vs/\h.DictOf (cI P w) a vs:=OJ ok<|.inl e
theorem KC(ok:yg P w H h)(e:H a=some (.tup (ks.map kV))):(tupleKind (cI P w)).is h ks a:=by obtain⟨_,its,r,o,h1,h2,⟨n,h3⟩,_⟩:=(show iZ P w H h a (.tup<|ks.map kV) from ok a _ e);exact⟨o,its.toArray,n,h1,h2,h3,by simpa using Hc r⟩
theorem U5(ok:yg P w H h)(e:Rd H a (.dT kvs)):kvs.length<=sizeLine/\(a == sysModules)=false/\
  ∃xs,KT H kvs xs/\h.DictOfH (tupleKind (cI P w)) a xs:=by
 obtain⟨z,y,xs,r,o,es,ep,h1,h2,h3,h4,h5⟩:=(show iZ P w H h a (.dT kvs) from afF ok e);refine⟨z,y,xs,r,o,es,ep,h1,h2,h3,h4,λx hx=>?_,h5⟩;have all:∀{l} {m},KT H l m->∀x∈m,(tupleKind<|cI P w).is h x.1 x.2.1:=by
  intro l m q
  induction q with
  | nil=>intro x hx;exact nomatch hx
  | @cons p q ps qs hq t ih=>
   intro x hx;rcases Qwq.mp hx with e|hx
   ·subst e;exact KC ok (by rw[<-hq.1];exact hq.2.1)
   ·exact ih x hx
 exact all r x hx
theorem ani(ok:yg P w H h)(e:H a=some (.dT kvs)):kvs.length<=sizeLine/\(a == sysModules)=false/\
  ∃xs,KT H kvs xs/\h.DictOfH (tupleKind (cI P w)) a xs:=U5 ok<|.inl e
end
def XD(H:Hp)(a:Addr)(y:V)(r:Option V):Prop:=
 (∃kvs k,Rd H a (.dK kvs)/\y=kV k/\r=wV kvs k)\/∃kvs k b,Rd H a (.dT kvs)/\y = .ref b/\H b=some (.tup (k.map kV))/\r=wV kvs k
def abX(H:Hp)(a:Addr)(y v:V)(H':Hp):Prop:=
 (∃kvs k,H a=some (.dK kvs)/\y=kV k/\kvs.length<sizeLine/\H'=upd H a (.dK (putK kvs k v)))\/
 ∃kvs k b,H a=some (.dT kvs)/\y = .ref b/\H b=some (.tup (k.map kV))/\kvs.length<sizeLine/\H'=upd H a (.dT (putK kvs k v))
theorem abX.k{k:Key}(e:H a=some (.dK kvs))(hl:kvs.length<sizeLine):abX H a (kV k) v (upd H a (.dK (putK kvs k v))):=.inl ⟨kvs,k,e,rfl,hl,rfl⟩
section
variable{X:Cx}{pins:List (Addr×Obj)}{σ:St}{H:Hp}{s:Shared}{a:Addr}{y v:V}{u r:Value}{o:Option V}{A:Around}{E:Value->Shared->Prop}
theorem Inv.big(I:Inv X pins σ H s):sysModules<s.heap.objs.size:=by have h:=(I.mod.glob.keeps I.bk).lt;exact Nat.lt_trans (by decide) h
theorem Xh(hu:A.units+1<cLine)(I:Inv X pins σ H s)(g:XD H a y (some v))(ry:RelV y u)(h:∀w' s',Inv X pins σ H s'->RelV v w'->Q w' s') :
  wpAny (model X.prog X.w) A (getItem (.ref a) u) Q E s:=by
 rcases g with ⟨kvs,k,e,ey,l⟩|⟨kvs,k,b,e,ey,eb,l⟩
 ·subst ey;obtain⟨z,hd,vs,rel,dd⟩:=OJ I.hok e;obtain⟨w',hw,rw'⟩:=Gq.some_of (by rw[l];exact rel.val k);exact wpAny_getItem_of (xG ry) dd.mapOf hw<|h w' _ (I.tok _) rw'
 ·subst ey;cases ry;obtain⟨z,hd,xs,rel,dd⟩:=U5 I.hok e;obtain⟨w',hw,rw'⟩:=Gq.some_of (by rw[l];exact rel.val k);obtain⟨p,hp,hp2⟩:=Qww.mp hw;refine wpAny_getItem_heap (tupleKind_room_in1 hu) (KC I.hok eb) dd hp ?_;rw[hp2];exact h w' _ (I.tok _) rw'
theorem apB(hu:A.units+1<cLine)(I:Inv X pins σ H s)(g:XD H a y o)(ry:RelV y u)(h:∀s',Inv X pins σ H s'->Q (.bool o.isSome) s') :
  wpAny (model X.prog X.w) A (compareOp .In u (.ref a)) Q E s:=by
 rcases g with ⟨kvs,k,e,ey,l⟩|⟨kvs,k,b,e,ey,eb,l⟩
 ·subst ey;obtain⟨z,hd,vs,rel,dd⟩:=OJ I.hok e;refine wpAny_in_of (xG ry) hd dd.mapOf ?_;rw[<-(rel.val k).zj,<-l];exact h _<|I.tok _
 ·subst ey;cases ry;obtain⟨z,hd,xs,rel,dd⟩:=U5 I.hok e;refine wpAny_in_heap (tupleKind_room_in1 hu) (KC I.hok eb) hd dd ?_;have q:=(rel.val k).zj;rw[Option.isSome_map] at q;rw[<-q,<-l];exact h _<|I.tok _
theorem U6(I:Inv X pins σ H s)(mu:Mut (H a))(hs:Heap.SameBut a s.heap h')(he:∃q,h'.get? a=some q)(new:iZ X.prog X.w (upd H a ob) h' a ob) :
  Inv X pins σ (upd H a ob) { s with heap:=h',toks:=t' }:=
 I.write mu (.inl rfl) (λb q hb z=>(hs.2 b hb).trans z) he new
theorem ajD(z:kvs.length<=sizeLine)(hd:(a == sysModules)=false)(rel:KV kvs vs)(dd:h'.DictOf (cI P w) a vs) :
  iZ P w H' h' a (.dK kvs):=⟨z,hd,vs,rel,dd⟩
theorem Xg(hu:A.units+1<cLine)(I:Inv X pins σ H s)(g:abX H a y v H')(ry:RelV y u)(rv:RelV v r)(h:∀s',Inv X pins σ H' s'->Q () s') :
  wpAny (model X.prog X.w) A (setItem (.ref a) u r) Q E s:=by
 rcases g with ⟨kvs,k,e,ey,l,eH⟩|⟨kvs,k,b,e,ey,eb,l,eH⟩
 ·subst ey eH;obtain⟨z,hd,vs,rel,dd⟩:=anj I.hok e;have hz:vs.length<=sizeLine:=by rw[<-rel.length];exact z
  have hl:(putK kvs k v).length<=sizeLine:=by have:=uB kvs k v;omega
  refine wpAny_setItem_pairs (xG ry) dd λh' dd' hs=>h _ ?_;have he:∃q,h'.get? a=some q:=let ⟨q,_,_,hq,_⟩:=dd';⟨q,hq⟩
  exact U6 I (by rw[e];exact True.intro) hs he<|ajD hl hd (rel.put k rv) dd'
 ·subst ey eH;cases ry;obtain⟨z,hd,xs,rel,dd⟩:=ani I.hok e;have hz:xs.length<=sizeLine:=by rw[<-Paired.length rel];exact z
  have hl:(putK kvs k v).length<=sizeLine:=by have:=uB kvs k v;omega
  refine wpAny_setItem_heap (tupleKind_room_in1 hu) (KC I.hok eb) dd λh' dd' hs=>h _ ?_;obtain⟨q,es,ep,hq,h2,h3,h4,_,h5⟩:=dd';refine U6 I (by rw[e];exact True.intro) hs ⟨q,hq⟩ ⟨hl,hd,_,(rel.put k eb rv).keeps λc ys ec=>?_,q,es,ep,hq,h2,h3,h4,h5⟩;rw[cz (al2 ec e<|λz=>nomatch z)];exact ec
end
def abU(i:Expr):Prop:=∀ov iv,subscripted i false ov iv=operate [ov,iv] (getItem ov iv)
theorem Tt{T id:String}
  (hl:typeLookup (.type T) "__getitem__" = pure (some (.builtin id))) (hs:abU slice)
  (h:wpAny (model prog w) A (eval value env) (λo s₁=>wpAny (model prog w) A (eval slice env) (λi s₂=>s₂.TypeIs o T/\wpAny (model prog w) A (getItem o i) Q E s₂) E s₁) E s) :
  wpAny (model prog w) A (eval (.Subscript value slice pos) env) Q E s:=by
 refine Subscript_<|Qw3 h (λo s₁ h₁=>Qw3 h₁ (λi s₂ h₂=>?_) λ_ _ x=>x) λ_ _ x=>x;obtain⟨hT,h₂⟩:=h₂;unfold subscriptTail;refine Qqx ?_;rw[getitemInPython_of_ne hT.not_modules];refine Qqx<|wpAny_specialOf hT hl ?_;have fin:wpAny (model prog w) A (subscripted slice false o i) (λr s₃=>wpAny (model prog w) A (letTemporaryGo value o r >>= λ_=>pure r) Q E s₃) E s₂:=by rw[hs o i];exact wpAny_operating<|Qw3 h₂ (λr s₃ h₃=>Qqx<|wpAny_letTemporaryGo<|Qqk h₃) λ_ _ x=>x
 first
  | exact Qqk<|Qqx fin
  | exact Qqx<|Qqk<|Qqx fin
  | exact Qqx fin
theorem O3{σ:St}(I:Inv X pins σ H s)(g:XD H a y o):s.TypeIs (.ref a) "dict":=by
 rcases g with ⟨kvs,k,e,_,_⟩|⟨kvs,k,b,e,_,_,_⟩
 ·obtain⟨_,_,vs,_,dd⟩:=OJ I.hok e;exact dd.typeIs
 ·obtain⟨_,_,xs,_,dd⟩:=U5 I.hok e;exact dd.typeIs
def akX(td ty:TE):TE:=λσ H Q=>td σ H λx H1=>ty σ H1 λy H2=>∃a v,x = .ref a/\XD H2 a y (some v)/\Q v H2
def ak9(td ty tv:TE):TS:=λD σ H=>tv σ H λv H1=>td σ H1 λx H2=>ty σ H2 λy H3=>∃a H4,x = .ref a/\abX H3 a y v H4/\D.nx σ H4
section
variable{X:Cx}{o i e value:Expr}{pos pos' tpos:Pos}{td ty tv:TE}
theorem adx(hu:X.A.units+1<cLine)(ho:PE X o td)(hi:PE X i ty)(hs:abU i):PE X (.Subscript o i pos) (akX td ty):=by intro pins s σ H Q I h;refine Tt PySem.F.slot_dict_getitem.lookup hs<|fG (ho pins s σ H _ I h) λu s1 ⟨x,H1,I1,rx,q1⟩=>fG (hi pins s1 σ H1 _ I1 q1) λiv s2 ⟨y,H2,I2,ry,a,v,ex,g,q2⟩=>?_;subst ex;obtain rfl:u=Value.ref a:=rx;exact⟨O3 I2 g,Xh hu I2 g ry λw' s3 I3 rw'=>⟨v,H2,I3,rw',q2⟩⟩
theorem adi(hu:X.A.units+1<cLine)(ho:PE X o td)(hi:PE X i ty)(hv:PE X value tv)(hs:swapsWith value (some (.Subscript o i pos')) pos.line X.env=pure false) :
  PS X (.Assign [.Subscript o i pos'] value pos) (ak9 td ty tv):=by
 intro pins s σ H D I h;refine wpAny_Assign_Subscript (fG (hv pins s σ H _ I h) λr s1 ⟨v,H1,I1,rv,q1⟩=>fG (ho pins s1 σ H1 _ I1 q1) λu s2 ⟨x,H2,I2,rx,q2⟩=>fG (hi pins s2 σ H2 _ I2 q2) λiv s3 ⟨y,H3,I3,ry,a,H4,ex,g,q3⟩=>?_) hs;subst ex;obtain rfl:u=Value.ref a:=rx;exact Xg hu I3 g ry rv λs4 I4=>⟨σ,H4,I4,q3⟩
end
theorem abv(h:Heap)(hb:sysModules<h.objs.size):iZ P w H (h.push { cls:=.type "dict",data:=.dict #[] }) h.objs.size (.dK []):=
 ⟨Qxw _,Qzk.mpr<|Ne.symm<|Qwv hb,[],.nil,Heap.DictOf.new h⟩
def agK:TE:=λ_ H Q=>∀p,H p=none->Q (.ref p) (upd H p (.dK []))
section
variable{X:Cx}{pos:Pos}
theorem ZW:PE X (.Dict [] [] pos) agK:=λpins s σ H Q I h=>
 wpAny_Dict_empty ⟨.ref s.heap.objs.size,_,I.laid (λ_ _ q=>Qqq _ q) (Qqw _)<|abv s.heap I.big,rfl,h _<|I.hok.fresh<|Qqw _⟩
end
noncomputable def lZ(env:Env):List (Str×NameKind)->List (Str×Addr)->List (Str×Addr)
 | [],acc=>acc
 | (n,k)::r,acc=>if k == .free then lZ env r ((n,(env.cells.lookup n).getD 0)::acc) else lZ env r acc
theorem Es(f)
  (hf:∀n k cs,f (n,k) cs=if k == .free then (do let a <-cellOf env n;pure (.yield ((n,a)::cs))) else pure (.yield cs)) :
  ∀names acc,(∀n,(n,NameKind.free)∈names->∃c,env.cells.lookup n=some c)->forIn names acc f=pure (lZ env names acc)
 | [],acc,_=>by rfl
 | (n,k)::r,acc,h=>by
  have ih:=Es f hf r;have hr:=λm hm=>h m<|Qq0 _ hm;rw[List.forIn_cons,hf];cases hk:k == NameKind.free with
  | true=>
   have hk':k = .free:=by simp_all
   obtain⟨c,hc⟩:=h n (by simp_all);rw[if_pos rfl];unfold cellOf;rw[hc];simp[pure_bind];rw[ih _ hr]
   conv=>rhs;unfold lZ
   simp_all
  | false=>
   rw[if_neg (by simp)];simp[pure_bind];rw[ih _ hr]
   conv=>rhs;unfold lZ
   simp_all
theorem sI(h:∀n,(n,NameKind.free)∈scope.names->∃c,env.cells.lookup n=some c):closureFor scope env=pure (lZ env scope.names []):=by
 simp only[closureFor];rw[Es _ (λn k cs=>by rfl) _ _ h]
 rfl
theorem yc:∀names acc x c,(∀n,(n,NameKind.free)∈names->∃c,env.cells.lookup n=some c)->
  (∀y d,acc.lookup y=some d->env.cells.lookup y=some d)->(lZ env names acc).lookup x=some c->env.cells.lookup x=some c
 | [],acc,x,c,_,ha,h=>ha x c h
 | (n,k)::r,acc,x,c,hn,ha,h=>by
  have hr:=λm hm=>hn m<|Qq0 _ hm;unfold lZ at h;split at h
  ·rename_i hk;have hk':k = .free:=by simp_all
   obtain⟨d,hd⟩:=hn n (by simp_all);refine yc r _ x c hr (λy e he=>?_) h
   grind
  ·exact yc r acc x c hr ha h
theorem zB:∀names acc x,(acc.lookup x).isSome=true->((lZ env names acc).lookup x).isSome=true
 | [],acc,x,h=>h
 | (n,k)::r,acc,x,h=>by
  unfold lZ;split
  ·refine zB r _ x ?_
   simp_all
  ·exact zB r acc x h
theorem xZ:∀names acc x,(x,NameKind.free)∈names->((lZ env names acc).lookup x).isSome=true
 | [],acc,x,h=>nomatch h
 | (n,k)::r,acc,x,h=>by
  unfold lZ;rcases Qwq.mp h with e|h
  ·obtain⟨e1,e2⟩:=Prod.mk.inj e;subst e1 e2;rw[if_pos (by rfl)];refine zB r _ x ?_
   simp_all
  ·split
   ·exact xZ r _ x h
   ·exact xZ r acc x h
theorem iJ:∀names n acc,cellsFrom n names acc=cellsFrom n names []++acc
 | [],n,acc=>rfl
 | (x,k)::r,n,acc=>by
  unfold cellsFrom;split
  ·rw[iJ r (n+1) ((x,n)::acc),iJ r (n+1) [(x,n)],List.append_assoc]
   rfl
  ·exact iJ r n acc
theorem qH:∀names n x c,(x,c)∈cellsFrom n names []->(x,NameKind.cell)∈names
 | [],n,x,c,h=>nomatch h
 | (y,k)::r,n,x,c,h=>by
  unfold cellsFrom at h;split at h
  ·rename_i hk;have hk':k = .cell:=by simp_all
   rw[iJ] at h;rcases Qw5.mp h with h|h
   ·exact Qq0 _<|qH r _ x c h
   simp_all
  ·exact Qq0 _<|qH r _ x c h
theorem wB{α:Type}:∀(l m:List (Str×α)) x,(l++m).lookup x=match l.lookup x with|some v=>some v|none=>m.lookup x
 | [],m,x=>rfl
 | (k,v)::r,m,x=>by
  grind
theorem CZ{α:Type}:∀(l:List (Str×α)) x,(∀v,(x,v) ∉ l)->l.lookup x=none
 | [],x,_=>rfl
 | (k,v)::r,x,h=>by
  grind
theorem lookup_mem{α:Type}:∀(l:List (Str×α)) x v,l.lookup x=some v->(x,v)∈l
 | [],x,v,h=>nomatch h
 | (k,w)::r,x,v,h=>by
  rw[Qj3] at h;cases e:x == k with
  | true=>
   simp_all
  | false=>
   rw[e] at h;exact Qq0 _<|lookup_mem r x v h
theorem iH{α:Type}:∀(l:List (Str×α)) x v,(l.map (·.1)).Nodup->(x,v)∈l->l.lookup x=some v
 | [],x,v,_,h=>nomatch h
 | (k,w)::r,x,v,nd,h=>by
  rw[Qj3];have nd':=Qz2.mp nd;rcases Qwq.mp h with e|h
  ·simp_all
  ·have hne:¬x=k:=λe=>nd'.1 (by simp_all);have hb:(x == k)=false:=by simp_all
   rw[hb];exact iH r x v nd'.2 h
theorem uy
  (hQ:∀h',h'.Ns s.heap.objs.size (λ_=>none)->(∀b o,s.heap.get? b=some o->h'.get? b=some o)->CellsOk h' (s.heap.objs.size+1) (cellsFrom (s.heap.objs.size+1) scope.names [])->
   Q { scope,locals:=s.heap.objs.size,globals,cells:=cellsFrom (s.heap.objs.size+1) scope.names cl,qual,func:=none,code:=outer.code,frame:=outer.frame,builtins:=outer.builtins } { s with heap:=h' }) :
  wpAny M A (newFunctionEnv scope globals cl [] qual none .none (some outer)) Q E s:=by
 simp only[newFunctionEnv,Option.isSome_some,if_true];refine Qqx<|wpAny_alloc ?_;refine Qqx<|wpAny_layCells _ (λname kind cells=>by rfl) _ _ _ _ ?_;have ok:=cellsFrom_ok scope.names (s.heap.push { cls:=.type "dict",data:=.dict #[] }) (s.heap.objs.size+1) [] ⟨λ_ _ hm=>(nomatch hm),List.Pairwise.nil⟩ (by simp_all);rw[Qx6] at ok;rw[show({ s with heap:=s.heap.push { cls:=.type "dict",data:=.dict #[] } }:Shared).heap.objs.size=s.heap.objs.size+1 from Qx6 ..];refine Qqx ?_;rw[Qj9];refine Qqk<|Qqk<|hQ _ ?_ ?_ ?_
 ·exact(Heap.Ns.new s.heap<|.type "dict").keeps<|pushCells_keeps _ _
 ·exact λb o e=>pushCells_keeps _ _ b o<|Qqq _ e
 ·exact ok
noncomputable def cxC(X:Cx)(scope:Scope)(N':List Str)(cells:List (Str×Addr))(C:Addr)(s0:Shared)(H0:Hp)(fp:List Addr):Cx:=
 { X with N:=N',s₀:=s0,H₀:=H0,env:=compEnvC scope cells C X.env,outer:=X.stack,stack:=X.stack,ex:=fp,fn:=λx=>decide (scope.names.lookup x=some .cell),pn:=[],xe:=λ_ _=>False }
theorem uz{env:Env}:∀(names:List (Str×NameKind)) x,
  (names.map λ(n,k)=>if (k == NameKind.free&&env.scope.kind == .function&&env.kindOf n == some .cell) then (n,NameKind.cell) else (n,k)).lookup x =
   (names.lookup x).map λk=>if (k == NameKind.free&&env.scope.kind == .function&&env.kindOf x == some .cell) then NameKind.cell else k
 | [],x=>rfl
 | (n,k)::r,x=>by
  show List.lookup x ((if (k == NameKind.free&&env.scope.kind == .function&&env.kindOf n == some .cell)=true then (n,NameKind.cell) else (n,k))::_)=_;cases hx:x == n with
  | true=>
   have e:x=n:=by simpa using hx
   subst e;simp[Qj3,hx,Qj7];split<;>simp[Qj3]
  | false=>
   simp only[Qj3,hx];rw[<-uz r x];split<;>simp[Qj3,hx]
noncomputable def abx(names:List (Str×NameKind)):List Str->List Str->Bool
 | _,[]=>true
 | [],_::_=>false
 | x'::N',x::N=>((names.lookup x').isNone||(x' == x&&names.lookup x' == some .free))&&abx names N' N
theorem O9:∀{N' N},abx names N' N=true->∀i x,i<N.length->N'[i]? = some x->(names.lookup x).isSome=true->N[i]? = some x/\names.lookup x=some .free
 | _,[],_,i,x,h,_,_=>absurd h<|Nat.not_lt_zero _
 | [],_::_,h,_,_,_,_,_=>by cases h
 | x'::N',y::N,h,i,x,hi,e,hs=>by
  unfold abx at h;have h1:=(Qjk.mp h).1;have h2:=(Qjk.mp h).2;cases i with
  | zero=>
   have e':x'=x:=by simpa using e
   subst e';rcases Bool.or_eq_true_iff.mp h1 with q|q
   ·cases z:names.lookup x' with
    | none=>simp_all
    | some k=>simp_all
   grind
  | succ i=>exact O9 h2 i x (by simp_all) (by simpa using e) hs
structure jA(X:Cx)(scope:Scope)(N':List Str):Prop where
 kind:scope.kind = .function
 nd:(scope.names.map (·.1)).Nodup
 free:∀x∈scope.names,x.2 = .free->X.env.kindOf x.1=some .cell\/X.env.kindOf x.1=some .free
 chk:abx scope.names N' X.N=true
 len:X.N.length<=N'.length
def PIf(X:Cx)(ifs:List Expr)(t:TT):Prop:=
 ∀(pins:List (Addr×Obj)) (s:Shared) (σ:St) (H:Hp) (Q:Bool->Hp->Prop),Inv X pins σ H s->t σ H Q->
  wpAny (model X.prog X.w) X.A (forIn ifs true λc r=>if r=true then do let ok <-isTrue c X.env (eval c X.env);pure (ForInStep.yield ok) else pure (ForInStep.yield r)) (TP X pins σ Q) X.xe s
theorem adp:PIf X [] (λ_ H Q=>Q true H):=λpins s σ H Q I h=>by
 rw[Qj9];exact Qqk ⟨H,I,h⟩
theorem ado(h:PT X c t):PIf X [c] t:=λpins s σ H Q I hw=>by
 rw[List.forIn_cons,if_pos rfl];refine Qqx<|Qqx<|fG (h pins s σ H Q I hw) λb s' q=>?_;refine Qqk ?_;show wpAny _ _ (forIn [] b _) _ _ _;rw[Qj9];exact Qqk q
noncomputable def qW(n:Nat)(σ:St):St:=σ++List.replicate n none
def tLC(n:Nat)(wi:TI)(g:TG)(tc:TT)(te:TE):TE:=λσ H Q=>wi σ H λJ H1=>∀d,H1 d=none->∃W:Nat->Nat->St->Hp->Prop,(∃m,W 0 m (qW (n - σ.length) σ) (upd H1 d (.lst [])))/\∀i m σ' H',W i m σ' H'->
 (J.stop i H'/\Q (.ref d) H')\/(J.go i H'/\∃N:St->Hp->Prop,(∀σ2 H2,N σ2 H2->∃m',m'<m/\W (i+1) m' σ2 H2)/\∀x H2,J.Yb i H' x H2->g x σ' H2 λσ3 H3=>tc σ3 H3 λb H4=>
  if b=true then te σ3 H4 λy H5=>∃ys,H5 d=some (.lst ys)/\ys.length<sizeLine/\N σ3 (upd H5 d (.lst (ys++[y]))) else N σ3 H4)
section
variable{prog:Program}{w:World}{A:Around}{R:Result->Shared->Prop}{s:Shared}
theorem K5(I:Nat->Shared->Prop)
  (turn:∀n s,I n s->wpAny (model prog w) A (pyNext it) (λr s₁=>match r with
   | none=>R (.ok .next) s₁
   | some v=>wpAny (model prog w) A (letOwnedTupleGo target it v) (λ_ s₁'=>wpAny (model prog w) A (assign target env v) (λ_ s₂=>
     wpAny (model prog w) A (forIn ifs true λc r=>if r=true then do let ok <-isTrue c env (eval c env);pure (ForInStep.yield ok) else pure (ForInStep.yield r)) (λok s₃=>
      if ok=true then wpAny (model prog w) A (eval elt env) (λx s₄=>
       wpAny (model prog w) A (call (.builtin "list.append") [acc,x]) (λ_ s₅=>∃m,m<n/\I m s₅) (λ_ _=>False) s₄) (λ_ _=>False) s₃
      else ∃m,m<n/\I m s₃) (λ_ _=>False) s₂) (λ_ _=>False) s₁') (λ_ _=>False) s₁) (λ_ _=>False) s)
  (n) (h:I n s) :
  codeAny (model prog w) A (.compLoop (.ListComp elt [⟨target,iter,ifs,0⟩] scope pos) 0 it acc env) R s:=by
 refine codeAny_loop rfl I (λn s hI=>?_) n h;show wpAny _ A ((compTurn (.ListComp elt [⟨target,iter,ifs,0⟩] scope pos) 0 it acc env).onRaise<|λx=>do noteFrame x env;theTreesLotGoes x) _ _ s;refine wpAny_noted ?_;rw[compTurn_list];refine Qqx<|Qz0<|Qqx<|Qw3 (turn n s hI) (λr s₁ h₁=>?_) λ_ _ h'=>h'.elim;cases r with
 | none=>exact Qqk h₁
 | some v=>
  refine Qqx<|Qw3 h₁ (λ_ s₁' h₁'=>?_) λ_ _ h'=>h'.elim;refine Qqx<|Qw3 h₁' (λ_ s₂ h₂=>Qqx<|Qw3 h₂ (λok s₃ h₃=>?_) λ_ _ h'=>h'.elim) λ_ _ h'=>h'.elim;cases ok with
  | false=>exact Qqk ⟨rfl,h₃⟩
  | true=>
   exact Qqx<|Qqx<|Qw3 h₃ (λx s₄ h₄=>Qqx<|Qw3 h₄ (λ_ s₅ h₅=>Qqk<|Qqk ⟨rfl,h₅⟩) λ_ _ h'=>h'.elim) λ_ _ h'=>h'.elim
end
theorem Dp{σ:St}{fp:List Addr}(ok:jA X scope N')(I:Inv X pins σ H s)(hf:∀b∈fp,pG X pins H b)(hlt:∀b∈fp,b<s.heap.objs.size)
  (hn:h'.Ns s.heap.objs.size (λ_=>none)) (hk:∀b o,s.heap.get? b=some o->h'.get? b=some o) (co:CellsOk h' (s.heap.objs.size+1) (cellsFrom (s.heap.objs.size+1) scope.names [])) :
  Inv (cxC X scope N' (cellsFrom (s.heap.objs.size+1) scope.names (lZ X.env scope.names [])) s.heap.objs.size s H fp) [] (qW (N'.length - σ.length) σ) H { s with heap:=h' }:=by
 have hfree:∀n,(n,NameKind.free)∈scope.names->∃c,X.env.cells.lookup n=some c:=λn hm=>I.ok.has n<|ok.free _ hm rfl
 -- the cells by name
 have sJ:∀x c,(cellsFrom (s.heap.objs.size+1) scope.names<|lZ X.env scope.names []).lookup x=some c->
   ((x,c)∈cellsFrom (s.heap.objs.size+1) scope.names []/\(cellsFrom (s.heap.objs.size+1) scope.names []).lookup x=some c)\/((cellsFrom (s.heap.objs.size+1) scope.names []).lookup x=none/\X.env.cells.lookup x=some c):=λx c e=>by
  rw[iJ,wB] at e;cases q:(cellsFrom (s.heap.objs.size+1) scope.names []).lookup x with
  | some d=>rw[q] at e;cases e;exact .inl ⟨lookup_mem _ _ _ q,rfl⟩
  | none=>rw[q] at e;exact .inr ⟨rfl,yc _ _ x c hfree (λy d h=>by simp at h) e⟩
 have Cz:=λx c h=>(co.empty x c h).2;have Z3:=λx c h=>let ⟨v,q⟩:=I.cell x c h;q.lt
 have Kz:∀x,(relabel scope X.env).names.lookup x=(scope.names.lookup x).map λk=>if (k == NameKind.free&&X.env.scope.kind == .function&&X.env.kindOf x == some .cell) then NameKind.cell else k:=λx=>uz _ _
 have Ob:∀x,(x,NameKind.cell)∈scope.names->∃c,(cellsFrom (s.heap.objs.size+1) scope.names []).lookup x=some c:=λx hx=>by
  have q:=PySem.W.cellsFrom_some scope.names (s.heap.objs.size+1) []<|.inl<|iH _ _ _ ok.nd hx;exact Qxq.mp q
 have fpC:∀b∈fp,∀x c,(cellsFrom (s.heap.objs.size+1) scope.names<|lZ X.env scope.names []).lookup x=some c->c≠b:=λb hb x c e=>by
  rcases sJ x c e with ⟨h1,_⟩|⟨_,h2⟩
  ·have h3:=Cz x c h1;have h4:=hlt b hb;rintro rfl;exact absurd (Qwy h4<|Qj8 h3)<|Qx3 _
  ·exact(hf b hb).2.2.2.2.1 x c h2
 refine⟨⟨I.ok.mod,ok.kind,I.ok.glob,I.ok.blt,Qqw _,λx y c h1 h2=>?_,λx hx=>?_,λx c hx e=>?_,I.ok.hd,I.ok.frames,.inl rfl,λb hb=>⟨Qwv<|hlt b hb,λx c e=>fpC b hb x c e⟩,I.bs,Qqj I.ok.bsz I.sz,λb o e hb=>?_,λb hb=>?_,I.stack,I.Tv⟩,
  rfl,I.bare,Un.kept hk,⟨_,hn,λi x v e1 e2 e3=>?_⟩,λx c e=>?_,I.hok.fresh<|Qqw _,λx c e=>?_,λp hp=>absurd (show p∈[] from hp) (by simp),I.hok.kept hk,?_⟩
 ·-- one name a cell
  rcases sJ x c h1 with ⟨p1,_⟩|⟨_,p2⟩
  ·rcases sJ y c h2 with ⟨q1,_⟩|⟨_,q2⟩
   ·exact name_of_addr co.apart p1 q1
   ·exact absurd (Qwy (Z3 y c q2)<|Qj8<|Cz x c p1)<|Qx3 _
  ·rcases sJ y c h2 with ⟨q1,_⟩|⟨_,q2⟩
   ·exact absurd (Qwy (Z3 x c p2)<|Qj8<|Cz y c q1)<|Qx3 _
   ·exact I.ok.inj x y c p2 q2
 ·-- each cell name has one
  show ∃c,(cellsFrom (s.heap.objs.size+1) scope.names<|lZ X.env scope.names []).lookup x=some c;have hx:(relabel scope X.env).names.lookup x=some .cell\/(relabel scope X.env).names.lookup x=some .free:=hx;rw[Kz] at hx;cases q:scope.names.lookup x with
  | none=>rw[q] at hx;rcases hx with hx|hx<;>cases hx
  | some k=>
   rw[q] at hx;rw[iJ,wB];cases z:(cellsFrom (s.heap.objs.size+1) scope.names []).lookup x with
   | some d=>exact⟨d,rfl⟩
   | none=>
    have hkf:k = .free:=by
     cases k with
     | free=>rfl
     | cell=>obtain⟨c,hc⟩:=Ob x<|lookup_mem _ _ _ q;rw[hc] at z;cases z
     | _=>rcases hx with hx|hx<;>simp at hx
    subst hkf;exact Qxq.mp<|xZ _ _ x<|lookup_mem _ _ _ q
 ·-- its own cells are new
  have hx':=Qx9 hx;rcases sJ x c e with ⟨p1,_⟩|⟨p1,_⟩
  ·exact Qj8<|Cz x c p1
  ·obtain⟨d,hd⟩:=Ob x<|lookup_mem _ _ _ hx';rw[hd] at p1;cases p1
 ·rcases(hf b hb).2.2.2.1 with z|z
  ·exact I.ok.aah b o e z
  ·have h1:=Qqv e;have h2:=I.ok.bsz;exact absurd (Qwy h1<|Qqj h2 z)<|Qx3 _
 ·intro hm;rcases Qwq.mp (I.QM b hm) with z|z
  ·exact(hf b hb).2.1 z
  ·exact(hf b hb).2.2.1 z
 ·-- the names
  have hiσ:i<σ.length:=by
   by_cases hi:i<σ.length
   ·exact hi
   ·unfold qW at e2;rw[List.getElem?_append_right (by omega),List.getElem?_replicate] at e2;split at e2<;>cases e2
  have e2':σ[i]? = some (some v):=by
   unfold qW at e2
   rwa [Qjj hiσ] at e2
  have vis:(scope.names.lookup x).isSome=true:=by
   have e3:(relabel scope X.env).names.lookup x=some .local\/(relabel scope X.env).names.lookup x=some .cell\/(relabel scope X.env).names.lookup x=some .free:=e3;rw[Kz] at e3;cases q:scope.names.lookup x with
   | none=>rw[q] at e3;rcases e3 with z|z|z<;>cases z
   | some k=>rfl
  obtain⟨hN,hfr⟩:=O9 ok.chk i x (by rw[<-I.len];exact hiσ) e1 vis;have hm:=lookup_mem _ _ _ hfr;have hkk:=ok.free _ hm rfl;obtain⟨m,hns,hl⟩:=I.loc;obtain⟨u,ru,lk⟩:=hl i x v hN e2'<|hkk.elim (λz=>.inr<|.inl z) λz=>.inr<|.inr z;refine⟨u,ru,.inr ⟨?_,?_⟩⟩
  ·show(relabel scope X.env).names.lookup x=some .cell\/(relabel scope X.env).names.lookup x=some .free;rw[Kz,hfr];by_cases hc:(NameKind.free == NameKind.free&&X.env.scope.kind == .function&&X.env.kindOf x == some .cell)=true
   ·left;rw[Qj7,if_pos hc]
   ·right;rw[Qj7,if_neg hc]
  ·rcases lk with ⟨hl1,_⟩|⟨_,c,hc,hcell⟩
   ·rcases hkk with z|z<;>(rw[z] at hl1;cases hl1)
   ·refine⟨c,?_,hcell.keeps hk⟩;show(cellsFrom (s.heap.objs.size+1) scope.names<|lZ X.env scope.names []).lookup x=some c;rw[iJ,wB];have hno:(cellsFrom (s.heap.objs.size+1) scope.names []).lookup x=none:=CZ _ _ λd hd=>by
     have h1:=iH _ _ _ ok.nd<|qH _ _ _ _ hd;rw[hfr] at h1;cases h1
    rw[hno];obtain⟨d,hd⟩:=Qxq.mp<|xZ scope.names [] x hm;have h2:=yc _ _ x d hfree (λy d h=>by simp at h) hd;rw[hc] at h2;show(lZ X.env scope.names []).lookup x=some c;rw[hd,h2]
 ·rcases sJ x c e with ⟨p1,_⟩|⟨_,p2⟩
  ·exact⟨_,(co.empty x c p1).1⟩
  ·obtain⟨v,q⟩:=I.cell x c p2;exact⟨v,q.keeps hk⟩
 ·rcases sJ x c e with ⟨p1,_⟩|⟨p0,p2⟩
  ·exact .inl<|I.hok.fresh<|Qj8<|Cz x c p1
  ·rcases I.xU x c p2 with z|⟨_,z⟩
   ·exact .inl z
   ·refine .inr ⟨?_,z⟩;show decide (scope.names.lookup x=some .cell)=false;refine Qw2 λq=>?_;obtain⟨d,hd⟩:=Et q;rw[p0] at hd;cases hd
 ·show(qW (N'.length - σ.length) σ).length=N'.length;unfold qW;rw[Qq1,Qxz];have h1:=ok.len;have h2:=I.len;omega
abbrev dI(X:Cx)(scope:Scope)(N':List Str)(X':Cx):Prop:=
 ∃(cells:List (Str×Addr)) (C:Addr) (s0:Shared) (H0:{ H:Hp // ∀b qs,X.H₀ b=some (.tab qs)->H b=some (.tab qs) }) (fp:List Addr),X'=cxC X scope N' cells C s0 H0.1 fp
theorem Iw
  (ok:jA X scope N') (hc:X.calm=true)
  (bg:∀X',dI X scope N' X'->PG X' tg g) (bc:∀X',dI X scope N' X'->PIf X' ifs tc) (be:∀X',dI X scope N' X'->PE X' elt te)
  {σ:St} {Q:VK} (I2:Inv X pins σ H2 s2) (T:Turn X.prog X.w X.K tg J fp it tn) (st2:tn 0 s2.heap) (f2:∀b∈fp,pG X pins H2 b)
  (q:∀d,H2 d=none->∃W:Nat->Nat->St->Hp->Prop,(∃m,W 0 m (qW (N'.length - σ.length) σ) (upd H2 d (.lst [])))/\∀i m σ' H',W i m σ' H'->
   (J.stop i H'/\Q (.ref d) H')\/(J.go i H'/\∃N:St->Hp->Prop,(∀σ2 H2,N σ2 H2->∃m',m'<m/\W (i+1) m' σ2 H2)/\∀x H2,J.Yb i H' x H2->g x σ' H2 λσ3 H3=>tc σ3 H3 λb H4=>
    if b=true then te σ3 H4 λy H5=>∃ys,H5 d=some (.lst ys)/\ys.length<sizeLine/\N σ3 (upd H5 d (.lst (ys++[y]))) else N σ3 H4))
  (fin:∀d C m s' H',Inv X pins σ H' s'->Q (.ref d) H'->s'.heap.Ns C m->H' C=none->C≠X.env.locals->X.s₀.heap.objs.size<=C->(∀x c,X.env.cells.lookup x=some c->c≠C)->(∀p∈X.pn++pins,p.1≠C)->
   compPost (model X.prog X.w) X.A X.xe use QQ (.ref d) C (.ok .next) s') :
  wpAny (model X.prog X.w) X.A (newList []) (λacc s₃=>wpAny (model X.prog X.w) X.A (newFunctionEnv scope X.env.globals (lZ X.env scope.names []) [] X.env.qual none .none (some X.env)) (λcenv s₄=>
   codeAny (model X.prog X.w) X.A (.compStart (.ListComp elt [⟨tg,iter,ifs,0⟩] scope pos) 0 (.ref it) acc { cenv with scope:=relabel scope X.env }) (compPost (model X.prog X.w) X.A X.xe use QQ acc cenv.locals) s₄) X.xe s₃) X.xe s2:=by
 have hd2:=I2.fresh;refine Qzw<|uy λh' hns hkeep hco=>?_
 -- the state behind the list
 obtain⟨W,⟨m0,w0⟩,turn⟩:=q s2.heap.objs.size hd2;have I3:Inv X pins σ (upd H2 s2.heap.objs.size<|.lst []) { s2 with heap:=s2.heap.push { cls:=.type "list",data:=.seq ([]:List Value).toArray } }:=I2.ah6 .nil<|Qxw _;have Ui:∀b∈fp,b<s2.heap.objs.size:=λb hb=>by
  obtain⟨o,e,_⟩:=T.obj _ _ st2 b hb;exact Qqv e
 have f3:∀b∈fp,pG X pins (upd H2 s2.heap.objs.size<|.lst []) b:=λb hb=>by
  refine⟨?_,(f2 b hb).2⟩;rw[cz (Qwv<|Ui b hb)];exact(f2 b hb).1
 have lt3:∀b∈fp,b<({ s2 with heap:=s2.heap.push { cls:=.type "list",data:=.seq ([]:List Value).toArray } }:Shared).heap.objs.size:=λb hb=>by
  show b<(s2.heap.push _).objs.size;rw[Qx6];exact Nat.lt_succ_of_lt<|Ui b hb
 have st3:tn 0 h':=T.keep _ _ _ st2 λb hb o e=>hkeep b o<|Qqq _ e;have I4:=Dp ok I3 f3 lt3 hns hkeep hco;generalize hs3:({ s2 with heap:=s2.heap.push { cls:=.type "list",data:=.seq ([]:List Value).toArray } }:Shared)=s3 at *;have sz3:s3.heap.objs.size=s2.heap.objs.size+1:=by rw[<-hs3];exact Qx6 ..
 generalize hX':cxC X scope N' (cellsFrom (s3.heap.objs.size+1) scope.names<|lZ X.env scope.names []) s3.heap.objs.size s3 (upd H2 s2.heap.objs.size<|.lst []) fp=X' at I4;have at':dI X scope N' X':=⟨_,_,_,⟨_,I3.base.tabs⟩,_,hX'.symm⟩;have hg:=bg X' at';have hif:=bc X' at';have he:=be X' at';have eP:X'.prog=X.prog:=by rw[<-hX'];rfl
 have eW:X'.w=X.w:=by rw[<-hX'];rfl
 have eK:X'.K=X.K:=by rw[<-hX'];rfl
 have eA:X'.A=X.A:=by rw[<-hX'];rfl
 have eC:X'.calm=true:=by rw[<-hX'];exact hc
 have eX:X'.xe=λ_ _=>False:=by rw[<-hX'];rfl
 have ePn:X'.pn=[]:=by rw[<-hX'];rfl
 have U4:X'.ex=fp:=by rw[<-hX'];rfl
 have eL:X'.env.locals=s3.heap.objs.size:=by rw[<-hX'];rfl
 have eFs:X'.fs=frs X.stack:=by rw[<-hX'];rfl
 have abt:compEnvC scope (cellsFrom (s3.heap.objs.size+1) scope.names<|lZ X.env scope.names []) s3.heap.objs.size X.env=X'.env:=by rw[<-hX'];rfl
 have eS0:X'.s₀=s3:=by rw[<-hX'];rfl
 have eH0:X'.H₀=upd H2 s2.heap.objs.size (.lst []):=by rw[<-hX'];rfl
 -- what is true of the iterator's objects in the block
 have stat:∀{H'},(∀b∈fp,H' b=none)->∀b∈fp,pG X' [] H' b:=λ{H'} hn b hb=>by
  refine⟨hn b hb,?_,?_,.inl (by rw[U4];exact hb),λx c e=>?_,λp hp=>?_⟩
  ·rw[eL];exact Qwv<|lt3 b hb
  ·have:=I4.ok.Sq b (by rw[U4];exact hb);exact this
  ·exact(I4.ok.exf b (by rw[U4];exact hb)).2 x c e
  ·rw[ePn] at hp;exact absurd hp (by simp)
 -- the outer context again
 have back:∀σ' H' s',Inv X' [] σ' H' s'->Inv X pins σ H' s':=λσ' H' s' J'=>by
  have hb:=J'.base;rw[eFs,U4,eS0,eH0] at hb;have hos:=J'.os;rw[eS0] at hos;have hok:=J'.hok;rw[eP,eW] at hok;exact I3.call' hos hb hok J'.bare λb hbm=>⟨(f3 b hbm).2.2.2.1,(f3 b hbm).2.1,(f3 b hbm).2.2.2.2.1,(f3 b hbm).2.2.2.2.2⟩
 have loop:∀s4,s4 = { s3 with heap:=h' }->codeAny (model X.prog X.w) X.A (.compLoop (.ListComp elt [⟨tg,iter,ifs,0⟩] scope pos) 0 (.ref it) (.ref s2.heap.objs.size) X'.env) (compPost (model X.prog X.w) X.A X.xe use QQ (.ref s2.heap.objs.size) s3.heap.objs.size) s4:=by
  rintro s4 rfl;refine K5 (λn s'=>∃i σ' H',Inv X' [] σ' H' s'/\tn i s'.heap/\(∀b∈fp,H' b=none)/\W i n σ' H') ?_ m0 ⟨0,_,_,I4,st3,λb hb=>(f3 b hb).1,w0⟩;rintro n s5 ⟨i,σ5,H5,I5,XN,fr5,w5⟩;rcases turn i n σ5 H5 w5 with ⟨stop,qn⟩|⟨go,N,hN,step⟩
  ·have td:=T.done X' eP eW eK eC i [] s5 σ5 H5 (λ_ _=>False) I5 (stat fr5) XN stop;rw[eA] at td;refine fG td λr s6 ⟨hr,I6⟩=>?_;subst hr;obtain⟨mC,hnC,_⟩:=id I6.loc;rw[eL] at hnC;have lc:X.env.locals<s3.heap.objs.size:=by
    have:=I3.lt;exact this
   refine fin _ _ mC s6 H5 (back _ _ _ I6) qn hnC ?_ (Qzz lc) I3.sz (λx c e=>?_)<|λp hp=>?_
   ·have:=I6.free;rw[eL] at this;exact this
   ·obtain⟨v,z⟩:=I3.cell x c e;exact Qwv z.lt
   ·exact Qwv<|Qqv (I3.pin p hp).1
  ·have ti:=T.item X' eP eW eK eC i [] s5 σ5 H5 (λ_ _=>False) I5 (stat fr5) XN go;rw[eA] at ti;refine fG ti λr s6 ⟨u,hr,h6⟩=>?_;subst hr;refine fG h6 λ_ s7 ⟨x,H7,I7,r7,y7,YF,fr7⟩=>?_;have I7':=I7.pinned (stat fr7)<|T.obj _ _ YF;have hg':=hg _ s7 σ5 H7 x u _ I7' r7<|step x H7 y7;rw[eP,eW,eA,eX] at hg';refine fG hg' λ_ s8 ⟨σ8,H8,I8,q8⟩=>?_;have Oa:=hif _ s8 σ8 H8 _ I8 q8;rw[eP,eW,eA,eX] at Oa;refine fG Oa λb s9 ⟨H9,I9,q9⟩=>?_;have again:∀{σz} {Hz} {sz},Inv X' ([]++oW fp s7.heap) σz Hz sz->N σz Hz->∃m,m<n/\∃i σ' H',Inv X' [] σ' H' sz/\tn i sz.heap/\(∀b∈fp,H' b=none)/\W i m σ' H':=λ{σz Hz sz} Iz nz=>by
    obtain⟨m',hm,wz⟩:=hN σz Hz nz;refine⟨m',hm,i+1,σz,Hz,Iz.pO,T.keep _ _ _ YF λb hb o e=>(Iz.pin (b,o)<|Qq6 _<|Qq6 _<|iG hb e).1,λb hb=>?_,wz⟩;obtain⟨o,e,d⟩:=T.obj _ _ YF b hb;exact(Iz.pin (b,o)<|Qq6 _<|Qq6 _<|iG hb e).2.1
   cases b with
   | false=>
    rw[if_neg Qwj] at q9 ⊢;exact again I9 q9
   | true=>
    rw[if_pos rfl] at q9 ⊢;have he':=he _ s9 σ8 H9 _ I9 q9;rw[eP,eW,eA,eX] at he';refine fG he' λy sa ⟨yv,Ha,Ia,ra,ys,hys,hlen,qa⟩=>?_;have ap:=za _ sa σ8 Ha (.ref s2.heap.objs.size) [yv] (.ref s2.heap.objs.size) [y] (λv H'=>v = .non/\N σ8 H') Ia rfl (.cons ra .nil) ⟨_,ys,yv,rfl,rfl,hys,hlen,rfl,qa⟩;rw[eP,eW,eA,eX] at ap;refine fG ap λ_ sb ⟨vb,Hb,Ib,rb,_,nb⟩=>?_;exact again Ib nb
 show codeAny _ _ (.compStart _ 0 (.ref it) (.ref s2.heap.objs.size)<|compEnvC scope (cellsFrom (s3.heap.objs.size+1) scope.names<|lZ X.env scope.names []) s3.heap.objs.size X.env) (compPost (model X.prog X.w) X.A X.xe use QQ (.ref s2.heap.objs.size) s3.heap.objs.size) _;rw[abt];exact codeAny_compStart_list (loop _ rfl)<|T.self X.A 0 _ _ _ st3<|loop _ rfl
theorem alG
  (ok:jA X scope N') (hc:X.calm=true) (hi:PI X tg iter wi)
  (bg:∀X',dI X scope N' X'->PG X' tg g) (bc:∀X',dI X scope N' X'->PIf X' ifs tc) (be:∀X',dI X scope N' X'->PE X' elt te)
  (hs:∀x,foldedSetIterable iter X.env x=pure x:=by intro _;rfl) :
  PE X (.ListComp elt [⟨tg,iter,ifs,0⟩] scope pos) (tLC N'.length wi g tc te):=by
 intro pins s σ H Q I h;rw[eval_ListComp];have hfree:∀n,(n,NameKind.free)∈scope.names->∃c,X.env.cells.lookup n=some c:=λn hm=>I.ok.has n<|ok.free _ hm rfl;refine wpAny_comprehension_free rfl hs (sI hfree) ok.kind (λx hx hl=>iH _ _ _ ok.nd (by grind)) ?_;refine fG (hi pins s σ H _ I h) λv s1 h1=>fG h1 λitv s2 h2=>?_;obtain⟨it,fp,tn,J,H2,e,I2,T,st2,f2,q⟩:=h2;subst e;refine Iw ok hc bg bc be I2 T st2 f2 q λd C m s' H' I' hq hn hC hL h0 hcell hpin=>?_;refine⟨m,hn,λh' hs'=>?_⟩;have I'':Inv X pins σ H' { s' with heap:=h',toks:=s'.toks }:=I'.turned (λb o hb e=>(hs'.2 b hb).trans e) hC hL (.inr h0) hcell hpin;exact⟨.ref d,H',I'',rfl,hq⟩
theorem ZD{pos spos py:Pos}
  (ok:jA X scope N') (hc:X.calm=true) (hi:PI X tg iter wi)
  (bg:∀X',dI X scope N' X'->PG X' tg g) (bc:∀X',dI X scope N' X'->PIf X' ifs tc) (be:∀X',dI X scope N' X'->PE X' elt te)
  (hN:X.N.Nodup) (hy:X.N[i]? = some y) (hx:Loc X.env.scope y)
  (hsw:swapsWith (.ListComp elt [⟨tg,iter,ifs,0⟩] scope pos) (some (.Name y py)) spos.line X.env=pure true)
  (hf:X.fn y=true\/X.env.scope.names.lookup y=some .local:=by first|exact .inl rfl|exact .inr rfl|assumption)
  (hs:∀x,foldedSetIterable iter X.env x=pure x:=by intro _;rfl) :
  PS X (.Assign [.Name y py] (.ListComp elt [⟨tg,iter,ifs,0⟩] scope pos) spos) (Yz (tLC N'.length wi g tc te) (zV i)):=by
 intro pins s σ H D I h;rw[exec_Assign_Name_used _ _ _ _ hsw];refine Qqx<|Qz0<|Qqx ?_;have hfree:∀n,(n,NameKind.free)∈scope.names->∃c,X.env.cells.lookup n=some c:=λn hm=>I.ok.has n<|ok.free _ hm rfl;show wpAny _ X.A (do let _ <-comprehension (.ListComp elt [⟨tg,iter,ifs,0⟩] scope pos) scope X.env _ (newList []) false (eval iter X.env) (some<|assign (.Name y py) X.env)) _ _ s;refine Qqx<|Qw3 (wpAny_comprehension_free rfl hs (sI hfree) ok.kind (λx hx hl=>iH _ _ _ ok.nd (by rw[<-hl];exact hx)) ?_) (λ_ s' hq=>Qqk<|Qqk hq) λ_ _ e=>e;refine fG (hi pins s σ H _ I h) λv s1 h1=>fG h1 λitv s2 h2=>?_;obtain⟨it,fp,tn,J,H2,e,I2,T,st2,f2,q⟩:=h2;subst e;refine Iw (Q:=λx H1=>zV i x σ H1 D.nx) ok hc bg bc be I2 T st2 f2 q λd C m s' H' I' hq hn hC hL h0 hcell hpin=>?_;refine wpAny_assign_Name<|yr (v:=.ref d) I' hN hy hx rfl (λs'' I'' sb=>?_) hf;obtain⟨a,hsb,ha⟩:=sb;have haC:C≠a:=by
  rcases ha with z|z
  ·rw[z];exact hL
  ·exact(hcell y a z).symm
 refine⟨m,hn.sameBut hsb haC,λh' hs'=>?_⟩;have I3:Inv X pins (σ.set i<|some<|.ref d) H' { s'' with heap:=h',toks:=s''.toks }:=I''.turned (λb o hb e=>(hs'.2 b hb).trans e) hC hL (.inr h0) hcell hpin;exact⟨_,H',I3,hq⟩
def anI(J2:It)(g2:TG)(tc:TT)(te:TE)(d:Addr)(N:St->Hp->Prop)(σ3:St)(H4:Hp):Prop:=
 ∃W2:Nat->Nat->St->Hp->Prop,(∃m,W2 0 m σ3 H4)/\∀i2 m2 σ5 H5,W2 i2 m2 σ5 H5->(J2.stop i2 H5/\N σ5 H5)\/(J2.go i2 H5/\∃N2:St->Hp->Prop,(∀σ6 H6,N2 σ6 H6->∃m',m'<m2/\W2 (i2+1) m' σ6 H6)/\∀y H6,J2.Yb i2 H5 y H6->g2 y σ5 H6 λσ7 H7=>tc σ7 H7 λb H8=>
  if b=true then te σ7 H8 λv H9=>∃ys,H9 d=some (.lst ys)/\ys.length<sizeLine/\N2 σ7 (upd H9 d (.lst (ys++[v]))) else N2 σ7 H8)
def akV(n:Nat)(wi:TI)(g:TG)(wi2:TI)(g2:TG)(tc:TT)(te:TE):TE:=λσ H Q=>wi σ H λJ H1=>∀d,H1 d=none->∃W:Nat->Nat->St->Hp->Prop,(∃m,W 0 m (qW (n - σ.length) σ) (upd H1 d (.lst [])))/\∀i m σ' H',W i m σ' H'->
 (J.stop i H'/\Q (.ref d) H')\/(J.go i H'/\∃N:St->Hp->Prop,(∀σ2 H2,N σ2 H2->∃m',m'<m/\W (i+1) m' σ2 H2)/\∀x H2,J.Yb i H' x H2->g x σ' H2 λσ3 H3=>wi2 σ3 H3 λJ2 H4=>anI J2 g2 tc te d N σ3 H4)
section
variable{prog:Program}{w:World}{A:Around}{R:Result->Shared->Prop}{s:Shared}{elt tg iter rz dO:Expr}{ifs:List Expr}{scope:Scope}{pos:Pos}{it acc:Value}{env:Env}
theorem acC:compTurn (.ListComp elt [⟨tg,iter,[],0⟩,⟨rz,dO,ifs,0⟩] scope pos) 0 it acc env=(do
   standAt iter.pos
   match <-pyNext it with
   | none=>pure (.done .next)
   | some v=>
    letOwnedTupleGo tg it v
    assign tg env v
    let x <-eval dO env
    standAt dO.pos
    let x <-foldedSetIterable dO env x
    let _ <-runOwn (.compStart (.ListComp elt [⟨tg,iter,[],0⟩,⟨rz,dO,ifs,0⟩] scope pos) 1 (<-holding [x] (pyIter x)) acc env) env
    again (.compLoop (.ListComp elt [⟨tg,iter,[],0⟩,⟨rz,dO,ifs,0⟩] scope pos) 0 it acc env)):=by rfl
theorem acB:compTurn (.ListComp elt [⟨tg,iter,[],0⟩,⟨rz,dO,ifs,0⟩] scope pos) 1 it acc env=(do
   standAt dO.pos
   match <-pyNext it with
   | none=>pure (.done .next)
   | some v=>
    letOwnedTupleGo rz it v
    assign rz env v
    let mut ok:=true
    for c in ifs do
     if ok then ok <-isTrue c env (eval c env)
    if ok then
     (do let _ <-call (.builtin "list.append") [acc,<-eval elt env])
    again (.compLoop (.ListComp elt [⟨tg,iter,[],0⟩,⟨rz,dO,ifs,0⟩] scope pos) 1 it acc env)):=by rfl
theorem K6(I:Nat->Shared->Prop)
  (turn:∀n s,I n s->wpAny (model prog w) A (pyNext it) (λr s₁=>match r with
   | none=>R (.ok .next) s₁
   | some v=>wpAny (model prog w) A (letOwnedTupleGo rz it v) (λ_ s₁'=>wpAny (model prog w) A (assign rz env v) (λ_ s₂=>
     wpAny (model prog w) A (forIn ifs true λc r=>if r=true then do let ok <-isTrue c env (eval c env);pure (ForInStep.yield ok) else pure (ForInStep.yield r)) (λok s₃=>
      if ok=true then wpAny (model prog w) A (eval elt env) (λx s₄=>
       wpAny (model prog w) A (call (.builtin "list.append") [acc,x]) (λ_ s₅=>∃m,m<n/\I m s₅) (λ_ _=>False) s₄) (λ_ _=>False) s₃
      else ∃m,m<n/\I m s₃) (λ_ _=>False) s₂) (λ_ _=>False) s₁') (λ_ _=>False) s₁) (λ_ _=>False) s)
  (n) (h:I n s) :
  codeAny (model prog w) A (.compLoop (.ListComp elt [⟨tg,iter,[],0⟩,⟨rz,dO,ifs,0⟩] scope pos) 1 it acc env) R s:=by
 refine codeAny_loop rfl I (λn s hI=>?_) n h;show wpAny _ A ((compTurn (.ListComp elt [⟨tg,iter,[],0⟩,⟨rz,dO,ifs,0⟩] scope pos) 1 it acc env).onRaise<|λx=>do noteFrame x env;theTreesLotGoes x) _ _ s;refine wpAny_noted ?_;rw[acB];refine Qqx<|Qz0<|Qqx<|Qw3 (turn n s hI) (λr s₁ h₁=>?_) λ_ _ h'=>h'.elim;cases r with
 | none=>exact Qqk h₁
 | some v=>
  refine Qqx<|Qw3 h₁ (λ_ s₁' h₁'=>?_) λ_ _ h'=>h'.elim;refine Qqx<|Qw3 h₁' (λ_ s₂ h₂=>Qqx<|Qw3 h₂ (λok s₃ h₃=>?_) λ_ _ h'=>h'.elim) λ_ _ h'=>h'.elim;cases ok with
  | false=>exact Qqk ⟨rfl,h₃⟩
  | true=>
   exact Qqx<|Qqx<|Qw3 h₃ (λx s₄ h₄=>Qqx<|Qw3 h₄ (λ_ s₅ h₅=>Qqk<|Qqk ⟨rfl,h₅⟩) λ_ _ h'=>h'.elim) λ_ _ h'=>h'.elim
theorem Gg(hfs:∀x,foldedSetIterable dO env x=pure x)(I:Nat->Shared->Prop)
  (turn:∀n s,I n s->wpAny (model prog w) A (pyNext it) (λr s₁=>match r with
   | none=>R (.ok .next) s₁
   | some v=>wpAny (model prog w) A (letOwnedTupleGo tg it v) (λ_ s₁'=>wpAny (model prog w) A (assign tg env v) (λ_ s₂=>
     wpAny (model prog w) A (eval dO env) (λx s₃=>wpAny (model prog w) A (pyIter x) (λwN s₄=>
      codeAny (model prog w) A (.compStart (.ListComp elt [⟨tg,iter,[],0⟩,⟨rz,dO,ifs,0⟩] scope pos) 1 wN acc env) (λr s'=>match r with|.ok _=>∃m,m<n/\I m s'|.error _=>False) s₄) (λ_ _=>False) s₃) (λ_ _=>False) s₂) (λ_ _=>False) s₁') (λ_ _=>False) s₁) (λ_ _=>False) s)
  (n) (h:I n s) :
  codeAny (model prog w) A (.compLoop (.ListComp elt [⟨tg,iter,[],0⟩,⟨rz,dO,ifs,0⟩] scope pos) 0 it acc env) R s:=by
 refine codeAny_loop rfl I (λn s hI=>?_) n h;show wpAny _ A ((compTurn (.ListComp elt [⟨tg,iter,[],0⟩,⟨rz,dO,ifs,0⟩] scope pos) 0 it acc env).onRaise<|λx=>do noteFrame x env;theTreesLotGoes x) _ _ s;refine wpAny_noted ?_;rw[acC];refine Qqx<|Qz0<|Qqx<|Qw3 (turn n s hI) (λr s₁ h₁=>?_) λ_ _ h'=>h'.elim;cases r with
 | none=>exact Qqk h₁
 | some v=>
  refine Qqx<|Qw3 h₁ (λ_ s₁' h₁'=>?_) λ_ _ h'=>h'.elim;refine Qqx<|Qw3 h₁' (λ_ s₂ h₂=>Qqx<|Qw3 h₂ (λx s₃ h₃=>?_) λ_ _ h'=>h'.elim) λ_ _ h'=>h'.elim;refine Qqx<|Qz0<|Qqx ?_;rw[hfs];refine Qqk<|Qqx<|Qjq<|Qw3 h₃ (λwN s₄ h₄=>?_) λ_ _ h'=>h'.elim;refine Qqx<|wpAny_runOwn<|codeAny_mono h₄ λr s₅ h₅=>?_;cases r with
  | ok f=>exact Qqk ⟨rfl,h₅⟩
  | error e=>simp_all
theorem S6(h0:codeAny (model prog w) A (.compLoop (.ListComp elt [⟨tg,iter,[],0⟩,⟨rz,dO,ifs,0⟩] scope pos) 1 it acc env) R s)
  (h:wpAny (model prog w) A (pyIter it) (λit' s'=>codeAny (model prog w) A (.compLoop (.ListComp elt [⟨tg,iter,[],0⟩,⟨rz,dO,ifs,0⟩] scope pos) 1 it' acc env) R s')
   (notedBy (model prog w) A env λx s'=>R (.error x) s') s) :
  codeAny (model prog w) A (.compStart (.ListComp elt [⟨tg,iter,[],0⟩,⟨rz,dO,ifs,0⟩] scope pos) 1 it acc env) R s:=by
 refine codeAny_of_tree ?_;show wpAny _ _ ((compStart (.ListComp elt [⟨tg,iter,[],0⟩,⟨rz,dO,ifs,0⟩] scope pos) 1 it acc env).onRaise<|λx=>do noteFrame x env;standAt theWindowsPlace) _ _ s;refine wpAny_notedAt ?_;unfold compStart;show wpAny _ _ (ask >>= _) _ _ s;refine Qqx<|wpAny_askSetting<|wpAny_ite ?_;split
 ·first|exact Qqx (Qqk<|Qqk<|And.intro rfl h0)|exact Qqk<|And.intro rfl h0
 ·refine Qqx<|wpAny_rule ?_;show wpAny _ _ (standAt dO.pos >>= _) _ _ s;exact Qqx<|Qz0<|Qqx<|Qw3 h (λit' s' h'=>Qqk<|And.intro rfl h') λ_ _ x=>x
end
theorem SQ
  (ok:jA X scope N') (hc:X.calm=true)
  (bg:∀X',dI X scope N' X'->PG X' tg g) (bi:∀X',dI X scope N' X'->PI X' rz dO wi2) (bg2:∀X',dI X scope N' X'->PG X' rz g2) (hs2:∀X' x,dI X scope N' X'->foldedSetIterable dO X'.env x=pure x) (bc:∀X',dI X scope N' X'->PIf X' ifs tc) (be:∀X',dI X scope N' X'->PE X' elt te)
  {σ:St} {Q:VK} (I2:Inv X pins σ H2 s2) (T:Turn X.prog X.w X.K tg J fp it tn) (st2:tn 0 s2.heap) (f2:∀b∈fp,pG X pins H2 b)
  (q:∀d,H2 d=none->∃W:Nat->Nat->St->Hp->Prop,(∃m,W 0 m (qW (N'.length - σ.length) σ) (upd H2 d (.lst [])))/\∀i m σ' H',W i m σ' H'->
   (J.stop i H'/\Q (.ref d) H')\/(J.go i H'/\∃N,(∀σ2 H2,N σ2 H2->∃m',m'<m/\W (i+1) m' σ2 H2)/\∀x H2,J.Yb i H' x H2->g x σ' H2 λσ3 H3=>wi2 σ3 H3 λJ2 H4=>anI J2 g2 tc te d N σ3 H4))
  (fin:∀d C m s' H',Inv X pins σ H' s'->Q (.ref d) H'->s'.heap.Ns C m->H' C=none->C≠X.env.locals->X.s₀.heap.objs.size<=C->(∀x c,X.env.cells.lookup x=some c->c≠C)->(∀p∈X.pn++pins,p.1≠C)->
   compPost (model X.prog X.w) X.A X.xe use QQ (.ref d) C (.ok .next) s') :
  wpAny (model X.prog X.w) X.A (newList []) (λacc s₃=>wpAny (model X.prog X.w) X.A (newFunctionEnv scope X.env.globals (lZ X.env scope.names []) [] X.env.qual none .none (some X.env)) (λcenv s₄=>
   codeAny (model X.prog X.w) X.A (.compStart (.ListComp elt [⟨tg,iter,[],0⟩,⟨rz,dO,ifs,0⟩] scope pos) 0 (.ref it) acc { cenv with scope:=relabel scope X.env }) (compPost (model X.prog X.w) X.A X.xe use QQ acc cenv.locals) s₄) X.xe s₃) X.xe s2:=by
 have hd2:=I2.fresh;refine Qzw<|uy λh' hns hkeep hco=>?_
 -- the state behind the list
 obtain⟨W,⟨m0,w0⟩,turn⟩:=q s2.heap.objs.size hd2;have I3:Inv X pins σ (upd H2 s2.heap.objs.size<|.lst []) { s2 with heap:=s2.heap.push { cls:=.type "list",data:=.seq ([]:List Value).toArray } }:=I2.ah6 .nil<|Qxw _;have Ui:∀b∈fp,b<s2.heap.objs.size:=λb hb=>by
  obtain⟨o,e,_⟩:=T.obj _ _ st2 b hb;exact Qqv e
 have f3:∀b∈fp,pG X pins (upd H2 s2.heap.objs.size<|.lst []) b:=λb hb=>by
  refine⟨?_,(f2 b hb).2⟩;rw[cz (Qwv<|Ui b hb)];exact(f2 b hb).1
 have lt3:∀b∈fp,b<({ s2 with heap:=s2.heap.push { cls:=.type "list",data:=.seq ([]:List Value).toArray } }:Shared).heap.objs.size:=λb hb=>by
  show b<(s2.heap.push _).objs.size;rw[Qx6];exact Nat.lt_succ_of_lt<|Ui b hb
 have st3:tn 0 h':=T.keep _ _ _ st2 λb hb o e=>hkeep b o<|Qqq _ e;have I4:=Dp ok I3 f3 lt3 hns hkeep hco;generalize hs3:({ s2 with heap:=s2.heap.push { cls:=.type "list",data:=.seq ([]:List Value).toArray } }:Shared)=s3 at *;have sz3:s3.heap.objs.size=s2.heap.objs.size+1:=by rw[<-hs3];exact Qx6 ..
 generalize hX':cxC X scope N' (cellsFrom (s3.heap.objs.size+1) scope.names<|lZ X.env scope.names []) s3.heap.objs.size s3 (upd H2 s2.heap.objs.size<|.lst []) fp=X' at I4;have at':dI X scope N' X':=⟨_,_,_,⟨_,I3.base.tabs⟩,_,hX'.symm⟩;have hg:=bg X' at';have hi2:=bi X' at';have hg2:=bg2 X' at';have hfs:∀x,foldedSetIterable dO X'.env x=pure x:=λx=>hs2 X' x at';have hif:=bc X' at';have he:=be X' at';have eP:X'.prog=X.prog:=by rw[<-hX'];rfl
 have eW:X'.w=X.w:=by rw[<-hX'];rfl
 have eK:X'.K=X.K:=by rw[<-hX'];rfl
 have eA:X'.A=X.A:=by rw[<-hX'];rfl
 have eC:X'.calm=true:=by rw[<-hX'];exact hc
 have eX:X'.xe=λ_ _=>False:=by rw[<-hX'];rfl
 have ePn:X'.pn=[]:=by rw[<-hX'];rfl
 have U4:X'.ex=fp:=by rw[<-hX'];rfl
 have eL:X'.env.locals=s3.heap.objs.size:=by rw[<-hX'];rfl
 have eFs:X'.fs=frs X.stack:=by rw[<-hX'];rfl
 have abt:compEnvC scope (cellsFrom (s3.heap.objs.size+1) scope.names<|lZ X.env scope.names []) s3.heap.objs.size X.env=X'.env:=by rw[<-hX'];rfl
 have eS0:X'.s₀=s3:=by rw[<-hX'];rfl
 have eH0:X'.H₀=upd H2 s2.heap.objs.size (.lst []):=by rw[<-hX'];rfl
 -- what is true of the iterator's objects in the block
 have stat:∀{H'},(∀b∈fp,H' b=none)->∀b∈fp,pG X' [] H' b:=λ{H'} hn b hb=>by
  refine⟨hn b hb,?_,?_,.inl (by rw[U4];exact hb),λx c e=>?_,λp hp=>?_⟩
  ·rw[eL];exact Qwv<|lt3 b hb
  ·have:=I4.ok.Sq b (by rw[U4];exact hb);exact this
  ·exact(I4.ok.exf b (by rw[U4];exact hb)).2 x c e
  ·rw[ePn] at hp;exact absurd hp (by simp)
 -- the outer context again
 have back:∀σ' H' s',Inv X' [] σ' H' s'->Inv X pins σ H' s':=λσ' H' s' J'=>by
  have hb:=J'.base;rw[eFs,U4,eS0,eH0] at hb;have hos:=J'.os;rw[eS0] at hos;have hok:=J'.hok;rw[eP,eW] at hok;exact I3.call' hos hb hok J'.bare λb hbm=>⟨(f3 b hbm).2.2.2.1,(f3 b hbm).2.1,(f3 b hbm).2.2.2.2.1,(f3 b hbm).2.2.2.2.2⟩
 have loop:∀s4,s4 = { s3 with heap:=h' }->codeAny (model X.prog X.w) X.A (.compLoop (.ListComp elt [⟨tg,iter,[],0⟩,⟨rz,dO,ifs,0⟩] scope pos) 0 (.ref it) (.ref s2.heap.objs.size) X'.env) (compPost (model X.prog X.w) X.A X.xe use QQ (.ref s2.heap.objs.size) s3.heap.objs.size) s4:=by
  rintro s4 rfl;refine Gg hfs (λn s'=>∃i σ' H',Inv X' [] σ' H' s'/\tn i s'.heap/\(∀b∈fp,H' b=none)/\W i n σ' H') ?_ m0 ⟨0,_,_,I4,st3,λb hb=>(f3 b hb).1,w0⟩;rintro n s5 ⟨i,σ5,H5,I5,XN,fr5,w5⟩;rcases turn i n σ5 H5 w5 with ⟨stop,qn⟩|⟨go,N,hN,step⟩
  ·have td:=T.done X' eP eW eK eC i [] s5 σ5 H5 (λ_ _=>False) I5 (stat fr5) XN stop;rw[eA] at td;refine fG td λr s6 ⟨hr,I6⟩=>?_;subst hr;obtain⟨mC,hnC,_⟩:=id I6.loc;rw[eL] at hnC;have lc:X.env.locals<s3.heap.objs.size:=by
    have:=I3.lt;exact this
   refine fin _ _ mC s6 H5 (back _ _ _ I6) qn hnC ?_ (Qzz lc) I3.sz (λx c e=>?_)<|λp hp=>?_
   ·have:=I6.free;rw[eL] at this;exact this
   ·obtain⟨v,z⟩:=I3.cell x c e;exact Qwv z.lt
   ·exact Qwv<|Qqv (I3.pin p hp).1
  ·have ti:=T.item X' eP eW eK eC i [] s5 σ5 H5 (λ_ _=>False) I5 (stat fr5) XN go;rw[eA] at ti;refine fG ti λr s6 ⟨u,hr,h6⟩=>?_;subst hr;refine fG h6 λ_ s7 ⟨x,H7,I7,r7,y7,YF,fr7⟩=>?_;have I7':=I7.pinned (stat fr7)<|T.obj _ _ YF;have hg':=hg _ s7 σ5 H7 x u _ I7' r7<|step x H7 y7;rw[eP,eW,eA,eX] at hg';refine fG hg' λ_ s8 ⟨σ8,H8,I8,q8⟩=>?_;have again:∀{σz} {Hz} {sz},Inv X' ([]++oW fp s7.heap) σz Hz sz->N σz Hz->∃m,m<n/\∃i σ' H',Inv X' [] σ' H' sz/\tn i sz.heap/\(∀b∈fp,H' b=none)/\W i m σ' H':=λ{σz Hz sz} Iz nz=>by
    obtain⟨m',hm,wz⟩:=hN σz Hz nz;refine⟨m',hm,i+1,σz,Hz,Iz.pO,T.keep _ _ _ YF λb hb o e=>(Iz.pin (b,o)<|Qq6 _<|Qq6 _<|iG hb e).1,λb hb=>?_,wz⟩;obtain⟨o,e,d⟩:=T.obj _ _ YF b hb;exact(Iz.pin (b,o)<|Qq6 _<|Qq6 _<|iG hb e).2.1
   have hi2':=hi2 _ s8 σ8 H8 _ I8 q8;rw[eP,eW,eA,eX] at hi2';refine fG hi2' λv s9 h9=>fG h9 λitv s10 h10=>?_;obtain⟨wN,fp2,tn2,J2,H10,e10,I10,T2,ak4,f10,q10⟩:=h10;subst e10;rw[eP,eW,eK] at T2;obtain⟨W2,⟨m2,w2⟩,akQ⟩:=q10;have f2n:∀{H'},(∀b∈fp2,H' b=none)->∀b∈fp2,pG X' ([]++oW fp s7.heap) H' b:=λ{H'} hn b hb=>⟨hn b hb,(f10 b hb).2⟩;have afS:codeAny (model X.prog X.w) X.A (.compLoop (.ListComp elt [⟨tg,iter,[],0⟩,⟨rz,dO,ifs,0⟩] scope pos) 1 (.ref wN) (.ref s2.heap.objs.size) X'.env) (λr s'=>match r with|.ok _=>∃m,m<n/\∃i σ' H',Inv X' [] σ' H' s'/\tn i s'.heap/\(∀b∈fp,H' b=none)/\W i m σ' H'|.error _=>False) s10:=by
    refine K6 (λn2 s'=>∃i σ' H',Inv X' ([]++oW fp s7.heap) σ' H' s'/\tn2 i s'.heap/\(∀b∈fp2,H' b=none)/\W2 i n2 σ' H') ?_ m2 ⟨0,_,_,I10,ak4,λb hb=>(f10 b hb).1,w2⟩;rintro n2 s11 ⟨i2,σ11,H11,I11,ak3,am5,w11⟩;rcases akQ i2 n2 σ11 H11 w11 with ⟨ak1,qn2⟩|⟨go2,N2,hN2,ak2⟩
    ·have td:=T2.done X' eP eW eK eC i2 _ s11 σ11 H11 (λ_ _=>False) I11 (f2n am5) ak3 ak1;rw[eA] at td;refine fG td λr s12 ⟨hr,I12⟩=>?_;subst hr;exact again I12 qn2
    ·have ti:=T2.item X' eP eW eK eC i2 _ s11 σ11 H11 (λ_ _=>False) I11 (f2n am5) ak3 go2;rw[eA] at ti;refine fG ti λr s12 ⟨u2,hr,h12⟩=>?_;subst hr;refine fG h12 λ_ s13 ⟨x2,H13,I13,r13,y13,agR,apx⟩=>?_;have apM:=I13.pinned (f2n apx)<|T2.obj _ _ agR;have hg2':=hg2 _ s13 σ11 H13 x2 u2 _ apM r13<|ak2 x2 H13 y13;rw[eP,eW,eA,eX] at hg2';refine fG hg2' λ_ s14 ⟨σ14,H14,I14,q14⟩=>?_;have Oa:=hif _ s14 σ14 H14 _ I14 q14;rw[eP,eW,eA,eX] at Oa;refine fG Oa λb s15 ⟨H15,I15,q15⟩=>?_;have abJ:∀{σz} {Hz} {sz},Inv X' (([]++oW fp s7.heap)++oW fp2 s13.heap) σz Hz sz->N2 σz Hz->∃m,m<n2/\∃i σ' H',Inv X' ([]++oW fp s7.heap) σ' H' sz/\tn2 i sz.heap/\(∀b∈fp2,H' b=none)/\W2 i m σ' H':=λ{σz Hz sz} Iz nz=>by
      obtain⟨m',hm,wz⟩:=hN2 σz Hz nz;refine⟨m',hm,i2+1,σz,Hz,Iz.pO,T2.keep _ _ _ agR λb hb o e=>(Iz.pin (b,o)<|Qq6 _<|Qq6 _<|iG hb e).1,λb hb=>?_,wz⟩;obtain⟨o,e,d⟩:=T2.obj _ _ agR b hb;exact(Iz.pin (b,o)<|Qq6 _<|Qq6 _<|iG hb e).2.1
     cases b with
     | false=>
      rw[if_neg Qwj] at q15 ⊢;exact abJ I15 q15
     | true=>
      rw[if_pos rfl] at q15 ⊢;have he':=he _ s15 σ14 H15 _ I15 q15;rw[eP,eW,eA,eX] at he';refine fG he' λy sa ⟨yv,Ha,Ia,ra,ys,hys,hlen,qa⟩=>?_;have ap:=za _ sa σ14 Ha (.ref s2.heap.objs.size) [yv] (.ref s2.heap.objs.size) [y] (λv H'=>v = .non/\N2 σ14 H') Ia rfl (.cons ra .nil) ⟨_,ys,yv,rfl,rfl,hys,hlen,rfl,qa⟩;rw[eP,eW,eA,eX] at ap;refine fG ap λ_ sb ⟨vb,Hb,Ib,rb,_,nb⟩=>?_;exact abJ Ib nb
   exact S6 afS<|T2.self X.A 0 _ _ _ ak4 afS
 show codeAny _ _ (.compStart _ 0 (.ref it) (.ref s2.heap.objs.size)<|compEnvC scope (cellsFrom (s3.heap.objs.size+1) scope.names<|lZ X.env scope.names []) s3.heap.objs.size X.env) (compPost (model X.prog X.w) X.A X.xe use QQ (.ref s2.heap.objs.size) s3.heap.objs.size) _;rw[abt];exact codeAny_compStart_list (loop _ rfl)<|T.self X.A 0 _ _ _ st3<|loop _ rfl
theorem Wc{pos spos py:Pos}
  (ok:jA X scope N') (hc:X.calm=true) (hi:PI X tg iter wi)
  (bg:∀X',dI X scope N' X'->PG X' tg g) (bi:∀X',dI X scope N' X'->PI X' rz dO wi2) (bg2:∀X',dI X scope N' X'->PG X' rz g2) (hs2:∀X' x,dI X scope N' X'->foldedSetIterable dO X'.env x=pure x) (bc:∀X',dI X scope N' X'->PIf X' ifs tc) (be:∀X',dI X scope N' X'->PE X' elt te)
  (hN:X.N.Nodup) (hy:X.N[i]? = some y) (hx:Loc X.env.scope y)
  (hsw:swapsWith (.ListComp elt [⟨tg,iter,[],0⟩,⟨rz,dO,ifs,0⟩] scope pos) (some (.Name y py)) spos.line X.env=pure true)
  (hf:X.fn y=true\/X.env.scope.names.lookup y=some .local:=by first|exact .inl rfl|exact .inr rfl|assumption)
  (hs:∀x,foldedSetIterable iter X.env x=pure x:=by intro _;rfl) :
  PS X (.Assign [.Name y py] (.ListComp elt [⟨tg,iter,[],0⟩,⟨rz,dO,ifs,0⟩] scope pos) spos) (Yz (akV N'.length wi g wi2 g2 tc te) (zV i)):=by
 intro pins s σ H D I h;rw[exec_Assign_Name_used _ _ _ _ hsw];refine Qqx<|Qz0<|Qqx ?_;have hfree:∀n,(n,NameKind.free)∈scope.names->∃c,X.env.cells.lookup n=some c:=λn hm=>I.ok.has n<|ok.free _ hm rfl;show wpAny _ X.A (do let _ <-comprehension (.ListComp elt [⟨tg,iter,[],0⟩,⟨rz,dO,ifs,0⟩] scope pos) scope X.env _ (newList []) false (eval iter X.env) (some<|assign (.Name y py) X.env)) _ _ s;refine Qqx<|Qw3 (wpAny_comprehension_free rfl hs (sI hfree) ok.kind (λx hx hl=>iH _ _ _ ok.nd (by grind)) ?_) (λ_ s' hq=>Qqk<|Qqk hq) λ_ _ e=>e;refine fG (hi pins s σ H _ I h) λv s1 h1=>fG h1 λitv s2 h2=>?_;obtain⟨it,fp,tn,J,H2,e,I2,T,st2,f2,q⟩:=h2;subst e;refine SQ (Q:=λx H1=>zV i x σ H1 D.nx) ok hc bg bi bg2 hs2 bc be I2 T st2 f2 q λd C m s' H' I' hq hn hC hL h0 hcell hpin=>?_;refine wpAny_assign_Name<|yr (v:=.ref d) I' hN hy hx rfl (λs'' I'' sb=>?_) hf;obtain⟨a,hsb,ha⟩:=sb;have haC:C≠a:=by grind
 refine⟨m,hn.sameBut hsb haC,λh' hs'=>?_⟩;have I3:Inv X pins (σ.set i<|some<|.ref d) H' { s'' with heap:=h',toks:=s''.toks }:=I''.turned (λb o hb e=>(hs'.2 b hb).trans e) hC hL (.inr h0) hcell hpin;exact⟨_,H',I3,hq⟩
noncomputable def inS(ys:List Str):Key->Bool
 | .inr x=>decide (x∈ys)
 | .inl _=>false
def SetT(P:Program)(w:World)(a:Addr)(ys:List Str):HO:=.ext λh=>h.SetOf (cI P w) a (inS ys) ys.length
noncomputable def Tg(ys:List Str)(x:Str):List Str:=if x∈ys then ys else ys++[x]
theorem YL(x:h.SetOf (cI P w) a (λ_=>false) 0):iZ P w H h a (SetT P w a []):=by
 refine⟨(show(λ_=>false)=inS [] from funext λk=>by cases k<;>simp[inS]) ▸ x,?_,λh1 h2 y kk=>?_⟩
 ·obtain⟨o,_,_,_,e,_⟩:=x;exact⟨o,e⟩
 ·obtain⟨o,es,ep,t,e,r⟩:=y;exact⟨o,es,ep,t,kk o e,r⟩
theorem acP(x:h.SetOf (cI P w) a (inS ys) ys.length):iZ P w H h a (SetT P w a ys):=by
 refine⟨x,?_,λh1 h2 y kk=>?_⟩
 ·obtain⟨o,_,_,_,e,_⟩:=x;exact⟨o,e⟩
 ·obtain⟨o,es,ep,t,e,r⟩:=y;exact⟨o,es,ep,t,kk o e,r⟩
theorem QV{h:Heap}(x:h.SetOf (cI P w) a S n)(e:∀k,S k=S' k)(hn:n=n'):h.SetOf (cI P w) a S' n':=by obtain rfl:S=S':=funext e;exact hn ▸ x
theorem YM{σ:St}(hH:H a=some (SetT X.prog X.w a ys))(I:Inv X pins σ H s)(r:RelV (.str z) u)(hz:ys.length<64) :
  wpAny (model X.prog X.w) X.A (call (.builtin "set.add") [.ref a,u]) (λ_ s'=>Inv X pins σ (upd H a (SetT X.prog X.w a (Tg ys z))) s') E s:=by
 have x:=(I.hok a _ hH).1;obtain⟨t,rfl⟩:∃t,u = .str z t:=r;refine call_set_add (xG (k:=.inr z)<|show RelV (.str z) _ from⟨t,rfl⟩) rfl x (Qxx (Nat.succ_le_of_lt hz) (by decide)) λh' hs so=>?_;refine I.write (by rw[hH];trivial) (.inl rfl) (λb q hb zz=>(hs.2 b hb).trans zz) ?_<|acP<|QV so (λk=>?_) ?_
 ·obtain⟨o,_,_,_,e,_⟩:=so;exact⟨o,e⟩
 ·unfold Tg;cases k<;>by_cases hm:z∈ys<;>simp_all [inS]<;>grind
 ·unfold Tg;by_cases hm:z∈ys<;>simp[hm,inS]
def tSC(P:Program)(w:World)(n:Nat)(wi:TI)(g:TG)(tc:TT)(te:TE):TE:=λσ H Q=>wi σ H λJ H1=>∀d,H1 d=none->∃W:Nat->Nat->St->Hp->Prop,(∃m,W 0 m (qW (n - σ.length) σ) (upd H1 d (SetT P w d [])))/\∀i m σ' H',W i m σ' H'->
 (J.stop i H'/\Q (.ref d) H')\/(J.go i H'/\∃N:St->Hp->Prop,(∀σ2 H2,N σ2 H2->∃m',m'<m/\W (i+1) m' σ2 H2)/\∀x H2,J.Yb i H' x H2->g x σ' H2 λσ3 H3=>tc σ3 H3 λb H4=>
  if b=true then te σ3 H4 λy H5=>∃ys z,y = .str z/\H5 d=some (SetT P w d ys)/\ys.length<64/\N σ3 (upd H5 d (SetT P w d (Tg ys z))) else N σ3 H4)
section
variable{prog:Program}{w:World}{A:Around}{R:Result->Shared->Prop}{s:Shared}
theorem K4 :
  compTurn (.SetComp elt [⟨target,iter,ifs,0⟩] scope pos) 0 it acc env=(do
   standAt iter.pos
   match <-pyNext it with
   | none=>pure (Fin.done Flow.next)
   | some v=>do
    letOwnedTupleGo target it v
    assign target env v
    let mut ok:=true
    for c in ifs do
     if ok then ok <-PySem.isTrue c env (eval c env)
    if ok then
     (do
      let v <-eval elt env
      standAt elt.pos
      let _ <-call (.builtin "set.add") [acc,v]
      pure ())
    again (.compLoop (.SetComp elt [⟨target,iter,ifs,0⟩] scope pos) 0 it acc env)):=by rfl
theorem Gf(I:Nat->Shared->Prop)
  (turn:∀n s,I n s->wpAny (model prog w) A (pyNext it) (λr s₁=>match r with
   | none=>R (.ok .next) s₁
   | some v=>wpAny (model prog w) A (letOwnedTupleGo target it v) (λ_ s₁'=>wpAny (model prog w) A (assign target env v) (λ_ s₂=>
     wpAny (model prog w) A (forIn ifs true λc r=>if r=true then do let ok <-isTrue c env (eval c env);pure (ForInStep.yield ok) else pure (ForInStep.yield r)) (λok s₃=>
      if ok=true then wpAny (model prog w) A (eval elt env) (λx s₄=>
       wpAny (model prog w) A (call (.builtin "set.add") [acc,x]) (λ_ s₅=>∃m,m<n/\I m s₅) (λ_ _=>False) s₄) (λ_ _=>False) s₃
      else ∃m,m<n/\I m s₃) (λ_ _=>False) s₂) (λ_ _=>False) s₁') (λ_ _=>False) s₁) (λ_ _=>False) s)
  (n) (h:I n s) :
  codeAny (model prog w) A (.compLoop (.SetComp elt [⟨target,iter,ifs,0⟩] scope pos) 0 it acc env) R s:=by
 refine codeAny_loop rfl I (λn s hI=>?_) n h;show wpAny _ A ((compTurn (.SetComp elt [⟨target,iter,ifs,0⟩] scope pos) 0 it acc env).onRaise<|λx=>do noteFrame x env;theTreesLotGoes x) _ _ s;refine wpAny_noted ?_;rw[K4];refine Qqx<|Qz0<|Qqx<|Qw3 (turn n s hI) (λr s₁ h₁=>?_) λ_ _ h'=>h'.elim;cases r with
 | none=>exact Qqk h₁
 | some v=>
  refine Qqx<|Qw3 h₁ (λ_ s₁' h₁'=>?_) λ_ _ h'=>h'.elim;refine Qqx<|Qw3 h₁' (λ_ s₂ h₂=>Qqx<|Qw3 h₂ (λok s₃ h₃=>?_) λ_ _ h'=>h'.elim) λ_ _ h'=>h'.elim;cases ok with
  | false=>exact Qqk ⟨rfl,h₃⟩
  | true=>
   exact Qqx<|Qqx<|Qw3 h₃ (λx s₄ h₄=>Qqx<|Qz0<|Qqx<|Qw3 h₄ (λ_ s₅ h₅=>Qqk<|Qqk ⟨rfl,h₅⟩) λ_ _ h'=>h'.elim) λ_ _ h'=>h'.elim
theorem S5(h0:codeAny (model prog w) A (.compLoop (.SetComp elt [⟨target,iter,ifs,0⟩] scope pos) 0 it acc env) R s)
  (h:wpAny (model prog w) A (pyIter it) (λit' s'=>codeAny (model prog w) A (.compLoop (.SetComp elt [⟨target,iter,ifs,0⟩] scope pos) 0 it' acc env) R s')
   (notedBy (model prog w) A env λx s'=>R (.error x) s') s) :
  codeAny (model prog w) A (.compStart (.SetComp elt [⟨target,iter,ifs,0⟩] scope pos) 0 it acc env) R s:=by
 refine codeAny_of_tree ?_;show wpAny _ _ ((compStart (.SetComp elt [⟨target,iter,ifs,0⟩] scope pos) 0 it acc env).onRaise<|λx=>do noteFrame x env;standAt theWindowsPlace) _ _ s;refine wpAny_notedAt ?_;unfold compStart;show wpAny _ _ (ask >>= _) _ _ s;refine Qqx<|wpAny_askSetting<|wpAny_ite ?_;split
 ·first|exact Qqx (Qqk<|Qqk<|And.intro rfl h0)|exact Qqk<|And.intro rfl h0
 ·refine Qqx<|wpAny_rule ?_;show wpAny _ _ (standAt iter.pos >>= _) _ _ s;exact Qqx<|Qz0<|Qqx<|Qw3 h (λit' s' h'=>Qqk<|And.intro rfl h') λ_ _ x=>x
end
theorem SN
  (ok:jA X scope N') (hc:X.calm=true)
  (bg:∀X',dI X scope N' X'->PG X' tg g) (bc:∀X',dI X scope N' X'->PIf X' ifs tc) (be:∀X',dI X scope N' X'->PE X' elt te)
  {σ:St} {Q:VK} (I2:Inv X pins σ H2 s2) (T:Turn X.prog X.w X.K tg J fp it tn) (st2:tn 0 s2.heap) (f2:∀b∈fp,pG X pins H2 b)
  (q:∀d,H2 d=none->∃W:Nat->Nat->St->Hp->Prop,(∃m,W 0 m (qW (N'.length - σ.length) σ) (upd H2 d (SetT X.prog X.w d [])))/\∀i m σ' H',W i m σ' H'->
   (J.stop i H'/\Q (.ref d) H')\/(J.go i H'/\∃N:St->Hp->Prop,(∀σ2 H2,N σ2 H2->∃m',m'<m/\W (i+1) m' σ2 H2)/\∀x H2,J.Yb i H' x H2->g x σ' H2 λσ3 H3=>tc σ3 H3 λb H4=>
    if b=true then te σ3 H4 λy H5=>∃ys z,y = .str z/\H5 d=some (SetT X.prog X.w d ys)/\ys.length<64/\N σ3 (upd H5 d (SetT X.prog X.w d (Tg ys z))) else N σ3 H4))
  (fin:∀d C m s' H',Inv X pins σ H' s'->Q (.ref d) H'->s'.heap.Ns C m->H' C=none->C≠X.env.locals->X.s₀.heap.objs.size<=C->(∀x c,X.env.cells.lookup x=some c->c≠C)->(∀p∈X.pn++pins,p.1≠C)->
   compPost (model X.prog X.w) X.A X.xe use QQ (.ref d) C (.ok .next) s') :
  wpAny (model X.prog X.w) X.A (newSet (.type "set")) (λacc s₃=>wpAny (model X.prog X.w) X.A (newFunctionEnv scope X.env.globals (lZ X.env scope.names []) [] X.env.qual none .none (some X.env)) (λcenv s₄=>
   codeAny (model X.prog X.w) X.A (.compStart (.SetComp elt [⟨tg,iter,ifs,0⟩] scope pos) 0 (.ref it) acc { cenv with scope:=relabel scope X.env }) (compPost (model X.prog X.w) X.A X.xe use QQ acc cenv.locals) s₄) X.xe s₃) X.xe s2:=by
 have hd2:H2 s2.heap.objs.size=none:=I2.fresh;refine wpAny_newSet_of (knd:=cI X.prog X.w) λled apd=>uy λh' hns hkeep hco=>?_
 -- the state behind the list
 obtain⟨W,⟨m0,w0⟩,turn⟩:=q s2.heap.objs.size hd2;have I3:Inv X pins σ (upd H2 s2.heap.objs.size<|SetT X.prog X.w s2.heap.objs.size []) { s2 with heap:=s2.heap.push { cls:=.type "set",data:=.set #[] 0 (.fresh 0 0 led) } }:=I2.laid (λ_ _ q=>Qqq _ q) (Qqw _)<|YL apd;have Ui:∀b∈fp,b<s2.heap.objs.size:=λb hb=>by
  obtain⟨o,e,_⟩:=T.obj _ _ st2 b hb;exact Qqv e
 have f3:∀b∈fp,pG X pins (upd H2 s2.heap.objs.size<|SetT X.prog X.w s2.heap.objs.size []) b:=λb hb=>by
  refine⟨?_,(f2 b hb).2⟩;rw[cz (Qwv<|Ui b hb)];exact(f2 b hb).1
 have lt3:∀b∈fp,b<({ s2 with heap:=s2.heap.push { cls:=.type "set",data:=.set #[] 0 (.fresh 0 0 led) } }:Shared).heap.objs.size:=λb hb=>by
  show b<(s2.heap.push _).objs.size;rw[Qx6];exact Nat.lt_succ_of_lt<|Ui b hb
 have st3:tn 0 h':=T.keep _ _ _ st2 λb hb o e=>hkeep b o<|Qqq _ e;have I4:=Dp ok I3 f3 lt3 hns hkeep hco;generalize hs3:({ s2 with heap:=s2.heap.push { cls:=.type "set",data:=.set #[] 0 (.fresh 0 0 led) } }:Shared)=s3 at *;have sz3:s3.heap.objs.size=s2.heap.objs.size+1:=by rw[<-hs3];exact Qx6 ..
 generalize hX':cxC X scope N' (cellsFrom (s3.heap.objs.size+1) scope.names<|lZ X.env scope.names []) s3.heap.objs.size s3 (upd H2 s2.heap.objs.size<|SetT X.prog X.w s2.heap.objs.size []) fp=X' at I4;have at':dI X scope N' X':=⟨_,_,_,⟨_,I3.base.tabs⟩,_,hX'.symm⟩;have hg:=bg X' at';have hif:=bc X' at';have he:=be X' at';have eP:X'.prog=X.prog:=by rw[<-hX'];rfl
 have eW:X'.w=X.w:=by rw[<-hX'];rfl
 have eK:X'.K=X.K:=by rw[<-hX'];rfl
 have eA:X'.A=X.A:=by rw[<-hX'];rfl
 have eC:X'.calm=true:=by rw[<-hX'];exact hc
 have eX:X'.xe=λ_ _=>False:=by rw[<-hX'];rfl
 have ePn:X'.pn=[]:=by rw[<-hX'];rfl
 have U4:X'.ex=fp:=by rw[<-hX'];rfl
 have eL:X'.env.locals=s3.heap.objs.size:=by rw[<-hX'];rfl
 have eFs:X'.fs=frs X.stack:=by rw[<-hX'];rfl
 have abt:compEnvC scope (cellsFrom (s3.heap.objs.size+1) scope.names<|lZ X.env scope.names []) s3.heap.objs.size X.env=X'.env:=by rw[<-hX'];rfl
 have eS0:X'.s₀=s3:=by rw[<-hX'];rfl
 have eH0:X'.H₀=upd H2 s2.heap.objs.size (SetT X.prog X.w s2.heap.objs.size []):=by rw[<-hX'];rfl
 -- what is true of the iterator's objects in the block
 have stat:∀{H'},(∀b∈fp,H' b=none)->∀b∈fp,pG X' [] H' b:=λ{H'} hn b hb=>by
  refine⟨hn b hb,?_,?_,.inl (by rw[U4];exact hb),λx c e=>?_,λp hp=>?_⟩
  ·rw[eL];exact Qwv<|lt3 b hb
  ·have:=I4.ok.Sq b (by rw[U4];exact hb);exact this
  ·exact(I4.ok.exf b (by rw[U4];exact hb)).2 x c e
  ·rw[ePn] at hp;exact absurd hp (by simp)
 -- the outer context again
 have back:∀σ' H' s',Inv X' [] σ' H' s'->Inv X pins σ H' s':=λσ' H' s' J'=>by
  have hb:=J'.base;rw[eFs,U4,eS0,eH0] at hb;have hos:=J'.os;rw[eS0] at hos;have hok:=J'.hok;rw[eP,eW] at hok;exact I3.call' hos hb hok J'.bare λb hbm=>⟨(f3 b hbm).2.2.2.1,(f3 b hbm).2.1,(f3 b hbm).2.2.2.2.1,(f3 b hbm).2.2.2.2.2⟩
 have loop:∀s4,s4 = { s3 with heap:=h' }->codeAny (model X.prog X.w) X.A (.compLoop (.SetComp elt [⟨tg,iter,ifs,0⟩] scope pos) 0 (.ref it) (.ref s2.heap.objs.size) X'.env) (compPost (model X.prog X.w) X.A X.xe use QQ (.ref s2.heap.objs.size) s3.heap.objs.size) s4:=by
  rintro s4 rfl;refine Gf (λn s'=>∃i σ' H',Inv X' [] σ' H' s'/\tn i s'.heap/\(∀b∈fp,H' b=none)/\W i n σ' H') ?_ m0 ⟨0,_,_,I4,st3,λb hb=>(f3 b hb).1,w0⟩;rintro n s5 ⟨i,σ5,H5,I5,XN,fr5,w5⟩;rcases turn i n σ5 H5 w5 with ⟨stop,qn⟩|⟨go,N,hN,step⟩
  ·have td:=T.done X' eP eW eK eC i [] s5 σ5 H5 (λ_ _=>False) I5 (stat fr5) XN stop;rw[eA] at td;refine fG td λr s6 ⟨hr,I6⟩=>?_;subst hr;obtain⟨mC,hnC,_⟩:=id I6.loc;rw[eL] at hnC;have lc:X.env.locals<s3.heap.objs.size:=by
    have:=I3.lt;exact this
   refine fin _ _ mC s6 H5 (back _ _ _ I6) qn hnC ?_ (Qzz lc) I3.sz (λx c e=>?_)<|λp hp=>?_
   ·have:=I6.free;rw[eL] at this;exact this
   ·obtain⟨v,z⟩:=I3.cell x c e;exact Qwv z.lt
   ·exact Qwv<|Qqv (I3.pin p hp).1
  ·have ti:=T.item X' eP eW eK eC i [] s5 σ5 H5 (λ_ _=>False) I5 (stat fr5) XN go;rw[eA] at ti;refine fG ti λr s6 ⟨u,hr,h6⟩=>?_;subst hr;refine fG h6 λ_ s7 ⟨x,H7,I7,r7,y7,YF,fr7⟩=>?_;have I7':=I7.pinned (stat fr7)<|T.obj _ _ YF;have hg':=hg _ s7 σ5 H7 x u _ I7' r7<|step x H7 y7;rw[eP,eW,eA,eX] at hg';refine fG hg' λ_ s8 ⟨σ8,H8,I8,q8⟩=>?_;have Oa:=hif _ s8 σ8 H8 _ I8 q8;rw[eP,eW,eA,eX] at Oa;refine fG Oa λb s9 ⟨H9,I9,q9⟩=>?_;have again:∀{σz} {Hz} {sz},Inv X' ([]++oW fp s7.heap) σz Hz sz->N σz Hz->∃m,m<n/\∃i σ' H',Inv X' [] σ' H' sz/\tn i sz.heap/\(∀b∈fp,H' b=none)/\W i m σ' H':=λ{σz Hz sz} Iz nz=>by
    obtain⟨m',hm,wz⟩:=hN σz Hz nz;refine⟨m',hm,i+1,σz,Hz,Iz.pO,T.keep _ _ _ YF λb hb o e=>(Iz.pin (b,o)<|Qq6 _<|Qq6 _<|iG hb e).1,λb hb=>?_,wz⟩;obtain⟨o,e,d⟩:=T.obj _ _ YF b hb;exact(Iz.pin (b,o)<|Qq6 _<|Qq6 _<|iG hb e).2.1
   cases b with
   | false=>
    rw[if_neg Qwj] at q9 ⊢;exact again I9 q9
   | true=>
    rw[if_pos rfl] at q9 ⊢;have he':=he _ s9 σ8 H9 _ I9 q9;rw[eP,eW,eA,eX] at he';refine fG he' λy sa ⟨yv,Ha,Ia,ra,ys,z,hyz,hys,hlen,qa⟩=>?_;subst hyz;have ap:=YM (E:=λ_ _=>False) (eP ▸ eW ▸ hys) Ia ra hlen;rw[eP,eW,eA] at ap;exact fG ap λ_ sb Ib=>again Ib qa
 show codeAny _ _ (.compStart _ 0 (.ref it) (.ref s2.heap.objs.size)<|compEnvC scope (cellsFrom (s3.heap.objs.size+1) scope.names<|lZ X.env scope.names []) s3.heap.objs.size X.env) (compPost (model X.prog X.w) X.A X.xe use QQ (.ref s2.heap.objs.size) s3.heap.objs.size) _;rw[abt];exact S5 (loop _ rfl)<|T.self X.A 0 _ _ _ st3<|loop _ rfl
theorem alE
  (ok:jA X scope N') (hc:X.calm=true) (hi:PI X tg iter wi)
  (bg:∀X',dI X scope N' X'->PG X' tg g) (bc:∀X',dI X scope N' X'->PIf X' ifs tc) (be:∀X',dI X scope N' X'->PE X' elt te)
  (hs:∀x,foldedSetIterable iter X.env x=pure x:=by intro _;rfl) :
  PE X (.SetComp elt [⟨tg,iter,ifs,0⟩] scope pos) (tSC X.prog X.w N'.length wi g tc te):=by
 intro pins s σ H Q I h;rw[arm_eval_SetComp];have hfree:∀n,(n,NameKind.free)∈scope.names->∃c,X.env.cells.lookup n=some c:=λn hm=>I.ok.has n<|ok.free _ hm rfl;refine wpAny_comprehension_free rfl hs (sI hfree) ok.kind (λx hx hl=>iH _ _ _ ok.nd (by grind)) ?_;refine fG (hi pins s σ H _ I h) λv s1 h1=>fG h1 λitv s2 h2=>?_;obtain⟨it,fp,tn,J,H2,e,I2,T,st2,f2,q⟩:=h2;subst e;refine SN ok hc bg bc be I2 T st2 f2 q λd C m s' H' I' hq hn hC hL h0 hcell hpin=>?_;refine⟨m,hn,λh' hs'=>?_⟩;have I'':Inv X pins σ H' { s' with heap:=h',toks:=s'.toks }:=I'.turned (λb o hb e=>(hs'.2 b hb).trans e) hC hL (.inr h0) hcell hpin;exact⟨.ref d,H',I'',rfl,hq⟩
end L2
namespace Ev
open PySem PySem.Spec PyProof.Rows L2
inductive D where
 | non
 | bl (b:Bool)
 | int (i:Int)
 | str (x:List Nat)
 | tup (xs:List D)
 | lst (xs:List D)
 | arr (xs:List D)
 | dct (kvs:List (D×D))
 | Bl (kvs:List (D×D))
 | clo (st:Stmt) (ds:List D)
 deriving Inhabited
abbrev Fg:=PySem.W.Frag
noncomputable def strOf(x:List Nat):Str:=⟨x.toArray⟩
def tM:D->Option Key
 | .int i=>some (.inl i)
 | .str x=>some (.inr (strOf x))
 | _=>none
mutual
noncomputable def nkD:D->Option NK
 | .int i=>some (.num i)
 | .bl b=>some (.num (if b then 1 else 0))
 | .str x=>some (.txt (strOf x))
 | .tup xs=>(al1 xs).map .tup
 | _=>none
noncomputable def al1:List D->Option (List NK)
 | []=>some []
 | d::ds=>match nkD d,al1 ds with
  | some k,some ks=>some (k::ks)
  | _,_=>none
end
noncomputable def defName(s:Stmt):Str:=match s with
 | .FunctionDef n _ _ _ _ _ _ _ _ _=>n
 | _=>""
def freeOf(s:Stmt):List Str:=(((aK s).names.filter (·.2 == .free)).map (·.1)).reverse
def akm(F:Hp)(c:Addr)(v:V):Prop:=∃(o:Obj) (u:HO) (w:Value),F c=some (.KQ o u)/\o.data = .cell (some w)/\RelV v w
def Bo(F:Hp):List (Str×Addr)->List V->Prop
 | [],vs=>vs=[]
 | (_,c)::r,vs=>∃v vs',vs=v::vs'/\akm F c v/\Bo F r vs'
def akl(F:Hp)(c:Addr)(q:Str):Prop:=∃(o:Obj) (u:HO) (vs:Array Value) (t:Tok),F c=some (.KQ o u)/\o.data = .fields vs/\vs[1]? = some (.str q t)
def apP(F:Hp)(st:Stmt)(a:Addr)(vs:List V):Prop:=∃(u:HO) (q:Str) (cl:List (Str×Addr)) (doc pm ctv:Value) (c:Addr),
 F a=some (.KQ (PySem.W.fnMade (defName st) q (lH st) (gK st) (aK st) cl doc pm c ctv) u)/\akl F c q/\cl.map (·.1)=freeOf st/\(cl.map (·.2)).Nodup/\Bo F cl vs
theorem aY.cells(e:aY F F'):∀{cl} {vs},Bo F cl vs->Bo F' cl vs
 | [],_,h=>h
 | (_,c)::r,_,⟨v,vs',h0,⟨o,u,w,h1,h2⟩,h3⟩=>⟨v,vs',h0,⟨o,u,w,e _ _ h1,h2⟩,aY.cells e h3⟩
def Mark(K:Fg)(st:Stmt)(a:Addr):Prop:=∃(n:Str) (p:Pos) (oc:Value) (od:Option Addr) (fd:FuncData) (sl:Array (Option Value)),st = .Global [n] p/\PySem.W.nsIn K mainGlobals n=some (some (.ref a))/\K.lookup a=some ⟨oc,od,.func fd,sl⟩
def ExcAt(K:Fg)(F:Hp)(st:Stmt)(a:Addr)(vs:List V):Prop:=∃(n:Str) (r:List Str) (p:Pos) (o:Obj) (u:HO) (c:Addr) (fs:Array Value),st = .Nonlocal (n::r) p/\PySem.W.nsIn K mainGlobals n=some (some (.ref c))/\F a=some (.KQ o u)/\o.cls = .ref c/\o.data = .fields fs/\
 (r=[]/\vs=[]\/∃(x:Str) (v:V) (w:Value) (dx:Addr) (od:Obj) (ud:HO) (m:Str->Option Value),r=[x]/\vs=[v]/\RelV v w/\o.dict=some dx/\F dx=some (.KQ od ud)/\(∀h:Heap,h.get? dx=some od->h.Ns dx m)/\m x=some w)
theorem aY.excAt{K:Fg}{st:Stmt}(e:aY F F')(h:ExcAt K F st a vs):ExcAt K F' st a vs:=by
 obtain⟨n,r,p,o,u,c,fs,h1,h2,h3,h4,h5,h6⟩:=h;refine⟨n,r,p,o,u,c,fs,h1,h2,e _ _ h3,h4,h5,?_⟩;rcases h6 with h6|⟨x,v,w,dx,od,ud,m,q1,q2,q3,q4,q5,q6⟩
 ·exact .inl h6
 ·exact .inr ⟨x,v,w,dx,od,ud,m,q1,q2,q3,q4,e _ _ q5,q6⟩
noncomputable def ao4(st:Stmt):Bool:=match st with
 | .Global _ _=>true
 | .Nonlocal _ _=>true
 | _=>false
def Clo(K:Fg)(F:Hp)(st:Stmt)(a:Addr)(vs:List V):Prop:=apP F st a vs/\ao4 st=false\/Mark K st a\/ExcAt K F st a vs
theorem aY.clo{K:Fg}{st:Stmt}(e:aY F F')(h:Clo K F st a vs):Clo K F' st a vs:=by
 rcases h with ⟨h,hg⟩|h|h
 rotate_left
 ·exact .inr<|.inl h
 ·exact .inr<|.inr<|aY.excAt e h
 refine .inl ⟨?_,hg⟩;obtain⟨u,q,cl,doc,pm,ctv,c,h1,⟨o,u2,ws,t,h2,h3⟩,h4,h5,h6⟩:=h;exact⟨u,q,cl,doc,pm,ctv,c,e _ _ h1,⟨o,u2,ws,t,e _ _ h2,h3⟩,h4,h5,aY.cells e h6⟩
mutual
noncomputable def Rep(K:Fg)(F:Hp):D->V->Prop
 | .non,v=>v = .non
 | .bl b,v=>v = .bl b
 | .int i,v=>v = .int i
 | .str x,v=>v = .str (strOf x)/\x.length<=sizeLine
 | .tup xs,v=>xs.length<=sizeLine/\∃a vs,v = .ref a/\oH K F a vs/\cu K F xs vs
 | .lst xs,v=>xs.length<=sizeLine/\∃a vs,v = .ref a/\F a=some (.lst vs)/\cu K F xs vs
 | .arr xs,v=>xs.length<=sizeLine/\∃a vs,v = .ref a/\jR K F a vs/\cu K F xs vs
 | .dct kvs,v=>kvs.length<=sizeLine/\∃a ks,v = .ref a/\Rd F a (.dK ks)/\fL K F kvs ks
 | .Bl kvs,v=>kvs.length<=sizeLine/\∃a ks,v = .ref a/\Rd F a (.dN ks)/\tK K F kvs ks
 | .clo st ds,v=>∃a vs,v = .ref a/\Clo K F st a vs/\cu K F ds vs
noncomputable def cu(K:Fg)(F:Hp):List D->List V->Prop
 | [],vs=>vs=[]
 | d::ds,vs=>∃v r,vs=v::r/\Rep K F d v/\cu K F ds r
noncomputable def fL(K:Fg)(F:Hp):List (D×D)->List (Key×V)->Prop
 | [],vs=>vs=[]
 | (k,d)::ds,vs=>∃q v r,vs=(q,v)::r/\tM k=some q/\Rep K F d v/\fL K F ds r
noncomputable def tK(K:Fg)(F:Hp):List (D×D)->List (NK×V×V)->Prop
 | [],vs=>vs=[]
 | (k,d)::ds,vs=>∃q u v r,vs=(q,u,v)::r/\nkD k=some q/\q.dep<=8/\Rep K F k u/\Rep K F d v/\tK K F ds r
end
theorem aY.rd(e:aY F F')(h:Rd F a u):Rd F' a u:=by
 rcases h with h|⟨o,h⟩
 ·exact .inl<|e _ _ h
 ·exact .inr ⟨o,e _ _ h⟩
theorem aY.tupK{K:Fg}(e:aY F F')(h:oH K F a xs):oH K F' a xs:=by
 rcases h with h|h
 ·exact .inl<|aY.rd e h
 ·exact .inr h
mutual
theorem Rep.mono{K:Fg}{F F':Hp}(e:aY F F'):∀(d:D) (v:V),Rep K F d v->Rep K F' d v
 | .non,_,h=>h
 | .bl _,_,h=>h
 | .int _,_,h=>h
 | .str _,_,h=>h
 | .tup xs,v,h=>by
  obtain⟨z,a,vs,rfl,h1,h2⟩:=h;exact⟨z,a,vs,rfl,aY.tupK e h1,cu.mono e xs vs h2⟩
 | .lst xs,v,h=>by
  obtain⟨z,a,vs,rfl,h1,h2⟩:=h;exact⟨z,a,vs,rfl,e _ _ h1,cu.mono e xs vs h2⟩
 | .arr xs,v,h=>by
  obtain⟨z,a,vs,rfl,h1,h2⟩:=h;exact⟨z,a,vs,rfl,e.seq h1,cu.mono e xs vs h2⟩
 | .dct kvs,v,h=>by
  obtain⟨z,a,ks,rfl,h1,h2⟩:=h;exact⟨z,a,ks,rfl,aY.rd e h1,fL.mono e kvs ks h2⟩
 | .Bl kvs,v,h=>by
  obtain⟨z,a,ks,rfl,h1,h2⟩:=h;exact⟨z,a,ks,rfl,aY.rd e h1,tK.mono e kvs ks h2⟩
 | .clo st ds,v,h=>by
  obtain⟨a,vs,rfl,h1,h2⟩:=h;exact⟨a,vs,rfl,aY.clo e h1,cu.mono e ds vs h2⟩
theorem cu.mono{K:Fg}{F F':Hp}(e:aY F F'):∀(ds:List D) (vs:List V),cu K F ds vs->cu K F' ds vs
 | [],_,h=>h
 | d::ds,vs,h=>by
  obtain⟨v,r,rfl,h1,h2⟩:=h;exact⟨v,r,rfl,Rep.mono e d v h1,cu.mono e ds r h2⟩
theorem fL.mono{K:Fg}{F F':Hp}(e:aY F F'):∀(ds:List (D×D)) (vs:List (Key×V)),fL K F ds vs->fL K F' ds vs
 | [],_,h=>h
 | (k,d)::ds,vs,h=>by
  obtain⟨q,v,r,rfl,h0,h1,h2⟩:=h;exact⟨q,v,r,rfl,h0,Rep.mono e d v h1,fL.mono e ds r h2⟩
theorem tK.mono{K:Fg}{F F':Hp}(e:aY F F'):∀(ds:List (D×D)) (vs:List (NK×V×V)),tK K F ds vs->tK K F' ds vs
 | [],_,h=>h
 | (k,d)::ds,vs,h=>by
  obtain⟨q,u,v,r,rfl,h0,h3,h4,h1,h2⟩:=h;exact⟨q,u,v,r,rfl,h0,h3,Rep.mono e k u h4,Rep.mono e d v h1,tK.mono e ds r h2⟩
end
theorem cu.length{K:Fg}:∀{ds} {vs},cu K F ds vs->vs.length=ds.length
 | [],_,h=>by cases h;rfl
 | d::ds,vs,h=>by
  obtain⟨v,r,rfl,_,h2⟩:=h;rw[Qq3,Qq3,h2.length]
theorem cu.get{K:Fg}:∀{ds} {vs} {i:Nat} {d},cu K F ds vs->ds[i]? = some d->∃v,vs[i]? = some v/\Rep K F d v
 | [],_,_,_,_,e=>by simp at e
 | c::ds,vs,i,d,h,e=>by
  obtain⟨v,r,rfl,h1,h2⟩:=h;cases i with
  | zero=>simp_all
  | succ i=>obtain⟨u,e1,e2⟩:=cu.get h2 (by simpa using e);exact⟨u,by simpa using e1,e2⟩
theorem cu.append{K:Fg}:∀{ds es} {vs ws},cu K F ds vs->cu K F es ws->cu K F (ds++es) (vs++ws)
 | [],es,vs,ws,h,g=>by cases h;exact g
 | d::ds,es,vs,ws,h,g=>by
  obtain⟨v,r,rfl,h1,h2⟩:=h;exact⟨v,r++ws,rfl,h1,cu.append h2 g⟩
theorem cu.drop{K:Fg}:∀n {ds} {vs},cu K F ds vs->cu K F (ds.drop n) (vs.drop n)
 | 0,_,_,h=>h
 | _+1,[],_,h=>by cases h;exact rfl
 | n+1,d::ds,vs,h=>by
  obtain⟨v,r,rfl,_,h2⟩:=h;exact cu.drop n h2
theorem cu.take{K:Fg}:∀n {ds} {vs},cu K F ds vs->cu K F (ds.take n) (vs.take n)
 | 0,_,_,_=>rfl
 | _+1,[],_,h=>by cases h;exact rfl
 | n+1,d::ds,vs,h=>by
  obtain⟨v,r,rfl,h1,h2⟩:=h;exact⟨v,r.take n,rfl,h1,cu.take n h2⟩
theorem cu.set{K:Fg}(hd:Rep K F d v):∀i {ds} {vs},cu K F ds vs->cu K F (ds.set i d) (vs.set i v)
 | _,[],_,h=>by cases h;exact rfl
 | 0,c::ds,vs,h=>by
  obtain⟨u,r,rfl,_,h2⟩:=h;exact⟨v,r,rfl,hd,h2⟩
 | i+1,c::ds,vs,h=>by
  obtain⟨u,r,rfl,h1,h2⟩:=h;exact⟨u,r.set i v,rfl,h1,cu.set hd i h2⟩
theorem cu.one{K:Fg}(h:Rep K F d v):cu K F [d] [v]:=⟨v,[],rfl,h,rfl⟩
abbrev Env:=List (Option (Bool×D))
inductive R (α:Type) where
 | ok (a:α) (env:Env)
 | stuck
abbrev Ev:=Env->R D
abbrev gj:=Env->R Bool
abbrev dq:=Env->R (List D)
structure Cfg where
 K:Fg
 fx:Nat->Option Addr
def oJ(K:Fg)(F H:Hp):D->Addr->Prop
 | .lst xs,a=>xs.length<=sizeLine/\∃vs,H a=some (.lst vs)/\cu K F xs vs
 | .dct kvs,a=>kvs.length<=sizeLine/\∃ks,H a=some (.dK ks)/\fL K F kvs ks
 | .Bl kvs,a=>kvs.length<=sizeLine/\∃ks,H a=some (.dN ks)/\tK K F kvs ks
 | _,_=>False
theorem oJ.mono{K:Fg}(e:aY F F')(k:H' a=H a)(h:oJ K F H d a):oJ K F' H' d a:=by
 cases d with
 | lst xs=>obtain⟨z,vs,h1,h2⟩:=h;exact⟨z,vs,k.trans h1,cu.mono e _ _ h2⟩
 | dct kvs=>obtain⟨z,ks,h1,h2⟩:=h;exact⟨z,ks,k.trans h1,fL.mono e _ _ h2⟩
 | Bl kvs=>obtain⟨z,ks,h1,h2⟩:=h;exact⟨z,ks,k.trans h1,tK.mono e _ _ h2⟩
 | _=>exact h
theorem oJ.some{K:Fg}(h:oJ K F H d a):∃o,H a=some o:=by
 cases d with
 | lst xs=>obtain⟨z,vs,h1,h2⟩:=h;exact⟨_,h1⟩
 | dct kvs=>obtain⟨z,ks,h1,h2⟩:=h;exact⟨_,h1⟩
 | Bl kvs=>obtain⟨z,ks,h1,h2⟩:=h;exact⟨_,h1⟩
 | _=>exact h.elim
def lq(K:Fg)(F H:Hp)(d:D)(v:V):Prop:=Rep K F d v\/∃a,v = .ref a/\oJ K F H d a
theorem lq.rep{K:Fg}(s:aY F H)(h:lq K F H d v):Rep K H d v:=by
 rcases h with h|⟨a,rfl,h⟩
 ·exact Rep.mono s d v h
 ·cases d with
  | lst xs=>obtain⟨z,vs,h1,h2⟩:=h;exact⟨z,a,vs,rfl,h1,cu.mono s _ _ h2⟩
  | dct kvs=>obtain⟨z,ks,h1,h2⟩:=h;exact⟨z,a,ks,rfl,.inl h1,fL.mono s _ _ h2⟩
  | Bl kvs=>obtain⟨z,ks,h1,h2⟩:=h;exact⟨z,a,ks,rfl,.inl h1,tK.mono s _ _ h2⟩
  | _=>exact h.elim
theorem lq.lst{K:Fg}(s:aY F H)(h:lq K F H (.lst xs) v):xs.length<=sizeLine/\∃a vs,v = .ref a/\H a=some (.lst vs)/\cu K F xs vs:=by
 rcases h with ⟨z,a,vs,rfl,h1,h2⟩|⟨a,rfl,z,vs,h1,h2⟩
 ·exact⟨z,a,vs,rfl,s _ _ h1,h2⟩
 ·exact⟨z,a,vs,rfl,h1,h2⟩
theorem lq.arr{K:Fg}(s:aY F H)(h:lq K F H (.arr xs) v):xs.length<=sizeLine/\∃a vs,v = .ref a/\jR K H a vs/\cu K F xs vs:=by
 rcases h with ⟨z,a,vs,rfl,h1,h2⟩|⟨a,rfl,h⟩
 ·exact⟨z,a,vs,rfl,s.seq h1,h2⟩
 ·exact h.elim
theorem lq.tup{K:Fg}(s:aY F H)(h:lq K F H (.tup xs) v):xs.length<=sizeLine/\∃a vs,v = .ref a/\oH K H a vs/\oH K F a vs/\cu K F xs vs:=by
 rcases h with ⟨z,a,vs,rfl,h1,h2⟩|⟨a,rfl,h⟩
 ·exact⟨z,a,vs,rfl,aY.tupK s h1,h1,h2⟩
 ·exact h.elim
theorem lq.int{K:Fg}(h:lq K F H (.int i) v):v = .int i:=by
 rcases h with h|⟨a,rfl,h⟩
 ·exact h
 ·exact h.elim
theorem lq.bl{K:Fg}(h:lq K F H (.bl i) v):v = .bl i:=by
 rcases h with h|⟨a,rfl,h⟩
 ·exact h
 ·exact h.elim
theorem lq.non{K:Fg}(h:lq K F H .non v):v = .non:=by
 rcases h with h|⟨a,rfl,h⟩
 ·exact h
 ·exact h.elim
theorem lq.str{K:Fg}(h:lq K F H (.str x) v):v = .str (strOf x)/\x.length<=sizeLine:=by
 rcases h with h|⟨a,rfl,h⟩
 ·exact h
 ·exact h.elim
structure Rel(C:Cfg)(Pr F:Hp)(env:Env)(σ:L2.St)(H:Hp):Prop where
 pr:aY Pr H
 fr:aY F H
 len:env.length=σ.length
 val:∀(i:Nat) (d:D),env[i]? = some (some (false,d))->∃v,σ[i]? = some (some v)/\Rep C.K F d v
 own:∀(i:Nat) (d:D),env[i]? = some (some (true,d))->∃a,σ[i]? = some (some (V.ref a))/\oJ C.K F H d a/\F a=none/\Pr a=none
 apart:∀(i j:Nat) (d e:D) (a:Addr),env[i]? = some (some (true,d))->env[j]? = some (some (true,e))->σ[i]? = some (some (V.ref a))->σ[j]? = some (some (V.ref a))->i=j
 dj:∀b o,F b=some o->Pr b=none
 fix:∀i a,C.fx i=some a->σ[i]? = some (some (V.ref a))
theorem mz(h:H a=none):aY H (upd H a o):=λb u e=>by
 rw[cz (gw e h)];exact e
theorem Rel.new(r:Rel C Pr F env σ H)(h:H a=none):Rel C Pr (upd F a o) env σ (upd H a o)/\aY F (upd F a o):=by
 have hF:=r.fr.free h;have s1:aY F (upd F a o):=mz hF;refine⟨⟨r.pr.trans<|mz h,λb u e=>?_,r.len,λi d e1=>?_,λi d e1=>?_,r.apart,λb u e=>?_,r.fix⟩,s1⟩
 ·by_cases hb:b=a
  ·subst hb;rw[bD] at e ⊢;exact e
  ·rw[cz hb] at e ⊢;exact r.fr b u e
 ·obtain⟨v,h1,h2⟩:=r.val i d e1;exact⟨v,h1,Rep.mono s1 d v h2⟩
 ·obtain⟨b,h1,h2,h3,h4⟩:=r.own i d e1;obtain⟨u,hu⟩:=h2.some;have hb:=gw hu h;exact⟨b,h1,h2.mono s1<|cz hb,by rw[cz hb];exact h3,h4⟩
 ·by_cases hb:b=a
  ·subst hb;exact r.pr.free h
  ·rw[cz hb] at e;exact r.dj b u e
theorem Rel.fresh(r:Rel C Pr F env σ H)(h:H a=none):Rel C Pr F env σ (upd H a o):=by refine⟨r.pr.trans<|mz h,r.fr.trans<|mz h,r.len,r.val,λi d e1=>?_,r.apart,r.dj,r.fix⟩;obtain⟨b,h1,h2,h3,h4⟩:=r.own i d e1;obtain⟨u,hu⟩:=h2.some;have hb:=gw hu h;exact⟨b,h1,h2.mono (aY.refl F)<|cz hb,h3,h4⟩
theorem Rel.aside(r:Rel C Pr F env σ H)(h:H a=none):Rel C (upd Pr a o) F env σ (upd H a o):=by
 have r':=r.fresh (o:=o) h;have hF:=r.fr.free h;refine⟨λb u e=>?_,r'.fr,r.len,r.val,λi d e1=>?_,r.apart,λb u e=>?_,r.fix⟩
 ·by_cases hb:b=a
  ·subst hb;rw[bD] at e ⊢;exact e
  ·rw[cz hb] at e ⊢;exact r.pr b u e
 ·obtain⟨b,h1,h2,h3,h4⟩:=r'.own i d e1;obtain⟨b',h1',h2',_⟩:=r.own i d e1;rw[h1] at h1';cases h1';obtain⟨u,hu⟩:=h2'.some;have hb:=gw hu h;exact⟨b,h1,h2,h3,by rw[cz hb];exact h4⟩
 ·have hb:b≠a:=λz=>by simp_all
  rw[cz hb];exact r.dj b u e
theorem Rel.turn(r:Rel C Pr F env σ H)(h:Pr a=some o):Rel C (upd Pr a u) F env σ (upd H a u):=by
 have hF:F a=none:=by
  cases e:F a with
  | none=>rfl
  | some w=>have:=r.dj a w e;rw[h] at this;cases this
 refine⟨λb w e=>?_,λb w e=>?_,r.len,r.val,λi d e1=>?_,r.apart,λb w e=>?_,r.fix⟩
 ·by_cases hb:b=a
  ·subst hb;rw[bD] at e ⊢;exact e
  ·rw[cz hb] at e ⊢;exact r.pr b w e
 ·have hb:b≠a:=λz=>by simp_all
  rw[cz hb];exact r.fr b w e
 ·obtain⟨b,h1,h2,h3,h4⟩:=r.own i d e1;have hb:b≠a:=λz=>by simp_all
  exact⟨b,h1,h2.mono (aY.refl F)<|cz hb,h3,by rw[cz hb];exact h4⟩
 ·have hb:b≠a:=λz=>by simp_all
  rw[cz hb];exact r.dj b w e
theorem Rel.less(r:Rel C Pr F env σ H)(s:aY Pr' Pr):Rel C Pr' F env σ H:=
 ⟨s.trans r.pr,r.fr,r.len,r.val,λi d e=>let ⟨b,h1,h2,h3,h4⟩:=r.own i d e;⟨b,h1,h2,h3,s.free h4⟩,r.apart,λb o e=>s.free<|r.dj b o e,r.fix⟩
theorem Rel.freeze(r:Rel C Pr F env σ H)(h:env[i]? = some (some (true,d))) :
  ∃F' v,Rel C Pr F' (env.set i (some (false,d))) σ H/\aY F F'/\σ[i]? = some (some v)/\Rep C.K F' d v:=by
 obtain⟨a,h1,h2,h3,h4⟩:=r.own i d h;obtain⟨o,ho⟩:=h2.some;have s1:aY F (upd F a o):=mz h3;have hi:=(Qwz.mp h).1;have rep:Rep C.K (upd F a o) d (.ref a):=by
  cases d with
  | lst xs=>obtain⟨z,vs,g1,g2⟩:=h2;rw[ho] at g1;cases g1;exact⟨z,a,vs,rfl,bD,cu.mono s1 _ _ g2⟩
  | dct kvs=>obtain⟨z,ks,g1,g2⟩:=h2;rw[ho] at g1;cases g1;exact⟨z,a,ks,rfl,.inl bD,fL.mono s1 _ _ g2⟩
  | Bl kvs=>obtain⟨z,ks,g1,g2⟩:=h2;rw[ho] at g1;cases g1;exact⟨z,a,ks,rfl,.inl bD,tK.mono s1 _ _ g2⟩
  | _=>exact h2.elim
 refine⟨upd F a o,.ref a,⟨r.pr,λb u e=>?_,by rw[Qz3];exact r.len,λj e he=>?_,λj e he=>?_,λj k e f b hj hk g1 g2=>?_,λb u e=>?_,r.fix⟩,s1,h1,rep⟩
 ·by_cases hb:b=a
  ·subst hb;rw[bD] at e;cases e;exact ho
  ·rw[cz hb] at e;exact r.fr b u e
 ·by_cases hj:j=i
  ·simp_all
  ·rw[Qwx (Ne.symm hj)] at he;obtain⟨v,g1,g2⟩:=r.val j e he;exact⟨v,g1,Rep.mono s1 e v g2⟩
 ·by_cases hj:j=i
  ·simp_all
  ·rw[Qwx (Ne.symm hj)] at he;obtain⟨b,g1,g2,g3,g4⟩:=r.own j e he;have hb:b≠a:=λz=>hj<|r.apart j i e d a he h (by simp_all) h1;exact⟨b,g1,g2.mono s1 rfl,by rw[cz hb];exact g3,g4⟩
 ·have nj:j≠i:=λz=>by simp_all
  have nk:k≠i:=λz=>by simp_all
  rw[Qwx (Ne.symm nj)] at hj;rw[Qwx (Ne.symm nk)] at hk;exact r.apart j k e f b hj hk g1 g2
 ·by_cases hb:b=a
  ·simp_all
  ·rw[cz hb] at e;exact r.dj b u e
inductive tE (C:Cfg) (ev:Ev) (σ:L2.St) (H:Hp) (Q:L2.VK):Prop
 | mk (Pr F:Hp) (env env':Env) (d:D) (_:Rel C Pr F env σ H) (_:ev env = .ok d env') (_:∀v H' F',Rel C Pr F' env' σ H'->aY F F'->Rep C.K F' d v->Q v H'):tE C ev σ H Q
inductive tRd (C:Cfg) (ev:Ev) (σ:L2.St) (H:Hp) (Q:L2.VK):Prop
 | mk (Pr F:Hp) (env env':Env) (d:D) (_:Rel C Pr F env σ H) (_:ev env = .ok d env') (_:∀v H' F',Rel C Pr F' env' σ H'->aY F F'->lq C.K F' H' d v->Q v H'):tRd C ev σ H Q
inductive tT (C:Cfg) (ev:gj) (σ:L2.St) (H:Hp) (Q:Bool->Hp->Prop):Prop
 | mk (Pr F:Hp) (env env':Env) (b:Bool) (_:Rel C Pr F env σ H) (_:ev env = .ok b env') (_:∀H' F',Rel C Pr F' env' σ H'->aY F F'->Q b H'):tT C ev σ H Q
inductive tA (C:Cfg) (ev:dq) (σ:L2.St) (H:Hp) (Q:List L2.V->Hp->Prop):Prop
 | mk (Pr F:Hp) (env env':Env) (ds:List D) (_:Rel C Pr F env σ H) (_:ev env = .ok ds env') (_:∀vs H' F',Rel C Pr F' env' σ H'->aY F F'->cu C.K F' ds vs->Q vs H'):tA C ev σ H Q
def PX(X:Cx)(C:Cfg)(e:Expr)(ev:Ev):Prop:=PE X e (tE C ev)
def PXB(X:Cx)(C:Cfg)(e:Expr)(ev:Ev):Prop:=PE X e (tRd C ev)
def PXT(X:Cx)(C:Cfg)(e:Expr)(ev:gj):Prop:=PT X e (tT C ev)
def PXA(X:Cx)(C:Cfg)(es:List Expr)(ev:dq):Prop:=PA X es (tA C ev)
theorem _root_.L2.PE.imp{X:Cx}{e:Expr}{t t':TE}(h:PE X e t)(i:∀σ H Q,t' σ H Q->t σ H Q):PE X e t':=λpins s σ H Q I q=>h pins s σ H Q I<|i σ H Q q
theorem _root_.L2.PT.imp{X:Cx}{e:Expr}{t t':TT}(h:PT X e t)(i:∀σ H Q,t' σ H Q->t σ H Q):PT X e t':=λpins s σ H Q I q=>h pins s σ H Q I<|i σ H Q q
theorem _root_.L2.PW.imp{X:Cx}{e:Expr}{t t':TT}(h:PW X e t)(i:∀σ H Q,t' σ H Q->t σ H Q):PW X e t':=λwhole pins s σ H Q I q=>h whole pins s σ H Q I<|i σ H Q q
theorem _root_.L2.PA.imp{X:Cx}{e:List Expr}{t t':TA}(h:PA X e t)(i:∀σ H Q,t' σ H Q->t σ H Q):PA X e t':=λpos pins s σ H Q I q=>h pos pins s σ H Q I<|i σ H Q q
theorem _root_.L2.PS.imp{X:Cx}{e:Stmt}{t t':TS}(h:PS X e t)(i:∀D σ H,t' D σ H->t D σ H):PS X e t':=λpins s σ H D I q=>h pins s σ H D I<|i D σ H q
theorem _root_.L2.Qh.imp{X:Cx}{e:List Stmt}{t t':TS}(h:Qh X e t)(i:∀D σ H,t' D σ H->t D σ H):Qh X e t':=λpins s σ H D I q=>h pins s σ H D I<|i D σ H q
noncomputable def bindR{α β:Type}(x:R α)(f:α->Env->R β):R β:=match x with
 | .ok a env=>f a env
 | .stuck=>.stuck
noncomputable def fc{α:Type}(o:Option α)(env:Env):R α:=match o with
 | some a=>.ok a env
 | none=>.stuck
theorem aO{α β:Type}{x:R α}{f:α->Env->R β}{b:β}(h:bindR x f = .ok b env'):∃a aJ,x = .ok a aJ/\f a aJ = .ok b env':=by
 cases x with
 | ok a aJ=>exact⟨a,aJ,rfl,h⟩
 | stuck=>cases h
theorem dz{α:Type}{o:Option α}{a:α}(h:fc o env = .ok a env'):o=some a/\env'=env:=by
 cases o with
 | some b=>cases h;exact⟨rfl,rfl⟩
 | none=>cases h
section
variable{X:Cx}{C:Cfg}{pos:Pos}
noncomputable def aN(i:Nat):Ev:=λenv=>match env[i]? with
 | some (some (false,d))=>.ok d env
 | some (some (true,d))=>.ok d (env.set i (some (false,d)))
 | _=>.stuck
theorem ag4(i)(hN:X.N[i]? = some x)(hv:Aa X.env.scope x)(hd:qi x:=by decide)(hcd:Am x:=by decide):PX X C (.Name x pos) (aN i):=by
 refine(ni hN hv hd hcd).imp λσ H Q h=>?_;obtain⟨Pr,F,env,env',d,r,e,q⟩:=h;unfold aN at e;split at e
 ·rename_i d' hd';cases e;obtain⟨v,h1,h2⟩:=r.val i d hd';exact⟨v,h1,q v H F r (aY.refl F) h2⟩
 ·rename_i d' hd';cases e;obtain⟨F',v,r',s',h1,h2⟩:=r.freeze hd';exact⟨v,h1,q v H F' r' s' h2⟩
 ·cases e
theorem PX.b(h:PX X C e ev):PXB X C e ev:=PE.imp h λσ H Q hq=>by
 obtain⟨Pr,F,env,env',d,r,e,q⟩:=hq;exact⟨Pr,F,env,env',d,r,e,λv H' F' r' s' p'=>q v H' F' r' s'<|.inl p'⟩
noncomputable def bj(i:Nat):Ev:=λenv=>match env[i]? with
 | some (some (_,d))=>.ok d env
 | _=>.stuck
theorem Rel.rd(r:Rel C Pr F env σ H){i:Nat}(h:env[i]? = some (some (o,d))):∃v,σ[i]? = some (some v)/\lq C.K F H d v:=by
 cases o with
 | true=>obtain⟨a,h1,h2,_⟩:=r.own i d h;exact⟨_,h1,.inr ⟨a,rfl,h2⟩⟩
 | false=>obtain⟨v,h1,h2⟩:=r.val i d h;exact⟨v,h1,.inl h2⟩
theorem ade(i)(hN:X.N[i]? = some x)(hv:Aa X.env.scope x)(hd:qi x:=by decide)(hcd:Am x:=by decide):PXB X C (.Name x pos) (bj i):=by
 refine(ni hN hv hd hcd).imp λσ H Q h=>?_;obtain⟨Pr,F,env,env',d,r,e,q⟩:=h;unfold bj at e;split at e
 ·rename_i o' d' hd';cases e;obtain⟨v,h1,h2⟩:=r.rd hd';exact⟨v,h1,q v H F r (aY.refl F) h2⟩
 ·cases e
noncomputable def mX(d:D):Ev:=λenv=>.ok d env
theorem ag9:PX X C (.Constant (.int i) j pos) (mX (.int i)):=ZV.imp λσ H Q h=>by
 obtain⟨Pr,F,env,env',d,r,e,q⟩:=h;cases e;exact q _ _ F r (aY.refl F) rfl
theorem alC:PX X C (.Constant (.bool b) j pos) (mX (.bl b)):=alH.imp λσ H Q h=>by
 obtain⟨Pr,F,env,env',d,r,e,q⟩:=h;cases e;exact q _ _ F r (aY.refl F) rfl
theorem ag7:PX X C (.Constant .none j pos) (mX .non):=ahp.imp λσ H Q h=>by
 obtain⟨Pr,F,env,env',d,r,e,q⟩:=h;cases e;exact q _ _ F r (aY.refl F) rfl
noncomputable def aj:dq:=λenv=>.ok [] env
def aa(a:Ev)(r:dq):dq:=λenv=>bindR (a env) λd aJ=>bindR (r aJ) λds dB=>.ok (d::ds) dB
theorem TX:PXA X C [] aj:=qG.imp λσ H Q h=>by
 obtain⟨Pr,F,env,env',d,r,e,q⟩:=h;cases e;exact q _ _ F r (aY.refl F) rfl
theorem M7(ha:PX X C e a)(hr:PXA X C es r)(hs:starEach (e::es) X.env=(false,eval e X.env)::starEach es X.env:=by rfl):PXA X C (e::es) (aa a r):=
 (j8 ha hr hs).imp λσ H Q h=>by
  obtain⟨Pr,F,env,env',ds,rl,e,q⟩:=h;obtain⟨d1,aJ,e1,e2⟩:=aO e;obtain⟨Ep,dB,e3,e4⟩:=aO e2;cases e4;refine⟨Pr,F,env,aJ,d1,rl,e1,λv H1 F1 r1 s1 p1=>?_⟩;refine⟨Pr,F1,aJ,env',Ep,r1,e3,λvs H2 F2 r2 s2 p2=>?_⟩;exact q _ H2 F2 r2 (s1.trans s2) ⟨v,vs,rfl,Rep.mono s2 d1 v p1,p2⟩
def cY(r:dq):Ev:=λenv=>bindR (r env) λds aJ=>if ds.length<=sizeLine then .ok (.tup ds) aJ else .stuck
def fB(r:dq):Ev:=λenv=>bindR (r env) λds aJ=>if ds.length<=sizeLine then .ok (.lst ds) aJ else .stuck
def aL(g:D->D->Option D)(a b:Ev):Ev:=λenv=>bindR (a env) λx aJ=>bindR (b aJ) λy dB=>fc (g x y) dB
def gh(g:D->Option D)(a:Ev):Ev:=λenv=>bindR (a env) λx aJ=>fc (g x) aJ
def rA(C:Cfg)(r:R2)(g:D->D->Option D):Prop:=∀(Pr F:Hp) (env:Env) (σ:L2.St) (H:Hp) (x y d:D) (vx vy:V) (Q:VK),Rel C Pr F env σ H->lq C.K F H x vx->lq C.K F H y vy->g x y=some d->
 (∀v H' F',Rel C Pr F' env σ H'->aY F F'->Rep C.K F' d v->Q v H')->r vx vy H Q
def UnD(C:Cfg)(r:V->Hp->VK->Prop)(g:D->Option D):Prop:=∀(Pr F:Hp) (env:Env) (σ:L2.St) (H:Hp) (x d:D) (vx:V) (Q:VK),Rel C Pr F env σ H->lq C.K F H x vx->g x=some d->
 (∀v H' F',Rel C Pr F' env σ H'->aY F F'->Rep C.K F' d v->Q v H')->r vx H Q
theorem K8(o:rA C r g)(σ)(H)(Q)(h:tE C (aL g a b) σ H Q):tOp r (tE C a) (tRd C b) σ H Q:=by obtain⟨Pr,F,env,env',d,rl,e,q⟩:=h;obtain⟨x,aJ,e1,e2⟩:=aO e;obtain⟨y,dB,e3,e4⟩:=aO e2;obtain⟨e5,rfl⟩:=dz e4;refine⟨Pr,F,env,aJ,x,rl,e1,λvx H1 F1 r1 s1 p1=>⟨Pr,F1,aJ,env',y,r1,e3,λvy H2 F2 r2 s2 p2=>?_⟩⟩;exact o Pr F2 env' σ H2 x y d vx vy Q r2 (.inl<|Rep.mono s2 x vx p1) p2 e5 λv H3 F3 r3 s3 p3=>q v H3 F3 r3 ((s1.trans s2).trans s3) p3
def az(g:D->D->Option D)(i:Nat)(b:Ev):Ev:=λenv=>match env[i]? with
 | some (some (_,_))=>bindR (b env) λy dB=>(match dB[i]? with
  | some (some (_,x))=>fc (g x y) dB
  | _=>.stuck)
 | _=>.stuck
theorem yd(o:rA C r g)(σ)(H)(Q)(h:tE C (az g i b) σ H Q):tOp r (akR i) (tRd C b) σ H Q:=by
 obtain⟨Pr,F,env,env',d,rl,e,q⟩:=h;unfold az at e;split at e
 ·rename_i o0 d0 h0;obtain⟨v,hv,_⟩:=rl.rd h0;obtain⟨y,dB,e1,e2⟩:=aO e;split at e2
  ·rename_i o2 x h2;obtain⟨e5,rfl⟩:=dz e2;refine⟨v,hv,Pr,F,env,env',y,rl,e1,λvy H2 F2 r2 s2 p2=>?_⟩;obtain⟨v',hv',p⟩:=r2.rd h2;rw[hv] at hv';cases hv';exact o Pr F2 env' σ H2 x y d v vy Q r2 p p2 e5 λv H3 F3 r3 s3 p3=>q v H3 F3 r3 (s2.trans s3) p3
  ·cases e2
 ·cases e
theorem alz(ho:o9 X (binaryOp op) r)(o:rA C r g)(ha:PX X C x a)(hb:PXB X C y b):PX X C (.BinOp x op y pos) (aL g a b):=
 (afL ho ha hb).imp (K8 o)
theorem ag6{px:Pos}(i)(hN:X.N[i]? = some x)(hv:Aa X.env.scope x)(ho:o9 X (binaryOp op) r)(o:rA C r g)(hb:PXB X C y b)
  (hd:qi x:=by decide) (hcd:Am x:=by decide):PX X C (.BinOp (.Name x px) op y pos) (az g i b):=
 (afL ho (ni hN hv hd hcd) hb).imp (yd o)
theorem aha(ho:o9 X (compareOp op) r)(o:rA C r g)(ha:PX X C x a)(hb:PXB X C y b)(hm:behindInMarks op y=false):PX X C (.Compare x [op] [y] pos) (aL g a b):=
 (T7 ho ha hb hm).imp (K8 o)
theorem alx(ho:UnR X (unaryOp op) r)(o:UnD C r g)(ha:PX X C x a):PX X C (.UnaryOp op x pos) (gh g a):=
 (afK ho ha).imp λσ H Q h=>by
  obtain⟨Pr,F,env,env',d,rl,e,q⟩:=h;obtain⟨x,aJ,e1,e2⟩:=aO e;obtain⟨e3,rfl⟩:=dz e2;exact⟨Pr,F,env,env',x,rl,e1,λvx H1 F1 r1 s1 p1=>o Pr F1 env' σ H1 x d vx Q r1 (.inl p1) e3 λv H3 F3 r3 s3 p3=>q v H3 F3 r3 (s1.trans s3) p3⟩
def dg(a:Ev):gj:=λenv=>bindR (a env) λd aJ=>match d with
 | .bl b=>.ok b aJ
 | _=>.stuck
theorem Mg(h:tT C (dg a) σ H Q):tE C a σ H λx H'=>∃k,x = .bl k/\Q k H':=by
 obtain⟨Pr,F,env,env',b,rl,e,q⟩:=h;obtain⟨d,aJ,e1,e2⟩:=aO e;refine⟨Pr,F,env,aJ,d,rl,e1,λv H1 F1 r1 s1 p1=>?_⟩;cases d with
 | bl c=>cases e2;exact⟨_,p1,q H1 F1 r1 s1⟩
 | _=>cases e2
theorem ac3(ho:o9 X (compareOp op) r)(o:rA C r g)(ha:PX X C x a)(hb:PXB X C y b)(hm:behindInMarks op y=false):PXT X C (.Compare x [op] [y] pos) (dg (aL g a b)):=
 (T3 ho ha hb hm).imp λσ H Q h=>by
  have h1:=Mg h;exact K8 o σ H _ h1
def dW(a:gj):gj:=λenv=>bindR (a env) λb aJ=>.ok (!b) aJ
def fP(a b:gj):gj:=λenv=>bindR (a env) λc aJ=>if c=true then b aJ else .ok false aJ
def iB(a b:gj):gj:=λenv=>bindR (a env) λc aJ=>if c=true then .ok true aJ else b aJ
def PXW(X:Cx)(C:Cfg)(e:Expr)(ev:gj):Prop:=PW X e (tT C ev)
theorem PXW.pt(h:PXW X C e a):PXT X C e a:=PW.pt h
def iD(a b:Ev):Ev:=λenv=>bindR (a env) λc aJ=>match c with
 | .bl true=>b aJ
 | .bl false=>.ok (.bl false) aJ
 | _=>.stuck
def Xc(a b:Ev):Ev:=λenv=>bindR (a env) λc aJ=>match c with
 | .bl true=>.ok (.bl true) aJ
 | .bl false=>b aJ
 | _=>.stuck
def Ow(a:Ev):Ev:=λenv=>bindR (a env) λc aJ=>match c with
 | .bl b=>.ok (.bl (!b)) aJ
 | _=>.stuck
def apz(t:gj)(a b:Ev):Ev:=λenv=>bindR (t env) λc aJ=>if c=true then a aJ else b aJ
end
noncomputable def yh(f:D->D->Option Bool):List D->List D->Option Bool
 | [],[]=>some true
 | x::xs,y::ys=>match f x y,yh f xs ys with
  | some a,some b=>some (a&&b)
  | _,_=>none
 | [],_::_=>some false
 | _::_,[]=>some false
noncomputable def od:D->Option Bool
 | .dct _=>none
 | .Bl _=>none
 | .clo _ _=>none
 | .arr _=>none
 | _=>some false
noncomputable def jg:Nat->D->D->Option Bool
 | 0,_,_=>none
 | n+1,d,e=>match d with
  | .tup xs=>match e with|.tup ys=>yh (jg n) xs ys|_=>od e
  | .lst xs=>match e with|.lst ys=>yh (jg n) xs ys|_=>od e
  | .non=>match e with|.non=>some true|_=>od e
  | .bl a=>match e with|.bl b=>some (a == b)|.int b=>some ((if a then 1 else 0) == b)|_=>od e
  | .int a=>match e with|.bl b=>some (a == (if b then 1 else 0))|.int b=>some (a == b)|_=>od e
  | .str a=>match e with|.str b=>some (a == b)|_=>od e
  | _=>none
mutual
noncomputable def Sh(h:Heap):D->Value->Prop
 | .non,u=>u = .none
 | .bl b,u=>u = .bool b
 | .int i,u=>∃t,u = .int i t
 | .str x,u=>∃t,u = .str (strOf x) t
 | .tup xs,u=>∃a its,u = .ref a/\IsTup h a its.toArray/\Ji h xs its
 | .lst xs,u=>∃a its,u = .ref a/\PlainL h a its.toArray/\Ji h xs its
 | .arr xs,u=>∃a its,u = .ref a/\PlainL h a its.toArray/\Ji h xs its
 | .dct _,u=>∃a o,u = .ref a/\h.get? a=some o/\o.ExactDict
 | .Bl _,u=>∃a o,u = .ref a/\h.get? a=some o/\o.ExactDict
 | .clo _ _,u=>∃a,u = .ref a
noncomputable def Ji(h:Heap):List D->List Value->Prop
 | [],us=>us=[]
 | d::ds,us=>∃u r,us=u::r/\Sh h d u/\Ji h ds r
end
theorem Ji.length:∀{ds} {us},Ji h ds us->us.length=ds.length
 | [],_,e=>by cases e;rfl
 | d::ds,us,e=>by obtain⟨u,r,rfl,_,h2⟩:=e;rw[Qq3,Qq3,h2.length]
section
variable{X:Cx}{pins:List (Addr×Obj)}{σ:L2.St}{H:Hp}{s:Shared}
mutual
theorem Rep.sh(I:Inv X pins σ H s):∀(d:D) (v:V) (u:Value),Rep X.K H d v->RelV v u->Sh s.heap d u
 | .non,_,_,h,r=>by cases h;exact r
 | .bl _,_,_,h,r=>by cases h;exact r
 | .int _,_,_,h,r=>by cases h;exact r
 | .str _,_,_,h,r=>by obtain⟨h,_⟩:=h;cases h;exact r
 | .tup xs,v,u,h,r=>by
  obtain⟨z,a,vs,rfl,h1,h2⟩:=h;cases r;obtain⟨its,rv,p,_⟩:=I.tuple h1;exact⟨a,its,rfl,p,cu.sh I xs vs its h2 rv⟩
 | .lst xs,v,u,h,r=>by
  obtain⟨z,a,vs,rfl,h1,h2⟩:=h;cases r;obtain⟨its,rv,p,_⟩:=I.list (jR.of h1);exact⟨a,its,rfl,p,cu.sh I xs vs its h2 rv⟩
 | .arr xs,v,u,h,r=>by
  obtain⟨z,a,vs,rfl,h1,h2⟩:=h;cases r;obtain⟨its,rv,p,_⟩:=I.list h1;exact⟨a,its,rfl,p,cu.sh I xs vs its h2 rv⟩
 | .dct kvs,v,u,h,r=>by
  obtain⟨z,a,ks,rfl,h1,h2⟩:=h;cases r;obtain⟨_,_,vs,_,o,_,_,e,ex,_⟩:=h1.ok I.hok;exact⟨a,o,rfl,e,ex⟩
 | .Bl kvs,v,u,h,r=>by
  obtain⟨z,a,ks,rfl,h1,h2⟩:=h;cases r;obtain⟨_,_,vs,_,o,_,_,e,ex,_⟩:=h1.ok I.hok;exact⟨a,o,rfl,e,ex⟩
 | .clo st ds,v,u,h,r=>by
  obtain⟨a,vs,rfl,h1,h2⟩:=h;cases r;exact⟨a,rfl⟩
theorem cu.sh(I:Inv X pins σ H s):∀(ds:List D) (vs:List V) (us:List Value),cu X.K H ds vs->Vals vs us->Ji s.heap ds us
 | [],_,_,h,r=>by cases h;cases r;exact rfl
 | d::ds,vs,us,h,r=>by
  obtain⟨v,rr,rfl,h1,h2⟩:=h;cases r with
  | cons q qs=>exact⟨_,_,rfl,Rep.sh I d v _ h1 q,cu.sh I ds rr _ h2 qs⟩
end
end
theorem Tp(p:IsTup h a xs)(q:IsTup h a ys):xs=ys:=by
 obtain⟨o,e,_,n,d⟩:=p;obtain⟨o',e',_,n',d'⟩:=q
 simp_all
theorem Uj(p:PlainL h a xs)(q:PlainL h a ys):xs=ys:=by
 obtain⟨o,e,_,n,d⟩:=p.isList;obtain⟨o',e',_,n',d'⟩:=q.isList
 simp_all
theorem Az(p:IsTup h a xs)(q:PlainL h a ys):False:=by
 obtain⟨o,e,c,n,d⟩:=p;obtain⟨o',e',c',n',d'⟩:=q.isList
 simp_all
theorem Oz:∀n d e u b,Sh h d u->Sh h e u->jg n d e=some b->b=true
 | 0,_,_,_,_,_,_,hb=>by simp[jg,od] at hb
 | n+1,d,e,u,b,hd,he,hb=>by
  have all:∀xs ys us b,Ji h xs us->Ji h ys us->yh (jg n) xs ys=some b->b=true:=by
   intro xs
   induction xs with
   | nil=>
    intro ys us b h1 h2 hb;cases h1;cases ys with
    | nil=>simp[yh] at hb;exact hb
    | cons y ys=>obtain⟨u,r,q,_⟩:=h2;cases q
   | cons x xs ih=>
    intro ys us b h1 h2 hb;obtain⟨u,r,rfl,h3,h4⟩:=h1;cases ys with
    | nil=>cases h2
    | cons y ys=>
     obtain⟨u',r',q,h5,h6⟩:=h2;cases q;unfold yh at hb;cases q1:jg n x y with
     | none=>simp_all
     | some c=>
      cases q2:yh (jg n) xs ys with
      | none=>simp_all
      | some c'=>
       rw[q1,q2] at hb;have e1:=Oz n x y u c h3 h5 q1
       grind
  cases d with
  | non=>cases hd;cases e<;>simp[Sh] at he;simp[jg,od] at hb;exact hb
  | bl c=>cases hd;cases e<;>simp[Sh] at he;subst he;simp[jg,od] at hb;exact hb
  | int i=>obtain⟨t,rfl⟩:=hd;cases e<;>simp[Sh] at he;subst he;simp[jg,od] at hb;exact hb
  | str x=>
   obtain⟨t,rfl⟩:=hd;cases e with
   | str y=>
    obtain⟨t',q⟩:=he;injection q with q1 _
    unfold strOf at q1;injection q1 with q2
    have q3:=Qx7 Array.toList q2;simp at q3;subst q3;simp[jg,od] at hb;exact hb
   | _=>simp[Sh] at he
  | tup xs=>
   obtain⟨a,its,rfl,p,hs⟩:=hd;cases e with
   | tup ys=>
    obtain⟨a',its',q,p',hs'⟩:=he;cases q;have e2:its=its':=by simpa using Tp p p'
    subst e2;exact all xs ys its b hs hs' (by assumption)
   | lst ys=>
    obtain⟨a',its',q,p',hs'⟩:=he;cases q;exact(Az p p').elim
   | dct kvs=>simp[jg,od] at hb
   | Bl kvs=>simp[jg,od] at hb
   | clo _ _=>simp[jg,od] at hb
   | arr kvs=>simp[jg,od] at hb
   | _=>simp[Sh] at he
  | lst xs=>
   obtain⟨a,its,rfl,p,hs⟩:=hd;cases e with
   | lst ys=>
    obtain⟨a',its',q,p',hs'⟩:=he;cases q;have e2:its=its':=by simpa using Uj p p'
    subst e2;exact all xs ys its b hs hs' (by assumption)
   | tup ys=>
    obtain⟨a',its',q,p',hs'⟩:=he;cases q;exact(Az p' p).elim
   | dct kvs=>simp[jg,od] at hb
   | Bl kvs=>simp[jg,od] at hb
   | clo _ _=>simp[jg,od] at hb
   | arr kvs=>simp[jg,od] at hb
   | _=>simp[Sh] at he
  | dct kvs=>cases e<;>simp[jg,od] at hb
  | Bl kvs=>cases e<;>simp[jg,od] at hb
  | clo _ _=>cases e<;>simp[jg,od] at hb
  | arr kvs=>cases e<;>simp[jg,od] at hb
theorem U0:∀n d d' e u b b',Sh h d u->Sh h d' u->jg n d e=some b->jg n d' e=some b'->b=b'
 | 0,_,_,_,_,_,_,_,_,hb,_=>by simp[jg,od] at hb
 | n+1,d,d',e,u,b,b',hd,hd',hb,hb'=>by
  have all:∀xs xs' ys us b b',Ji h xs us->Ji h xs' us->yh (jg n) xs ys=some b->yh (jg n) xs' ys=some b'->b=b':=by
   intro xs
   induction xs with
   | nil=>
    intro xs' ys us b b' h1 h2 hb hb';cases h1;cases xs' with
    | nil=>simp_all
    | cons y ys=>obtain⟨u,r,q,_⟩:=h2;cases q
   | cons x xs ih=>
    intro xs' ys us b b' h1 h2 hb hb';obtain⟨u,r,rfl,h3,h4⟩:=h1;cases xs' with
    | nil=>cases h2
    | cons x' xs'=>
     obtain⟨u',r',q,h5,h6⟩:=h2;cases q;cases ys with
     | nil=>simp[yh] at hb hb';rw[hb,hb']
     | cons y ys=>
      unfold yh at hb hb';cases q1:jg n x y with
      | none=>simp_all
      | some c=>
       cases q2:yh (jg n) xs ys with
       | none=>simp_all
       | some c2=>
        cases q3:jg n x' y with
        | none=>simp_all
        | some c3=>
         cases q4:yh (jg n) xs' ys with
         | none=>simp_all
         | some c4=>
          rw[q1,q2] at hb;rw[q3,q4] at hb';have e1:=U0 n x x' y u c c3 h3 h5 q1 q3
          grind
  cases d with
  | non=>cases hd;cases d'<;>simp[Sh] at hd';rw[hb] at hb';exact Qw6 hb'
  | bl c=>cases hd;cases d'<;>simp[Sh] at hd';subst hd';rw[hb] at hb';exact Qw6 hb'
  | int i=>obtain⟨t,rfl⟩:=hd;cases d'<;>simp[Sh] at hd';subst hd';rw[hb] at hb';exact Qw6 hb'
  | str x=>
   obtain⟨t,rfl⟩:=hd;cases d' with
   | str y=>
    obtain⟨t',q⟩:=hd';injection q with q1 _
    unfold strOf at q1
    simp_all
   | _=>simp[Sh] at hd'
  | tup xs=>
   obtain⟨a,its,rfl,p,hs⟩:=hd;cases d' with
   | tup xs'=>
    obtain⟨a',its',q,p',hs'⟩:=hd';cases q;have e2:its=its':=by simpa using Tp p p'
    subst e2;cases e with
    | tup ys=>exact all xs xs' ys its b b' hs hs' (by assumption) (by assumption)
    | _=>first|(simp[jg,od] at hb;done)|(simp only[jg,od,Qjv] at hb hb';rw[<-hb,<-hb'])
   | lst ys=>
    obtain⟨a',its',q,p',hs'⟩:=hd';cases q;exact(Az p p').elim
   | dct kvs=>cases e<;>simp[jg,od] at hb'
   | Bl kvs=>cases e<;>simp[jg,od] at hb'
   | clo _ _=>cases e<;>simp[jg,od] at hb'
   | arr kvs=>cases e<;>simp[jg,od] at hb'
   | _=>simp[Sh] at hd'
  | lst xs=>
   obtain⟨a,its,rfl,p,hs⟩:=hd;cases d' with
   | lst xs'=>
    obtain⟨a',its',q,p',hs'⟩:=hd';cases q;have e2:its=its':=by simpa using Uj p p'
    subst e2;cases e with
    | lst ys=>exact all xs xs' ys its b b' hs hs' (by assumption) (by assumption)
    | _=>first|(simp[jg,od] at hb;done)|(simp only[jg,od,Qjv] at hb hb';rw[<-hb,<-hb'])
   | tup ys=>
    obtain⟨a',its',q,p',hs'⟩:=hd';cases q;exact(Az p' p).elim
   | dct kvs=>cases e<;>simp[jg,od] at hb'
   | Bl kvs=>cases e<;>simp[jg,od] at hb'
   | clo _ _=>cases e<;>simp[jg,od] at hb'
   | arr kvs=>cases e<;>simp[jg,od] at hb'
   | _=>simp[Sh] at hd'
  | dct kvs=>cases e<;>simp[jg,od] at hb
  | Bl kvs=>cases e<;>simp[jg,od] at hb
  | clo _ _=>cases e<;>simp[jg,od] at hb
  | arr kvs=>cases e<;>simp[jg,od] at hb
theorem yq(x y):(strOf x == strOf y)=(x == y):=by
 rw[Qz5];simp[beq_iff_eq];constructor
 ·intro e;unfold strOf at e
  simp_all
 simp_all
theorem U3:∀{f} {xs ys},xs.length≠ys.length->∀b,yh f xs ys=some b->b=false
 | f,[],[],h,b,e=>absurd rfl h
 | f,[],_::_,_,b,e=>by simp[yh] at e;exact e
 | f,_::_,[],_,b,e=>by simp[yh] at e;exact e
 | f,x::xs,y::ys,h,b,e=>by
  unfold yh at e;cases h1:f x y with
  | none=>simp_all
  | some c=>
   cases h2:yh f xs ys with
   | none=>simp_all
   | some d=>
    rw[h1,h2] at e;have:=U3 (by simpa using h) d h2
    simp_all
theorem Sx:∀{f} xs ys b,yh f xs ys=some b->∃e,(∀j x y,xs[j]? = some x->ys[j]? = some y->f x y=some (e j))/\b=((List.range (min xs.length ys.length)).all e&&xs.length == ys.length)
 | f,[],ys,b,h=>by
  refine⟨λ_=>true,λj x y hx=>by simp at hx,?_⟩;cases ys with
  | nil=>simp[yh] at h;simp[h.symm]
  | cons y ys=>simp[yh] at h;simp[h.symm]
 | f,x::xs,[],b,h=>by
  refine⟨λ_=>true,λj x y _ hy=>by simp at hy,?_⟩;simp[yh] at h;simp[h.symm]
 | f,x::xs,y::ys,b,h=>by
  unfold yh at h;cases h1:f x y with
  | none=>simp_all
  | some c=>
   cases h2:yh f xs ys with
   | none=>simp_all
   | some d=>
    rw[h1,h2] at h;obtain⟨e,he,hd⟩:=Sx xs ys d h2;refine⟨λj=>match j with|0=>c|j+1=>e j,λj x' y' hx hy=>?_,?_⟩
    ·grind
    ·have hb:b=(c&&d):=by simp_all
     have hm:min (x::xs).length (y::ys).length=min xs.length ys.length+1:=by simp_all
     rw[hb,hd,hm,List.range_succ_eq_map,List.all_cons,List.all_map,Bool.and_assoc]
     grind
theorem Ba:∀{ds} {us} {j:Nat} {u},Ji h ds us->us[j]? = some u->∃d,ds[j]? = some d/\Sh h d u
 | [],_,_,_,e,g=>by cases e;simp at g
 | d::ds,us,j,u,e,g=>by
  obtain⟨v,r,rfl,h1,h2⟩:=e;cases j with
  | zero=>simp_all
  | succ j=>obtain⟨c,e1,e2⟩:=Ba h2 (by simpa using g);exact⟨c,by simpa using e1,e2⟩
theorem xH{f:Nat->Bool}(H:∀x y u v b,Sh s.heap x u->Sh s.heap y v->jg n x y=some b->SeqAt.EqAt A s u v b)(hs:Ji s.heap xs its)(hs':Ji s.heap ys its')(hf:∀j x y,xs[j]? = some x->ys[j]? = some y->jg n x y=some (f j))
  (j) (h1:j<its.toArray.size) (h2:j<its'.toArray.size):SeqAt.EqAt A s its.toArray[j] its'.toArray[j] (f j):=by
 have g1:its[j]? = some its.toArray[j]:=by simp_all
 have g2:its'[j]? = some its'.toArray[j]:=by simp_all
 obtain⟨x,q1,q2⟩:=Ba hs g1;obtain⟨y,q3,q4⟩:=Ba hs' g2
 grind
theorem Jr(H:∀x y u v b,Sh s.heap x u->Sh s.heap y v->jg n x y=some b->SeqAt.EqAt A.in1 s u v b)(p:IsTup s.heap a its.toArray)(p':IsTup s.heap a' its'.toArray)(hs:Ji s.heap xs its)(hs':Ji s.heap ys its')(h:yh (jg n) xs ys=some b)(hu0:A.units<cLine):SeqAt.RcAt A s (.ref a) (.ref a') b/\SeqAt.RcNeAt A s (.ref a) (.ref a') (!b):=by
 obtain⟨f,hf,hb⟩:=Sx xs ys b h;have l1:=hs.length;have l2:=hs'.length;have k1:=SeqAt.RcAt.tuples p p' hu0<|xH H hs hs' hf;have k2:=SeqAt.RcNeAt.tuples p p' hu0<|xH H hs hs' hf
 simp_all
theorem Kv(H:∀x y u v b,Sh s.heap x u->Sh s.heap y v->jg n x y=some b->SeqAt.EqAt A.in1 s u v b)(p:PlainL s.heap a its.toArray)(p':PlainL s.heap a' its'.toArray)(hs:Ji s.heap xs its)(hs':Ji s.heap ys its')(h:yh (jg n) xs ys=some b)(hu0:A.units<cLine):SeqAt.RcAt A s (.ref a) (.ref a') b/\SeqAt.RcNeAt A s (.ref a) (.ref a') (!b):=by
 have l1:=hs.length;have l2:=hs'.length;by_cases hl:xs.length=ys.length
 ·obtain⟨f,hf,hb⟩:=Sx xs ys b h;have k1:=SeqAt.RcAt.lists p.isList p'.isList (by simp_all) hu0<|xH H hs hs' hf;have k2:=SeqAt.RcNeAt.lists p.isList p'.isList (by simp_all) hu0<|xH H hs hs' hf
  simp_all
 ·have:=U3 hl b h;subst this;have hz:(its.toArray.size != its'.toArray.size)=true:=by simp_all
  exact⟨SeqAt.RcAt.lists_lengths p.isList p'.isList hz hu0,SeqAt.RcNeAt.lists_lengths p.isList p'.isList hz hu0⟩
theorem Sw:∀n d e u v b A s,Sh s.heap d u->Sh s.heap e v->jg n d e=some b->A.units+n<cLine->SeqAt.EqAt A s u v b:=by
 intro n
 induction n with
 | zero=>intro _ _ _ _ _ _ _ _ _ h;simp[jg,od] at h
 | succ n ih=>
  intro d e u v b A s hd he h hu;have hu0:A.units<cLine:=by omega
  have hin:A.in1.units+n<cLine:=by grind
  have H:=λx y u v b q1 q2 q3=>ih x y u v b A.in1 s q1 q2 q3 hin;have same:∀a,u = .ref a->v = .ref a->SeqAt.EqAt A s u v b:=λa e1 e2=>by
   subst e1 e2;rw[Oz _ _ _ _ b hd he h];exact SeqAt.EqAt.same _
  cases d<;>cases e
  case non.non=>cases hd;cases he;simp[jg,od] at h;subst h;exact SeqAt.EqAt.same _
  case tup.tup=>
   have h0:=same;obtain⟨a,r,rfl,p,hs⟩:=hd;obtain⟨a',r',rfl,p',hs'⟩:=he;by_cases haa:a=a'
   ·simp_all
   ·exact SeqAt.EqAt.of_refs haa (Jr H p p' hs hs' h hu0).1
  case lst.lst=>
   have h0:=same;obtain⟨a,r,rfl,p,hs⟩:=hd;obtain⟨a',r',rfl,p',hs'⟩:=he;by_cases haa:a=a'
   ·simp_all
   ·exact SeqAt.EqAt.of_refs haa (Kv H p p' hs hs' h hu0).1
  clear same
  all_goals first|(simp[jg,od] at h;done)|skip
  all_goals
   first|obtain⟨t,rfl⟩:=hd|obtain⟨a,r,rfl,p,hs⟩:=hd|cases hd
   first|obtain⟨t',rfl⟩:=he|obtain⟨a',r',rfl,p',hs'⟩:=he|cases he
   simp[jg,od,Qjv] at h;subst h
  exact SeqAt.EqAt.none_bool _;exact SeqAt.EqAt.none_int _ _;exact SeqAt.EqAt.none_str _ _;exact SeqAt.EqAt.none_tuple p' hu0;exact SeqAt.EqAt.none_list p'.isList hu0;exact SeqAt.EqAt.bool_none _;exact SeqAt.EqAt.bool_bool _ _;exact SeqAt.EqAt.bool_int _ _ _;exact SeqAt.EqAt.bool_str _ _ _;exact SeqAt.EqAt.bool_tuple _ p' hu0;exact SeqAt.EqAt.bool_list _ p'.isList hu0;exact SeqAt.EqAt.int_none _ _;exact SeqAt.EqAt.int_bool _ _ _;exact SeqAt.EqAt.int_int _ _ _ _;exact SeqAt.EqAt.int_str _ _ _ _;exact SeqAt.EqAt.int_tuple _ _ p' hu0;exact SeqAt.EqAt.int_list _ _ p'.isList hu0;exact SeqAt.EqAt.str_none _ _;exact SeqAt.EqAt.str_bool _ _ _;exact SeqAt.EqAt.str_int _ _ _ _;rw[<-yq];exact SeqAt.EqAt.str_str _ _ _ _;exact SeqAt.EqAt.str_tuple _ _ p' hu0;exact SeqAt.EqAt.str_list _ _ p'.isList hu0;exact SeqAt.EqAt.tuple_none p hu0;exact SeqAt.EqAt.tuple_bool _ p hu0;exact SeqAt.EqAt.tuple_int _ _ p hu0;exact SeqAt.EqAt.tuple_str _ _ p hu0;exact SeqAt.EqAt.tuple_list p p'.isList hu0;exact SeqAt.EqAt.list_none p.isList hu0;exact SeqAt.EqAt.list_bool _ p.isList hu0;exact SeqAt.EqAt.list_int _ _ p.isList hu0;exact SeqAt.EqAt.list_str _ _ p.isList hu0;exact SeqAt.EqAt.list_tuple p.isList p' hu0
theorem alf(n)(d e)(u v)(b)(A)(s)(hd:Sh s.heap d u)(he:Sh s.heap e v)(h:jg (n+1) d e=some b)(hu:A.units+(n+1)<cLine):SeqAt.RcAt A s u v b:=by
 have hu0:A.units<cLine:=by omega
 have hin:A.in1.units+n<cLine:=by show A.units+1+n<cLine;omega
 have H:=λx y u v b q1 q2 q3=>Sw n x y u v b A.in1 s q1 q2 q3 hin;cases d<;>cases e
 case tup.tup=>
  obtain⟨a,r,rfl,p,hs⟩:=hd;obtain⟨a',r',rfl,p',hs'⟩:=he;exact(Jr H p p' hs hs' h hu0).1
 case lst.lst=>
  obtain⟨a,r,rfl,p,hs⟩:=hd;obtain⟨a',r',rfl,p',hs'⟩:=he;exact(Kv H p p' hs hs' h hu0).1
 all_goals first|(simp[jg,od] at h;done)|skip
 all_goals
  first|obtain⟨t,rfl⟩:=hd|obtain⟨a,r,rfl,p,hs⟩:=hd|cases hd
  first|obtain⟨t',rfl⟩:=he|obtain⟨a',r',rfl,p',hs'⟩:=he|cases he
  simp[jg,od,Qjv] at h;subst h
 exact SeqAt.RcAt.none_none;exact SeqAt.RcAt.none_bool _;exact SeqAt.RcAt.none_int _ _;exact SeqAt.RcAt.none_str _ _;exact SeqAt.RcAt.none_tuple p' hu0;exact SeqAt.RcAt.none_list p'.isList hu0;exact SeqAt.RcAt.bool_none _;exact SeqAt.RcAt.bool_bool _ _;exact SeqAt.RcAt.bool_int _ _ _;exact SeqAt.RcAt.bool_str _ _ _;exact SeqAt.RcAt.bool_tuple _ p' hu0;exact SeqAt.RcAt.bool_list _ p'.isList hu0;exact SeqAt.RcAt.int_none _ _;exact SeqAt.RcAt.int_bool _ _ _;exact SeqAt.RcAt.int_int _ _ _ _;exact SeqAt.RcAt.int_str _ _ _ _;exact SeqAt.RcAt.int_tuple _ _ p' hu0;exact SeqAt.RcAt.int_list _ _ p'.isList hu0;exact SeqAt.RcAt.str_none _ _;exact SeqAt.RcAt.str_bool _ _ _;exact SeqAt.RcAt.str_int _ _ _ _;rw[<-yq];exact SeqAt.RcAt.str_str _ _ _ _;exact SeqAt.RcAt.str_tuple _ _ p' hu0;exact SeqAt.RcAt.str_list _ _ p'.isList hu0;exact SeqAt.RcAt.tuple_none p hu0;exact SeqAt.RcAt.tuple_bool _ p hu0;exact SeqAt.RcAt.tuple_int _ _ p hu0;exact SeqAt.RcAt.tuple_str _ _ p hu0;exact SeqAt.RcAt.tuple_list p p'.isList hu0;exact SeqAt.RcAt.list_none p.isList hu0;exact SeqAt.RcAt.list_bool _ p.isList hu0;exact SeqAt.RcAt.list_int _ _ p.isList hu0;exact SeqAt.RcAt.list_str _ _ p.isList hu0;exact SeqAt.RcAt.list_tuple p.isList p' hu0
theorem acZ(n)(d e)(u v)(b)(A)(s)(hd:Sh s.heap d u)(he:Sh s.heap e v)(h:jg (n+1) d e=some b)(hu:A.units+(n+1)<cLine):SeqAt.RcNeAt A s u v (!b):=by
 have hu0:A.units<cLine:=by omega
 have hin:A.in1.units+n<cLine:=by show A.units+1+n<cLine;omega
 have H:=λx y u v b q1 q2 q3=>Sw n x y u v b A.in1 s q1 q2 q3 hin;cases d<;>cases e
 case tup.tup=>
  obtain⟨a,r,rfl,p,hs⟩:=hd;obtain⟨a',r',rfl,p',hs'⟩:=he;exact(Jr H p p' hs hs' h hu0).2
 case lst.lst=>
  obtain⟨a,r,rfl,p,hs⟩:=hd;obtain⟨a',r',rfl,p',hs'⟩:=he;exact(Kv H p p' hs hs' h hu0).2
 all_goals first|(simp[jg,od] at h;done)|skip
 all_goals
  first|obtain⟨t,rfl⟩:=hd|obtain⟨a,r,rfl,p,hs⟩:=hd|cases hd
  first|obtain⟨t',rfl⟩:=he|obtain⟨a',r',rfl,p',hs'⟩:=he|cases he
  simp[jg,od,Qjv] at h;subst h
 exact SeqAt.RcNeAt.none_none;exact SeqAt.RcNeAt.none_bool _;exact SeqAt.RcNeAt.none_int _ _;exact SeqAt.RcNeAt.none_str _ _;exact SeqAt.RcNeAt.none_tuple p' hu0;exact SeqAt.RcNeAt.none_list p'.isList hu0;exact SeqAt.RcNeAt.bool_none _;exact SeqAt.RcNeAt.bool_bool _ _;exact SeqAt.RcNeAt.bool_int _ _ _;exact SeqAt.RcNeAt.bool_str _ _ _;exact SeqAt.RcNeAt.bool_tuple _ p' hu0;exact SeqAt.RcNeAt.bool_list _ p'.isList hu0;exact SeqAt.RcNeAt.int_none _ _;exact SeqAt.RcNeAt.int_bool _ _ _;exact SeqAt.RcNeAt.int_int _ _ _ _;exact SeqAt.RcNeAt.int_str _ _ _ _;exact SeqAt.RcNeAt.int_tuple _ _ p' hu0;exact SeqAt.RcNeAt.int_list _ _ p'.isList hu0;exact SeqAt.RcNeAt.str_none _ _;exact SeqAt.RcNeAt.str_bool _ _ _;exact SeqAt.RcNeAt.str_int _ _ _ _;rw[<-yq];exact SeqAt.RcNeAt.str_str _ _ _ _;exact SeqAt.RcNeAt.str_tuple _ _ p' hu0;exact SeqAt.RcNeAt.str_list _ _ p'.isList hu0;exact SeqAt.RcNeAt.tuple_none p hu0;exact SeqAt.RcNeAt.tuple_bool _ p hu0;exact SeqAt.RcNeAt.tuple_int _ _ p hu0;exact SeqAt.RcNeAt.tuple_str _ _ p hu0;exact SeqAt.RcNeAt.tuple_list p p'.isList hu0;exact SeqAt.RcNeAt.list_none p.isList hu0;exact SeqAt.RcNeAt.list_bool _ p.isList hu0;exact SeqAt.RcNeAt.list_int _ _ p.isList hu0;exact SeqAt.RcNeAt.list_str _ _ p.isList hu0;exact SeqAt.RcNeAt.list_tuple p.isList p' hu0
section
variable{X:Cx}{C:Cfg}
def als(K:Fg):R2:=λx y H Q=>∃dx dy b,Rep K H dx x/\Rep K H dy y/\jg 60 dx dy=some b/\Q (.bl b) H
def alj(K:Fg):R2:=λx y H Q=>∃dx dy b,Rep K H dx x/\Rep K H dy y/\jg 60 dx dy=some b/\Q (.bl (!b)) H
theorem ahE(hu:X.A.units+60<cLine):o9 X (compareOp .Eq) (als X.K):=by intro pins s σ H x y v u Q I rx ry h;obtain⟨dx,dy,b,h1,h2,h3,q⟩:=h;exact alf 59 dx dy v u b X.A s (Rep.sh I dx x v h1 rx) (Rep.sh I dy y u h2 ry) h3 hu X.prog X.w X.xe _ ⟨.bl b,H,I,rfl,q⟩
theorem ahx(hu:X.A.units+60<cLine):o9 X (compareOp .NotEq) (alj X.K):=by intro pins s σ H x y v u Q I rx ry h;obtain⟨dx,dy,b,h1,h2,h3,q⟩:=h;exact acZ 59 dx dy v u b X.A s (Rep.sh I dx x v h1 rx) (Rep.sh I dy y u h2 ry) h3 hu X.prog X.w X.xe _ ⟨.bl<|!b,H,I,rfl,q⟩
def jT(x y:D):Option D:=(jg 60 x y).map .bl
def tQ(x y:D):Option D:=(jg 60 x y).map λb=>.bl (!b)
theorem alW:rA C (als C.K) jT:=by
 intro Pr F env σ H x y d vx vy Q r hx hy h q;unfold jT at h;cases e:jg 60 x y with
 | none=>simp_all
 | some b=>
  rw[e] at h;cases h;exact⟨x,y,b,hx.rep r.fr,hy.rep r.fr,e,q _ H F r (aY.refl F) rfl⟩
theorem alQ:rA C (alj C.K) tQ:=by
 intro Pr F env σ H x y d vx vy Q r hx hy h q;unfold tQ at h;cases e:jg 60 x y with
 | none=>simp_all
 | some b=>
  rw[e] at h;cases h;exact⟨x,y,b,hx.rep r.fr,hy.rep r.fr,e,q _ H F r (aY.refl F) rfl⟩
noncomputable def Dr(x:D):List D->Option Bool
 | []=>some false
 | y::ys=>match jg 59 y x,Dr x ys with
  | some a,some b=>some (a||b)
  | _,_=>none
theorem Ur(x):∀ys b,Dr x ys=some b->(∀y∈ys,∃c,jg 59 y x=some c)/\(b=true ↔ ∃y∈ys,jg 59 y x=some true)
 | [],b,h=>by simp[Dr] at h;subst h;simp
 | y::ys,b,h=>by
  unfold Dr at h;cases h1:jg 59 y x with
  | none=>simp_all
  | some c=>
   cases h2:Dr x ys with
   | none=>simp_all
   | some d=>
    rw[h1,h2] at h;obtain⟨i1,i2⟩:=Ur x ys d h2
    grind
open Classical in
noncomputable def Gj(h:Heap)(x:D)(u:Value):Bool:=decide (∃y,Sh h y u/\jg 59 y x=some true)
open Classical in
theorem Lg(hy:Sh h y u)(e:jg 59 y x=some c):Gj h x u=c:=by
 unfold Gj;cases c with
 | true=>exact Qw8 ⟨y,hy,e⟩
 | false=>
  refine Qw2 ?_;rintro⟨z,hz,e'⟩;have:=U0 59 z y x u true false hz hy e' e;cases this
theorem zp(hx:Sh s.heap x v)(hs:Ji s.heap ys us)(h:Dr x ys=some b)(hu:A.units+59<cLine) :
  (∀w,w∈us.toArray->SeqAt.EqAt A s w v (Gj s.heap x w))/\us.toArray.any (Gj s.heap x)=b:=by
 obtain⟨h1,h2⟩:=Ur x ys b h;have item:∀w∈us,∃y∈ys,Sh s.heap y w:=λw hw=>by
  obtain⟨j,hj,e⟩:=List.mem_iff_getElem.mp hw;obtain⟨d,e1,e2⟩:=Ba hs (show us[j]? = some w by rw[Qqy hj,e]);exact⟨d,List.mem_of_getElem? e1,e2⟩
 have back:∀{ys} {us},Ji s.heap ys us->∀y∈ys,∃w∈us,Sh s.heap y w:=by
  intro ys
  induction ys with
  | nil=>intro us _ y hy;cases hy
  | cons z zs ih=>
   intro us hs y hy;obtain⟨w,r,rfl,g1,g2⟩:=hs;rcases Qwq.mp hy with rfl|hy
   ·exact⟨w,Qq5,g1⟩
   ·obtain⟨w',m,g⟩:=ih g2 y hy;exact⟨w',Qq0 _ m,g⟩
 refine⟨λw hw=>?_,?_⟩
 ·obtain⟨y,hy,sy⟩:=item w (by simpa using hw);obtain⟨c,hc⟩:=h1 y hy;rw[Lg sy hc];exact Sw 59 y x w v c A s sy hx hc hu
 ·rw[List.any_toArray,Qz5,h2,List.any_eq_true];constructor
  ·rintro⟨w,hw,e⟩;obtain⟨y,hy,sy⟩:=item w hw;obtain⟨c,hc⟩:=h1 y hy;rw[Lg sy hc] at e;subst e;exact⟨y,hy,hc⟩
  ·rintro⟨y,hy,e⟩;obtain⟨w,hw,sy⟩:=back hs y hy;exact⟨w,hw,Lg sy e⟩
noncomputable def Mr:D->Option (List D)
 | .tup xs=>some xs
 | .lst xs=>some xs
 | .arr xs=>some xs
 | _=>none
def V6(K:Fg)(neg:Bool):R2:=λx y H Q=>∃dx dy ys b,Rep K H dx x/\Rep K H dy y/\Mr dy=some ys/\Dr dx ys=some b/\Q (.bl (if neg then !b else b)) H
theorem ahC(hu:X.A.units+61<cLine):o9 X (compareOp .In) (V6 X.K false):=by
 intro pins s σ H x y v u Q I rx ry h;obtain⟨dx,dy,ys,b,h1,h2,h3,h4,q⟩:=h;have hx:=Rep.sh I dx x v h1 rx;have hy:=Rep.sh I dy y u h2 ry;have hin:X.A.in1.units+59<cLine:=by grind
 cases dy with
 | tup zs=>
  cases h3;obtain⟨a,its,rfl,p,hs⟩:=hy;obtain⟨g1,g2⟩:=zp hx hs h4 hin;refine SeqAt.in_tupleAt (Gj s.heap dx) p g1 ⟨.bl _,H,I,rfl,?_⟩
  simp_all
 | lst zs=>
  cases h3;obtain⟨a,its,rfl,p,hs⟩:=hy;obtain⟨g1,g2⟩:=zp hx hs h4 hin;refine SeqAt.in_listAt (Gj s.heap dx) p.isList g1 ⟨.bl _,H,I,rfl,?_⟩
  simp_all
 | arr zs=>
  cases h3;obtain⟨a,its,rfl,p,hs⟩:=hy;obtain⟨g1,g2⟩:=zp hx hs h4 hin;refine SeqAt.in_listAt (Gj s.heap dx) p.isList g1 ⟨.bl _,H,I,rfl,?_⟩
  simp_all
 | _=>cases h3
theorem Wk(hu:X.A.units+61<cLine):o9 X (compareOp .NotIn) (V6 X.K true):=by
 intro pins s σ H x y v u Q I rx ry h;obtain⟨dx,dy,ys,b,h1,h2,h3,h4,q⟩:=h;have hx:=Rep.sh I dx x v h1 rx;have hy:=Rep.sh I dy y u h2 ry;have hin:X.A.in1.units+59<cLine:=by grind
 cases dy with
 | tup zs=>
  cases h3;obtain⟨a,its,rfl,p,hs⟩:=hy;obtain⟨g1,g2⟩:=zp hx hs h4 hin;refine SeqAt.notIn_tupleAt (Gj s.heap dx) p g1 ⟨.bl _,H,I,rfl,?_⟩
  simp_all
 | lst zs=>
  cases h3;obtain⟨a,its,rfl,p,hs⟩:=hy;obtain⟨g1,g2⟩:=zp hx hs h4 hin;refine SeqAt.notIn_listAt (Gj s.heap dx) p.isList g1 ⟨.bl _,H,I,rfl,?_⟩
  simp_all
 | arr zs=>
  cases h3;obtain⟨a,its,rfl,p,hs⟩:=hy;obtain⟨g1,g2⟩:=zp hx hs h4 hin;refine SeqAt.notIn_listAt (Gj s.heap dx) p.isList g1 ⟨.bl _,H,I,rfl,?_⟩
  simp_all
 | _=>cases h3
end
theorem rA.or(h:rA C r g)(h':rA C r' g'):rA C (λx y H Q=>r x y H Q\/r' x y H Q) (λx y=>(g x y).or (g' x y)):=by
 intro Pr F env σ H x y d vx vy Q rl hx hy e q;have e:(g x y).or (g' x y)=some d:=e;cases e1:g x y with
 | some c=>
  rw[e1] at e;cases e;exact .inl<|h Pr F env σ H x y d vx vy Q rl hx hy e1 q
 | none=>
  rw[e1] at e;exact .inr<|h' Pr F env σ H x y d vx vy Q rl hx hy e q
section
variable{X:Cx}{C:Cfg}
def R8(x y:D):Option D:=match Mr y with
 | some ys=>(Dr x ys).map .bl
 | none=>none
def Bg(x y:D):Option D:=match Mr y with
 | some ys=>(Dr x ys).map λb=>.bl (!b)
 | none=>none
theorem ahU:rA C (V6 C.K false) R8:=by
 intro Pr F env σ H x y d vx vy Q r hx hy h q;unfold R8 at h;cases e1:Mr y with
 | none=>simp_all
 | some ys=>
  rw[e1] at h;cases e:Dr x ys with
  | none=>simp_all
  | some b=>
   simp[e,Qj7] at h;cases h;exact⟨x,y,ys,b,hx.rep r.fr,hy.rep r.fr,e1,e,q _ H F r (aY.refl F) rfl⟩
theorem Ws:rA C (V6 C.K true) Bg:=by
 intro Pr F env σ H x y d vx vy Q r hx hy h q;unfold Bg at h;cases e1:Mr y with
 | none=>simp_all
 | some ys=>
  rw[e1] at h;cases e:Dr x ys with
  | none=>simp_all
  | some b=>
   simp[e,Qj7] at h;cases h;exact⟨x,y,ys,b,hx.rep r.fr,hy.rep r.fr,e1,e,q _ H F r (aY.refl F) rfl⟩
noncomputable def ajs(x y:D):Option D:=match x,y with
 | .str [c],.str z=>some (.bl (decide (c∈z)))
 | _,_=>none
noncomputable def KN(x y:D):Option D:=match x,y with
 | .str [c],.str z=>some (.bl (!decide (c∈z)))
 | _,_=>none
abbrev alq:R2:=λx y H Q=>∃i j,x = .str i/\y = .str j/\Q (.bl (!(Builtin.Str.occurrences j i 0 j.length 1).isEmpty)) H
abbrev TJ:R2:=λx y H Q=>∃i j,x = .str i/\y = .str j/\Q (.bl (!(!(Builtin.Str.occurrences j i 0 j.length 1).isEmpty))) H
theorem one_sign(c)(z):(!(Builtin.Str.occurrences (strOf z) (strOf [c]) 0 (strOf z).length 1).isEmpty)=decide (c∈z):=by
 have:=StrLaws.found_one (strOf z) c
 assumption
theorem ahT:rA C alq ajs:=by
 intro Pr F env σ H x y d vx vy Q r hx hy h q;unfold ajs at h;split at h
 ·rename_i c z;cases h;obtain⟨rfl,_⟩:=hx.str;obtain⟨rfl,_⟩:=hy.str;refine⟨_,_,rfl,rfl,?_⟩;rw[one_sign];exact q _ H F r (aY.refl F) rfl
 ·cases h
theorem Wr:rA C TJ KN:=by
 intro Pr F env σ H x y d vx vy Q r hx hy h q;unfold KN at h;split at h
 ·rename_i c z;cases h;obtain⟨rfl,_⟩:=hx.str;obtain⟨rfl,_⟩:=hy.str;refine⟨_,_,rfl,rfl,?_⟩;rw[one_sign];exact q _ H F r (aY.refl F) rfl
 ·cases h
def Ec(x y:D):Option D:=(R8 x y).or (ajs x y)
def rW(x y:D):Option D:=(Bg x y).or (KN x y)
abbrev alr(K:Fg):R2:=λx y H Q=>V6 K false x y H Q\/alq x y H Q
abbrev TQ(K:Fg):R2:=λx y H Q=>V6 K true x y H Q\/TJ x y H Q
theorem ahD(hu:X.A.units+61<cLine):o9 X (compareOp .In) (alr X.K):=(ahC hu).or Wo
theorem Wl(hu:X.A.units+61<cLine):o9 X (compareOp .NotIn) (TQ X.K):=(Wk hu).or Ka
theorem alU:rA C (alr C.K) Ec:=ahU.or ahT
theorem Z6:rA C (TQ C.K) rW:=Ws.or Wr
def isPlain(x:V):Prop:=x = .non\/∃b,x = .bl b
theorem ahB:o9 X (compareOp .Is) (λx y H Q=>isPlain y/\Q (.bl (decide (x=y))) H):=by
 intro pins s σ H x y v u Q I rx ry h;obtain⟨hp,q⟩:=h;rcases hp with rfl|⟨b,rfl⟩
 ·exact ahA pins s σ H x .non v u Q I rx ry ⟨rfl,q⟩
 ·cases ry;refine wpAny_is_plain ?_<|wI I q ?_
  ·cases x<;>first|(cases rx;rfl)|(obtain⟨t,rfl⟩:=rx;rfl)
  ·cases x with
   | bl c=>cases rx;cases b<;>cases c<;>rfl
   | _=>first|(cases rx;rfl)|(obtain⟨t,rfl⟩:=rx;rfl)
theorem Wn:o9 X (compareOp .IsNot) (λx y H Q=>isPlain y/\Q (.bl (!decide (x=y))) H):=by
 intro pins s σ H x y v u Q I rx ry h;obtain⟨hp,q⟩:=h;rcases hp with rfl|⟨b,rfl⟩
 ·exact adC pins s σ H x .non v u Q I rx ry ⟨rfl,q⟩
 ·cases ry;refine wpAny_isNot_plain ?_<|wI I q ?_
  ·cases x<;>first|(cases rx;rfl)|(obtain⟨t,rfl⟩:=rx;rfl)
  ·cases x with
   | bl c=>cases rx;cases b<;>cases c<;>rfl
   | _=>first|(cases rx;rfl)|(obtain⟨t,rfl⟩:=rx;rfl)
noncomputable def isD:D->D->Option Bool
 | .non,.non=>some true
 | .bl a,.bl b=>some (a == b)
 | _,.non=>some false
 | _,.bl _=>some false
 | _,_=>none
def gIs(x y:D):Option D:=(isD x y).map .bl
def uF(x y:D):Option D:=(isD x y).map λb=>.bl (!b)
theorem af1(hx:lq C.K F H x vx)(hy:lq C.K F H y vy)(h:isD x y=some b):isPlain vy/\decide (vx=vy)=b:=by
 have aoN:∀a,¬(V.ref a=V.non):=λa e=>by cases e
 cases y with
 | non=>
  obtain rfl:=hy.non;refine⟨.inl rfl,?_⟩;cases x with
  | non=>obtain rfl:=hx.non;simp[isD] at h;simp[h]
  | bl c=>obtain rfl:=hx.bl;simp[isD] at h;simp[h]
  | int i=>obtain rfl:=hx.int;simp[isD] at h;simp[h]
  | str z=>obtain⟨rfl,_⟩:=hx.str;simp[isD] at h;simp[h]
  | tup xs=>rcases hx with ⟨_,a,_,rfl,_⟩|⟨a,rfl,_⟩<;>(simp[isD] at h;simp[h])
  | lst xs=>rcases hx with ⟨_,a,_,rfl,_⟩|⟨a,rfl,_⟩<;>(simp[isD] at h;simp[h])
  | arr xs=>rcases hx with ⟨_,a,_,rfl,_⟩|⟨a,rfl,_⟩<;>(simp[isD] at h;simp[h])
  | dct xs=>rcases hx with ⟨_,a,_,rfl,_⟩|⟨a,rfl,_⟩<;>(simp[isD] at h;simp[h])
  | Bl xs=>rcases hx with ⟨_,a,_,rfl,_⟩|⟨a,rfl,_⟩<;>(simp[isD] at h;simp[h])
  | clo st xs=>rcases hx with ⟨a,_,rfl,_⟩|⟨a,rfl,_⟩<;>(simp[isD] at h;simp[h])
 | bl k=>
  obtain rfl:=hy.bl;refine⟨.inr ⟨k,rfl⟩,?_⟩;cases x with
  | non=>obtain rfl:=hx.non;simp[isD] at h;simp[h]
  | bl c=>obtain rfl:=hx.bl;simp[isD,Qjv] at h;rw[<-h,ajH]
  | int i=>obtain rfl:=hx.int;simp[isD] at h;simp[h]
  | str z=>obtain⟨rfl,_⟩:=hx.str;simp[isD] at h;simp[h]
  | tup xs=>rcases hx with ⟨_,a,_,rfl,_⟩|⟨a,rfl,_⟩<;>(simp[isD] at h;simp[h])
  | lst xs=>rcases hx with ⟨_,a,_,rfl,_⟩|⟨a,rfl,_⟩<;>(simp[isD] at h;simp[h])
  | arr xs=>rcases hx with ⟨_,a,_,rfl,_⟩|⟨a,rfl,_⟩<;>(simp[isD] at h;simp[h])
  | dct xs=>rcases hx with ⟨_,a,_,rfl,_⟩|⟨a,rfl,_⟩<;>(simp[isD] at h;simp[h])
  | Bl xs=>rcases hx with ⟨_,a,_,rfl,_⟩|⟨a,rfl,_⟩<;>(simp[isD] at h;simp[h])
  | clo st xs=>rcases hx with ⟨a,_,rfl,_⟩|⟨a,rfl,_⟩<;>(simp[isD] at h;simp[h])
 | _=>cases x<;>simp[isD] at h
theorem alT:rA C (λx y H Q=>isPlain y/\Q (.bl (decide (x=y))) H) gIs:=by
 intro Pr F env σ H x y d vx vy Q r hx hy h q;unfold gIs at h;cases e:isD x y with
 | none=>simp_all
 | some b=>
  rw[e] at h;cases h;obtain⟨h1,h2⟩:=af1 hx hy e;exact⟨h1,by rw[h2];exact q _ H F r (aY.refl F) rfl⟩
theorem Z7:rA C (λx y H Q=>isPlain y/\Q (.bl (!decide (x=y))) H) uF:=by
 intro Pr F env σ H x y d vx vy Q r hx hy h q;unfold uF at h;cases e:isD x y with
 | none=>simp_all
 | some b=>
  rw[e] at h;cases h;obtain⟨h1,h2⟩:=af1 hx hy e;exact⟨h1,by rw[h2];exact q _ H F r (aY.refl F) rfl⟩
noncomputable def gI(c:Int->Int->Bool)(f:Int->Int->D)(x y:D):Option D:=match x,y with
 | .int i,.int j=>if c i j=true then some (f i j) else none
 | _,_=>none
theorem Z9(hc:∀i j,c i j=true->Cd i j)(hf:∀i j F,Rep C.K F (f i j) (g i j)):rA C (rI Cd g) (gI c f):=by
 intro Pr F env σ H x y d vx vy Q r hx hy h q;unfold gI at h;split at h
 ·rename_i i j;split at h
  ·rename_i hcc;cases h;obtain rfl:=hx.int;obtain rfl:=hy.int;exact⟨i,j,rfl,rfl,hc i j hcc,q _ H F r (aY.refl F)<|hf i j F⟩
  ·cases h
 ·cases h
theorem Ng(hf:∀i j F,Rep C.K F (f i j) (g i j)):rA C (Qe g) (gI (λ_ _=>true) f):=by
 intro Pr F env σ H x y d vx vy Q r hx hy h q;unfold gI at h;split at h
 ·rename_i i j;rw[if_pos rfl] at h;cases h;obtain rfl:=hx.int;obtain rfl:=hy.int;exact⟨i,j,rfl,rfl,q _ H F r (aY.refl F)<|hf i j F⟩
 ·cases h
noncomputable def nW(i j:Int):Bool:=decide (Builtin.Int.intBits i+Builtin.Int.intBits j<=134217728)
theorem adD:o9 X (binaryOp .Mult) (rI (λi j=>nW i j=true) λi j=>.int (i*j)):=
 opI λi j _ _ _ _ _ hc q=>mul_int q<|mulOk_of_bits (Qqw _) (Qqw _)<|Qx9 hc
def wG:D->D->Option D:=gI nW λi j=>.int (i*j)
def qZ:D->D->Option D:=gI (λ_ _=>true) λi j=>.int (i - j)
def ajn:D->D->Option D:=gI (λ_ j=>decide (0<j)) λi j=>.int (i % j)
def R6:D->D->Option D:=gI (λi j=>decide (0<=j/\j<=1000000/\i.natAbs<2^64)) λi j=>.int (i^j.toNat)
def W7:D->D->Option D:=gI (λi j=>decide (0<=j/\j<=1000000/\i.natAbs<2^64)) λi j=>.int (i*2^j.toNat)
def Oj:D->D->Option D:=gI (λ_ j=>decide (0<=j)) λi j=>.int (i / 2^j.toNat)
def Om:D->D->Option D:=gI (λ_ _=>true) λi j=>.int (Builtin.bitAnd i j)
theorem ahP:rA C (rI (λi j=>nW i j=true) λi j=>.int (i*j)) wG:=Z9 (λ_ _ h=>h) λ_ _ _=>rfl
theorem ahL:rA C (Qe λi j=>.int (i - j)) qZ:=Ng λ_ _ _=>rfl
theorem ahQ:rA C (rI (λ_ j=>0<j) λi j=>.int (i % j)) ajn:=Z9 (λ_ _ h=>Qx9 h) λ_ _ _=>rfl
theorem ahO:rA C (rI afy λi j=>.int (i^j.toNat)) R6:=Z9 (λi j h=>(show 0<=j/\j<=1000000/\i.natAbs<2^64 from Qx9 h)) λ_ _ _=>rfl
theorem ahN:rA C (rI afy λi j=>.int (i*2^j.toNat)) W7:=Z9 (λi j h=>(show 0<=j/\j<=1000000/\i.natAbs<2^64 from Qx9 h)) λ_ _ _=>rfl
theorem ahM:rA C (rI (λ_ j=>0<=j) λi j=>.int (i / 2^j.toNat)) Oj:=Z9 (λ_ _ h=>Qx9 h) λ_ _ _=>rfl
theorem ahV:rA C (Qe λi j=>.int (Builtin.bitAnd i j)) Om:=Ng λ_ _ _=>rfl
abbrev alk:R2:=λx y H Q=>∃i j,x = .str i/\y = .str j/\Q (.bl (decide (i.cps.toList<j.cps.toList))) H
def amV:D->D->Option D:=gI (λ_ _=>true) λi j=>.bl (decide (i<j))
noncomputable def ajo(x y:D):Option D:=match x,y with
 | .str a,.str b=>some (.bl (decide (a<b)))
 | _,_=>none
def Qf(x y:D):Option D:=(amV x y).or (ajo x y)
def W9:D->D->Option D:=gI (λ_ _=>true) λi j=>.bl (decide (i<=j))
def gGt:D->D->Option D:=gI (λ_ _=>true) λi j=>.bl (decide (j<i))
def gGe:D->D->Option D:=gI (λ_ _=>true) λi j=>.bl (decide (j<=i))
theorem ahR:rA C alk ajo:=by
 intro Pr F env σ H x y d vx vy Q r hx hy h q;unfold ajo at h;split at h
 ·cases h;obtain⟨rfl,_⟩:=hx.str;obtain⟨rfl,_⟩:=hy.str;exact⟨_,_,rfl,rfl,q _ H F r (aY.refl F) (by rfl)⟩
 ·cases h
abbrev alm:R2:=λx y H Q=>Qe (λi j=>.bl (decide (i<j))) x y H Q\/alk x y H Q
theorem ahz:o9 X (compareOp .Lt) alm:=alI.or Wm
theorem ahS:rA C (Qe λi j=>.bl (decide (i<j))) amV:=Ng λ_ _ _=>rfl
theorem alR:rA C alm Qf:=ahS.or ahR
theorem alS:rA C (Qe λi j=>.bl (decide (i<=j))) W9:=Ng λ_ _ _=>rfl
theorem alV:rA C (Qe λi j=>.bl (decide (j<i))) gGt:=Ng λ_ _ _=>rfl
def Zc(K:Fg):R2:=λx y H Q=>∃a b ys,x = .ref a/\y = .ref b/\oH K H a []/\oH K H b ys/\Q (.ref b) H
theorem Z5:o9 X (binaryOp .Add) (Zc X.K):=by
 intro pins s σ H x y v u Q I rx ry h;obtain⟨a,b,ys,rfl,rfl,ha,hb,q⟩:=h;cases rx;cases ry;obtain⟨its,r1,p1,_⟩:=I.tuple ha;obtain⟨its2,r2,p2,_⟩:=I.tuple hb;cases r1;obtain⟨⟨cls,dd,data,sl⟩,ho,hc,n,hd⟩:=id p1;obtain⟨⟨cls2,dd2,data2,sl2⟩,ho2,hc2,n2,hd2⟩:=id p2;simp at hc hd hc2 hd2;subst hc hd hc2 hd2;exact concat_meets ⟨_,ho,rfl⟩ ⟨_,ho2,rfl⟩ noFill_tuple_add seq_tuple_add PySem.F.slot_tuple_add PySem.F.entry_tuple_add (PySem.F.args_tuple_add_2 _ _)
  (tuple_addW0 a b [].toArray its2.toArray n n2 dd dd2 sl sl2 (by simp)) ⟨ho,ho2,⟨.ref b,H,I,rfl,q⟩⟩
abbrev alv:R2:=λx y H Q=>∃i j,x = .str i/\y = .str j/\i.length+j.length<=sizeLine/\Q (.str (i++j)) H
abbrev alw(K:Fg):R2:=λx y H Q=>Qe (λi j=>.int (i+j)) x y H Q\/alv x y H Q\/alu x y H Q\/afI K x y H Q\/Zc K x y H Q
theorem adF:o9 X (binaryOp .Add) (alw X.K):=ahH.or<|Ru.or<|ahF.or<|adE.or Z5
noncomputable def cj(x y:D):Option D:=match x,y with
 | .int i,.int j=>some (.int (i+j))
 | .str a,.str b=>if a.length+b.length<=sizeLine then some (.str (a++b)) else none
 | .lst a,.lst b=>if a.length+b.length<=sizeLine then some (.lst (a++b)) else none
 | .tup a,.tup b=>if a.length+b.length<=sizeLine then some (.tup (a++b)) else none
 | _,_=>none
theorem JC(a b):strOf a++strOf b=strOf (a++b):=by show(⟨(strOf a).cps++(strOf b).cps⟩:Str)=_;unfold strOf;simp
theorem rC(a):(strOf a).length=a.length:=by rfl
theorem ahW:rA C (alw C.K) cj:=by
 intro Pr F env σ H x y d vx vy Q r hx hy h q;unfold cj at h;split at h
 ·cases h;obtain rfl:=hx.int;obtain rfl:=hy.int;exact .inl ⟨_,_,rfl,rfl,q _ H F r (aY.refl F) rfl⟩
 ·split at h
  ·rename_i hz;cases h;obtain⟨rfl,_⟩:=hx.str;obtain⟨rfl,_⟩:=hy.str;refine .inr<|.inl ⟨_,_,rfl,rfl,by assumption,?_⟩;rw[JC];exact q _ H F r (aY.refl F) ⟨rfl,by simp_all⟩
  ·cases h
 ·split at h
  ·rename_i hz;cases h;obtain⟨_,a,vs,rfl,h1,h2⟩:=hx.lst r.fr;obtain⟨_,b,ws,rfl,h3,h4⟩:=hy.lst r.fr;refine .inr<|.inr<|.inl ⟨a,b,vs,ws,rfl,rfl,h1,h3,by rw[h2.length,h4.length];exact hz,λp hp=>?_⟩;obtain⟨r2,s2⟩:=r.new hp;exact q _ _ _ r2 s2 ⟨by simp_all,p,_,rfl,bD,cu.mono s2 _ _<|h2.append h4⟩
  ·cases h
 ·split at h
  ·rename_i hz;cases h;obtain⟨z1,a,vs,rfl,h1,f1,h2⟩:=hx.tup r.fr;obtain⟨z2,b,ws,rfl,h3,f3,h4⟩:=hy.tup r.fr;by_cases hv:vs=[]
   ·subst hv;have e1:=h2.length.symm;have e2:=Qx8 e1;subst e2;refine .inr<|.inr<|.inr<|.inr ⟨a,b,ws,rfl,rfl,h1,h3,?_⟩;exact q _ H F r (aY.refl F) ⟨z2,b,ws,rfl,f3,h4⟩
   ·refine .inr<|.inr<|.inr<|.inl ⟨a,b,vs,ws,rfl,rfl,h1,h3,hv,by rw[h2.length,h4.length];exact hz,λhw=>?_,λhw p hp=>?_⟩
    ·subst hw;have e1:=h4.length.symm;have e2:=Qx8 e1;subst e2;rw[Qx5] at q;exact q _ H F r (aY.refl F) ⟨z1,a,vs,rfl,f1,h2⟩
    ·obtain⟨r2,s2⟩:=r.new hp;exact q _ _ _ r2 s2 ⟨by simp_all,p,_,rfl,oH.of bD,cu.mono s2 _ _<|h2.append h4⟩
  ·cases h
 ·cases h
def Qc(K:Fg)(F H:Hp):List D->List V->Prop
 | [],vs=>vs=[]
 | d::ds,vs=>∃v r,vs=v::r/\lq K F H d v/\Qc K F H ds r
inductive tAB (C:Cfg) (ev:dq) (σ:L2.St) (H:Hp) (Q:List L2.V->Hp->Prop):Prop
 | mk (Pr F:Hp) (env env':Env) (ds:List D) (_:Rel C Pr F env σ H) (_:ev env = .ok ds env') (_:∀vs H' F',Rel C Pr F' env' σ H'->aY F F'->Qc C.K F' H' ds vs->Q vs H'):tAB C ev σ H Q
def afu(X:Cx)(C:Cfg)(es:List Expr)(ev:dq):Prop:=PA X es (tAB C ev)
def CallD(C:Cfg)(r:List V->Hp->VK->Prop)(g:List D->Option D):Prop:=∀(Pr F:Hp) (env:Env) (σ:L2.St) (H:Hp) (ds:List D) (d:D) (vs:List V) (Q:VK),Rel C Pr F env σ H->Qc C.K F H ds vs->g ds=some d->
 (∀v H' F',Rel C Pr F' env σ H'->aY F F'->Rep C.K F' d v->Q v H')->r vs H Q
def ao(g:List D->Option D)(a:dq):Ev:=λenv=>bindR (a env) λds aJ=>fc (g ds) aJ
theorem U9(o:CallD C r g)(σ)(H)(Q)(h:tE C (ao g a) σ H Q):tCB r (tAB C a) σ H Q:=by obtain⟨Pr,F,env,env',d,rl,e,q⟩:=h;obtain⟨ds,aJ,e1,e2⟩:=aO e;obtain⟨e3,rfl⟩:=dz e2;exact⟨Pr,F,env,env',ds,rl,e1,λvs H1 F1 r1 s1 p1=>o Pr F1 env' σ H1 ds d vs Q r1 p1 e3 λv H2 F2 r2 s2 p2=>q v H2 F2 r2 (s1.trans s2) p2⟩
theorem uv{p pos:Pos}{id:String}(hc:kZ X (.builtin id) r)(o:CallD C r g)(hg:Gl X x)(hm:X.mg x=none)(hv:bootBuiltins x=some (.builtin id))(ha:afu X C (e::es) a)
  (hn:x ≠ "__name__":=by decide) (hdb:qi x:=by decide) (he:starEach (e::es) X.env=(false,eval e X.env)::starEach es X.env:=by rfl) (hpl:(backTo pos (starEach es X.env)).any (·.1)=false:=by rfl) :
  PX X C (.Call (.Name x p) (e::es) [] pos) (ao g a):=(Cw hc hg hm hv ha hn hdb he hpl).imp<|U9 o
theorem yX{p pos:Pos}(hc:kZ X (.type T) r)(o:CallD C r g)(hg:Gl X x)(hm:X.mg x=none)(hv:bootBuiltins x=some (.type T))(ha:afu X C (e::es) a)
  (hn:x ≠ "__name__":=by decide) (hdb:qi x:=by decide) (he:starEach (e::es) X.env=(false,eval e X.env)::starEach es X.env:=by rfl) (hpl:(backTo pos (starEach es X.env)).any (·.1)=false:=by rfl) :
  PX X C (.Call (.Name x p) (e::es) [] pos) (ao g a):=(yZ hc hg hm hv ha hn hdb he hpl).imp<|U9 o
theorem o5{K:Fg}(h:Qc K F H [d] vs):∃v,vs=[v]/\lq K F H d v:=by
 obtain⟨v,r,rfl,h1,h2⟩:=h;cases h2
 simp_all
theorem ajN{K:Fg}(h:Qc K F H [d,e] vs):∃v w,vs=[v,w]/\lq K F H d v/\lq K F H e w:=by obtain⟨v,r,rfl,h1,h2⟩:=h;obtain⟨w,rfl,h3⟩:=o5 h2;exact⟨v,w,rfl,h1,h3⟩
noncomputable def cN:List D->Option D
 | [.str x]=>some (.int x.length)
 | [.tup xs]=>some (.int xs.length)
 | [.lst xs]=>some (.int xs.length)
 | [.arr xs]=>some (.int xs.length)
 | _=>none
theorem ajK:CallD C (λxs H Q=>∃x n,xs=[x]/\anF C.K x H n/\Q (.int n) H) cN:=by
 intro Pr F env σ H ds d vs Q r hs h q;unfold cN at h;split at h
 ·cases h;obtain⟨v,rfl,hv⟩:=o5 hs;obtain⟨rfl,hz⟩:=hv.str;exact⟨_,_,rfl,⟨by assumption,(rC _).symm⟩,q _ H F r (aY.refl F) rfl⟩
 ·cases h;obtain⟨v,rfl,hv⟩:=o5 hs;obtain⟨_,a,ws,rfl,h1,_,h2⟩:=hv.tup r.fr;exact⟨_,_,rfl,.inr ⟨ws,h1,h2.length.symm⟩,q _ H F r (aY.refl F) rfl⟩
 ·cases h;obtain⟨v,rfl,hv⟩:=o5 hs;obtain⟨_,a,ws,rfl,h1,h2⟩:=hv.lst r.fr;exact⟨_,_,rfl,.inl ⟨ws,jR.of h1,h2.length.symm⟩,q _ H F r (aY.refl F) rfl⟩
 ·cases h;obtain⟨v,rfl,hv⟩:=o5 hs;obtain⟨_,a,ws,rfl,h1,h2⟩:=hv.arr r.fr;exact⟨_,_,rfl,.inl ⟨ws,h1,h2.length.symm⟩,q _ H F r (aY.refl F) rfl⟩
 ·cases h
noncomputable def d8:List D->Option D
 | [.tup xs]=>some (.tup xs)
 | [.lst xs]=>some (.tup xs)
 | _=>none
abbrev Y5(K:Fg):List V->Hp->VK->Prop:=λxs H Q=>∃p ys,xs=[.ref p]/\((jR K H p ys/\∀l,H l=none->Q (.ref l) (upd H l (.tup ys)))\/(oH K H p ys/\Q (.ref p) H))
theorem abA:CallD C (Y5 C.K) d8:=by
 intro Pr F env σ H ds d vs Q r hs h q;unfold d8 at h;split at h
 ·cases h;obtain⟨v,rfl,hv⟩:=o5 hs;obtain⟨z,a,ws,rfl,h1,f1,h2⟩:=hv.tup r.fr;exact⟨a,ws,rfl,.inr ⟨h1,q _ H F r (aY.refl F) ⟨z,a,ws,rfl,f1,h2⟩⟩⟩
 ·cases h;obtain⟨v,rfl,hv⟩:=o5 hs;obtain⟨z,a,ws,rfl,h1,h2⟩:=hv.lst r.fr;refine⟨a,ws,rfl,.inl ⟨jR.of h1,λl hl=>?_⟩⟩;obtain⟨r2,s2⟩:=r.new hl;exact q _ _ _ r2 s2 ⟨z,l,ws,rfl,oH.of bD,cu.mono s2 _ _ h2⟩
 ·cases h
noncomputable def signs(x:List Nat):List D:=x.map λc=>.str [c]
abbrev Y6:List V->Hp->VK->Prop:=λxs H Q=>∃z,xs=[.str z]/\z.length<=sizeLine/\∀l,H l=none->Q (.ref l) (upd H l (.lst (z.cps.toList.map λc=>V.str ⟨#[c]⟩)))
theorem S7(hh:X.calm=true):kZ X (.type "list") Y6:=by
 intro pins s σ H xs us Q I r h;obtain⟨z,rfl,hz,q⟩:=h;obtain⟨u,rfl,⟨t,rfl⟩⟩:=vals1 r;refine call_list_str (I.ok.hd hh) z t (λh' tk acc' c' kp e hacc=>?_) hz;refine⟨.ref s.heap.objs.size,_,I.laid kp (Qqw _)<|show iZ X.prog X.w _ h' _ (.lst<|z.cps.toList.map λc=>V.str ⟨#[c]⟩) from⟨?_,acc'.toList,c',?_,by simpa using e⟩,rfl,q _<|I.hok.fresh<|Qqw _⟩
 ·simpa[Str.length] using hz
 ·obtain⟨hsz,hit⟩:=hacc;have go:∀(cs:List Nat) vs,vs.length=cs.length->(∀(j:Nat) v,vs[j]? = some v->∃c u,cs[j]? = some c/\v=Value.str ⟨#[c]⟩ u)->Vals (cs.map λc=>V.str ⟨#[c]⟩) vs:=by
   intro cs
   induction cs with
   | nil=>intro vs hl _;rw[Qx8 hl];exact .nil
   | cons c cs ih=>
    intro vs hl hv;cases vs with
    | nil=>simp at hl
    | cons v vs=>
     obtain⟨c',u,e1,e2⟩:=hv 0 v rfl;simp at e1;subst e1 e2;exact .cons ⟨u,rfl⟩<|ih vs (by simp_all) λj w hw=>by simpa using hv (j+1) w (by simpa using hw)
  refine go _ _ (by simpa using hsz) λj v hv=>?_;obtain⟨c,u,e1,e2⟩:=hit j v (by simp_all)
  simp_all
def zW:List D->Option D
 | [.tup xs]=>some (.lst xs)
 | [.lst xs]=>some (.lst xs)
 | [.str x]=>some (.lst (signs x))
 | _=>none
abbrev Y8(K:Fg):List V->Hp->VK->Prop:=λxs H Q=>(∃p ys,xs=[.ref p]/\(jR K H p ys\/oH K H p ys)/\∀l,H l=none->Q (.ref l) (upd H l (.lst ys)))\/Y6 xs H Q
theorem S9(hh:X.calm=true):kZ X (.type "list") (Y8 X.K):=K7.or<|S7 hh
theorem Cr{K:Fg}:∀x,cu K F (signs x) (x.map λc=>V.str ⟨#[c]⟩)
 | []=>rfl
 | c::x=>⟨_,_,rfl,⟨rfl,by rw[sizeLine_eq];simp⟩,Cr x⟩
theorem aeZ:CallD C (Y8 C.K) zW:=by
 intro Pr F env σ H ds d vs Q r hs h q;unfold zW at h;split at h
 ·cases h;obtain⟨v,rfl,hv⟩:=o5 hs;obtain⟨z,a,ws,rfl,h1,f1,h2⟩:=hv.tup r.fr;refine .inl ⟨a,ws,rfl,.inr h1,λl hl=>?_⟩;obtain⟨r2,s2⟩:=r.new hl;exact q _ _ _ r2 s2 ⟨z,l,ws,rfl,bD,cu.mono s2 _ _ h2⟩
 ·cases h;obtain⟨v,rfl,hv⟩:=o5 hs;obtain⟨z,a,ws,rfl,h1,h2⟩:=hv.lst r.fr;refine .inl ⟨a,ws,rfl,.inl<|jR.of h1,λl hl=>?_⟩;obtain⟨r2,s2⟩:=r.new hl;exact q _ _ _ r2 s2 ⟨z,l,ws,rfl,bD,cu.mono s2 _ _ h2⟩
 ·rename_i x;cases h;obtain⟨v,rfl,hv⟩:=o5 hs;obtain⟨rfl,hz⟩:=hv.str;refine .inr ⟨_,rfl,by assumption,λl hl=>?_⟩;obtain⟨r2,s2⟩:=r.new hl;refine q _ _ _ r2 s2 ⟨by simpa[signs] using hz,l,_,rfl,bD,?_⟩;have e:(strOf x).cps.toList=x:=by rfl
  rw[e];exact Cr x
 ·cases h
noncomputable def xR:List D->Option D
 | [.int i,.int j]=>if 0<j/\j<1073741824 then some (.tup [.int (i / j),.int (i % j)]) else none
 | _=>none
theorem Xl:CallD C (λxs H Q=>∃i j,xs=[.int i,.int j]/\anL i j/\∀p,H p=none->Q (.ref p) (upd H p (.tup [.int (i / j),.int (i % j)]))) xR:=by
 intro Pr F env σ H ds d vs Q r hs h q;unfold xR at h;split at h
 ·split at h
  ·rename_i hj;cases h;obtain⟨v,w,rfl,hv,hw⟩:=ajN hs;obtain rfl:=hv.int;obtain rfl:=hw.int;refine⟨_,_,rfl,hj,λp hp=>?_⟩;obtain⟨r2,s2⟩:=r.new hp;exact q _ _ _ r2 s2 ⟨by rw[sizeLine_eq];simp,p,_,rfl,oH.of bD,⟨_,_,rfl,rfl,_,_,rfl,rfl,rfl⟩⟩
  ·cases h
 ·cases h
noncomputable def Vp:D->String
 | .non=>"NoneType"
 | .bl _=>"bool"
 | .int _=>"int"
 | .str _=>"str"
 | .tup _=>"tuple"
 | .lst _=>"list"
 | .arr _=>"list"
 | .dct _=>"dict"
 | .Bl _=>"dict"
 | .clo _ _=>"NoneType"
def jP(d:D)(T:String):Bool:=Vp d == T||(Vp d == "bool" && T == "int")
theorem ai2(Um:X.K.In s.heap)(nc:∀st ds,d ≠ .clo st ds)(h:Sh s.heap d u)(e:PySem.W.kitOne X.K (.type (Vp d)) c=some b)(q:∀tk,Q (.bool b) { s with toks:=tk }) :
  wpAny (model X.prog X.w) A (call (.builtin "isinstance") [u,c]) Q E s:=by
 cases d with
 | non=>cases h;exact PySem.W.kia_one PySem.W.kitx_none Um True.intro e (λz=>nomatch z) q
 | bl y=>cases h;exact PySem.W.kia_one PySem.W.kitx_bool Um True.intro e (λz=>nomatch z) q
 | int i=>obtain⟨t,rfl⟩:=h;exact PySem.W.kia_one PySem.W.kitx_int Um True.intro e (λz=>nomatch z) q
 | str y=>obtain⟨t,rfl⟩:=h;exact PySem.W.kia_one PySem.W.kitx_str Um True.intro e (λz=>nomatch z) q
 | tup xs=>
  obtain⟨a,its,rfl,p,_⟩:=h;obtain⟨o,h1,h2,_⟩:=p;exact PySem.W.kia_one PySem.W.kitx_tuple Um ⟨o,h1,h2⟩ e (λz=>nomatch z) q
 | lst xs=>
  obtain⟨a,its,rfl,p,_⟩:=h;obtain⟨o,h1,h2,_⟩:=p.isList;exact PySem.W.kia_one PySem.W.kitx_list Um ⟨o,h1,h2⟩ e (λz=>nomatch z) q
 | arr xs=>
  obtain⟨a,its,rfl,p,_⟩:=h;obtain⟨o,h1,h2,_⟩:=p.isList;exact PySem.W.kia_one PySem.W.kitx_list Um ⟨o,h1,h2⟩ e (λz=>nomatch z) q
 | dct kvs=>
  obtain⟨a,o,rfl,h1,h2⟩:=h;exact PySem.W.kia_one PySem.W.kitx_dict Um ⟨o,h1,h2.1⟩ e (λz=>nomatch z) q
 | Bl kvs=>
  obtain⟨a,o,rfl,h1,h2⟩:=h;exact PySem.W.kia_one PySem.W.kitx_dict Um ⟨o,h1,h2.1⟩ e (λz=>nomatch z) q
 | clo st ds=>simp_all
def jd(T:String)(d:D):Option D:=match d with
 | .clo _ _=>none
 | _=>some (.bl (jP d T))
theorem aex(h:jd T d=some e):(∀st ds,d ≠ .clo st ds)/\e = .bl (jP d T):=by cases d<;>simp[jd] at h<;>simp_all
theorem abD(hk:∀d,PySem.W.kitOne X.K (.type (Vp d)) (.type T)=some (jP d T)) :
  kZ X (.builtin "isinstance") (λxs H Q=>∃d x,xs=[x,.ty T]/\(∀st ds,d ≠ .clo st ds)/\Rep X.K H d x/\Q (.bl (jP d T)) H):=by
 intro pins s σ H xs us Q I r h;obtain⟨d,x,rfl,nc,hr,q⟩:=h;obtain⟨u,w,rfl,r1,r2⟩:=vals2 r;cases r2;exact ai2 I.WR nc (Rep.sh I d x u hr r1) (hk d) λtk=>⟨.bl _,H,I.tok tk,rfl,q⟩
noncomputable def mZ:List D->Option (List Bool)
 | []=>some []
 | .bl b::r=>(mZ r).map (b :: ·)
 | _=>none
theorem xu{K:Fg}:∀{ds} {bs} {vs},mZ ds=some bs->cu K F ds vs->vs=bs.map V.bl
 | [],bs,vs,h,hr=>by simp[mZ] at h;subst h;cases hr;rfl
 | d::ds,bs,vs,h,hr=>by
  obtain⟨v,r,rfl,h1,h2⟩:=hr;cases d with
  | bl b=>
   simp only[mZ] at h;cases e:mZ ds with
   | none=>simp_all
   | some cs=>
    rw[e] at h;cases h;cases h1;rw[xu e h2]
    rfl
  | _=>simp[mZ] at h
theorem wQ:∀{bs:List Bool} {us},Vals (bs.map V.bl) us->us=bs.map Value.bool
 | [],_,.nil=>rfl
 | b::bs,_,.cons r t=>by
  cases r;rw[wQ t]
  rfl
theorem Gk(bs:List Bool):(List.range bs.length).all (λi=>bs.getD i true)=bs.all id:=by
 induction bs with
 | nil=>rfl
 | cons b bs ih=>
  rw[Qq3,List.range_succ_eq_map,List.all_cons,List.all_map,List.all_cons];simp[List.getD_cons_zero,id]
  congr 1
theorem Gi(bs:List Bool):(List.range bs.length).any (λi=>bs.getD i true)=bs.any id:=by
 induction bs with
 | nil=>rfl
 | cons b bs ih=>
  rw[Qq3,List.range_succ_eq_map,List.any_cons,List.any_map,List.any_cons];simp[List.getD_cons_zero,id]
  congr 1
theorem Xp(hc:X.calm=true):kZ X (.builtin "all") (λxs H Q=>∃(p:Addr) (bs:List Bool),xs=[.ref p]/\jR X.K H p (bs.map V.bl)/\Q (.bl (bs.all id)) H):=by
 intro pins s σ H xs us Q I r h;obtain⟨p,bs,rfl,hq,q⟩:=h;obtain⟨u,rfl,rx⟩:=vals1 r;cases rx;obtain⟨its,rv,pl,_⟩:=I.list hq;have e:=wQ rv;subst e;refine call_all_walk<|Qjy pl.isList ?_;have hlt:p<s.heap.objs.size:=by obtain⟨o,e,_⟩:=pl.isList;exact Qqv e
 refine⟨s.heap.objs.size,_,_,_,_,_,λi=>bs.getD i true,rfl,Walks.list (show X.A.in1.handled=none from I.ok.hd hc) s.heap.objs.size p (Qwv hlt) (bs.map Value.bool).toArray,⟨⟨_,Qq2 _ rfl,rfl,rfl⟩,by obtain⟨o,e,rr⟩:=pl.isList;exact⟨o,Qqq _ e,rr⟩⟩,?_,λh' tk hk=>?_⟩
 ·intro i v s' Q' E' hv hq';have hv:=hv;rw[List.getElem?_toArray,Qw1] at hv;cases hb:bs[i]? with
  | none=>simp_all
  | some b=>
   rw[hb] at hv;cases hv;refine Qx1 ?_
   simp_all
 ·have I1:Inv X pins σ H { s with heap:=h',toks:=tk }:=I.kept λb o e=>hk b o (by simp;exact Qwv<|Qqv e)<|Qqq _ e;refine⟨.bl _,H,I1,rfl,?_⟩;have e2:(bs.map Value.bool).toArray.size=bs.length:=by simp
  rw[e2,Gk];exact q
theorem Xo(hc:X.calm=true):kZ X (.builtin "any") (λxs H Q=>∃(p:Addr) (bs:List Bool),xs=[.ref p]/\jR X.K H p (bs.map V.bl)/\Q (.bl (bs.any id)) H):=by
 intro pins s σ H xs us Q I r h;obtain⟨p,bs,rfl,hq,q⟩:=h;obtain⟨u,rfl,rx⟩:=vals1 r;cases rx;obtain⟨its,rv,pl,_⟩:=I.list hq;have e:=wQ rv;subst e;refine call_any_walk<|Qjy pl.isList ?_;have hlt:p<s.heap.objs.size:=by obtain⟨o,e,_⟩:=pl.isList;exact Qqv e
 refine⟨s.heap.objs.size,_,_,_,_,_,λi=>bs.getD i true,rfl,Walks.list (show X.A.in1.handled=none from I.ok.hd hc) s.heap.objs.size p (Qwv hlt) (bs.map Value.bool).toArray,⟨⟨_,Qq2 _ rfl,rfl,rfl⟩,by obtain⟨o,e,rr⟩:=pl.isList;exact⟨o,Qqq _ e,rr⟩⟩,?_,λh' tk hk=>?_⟩
 ·intro i v s' Q' E' hv hq';have hv:=hv;rw[List.getElem?_toArray,Qw1] at hv;cases hb:bs[i]? with
  | none=>simp_all
  | some b=>
   rw[hb] at hv;cases hv;refine Qx1 ?_
   simp_all
 ·have I1:Inv X pins σ H { s with heap:=h',toks:=tk }:=I.kept λb o e=>hk b o (by simp;exact Qwv<|Qqv e)<|Qqq _ e;refine⟨.bl _,H,I1,rfl,?_⟩;have e2:(bs.map Value.bool).toArray.size=bs.length:=by simp
  rw[e2,Gi];exact q
def o4:List D->Option D
 | [.lst ds]=>(mZ ds).map λbs=>.bl (bs.all id)
 | _=>none
def R9:List D->Option D
 | [.lst ds]=>(mZ ds).map λbs=>.bl (bs.any id)
 | _=>none
theorem ajM:CallD C (λxs H Q=>∃(p:Addr) (bs:List Bool),xs=[.ref p]/\jR C.K H p (bs.map V.bl)/\Q (.bl (bs.all id)) H) o4:=by
 intro Pr F env σ H ds d vs Q r hs h q;unfold o4 at h;split at h
 ·rename_i es;cases e:mZ es with
  | none=>simp_all
  | some bs=>
   rw[e] at h;cases h;obtain⟨v,rfl,hv⟩:=o5 hs;obtain⟨z,a,ws,rfl,h1,h2⟩:=hv.lst r.fr;have e2:=xu e h2;subst e2;exact⟨a,bs,rfl,jR.of h1,q _ H F r (aY.refl F) rfl⟩
 ·cases h
theorem ajL:CallD C (λxs H Q=>∃(p:Addr) (bs:List Bool),xs=[.ref p]/\jR C.K H p (bs.map V.bl)/\Q (.bl (bs.any id)) H) R9:=by
 intro Pr F env σ H ds d vs Q r hs h q;unfold R9 at h;split at h
 ·rename_i es;cases e:mZ es with
  | none=>simp_all
  | some bs=>
   rw[e] at h;cases h;obtain⟨v,rfl,hv⟩:=o5 hs;obtain⟨z,a,ws,rfl,h1,h2⟩:=hv.lst r.fr;have e2:=xu e h2;subst e2;exact⟨a,bs,rfl,jR.of h1,q _ H F r (aY.refl F) rfl⟩
 ·cases h
noncomputable def jM:List D->Option (List (List Nat))
 | []=>some []
 | .str x::r=>(jM r).map (x :: ·)
 | _=>none
noncomputable def zT(sep:List Nat):List (List Nat)->List Nat
 | []=>[]
 | x::r=>r.foldl (λacc y=>acc++sep++y) x
theorem aaQ(sep)(xs):Txt.join (strOf sep) (xs.map strOf)=strOf (zT sep xs):=by
 unfold Txt.join;unfold Builtin.Str.glued;cases xs with
 | nil=>rfl
 | cons x r=>
  show⟨(r.map strOf).foldl (λacc p=>acc++(strOf sep).cps++p.cps) (strOf x).cps⟩=strOf (r.foldl (λacc y=>acc++sep++y) x);have go:∀(r:List (List Nat)) x,(r.map strOf).foldl (λacc p=>acc++(strOf sep).cps++p.cps) (strOf x).cps=(strOf<|r.foldl (λacc y=>acc++sep++y) x).cps:=by
   intro r
   induction r with
   | nil=>intro x;rfl
   | cons y r ih=>
    intro x;rw[Qq4,Qjw,Qjw];rw[<-ih (x++sep++y)]
    congr 1
    simp[strOf]
  rw[go]
theorem yV{K:Fg}:∀{ds} {xs} {vs},jM ds=some xs->cu K F ds vs->vs=xs.map λx=>V.str (strOf x)
 | [],bs,vs,h,hr=>by simp[jM] at h;subst h;cases hr;rfl
 | d::ds,bs,vs,h,hr=>by
  obtain⟨v,r,rfl,h1,h2⟩:=hr;cases d with
  | str b=>
   simp only[jM] at h;cases e:jM ds with
   | none=>simp_all
   | some cs=>
    rw[e] at h;cases h;cases h1.1;rw[yV e h2]
    rfl
  | _=>simp[jM] at h
theorem yl:∀{xs:List (List Nat)} {us},Vals (xs.map λx=>V.str (strOf x)) us->StrsAre us (xs.map strOf)
 | [],_,.nil=>.nil
 | x::xs,_,.cons r t=>by
  obtain⟨k,rfl⟩:=r;exact .cons _ k<|yl t
noncomputable def joinFits(sep:List Nat)(xs:List (List Nat)):Bool:=decide ((xs.map List.length).sum+xs.length*sep.length<=16777216)
def rJoin(K:Fg):V->List V->Hp->VK->Prop:=λx vs H Q=>∃sep xs p,x = .str (strOf sep)/\vs=[.ref p]/\jR K H p (xs.map λx=>V.str (strOf x))/\joinFits sep xs=true/\Q (.str (strOf (zT sep xs))) H
theorem adM:MtR X "str.join" (rJoin X.K):=by
 intro pins s σ H x vs v us Q I rx rv h;obtain⟨sep,xs,p,rfl,rfl,hq,hf,q⟩:=h;obtain⟨t,rfl⟩:=rx;obtain⟨u,rfl,ru⟩:=vals1 rv;cases ru;obtain⟨its,r,pl,_⟩:=I.list hq;have hs:=yl r;refine join_list pl.isList (by simpa using hs) ?_ λt' k=>?_
 ·have hf':=Qx9 hf;have e:((xs.map strOf).map (·.length))=xs.map List.length:=by
   rw[Qxj]
   rfl
  rw[e,rC,Qqz];exact hf'
 ·rw[aaQ];exact⟨.str _,H,I.tok k,⟨t',rfl⟩,q⟩
theorem Mh(sep):∀(r:List (List Nat)) x,(r.foldl (λacc y=>acc++sep++y) x).length=x.length+(r.map List.length).sum+r.length*sep.length
 | [],x=>by simp
 | y::r,x=>by
  rw[Qjw,Mh sep r,Qq1,Qq1,Qq4,List.sum_cons,Qq3,Nat.add_mul];omega
theorem aaR(h:joinFits sep xs=true):(zT sep xs).length<=sizeLine:=by
 have h':=Qx9 h;rw[sizeLine_eq];cases xs with
 | nil=>simp[zT]
 | cons x r=>
  show(r.foldl (λacc y=>acc++sep++y) x).length<=_;rw[Mh];rw[Qq4,List.sum_cons,Qq3,Nat.add_mul] at h';omega
def qj(x y:D):Option D:=match x,y with
 | .str sep,.lst ds=>(match jM ds with
  | some xs=>if joinFits sep xs=true then some (.str (zT sep xs)) else none
  | none=>none)
 | _,_=>none
theorem adf{apos cpos:Pos}(hK:X.K=C.K)(ho:PX X C o a)(he:PXB X C e b)(hbase:attributeBase o "join" X.env (eval o X.env)=eval o X.env:=by rfl)
  (hs:Qd e X.env:=by rfl)
  (hfew:((backTo cpos (starEach [e] X.env)).all (λx=>!x.1)&&(backToKw cpos (keywordEach [] X.env)).all (λx=>x.1.isSome)
   && decide ([e].length+([]:List Keyword).length+(if ([]:List Keyword).isEmpty then 0 else 1)<30))=true:=by rfl)
  (hline:(apos.endLine == cpos.line)=true:=by rfl) (hplain:(backTo cpos (starEach [] X.env)).any (·.1)=false:=by rfl) :
  PX X C (.Call (.Attribute o "join" apos) [e] [] cpos) (aL qj a b):=by
 refine(T8 PySem.F.plainAttrs_str PySem.F.slot_str_join PySem.F.type_str_join adM ho (j8 he qG hs) hbase hfew hline hs hplain).imp λσ H Q h=>?_;obtain⟨Pr,F,env,env',d,rl,e0,q⟩:=h;obtain⟨x,aJ,e1,e2⟩:=aO e0;obtain⟨y,dB,e3,e4⟩:=aO e2;obtain⟨e5,rfl⟩:=dz e4;unfold qj at e5;split at e5
 ·rename_i sep ds;split at e5
  ·rename_i xs hxs;split at e5
   ·rename_i hf;cases e5;refine⟨Pr,F,env,aJ,_,rl,e1,λvx H1 F1 r1 s1 p1=>?_⟩;obtain⟨rfl,_⟩:=p1;refine⟨rfl,Pr,F1,aJ,env',_,r1,e3,λvy H2 F2 r2 s2 p2=>?_⟩;obtain⟨z,l,ws,rfl,h1,h2⟩:=p2.lst r2.fr;have e6:=yV hxs h2;subst e6;exact⟨sep,xs,l,rfl,rfl,jR.of h1,hf,q _ H2 F2 r2 (s1.trans s2) ⟨rfl,aaR hf⟩⟩
   ·cases e5
  ·cases e5
 ·cases e5
end
theorem Rel.put(r:Rel C Pr F env σ H)(hfx:C.fx i=none)(p:Rep C.K F d v):Rel C Pr F (env.set i (some (false,d))) (σ.set i (some v)) H:=by
 refine⟨r.pr,r.fr,by rw[Qz3,Qz3];exact r.len,λj e he=>?_,λj e he=>?_,λj k e f b hj hk g1 g2=>?_,r.dj,λj a hj=>?_⟩
 ·by_cases hji:j=i
  ·subst hji;have hl:j<env.length:=by
    grind
   rw[Qx2 hl] at he;cases he;exact⟨v,Qx2 (by rw[<-r.len];exact hl),p⟩
  ·rw[Qwx (Ne.symm hji)] at he ⊢;exact r.val j e he
 ·by_cases hji:j=i
  ·grind
  ·rw[Qwx (Ne.symm hji)] at he ⊢;exact r.own j e he
 ·have nn:∀j e,(env.set i<|some (false,d))[j]? = some (some (true,e))->j≠i:=λj e he z=>by
   grind
  have nj:=nn j e hj;have nk:=nn k f hk;rw[Qwx (Ne.symm nj)] at hj g1;rw[Qwx (Ne.symm nk)] at hk g2;exact r.apart j k e f b hj hk g1 g2
 ·have hji:j≠i:=λz=>by simp_all
  rw[Qwx (Ne.symm hji)];exact r.fix j a hj
structure New(K:Fg)(Pr F:Hp)(env:Env)(σ:L2.St)(H:Hp)(d:D)(a:Addr):Prop where
 own:oJ K F H d a
 nF:F a=none
 nP:Pr a=none
 ap:∀(j:Nat) (e:D),env[j]? = some (some (true,e))->σ[j]? = some (some (V.ref a))->False
theorem New.of(r:Rel C Pr F env σ H)(h:H a=none)(ho:oJ C.K F (upd H a o) d a):New C.K Pr F env σ (upd H a o) d a:=
 ⟨ho,r.fr.free h,r.pr.free h,λj e he hs=>by
  obtain⟨b,h1,h2,_⟩:=r.own j e he;rw[hs] at h1;cases h1;obtain⟨u,hu⟩:=h2.some
  simp_all⟩
theorem Rel.Rn(r:Rel C Pr F env σ H)(hfx:C.fx i=none)(n:New C.K Pr F env σ H d a):Rel C Pr F (env.set i (some (true,d))) (σ.set i (some (.ref a))) H:=by
 have same:∀j x,(env.set i<|some (true,d))[j]? = some (some x)->j=i->x=(true,d)/\j<env.length:=λj x he z=>by
  subst z;have hl:j<env.length:=by
   have:=(Qwz.mp he).1
   rwa [Qz3] at this
  rw[Qx2 hl] at he;cases he;exact⟨rfl,hl⟩
 refine⟨r.pr,r.fr,by rw[Qz3,Qz3];exact r.len,λj e he=>?_,λj e he=>?_,λj k e f b hj hk g1 g2=>?_,r.dj,λj a hj=>?_⟩
 ·by_cases hji:j=i
  ·have:=(same j _ he hji).1;cases this
  ·rw[Qwx (Ne.symm hji)] at he ⊢;exact r.val j e he
 ·by_cases hji:j=i
  ·obtain⟨z,hl⟩:=same j _ he hji;cases z;subst hji;exact⟨a,Qx2 (by rw[<-r.len];exact hl),n.own,n.nF,n.nP⟩
  ·rw[Qwx (Ne.symm hji)] at he ⊢;exact r.own j e he
 ·by_cases nj:j=i
  ·by_cases nk:k=i
   ·rw[nj,nk]
   ·obtain⟨z,hl⟩:=same j _ hj nj;subst nj;rw[Qx2 (by rw[<-r.len];exact hl)] at g1;cases g1;rw[Qwx (Ne.symm nk)] at hk g2;exact(n.ap k f hk g2).elim
  ·rw[Qwx (Ne.symm nj)] at hj g1;by_cases nk:k=i
   ·obtain⟨z,hl⟩:=same k _ hk nk;subst nk;rw[Qx2 (by rw[<-r.len];exact hl)] at g2;cases g2;exact(n.ap j e hj g1).elim
   ·rw[Qwx (Ne.symm nk)] at hk g2;exact r.apart j k e f b hj hk g1 g2
 ·have hji:j≠i:=λz=>by rw[z,hfx] at hj;cases hj
  rw[Qwx (Ne.symm hji)];exact r.fix j a hj
theorem Rel.keep(r:Rel C Pr F env σ H)(n:New C.K Pr F env σ H d a):∃F',Rel C Pr F' env σ H/\aY F F'/\Rep C.K F' d (.ref a):=by
 obtain⟨o,ho⟩:=n.own.some;have s1:aY F (upd F a o):=mz n.nF;have rep:Rep C.K (upd F a o) d (.ref a):=by
  have h2:=n.own;cases d with
  | lst xs=>obtain⟨z,vs,g1,g2⟩:=h2;rw[ho] at g1;cases g1;exact⟨z,a,vs,rfl,bD,cu.mono s1 _ _ g2⟩
  | dct kvs=>obtain⟨z,ks,g1,g2⟩:=h2;rw[ho] at g1;cases g1;exact⟨z,a,ks,rfl,.inl bD,fL.mono s1 _ _ g2⟩
  | Bl kvs=>obtain⟨z,ks,g1,g2⟩:=h2;rw[ho] at g1;cases g1;exact⟨z,a,ks,rfl,.inl bD,tK.mono s1 _ _ g2⟩
  | _=>exact h2.elim
 refine⟨upd F a o,⟨r.pr,λb u e=>?_,r.len,λj e he=>?_,λj e he=>?_,r.apart,λb u e=>?_,r.fix⟩,s1,rep⟩
 ·by_cases hb:b=a
  ·subst hb;rw[bD] at e;cases e;exact ho
  ·rw[cz hb] at e;exact r.fr b u e
 ·obtain⟨v,g1,g2⟩:=r.val j e he;exact⟨v,g1,Rep.mono s1 e v g2⟩
 ·obtain⟨b,g1,g2,g3,g4⟩:=r.own j e he;have hb:b≠a:=λz=>by subst z;exact n.ap j e he g1
  exact⟨b,g1,g2.mono s1 rfl,by rw[cz hb];exact g3,g4⟩
 ·by_cases hb:b=a
  ·subst hb;exact n.nP
  ·rw[cz hb] at e;exact r.dj b u e
theorem Rel.write(r:Rel C Pr F env σ H)(h:env[i]? = some (some (true,d)))(hs:σ[i]? = some (some (V.ref a)))(ho:oJ C.K F (upd H a u) d' a) :
  Rel C Pr F (env.set i (some (true,d'))) σ (upd H a u):=by
 obtain⟨a',h1,h2,h3,h4⟩:=r.own i d h;rw[hs] at h1;cases h1;have hi:=(Qwz.mp h).1;have ne:∀j e b,j≠i->env[j]? = some (some (true,e))->σ[j]? = some (some<|V.ref b)->b≠a:=λj e b hj he g z=>hj<|r.apart j i e d a he h (by simp_all) hs;refine⟨λb w e=>?_,λb w e=>?_,by rw[Qz3];exact r.len,λj e he=>?_,λj e he=>?_,λj k e f b hj hk g1 g2=>?_,r.dj,r.fix⟩
 ·have hb:b≠a:=λz=>by simp_all
  rw[cz hb];exact r.pr b w e
 ·have hb:b≠a:=λz=>by simp_all
  rw[cz hb];exact r.fr b w e
 ·by_cases hj:j=i
  ·simp_all
  ·rw[Qwx (Ne.symm hj)] at he;exact r.val j e he
 ·by_cases hj:j=i
  ·simp_all
  ·rw[Qwx (Ne.symm hj)] at he;obtain⟨b,g1,g2,g3,g4⟩:=r.own j e he;exact⟨b,g1,g2.mono (aY.refl F)<|cz<|ne j e b hj he g1,g3,g4⟩
 ·have un:∀(j:Nat) e,(env.set i<|some (true,d'))[j]? = some (some (true,e))->∃e',env[j]? = some (some (true,e')):=λj e he=>by
   grind
  obtain⟨e',hj'⟩:=un j e hj;obtain⟨f',hk'⟩:=un k f hk;exact r.apart j k e' f' b hj' hk' g1 g2
inductive tN (C:Cfg) (ev:Ev) (σ:L2.St) (H:Hp) (Q:L2.VK):Prop
 | mk (Pr F:Hp) (env env':Env) (d:D) (_:Rel C Pr F env σ H) (_:ev env = .ok d env') (_:∀a H' F',Rel C Pr F' env' σ H'->aY F F'->New C.K Pr F' env' σ H' d a->Q (.ref a) H'):tN C ev σ H Q
def PXN(X:Cx)(C:Cfg)(e:Expr)(ev:Ev):Prop:=PE X e (tN C ev)
section
variable{X:Cx}{C:Cfg}{pos:Pos}
theorem PXN.px(h:PXN X C e ev):PX X C e ev:=PE.imp h λσ H Q hq=>by
 obtain⟨Pr,F,env,env',d,r,e,q⟩:=hq;refine⟨Pr,F,env,env',d,r,e,λa H' F' r' s' n'=>?_⟩;obtain⟨F2,r2,s2,p2⟩:=r'.keep n';exact q _ _ F2 r2 (s'.trans s2) p2
theorem TV(h:PXA X C es r):PXN X C (.List es pos) (fB r):=(ahq h).imp λσ H Q hq=>by
 obtain⟨Pr,F,env,env',d,rl,e,q⟩:=hq;obtain⟨ds,aJ,e1,e2⟩:=aO e;split at e2
 ·rename_i hz;cases e2;refine⟨Pr,F,env,env',ds,rl,e1,λvs H1 F1 r1 s1 p1=>⟨by rw[p1.length];exact hz,λp hp=>?_⟩⟩;exact q _ _ F1 (r1.fresh hp) s1<|New.of r1 hp ⟨hz,vs,bD,p1⟩
 ·cases e2
abbrev GV:=D->Env->Option Env
abbrev X7:=List D->Env->Option Env
inductive tG (C:Cfg) (lo:Nat) (gv:GV) (v:L2.V) (σ:L2.St) (H:Hp) (Q:L2.St->Hp->Prop):Prop
 | mk (Pr F:Hp) (env env':Env) (d:D) (_:Rel C Pr F env σ H) (_:Rep C.K F d v) (_:gv d env=some env') (_:∀σ' H' F',Rel C Pr F' env' σ' H'->aY F F'->σ'.take lo=σ.take lo->Q σ' H'):tG C lo gv v σ H Q
inductive tGs (C:Cfg) (lo:Nat) (gv:X7) (vs:List L2.V) (σ:L2.St) (H:Hp) (Q:L2.St->Hp->Prop):Prop
 | mk (Pr F:Hp) (env env':Env) (ds:List D) (_:Rel C Pr F env σ H) (_:cu C.K F ds vs) (_:gv ds env=some env') (_:∀σ' H' F',Rel C Pr F' env' σ' H'->aY F F'->σ'.take lo=σ.take lo->Q σ' H'):tGs C lo gv vs σ H Q
def X6(X:Cx)(C:Cfg)(lo:Nat)(e:Expr)(gv:GV):Prop:=PG X e (tG C lo gv)
def akh(X:Cx)(C:Cfg)(lo:Nat)(es:List Expr)(gv:X7):Prop:=PGs X es (tGs C lo gv)
theorem _root_.L2.PG.imp{X:Cx}{e:Expr}{t t':TG}(h:PG X e t)(i:∀v σ H Q,t' v σ H Q->t v σ H Q):PG X e t':=λpins s σ H v u Q I r q=>h pins s σ H v u Q I r<|i v σ H Q q
theorem _root_.L2.PGs.imp{X:Cx}{e:List Expr}{t t':TGs}(h:PGs X e t)(i:∀v σ H Q,t' v σ H Q->t v σ H Q):PGs X e t':=λpins s σ H v u Q I r q=>h pins s σ H v u Q I r<|i v σ H Q q
noncomputable def ak(i:Nat):GV:=λd env=>some (env.set i (some (false,d)))
theorem Zq{lo i:Nat}(hN:X.N.Nodup)(hi:X.N[i]? = some x)(hx:Loc X.env.scope x)(hlo:lo<=i)(hfx:C.fx i=none)(hf:X.fn x=true\/X.env.scope.names.lookup x=some .local:=by first|exact .inl rfl|exact .inr rfl|assumption):X6 X C lo (.Name x pos) (ak i):=
 (adv hN hi hx hf).imp λv σ H Q h=>by
  obtain⟨Pr,F,env,env',d,r,p,e,q⟩:=h;cases e;exact q _ _ F (r.put hfx p) (aY.refl F) (by rw[List.take_set_of_le hlo])
noncomputable def dU:X7:=λds env=>if ds.isEmpty then some env else none
noncomputable def aZ(g:GV)(gs:X7):X7:=λds env=>match ds with
 | d::r=>(g d env).bind λe1=>gs r e1
 | []=>none
theorem Zo{lo:Nat}:akh X C lo [] dU:=adu.imp λv σ H Q h=>by
 obtain⟨Pr,F,env,env',ds,r,p,e,q⟩:=h;cases ds with
 | nil=>cases e;cases p;exact⟨rfl,q _ _ F r (aY.refl F) rfl⟩
 | cons d ds=>cases e
noncomputable def dR(n:Nat)(gs:X7):GV:=λd env=>match d with
 | .tup ds=>if ds.length=n then gs ds env else none
 | _=>none
theorem adb{lo:Nat}{k:Nat}(hc:X.calm=true)(hK:X.K=C.K)(h:akh X C lo es gs)
  (hn:(assignEach es X.env).length=n:=by rfl) (hst:(assignEach es X.env).findIdx? (·.1)=none:=by rfl):X6 X C lo (.Tuple es k pos) (dR n gs):=(ahi hc h hn hst).imp λv σ H Q h=>by
 obtain⟨Pr,F,env,env',d,r,p,e,q⟩:=h;cases d with
 | tup ds=>
  obtain⟨z,a,vs,rfl,h1,h2⟩:=p;unfold dR at e;simp only at e;split at e
  ·rename_i hl;rw[hK];exact⟨a,vs,rfl,aY.tupK r.fr h1,by rw[h2.length];exact hl,Pr,F,env,env',ds,r,h2,e,q⟩
  ·cases e
 | _=>cases e
def aei(i:Nat)(ix:Ev):GV:=λd env=>match env[i]? with
 | some (some (_,_))=>(match ix env with
  | .ok (.int k) aJ=>(match aJ[i]? with
   | some (some (true,.lst xs))=>(ixN xs.length k).map λj=>aJ.set i (some (true,.lst (xs.set j d)))
   | _=>none)
  | _=>none)
 | _=>none
theorem ag3{lo i:Nat}(hN:X.N[i]? = some x)(hv:Aa X.env.scope x)(h:PX X C ix ev)
  (ha:∀v,assign (.Subscript (.Name x px) ix pos) X.env v=(do
   let ov <-holding [v] (eval (.Name x px) X.env)
   let iv <-holding [v,ov] (eval ix X.env)
   standAt pos
   holding [v,ov,iv] (setItem ov iv v)
   release [v,ov,iv] []):=by intro _;rfl)
  (hd:qi x:=by decide) (hcd:Am x:=by decide):X6 X C lo (.Subscript (.Name x px) ix pos) (aei i ev):=
 (ahj (ni hN hv hd hcd) h set_list ha).imp λv σ H Q hq=>by
  obtain⟨Pr,F,env,env',d,r,p,e,q⟩:=hq;unfold aei at e;split at e
  ·rename_i o0 d0 h0;obtain⟨v0,hv0,_⟩:=r.rd h0;split at e
   ·rename_i k aJ e1;split at e
    ·rename_i xs h2;obtain⟨j,hj,e3⟩:=Qww.mp e;subst e3;refine⟨v0,hv0,Pr,F,env,aJ,.int k,r,e1,λvi H1 F1 r1 s1 p1=>?_⟩;cases p1;obtain⟨a,g1,⟨z,vs,g2,g3⟩,g4,g5⟩:=r1.own i _ h2;rw[hv0] at g1;cases g1;refine⟨a,vs,k,j,rfl,rfl,g2,by rw[g3.length];exact hj,?_⟩;refine q σ _ F1 (r1.write h2 hv0 ⟨by simp_all,vs.set j v,bD,cu.set (Rep.mono s1 d v p) j g3⟩) s1 rfl
    ·cases e
   ·cases e
  ·cases e
end
inductive Out where
 | nx (env:Env)
 | rt (o:Bool) (d:D) (env:Env)
 | bk (env:Env)
 | ct (env:Env)
 | stuck
abbrev bV:=Env->Out
def Fin(C:Cfg)(Pr F:Hp)(D:Ends):Out->Prop
 | .nx env'=>∀σ' H' F',Rel C Pr F' env' σ' H'->aY F F'->D.nx σ' H'
 | .rt false d env'=>∀v σ' H' F',Rel C Pr F' env' σ' H'->aY F F'->Rep C.K F' d v->D.rt v H'
 | .rt true d env'=>∀a σ' H' F',Rel C Pr F' env' σ' H'->aY F F'->New C.K Pr F' env' σ' H' d a->D.rt (.ref a) H'
 | .bk env'=>∀σ' H' F',Rel C Pr F' env' σ' H'->aY F F'->D.bk σ' H'
 | .ct env'=>∀σ' H' F',Rel C Pr F' env' σ' H'->aY F F'->D.ct σ' H'
 | .stuck=>False
theorem Fin.mono{D:Ends}(s:aY F F1):∀{o},Fin C Pr F D o->Fin C Pr F1 D o
 | .nx _,h=>λσ' H' F' r t=>h σ' H' F' r<|s.trans t
 | .rt false _ _,h=>λv σ' H' F' r t=>h v σ' H' F' r<|s.trans t
 | .rt true _ _,h=>λv σ' H' F' r t=>h v σ' H' F' r<|s.trans t
 | .bk _,h=>λσ' H' F' r t=>h σ' H' F' r<|s.trans t
 | .ct _,h=>λσ' H' F' r t=>h σ' H' F' r<|s.trans t
 | .stuck,h=>h
inductive tS (C:Cfg) (ev:bV) (D:L2.Ends) (σ:L2.St) (H:Hp):Prop
 | mk (Pr F:Hp) (env:Env) (_:Rel C Pr F env σ H) (_:Fin C Pr F D (ev env)):tS C ev D σ H
def PXS(X:Cx)(C:Cfg)(st:Stmt)(ev:bV):Prop:=PS X st (tS C ev)
def Li(X:Cx)(C:Cfg)(st:List Stmt)(ev:bV):Prop:=Qh X st (tS C ev)
noncomputable def gr{α:Type}(x:R α)(f:α->Env->Out):Out:=match x with
 | .ok a env=>f a env
 | .stuck=>.stuck
theorem gP{D:Ends}{α:Type}{x:R α}{f:α->Env->Out}(h:Fin C Pr F D (gr x f)):∃a aJ,x = .ok a aJ/\Fin C Pr F D (f a aJ):=by
 cases x with
 | ok a aJ=>exact⟨a,aJ,rfl,h⟩
 | stuck=>exact h.elim
section
variable{X:Cx}{C:Cfg}{pos:Pos}
noncomputable def bH:bV:=λenv=>.nx env
noncomputable def aC(a b:bV):bV:=λenv=>match a env with
 | .nx e=>b e
 | .rt o d e=>.rt o d e
 | .bk e=>.bk e
 | .ct e=>.ct e
 | .stuck=>.stuck
theorem Ze:Li X C [] bH:=adh.imp λD σ H h=>by
 obtain⟨Pr,F,env,r,f⟩:=h;exact f σ H F r<|aY.refl F
def cZ(t:gj)(a b:bV):bV:=λenv=>gr (t env) λc aJ=>if c=true then a aJ else b aJ
def aV(a:Ev):bV:=λenv=>gr (a env) λd aJ=>.rt false d aJ
def xg(a:Ev):bV:=λenv=>gr (a env) λd aJ=>.rt true d aJ
noncomputable def agP:bV:=λenv=>.rt false .non env
noncomputable def G6(o:Option Env):Out:=match o with
 | some e=>.nx e
 | none=>.stuck
def aW(a:Ev)(g:GV):bV:=λenv=>gr (a env) λd aJ=>G6 (g d aJ)
theorem ajS{D:Ends}(h:tS C (aW a g) D σ H):Yz (tE C a) (tG C 0 g) D σ H:=by
 obtain⟨Pr,F,env,r,f⟩:=h;obtain⟨d,aJ,e1,f1⟩:=gP f;refine⟨Pr,F,env,aJ,d,r,e1,λv H1 F1 r1 s1 p1=>?_⟩;cases e2:g d aJ with
 | none=>rw[e2] at f1;exact f1.elim
 | some dB=>rw[e2] at f1;exact⟨Pr,F1,aJ,dB,d,r1,p1,e2,λσ2 H2 F2 r2 s2 _=>f1 σ2 H2 F2 r2<|s1.trans s2⟩
theorem ac4(hN:X.N.Nodup)(hi:X.N[i]? = some x)(hx:Loc X.env.scope x)(hfx:C.fx i=none)(he:PX X C e a)(hs:swapsWith e (some (.Name x pos')) pos.line X.env=pure false:=by rfl)(hf:X.fn x=true\/X.env.scope.names.lookup x=some .local:=by first|exact .inl rfl|exact .inr rfl|assumption) :
  PXS X C (.Assign [.Name x pos'] e pos) (aW a (ak i)):=(ZF hN hi hx he hs hf).imp λD σ H h=>by
 obtain⟨Pr,F,env,r,f⟩:=h;obtain⟨d,aJ,e1,f1⟩:=gP f;exact⟨Pr,F,env,aJ,d,r,e1,λv H1 F1 r1 s1 p1=>f1 _ H1 F1 (r1.put hfx p1) s1⟩
def eY(i:Nat)(a:Ev):bV:=λenv=>gr (a env) λd aJ=>.nx (aJ.set i (some (true,d)))
theorem ac5(hN:X.N.Nodup)(hi:X.N[i]? = some x)(hx:Loc X.env.scope x)(hfx:C.fx i=none)(he:PXN X C e a)(hs:swapsWith e (some (.Name x pos')) pos.line X.env=pure false:=by rfl)(hf:X.fn x=true\/X.env.scope.names.lookup x=some .local:=by first|exact .inl rfl|exact .inr rfl|assumption) :
  PXS X C (.Assign [.Name x pos'] e pos) (eY i a):=(ZF hN hi hx he hs hf).imp λD σ H h=>by
 obtain⟨Pr,F,env,r,f⟩:=h;obtain⟨d,aJ,e1,f1⟩:=gP f;exact⟨Pr,F,env,aJ,d,r,e1,λv H1 F1 r1 s1 p1=>f1 _ H1 F1 (r1.Rn hfx p1) s1⟩
def kY(i:Nat)(a:Ev):bV:=λenv=>match env[i]? with
 | some (some (true,.lst _))=>gr (a env) λd aJ=>(match aJ[i]? with
  | some (some (true,.lst xs))=>if xs.length<sizeLine then .nx (aJ.set i (some (true,.lst (xs++[d])))) else .stuck
  | _=>.stuck)
 | _=>.stuck
theorem ac7(hN:X.N[i]? = some x)(hv:Aa X.env.scope x)(he:PX X C e a)(hK:X.K=C.K)
  (hs:swapsWith (.Call (.Attribute (.Name x px) "append" apos) [e] [] cpos) none pos.line X.env=pure false:=by rfl)
  (hfew:((backTo cpos (starEach [e] X.env)).all (λx=>!x.1)&&(backToKw cpos (keywordEach [] X.env)).all (λx=>x.1.isSome)
   && decide ([e].length+([]:List Keyword).length+(if ([]:List Keyword).isEmpty then 0 else 1)<30))=true:=by rfl)
  (hbase:attributeBase (.Name x px) "append" X.env (eval (.Name x px) X.env)=eval (.Name x px) X.env:=by rfl)
  (hline:(apos.endLine == cpos.line)=true:=by rfl) (hst:Qd e X.env:=by rfl) (hplain:(backTo cpos (starEach [] X.env)).any (·.1)=false:=by rfl)
  (hd:qi x:=by decide) (hcd:Am x:=by decide):PXS X C (.Expr (.Call (.Attribute (.Name x px) "append" apos) [e] [] cpos) pos) (kY i a):=by
 refine PS.imp (T4 (T8 PySem.F.plainAttrs_list PySem.F.slot_list_append PySem.F.type_list_append za (ni hN hv hd hcd) (j8 he qG hst) hbase hfew hline hst hplain) hs) λD σ H h=>?_;obtain⟨Pr,F,env,r,f⟩:=h;unfold kY at f;split at f
 ·rename_i xs0 h0;obtain⟨d,aJ,e1,f1⟩:=gP f;obtain⟨a0,hv0,⟨z0,vs0,g0,_⟩,_⟩:=r.own i _ h0;refine⟨_,hv0,.inl ⟨rfl,vs0,jR.of g0⟩,Pr,F,env,aJ,d,r,e1,λv H1 F1 r1 s1 p1=>?_⟩;split at f1
  ·rename_i xs h1;split at f1
   ·rename_i hz;obtain⟨a,g1,⟨z,vs,g2,g3⟩,g4,g5⟩:=r1.own i _ h1;rw[hv0] at g1;cases g1;refine⟨a0,vs,v,rfl,rfl,g2,by rw[g3.length];exact hz,?_⟩;exact f1 σ _ F1 (r1.write h1 hv0 ⟨by rw[Qq1];exact hz,vs++[v],bD,g3.append<|cu.one p1⟩) s1
   ·exact f1.elim
  ·exact f1.elim
 ·exact f.elim
def p8(K:Fg)(F:Hp)(ds:List D)(J:It):Prop:=∀(i:Nat) (H:Hp),aY F H->(ds[i]? = none->i=ds.length->J.stop i H)/\∀d,ds[i]? = some d->J.go i H/\∀x H',J.Yb i H x H'->
 (H'=H/\Rep K F d x)\/∃p vs es,H p=none/\H'=upd H p (.tup vs)/\x = .ref p/\d = .tup es/\es.length<=sizeLine/\cu K F es vs
inductive tI (C:Cfg) (ev:dq) (σ:L2.St) (H:Hp) (R:L2.It->Hp->Prop):Prop
 | mk (Pr F:Hp) (env env':Env) (ds:List D) (_:Rel C Pr F env σ H) (_:ev env = .ok ds env') (_:∀J H' F',Rel C Pr F' env' σ H'->aY F F'->p8 C.K F' ds J->R J H'):tI C ev σ H R
def X5(X:Cx)(C:Cfg)(tg iter:Expr)(ev:dq):Prop:=PI X tg iter (tI C ev)
theorem _root_.L2.PI.imp{X:Cx}{tg e:Expr}{t t':TI}(h:PI X tg e t)(i:∀σ H R,t' σ H R->t σ H R):PI X tg e t':=λpins s σ H R I q=>h pins s σ H R I<|i σ H R q
theorem p8.item(r:Rel C Pr F1 env σ H)(s:aY F F1)(y:p8 C.K F ds J)(hd:ds[i]? = some d)(hy:J.Yb i H x H') :
  ∃F2,Rel C Pr F2 env σ H'/\aY F1 F2/\Rep C.K F2 d x:=by
 rcases((y i H<|s.trans r.fr).2 d hd).2 x H' hy with ⟨rfl,p⟩|⟨p,vs,es,hp,rfl,rfl,rfl,hz,q⟩
 ·exact⟨F1,r,aY.refl F1,Rep.mono s _ _ p⟩
 ·obtain⟨r2,s2⟩:=r.new hp;exact⟨_,r2,s2,hz,p,vs,rfl,oH.of bD,cu.mono (s.trans s2) _ _ q⟩
noncomputable def mV(g:GV)(b:bV):List D->bV
 | [],env=>.nx env
 | d::ds,env=>(match g d env with
  | none=>.stuck
  | some e1=>(match b e1 with
   | .nx e2=>mV g b ds e2
   | .ct e2=>mV g b ds e2
   | .bk e2=>.nx e2
   | .rt o d e2=>.rt o d e2
   | .stuck=>.stuck))
def gC(it:dq)(g:GV)(b:bV):bV:=λenv=>gr (it env) λds aJ=>mV g b ds aJ
theorem ac6(hp:PassesOwn (model X.prog X.w) X.A X.env X.xe)(hc:X.calm=true)(hi:X5 X C tg iter it)(hg:X6 X C 0 tg g)(hb:Li X C body b)
  (hs:∀x,foldedSetIterable iter X.env x=pure x:=by intro _;rfl):PXS X C (.For tg iter body [] pos) (gC it g b):=(ahe hp hc hi hg hb hs).imp λD σ H h=>by
 obtain⟨Pr,F,env,r,f⟩:=h;obtain⟨ds,aJ,e1,f1⟩:=gP f;refine⟨Pr,F,env,aJ,ds,r,e1,λJ H1 F1 r1 s1 y1=>?_⟩;refine⟨λi m σ' H'=>m=ds.length - i/\i<=ds.length/\∃F' env',Rel C Pr F' env' σ' H'/\aY F1 F'/\Fin C Pr F' D (mV g b (ds.drop i) env'),⟨ds.length,rfl,Qxw _,F1,aJ,r1,aY.refl _,f1.mono s1⟩,?_⟩;rintro i m σ' H' ⟨rfl,hi,F',env',r',s',f'⟩;by_cases hl:i<ds.length
 ·have hd:=Qqy hl;have hdr:=Qx0 hl;have yy:=y1 i H'<|s'.trans r'.fr;refine .inr ⟨(yy.2 _ hd).1,λσ2 H2=>∃F' env',Rel C Pr F' env' σ2 H2/\aY F1 F'/\Fin C Pr F' D (mV g b (ds.drop<|i+1) env'),λσ2 H2 h2=>⟨ds.length - (i+1),by omega,rfl,hl,h2⟩,λx H2 hy=>?_⟩;obtain⟨F2,r2,s2,p2⟩:=p8.item r' s' y1 hd hy;rw[hdr] at f';have f2:=f'.mono s2;unfold mV at f2;cases eg:g ds[i] env' with
  | none=>rw[eg] at f2;exact f2.elim
  | some e2=>
   rw[eg] at f2;refine⟨Pr,F2,env',e2,ds[i],r2,p2,eg,λσ3 H3 F3 r3 s3 _=>⟨Pr,F3,e2,r3,?_⟩⟩;simp at f2;have s13:=(s'.trans s2).trans s3;cases eb:b e2 with
   | nx e3=>rw[eb] at f2;exact λσ4 H4 F4 r4 s4=>⟨F4,e3,r4,s13.trans s4,f2.mono<|s3.trans s4⟩
   | ct e3=>rw[eb] at f2;exact λσ4 H4 F4 r4 s4=>⟨F4,e3,r4,s13.trans s4,f2.mono<|s3.trans s4⟩
   | bk e3=>rw[eb] at f2;exact λσ4 H4 F4 r4 s4=>f2 σ4 H4 F4 r4<|s3.trans s4
   | rt o d e3=>rw[eb] at f2;cases o<;>exact λv σ4 H4 F4 r4 s4 p4=>f2 v σ4 H4 F4 r4 (s3.trans s4) p4
   | stuck=>rw[eb] at f2;exact f2.elim
 ·have e:i=ds.length:=by omega
  subst e;rw[List.drop_length] at f';exact .inl ⟨(y1 _ H'<|s'.trans r'.fr).1 (Qjz<|Qqw _) rfl,f' σ' H' F' r'<|aY.refl F'⟩
noncomputable def Jo(t:gj)(b:bV):Nat->bV
 | 0,_=>.stuck
 | n+1,env=>gr (t env) λc e1=>if c=true then (match b e1 with
   | .nx e2=>Jo t b n e2
   | .ct e2=>Jo t b n e2
   | .bk e2=>.nx e2
   | .rt o d e2=>.rt o d e2
   | .stuck=>.stuck) else .nx e1
end
end Ev
namespace L2
open PySem PySem.Spec PyProof.Rows
noncomputable def Its(z:Str):It:=⟨λi _=>i<z.cps.size,λi H x H'=>H'=H/\∃c,z.cps[i]? = some c/\x = .str ⟨#[c]⟩,λi _=>z.cps.size<=i⟩
theorem Vs{P:Program}{w:World}{K:PySem.W.Frag}{tg:Expr}(it:Addr)(z:Str)(t:Tok):Turn P w K tg (Its z) [it] it (λi h=>h.IsStrIter it "str_ascii_iterator" z t i/\i<=z.cps.size) where
 mem:=by simp
 obj:=λi h st b hb=>by
  have e:b=it:=by simp_all
  subst e;obtain⟨⟨o,ho,hc,hd⟩,_⟩:=st
  simp_all
 keep:=λi h h' st k=>let ⟨⟨o,ho,r⟩,l⟩:=st;⟨⟨o,k it (by simp) o ho,r⟩,l⟩
 item:=by intro X hP hw hK hc i pins s σ H E I hf st hg;subst hP hw hK;obtain⟨f0,f1,f2,f3,f4,f5⟩:=hf it (by simp);have hg':i<z.cps.size:=hg;refine wpAny_pyNext_ascii_item st.1 (c:=z.cps[i]) (by simp[hg']) λh' hit' hs'=>?_;have I1:Inv X pins σ H { s with heap:=h',toks:=s.toks+1 }:=I.turned (λb o hb e=>hs'.extBut b o hb e) f0 f1 f3 f4 f5;obtain⟨o,ho,hcl,hda⟩:=hit';refine⟨_,rfl,Oc ho hcl hda (by decide) ⟨.str ⟨#[z.cps[i]]⟩,H,I1,⟨_,rfl⟩,⟨rfl,_,by simp[hg'],rfl⟩,⟨⟨o,ho,hcl,hda⟩,hg'⟩,λb hb=>(hf b hb).1⟩⟩
 done:=by intro X hP hw hK hc i pins s σ H E I hf st hg;subst hP hw hK;obtain⟨f0,f1,f2,f3,f4,f5⟩:=hf it (by simp);have hg':z.cps.size<=i:=hg;exact wpAny_pyNext_ascii_end (I.ok.hd hc) st.1 (by simp;omega) λh' eb=>⟨rfl,I.turned (λb o hb e=>eb b o hb e) f0 f1 f3 f4 f5⟩
 self:=λ_ _ _ _ _ st h=>wpAny_pyIter_striter_ascii st.1 h
theorem Vr{P:Program}{w:World}{K:PySem.W.Frag}{tg:Expr}(it:Addr)(z:Str)(t:Tok):Turn P w K tg (Its z) [it] it (λi h=>h.IsStrIter it "str_iterator" z t i/\i<=z.cps.size) where
 mem:=by simp
 obj:=λi h st b hb=>by
  have e:b=it:=by simp_all
  subst e;obtain⟨⟨o,ho,hc,hd⟩,_⟩:=st
  simp_all
 keep:=λi h h' st k=>let ⟨⟨o,ho,r⟩,l⟩:=st;⟨⟨o,k it (by simp) o ho,r⟩,l⟩
 item:=by intro X hP hw hK hc i pins s σ H E I hf st hg;subst hP hw hK;obtain⟨f0,f1,f2,f3,f4,f5⟩:=hf it (by simp);have hg':i<z.cps.size:=hg;refine wpAny_pyNext_wide_item st.1 (c:=z.cps[i]) (by simp[hg']) λh' hit' hs'=>?_;have I1:Inv X pins σ H { s with heap:=h',toks:=s.toks+1 }:=I.turned (λb o hb e=>hs'.extBut b o hb e) f0 f1 f3 f4 f5;obtain⟨o,ho,hcl,hda⟩:=hit';refine⟨_,rfl,Oc ho hcl hda (by decide) ⟨.str ⟨#[z.cps[i]]⟩,H,I1,⟨_,rfl⟩,⟨rfl,_,by simp[hg'],rfl⟩,⟨⟨o,ho,hcl,hda⟩,hg'⟩,λb hb=>(hf b hb).1⟩⟩
 done:=by intro X hP hw hK hc i pins s σ H E I hf st hg;subst hP hw hK;obtain⟨f0,f1,f2,f3,f4,f5⟩:=hf it (by simp);have hg':z.cps.size<=i:=hg;exact wpAny_pyNext_wide_end (I.ok.hd hc) st.1 (by simp;omega) λh' eb=>⟨rfl,I.turned (λb o hb e=>eb b o hb e) f0 f1 f3 f4 f5⟩
 self:=λ_ _ _ _ _ st h=>wpAny_pyIter_striter_wide st.1 h
section
variable{X:Cx}{tg:Expr}
def apa(K:PySem.W.Frag)(tl:TE):TI:=λσ H R=>tl σ H λx H1=>(∃a,x = .ref a/\(∃xs,jR K H1 a xs)/\R (Itl K a) H1)\/(∃a,x = .ref a/\(∃xs,oH K H1 a xs)/\R (Itt K a) H1)\/∃z,x = .str z/\R (Its z) H1
theorem ahh(hl:PE X l tl):PI X tg l (apa X.K tl):=by
 intro pins s σ H R I h;refine fG (hl pins s σ H _ I h) λv s1 ⟨x,H1,I1,r1,q1⟩=>?_;have own:∀b ∈ [s1.heap.objs.size],pG X pins H1 b:=λb hb=>by
  have e:b=s1.heap.objs.size:=by simp_all
  subst e;exact I1.Sg (Qqw _)<|I1.hok.fresh<|Qqw _
 rcases q1 with ⟨a,e,⟨xs,hq⟩,q⟩|⟨a,e,⟨xs,hq⟩,q⟩|⟨z,e,q⟩
 ·subst e;cases r1;obtain⟨its,rv,p,hz⟩:=I1.list hq;refine Qjy p.isList ?_;exact⟨s1.heap.objs.size,[s1.heap.objs.size],_,_,H1,rfl,I1.kept λb o e=>Qqq _ e,Vt a _,⟨_,Qq2 _ rfl,rfl,rfl⟩,own,q⟩
 ·subst e;cases r1;obtain⟨its,rv,p,hz⟩:=I1.tuple hq;refine wpAny_pyIter_tuple p ?_;exact⟨s1.heap.objs.size,[s1.heap.objs.size],_,_,H1,rfl,I1.kept λb o e=>Qqq _ e,Qo a _,⟨_,Qq2 _ rfl,rfl,rfl⟩,own,q⟩
 ·subst e;obtain⟨t,rfl⟩:=r1;cases ha:z.cps.all (·< 128)
  ·exact wpAny_pyIter_wide ha ⟨s1.heap.objs.size,[s1.heap.objs.size],_,_,H1,rfl,I1.kept λb o e=>Qqq _ e,Vr _ z t,⟨⟨_,Qq2 _ rfl,rfl,rfl⟩,Qxw _⟩,own,q⟩
  ·exact wpAny_pyIter_ascii ha ⟨s1.heap.objs.size,[s1.heap.objs.size],_,_,H1,rfl,I1.kept λb o e=>Qqq _ e,Vs _ z t,⟨⟨_,Qq2 _ rfl,rfl,rfl⟩,Qxw _⟩,own,q⟩
end
end L2
namespace Ev
open PySem PySem.Spec PyProof.Rows L2
section
variable{X:Cx}{C:Cfg}{pos:Pos}{tg:Expr}
noncomputable def jc(x:List Nat):List D:=x.map λc=>.str [c]
theorem Qj(h:oH C.K F a vs)(p:cu C.K F ds vs):p8 C.K F ds (Itt C.K a):=λi H s=>by
 refine⟨λ_ e=>⟨vs,aY.tupK s h,by rw[p.length,e];exact Qqw _⟩,λd hd=>?_⟩;obtain⟨v,h1,h2⟩:=p.get hd;refine⟨⟨vs,v,aY.tupK s h,h1⟩,λx H' hy=>.inl ⟨hy.1,?_⟩⟩;have:=hy.2 vs<|aY.tupK s h
 simp_all
theorem Qk:p8 C.K F (jc x) (Its (strOf x)):=λi H s=>by
 refine⟨λ_ e=>?_,λd hd=>?_⟩
 ·show x.toArray.size<=i;rw[e];simp[jc]
 ·unfold jc at hd;rw[Qw1] at hd;obtain⟨c,hc,rfl⟩:=Qww.mp hd;refine⟨?_,λv H' hy=>.inl ⟨hy.1,?_⟩⟩
  ·show i<x.toArray.size;have:=(Qwz.mp hc).1
   simpa using this
  ·obtain⟨c',h1,rfl⟩:=hy.2;have h2:x[i]? = some c':=by simpa[strOf] using h1
   rw[hc] at h2;cases h2;exact⟨rfl,by show 1<=sizeLine;decide⟩
def itD:D->Option (List D)
 | .lst xs=>some xs
 | .arr xs=>some xs
 | .tup xs=>some xs
 | .str x=>some (jc x)
 | _=>none
def eG(a:Ev):dq:=λenv=>bindR (a env) λd aJ=>fc (itD d) aJ
theorem ada(hK:X.K=C.K)(h:PX X C l a):X5 X C tg l (eG a):=(ahh h).imp λσ H R hq=>by
 obtain⟨Pr,F,env,env',ds,r,e,q⟩:=hq;obtain⟨d,aJ,e1,e2⟩:=aO e;obtain⟨e3,rfl⟩:=dz e2;refine⟨Pr,F,env,env',d,r,e1,λv H1 F1 r1 s1 p1=>?_⟩;rw[hK];cases d with
 | lst xs=>
  cases e3;obtain⟨z,a,vs,rfl,g1,g2⟩:=p1;refine .inl ⟨a,rfl,⟨vs,jR.of<|r1.fr _ _ g1⟩,q _ H1 F1 r1 s1 λi H s=>?_⟩;refine⟨λ_ e=>⟨vs,jR.of<|s _ _ g1,by rw[g2.length,e];exact Qqw _⟩,λd hd=>?_⟩;obtain⟨v,h1,h2⟩:=g2.get hd;refine⟨⟨vs,v,jR.of<|s _ _ g1,h1⟩,λx H' hy=>.inl ⟨hy.1,?_⟩⟩;have:=hy.2 vs<|jR.of<|s _ _ g1;rw[h1] at this;cases this;exact h2
 | arr xs=>
  cases e3;obtain⟨z,a,vs,rfl,g1,g2⟩:=p1;refine .inl ⟨a,rfl,⟨vs,r1.fr.seq g1⟩,q _ H1 F1 r1 s1 λi H s=>?_⟩;refine⟨λ_ e=>⟨vs,s.seq g1,by rw[g2.length,e];exact Qqw _⟩,λd hd=>?_⟩;obtain⟨v,h1,h2⟩:=g2.get hd;refine⟨⟨vs,v,s.seq g1,h1⟩,λx H' hy=>.inl ⟨hy.1,?_⟩⟩;have:=hy.2 vs<|s.seq g1;rw[h1] at this;cases this;exact h2
 | tup xs=>
  cases e3;obtain⟨z,a,vs,rfl,g1,g2⟩:=p1;exact .inr<|.inl ⟨a,rfl,⟨vs,aY.tupK r1.fr g1⟩,q _ H1 F1 r1 s1<|Qj g1 g2⟩
 | str x=>
  cases e3;obtain⟨rfl,z⟩:=p1;exact .inr<|.inr ⟨_,rfl,q _ H1 F1 r1 s1 Qk⟩
 | _=>cases e3
noncomputable def iR(lo c:Int)(n:Nat):List D:=(List.range n).map λ(i:Nat)=>.int (lo+i*c)
theorem jU(lo c)(n):(iR lo c n).length=n:=by simp[iR]
theorem BP{lo c:Int}(h:(iR lo c n)[i]? = some d):i<n/\d = .int (lo+i*c):=by
 have hi:i<n:=by
  have:=(Qwz.mp h).1
  rwa [jU] at this
 refine⟨hi,?_⟩;unfold iR at h
 simp_all
theorem Bp{lo:Int}:p8 C.K F (iR lo 1 n) (Itr lo n):=λi H s=>by
 refine⟨λ_ e=>by rw[e,jU];exact Qqw _,λd hd=>?_⟩;obtain⟨hi,rfl⟩:=BP hd;refine⟨hi,λx H' hy=>.inl ⟨hy.1,?_⟩⟩;rw[Int.mul_one];exact hy.2
noncomputable def lG(j:Int):Bool:=decide (-(2^62)<=j)&&decide (j<2^62)
theorem wg(h:lG j=true) : -(2^62)<=j/\j<2^62:=by
 unfold lG at h
 simp_all
def vg:List D->Option (List D)
 | [.int j]=>if lG j=true then some (iR 0 1 j.toNat) else none
 | [.int i,.int j]=>if lG i=true/\lG j=true then some (iR i 1 (j - i).toNat) else none
 | [.int i,.int j,.int c]=>if c≠0/\c.natAbs<1073741824/\Builtin.Range.small i j c=true then some (iR i c (Builtin.Range.rangeSize i j c).toNat) else none
 | _=>none
def eF(a:dq):dq:=λenv=>bindR (a env) λds aJ=>fc (vg ds) aJ
theorem cu.ao8(h:cu C.K F [.int i] vs):vs=[.int i]:=by obtain⟨v,r,rfl,h1,h2⟩:=h;cases h1;cases h2;rfl
theorem cu.ao7(h:cu C.K F [.int i,.int j] vs):vs=[.int i,.int j]:=by obtain⟨v,r,rfl,h1,v',r',rfl,h2,h3⟩:=h;cases h1;cases h2;cases h3;rfl
theorem Rk(hg:Gl X "range")(hm:X.mg "range" = none)(ha:PXA X C [a] ea)(hl:∀env ds env',ea env = .ok ds env'->ds.length=1)(hs:starEach [a] X.env=[(false,eval a X.env)]:=by rfl):X5 X C tg (.Call (.Name "range" p) [a] [] pos) (eF ea):=
 (Wg hg hm ha hs).imp λσ H R hq=>by
  obtain⟨Pr,F,env,env',ds,r,e,q⟩:=hq;obtain⟨as,aJ,e1,e2⟩:=aO e;obtain⟨e3,rfl⟩:=dz e2;refine⟨Pr,F,env,env',as,r,e1,λvs H1 F1 r1 s1 p1=>?_⟩;have:=hl _ _ _ e1;unfold vg at e3;split at e3
  ·split at e3
   ·rename_i hf;cases e3;have hb:=wg hf;exact⟨_,p1.ao8,hb.1,hb.2,q _ H1 F1 r1 s1 Bp⟩
   ·cases e3
  all_goals simp_all
theorem Rj{p pos:Pos}(hg:Gl X "range")(hm:X.mg "range" = none)(ha:PXA X C [a,b] ea)(hl:∀env ds env',ea env = .ok ds env'->ds.length=2)(hs:starEach [a,b] X.env=[(false,eval a X.env),(false,eval b X.env)]:=by rfl)(hs2:starEach [b] X.env=[(false,eval b X.env)]:=by rfl):X5 X C tg (.Call (.Name "range" p) [a,b] [] pos) (eF ea):=
 (Wf hg hm ha hs hs2).imp λσ H R hq=>by
  obtain⟨Pr,F,env,env',ds,r,e,q⟩:=hq;obtain⟨as,aJ,e1,e2⟩:=aO e;obtain⟨e3,rfl⟩:=dz e2;refine⟨Pr,F,env,env',as,r,e1,λvs H1 F1 r1 s1 p1=>?_⟩;have:=hl _ _ _ e1;unfold vg at e3;split at e3
  ·simp at this
  ·split at e3
   ·rename_i hf;cases e3;have hb:=wg hf.1;have hb2:=wg hf.2;exact⟨_,_,p1.ao7,⟨hb.1,hb.2,hb2.1,hb2.2⟩,q _ H1 F1 r1 s1 Bp⟩
   ·cases e3
  all_goals simp_all
theorem Xd(env)(ds)(env')(h:aj env = .ok ds env'):ds.length=0:=by cases h;rfl
theorem Sv(hr:∀env ds env',r env = .ok ds env'->ds.length=n)(env)(ds)(env')(h:aa a r env = .ok ds env'):ds.length=n+1:=by
 obtain⟨d,aJ,e1,e2⟩:=aO h;obtain⟨Ep,dB,e3,e4⟩:=aO e2
 grind
theorem cu.qO{K:Fg}(h:cu K F ds vs)(e:L2.qO ds k=some d):∃v,L2.qO vs k=some v/\Rep K F d v:=by
 unfold L2.qO at e ⊢;rw[h.length];obtain⟨j,h1,h2⟩:=Qxy.mp e;obtain⟨v,h3,h4⟩:=h.get h2
 simp_all
def bZ:D->D->Option D
 | .lst xs,.int k=>qO xs k
 | .arr xs,.int k=>qO xs k
 | .tup xs,.int k=>qO xs k
 | .str x,.int k=>(qO x k).map λc=>.str [c]
 | _,_=>none
theorem afO:rA C (rIx C.K) bZ:=by
 intro Pr F env σ H x y d vx vy Q r px py e q;unfold bZ at e;split at e
 ·obtain⟨z,a,vs,rfl,h1,h2⟩:=px.lst r.fr;cases py.int;obtain⟨v,e1,p1⟩:=h2.qO e;exact .inl ⟨a,vs,_,v,rfl,rfl,jR.of h1,e1,q _ _ F r (aY.refl F) p1⟩
 ·obtain⟨z,a,vs,rfl,h1,h2⟩:=px.arr r.fr;cases py.int;obtain⟨v,e1,p1⟩:=h2.qO e;exact .inl ⟨a,vs,_,v,rfl,rfl,h1,e1,q _ _ F r (aY.refl F) p1⟩
 ·obtain⟨z,a,vs,rfl,h1,_,h2⟩:=px.tup r.fr;cases py.int;obtain⟨v,e1,p1⟩:=h2.qO e;exact .inr<|.inl ⟨a,vs,_,v,rfl,rfl,h1,e1,q _ _ F r (aY.refl F) p1⟩
 ·obtain⟨rfl,z⟩:=px.str;cases py.int;obtain⟨c,e1,rfl⟩:=Qww.mp e;exact .inr<|.inr ⟨_,_,c,rfl,rfl,by assumption,by assumption,q _ _ F r (aY.refl F) ⟨rfl,by show 1<=sizeLine;decide⟩⟩
 ·cases e
theorem alA(hK:X.K=C.K)(ha:PX X C x a)(hb:PXB X C y b)(hs:yf y:=by intro _ _;rfl):PX X C (.Subscript x y pos) (aL bZ a b):=by have h:=(afM (pos:=pos) aaS ha hb hs);rw[hK] at h;exact h.imp<|K8 afO
theorem ag8{px:Pos}(i)(hK:X.K=C.K)(hN:X.N[i]? = some x)(hv:Aa X.env.scope x)(hb:PXB X C y b)(hs:yf y:=by intro _ _;rfl)
  (hd:qi x:=by decide) (hcd:Am x:=by decide):PX X C (.Subscript (.Name x px) y pos) (az bZ i b):=by
 have h:=(afM (pos:=pos) aaS (ni (pos:=px) hN hv hd hcd) hb hs);rw[hK] at h;exact h.imp<|yd afO
def cutD{α:Type}(xs:List α)(lo hi:Option Int):List α:=(xs.drop (HT.gZ xs.length 0 lo)).take (HT.gZ xs.length xs.length hi - HT.gZ xs.length 0 lo)
theorem uN{α:Type}(xs:List α)(lo hi):(cutD xs lo hi).length<=xs.length:=by unfold cutD;rw[Qw4,Qx4];omega
theorem cu.cut{K:Fg}(h:cu K F ds vs)(lo hi):cu K F (cutD ds lo hi) (Ar vs lo hi):=by unfold cutD Ar;rw[h.length];exact cu.take _<|cu.drop _ h
abbrev EY:=Env->R (Option Int)
inductive tP (C:Cfg) (ev:EY) (σ:L2.St) (H:Hp) (Q:Option Int->Hp->Prop):Prop
 | mk (Pr F:Hp) (env env':Env) (o:Option Int) (_:Rel C Pr F env σ H) (_:ev env = .ok o env') (_:∀H' F',Rel C Pr F' env' σ H'->aY F F'->Q o H'):tP C ev σ H Q
def PXP(X:Cx)(C:Cfg)(e:Option Expr)(ev:EY):Prop:=PO X e (tP C ev)
theorem _root_.L2.PO.imp{X:Cx}{e:Option Expr}{t t':TO}(h:PO X e t)(i:∀σ H Q,t' σ H Q->t σ H Q):PO X e t':=λpins s σ H Q I q=>h pins s σ H Q I<|i σ H Q q
noncomputable def jD:EY:=λenv=>.ok none env
def tU(a:Ev):EY:=λenv=>bindR (a env) λd aJ=>match d with
 | .int i=>.ok (some i) aJ
 | _=>.stuck
theorem Zh:PXP X C none jD:=adl.imp λσ H Q h=>by
 obtain⟨Pr,F,env,env',d,r,e,q⟩:=h;cases e;exact q H F r<|aY.refl F
def gSl:D->Option Int->Option Int->Option D
 | .lst xs,lo,hi=>some (.lst (cutD xs lo hi))
 | .arr xs,lo,hi=>some (.lst (cutD xs lo hi))
 | .tup xs,lo,hi=>if HT.gZ xs.length 0 lo=0/\HT.gZ xs.length xs.length hi=xs.length then none else some (.tup (cutD xs lo hi))
 | _,_,_=>none
def zx(a:Ev)(lo hi:EY):Ev:=λenv=>bindR (a env) λd aJ=>bindR (lo aJ) λl dB=>bindR (hi dB) λu zy=>fc (gSl d l u) zy
theorem YH{lo hi:Option Int}(r:Rel C Pr F env σ H)(p:lq C.K F H x v)(e:gSl x lo hi=some d)(q:∀v H' F',Rel C Pr F' env σ H'->aY F F'->Rep C.K F' d v->Q v H') :
  alh C.K v lo hi H Q\/ag1 C.K v lo hi H Q:=by
 unfold gSl at e;split at e
 ·cases e;obtain⟨z,a,vs,rfl,h1,h2⟩:=p.lst r.fr;refine .inl ⟨a,vs,rfl,jR.of h1,λb hb=>?_⟩;obtain⟨r2,s2⟩:=r.new hb;exact q _ _ _ r2 s2 ⟨Qqj (uN _ _ _) z,b,_,rfl,bD,cu.mono s2 _ _<|h2.cut lo hi⟩
 ·cases e;obtain⟨z,a,vs,rfl,h1,h2⟩:=p.arr r.fr;refine .inl ⟨a,vs,rfl,h1,λb hb=>?_⟩;obtain⟨r2,s2⟩:=r.new hb;exact q _ _ _ r2 s2 ⟨Qqj (uN _ _ _) z,b,_,rfl,bD,cu.mono s2 _ _<|h2.cut lo hi⟩
 ·obtain⟨z,a,vs,rfl,h1,_,h2⟩:=p.tup r.fr;split at e
  ·cases e
  ·rename_i hn;cases e;refine .inr ⟨a,vs,rfl,h1,by rw[h2.length];exact hn,λb hb=>?_⟩;obtain⟨r2,s2⟩:=r.new hb;exact q _ _ _ r2 s2 ⟨Qqj (uN _ _ _) z,b,_,rfl,oH.of bD,cu.mono s2 _ _<|h2.cut lo hi⟩
 ·cases e
theorem aly{lo hi:Option Expr}(hK:X.K=C.K)(ha:PX X C x a)(hl:PXP X C lo el)(hh:PXP X C hi eh):PX X C (.Subscript x (.Slice lo hi none p2) pos) (zx a el eh):=by have h:=xB (pos:=pos) (p2:=p2) (Tj.or Tw JK) ha hl hh;rw[hK] at h;refine h.imp λσ H Q hq=>?_;obtain⟨Pr,F,env,env',d,r,e,q⟩:=hq;obtain⟨x,aJ,e1,e2⟩:=aO e;obtain⟨l,dB,e3,e4⟩:=aO e2;obtain⟨u,zy,e5,e6⟩:=aO e4;obtain⟨e7,rfl⟩:=dz e6;refine⟨Pr,F,env,aJ,x,r,e1,λv H1 F1 r1 s1 p1=>⟨Pr,F1,aJ,dB,l,r1,e3,λH2 F2 r2 s2=>⟨Pr,F2,dB,env',u,r2,e5,λH3 F3 r3 s3=>?_⟩⟩⟩;exact YH r3 (.inl<|Rep.mono (s2.trans s3) _ _ p1) e7 λv H' F' r' s' p'=>q v H' F' r' (((s1.trans s2).trans s3).trans s') p'
noncomputable def rB(kvs:List (D×D))(q:Key):Option D:=match kvs with
 | []=>none
 | (k,d)::r=>if tM k=some q then some d else rB r q
noncomputable def Ag(kvs:List (D×D))(q:Key)(d:D):List (D×D):=match kvs with
 | []=>[]
 | (k,e)::r=>(if tM k=some q then (k,d) else (k,e))::Ag r q d
def putD(kvs:List (D×D))(k:D)(q:Key)(d:D):List (D×D):=if (rB kvs q).isSome then Ag kvs q d else kvs++[(k,d)]
theorem fL.length{K:Fg}:∀{ds} {vs},fL K F ds vs->vs.length=ds.length
 | [],_,h=>by cases h;rfl
 | (k,d)::ds,vs,h=>by
  obtain⟨q,v,r,rfl,_,_,h2⟩:=h;rw[Qq3,Qq3,h2.length]
theorem fL.val{K:Fg}(q):∀{ds} {vs},fL K F ds vs->(rB ds q=none/\wV vs q=none)\/∃d v,rB ds q=some d/\wV vs q=some v/\Rep K F d v
 | [],_,h=>by cases h;exact .inl ⟨rfl,rfl⟩
 | (k,d)::ds,vs,h=>by
  obtain⟨q',v,r,rfl,hk,h1,h2⟩:=h;unfold rB;by_cases e:q'=q
  ·subst e;rw[if_pos hk];exact .inr ⟨d,v,rfl,wR rfl,h1⟩
  ·rw[if_neg (λz=>e<|Qw6<|hk.symm.trans z),wU e];exact fL.val q h2
theorem fL.set{K:Fg}(q)(hd:Rep K F d v):∀{ds} {vs},fL K F ds vs->fL K F (Ag ds q d) (vs.map λkv=>if kv.1=q then (kv.1,v) else kv)
 | [],_,h=>by cases h;exact rfl
 | (k,e)::ds,vs,h=>by
  obtain⟨q',u,r,rfl,hk,h1,h2⟩:=h;unfold Ag;by_cases e':q'=q
  ·subst e';rw[if_pos hk];refine⟨q',v,_,?_,hk,hd,fL.set q' hd h2⟩
   simp_all
  ·rw[if_neg (λz=>e'<|Qw6<|hk.symm.trans z)];refine⟨q',u,_,?_,hk,h1,fL.set q hd h2⟩
   simp_all
theorem fL.append{K:Fg}:∀{ds es} {vs ws},fL K F ds vs->fL K F es ws->fL K F (ds++es) (vs++ws)
 | [],es,vs,ws,h,g=>by cases h;exact g
 | (k,d)::ds,es,vs,ws,h,g=>by
  obtain⟨q,v,r,rfl,h0,h1,h2⟩:=h;exact⟨q,v,r++ws,rfl,h0,h1,fL.append h2 g⟩
theorem Mq(q)(d):∀kvs,(Ag kvs q d).length=kvs.length
 | []=>rfl
 | (k,e)::r=>by unfold Ag;rw[Qq3,Qq3,Mq q d r]
theorem M8(kvs)(k)(q)(d):(putD kvs k q d).length<=kvs.length+1:=by
 unfold putD;split
 ·rw[Mq];omega
 simp_all
theorem fL.put{K:Fg}(h:fL K F ds vs)(hk:tM k=some q)(hd:Rep K F d v):fL K F (putD ds k q d) (putK vs q v):=by
 unfold putD putK;rw[Bw];rcases h.val q with ⟨e1,e2⟩|⟨d',v',e1,e2,_⟩
 ·rw[e1,e2];exact h.append ⟨q,v,[],rfl,hk,hd,rfl⟩
 ·rw[e1,e2];exact fL.set q hd h
theorem aay{K:Fg}(h:tM k=some q)(p:Rep K F k v):v=kV q:=by
 cases k with
 | int i=>cases h;exact p
 | str x=>cases h;exact p.1
 | _=>cases h
theorem aaz{K:Fg}(h:tM k=some q)(p:lq K F H k v):v=kV q:=by
 cases k with
 | int i=>cases h;exact p.int
 | str x=>cases h;exact p.str.1
 | _=>cases h
theorem lq.dct{K:Fg}(s:aY F H)(h:lq K F H (.dct kvs) v):kvs.length<=sizeLine/\∃a ks,v = .ref a/\Rd H a (.dK ks)/\fL K F kvs ks:=by
 rcases h with ⟨z,a,vs,rfl,h1,h2⟩|⟨a,rfl,z,vs,h1,h2⟩
 ·exact⟨z,a,vs,rfl,aY.rd s h1,h2⟩
 ·exact⟨z,a,vs,rfl,.inl h1,h2⟩
def afH:R2:=λx y H Q=>∃a v,x = .ref a/\XD H a y (some v)/\Q v H
def lW:D->D->Option D
 | .dct kvs,k=>(tM k).bind λq=>rB kvs q
 | _,_=>none
theorem adJ:rA C afH lW:=by
 intro Pr F env σ H x y d vx vy Q r px py e q;unfold lW at e;split at e
 ·obtain⟨z,a,ks,rfl,h1,h2⟩:=px.dct r.fr;obtain⟨k,hk,hv⟩:=Qxy.mp e;cases aaz hk py;rcases h2.val k with ⟨e1,_⟩|⟨d',v',e1,e2,p2⟩
  ·simp_all
  ·rw[e1] at hv;cases hv;exact⟨a,v',rfl,.inl ⟨ks,k,h1,rfl,e2.symm⟩,q _ _ F r (aY.refl F) p2⟩
 ·cases e
theorem Zr{px:Pos}(i)(hu:X.A.units+1<cLine)(hN:X.N[i]? = some x)(hv:Aa X.env.scope x)(hb:PXB X C y b)(hs:abU y:=by intro _ _;rfl)
  (hd:qi x:=by decide) (hcd:Am x:=by decide):PX X C (.Subscript (.Name x px) y pos) (az lW i b):=by
 have h:PE X (.Subscript (.Name x px) y pos) (tOp afH _ _):=adx hu (ni hN hv hd hcd) hb hs;exact h.imp<|yd adJ
noncomputable def K1:Ev:=λenv=>.ok (.dct []) env
theorem Zj:PXN X C (.Dict [] [] pos) K1:=ZW.imp λσ H Q hq=>by
 obtain⟨Pr,F,env,env',d,r,e,q⟩:=hq;cases e;exact λp hp=>q _ _ F (r.fresh hp) (aY.refl F)<|New.of r hp ⟨Qxw _,[],bD,rfl⟩
def tW(i:Nat)(k a:Ev):bV:=λenv=>gr (a env) λd aJ=>match aJ[i]? with
 | some (some (_,_))=>gr (k aJ) λkd dB=>(match dB[i]?,tM kd with
  | some (some (true,.dct kvs)),some q=>if kvs.length<sizeLine then .nx (dB.set i (some (true,.dct (putD kvs kd q d)))) else .stuck
  | _,_=>.stuck)
 | _=>.stuck
theorem Zg(hu:X.A.units+1<cLine)(hN:X.N[i]? = some x)(hv:Aa X.env.scope x)(hk:PX X C k ek)(he:PX X C e a)
  (hs:swapsWith e (some (.Subscript (.Name x px) k pos')) pos.line X.env=pure false:=by rfl)
  (hd:qi x:=by decide) (hcd:Am x:=by decide):PXS X C (.Assign [.Subscript (.Name x px) k pos'] e pos) (tW i ek a):=
 (adi hu (ni hN hv hd hcd) hk he hs).imp λD σ H h=>by
  obtain⟨Pr,F,env,r,f⟩:=h;obtain⟨d,aJ,e1,f1⟩:=gP f;refine⟨Pr,F,env,aJ,d,r,e1,λv H1 F1 r1 s1 p1=>?_⟩;split at f1
  ·rename_i o0 d0 h0;obtain⟨v0,hv0,_⟩:=r1.rd h0;obtain⟨kd,dB,e2,f2⟩:=gP f1;refine⟨v0,hv0,Pr,F1,aJ,dB,kd,r1,e2,λvk H2 F2 r2 s2 p2=>?_⟩;split at f2
   ·rename_i kvs q h2 hq;split at f2
    ·rename_i hz;obtain⟨b,g1,⟨z,ks,g2,g3⟩,g4,g5⟩:=r2.own i _ h2;rw[hv0] at g1;cases g1;have hz':ks.length<sizeLine:=by rw[g3.length];exact hz
     cases aay hq p2;refine⟨b,_,rfl,abX.k g2 hz',?_⟩;refine f2 σ _ F2 (r2.write h2 hv0 ⟨Qqj (M8 _ _ _ _) hz,_,bD,g3.put hq<|Rep.mono s2 _ _ p1⟩)<|s1.trans s2
    ·exact f2.elim
   ·exact f2.elim
  ·exact f1.elim
noncomputable def WX(x:List Nat):List (List Nat)->List (List Nat)
 | []=>[x]
 | y::r=>if y<x then y::WX x r else x::y::r
noncomputable def jN:List (List Nat)->List (List Nat)
 | []=>[]
 | x::r=>WX x (jN r)
theorem zm(x):∀l,(WX x l).Perm (x::l)
 | []=>.refl _
 | y::r=>by
  unfold WX;split
  ·exact((zm x r).cons y).trans<|.swap x y r
  rfl
theorem ji:∀l,(jN l).Perm l
 | []=>.refl _
 | x::r=>(zm x<|jN r).trans<|(ji r).cons x
theorem zU(x):∀l,l.Pairwise (λa b=>a<=b)->(WX x l).Pairwise (λa b=>a<=b)
 | [],_=>List.pairwise_singleton _ _
 | y::r,h=>by
  unfold WX;have h1:=Qz6.mp h;split
  ·rename_i hyx;refine Qz6.mpr ⟨λz hz=>?_,zU x r h1.2⟩;rcases Qwq.mp ((zm x r).mem_iff.mp hz) with rfl|hz
   all_goals grind
  ·rename_i hyx;have hxy:=List.not_lt.mp hyx;refine Qz6.mpr ⟨λz hz=>?_,h⟩
   grind
theorem rD:∀l,(jN l).Pairwise (λa b=>a<=b)
 | []=>.nil
 | x::r=>zU x _<|rD r
theorem GC:∀p l,risingS p l=true->(p::l).Pairwise (λa b=>a.cps.toList<=b.cps.toList)
 | p,[],_=>List.pairwise_singleton _ _
 | p,x::r,h=>by
  have h':(!Spec.ltCps x.cps.toList p.cps.toList&&risingS x r)=true:=h;rw[Qj4,PyProof.Rows.ltCps_eq] at h';have hxp:¬x.cps.toList<p.cps.toList:=by simp_all
  have ih:=GC x r h'.2;refine Qz6.mpr ⟨λz hz=>?_,ih⟩;have hpx:=List.not_lt.mp hxp;rcases Qwq.mp hz with rfl|hz
  ·exact hpx
  ·exact List.le_trans hpx<|(Qz6.mp ih).1 z hz
theorem V0:∀l,sortedS l=true->l.Pairwise (λa b=>a.cps.toList<=b.cps.toList)
 | [],_=>.nil
 | x::r,h=>GC x r h
theorem VP(s):strOf s.cps.toList=s:=by rfl
theorem JF(e:ss=xs.map strOf)(hp:ss'.Perm ss)(hs:sortedS ss'=true):ss'=(jN xs).map strOf:=by
 subst e;have h1:(ss'.map λs=>s.cps.toList).Perm xs:=by
  have:=hp.map (λs:Str=>s.cps.toList);rw[Qxj] at this;have e2:xs.map ((λs:Str=>s.cps.toList) ∘ strOf)=xs:=by rw[List.map_congr_left (g:=id) (λx _=>by simp[strOf])];simp
  rwa [e2] at this
 have h2:(ss'.map λs=>s.cps.toList)=jN xs:=by refine List.Perm.eq_of_pairwise (λa b _ _=>List.le_antisymm) ?_ (rD xs)<|h1.trans (ji xs).symm;exact List.pairwise_map.mpr<|V0 ss' hs
 rw[<-h2,Qxj];have e3:∀l:List Str,l.map (strOf ∘ λs=>s.cps.toList)=l:=λl=>by
  induction l with
  | nil=>rfl
  | cons a r ih=>rw[Qq4,ih];show strOf a.cps.toList::r=a::r;rw[VP]
 exact(e3 ss').symm
theorem wO:∀{us} {ss},StrsAre us ss->Vals (ss.map V.str) us
 | _,_,.nil=>.nil
 | _,_,.cons y t h=>.cons ⟨t,rfl⟩<|wO h
theorem xr{K:Fg}:∀(xs:List (List Nat)),(∀x∈xs,x.length<=sizeLine)->cu K F (xs.map D.str) (xs.map λz=>V.str (strOf z))
 | [],_=>rfl
 | x::xs,h=>⟨_,_,rfl,⟨rfl,h x<|Qq5 ..⟩,xr xs λy hy=>h y<|Qq0 _ hy⟩
def J4(K:Fg):List V->Hp->VK->Prop:=λxs H Q=>∃p zs,xs=[.ref p]/\(jR K H p (zs.map λz=>V.str (strOf z))\/∃ks,Rd H p (.dK ks)/\ks.map (·.1)=zs.map λz=>Sum.inr (strOf z))/\zs.length<64/\∀l,H l=none->Q (.ref l) (upd H l (.lst ((jN zs).map λz=>V.str (strOf z))))
theorem Mm{σ:L2.St}{a:Addr}(I:Inv X pins σ H s)(hz:zs.length<64)(q:∀l,H l=none->Q (.ref l) (upd H l (.lst ((jN zs).map λz=>V.str (strOf z)))))
  (a1:StrsAre out.toList ss') (a2:ss'.Perm (zs.map strOf)) (a3:sortedS ss'=true) (hk:∀b o,s.heap.get? b=some o->h'.get? b=some o) (ha:s.heap.objs.size<=a) (ho:h'.get? a=some (seqObj "list" out e)):EP X pins σ Q (.ref a) { s with heap:=h',toks:=tk }:=by
 have e1:=JF rfl a2 a3;subst e1;have rv:=wO a1;rw[Qxj] at rv;have hl:((jN zs).map λz=>V.str<|strOf z).length<=sizeLine:=by rw[Qqz,(ji zs).length_eq];exact Qqj (Qkq hz) (by decide)
 exact⟨.ref a,_,I.laid hk ha<|show iZ X.prog X.w _ h' a (.lst<|(jN zs).map λz=>V.str<|strOf z) from⟨hl,out.toList,e,rv,by assumption⟩,rfl,q a<|I.hok.fresh ha⟩
theorem Pa(hc:X.calm=true):kZ X (.builtin "sorted") (J4 X.K):=by
 intro pins s σ H xs us Q I r h;obtain⟨p,zs,rfl,hq,hz,q⟩:=h;obtain⟨u,rfl,rx⟩:=vals1 r;cases rx;rcases hq with hq|⟨ks,hq,hks⟩
 ·obtain⟨its,r',pl,hzz⟩:=I.list hq;have hS:StrsAre its (zs.map strOf):=yl r';refine sorted_strs pl.isList hS (by rw[<-r'.length,Qqz];exact hz) λout ss' a1 a2 a3=>?_;obtain⟨e,he⟩:=sortedAll_at s.heap its out;exact Mm I hz q a1 a2 a3 (λb o e=>sortedAll_old e) (Nat.le_succ _) he
 ·obtain⟨hz2,hsys,vs,rkv,hD⟩:=OJ I.hok hq;obtain⟨ep,hat⟩:=hD.dictAt;have hlen:vs.length=zs.length:=by
   have e1:=rkv.length;have e2:=Qx7 List.length hks;rw[Qqz,Qqz] at e2;omega
  refine Calls.call_function_entry kind_sorted plain_sorted entry_sorted (args_sorted1 _) ?_;unfold Builtin.«sorted»;refine Qqx<|Qqk ?_;refine Qqx<|PySem.W.kdu_collect (PySem.W.kdl_dict hsys) (I.ok.hd hc) hat (by rw[hlen];exact Qqj (Qkq hz) (by decide)) λh' tk acc hk hacc=>?_;have hl:acc.toList.length=vs.length:=by rw[Qz8];exact hacc.1
  have hS:StrsAre acc.toList (zs.map strOf):=by
   have keys:∀j,j<vs.length->∃v t,acc.toList[j]? = some v/\v=Value.str (strOf<|zs.getD j []) t:=λj hj=>by
    have hja:j<acc.size:=by rw[hacc.1];exact hj
    have e1:acc[j]? = some acc[j]:=by simp[hja]
    obtain⟨k,x,hx,hkx⟩:=hacc.2 j _ e1;have e2:(vs.map (·.1))[j]? = some k:=by rw[Qw1,hx];rfl
    rw[<-rkv.keys,hks,Qw1] at e2;obtain⟨z,hzj,rfl⟩:=Qww.mp e2;rcases gM (k:=Sum.inr<|strOf z) (v:=acc[j]) hkx with ⟨i,t,z1,_⟩|⟨y,t,z1,z2⟩
    ·cases z1
    ·cases z1;exact⟨_,t,by rw[Array.getElem?_toList];exact e1,by rw[z2,Qq8,hzj];rfl⟩
   have build:∀us (ys:List (List Nat)),us.length=ys.length->(∀j,j<us.length->∃v t,us[j]? = some v/\v=Value.str (strOf<|ys.getD j []) t)->StrsAre us (ys.map strOf):=λus=>by
    induction us with
    | nil=>intro ys hl _;cases ys with
     | nil=>exact .nil
     | cons _ _=>cases hl
    | cons u us ih=>intro ys hl hk;cases ys with
     | nil=>cases hl
     | cons y ys=>
      obtain⟨v,t,e1,e2⟩:=hk 0<|Nat.succ_pos _;cases e1;rw[e2];exact .cons _ t (ih ys (by simpa using hl) λj hj=>by
       obtain⟨v,t,e1,e2⟩:=hk (j+1) (by simpa using hj);exact⟨v,t,by simpa using e1,by simpa using e2⟩)
   exact build _ _ (by rw[hl,hlen]) λj hj=>keys j (by rw[<-hl];exact hj)
  refine Qqx<|wpAny_newList ?_ (by rw[hl,hlen];exact Qqj (Qkq hz) (by decide));have hoL:(h'.push<|seqObj "list" acc.toList.toArray 0).get? h'.objs.size=some (seqObj "list" acc.toList.toArray 0):=Qq2 _ rfl;show wpAny _ _ _ _ _ { s with heap:=h'.push<|seqObj "list" acc.toList.toArray 0,toks:=tk };refine Qqx<|Qjq<|Qzj slot_list_sort ⟨_,hoL,rfl⟩ entry_list_sort (list_sort_treeK strKind_oneLt hoL hS.keysOf (λv₁ v₂ rest e=>keyKind_strs (by rw[<-e];exact hS)) (by rw[hl,hlen];exact hz) λst' b1 b2=>⟨_,rfl,?_⟩)<|args_list_sort _;obtain⟨ss',a1,a2,a3⟩:=sorted_out_str hS b1 b2;obtain⟨e,he⟩:=sortedHeap_at (out:=(arrOf st').map (·.2)) hoL;refine Qqk ⟨_,rfl,?_⟩;have I1:L2.Inv X pins σ H { s with heap:=h',toks:=tk }:=I.kept hk;refine Mm (s:={ s with heap:=h',toks:=tk }) (tk:=tk) I1 hz q a1 a2 a3 (λb o e=>?_) (Qqw _) he;have lt':=Qqv e;rw[sortedHeap_old (Qwv lt') (by rw[size_push'];exact Nat.lt_succ_of_lt lt')];exact Qqq _ e
def mU:List D->Option D
 | [.lst ds]=>(jM ds).bind λzs=>if zs.length<64/\(∀z∈zs,z.length<=sizeLine) then some (.lst ((jN zs).map .str)) else none
 | [.dct kvs]=>(jM (kvs.map (·.1))).bind λzs=>if zs.length<64/\(∀z∈zs,z.length<=sizeLine) then some (.lst ((jN zs).map .str)) else none
 | _=>none
theorem fL.keys{K:Fg}:∀{kvs} {ks} {zs},fL K F kvs ks->jM (kvs.map (·.1))=some zs->ks.map (·.1)=zs.map λz=>Sum.inr (strOf z)
 | [],ks,zs,h,e=>by cases h;simp[jM] at e;subst e;rfl
 | (k,d)::kvs,ks,zs,h,e=>by
  obtain⟨q,v,r,rfl,h0,h1,h2⟩:=h;cases k with
  | str x=>
   cases h0;have e':(jM<|kvs.map (·.1)).map (x :: ·)=some zs:=by assumption
   obtain⟨zs',e1,rfl⟩:=Qww.mp e';rw[Qq4,Qq4,fL.keys h2 e1]
  | _=>simp[jM] at e
theorem QT(r:Rel C Pr F env σ H)(hl:H l=none)(hz:zs.length<64/\∀z∈zs,z.length<=sizeLine) :
  oJ C.K F (upd H l (.lst ((jN zs).map λz=>V.str (strOf z)))) (.lst ((jN zs).map .str)) l:=by
 refine⟨by rw[Qqz,(ji zs).length_eq];exact Qqj (Qkq hz.1) (by decide),_,bD,xr _ λz h=>hz.2 z<|(ji zs).mem_iff.mp h⟩
theorem Xk:CallD C (J4 C.K) mU:=by
 intro Pr F env σ H ds d vs Q r p e q;have fin:∀zs l,(zs.length<64/\∀z∈zs,z.length<=sizeLine)->d = .lst ((jN zs).map .str)->H l=none->Q (.ref l) (upd H l<|.lst<|(jN zs).map λz=>V.str<|strOf z):=λzs l hz hd hl=>by
  subst hd;obtain⟨F2,r2,s2,p2⟩:=(r.fresh hl).keep<|New.of r hl<|QT r hl hz;exact q _ _ F2 r2 s2 p2
 unfold mU at e;split at e
 ·obtain⟨v,w,rfl,p1,p2⟩:=p;cases p2;obtain⟨zs,e1,e2⟩:=Qxy.mp e;split at e2
  ·rename_i hz;cases e2;obtain⟨z,a,ws,rfl,h1,h2⟩:=p1.lst r.fr;have e6:=yV e1 h2;subst e6;exact⟨a,zs,rfl,.inl<|jR.of h1,hz.1,λl hl=>fin zs l hz rfl hl⟩
  ·cases e2
 ·obtain⟨v,w,rfl,p1,p2⟩:=p;cases p2;obtain⟨zs,e1,e2⟩:=Qxy.mp e;split at e2
  ·rename_i hz;cases e2;obtain⟨z,a,ks,rfl,h1,h2⟩:=p1.dct r.fr;exact⟨a,zs,rfl,.inr ⟨ks,h1,h2.keys e1⟩,hz.1,λl hl=>fin zs l hz rfl hl⟩
  ·cases e2
 ·cases e
theorem Wb{p:Pos}(hK:X.K=C.K)(hc:X.calm=true)(hg:Gl X "sorted")(hm:X.mg "sorted" = none)(ha:afu X C [e] a)(he:Qd e X.env:=by rfl)(hpl:(backTo pos (starEach [] X.env)).any (·.1)=false:=by rfl) :
  PX X C (.Call (.Name "sorted" p) [e] [] pos) (ao mU a):=
 uv (by rw[<-hK];exact Pa hc) Xk hg hm PyProof.Rows.boot_sorted ha (by decide) (by decide) he hpl
end
theorem Rel.pad(m)(r:Rel C Pr F env σ H):Rel C Pr F (env++List.replicate m none) (qW m σ) H:=by
 have un:∀(j:Nat) x,(env++List.replicate m none)[j]? = some (some x)->env[j]? = some (some x):=λj x he=>by
  grind
 have up:∀(j:Nat) v,σ[j]? = some (some v)->(qW m σ)[j]? = some (some v):=λj v h=>by
  unfold qW
  grind
 have dn:∀(j:Nat) v,(qW m σ)[j]? = some (some v)->σ[j]? = some (some v):=λj v he=>by
  unfold qW at he
  grind
 refine⟨r.pr,r.fr,by unfold qW;rw[Qq1,Qq1,Qxz,Qxz,r.len],λj e he=>?_,λj e he=>?_,λj k e f b hj hk g1 g2=>r.apart j k e f b (un _ _ hj) (un _ _ hk) (dn _ _ g1)<|dn _ _ g2,r.dj,λj a h=>up _ _<|r.fix j a h⟩
 ·obtain⟨v,h1,h2⟩:=r.val j e<|un _ _ he
  simp_all
 ·obtain⟨a,h1,h2⟩:=r.own j e<|un _ _ he
  simp_all
theorem Rel.cut{σ σ0:L2.St}(r:Rel C Pr F env σ H)(h:σ.take σ0.length=σ0)(fix:∀i a,C.fx i=some a->σ0[i]? = some (some (V.ref a))):Rel C Pr F (env.take σ0.length) σ0 H:=by
 have hl:σ0.length<=σ.length:=by grind
 have un:∀j x,(env.take σ0.length)[j]? = some (some x)->env[j]? = some (some x)/\j<σ0.length:=λj x he=>by
  grind
 have dn:∀j,j<σ0.length->σ[j]? = σ0[j]?:=λj hj=>by
  grind
 refine⟨r.pr,r.fr,by rw[Qw4,r.len];omega,λj e he=>?_,λj e he=>?_,λj k e f b hj hk g1 g2=>r.apart j k e f b (un _ _ hj).1 (un _ _ hk).1 (by simp_all) (by simp_all),r.dj,fix⟩
 ·obtain⟨e1,e2⟩:=un _ _ he;rw[<-dn j e2];exact r.val j e e1
 ·obtain⟨e1,e2⟩:=un _ _ he;rw[<-dn j e2];exact r.own j e e1
noncomputable def vp(g:GV)(c:gj)(e:Ev):List D->Env->R (List D)
 | [],env=>.ok [] env
 | d::ds,env=>(match g d env with
  | none=>.stuck
  | some e1=>bindR (c e1) λb e2=>if b=true then bindR (e e2) λy e3=>bindR (vp g c e ds e3) λys e4=>.ok (y::ys) e4 else vp g c e ds e2)
def dH(lo n:Nat)(it:dq)(g:GV)(c:gj)(e:Ev):Ev:=λenv=>bindR (it env) λds aJ=>if aJ.length=lo then bindR (vp g c e ds (aJ++List.replicate (n - lo) none)) λys dB=>(if ys.length<=sizeLine then .ok (.lst ys) (dB.take lo) else .stuck) else .stuck
def PQ(X:Cx)(C:Cfg)(ifs:List Expr)(ev:gj):Prop:=PIf X ifs (tT C ev)
noncomputable def bY:gj:=λenv=>.ok true env
theorem Zm:PQ X C [] bY:=λpins s σ H Q I h=>by
 obtain⟨Pr,F,env,env',b,r,e,q⟩:=h;cases e;exact adp pins s σ H Q I<|q H F r<|aY.refl F
theorem afT{lo n:Nat}(h:tN C (dH lo n it g c e) σ H Q):tLC n (tI C it) (tG C lo g) (tT C c) (tE C e) σ H Q:=by
 obtain⟨Pr,F,env,env',d,r,ev,q⟩:=h;obtain⟨ds,aJ,e1,e2⟩:=aO ev;split at e2
 ·rename_i hlo;obtain⟨ys,dB,e3,e4⟩:=aO e2;split at e4
  ·rename_i hz;cases e4;refine⟨Pr,F,env,aJ,ds,r,e1,λJ H1 F1 r1 s1 y1 a ha=>?_⟩;have hσ:=r1.len.symm.trans hlo;have hPa:=r1.pr.free ha;refine⟨λi m σ' H'=>m=ds.length - i/\i<=ds.length/\∃F' lC acc ws rest,Rel C (upd Pr a<|.lst ws) F' lC σ' H'/\aY F1 F'/\cu C.K F' acc ws/\σ'.take lo=σ/\vp g c e (ds.drop i) lC = .ok rest dB/\acc++rest=ys,
    ⟨ds.length,rfl,Qxw _,F1,aJ++List.replicate (n - lo) none,[],[],ys,?_,aY.refl _,rfl,?_,e3,rfl⟩,?_⟩
   ·rw[hσ];exact(r1.aside ha).pad _
   ·unfold qW
    simp_all
   rintro i m σ' H' ⟨rfl,hi,F',lC,acc,ws,rest,r',s',p',t',l',hacc⟩;have hFa:F' a=none:=by
    cases ez:F' a with
    | none=>rfl
    | some w=>have:=r'.dj a w ez;rw[bD] at this;cases this
   by_cases hl:i<ds.length
   ·have hd:=Qqy hl;have hdr:=Qx0 hl;have yy:=y1 i H'<|s'.trans r'.fr;refine .inr ⟨(yy.2 _ hd).1,λσ2 H2=>∃F' lC acc ws rest,Rel C (upd Pr a<|.lst ws) F' lC σ2 H2/\aY F1 F'/\cu C.K F' acc ws/\σ2.take lo=σ/\vp g c e (ds.drop<|i+1) lC = .ok rest dB/\acc++rest=ys,
     λσ2 H2 h2=>⟨ds.length - (i+1),by omega,rfl,hl,h2⟩,λx H2 hy=>?_⟩
    obtain⟨F2,r2,s2,p2⟩:=p8.item r' s' y1 hd hy;rw[hdr] at l';unfold vp at l';cases eg:g ds[i] lC with
    | none=>simp_all
    | some e5=>
     rw[eg] at l';obtain⟨b,e6,c1,l2⟩:=aO l';refine⟨_,F2,lC,e5,ds[i],r2,p2,eg,λσ3 H3 F3 r3 s3 t3=>⟨_,F3,e5,e6,b,r3,c1,λH4 F4 r4 s4=>?_⟩⟩;have t3':=t3.trans t';have s24:=(s2.trans s3).trans s4;cases b with
     | false=>
      rw[if_neg Qwj];rw[if_neg Qwj] at l2;exact⟨F4,e6,acc,ws,rest,r4,s'.trans s24,cu.mono s24 _ _ p',t3',l2,hacc⟩
     | true=>
      rw[if_pos rfl];rw[if_pos rfl] at l2;obtain⟨y,e7,c2,l3⟩:=aO l2;obtain⟨ys2,e8,c3,l4⟩:=aO l3;cases l4;refine⟨_,F4,e6,e7,y,r4,c2,λv H5 F5 r5 s5 p5=>?_⟩;have hlen:acc.length+(ys2.length+1)=ys.length:=by grind
      refine⟨ws,r5.pr _ _ bD,by rw[p'.length];omega,F5,e7,acc++[y],ws++[v],ys2,?_,s'.trans<|s24.trans s5,(cu.mono (s24.trans s5) _ _ p').append<|cu.one p5,t3',c3,by simp_all⟩;have r6:=r5.turn (u:=.lst<|ws++[v]) bD
      rwa [Jq] at r6
   ·have ei:i=ds.length:=by omega
    subst ei;rw[List.drop_length] at l';cases l';rw[Qx5] at hacc;subst hacc;refine .inl ⟨(y1 _ H'<|s'.trans r'.fr).1 (Qjz<|Qqw _) rfl,?_⟩;have sP:aY Pr (upd Pr a<|.lst ws):=mz hPa;have r7:Rel C Pr F' (dB.take lo) σ H':=by
     have:=(r'.less sP).cut (by simp_all) r1.fix
     simp_all
    refine q a H' F' r7 (s1.trans s') ⟨⟨hz,ws,r'.pr _ _ bD,p'⟩,hFa,hPa,λj e he hs=>?_⟩;have hj:=(Qwz.mp hs).1;have he':dB[j]? = some (some (true,e)):=by simp_all
    obtain⟨b,g1,_,_,g4⟩:=r'.own j e he';have:σ'[j]? = some (some<|V.ref a):=by grind
    rw[this] at g1;cases g1;rw[bD] at g4;cases g4
  ·cases e4
 ·cases e2
section
variable{X:Cx}{C:Cfg}{pos:Pos}
theorem ag2(N')(lo)(ok:jA X scope N')(hc:X.calm=true)(hi:X5 X C tg iter it)
  (bg:∀X',dI X scope N' X'->X6 X' C lo tg g) (bc:∀X',dI X scope N' X'->PQ X' C ifs c) (be:∀X',dI X scope N' X'->PX X' C elt e)
  (hs:∀x,foldedSetIterable iter X.env x=pure x:=by intro _;rfl):PXN X C (.ListComp elt [⟨tg,iter,ifs,0⟩] scope pos) (dH lo N'.length it g c e):=
 (alG ok hc hi bg bc be hs).imp λσ H Q h=>afT h
theorem V9(N'){spos py:Pos}(lo)(ok:jA X scope N')(hc:X.calm=true)(hi:X5 X C tg iter it)
  (bg:∀X',dI X scope N' X'->X6 X' C lo tg g) (bc:∀X',dI X scope N' X'->PQ X' C ifs c) (be:∀X',dI X scope N' X'->PX X' C elt e)
  (hN:X.N.Nodup) (hy:X.N[i]? = some y) (hx:Loc X.env.scope y) (hfx:C.fx i=none)
  (hsw:swapsWith (.ListComp elt [⟨tg,iter,ifs,0⟩] scope pos) (some (.Name y py)) spos.line X.env=pure true)
  (hf:X.fn y=true\/X.env.scope.names.lookup y=some .local:=by first|exact .inl rfl|exact .inr rfl|assumption)
  (hs:∀x,foldedSetIterable iter X.env x=pure x:=by intro _;rfl):PXS X C (.Assign [.Name y py] (.ListComp elt [⟨tg,iter,ifs,0⟩] scope pos) spos) (eY i (dH lo N'.length it g c e)):=
 (ZD ok hc hi bg bc be hN hy hx hsw hf hs).imp λD σ H h=>by
  obtain⟨Pr,F,env,r,f⟩:=h;obtain⟨d,aJ,e1,f1⟩:=gP f;have:tN C (dH lo N'.length it g c e) σ H λv H1=>zV i v σ H1 D.nx:=⟨Pr,F,env,aJ,d,r,e1,λv H1 F1 r1 s1 p1=>f1 _ H1 F1 (r1.Rn hfx p1) s1⟩;exact afT this
end
def jQ(K:Fg)(n:Nat)(f:List D->Option D):Sp:=λvs H Q _=>∃(F:Hp) (ds:List D) (d:D),ds.length=n/\aY F H/\cu K F ds vs/\f ds=some d/\
 ∀v H' F',aY H H'->aY F' H'->aY F F'->(∀b o,F' b=some o->F b=some o\/H b=none)->Rep K F' d v->Q v H'
def spN(K:Fg)(n:Nat)(f:List D->Option D):Sp:=λvs H Q _=>∃(F:Hp) (ds:List D) (d:D),ds.length=n/\aY F H/\cu K F ds vs/\f ds=some d/\
 ∀a H' F',aY H H'->aY F' H'->aY F F'->(∀b o,F' b=some o->F b=some o\/H b=none)->oJ K F' H' d a->F' a=none->H a=none->Q (.ref a) H'
def yu(K:Fg)(n:Nat)(f:List D->Option (D×D)):Sp:=λvs H Q _=>∃(F:Hp) (a:Addr) (r:List V) (x:D) (ds:List D) (d x':D),vs = .ref a::r/\ds.length+1=n/\aY F H/\F a=none/\oJ K F H x a/\cu K F ds r/\f (x::ds)=some (d,x')/\
 ∀v H' F',(∀b o,b≠a->H b=some o->H' b=some o)->aY F' H'->aY F F'->(∀b o,F' b=some o->F b=some o\/H b=none)->oJ K F' H' x' a->Rep K F' d v->Q v H'
theorem Rel.after(r:Rel C Pr F env σ H)(s:aY H H')(sF:aY F' H')(sF':aY F F')(nw:∀b o,F' b=some o->F b=some o\/H b=none):Rel C Pr F' env σ H':=by
 refine⟨r.pr.trans s,sF,r.len,λj e he=>?_,λj e he=>?_,r.apart,λb o e=>?_,r.fix⟩
 ·obtain⟨v,h1,h2⟩:=r.val j e he;exact⟨v,h1,Rep.mono sF' _ _ h2⟩
 ·obtain⟨a,h1,h2,h3,h4⟩:=r.own j e he;obtain⟨o,ho⟩:=h2.some;refine⟨a,h1,h2.mono sF' (by rw[ho,s _ _ ho]),?_,h4⟩;cases e:F' a with
  | none=>rfl
  | some u=>
   grind
 ·rcases nw b o e with z|z
  ·exact r.dj b o z
  ·exact r.pr.free z
theorem Rel.ae7(r:Rel C Pr F env σ H)(h:env[i]? = some (some (true,d)))(hs:σ[i]? = some (some (V.ref a)))(s:∀b o,b≠a->H b=some o->H' b=some o)(sF:aY F' H')(sF':aY F F')(nw:∀b o,F' b=some o->F b=some o\/H b=none)(ho:oJ C.K F' H' d' a):Rel C Pr F' (env.set i (some (true,d'))) σ H':=by
 obtain⟨a',h1,h2,h3,h4⟩:=r.own i d h;rw[hs] at h1;cases h1;have hi:=(Qwz.mp h).1;obtain⟨oa,hoa⟩:=h2.some;have ne:∀j e b,j≠i->env[j]? = some (some (true,e))->σ[j]? = some (some<|V.ref b)->b≠a:=λj e b hj he g z=>hj<|r.apart j i e d a he h (by simp_all) hs;have nF:∀b u,F b=none->H b=some u->F' b=none:=λb u e1 e2=>by
  cases e:F' b with
  | none=>rfl
  | some w=>
   grind
 refine⟨λb w e=>?_,sF,by rw[Qz3];exact r.len,λj e he=>?_,λj e he=>?_,λj k e f b hj hk g1 g2=>?_,λb o e=>?_,r.fix⟩
 ·have hb:b≠a:=λz=>by simp_all
  exact s b w hb<|r.pr b w e
 ·by_cases hj:j=i
  ·simp_all
  ·rw[Qwx (Ne.symm hj)] at he;obtain⟨v,g1,g2⟩:=r.val j e he;exact⟨v,g1,Rep.mono sF' _ _ g2⟩
 ·by_cases hj:j=i
  ·simp_all
  ·rw[Qwx (Ne.symm hj)] at he;obtain⟨b,g1,g2,g3,g4⟩:=r.own j e he;obtain⟨ob,hob⟩:=g2.some;exact⟨b,g1,g2.mono sF' (by grind),nF b ob g3 hob,g4⟩
 ·have un:∀(j:Nat) e,(env.set i<|some (true,d'))[j]? = some (some (true,e))->∃e',env[j]? = some (some (true,e')):=λj e he=>by
   grind
  obtain⟨e',hj'⟩:=un j e hj;obtain⟨f',hk'⟩:=un k f hk;exact r.apart j k e' f' b hj' hk' g1 g2
 ·rcases nw b o e with z|z
  ·exact r.dj b o z
  ·exact r.pr.free z
section
variable{X:Cx}{C:Cfg}{pos p:Pos}{k n:Nat}{f:Addr}{fd:FuncData}{ps:List Str}{x:Str}{e:Expr}{es:List Expr}
theorem El(h:ao g a env = .ok d env'):∃ds,a env = .ok ds env'/\g ds=some d:=by
 obtain⟨ds,aJ,e1,e2⟩:=aO h;obtain⟨e3,rfl⟩:=dz e2
 simp_all
theorem ag5(G:qd X.prog X.w X.K X.mg X.base Jk k f fd ps (jQ C.K n g))(hr:lF k X.A)(hg:Gl X x)(hm:X.mg x=some (.ref f))(hk:PySem.W.keepIn X.K (.ref f)=true)(hb:Binds X.K fd ps [])
  (ha:PXA X C (e::es) a) (hn:∀env ds env',a env = .ok ds env'->ds.length=n) (hdb:qi x:=by decide) (he:starEach (e::es) X.env=(false,eval e X.env)::starEach es X.env:=by rfl) (hpl:(backTo pos (starEach es X.env)).any (·.1)=false:=by rfl) :
  PX X C (.Call (.Name x p) (e::es) [] pos) (ao g a):=(J9 G hr hg hm hk hb .nil T9 ha hdb he hpl).imp λσ H Q hq=>by
 obtain⟨Pr,F,env,env',d,r,e,q⟩:=hq;obtain⟨ds,e1,e2⟩:=El e;refine⟨Pr,F,env,env',ds,r,e1,λvs H1 F1 r1 s1 p1=>?_⟩;show jQ C.K n g (vs++[]) H1 Q E0;rw[Qx5];exact⟨F1,ds,d,hn _ _ _ e1,r1.fr,p1,e2,λv H2 F2 t1 t2 t3 t4 p2=>q v H2 F2 (r1.after t1 t2 t3 t4) (s1.trans t3) p2⟩
theorem ac8(G:qd X.prog X.w X.K X.mg X.base Jk k f fd ps (spN C.K n g))(hr:lF k X.A)(hg:Gl X x)(hm:X.mg x=some (.ref f))(hk:PySem.W.keepIn X.K (.ref f)=true)(hb:Binds X.K fd ps [])
  (ha:PXA X C (e::es) a) (hn:∀env ds env',a env = .ok ds env'->ds.length=n) (hdb:qi x:=by decide) (he:starEach (e::es) X.env=(false,eval e X.env)::starEach es X.env:=by rfl) (hpl:(backTo pos (starEach es X.env)).any (·.1)=false:=by rfl) :
  PXN X C (.Call (.Name x p) (e::es) [] pos) (ao g a):=(J9 G hr hg hm hk hb .nil T9 ha hdb he hpl).imp λσ H Q hq=>by
 obtain⟨Pr,F,env,env',d,r,e,q⟩:=hq;obtain⟨ds,e1,e2⟩:=El e;refine⟨Pr,F,env,env',ds,r,e1,λvs H1 F1 r1 s1 p1=>?_⟩;show spN C.K n g (vs++[]) H1 Q E0;rw[Qx5];refine⟨F1,ds,d,hn _ _ _ e1,r1.fr,p1,e2,λb H2 F2 t1 t2 t3 t4 ho hF hH=>q b H2 F2 (r1.after t1 t2 t3 t4) (s1.trans t3) ⟨ho,hF,r1.pr.free hH,λj e he hs=>?_⟩⟩;obtain⟨c,h1,h2,_⟩:=r1.own j e he;rw[hs] at h1;cases h1;obtain⟨u,hu⟩:=h2.some
 simp_all
def fW(f:List D->Option (D×D))(i:Nat)(a:dq):Ev:=λenv=>match env[i]? with
 | some (some (true,_))=>bindR (a env) λds aJ=>(match aJ[i]? with
  | some (some (true,x))=>(match f (x::ds) with
   | some (d,x')=>.ok d (aJ.set i (some (true,x')))
   | none=>.stuck)
  | _=>.stuck)
 | _=>.stuck
theorem alB{py:Pos}(hN:X.N[i]? = some y)(hv:Aa X.env.scope y)(G:qd X.prog X.w X.K X.mg X.base Jk k f fd ps (yu C.K n g))(hr:lF k X.A)(hg:Gl X x)(hm:X.mg x=some (.ref f))(hk:PySem.W.keepIn X.K (.ref f)=true)(hb:Binds X.K fd ps [])
  (ha:PXA X C es a) (hn:∀env ds env',a env = .ok ds env'->ds.length+1=n) (hdb:qi x:=by decide) (he:starEach (.Name y py::es) X.env=(false,eval (.Name y py) X.env)::starEach es X.env:=by rfl) (hpl:(backTo pos (starEach es X.env)).any (·.1)=false:=by rfl)
  (hd:qi y:=by decide) (hcd:Am y:=by decide) :
  PX X C (.Call (.Name x p) (.Name y py::es) [] pos) (fW g i a):=(J9 G hr hg hm hk hb .nil T9 (j8 (ni hN hv hd hcd) ha he) hdb he hpl).imp λσ H Q hq=>by
 obtain⟨Pr,F,env,env',d,r,e,q⟩:=hq;unfold fW at e;split at e
 ·rename_i d0 h0;obtain⟨ds,aJ,e1,e2⟩:=aO e;split at e2
  ·rename_i z hz;split at e2
   ·rename_i d1 z' hg;cases e2;obtain⟨a0,hs0,_⟩:=r.own i _ h0;refine⟨_,hs0,Pr,F,env,aJ,ds,r,e1,λvs H1 F1 r1 s1 p1=>?_⟩;obtain⟨a1,hs1,ho1,hF1,hP1⟩:=r1.own i _ hz;rw[hs0] at hs1;cases hs1;show yu C.K n g (_::vs++[]) H1 Q E0;rw[Qx5];exact⟨F1,a0,vs,z,ds,d,z',rfl,hn _ _ _ e1,r1.fr,hF1,ho1,p1,hg,λv H2 F2 t1 t2 t3 t4 t5 p2=>q v H2 F2 (r1.ae7 hz hs0 t1 t2 t3 t4 t5) (s1.trans t3) p2⟩
   ·cases e2
  ·cases e2
 ·cases e
end
noncomputable def envOf(n:Nat)(ds:List D):Env:=ds.map (λd=>some (false,d))++List.replicate (n - ds.length) none
noncomputable def xX(n:Nat)(x:D)(ds:List D):Env:=some (true,x)::(ds.map (λd=>some (false,d))++List.replicate (n - (ds.length+1)) none)
def bT(n:Nat)(ev:bV)(ds:List D):Option D:=match ev (envOf n ds) with
 | .rt false d _=>some d
 | .nx _=>some .non
 | _=>none
def runN(n:Nat)(ev:bV)(ds:List D):Option D:=match ev (envOf n ds) with
 | .rt true d _=>some d
 | _=>none
def ou(n:Nat)(ev:bV)(ds:List D):Option (D×D):=match ds with
 | []=>none
 | x::r=>(match ev (xX n x r) with
  | .rt false d env=>(match env[0]? with
   | some (some (true,x'))=>some (d,x')
   | _=>none)
  | .nx env=>(match env[0]? with
   | some (some (true,x'))=>some (.non,x')
   | _=>none)
  | _=>none)
noncomputable def C0(K:Fg):Cfg:=⟨K,λ_=>none⟩
noncomputable def C1(K:Fg)(a:Addr):Cfg:=⟨K,λi=>if i=0 then some a else none⟩
noncomputable def Ks(H F:Hp):Hp:=λb=>if (F b).isSome then none else H b
theorem Nu(h:Ks H F b=some o):H b=some o/\F b=none:=by
 unfold Ks at h
 simp_all
theorem CW(h:Ks H F b=none):H b=none\/∃o,F b=some o:=by
 unfold Ks at h;split at h
 ·rename_i z;exact .inr<|Qxq.mp z
 simp_all
theorem GJ{K:Fg}(s:aY F H)(p:cu K F ds vs):Rel (C0 K) (Ks H F) F (envOf N.length ds) (start N vs) H:=by
 have un:∀(j:Nat) x,(envOf N.length ds)[j]? = some (some x)->∃d,x=(false,d)/\ds[j]? = some d:=λj x he=>by
  unfold envOf at he
  grind
 refine⟨λb o e=>(Nu e).1,s,?_,λj d he=>?_,λj d he=>?_,λj k d e a hj hk=>?_,λb o e=>?_,λi a h=>by cases h⟩
 ·unfold envOf L2.start;rw[Qq1,Qq1,Qqz,Qqz,Qxz,Qxz,p.length]
 ·obtain⟨d',z,hd⟩:=un j _ he;cases z;obtain⟨v,h1,h2⟩:=p.get hd;refine⟨v,?_,h2⟩;unfold L2.start
  grind
 ·simp_all
 ·simp_all
 ·unfold Ks;rw[e];rfl
theorem aY.Rv(s1:aY (Ks H F) H')(s2:aY F F')(s3:aY F' H')(sF:aY F H):aY H H':=λb o e=>by
 cases z:F b with
 | none=>exact s1 b o (by unfold Ks;rw[z];exact e)
 | some w=>
  have:=sF b w z;rw[e] at this;cases this;exact s3 b o<|s2 b o z
theorem RJ(s2:aY F F')(dj:∀b o,F' b=some o->Ks H F b=none)(b)(o)(h:F' b=some o):F b=some o\/H b=none:=by
 rcases CW (dj b o h) with z|⟨w,z⟩
 ·exact .inr z
 ·have:=s2 b w z
  simp_all
section
variable{P:Program}{w:World}{K:Fg}{mg:Str->Option Value}{base:Heap}{x qual:Str}{st:Stmt}{f:Addr}{fd:FuncData}{N ps:List Str}{k:Nat}{ev:bV}
abbrev bx(P:Program)(w:World)(K:Fg)(mg:Str->Option Value)(base:Heap)(N:List Str)(qual:Str)(st:Stmt)(f:Addr)(cdv:Value)(A:Around)(outer:List PySem.Env)(s:Shared)(H:Hp)(E:XK):Cx:=(Sy Jk P w K mg base N qual (aK st) f cdv A outer s H E).nox
theorem O4(F:Fun K x qual st f fd)(S:bf N ps (aK st))
  (hb:∀cdv A outer s H E,lF k (A.deeper (envOfC qual (aK st) s.heap.objs.size f cdv))->Li (bx P w K mg base N qual st f cdv A outer s H E) (C0 K) (gK st) ev) :
  qd P w K mg base Jk (k+1) f fd ps (jQ K ps.length (bT N.length ev)):=by
 refine F.ok S (λvs H Q E h=>?_)<|λcdv A outer s H vs Q E hr h=>?_
 ·obtain⟨F0,ds,d,hl,_,p,_⟩:=h;rw[p.length,hl]
 ·obtain⟨F0,ds,d,hl,sF,p,e,q⟩:=h;refine⟨_,hb cdv A outer s H E hr,Ks H F0,F0,envOf N.length ds,GJ sF p,?_⟩;unfold bT at e;split at e
  ·rename_i d' env' h1;cases e;rw[h1];exact λv σ' H' F' r' s' p'=>q v H' F' (aY.Rv r'.pr s' r'.fr sF) r'.fr s' (RJ s' r'.dj) p'
  ·rename_i env' h1;cases e;rw[h1];exact λσ' H' F' r' s'=>q .non H' F' (aY.Rv r'.pr s' r'.fr sF) r'.fr s' (RJ s' r'.dj) rfl
  ·cases e
theorem aeX(F:Fun K x qual st f fd)(S:bf N ps (aK st))
  (hb:∀cdv A outer s H E,lF k (A.deeper (envOfC qual (aK st) s.heap.objs.size f cdv))->Li (bx P w K mg base N qual st f cdv A outer s H E) (C0 K) (gK st) ev) :
  qd P w K mg base Jk (k+1) f fd ps (spN K ps.length (runN N.length ev)):=by
 refine F.ok S (λvs H Q E h=>?_)<|λcdv A outer s H vs Q E hr h=>?_
 ·obtain⟨F0,ds,d,hl,_,p,_⟩:=h;rw[p.length,hl]
 ·obtain⟨F0,ds,d,hl,sF,p,e,q⟩:=h;refine⟨_,hb cdv A outer s H E hr,Ks H F0,F0,envOf N.length ds,GJ sF p,?_⟩;unfold runN at e;split at e
  ·rename_i d' env' h1;cases e;rw[h1];refine λa σ' H' F' r' s' n'=>q a H' F' (aY.Rv r'.pr s' r'.fr sF) r'.fr s' (RJ s' r'.dj) n'.own n'.nF ?_;rcases CW n'.nP with z|⟨u,z⟩
   ·exact z
   ·have:=s' a u z;rw[n'.nF] at this;cases this
  ·cases e
theorem M4(s:aY F H)(hF:F a=none)(ho:oJ K F H y a)(p:cu K F ds vs):Rel (C1 K a) (λb=>if b=a then none else Ks H F b) F (xX N.length y ds) (start N (.ref a::vs)) H:=by
 have un:∀j x,(xX N.length y ds)[j]? = some (some x)->(j=0/\x=(true,y))\/∃i d,j=i+1/\x=(false,d)/\ds[i]? = some d:=λj x he=>by
  unfold xX at he;cases j with
  | zero=>cases he;exact .inl ⟨rfl,rfl⟩
  | succ i=>
   rw[List.getElem?_cons_succ] at he;by_cases hj:i<(ds.map λd=>some (false,d)).length
   ·rw[Qjj hj,Qw1] at he;obtain⟨d,h1,h2⟩:=Qww.mp he;cases h2;exact .inr ⟨i,d,rfl,rfl,h1⟩
   ·rw[List.getElem?_append_right (by omega),List.getElem?_replicate] at he;split at he<;>cases he
 have z0:(start N (.ref a::vs))[0]? = some (some<|V.ref a):=rfl;refine⟨λb o e=>?_,s,?_,λj d he=>?_,λj d he=>?_,λj k d e b hj hk _ _=>?_,λb o e=>?_,λi b h=>?_⟩
 ·have e':=e;split at e'
  ·cases e'
  ·exact(Nu e').1
 ·unfold xX L2.start;simp only[Qq3,Qq1,Qqz,Qxz,p.length,Qq4];omega
 ·rcases un j _ he with ⟨_,z⟩|⟨i,d',rfl,z,hd⟩
  ·cases z
  ·cases z;obtain⟨v,h1,h2⟩:=p.get hd;refine⟨v,?_,h2⟩;unfold L2.start;rw[Qq4,List.cons_append,List.getElem?_cons_succ,Qjj (by rw[Qqz];exact(Qwz.mp h1).1),Qw1,h1]
   rfl
 ·rcases un j _ he with ⟨rfl,z⟩|⟨i,d',rfl,z,hd⟩
  ·cases z;exact⟨a,z0,ho,hF,if_pos rfl⟩
  ·cases z
 ·rcases un j _ hj with ⟨rfl,_⟩|⟨i,d',rfl,z,_⟩
  ·rcases un k _ hk with ⟨rfl,_⟩|⟨i,d',rfl,z,_⟩
   ·rfl
   ·cases z
  ·cases z
 ·show(if b=a then none else Ks H F b)=none;split
  ·rfl
  ·unfold Ks;rw[e];rfl
 ·have h':(if i=0 then some a else none)=some b:=h;split at h'
  ·rename_i hi;cases h';rw[hi];exact z0
  ·cases h'
theorem ajG(F:Fun K x qual st f fd)(S:bf N (y::qs) (aK st))
  (hb:∀cdv A outer s H E a,lF k (A.deeper (envOfC qual (aK st) s.heap.objs.size f cdv))->Li (bx P w K mg base N qual st f cdv A outer s H E) (C1 K a) (gK st) ev) :
  qd P w K mg base Jk (k+1) f fd (y::qs) (yu K (qs.length+1) (ou N.length ev)):=by
 refine F.ok S (λvs H Q E h=>?_)<|λcdv A outer s H vs Q E hr h=>?_
 ·obtain⟨F0,a,r,z,ds,d,z',rfl,hl,_,_,_,p,_⟩:=h;rw[Qq3,Qq3,p.length];exact hl
 ·obtain⟨F0,a,r,z,ds,d,z',rfl,hl,sF,hFa,ho,p,e,q⟩:=h;refine⟨_,hb cdv A outer s H E a hr,_,F0,xX N.length z ds,M4 sF hFa ho p,?_⟩;have fin:∀env' σ' H' F' v d z',env'[0]? = some (some (true,z'))->Rel (C1 K a) (λb=>if b=a then none else Ks H F0 b) F' env' σ' H'->aY F0 F'->Rep K F' d v->(∀v H' F',(∀b o,b≠a->H b=some o->H' b=some o)->aY F' H'->aY F0 F'->(∀b o,F' b=some o->F0 b=some o\/H b=none)->oJ K F' H' z' a->Rep K F' d v->Q v H')->Q v H':=λenv' σ' H' F' v d z' h0 r' s' p' q=>by
   obtain⟨b,g1,g2,g3,g4⟩:=r'.own 0 z' h0;have g5:=r'.fix 0 a rfl;rw[g1] at g5;cases g5;refine q v H' F' (λc o hc e=>?_) r'.fr s' (λc o e=>?_) g2 p'
   ·cases u:F0 c with
    | none=>exact r'.pr c o (by show(if c=a then none else Ks H F0 c)=some o;rw[if_neg hc];unfold Ks;rw[u];exact e)
    | some w=>
     have:=sF c w u;rw[e] at this;cases this;exact r'.fr c o<|s' c o u
   ·by_cases hc:c=a
    ·simp_all
    ·have h1:=r'.dj c o e;have h1':=h1;rw[if_neg hc] at h1';rcases CW h1' with u|⟨w,u⟩
     ·exact .inr u
     ·have:=s' c w u
      simp_all
  unfold ou at e;simp at e;split at e
  ·rename_i d' env' h1;split at e
   ·rename_i z1 h0;cases e;rw[h1];exact λv σ' H' F' r' s' p'=>fin env' σ' H' F' v _ _ h0 r' s' p' q
   ·cases e
  ·rename_i env' h1;split at e
   ·rename_i z1 h0;cases e;rw[h1];exact λσ' H' F' r' s'=>fin env' σ' H' F' .non .non _ h0 r' s' rfl q
   ·cases e
  ·cases e
end
structure Good(X:Cx)(C:Cfg):Prop where
 K:X.K=C.K
 calm:X.calm=true
 un:X.A.units+64<cLine
theorem Good.u1(G:Good X C):X.A.units+1<cLine:=Qxx (Nat.add_le_add_left (by decide:1<=64) _) G.un
theorem Good.u60(G:Good X C):X.A.units+60<cLine:=Qxx (Nat.add_le_add_left (by decide:60<=64) _) G.un
theorem Good.u61(G:Good X C):X.A.units+61<cLine:=Qxx (Nat.add_le_add_left (by decide:61<=64) _) G.un
theorem Good.at(G:Good X C)(h:dI X scope N' X'):Good X' C:=by obtain⟨_,_,_,_,_,rfl⟩:=h;exact⟨G.K,G.calm,G.un⟩
def Own(P:Program)(w:World)(K:Fg)(mg:Str->Option Value)(base:Heap)(x:Str)(k:Nat)(ps:List Str)(sp:Sp):Prop:=
 ∃f fd,qd P w K mg base Jk k f fd ps sp/\mg x=some (.ref f)/\PySem.W.keepIn K (.ref f)=true/\Binds K fd ps []
def Qa(K:Fg)(mg:Str->Option Value)(x:Str)(d:D):Prop:=∃v u,mg x=some u/\RelV v u/\∀F,Rep K F d v
def bW(K:Fg)(mg:Str->Option Value)(x:Str)(st:Stmt)(ps:List Str):Prop:=∃f fd,Fun K x x st f fd/\mg x=some (.ref f)/\Binds K fd ps []
noncomputable def oY:List Str->Bool
 | []=>true
 | x::r=>!(r.contains x)&&oY r
theorem lV:∀{l},oY l=true->l.Nodup
 | [],_=>.nil
 | x::r,h=>by
  have h':(!(r.contains x)&&oY r)=true:=h;rw[Qj4] at h';refine Qz2.mpr ⟨λhm=>?_,lV h'.2⟩
  simp_all
noncomputable def Uz(outer:List (Str×NameKind)):List (Str×NameKind)->Bool
 | []=>true
 | (n,k)::r=>(!decide (k = .free)||decide (outer.lookup n=some .cell)||decide (outer.lookup n=some .free))&&Uz outer r
theorem Oq:∀{l},Uz outer l=true->∀x∈l,x.2 = .free->outer.lookup x.1=some .cell\/outer.lookup x.1=some .free
 | [],_,x,hx,_=>by simp at hx
 | (n,k)::r,h,x,hx,hf=>by
  have h':((!decide (k = .free)||decide (outer.lookup n=some .cell)||decide (outer.lookup n=some .free))&&Uz outer r)=true:=h;rw[Qj4,Bool.or_eq_true,Bool.or_eq_true] at h';rcases Qwq.mp hx with rfl|hx
  ·simp_all
  ·exact Oq h'.2 x hx hf
theorem cM{X:Cx}{scope:Scope}{N':List Str}(h1:scope.kind = .function:=by rfl)(h2:oY (scope.names.map (·.1))=true:=by rfl)(h3:Uz X.env.scope.names scope.names=true:=by rfl)(h4:abx scope.names N' X.N=true:=by rfl)(h5:Nat.ble X.N.length N'.length=true:=by rfl):jA X scope N':=
 ⟨h1,lV h2,Oq h3,h4,Qz4 h5⟩
section
variable{X:Cx}{C:Cfg}{pos p px:Pos}{x y z:Expr}{a b c:Ev}{t u:gj}{i:Nat}{n:Str}
structure Bi(X:Cx)(C:Cfg)(op:Operator)(g:D->D->Option D):Prop where
 ex:∃r,o9 X (binaryOp op) r/\rA C r g
structure Cm(X:Cx)(C:Cfg)(op:CmpOp)(g:D->D->Option D):Prop where
 ex:∃r,o9 X (compareOp op) r/\rA C r g
theorem fQ(G:Good X C):Bi X C .Add cj:=⟨_,adF,by rw[G.K];exact ahW⟩
theorem Pj:Bi X C .Sub qZ:=⟨_,aht,ahL⟩
theorem abG:Bi X C .Mult wG:=⟨_,adD,ahP⟩
theorem anu:Bi X C .Mod ajn:=⟨_,ahy,ahQ⟩
theorem agb:Bi X C .Pow R6:=⟨_,ahw,ahO⟩
theorem ant:Bi X C .LShift W7:=⟨_,ahv,ahN⟩
theorem aga:Bi X C .RShift Oj:=⟨_,ahu,ahM⟩
theorem agd:Bi X C .BitAnd Om:=⟨_,ahG,ahV⟩
theorem lD(G:Good X C):Cm X C .Eq jT:=⟨_,ahE G.u60,by rw[G.K];exact alW⟩
theorem zE(G:Good X C):Cm X C .NotEq tQ:=⟨_,ahx G.u60,by rw[G.K];exact alQ⟩
theorem Eu(G:Good X C):Cm X C .In Ec:=⟨_,ahD G.u61,by rw[G.K];exact alU⟩
theorem Bm(G:Good X C):Cm X C .NotIn rW:=⟨_,Wl G.u61,by rw[G.K];exact Z6⟩
theorem ae4:Cm X C .Is gIs:=⟨_,ahB,alT⟩
theorem Va:Cm X C .IsNot uF:=⟨_,Wn,Z7⟩
theorem abE:Cm X C .Lt Qf:=⟨_,ahz,alR⟩
theorem Ph:Cm X C .LtE W9:=⟨_,alJ,alS⟩
theorem anm:Cm X C .Gt gGt:=⟨_,alK,alV⟩
variable{e:Expr}{es:List Expr}{ea:dq}
theorem len0:∀env ds env',aj env = .ok ds env'->ds.length=0:=Xd
theorem aQ(hr:∀env ds env',r env = .ok ds env'->ds.length=m):∀env ds env',aa a r env = .ok ds env'->ds.length=m+1:=Sv hr
theorem jf{r:dq}(hr:∀env ds env',r env = .ok ds env'->ds.length=m):∀env ds env',r env = .ok ds env'->ds.length+1=m+1:=λenv ds env' h=>by grind
theorem aoV(N')(lo)(ok:jA X scope N')(G:Good X C)(hi:X5 X C tg iter it)
  (bg:∀X',dI X scope N' X'->X6 X' C lo tg g) (bc:∀X',dI X scope N' X'->PQ X' C ifs cc) (be:∀X',dI X scope N' X'->PX X' C elt ee)
  (hs:∀x,foldedSetIterable iter X.env x=pure x:=by intro _;rfl):PXN X C (.ListComp elt [⟨tg,iter,ifs,0⟩] scope pos) (dH lo N'.length it g cc ee):=ag2 N' lo ok G.calm hi bg bc be hs
theorem aoI(N'){spos py:Pos}(lo)(i)(ok:jA X scope N')(G:Good X C)(hi:X5 X C tg iter it)
  (bg:∀X',dI X scope N' X'->X6 X' C lo tg g) (bc:∀X',dI X scope N' X'->PQ X' C ifs cc) (be:∀X',dI X scope N' X'->PX X' C elt ee)
  (hnd:oY X.N=true:=by rfl) (hfx:C.fx i=none:=by rfl) (hy:X.N[i]? = some n:=by rfl) (hx:Loc X.env.scope n:=by first|exact Or.inl rfl|exact Or.inr rfl)
  (hsw:swapsWith (.ListComp elt [⟨tg,iter,ifs,0⟩] scope pos) (some (.Name n py)) spos.line X.env=pure true:=by rfl)
  (hf:X.fn n=true\/X.env.scope.names.lookup n=some .local:=by first|exact .inl rfl|exact .inr rfl)
  (hs:∀x,foldedSetIterable iter X.env x=pure x:=by intro _;rfl):PXS X C (.Assign [.Name n py] (.ListComp elt [⟨tg,iter,ifs,0⟩] scope pos) spos) (eY i (dH lo N'.length it g cc ee)):=V9 N' lo ok G.calm hi bg bc be (lV hnd) hy hx hfx hsw hf hs
end
section
variable{P:Program}{w:World}{K:Fg}{mg:Str->Option Value}{base:Heap}{x:Str}{st:Stmt}{N ps:List Str}{k:Nat}{ev:bV}
theorem Bf(hC:C.K=K)(hr:lF k (A.deeper (envOfC x (aK st) s.heap.objs.size f cdv))):Good (bx P w K mg base N x st f cdv A outer s H E) C:=⟨hC.symm,rfl,hr.units⟩
theorem bu(F:bW K mg x st ps)(S:bf N ps (aK st))
  (hb:∀f cdv A outer s H E,lF k (A.deeper (envOfC x (aK st) s.heap.objs.size f cdv))->Good (bx P w K mg base N x st f cdv A outer s H E) (C0 K)->Li (bx P w K mg base N x st f cdv A outer s H E) (C0 K) (gK st) ev) :
  Own P w K mg base x (k+1) ps (jQ K ps.length (bT N.length ev)):=by
 obtain⟨f,fd,h1,h2,h3⟩:=F;exact⟨f,fd,O4 h1 S λcdv A outer s H E hr=>hb f cdv A outer s H E hr<|Bf rfl hr,h2,h1.kp,h3⟩
theorem adz(F:bW K mg x st ps)(S:bf N ps (aK st))
  (hb:∀f cdv A outer s H E,lF k (A.deeper (envOfC x (aK st) s.heap.objs.size f cdv))->Good (bx P w K mg base N x st f cdv A outer s H E) (C0 K)->Li (bx P w K mg base N x st f cdv A outer s H E) (C0 K) (gK st) ev) :
  Own P w K mg base x (k+1) ps (spN K ps.length (runN N.length ev)):=by
 obtain⟨f,fd,h1,h2,h3⟩:=F;exact⟨f,fd,aeX h1 S λcdv A outer s H E hr=>hb f cdv A outer s H E hr<|Bf rfl hr,h2,h1.kp,h3⟩
theorem wu(F:bW K mg x st (y::qs))(S:bf N (y::qs) (aK st))
  (hb:∀f cdv A outer s H E a,lF k (A.deeper (envOfC x (aK st) s.heap.objs.size f cdv))->Good (bx P w K mg base N x st f cdv A outer s H E) (C1 K a)->Li (bx P w K mg base N x st f cdv A outer s H E) (C1 K a) (gK st) ev) :
  Own P w K mg base x (k+1) (y::qs) (yu K (qs.length+1) (ou N.length ev)):=by
 obtain⟨f,fd,h1,h2,h3⟩:=F;exact⟨f,fd,ajG h1 S λcdv A outer s H E a hr=>hb f cdv A outer s H E a hr<|Bf rfl hr,h2,h1.kp,h3⟩
theorem dG{sc:Scope}(h1:sc.kind = .function:=by rfl)(h2:sc.isCoroutine=false:=by rfl)(h3:sc.isGenerator=false:=by rfl)(h4:oY N=true:=by rfl)(h5:N.take ps.length=ps:=by rfl)
  (h6:(ps.all λx=>decide (sc.names.lookup x=some .local)||decide (sc.names.lookup x=some .cell))=true:=by rfl) (h7:(sc.names.all λy=>!decide (y.2 = .free))=true:=by rfl):bf N ps sc:=by
 refine⟨h1,h2,h3,lV h4,h5,λx hx=>?_,λy hy z=>?_⟩
 all_goals grind
end
open PySem PySem.Spec PySem.W PySem.Calls PyProof.Rows L2
theorem zG:∀(ns:List Int) i,i∈ns->Builtin.Int.intBits i<=WData.weightAll (ns.map WData.int)
 | [],_,h=>by simp at h
 | n::ns,i,h=>by
  rw[Qq4,WData.weightAll];rcases Qwq.mp h with rfl|h
  ·have e:WData.weight (.int i)=Builtin.Int.intBits i:=by rfl
   omega
  ·have:=zG ns i h;omega
def XF(ns:List Int):Prop:=∀i∈ns,Builtin.Int.intBits i<=2^20
theorem Lb{l:OpenLaw}
  (hn:l.most=some n) (hdf:d.params.defaults=[])
  (call:∀w s₀ s₁ mg mb fa o pm cd doc a vs ns,
   Ground q loose [] XP w s₀ mg mb s₁.heap->YP w s₁.heap->
   s₁.heap.get? fa=some o->o.data = .func (docDef d.name d.params d.body d.scope pm cd doc)->s₁.heap.CodeRec cd d.name->mg d.name=some (.ref fa)->
   s₁.heap.get? a=some { cls:=.type "list",data:=.seq vs.toArray }->IntsAre vs ns->ns.length<=n->XF ns->s₁.gens = #[]->
   codeAny (model l.prog w) callerA (.call (.ref fa) ⟨[.ref a],[]⟩) (λr s'=>r = .ok (.ret (.bool true))/\OldK s₁.heap s'.heap/\s'.os=s₁.os/\AllBare s'.gens) s₁) :
  WalkO q loose XP YP l.row.toRowW d [] (λf vs=>PySem.call f vs):=by
 intro w s₀ s₁ mg mb G Y fa o pm cd doc dV kV ho hd hcd hD hmg hg args vals as hpre hlay hrd hwl hlo;obtain rfl:dV = .none:=Dflts.none hD hdf;obtain rfl:kV = .none:=Dflts.noKw hD;obtain⟨a,vs,ns,rfl,rfl,hobj,hints,hlen⟩:=Att.V2 hn hpre hwl;have Uv:=λi hi=>by
  have h1:=(layableW_iff.mp<|layableW_arg hlay _<|Qq9.mpr rfl).2.2;rw[WData.weight] at h1;exact Qqj (zG ns i hi) h1
 refine enter_call<|codeAny_mono (call w s₀ s₁ mg mb fa o pm cd doc a vs ns G Y ho (fd_plain hd) hcd hmg hobj hints hlen Uv hg) λr s' hq=>?_;obtain⟨rfl,h2,h3,h4⟩:=hq;exact⟨.inl ⟨.bool true,.bool true,[],rfl,λ_=>rfl,.bool true,Att.Wd l _,λ_=>⟨List.Pairwise.nil,λ_ hm=>(nomatch hm)⟩⟩,h2,h3,h4⟩
theorem akN{l:PySem.W.OpenLaw}{K:Params->PySem.W.Frag}
  (hn:l.most=some n) (hn2:n<=sizeLine) (hdf:d.params.defaults=[]) (hr:lF k callerA)
  (hY:∀w h,YP w h->(K w.params).In h)
  (hf:∀ns,ns.length<=n->XF ns->f [.arr (ns.map .int)]=some (.bl true))
  (F:∀w mg fa h,(K w.params).In h->h.Ns mainGlobals mg->mg d.name=some (.ref fa)->
   ∃fd,(∀s u,BindsTo s fd ⟨[u],[]⟩ [(x,u)])/\
    ∀base,(K w.params).In base->base.Ns mainGlobals mg->qd l.prog w (K w.params) mg base Jk k fa fd [x] (jQ (K w.params) 1 f)) :
  PySem.W.WalkO q loose XP YP l.row.toRowW d [] (λf vs=>PySem.call f vs):=by
 refine Lb hn hdf λw s₀ s₁ mg mb fa o pm cd doc a vs ns G Y ho hd hcd hmg hobj hints hlen Uv hg=>?_;have KX:=hY w _ Y;obtain⟨fd,hb,hF⟩:=F w mg fa _ KX G.T.g hmg;refine aax KX G.T.g G.T.b G.T.builtins G.T.nolimit hg hobj hints (Qqj hlen hn2) hr hF hb (λH hO hS=>?_) λH e s' z=>z;refine⟨H,[.arr (ns.map .int)],.bl true,rfl,aY.refl H,⟨_,_,rfl,⟨by grind,a,_,rfl,hS,?_⟩,rfl⟩,hf ns hlen Uv,λv H' F' _ _ _ _ p=>p⟩;clear hints hlen Uv hS
 induction ns with
 | nil=>exact rfl
 | cons m ns ih=>exact⟨_,_,rfl,rfl,ih⟩
section
variable{K:Fg}{h:Heap}{mg:Str->Option Value}
theorem funAt{st:Stmt}{od an:Option Addr}{kV doc pm cdv ct:Value}(X:K.In h)(G:h.Ns mainGlobals mg)
  (a:PySem.W.nsIn K mainGlobals x=some (some (.ref f))) (l:K.lookup f=some ⟨oc,od,.func (PySem.W.fnOf x x (lH st) (gK st) (aK st) .none kV doc pm an cdv ct),osl⟩)
  (c:PySem.W.codeIn K cdv x=true) (k:PySem.W.keepIn K (.ref f)=true)
  (b:∀kV doc pm an cdv ct us,us.length=ps.length->bindArgs (PySem.W.fnOf x x (lH st) (gK st) (aK st) .none kV doc pm an cdv ct) ⟨us,[]⟩=pure (ps.zip us)):bW K mg x st ps:=
 ⟨f,_,Sd l c k,Qj2 X G a,(Sd l c k).binds b⟩
theorem aek(X:K.In h)(G:h.Ns mainGlobals mg)(a:PySem.W.nsIn K mainGlobals x=some (some (.str s t)))(hs:s=strOf z)(hz:z.length<=sizeLine):Qa K mg x (.str z):=
 ⟨.str s,_,Qj2 X G a,⟨t,rfl⟩,λF=>⟨by rw[hs],hz⟩⟩
inductive Cst (K:Fg):D->V->Value->Prop where
 | str {s:Str} {z:List Nat} {t:Tok} (hs:s=strOf z) (hz:z.length<=sizeLine):Cst K (.str z) (.str s) (.str s t)
 | int {i:Int} {t:Tok}:Cst K (.int i) (.int i) (.int i t)
theorem Cst.rel(c:Cst K d v u):RelV v u:=by cases c<;>exact⟨_,rfl⟩
theorem Cst.rep(c:Cst K d v u)(F):Rep K F d v:=by
 cases c with
 | str hs hz=>exact⟨by rw[hs],hz⟩
 | int=>exact rfl
theorem aa9(X:K.In h)(G:h.Ns mainGlobals mg)(e:PySem.W.nsIn K mainGlobals x=some (some (.ref a)))
  (l:K.lookup a=some ⟨.type "tuple",none,.seq #[u1,u2] n,sl⟩) (c1:Cst K d1 v1 u1) (c2:Cst K d2 v2 u2):Qa K mg x (.tup [d1,d2]):=
 ⟨.ref a,_,Qj2 X G e,rfl,λF=>⟨by show 2<=sizeLine;decide,a,[v1,v2],rfl,.inr ⟨_,_,_,l,rfl,rfl,rfl,by show 2<=sizeLine;decide,.cons c1.rel<|.cons c2.rel .nil⟩,_,_,rfl,c1.rep F,_,_,rfl,c2.rep F,rfl⟩⟩
theorem aoU(X:K.In h)(G:h.Ns mainGlobals mg)(e:PySem.W.nsIn K mainGlobals x=some none):mg x=none:=PySem.W.mg_none_of X G e
end
open PySem L2
theorem Ot(P:Env->Prop):∀ds,(∀d∈ds,∀env,P env->∃e1 e2,g d env=some e1/\b e1 = .nx e2/\P e2)->∀env,P env->∃e',mV g b ds env = .nx e'/\P e'
 | [],_,env,hp=>⟨env,rfl,hp⟩
 | d::ds,h,env,hp=>by
  obtain⟨e1,e2,h1,h2,h3⟩:=h d (Qq5 ..) env hp;obtain⟨e',h4,h5⟩:=Ot P ds (λd' hd=>h d'<|Qq0 _ hd) e2 h3;refine⟨e',?_,h5⟩;unfold mV
  simp_all
theorem UG(P:List D->Env->Prop)(h:∀done d rest,all=done++d::rest->∀env,P done env->∃e1 e2,g d env=some e1/\b e1 = .nx e2/\P (done++[d]) e2):∀ds done,all=done++ds->∀env,P done env->∃e',mV g b ds env = .nx e'/\P all e'
 | [],done,ha,env,hp=>⟨env,rfl,by simp_all⟩
 | d::ds,done,ha,env,hp=>by
  obtain⟨e1,e2,h1,h2,h3⟩:=h done d ds ha env hp;obtain⟨e',h4,h5⟩:=UG P h ds (done++[d]) (by simp_all) e2 h3;refine⟨e',?_,h5⟩;unfold mV
  simp_all
theorem kI(all)(P:List D->Env->Prop)(h:∀done d rest,all=done++d::rest->∀env,P done env->∃e1 e2,g d env=some e1/\b e1 = .nx e2/\P (done++[d]) e2)(env)(h0:P [] env):∃e',mV g b all env = .nx e'/\P all e':=UG P h all [] rfl env h0
theorem aR(h:a env = .nx e):aC a b env=b e:=by unfold aC;rw[h]
theorem oh(h:a env = .rt o d e):aC a b env = .rt o d e:=by unfold aC;rw[h]
theorem my(h:it env = .ok ds e):gC it g b env=mV g b ds e:=by unfold gC;rw[h];rfl
theorem cC(h:a env = .ok d e)(h':g d e=some e'):aW a g env = .nx e':=by unfold aW;rw[h];show G6 (g d e)=_;rw[h'];rfl
theorem mq(h:t env = .ok true e):cZ t a b env=a e:=by unfold cZ;rw[h];rfl
theorem m8(h:t env = .ok false e):cZ t a b env=b e:=by unfold cZ;rw[h];rfl
theorem cW(h:a env = .ok d e):aV a env = .rt false d e:=by unfold aV;rw[h];rfl
theorem bC(h:a env = .ok ds e)(h':g ds=some d):ao g a env = .ok d e:=by unfold ao;rw[h];show fc (g ds) e=_;rw[h'];rfl
theorem cA(h1:a env = .ok x e1)(h2:b e1 = .ok y e2)(h3:g x y=some d):aL g a b env = .ok d e2:=by
 unfold aL;rw[h1];show bindR (b e1) _=_;rw[h2];show fc (g x y) e2=_;rw[h3]
 rfl
theorem bN(h1:env[i]? = some (some (o',x0)))(h2:b env = .ok y e2)(h4:e2[i]? = some (some (o,x)))(h3:g x y=some d):az g i b env = .ok d e2:=by
 unfold az;rw[h1];show bindR (b env) _=_;rw[h2];show(match e2[i]? with|some (some (_,x))=>fc (g x y) e2|_=>.stuck)=_;rw[h4];show fc (g x y) e2=_;rw[h3]
 rfl
theorem bw(h1:a env = .ok d e1)(h2:r e1 = .ok ds e2):aa a r env = .ok (d::ds) e2:=by
 unfold aa;rw[h1];show bindR (r e1) _=_;rw[h2]
 rfl
theorem cL:aj env = .ok [] env:=rfl
theorem abl(h:r env = .ok ds e)(hz:ds.length<=sizeLine):fB r env = .ok (.lst ds) e:=by
 unfold fB;rw[h];show(if ds.length<=sizeLine then _ else _)=_
 simp_all
theorem p7(h:r env = .ok ds e)(hz:ds.length<=sizeLine):cY r env = .ok (.tup ds) e:=by
 unfold cY;rw[h];show(if ds.length<=sizeLine then _ else _)=_
 simp_all
theorem iC(h0:env[i]? = some (some (true,x0)))(h1:a env = .ok ds e1)(h2:e1[i]? = some (some (true,x)))(h3:f (x::ds)=some (d,x')):fW f i a env = .ok d (e1.set i (some (true,x'))):=by
 unfold fW;rw[h0];show bindR (a env) _=_;rw[h1];show(match e1[i]? with|some (some (true,x))=>(match f (x::ds) with|some (d,x')=>R.ok d (e1.set i<|some (true,x'))|none=>R.stuck)|_=>R.stuck)=_
 simp_all
theorem Ux(h:nW i j=true):wG (.int i) (.int j)=some (.int (i*j)):=by
 show gI nW (λi j=>D.int<|i*j) (.int i) (.int j)=_;unfold gI
 simp_all
theorem Oo(h:a.length+b.length<=sizeLine):cj (.lst a) (.lst b)=some (.lst (a++b)):=by show(if a.length+b.length<=sizeLine then _ else _)=_;rw[if_pos h]
theorem mY(h:a env = .ok (.bl b) e):dg a env = .ok b e:=by unfold dg;rw[h];rfl
theorem BR(h:a env = .ok d e):eY i a env = .nx (e.set i (some (true,d))):=by unfold eY;rw[h];rfl
theorem KZ(h:a env = .ok d e)(h':itD d=some ds):eG a env = .ok ds e:=by unfold eG;rw[h];show fc (itD d) e=_;rw[h'];rfl
theorem mH(h:ev (xX n x r) = .rt false d env)(h0:env[0]? = some (some (true,x'))):ou n ev (x::r)=some (d,x'):=by
 unfold ou
 simp_all
theorem fH(h:ev (envOf n ds) = .rt false d env):bT n ev ds=some d:=by unfold bT;rw[h]
theorem Ul(P:Env->Prop)(f):∀ds env,P env->(∀d∈ds,∀env,P env->∃e1 e2,g d env=some e1/\e e1 = .ok (f d) e2/\P e2)->∃env',vp g bY e ds env = .ok (ds.map f) env'/\P env'
 | [],env,hp,_=>⟨env,rfl,hp⟩
 | d::ds,env,hp,h=>by
  obtain⟨e1,e2,h1,h2,h3⟩:=h d (Qq5 ..) env hp;obtain⟨e3,h4,h5⟩:=Ul P f ds e2 h3 λd' hd=>h d'<|Qq0 _ hd;refine⟨e3,?_,h5⟩;unfold vp;rw[h1];show bindR (e e1) _=_;rw[h2];show bindR (vp g bY e ds e2) _=_;rw[h4]
  rfl
theorem xW{lo n:Nat}(h1:it env = .ok ds aJ)(hl:aJ.length=lo)(h2:vp g c e ds (aJ++List.replicate (n - lo) none) = .ok ys dB)(hz:ys.length<=sizeLine):dH lo n it g c e env = .ok (.lst ys) (dB.take lo):=by
 unfold dH;rw[h1];show(if aJ.length=lo then _ else _)=_;rw[if_pos hl,h2];show(if ys.length<=sizeLine then _ else _)=_
 simp_all
theorem dig(n)(m)(hm:0<m):∃d:Nat,d<m/\n % m=(d:Int):=by have h1:0<=n % m:=Int.emod_nonneg n (by omega);have h2:n % m<m:=Int.emod_lt_of_pos n (by omega);exact⟨(n % m).toNat,by omega,by omega⟩
theorem Le{α:Type}{xs:List α}(h:d<xs.length):qO xs d=some xs[d]:=m6<|Qqy h
noncomputable def okN:Nat->D->Bool
 | 0,_=>false
 | n+1,.tup xs=>xs.all (okN n)
 | n+1,.lst xs=>xs.all (okN n)
 | _+1,.dct _=>false
 | _+1,.Bl _=>false
 | _+1,.clo _ _=>false
 | _+1,.arr _=>false
 | _+1,_=>true
theorem En:∀xs,(∀x∈xs,f x x=some true)->yh f xs xs=some true
 | [],_=>rfl
 | x::r,h=>by
  unfold yh;rw[h x (Qq5 ..),En r λy hy=>h y<|Qq0 _ hy]
  rfl
theorem Em:∀n d,okN n d=true->jg n d d=some true
 | 0,_,h=>by cases h
 | n+1,d,h=>by
  cases d with
  | tup xs=>exact En xs λx hx=>Em n x<|Qw0.mp h x hx
  | lst xs=>exact En xs λx hx=>Em n x<|Qw0.mp h x hx
  | dct _=>cases h
  | Bl _=>cases h
  | clo _ _=>cases h
  | arr _=>cases h
  | non=>rfl
  | bl b=>show some (b == b)=_;simp
  | int i=>show some (i == i)=_;simp
  | str x=>show some (x == x)=_;simp
end Ev
namespace L2
open PySem PySem.Spec PyProof.Rows
section
variable{X:Cx}{pins:List (Addr×Obj)}{σ:St}{H:Hp}{s:Shared}{h':Heap}
theorem Inv.drawn{ch:List Addr}{T:Addr}(I:Inv X pins σ H s)(hch:∀b∈ch,pG X pins H b)(k:∀b u,b ∉ ch->s.heap.get? b=some u->h'.get? b=some u)(hT:s.heap.objs.size<=T)
  (new:iZ X.prog X.w (upd H T o) h' T o):Inv X pins σ (upd H T o) { s with heap:=h',toks:=t' }:=by
 have nT:=I.hok.fresh hT;have nit:∀b u,H b=some u->b ∉ ch:=λb u e z=>by rw[(hch b z).1] at e;cases e
 have up:∀b u,H b=some u->upd H T o b=some u:=λb u e=>by rw[cz (gw e nT)];exact e
 refine I.step (λb hb=>?_) (λb u _ _ hc e _=>k b u hc e) (λb u _ _ hc e _=>⟨u.slots,k b u hc e⟩) (λb u hc e n=>?_)
  (λb u hc e=>⟨u,k b u hc e⟩) (λb xs e=>up b _ e) (λb u v e=>up b _ e) (λb ps e=>⟨#[],by simp_all⟩) (λm hm=>?_) (λb u e=>?_) I.bare (λb qs e=>up b _ e)
 ·obtain⟨h0,h1,h2,h3,h4,h5⟩:=hch b hb
  grind
 ·have hb:b≠T:=λz=>by
   subst z;exact absurd (Qqv e)<|Nat.not_lt.mpr hT
  rw[cz hb];exact n
 ·obtain⟨u,es,ep,ho,r⟩:=hm;have hL:=λz=>(hch _ z).2.1 rfl;exact⟨u,es,ep,k _ u hL ho,r⟩
 ·by_cases hb:b=T
  ·subst hb;rw[bD] at e
   simp_all
  ·rw[cz hb] at e;refine(I.hok b u e).stay (λc v hc q=>k c v ?_ q) (λc q=>up _ _ q) (λc xs q=>up _ _ q) λc _ _ _ _ q=>up _ _ q
   grind
theorem Inv.Ay{ch:List Addr}(I:Inv X pins σ H s)(hch:∀b∈ch,pG X pins H b)(k:∀b u,b ∉ ch->s.heap.get? b=some u->h'.get? b=some u):Inv X pins σ H { s with heap:=h',toks:=t' }:=by
 have nit:∀b u,H b=some u->b ∉ ch:=λb u e z=>by rw[(hch b z).1] at e;cases e
 refine I.step (λb hb=>?_) (λb u _ _ hc e _=>k b u hc e) (λb u _ _ hc e _=>⟨u.slots,k b u hc e⟩) (λb u hc e n=>n)
  (λb u hc e=>⟨u,k b u hc e⟩) (λb xs e=>e) (λb u v e=>e) (λb ps e=>⟨#[],by rw[e];simp⟩) (λm hm=>?_) (λb u e=>?_) I.bare
 ·obtain⟨h0,h1,h2,h3,h4,h5⟩:=hch b hb
  grind
 ·obtain⟨u,es,ep,ho,r⟩:=hm;have hL:=λz=>(hch _ z).2.1 rfl;exact⟨u,es,ep,k _ u hL ho,r⟩
 ·refine(I.hok b u e).stay (λc v hc q=>k c v ?_ q) (λ_ q=>q) λ_ _ q=>q
  grind
end
def Ite(z:Str):It:=⟨λi _=>i<z.cps.size,λi H x H'=>∃p c,z.cps[i]? = some c/\H p=none/\H'=upd H p (.tup [.int i,.str ⟨#[c]⟩])/\x = .ref p,λi _=>i=z.cps.size⟩
theorem Gw{P:Program}{w:World}{K:PySem.W.Frag}{elts:List Expr}{k:Nat}{pos:Pos}(e it:Addr)(z:Str)(t:Tok)(ty:String)(hei:e≠it)
  (D:∀A:Around,A.handled=none->Draws P w A it [it] z.cps.size (λi v=>∃c u,z.cps[i]? = some c/\v = .str ⟨#[c]⟩ u) (λi h=>h.IsStrIter it ty z t i)) :
  Turn P w K (.Tuple elts k pos) (Ite z) [e,it] e (λi h=>(∃old,IsEnum h e it i old)/\h.IsStrIter it ty z t i) where
 mem:=by simp
 obj:=λi h st b hb=>by
  obtain⟨⟨old,he⟩,o,ho,hc,hd⟩:=st
  grind
 keep:=λi h h' st kk=>by
  obtain⟨⟨old,he⟩,o,ho,r⟩:=st;exact⟨⟨old,kk e (by simp) _ he⟩,o,kk it (by simp) o ho,r⟩
 item:=by
  intro X hP hw hK hc i pins s σ H E I hf st hg;subst hP hw hK;obtain⟨⟨old,he⟩,hit⟩:=st;refine wpAny_pyNext_enum_itemD (D X.A.in1<|I.ok.hd hc) he hit hg hei (by simp[hei]) λx h' tk hv ho hSt apl hsz hk=>?_;obtain⟨c,u,hcz,rfl⟩:=hv;have hT:s.heap.objs.size<=s.heap.objs.size:=Qqw _;have helt:e<s.heap.objs.size:=Qqv he;have hilt:it<s.heap.objs.size:=by obtain⟨_,x,_⟩:=hit;exact Qqv x
  have nT:H s.heap.objs.size=none:=I.hok.fresh hT;refine⟨_,rfl,?_⟩;refine wpAny_letOwnedTupleGo_enum ho λh'' arJ hs''=>?_;have lr:∀b o,b≠e->h'.get? b=some o->h''.get? b=some o:=λb o hb q=>(hs''.2 b hb).trans q;have hnT:s.heap.objs.size ∉ [e,it]:=λhb=>by
   grind
  refine⟨.ref s.heap.objs.size,upd H s.heap.objs.size<|.tup [.int i,.str ⟨#[c]⟩],I.drawn hf (λb o hb q=>lr b o (λz=>hb (by simp[z]))<|hk b o (λz=>hb (by simp[z])) (λz=>hb (by simp[z])) q) hT ?_,rfl,⟨_,c,hcz,nT,rfl,rfl⟩,⟨⟨_,by assumption⟩,?_⟩,λb hb=>?_⟩
  ·exact⟨by show 2<=sizeLine;decide,[.int i tk,.str ⟨#[c]⟩ u],.cons ⟨_,rfl⟩<|.cons ⟨_,rfl⟩ .nil,_,lr _ _ (Qzz helt) apl,rfl,⟨_,rfl⟩,rfl⟩
  ·obtain⟨o,q,r⟩:=hSt;exact⟨o,lr it o hei.symm q,r⟩
  ·have hne:b≠s.heap.objs.size:=λz=>by
    simp_all
   rw[cz hne];exact(hf b hb).1
 done:=by intro X hP hw hK hc i pins s σ H E I hf st hg;subst hP hw hK;have W:=WalksT.enumerateD (D X.A.in1<|I.ok.hd hc) e hei (by simp[hei]) (by simp);have hg':i=z.cps.size:=hg;subst hg';exact W.done s _ _ st λh' tk hk=>⟨rfl,I.Ay hf λb o hb e=>hk b o hb e⟩
 self:=λA i s Q E st h=>by
  obtain⟨⟨old,he⟩,_⟩:=st;exact wpAny_pyIter_enum he h
section
variable{X:Cx}{tg:Expr}
def amL(ta:TA):TI:=λσ H R=>ta σ H λvs H1=>∃z,vs=[.str z]/\R (Ite z) H1
theorem adt(hg:Gl X "enumerate")(hm:X.mg "enumerate" = none)(ha:PA X [a] ta)(hs:starEach [a] X.env=[(false,eval a X.env)]:=by rfl):PI X (.Tuple elts k tp) (.Call (.Name "enumerate" p) [a] [] pos) (amL ta):=by
 intro pins s σ H R I h;refine Call_<|rQ I hg hm PyProof.Rows.boot_enumerate<|Qxv (fG (ha pos pins s σ H _ I h) λus s1 ⟨vs,H1,I1,r1,q1⟩=>?_) hs rfl;obtain⟨z,e,q⟩:=q1;subst e;cases r1 with
 | cons r rr=>
  cases rr;obtain⟨t,rfl⟩:=r;refine call_enumerate_str λh' he hit hsz hk=>?_;refine wpAny_pyIter_enum he ?_;have I2:Inv X pins σ H1 { s1 with heap:=h' }:=I1.kept hk;have own:∀b ∈ [s1.heap.objs.size+1,s1.heap.objs.size],pG X pins H1 b:=λb hb=>by
   rcases Qwq.mp hb with rfl|hb
   ·exact I1.Sg (Nat.le_succ _)<|I1.hok.fresh<|Nat.le_succ _
   ·rw[Qq9.mp hb];exact I1.Sg (Qqw _)<|I1.hok.fresh<|Qqw _
  cases hz:z.cps.all (·< 128)
  ·have hit':h'.IsStrIter s1.heap.objs.size "str_iterator" z t 0:=by simpa[strIterType,hz] using hit
   exact⟨s1.heap.objs.size+1,[s1.heap.objs.size+1,s1.heap.objs.size],_,_,H1,rfl,I2,Gw _ _ z t "str_iterator" (Nat.succ_ne_self _) (λA hA=>Draws.strWide hA _ z t),⟨⟨_,he⟩,hit'⟩,own,q⟩
  ·have hit':h'.IsStrIter s1.heap.objs.size "str_ascii_iterator" z t 0:=by simpa[strIterType,hz] using hit
   exact⟨s1.heap.objs.size+1,[s1.heap.objs.size+1,s1.heap.objs.size],_,_,H1,rfl,I2,Gw _ _ z t "str_ascii_iterator" (Nat.succ_ne_self _) (λA hA=>Draws.strAscii hA _ z t),⟨⟨_,he⟩,hit'⟩,own,q⟩
end
open PySem PySem.Spec PyProof.Rows PySem.Builtin PySem.Builtin.Str
section
variable{X:Cx}{pins:List (Addr×Obj)}{σ:St}{H:Hp}{s:Shared}{a:Addr}{xs:List V}
theorem Inv.agA(I:Inv X pins σ H s)(h:oH X.K H a xs):∃its,Vals xs its/\Gn s.heap a its.toArray:=by
 rcases h with h|⟨o,its,n,hk,hc,hdn,hs,hz,r⟩
 ·obtain⟨z,its,r,p⟩:=h.ok I.hok;exact⟨its,r,p⟩
 ·exact⟨its.toList,r,⟨o,I.WR a o hk,hc,⟨n,by simpa using hs⟩,hdn⟩⟩
end
section
variable{X:Cx}{o e:Expr}{to te:TE}{name:Str}{apos cpos:Pos}{id:String}{r:V->List V->Hp->VK->Prop}{t:TA}
def aow(te ts:TE):TE:=λσ H Q=>te σ H λx H1=>ts σ H1 λy H2=>∃z,x = .str z/\z.length<=sizeLine/\y = .int (-1)/\Q (.str ⟨z.cps.toList.reverse.toArray⟩) H2
theorem Ri(z)(u):(⟨((slicePicked z none none (some (-1,u))).filterMap (z.cps[·]?)).toArray⟩:Str)=⟨z.cps.toList.reverse.toArray⟩:=by
 have h:=PyProof.Rows.step_rev_list z u;unfold Txt.sliceBy at h;have h1:¬(((((some ((-1),u)).map (·.1)).getD 1 == 1)&&((slicePicked z none none<|some (-1,u)).length == z.length))=true):=by have:((((some ((-1),u)).map (·.1)).getD 1 == 1))=false:=rfl;rw[this];simp
 rw[if_neg h1] at h;have h2:((slicePicked z none none<|some (-1,u)).filterMap (z.cps[·]?))=z.cps.toList.reverse:=by
  have h3:((slicePicked z none none<|some (-1,u)).filterMap (z.cps[·]?))=(List.range z.length).map λk=>z.cps.getD (z.length - 1 - k) 0:=by simpa using h
  rw[h3];apply List.ext_getElem
  ·simp[Str.length]
  ·intro i h4 h5;have hi:i<z.cps.size:=by simpa[Str.length] using h4
   simp[Str.length,Array.getD,List.getElem_reverse];rw[dif_pos (by omega)]
 rw[h2]
theorem ahm{st:Expr}(he:PE X e te)(hst:PE X st ts):PE X (.Subscript e (.Slice none none (some st) p2) pos) (aow te ts):=by
 intro pins s σ H Q I h;refine Subscript_<|fG (he pins s σ H _ I h) λv s1 ⟨x,H1,I1,r1,q1⟩=>?_;refine wpAny_Slice ?_;rw[evalPart_none,evalPart_some];refine Qqk<|Qqk<|fG (hst pins s1 σ H1 _ I1 q1) λw s2 ⟨y,H2,I2,r2,q2⟩=>?_;obtain⟨z,ex,hz,ey,q⟩:=q2;subst ex;subst ey;obtain⟨t,rfl⟩:=r1;obtain⟨t',rfl⟩:=r2;have I4:Inv X pins σ H2 { s2 with heap:=s2.heap.push { cls:=.type "slice",data:=.fields #[.none,.none,.int (-1) t'] } }:=I2.kept λb ob q=>Qqq _ q;show wpAny (model X.prog X.w) X.A (subscriptTail e (.Slice none none (some st) p2) (.str z t)<|.ref s2.heap.objs.size) (EP X pins σ Q) X.xe { s2 with heap:=s2.heap.push { cls:=.type "slice",data:=.fields #[.none,.none,.int (-1) t'] } };refine tail_any (typeIs_str _ z t) PySem.F.slot_str_getitem.lookup ?_ (by with_unfolding_all rfl);refine wpAny_getItem_str_slice (l:=none) (u:=none) (st:=some (-1,t')) ⟨_,Qq2 _ rfl,rfl,rfl⟩ rfl ?_;unfold sliceMade;have h1:¬(((((some ((-1:Int),t')).map (·.1)).getD 1 == 1)&&((slicePicked z none none<|some (-1,t')).length == z.length))=true):=by have:((((some ((-1:Int),t')).map (·.1)).getD 1 == 1))=false:=rfl;rw[this];simp
 rw[if_neg h1,Ri];refine⟨?_,⟨.str ⟨z.cps.toList.reverse.toArray⟩,H2,I4.tok _,⟨_,rfl⟩,q⟩⟩;show z.cps.toList.reverse.toArray.size<=sizeLine
 simpa[Str.length] using hz
end
end L2
namespace Ev
open PySem PySem.Spec PyProof.Rows L2 PySem.Builtin
section
variable{X:Cx}{C:Cfg}{pos:Pos}{e x y:Expr}{a b:Ev}
noncomputable def tO:D->Option D
 | .int i=>some (.int (-i))
 | _=>none
theorem agy:UnD C (rU λi=>.int (-i)) tO:=by
 intro Pr F env σ H x d vx Q r px e q;cases x with
 | int i=>cases e;exact⟨i,px.int,q _ H F r (aY.refl F) rfl⟩
 | _=>cases e
noncomputable def ajl:D->Option D
 | .str z=>some (.str z.reverse)
 | _=>none
def tu(a:Ev):Ev:=λenv=>bindR (a env) λd aJ=>fc (ajl d) aJ
noncomputable def vC(x:List Nat):List D:=x.zipIdx.map λp=>.tup [.int (p.2:Nat),.str [p.1]]
def Su(a:dq):dq:=λenv=>bindR (a env) λds aJ=>match ds with
 | [.str x]=>.ok (vC x) aJ
 | _=>.stuck
end
theorem WM
  (hx:s.heap.get? a=some o) (hc:o.cls = .type "tuple") (hdat:o.data = .seq xs k) (hd:o.dict=none) (hA:A.handled=none)
  (h:∀h' tk,(∀b u,s.heap.get? b=some u->h'.get? b=some u)->Q none { s with heap:=h',toks:=tk }):wpAny (model prog w) A (getAttr? (.ref a) "keys") Q E s:=by
 obtain⟨hp,g,d,tk,os⟩:=s;obtain⟨oc,od,dt,sl⟩:=o;cases hc;cases hdat;cases hd;have hT:∀tk',(⟨hp,g,d,tk',os⟩:Shared).TypeIs (.ref a) "tuple":=λ_=>⟨_,hx,rfl⟩;have f1:=sub_AttributeError;have f3:=F.slot_tuple_getattribute.lookup;have f4:=F.slot_tuple_getattribute.bind<|.ref a;have f5:=am_tuple_getattr_none;have hmiss:typeLookup (.type "tuple") "keys" = pure none:=by rfl
 unfold getAttr? getAttrBy? getAttrBy
 repeat (any_goals (first|assumption|exact hT _|((with_reducible show wpAny _ _ (call (Value.builtin "tuple.__getattribute__") _ _) _ _ _);refine call_meets F.slot_tuple_getattribute (hT _) am_entry_tuple_getattribute (F.args_tuple_getattribute_2 _ _) (meets_getattribute_miss_tuple a xs k sl "keys" _ hmiss (by rfl) (by decide +kernel)) ⟨hx,hA,λh' tk' e hx'=>?_⟩)|wp_step))
 obtain⟨t',u',he⟩:=hx'.there;show wpAny _ _ (getattributeRaised _ _ _ _ _ _ _) _ _ _;unfold getattributeRaised
 repeat (any_goals (first|assumption|wp_step))
 exact h _ _ hx'.keeps
structure Pr where
 p:Addr
 k:Key
 kv:Value
 v:Value
def abR(h:Heap)(r:Pr):Prop:=h.IsTuple r.p #[r.kv,r.v]/\Dl r.k r.kv=true
theorem abR.keep(x:abR h r)(n1:r.p≠c)(n2:r.p≠d)(k:∀b o,b≠c->b≠d->h.get? b=some o->h'.get? b=some o):abR h' r:=
 let ⟨⟨o,ho,q⟩,y⟩:=x;⟨⟨o,k _ o n1 n2 ho,q⟩,y⟩
noncomputable def putAll(kvs:List (Key×Value))(rs:List Pr):List (Key×Value):=rs.foldl (λacc r=>stored acc r.k r.v) kvs
theorem mK:plainId "dict.update.loop" = true:=by decide +kernel
theorem uM:entryFor table "dict.update.loop" = some Builtin.«dict.update.loop»:=entryFor_of_tree (by kernel_rfl)
theorem Ln{its:List Value}(hdi:d≠it)(hda:d≠a)(hia:it≠a):∀rs i kvs A R s,
  A.handled=none->its.drop i=rs.map (λr=>Value.ref r.p)->s.heap.IsTuple a its.toArray->s.heap.IsTupleIter it a i->s.heap.DictOf (cI prog w) d kvs->(∀r∈rs,abR s.heap r/\r.p≠d/\r.p≠it)->kvs.length+rs.length<=sizeLine->
  (∀h' tk,h'.DictOf (cI prog w) d (putAll kvs rs)->(∀b o,b≠d->b≠it->s.heap.get? b=some o->h'.get? b=some o)->R (.ok (.ret .none)) { s with heap:=h',toks:=tk })->
  wpAny (model prog w) A.in1 (Builtin.«dict.update.loop» ⟨[.ref d,.ref it,rawInt i,.none],[]⟩) (λfin s'=>match fin with|.done f=>R (.ok f) s'|.again c'=>c'.quiet=true/\codeAny (model prog w) A c' R s') (λe s'=>R (.error e) s') s
 | [],i,kvs,A,R,s,hh,hdr,ht,hit,hD,_,_,h=>by
  unfold Builtin.«dict.update.loop»;have hx:its.toArray[i]? = none:=by simp_all
  refine Qqx<|wpAny_pyNext_tuple_end hh hit ht hx λh' hex=>?_;show wpAny _ _ (Builtin.Dict.addKeywords d [] >>= _) _ _ _;refine Qqx<|Qqk<|Qqk ?_;exact h h' s.toks (hD.extBut hex hdi) λb o _ h2 e=>hex b o h2 e
 | r::rs,i,kvs,A,R,s,hh,hdr,ht,hit,hD,hrs,hz,h=>by
  unfold Builtin.«dict.update.loop»;obtain⟨⟨hpt,hkey⟩,n1,n2⟩:=hrs r<|Qq5 ..;have hlt:i<its.length:=by
   have:=Qx7 List.length hdr
   grind
  have hx0:its[i]? = some (.ref r.p):=by
   have:=Qx7 (λl=>l[0]?) hdr
   grind
  have hx:its.toArray[i]? = some (.ref r.p):=by simp_all
  have aph:its.drop (i+1)=rs.map (λr=>Value.ref r.p):=by
   have:=Qx7 List.tail hdr;rw[List.tail_drop] at this
   assumption
  refine Qqx<|wpAny_pyNext_tuple_item hit ht hx λh' hit' hs'=>?_;have k1:∀b o,b≠it->s.heap.get? b=some o->h'.get? b=some o:=λb o hb e=>(hs'.2 b hb).trans e;obtain⟨op,hop,hcp,np,hdp⟩:=hpt;have hop':=k1 _ _ n2 hop;dsimp only;refine Qqx<|Qjq<|Qqx<|wpAny_tryCatch ?_;unfold Builtin.Dict.pairItems;refine Qqx<|wpAny_typeOf ⟨op,hop',hcp⟩ ?_;rw[if_pos (by decide)];unfold seqItems?;refine Qqx<|Qqx<|wpAny_load hop' ?_;rw[hdp];refine Qqk<|Qqk ?_;show wpAny _ _ (holding [r.kv,r.v]<|dictSet d r.kv r.v) _ _ _;have hzk:kvs.length<=sizeLine:=by omega
  refine Qjq<|wpAny_dictSet_pairs hkey (hD.sameBut hs' hdi) λh'' apo hs''=>?_;have k2:=λb o hb1 hb2 e=>(hs''.2 b hb1).trans<|k1 b o hb2 e;have hc:(i+1)=((i+1):Int):=by rfl
  rw[hc];refine Qqk ⟨plainId_quiet mK _,codeAny_builtin uM ?_⟩;rw[Around.under_plainId mK _];have hln:(stored kvs r.k r.v).length<=kvs.length+1:=by have:=stored_length_le kvs r.k r.v;exact this
  refine Ln hdi hda hia rs (i+1) (stored kvs r.k r.v) A R _ hh aph ?_ ?_ apo (λq hq=>?_) (by grind) λh3 tk hD3 k3=>?_
  ·obtain⟨o,ho,q⟩:=ht;exact⟨o,k2 a o hda.symm hia.symm ho,q⟩
  ·obtain⟨o,ho,q⟩:=hit';exact⟨o,(hs''.2 it hdi.symm).trans ho,q⟩
  ·obtain⟨p1,p2,p3⟩:=hrs q<|Qq0 _ hq;exact⟨p1.keep p2 p3 k2,p2,p3⟩
  ·exact h h3 tk hD3 λb o hb1 hb2 e=>k3 b o hb1 hb2<|k2 b o hb1 hb2 e
section
variable{X:Cx}{C:Cfg}{pos:Pos}
abbrev Pv:=Addr×Key×V
def qe(kvs:List (Key×V))(rs:List Pv):List (Key×V):=rs.foldl (λacc r=>putK acc r.2.1 r.2.2) kvs
def Za(K:Fg):List V->Hp->VK->Prop:=λxs H Q=>∃(a:Addr) (rs:List Pv),xs=[.ref a]/\oH K H a (rs.map λr=>V.ref r.1)/\(∀r∈rs,oH K H r.1 [kV r.2.1,r.2.2])/\rs.length<=sizeLine/\∀l,H l=none->Q (.ref l) (upd H l (.dK (qe [] rs)))
theorem Nf{σ:L2.St}(I:L2.Inv X pins σ H s):∀rs us,Vals (rs.map λr=>V.ref r.1) us->(∀r∈rs,oH X.K H r.1 [kV r.2.1,r.2.2])->∃ps,us=ps.map (λr=>Value.ref r.p)/\(∀r∈ps,abR s.heap r)/\Paired (λ(r:Pv) q=>r.2.1=q.k/\RelV r.2.2 q.v) rs ps
 | [],us,h,_=>by cases h;exact⟨[],rfl,λr hr=>by simp at hr,.nil⟩
 | r::rs,us,h,hp=>by
  cases h with
  | cons h1 h2=>
   cases h1;obtain⟨ps,rfl,q1,q2⟩:=Nf I rs _ h2 λr' hr=>hp r'<|Qq0 _ hr;obtain⟨its,rv,ht,_⟩:=I.tuple<|hp r<|Qq5 ..;obtain⟨u1,u2,rfl,r1,r2⟩:=rv.two;refine⟨⟨r.1,r.2.1,u1,u2⟩::ps,rfl,λq hq=>?_,.cons ⟨rfl,r2⟩ q2⟩;rcases Qwq.mp hq with rfl|hq
   ·exact⟨ht,xG (P:=X.prog) (w:=X.w) r1⟩
   simp_all
theorem GK:∀{rs} {ps} {kvs} {vs},Paired (λr q=>r.2.1=q.k/\RelV r.2.2 q.v) rs ps->KV kvs vs->KV (qe kvs rs) (putAll vs ps)
 | _,_,_,_,.nil,h=>h
 | _,_,kvs,vs,.cons (a:=r) (b:=q) ⟨h1,h2⟩ hr,h=>by
  show KV (qe (putK kvs r.2.1 r.2.2) _) (putAll (stored vs q.k q.v) _);refine GK hr ?_;rw[h1];exact h.put q.k h2
theorem zJ:∀rs kvs,(qe kvs rs).length<=kvs.length+rs.length
 | [],kvs=>Qqw _
 | r::rs,kvs=>by
  have h1:=zJ rs<|putK kvs r.2.1 r.2.2;have h2:=uB kvs r.2.1 r.2.2;show(qe (putK kvs r.2.1 r.2.2) rs).length<=_
  grind
theorem Xn(hc:X.calm=true):kZ X (.type "dict") (Za X.K):=by
 intro pins s σ H xs us Q I r h;obtain⟨a,rs,rfl,hq,hp,hz,q⟩:=h;obtain⟨u,rfl,rx⟩:=vals1 r;cases rx;obtain⟨its,rv,ob,h1,h2,⟨n,h3⟩,h4⟩:=I.agA hq;obtain⟨ps,rfl,hps,hpr⟩:=Nf I rs its rv hp;have hA:=I.ok.hd hc;have hlt:=Qqv h1;refine callType_codes (Q₁:=λobj s₁=>obj = .ref s.heap.objs.size/\s₁ = { s with heap:=s.heap.push { cls:=.type "dict",data:=.dict #[] } }) F.kt_called_dict (F.kt_typeCall_dict_1 _) F.entry_dict_init (kt_code_dict_new _ ⟨rfl,rfl⟩) ?_;rintro obj s₁ ⟨rfl,rfl⟩;have hnew:(s.heap.push { cls:=.type "dict",data:=.dict #[] }).DictOf (cI X.prog X.w) s.heap.objs.size []:=Heap.DictOf.new s.heap;have k0:∀b o,s.heap.get? b=some o->(s.heap.push { cls:=.type "dict",data:=.dict #[] }).get? b=some o:=λb o e=>Qqq _ e;refine⟨hnew.typeIs,F.args_dict_init_2 _ _,?_⟩;unfold Builtin.«dict.__init__»;refine Qqx ?_;unfold Builtin.Dict.selfAndRest;refine Qqx<|wpAny_notOrdered_dict hnew.typeIs ?_;show wpAny _ _ (pure (s.heap.objs.size,[Value.ref a])) _ _ _;refine Qqk ?_;show wpAny _ _ (Builtin.Dict.updateFrom "dict.__init__" s.heap.objs.size (.ref a) [] .none) _ _ _;unfold Builtin.Dict.updateFrom;refine Qqx<|wpAny_typeOf ⟨ob,k0 _ _ h1,h2⟩ ?_;rw[if_pos (by decide)];refine Qqx<|WM (k0 _ _ h1) h2 h3 h4 hA λh' tk hk=>?_;simp only[Option.isNone_none,if_true];refine Qqx<|wpAny_rule<|Qqx ?_;have hT:h'.IsTuple a (ps.map λr=>Value.ref r.p).toArray:=⟨ob,hk _ _<|k0 _ _ h1,h2,n,h3⟩;refine wpAny_pyIter_tuple hT ?_;refine Qqk ⟨plainId_quiet mK _,codeAny_builtin uM ?_⟩;rw[Around.under_plainId mK _];have hD0:h'.DictOf (cI X.prog X.w) s.heap.objs.size []:=hnew.keep hk;have ai8:s.heap.objs.size<h'.objs.size:=by obtain⟨o,_,_,ho,_⟩:=hD0;exact Qqv ho
 have halt:a<h'.objs.size:=Qqv<|hk _ _<|k0 _ _ h1;have hda:s.heap.objs.size≠a:=Qzz hlt;refine Ln (Qwv ai8) hda (Qzz halt) ps 0 [] X.A.in1 _ _ hA rfl ?_ ⟨_,Qq2 _ rfl,rfl,rfl⟩ (hD0.push _) (λq hq=>?_) ?_ λh3 tk' hD3 k3=>?_
 ·obtain⟨o,ho,r⟩:=hT;exact⟨o,Qqq _ ho,r⟩
 ·obtain⟨⟨o,ho,r⟩,y⟩:=hps q hq;have amO:q.p<s.heap.objs.size:=Qqv ho;refine⟨⟨⟨o,Qqq _<|hk _ _<|k0 _ _ ho,r⟩,y⟩,Qwv amO,Qwv<|Nat.lt_trans amO ai8⟩
 ·rw[<-Paired.length hpr]
  simp_all
 ·refine⟨rfl,?_⟩;have kk:∀b u,s.heap.get? b=some u->h3.get? b=some u:=λb u e=>by
   have hb:b<s.heap.objs.size:=Qqv e;exact k3 b u (Qwv hb) (Qwv<|Nat.lt_trans hb ai8)<|Qqq _<|hk _ _<|k0 _ _ e
  have hsys:(s.heap.objs.size == sysModules)=false:=by rw[Qzk];exact Qzz I.big
  refine⟨.ref s.heap.objs.size,upd H s.heap.objs.size<|.dK<|qe [] rs,I.laid kk (Qqw _) ⟨?_,hsys,_,GK hpr .nil,hD3⟩,rfl,q _<|I.hok.fresh<|Qqw _⟩;have:=zJ rs []
  grind
def Uo:D->Option (D×D)
 | .tup [k,v]=>(tM k).map λ_=>(k,v)
 | _=>none
noncomputable def rO:List D->Option (List (D×D))
 | []=>some []
 | d::ds=>match Uo d,rO ds with
  | some p,some r=>some (p::r)
  | _,_=>none
noncomputable def nU(kvs : List (D × D)) : List (D × D) → List (D × D)
  | [] => kvs
  | (k, v) :: r => (match tM k with
    | some q => nU (putD kvs k q v) r
    | none => nU kvs r)
def uG:List D->Option D
 | [.tup ds]=>(rO ds).map λps=>.dct (nU [] ps)
 | _=>none
theorem uw:∀ps kvs,(nU kvs ps).length<=kvs.length+ps.length
 | [],kvs=>Qqw _
 | (k,v)::r,kvs=>by
  unfold nU;split
  ·rename_i q hq;have h1:=uw r<|putD kvs k q v;have h2:=M8 kvs k q v
   grind
  ·have h1:=uw r kvs
   grind
theorem Cy:∀{ds} {ps},rO ds=some ps->ps.length=ds.length
 | [],ps,h=>by cases h;rfl
 | d::ds,ps,h=>by
  unfold rO at h;split at h
  ·rename_i p r h1 h2;cases h;rw[Qq3,Qq3,Cy h2]
  ·cases h
theorem GR{K:Fg}:∀{ds} {ps} {vs} {kvs} {ks},rO ds=some ps->cu K F ds vs->fL K F kvs ks->
  ∃rs,vs=rs.map (λr=>V.ref r.1)/\(∀r∈rs,oH K F r.1 [kV r.2.1,r.2.2])/\fL K F (nU kvs ps) (qe ks rs)
 | [],ps,vs,kvs,ks,h,hr,hk=>by cases h;cases hr;exact⟨[],rfl,λr hr=>by simp at hr,hk⟩
 | d::ds,ps,vs,kvs,ks,h,hr,hk=>by
  unfold rO at h;split at h
  ·rename_i p r h1 h2;cases h;obtain⟨v,w,rfl,p1,p2⟩:=hr;unfold Uo at h1;split at h1
   ·rename_i k x;obtain⟨q,hq,rfl⟩:=Qww.mp h1;obtain⟨_,a,us,rfl,h3,h4⟩:=p1;obtain⟨u1,w1,rfl,q1,u2,w2,rfl,q2,q3⟩:=h4;cases q3;cases aay hq q1;obtain⟨rs,rfl,g1,g2⟩:=GR h2 p2<|hk.put hq q2;refine⟨(a,q,u2)::rs,rfl,λr hr=>?_,?_⟩
    ·grind
    ·unfold nU;rw[hq];exact g2
   ·cases h1
  ·cases h
theorem ae0:CallD C (Za C.K) uG:=by
 intro Pr F env σ H ds d vs Q r p e q;unfold uG at e;split at e
 ·rename_i ds;obtain⟨v,w,rfl,p1,p2⟩:=p;cases p2;obtain⟨ps,e1,rfl⟩:=Qww.mp e;obtain⟨z,a,us,rfl,h1,h1F,h2⟩:=p1.tup r.fr;obtain⟨rs,rfl,g1,g2⟩:=GR (kvs:=[]) e1 h2 rfl;have hl:rs.length=ds.length:=by
   have:=h2.length
   rwa [Qqz] at this
  refine⟨a,rs,rfl,h1,λr' hr=>aY.tupK r.fr<|g1 r' hr,by rw[hl];exact z,λl hlf=>?_⟩;obtain⟨F2,r2,s2,p2⟩:=(r.fresh hlf).keep (New.of (d:=.dct<|nU [] ps) r hlf ⟨by
   have h5:=uw ps [];rw[Cy e1] at h5;exact Qqj h5 (by simpa using z),_,bD,g2⟩)
  exact q _ _ F2 r2 s2 p2
 ·cases e
end
end Ev
namespace L2
open PySem PySem.Spec PyProof.Rows PySem.Builtin PySem.Builtin.Str
section
variable{X:Cx}
def Y9:R2:=λx y H Q=>∃a o,y = .ref a/\XD H a x o/\Q (.bl o.isSome) H
theorem Z4(hu:X.A.units+1<cLine):o9 X (compareOp .In) Y9:=by intro pins s σ H x y v u Q I rx ry h;obtain⟨a,o,rfl,g,q⟩:=h;cases ry;exact apB hu I g rx λs' I'=>⟨.bl o.isSome,H,I',rfl,q⟩
theorem O8(v)(n d:Nat):max 0 (min (if v<0 then v+(n:Int) else v) n)=(HT.gZ n d (some v)):=by
 show _=(((if v<0 then (v+n).toNat else min v.toNat n):Nat):Int)
 grind
theorem range_one(a b:Nat):sliceRange a b 1=List.range' a (b - a):=by
 unfold sliceRange;have h1:(1:Int) > 0:=by decide
 simp only[if_pos h1];have hc:(if a<(b:Int) then (b - (a:Int)+1 - 1) / 1 else 0).toNat=b - a:=by omega
 rw[hc,List.range'_eq_map_range]
 grind
theorem ZQ(lo hi)(n):strSliceIndices lo hi 1 n=List.range' (HT.gZ n 0 lo) (HT.gZ n n hi - HT.gZ n 0 lo):=by
 have h1:1 > 0:=by decide
 unfold strSliceIndices;simp[if_pos h1];rw[<-range_one]
 congr 1
 ·cases lo with
  | none=>rfl
  | some v=>exact O8 v n 0
 ·cases hi with
  | none=>rfl
  | some v=>exact O8 v n n
theorem Ou(c:List Nat):∀m a,a+m<=c.length->(List.range' a m).filterMap (c.toArray[·]?)=(c.drop a).take m
 | 0,a,_=>by simp
 | m+1,a,h=>by
  rw[List.range'_succ,List.filterMap_cons];have e:c.toArray[a]? = some c[a]:=by simp
  rw[e,Ou c m (a+1) (by omega),Qx0 (i:=a) (by omega),List.take_succ_cons]
def xY(z:List Nat)(lo hi:Option Int):List Nat:=(z.drop (HT.gZ z.length 0 lo)).take (HT.gZ z.length z.length hi - HT.gZ z.length 0 lo)
def aoO:V->Option Int->Option Int->Hp->VK->Prop:=λx lo hi H Q=>∃z:List Nat,x = .str ⟨z.toArray⟩/\z.length<=sizeLine/\Q (.str ⟨(xY z lo hi).toArray⟩) H
theorem part_of(p:IsPart v o):∃l,v=partValue l/\l.map (·.1)=o:=by
 cases p with
 | none=>exact⟨none,rfl,rfl⟩
 | int i t=>exact⟨some (i,t),rfl,rfl⟩
theorem YG:Tj X aoO:=by
 intro pins s σ H x v vl vu lo hi sl Q I rx hs pl pu h;obtain⟨z,rfl,hz,q⟩:=h;obtain⟨t,rfl⟩:=rx;obtain⟨l,rfl,el⟩:=part_of pl;obtain⟨u,rfl,eu⟩:=part_of pu;refine⟨"str",_,PySem.F.slot_str_getitem.lookup,typeIs_str s _ t,?_⟩;obtain⟨o,h1,h2,h3⟩:=hs;refine wpAny_getItem_str_slice (st:=none) ⟨o,h1,h2,h3⟩ rfl ?_;have hp:slicePicked ⟨z.toArray⟩ l u none=List.range' (HT.gZ z.length 0 lo) (HT.gZ z.length z.length hi - HT.gZ z.length 0 lo):=by unfold slicePicked;rw[el,eu];show strSliceIndices lo hi 1 z.toArray.size=_;rw[Qq7,ZQ]
 have hle:HT.gZ z.length 0 lo+(HT.gZ z.length z.length hi - HT.gZ z.length 0 lo)<=z.length\/HT.gZ z.length z.length hi - HT.gZ z.length 0 lo=0:=by have a1:=HT.J3 z.length 0 (Qxw _) lo;have a2:=HT.J3 z.length z.length (Qqw _) hi;omega
 have apj:((slicePicked ⟨z.toArray⟩ l u none).filterMap ((⟨z.toArray⟩:Str).cps[·]?))=xY z lo hi:=by
  rw[hp];unfold xY;rcases hle with hle|hle
  ·exact Ou z _ _ hle
  simp_all
 unfold sliceMade;split
 ·rename_i hc;have hlen:(slicePicked ⟨z.toArray⟩ l u none).length=z.length:=by
   have:=(Qjk.mp hc).2;have:=eq_of_beq this
   assumption
  have hw:xY z lo hi=z:=by
   rw[hp,List.length_range'] at hlen;unfold xY;have a2:=HT.J3 z.length z.length (Qqw _) hi;have a0:HT.gZ z.length 0 lo=0\/z.length=0:=by omega
   grind
  rw[hw] at q;exact⟨.str ⟨z.toArray⟩,H,I,⟨t,rfl⟩,q⟩
 ·rw[apj];refine⟨?_,⟨.str ⟨(xY z lo hi).toArray⟩,H,I.tok _,⟨_,rfl⟩,q⟩⟩;show(xY z lo hi).toArray.size<=sizeLine
  grind
end
end L2
namespace Ev
open PySem PySem.Spec PyProof.Rows L2 PySem.Builtin
section
variable{X:Cx}{C:Cfg}{pos:Pos}{x y:Expr}{a b:Ev}
def qJ(k y:D):Option D:=match y with
 | .dct kvs=>(tM k).map λq=>.bl (rB kvs q).isSome
 | _=>none
theorem Z8:rA C Y9 qJ:=by
 intro Pr F env σ H x y d vx vy Q r px py e q;cases y with
 | dct kvs=>
  obtain⟨k,hk,rfl⟩:=Qww.mp<|show(tM x).map (λq=>D.bl (rB kvs q).isSome)=some d from e;obtain⟨z,p,ks,rfl,h1,h2⟩:=py.dct r.fr;cases aaz hk px;refine⟨p,wV ks k,rfl,.inl ⟨ks,k,h1,rfl,rfl⟩,?_⟩;have e2:(wV ks k).isSome=(rB kvs k).isSome:=by rcases h2.val k with ⟨g1,g2⟩|⟨d',v',g1,g2,_⟩<;>rw[g1,g2]<;>rfl
  rw[e2];exact q _ H F r (aY.refl F) rfl
 | _=>cases e
theorem Vb(G:Good X C):Cm X C .In qJ:=⟨_,Z4 G.u1,Z8⟩
def ajf:D->Option Int->Option Int->Option D
 | .str z,lo,hi=>some (.str (xY z lo hi))
 | _,_,_=>none
def vB(a:Ev)(lo hi:EY):Ev:=λenv=>bindR (a env) λd aJ=>bindR (lo aJ) λl dB=>bindR (hi dB) λu zy=>fc (ajf d l u) zy
theorem O7(z)(lo hi):(xY z lo hi).length<=z.length:=by unfold xY;rw[Qw4,Qx4];omega
noncomputable def apw:D->D->Option D
 | .lst a,.lst b=>if a.length+b.length<=sizeLine then some (.lst (a++b)) else none
 | _,_=>none
end
end Ev
namespace HT
open PySem PySem.Spec PyProof PyProof.Rows PySem.Builtin
section
variable{prog:Program}{w:World}{A:Around}{E:Value->Shared->Prop}{s:Shared}
theorem vm{lo hi:Option Int}(ht:IsTup s.heap t items)(hs:s.heap.IsSliceOf sl vl vu .none)(pl:IsPart vl lo)(pu:IsPart vu hi)
  (hw:gZ items.size 0 lo=0/\gZ items.size items.size hi=items.size)
  (h:Q (.ref t) s):wpAny (model prog w) A (getItem (.ref t) (.ref sl)) Q E s:=by
 obtain⟨os,hos,hcs,hds⟩:=id hs;have hTs:s.TypeIs (.ref sl) "slice":=⟨os,hos,hcs⟩;unfold getItem
 try with_reducible refine Qjq ?_
 first|refine Qqx (Qqk ?_)|skip
 refine Qqx<|wpAny_sequenceKey ht.typeIs (by decide) ?_;refine Qqx (Qzq ht.typeIs Qzv
  (Qzj Qzv ht.typeIs entry_tuple_getitem ?_<|args_tuple_getitem _ _))
 show wpAny _ _ (Builtin.Tuple.tupleItemsOf (.ref t) >>= _) _ _ s;refine Qqx<|tupleItemsOf_ ht ?_;refine Qqx<|wpAny_typeOf hTs ?_;rw[if_pos (by decide)];refine Qqx<|qT hs pl pu ?_;have apc:(((gZ items.size 0 lo):Int) == 0&&(1:Int) == 1&&(gZ items.size items.size hi - gZ items.size 0 lo) == items.size)=true:=by simp_all
 show wpAny _ _ (if (((gZ items.size 0 lo):Int) == 0&&1 == 1&&(gZ items.size items.size hi - gZ items.size 0 lo) == items.size)=true then _ else _) _ _ s;rw[if_pos apc];refine Qqx ?_;unfold Builtin.Tuple.tupleIsExact;refine Qqx<|wpAny_typeOf ht.typeIs ?_;refine Qqk ?_;rw[if_pos (by decide)];exact Qqx<|wpAny_rule<|Qqk ⟨_,rfl,Qqk h⟩
end
end HT
namespace L2
open PySem PySem.Spec PyProof.Rows
section
variable{X:Cx}
def alg(K:PySem.W.Frag):V->Option Int->Option Int->Hp->VK->Prop:=λx lo hi H Q=>∃a xs,x = .ref a/\oH K H a xs/\(HT.gZ xs.length 0 lo=0/\HT.gZ xs.length xs.length hi=xs.length)/\Q (.ref a) H
theorem Mp:Tj X (alg X.K):=by
 intro pins s σ H x v vl vu lo hi sl Q I rx hs pl pu h;obtain⟨a,xs,rfl,hx,hw,q⟩:=h;cases rx;obtain⟨its,r,ht,hz⟩:=I.tuple hx;have hlen:its.toArray.size=xs.length:=by rw[Qq7];exact r.length.symm
 refine⟨"tuple",_,PyProof.Rows.slot_tuple_getitem.lookup,ht.typeIs,?_⟩;refine HT.vm ht hs pl pu (by simp_all) ?_;exact⟨.ref a,H,I,rfl,q⟩
end
end L2
namespace Ev
open PySem PySem.Spec PyProof.Rows L2
section
variable{X:Cx}{C:Cfg}{pos:Pos}{x:Expr}{a:Ev}{y z:Expr}{b c:Ev}
def W6:D->Option Int->Option Int->Option D
 | .tup xs,lo,hi=>if HT.gZ xs.length 0 lo=0/\HT.gZ xs.length xs.length hi=xs.length then some (.tup xs) else some (.tup (cutD xs lo hi))
 | _,_,_=>none
def UT(a:Ev)(lo hi:EY):Ev:=λenv=>bindR (a env) λd aJ=>bindR (lo aJ) λl dB=>bindR (hi dB) λu zy=>fc (W6 d l u) zy
theorem YJ{Pr F:Hp}{x d:D}{lo hi:Option Int}(r:Rel C Pr F env σ H)(p:Rep C.K F x v)(e:W6 x lo hi=some d)(q:∀v H' F',Rel C Pr F' env σ H'->aY F F'->Rep C.K F' d v->Q v H') :
  ag1 C.K v lo hi H Q\/alg C.K v lo hi H Q:=by
 unfold W6 at e;split at e
 ·obtain⟨z,a,vs,rfl,h1,_,h2⟩:=lq.tup r.fr<|.inl p;split at e
  ·rename_i hn;cases e;exact .inr ⟨a,vs,rfl,h1,by rw[h2.length];exact hn,q _ H F r (aY.refl F) p⟩
  ·rename_i hn;cases e;refine .inl ⟨a,vs,rfl,h1,by rw[h2.length];exact hn,λb hb=>?_⟩;obtain⟨r2,s2⟩:=r.new hb;exact q _ _ _ r2 s2 ⟨Qqj (uN _ _ _) z,b,_,rfl,oH.of bD,cu.mono s2 _ _<|h2.cut lo hi⟩
 ·cases e
def sH(g g':D->D->Option D)(a b c:Ev):Ev:=λenv=>bindR (a env) λu e1=>bindR (b e1) λv e2=>match g u v with
 | some (.bl k)=>if k=true then bindR (c e2) λt e3=>fc (g' v t) e3 else .ok (.bl false) e2
 | _=>.stuck
end
end Ev
namespace ZT
open PySem PySem.Spec PyProof.Rows L2 PySem.Builtin
section
variable{prog:Program}{w:World}{A:Around}{E:Value->Shared->Prop}{s:Shared}
theorem aai(hj:s.heap.IsTupleIter j t n)(ht:s.heap.IsTuple t its)(hx:its[n]? = some x)
  (q:∀g,g.IsTupleIter j t (n+1)->Heap.SameBut j s.heap g->Q x { s with heap:=g }):wpAny (model prog w) A (Builtin.SmallTypes.nextOf (.ref j)) Q E s:=by
 obtain⟨u,hu,uc,ud⟩:=id hj;obtain⟨ut,hut,_,m,mt⟩:=ht;unfold Builtin.SmallTypes.nextOf;refine Qqx<|Qzq hj.typeIs F.slot_tuple_iterator_next<|Qzj F.slot_tuple_iterator_next hj.typeIs F.entry_tuple_iterator_next ?_<|F.args_tuple_iterator_next_1 _;show wpAny _ _ (field (.ref j) 0 >>= _) _ _ s;refine Qqx<|Qzx hu ud rfl ?_;show wpAny _ _ (if (Value.ref t == Value.none)=true then _ else _) _ _ s;rw[if_neg (show ¬((Value.ref t == Value.none)=true) from Qwj)];show wpAny _ _ (field (.ref j) 1 >>= _) _ _ s;refine Qqx<|Qzx hu ud rfl ?_;show wpAny _ _ (seqItems? (.ref t) >>= _) _ _ s;refine Qqx<|Qz7 hut mt ?_;simp[Qzy,hx];refine Qqx<|wpAny_setField hu ud (by simp)<|Qqk ⟨x,rfl,Qqk<|q _ ?_<|Heap.SameBut.update ..⟩;exact⟨_,Heap.get?_update_self _ hu<|Obj.isFreed_of_fields<|Obj.data_mapFields ud _,(Obj.cls_mapFields ..).trans uc,by rw[Obj.data_mapFields ud];simp[rawInt]⟩
theorem Km(hh:A.handled=none)(hj:s.heap.IsTupleIter j t n)(ht:s.heap.IsTuple t its)(hx:its[n]? = none)
  (q:∀g e,Heap.ExtBut j s.heap g->(∃o,g.get? e=some o/\o.cls = .type "StopIteration")->E (.ref e) { s with heap:=g }):wpAny (model prog w) A (Builtin.SmallTypes.nextOf (.ref j)) Q E s:=by
 obtain⟨u,hu,uc,ud⟩:=id hj;obtain⟨ut,hut,_,m,mt⟩:=ht;unfold Builtin.SmallTypes.nextOf;refine Qqx<|Qzq (name:=Str.ofString "__next__") hj.typeIs F.slot_tuple_iterator_next<|Qzj F.slot_tuple_iterator_next hj.typeIs F.entry_tuple_iterator_next ?_<|F.args_tuple_iterator_next_1 _;show wpAny _ _ (field (.ref j) 0 >>= _) _ _ s;refine Qqx<|Qzx hu ud (x:=.ref t) rfl ?_;show wpAny _ _ (if (Value.ref t == Value.none)=true then _ else _) _ _ s;rw[if_neg (show ¬((Value.ref t == Value.none)=true) from Qwj)];show wpAny _ _ (field (.ref j) 1 >>= _) _ _ s;refine Qqx<|Qzx hu ud (x:=.int n 0) rfl ?_;show wpAny _ _ (seqItems? (.ref t) >>= _) _ _ s;refine Qqx<|Qz7 hut mt ?_;simp only[Qzy,hx];refine Qqx<|wpAny_rule<|Qqx (wpAny_setField hu ud (by simp) ?_);show wpAny _ _ (newExc (.type "StopIteration") [] >>= _) _ _ _;refine Qqx ?_;simp only[newExc,newTuple];refine Qqx (Qzw ?_ (by size_fits));refine Qqx (m:=firstArgMember _ _) (wpAny_of_eq (a:=Value.none) (by rfl) ?_);refine Qzw ?_ (by size_fits);simp only[raiseNew];refine Qqx (wpAny_handled ?_)
 first|rw[show A.in1.handled=none from hh]|rw[hh]
 refine Qqx (Qqk (wpAny_throw ?_));exact q _ _ (((Heap.SameBut.update ..).extBut.push _).push _) ⟨_,Qq2 _ rfl,rfl⟩
end
theorem pM{prog:Program}{w:World}{A:Around}(hh:A.handled=none)(j t:Addr)(hne:t≠j)(its:Array Value) :
  Draws prog w A j [j,t] its.size (λi v=>its[i]? = some v) (λi h=>h.IsTupleIter j t i/\h.IsTuple t its) where
 live:=λ_ _ st=>let ⟨o,ho,_⟩:=st.1;⟨o,ho⟩
 frame:=λ_ _ _ st hk=>by
  obtain⟨⟨o,ho,r⟩,o2,ho2,r2⟩:=st;exact⟨⟨o,hk j (by simp) o ho,r⟩,o2,hk t (by simp) o2 ho2,r2⟩
 item:=λi s Q E hi st hQ=>by
  refine aai st.1 st.2 (x:=its[i]) (by simp[hi]) λh' hit' hs'=>?_;exact hQ _ h' s.toks (by simp[hi]) ⟨hit',st.2.extBut hs'.extBut hne⟩ hs'
 done:=λs Q E st hE=>Km hh st.1 st.2 (by simp) hE
structure Ap(z TI TO j1 j2:Addr)(f1 f2:List Addr):Prop where
 a1:TI≠z
 a2:TO≠z
 a3:TI≠TO
 a4:j1≠j2
 b1:j1∈f1
 b2:j2∈f2
 c1:z ∉ f1
 c2:z ∉ f2
 c3:TO ∉ f1
 c4:TO ∉ f2
 c5:TI ∉ f1
 c6:TI ∉ f2
 c7:j2 ∉ f1
 c8:j1 ∉ f2
section
variable{prog:Program}{w:World}{A:Around}{E:Value->Shared->Prop}{s:Shared}{z TI TO j1 j2:Addr}{f1 f2:List Addr}{n1 n2 k:Nat}{P1 P2:Nat->Value->Prop}{S1 S2:Nat->Heap->Prop}{a b:Value}
theorem ie{f:List Addr}(h:c∈f)(h':d ∉ f):c≠d:=λe=>h'<|e ▸ h
theorem X8{Q:Value->Shared->Prop}(D:Ap z TI TO j1 j2 f1 f2)(D1:Draws prog w A j1 f1 n1 P1 S1)(D2:Draws prog w A j2 f2 n2 P2 S2)(k1:k<n1)(k2:k<n2)
  (hz:IsZip s.heap z TI TO .none) (hTI:IsPair s.heap TI (.ref j1) (.ref j2)) (hTO:IsPair s.heap TO a b) (s1:S1 k s.heap) (s2:S2 k s.heap)
  (q:∀x y g tk,P1 k x->P2 k y->IsZip g z TI TO (rawInt s.heap.objs.size)->IsPair g TO x y->S1 (k+1) g->S2 (k+1) g->IsPair g s.heap.objs.size x y->g.objs.size=s.heap.objs.size+1->
   (∀c o,c≠z->c≠TO->c≠j1->c≠j2->s.heap.get? c=some o->g.get? c=some o)->Q (.ref s.heap.objs.size) { s with heap:=g,toks:=tk }) :
  wpAny (model prog w) A (Builtin.«zip.__next__» ⟨[.ref z],[]⟩) (λfin s'=>∃v,fin = .done (.ret v)/\Q v s') E s:=by
 have aeW:=ie D.b1 D.c1;have ajE:=ie D.b2 D.c2;have ajF:=ie D.b1 D.c3;have ank:=ie D.b2 D.c4;show wpAny _ _ (field (.ref z) 2 >>= _) _ _ _;refine Qqx<|Qzx hz rfl rfl ?_;show wpAny _ _ (field (.ref z) 3 >>= _) _ _ _;refine Qqx<|Qzx hz rfl rfl ?_;refine Qqx<|Qz7 hTI rfl ?_;show wpAny _ _ (Builtin.SmallTypes.ownedTupleIsFree (.ref z) >>= _) _ _ _;refine Qqx ?_;unfold Builtin.SmallTypes.ownedTupleIsFree;refine Qqx<|Qzx hz rfl rfl (Qqk ?_);simp only[if_true];refine Qqx<|wpAny_rule ?_;refine Qqx<|Qzx hz rfl rfl ?_;refine Qqx<|Qjx hz (by simp) λg1 hz1 e1=>?_
 replace hz1:IsZip g1 z TI TO .ellipsis:=hz1
 refine Qqx ?_;simp only[List.zipIdx_cons,List.zipIdx_nil,List.forIn_cons,Qj9];refine Qqx<|Qqx<|wpAny_onRaise ?_;show wpAny _ _ (Builtin.SmallTypes.nextOf (.ref j1) >>= _) _ _ _;have s1':=D1.frame k _ _ s1 λc hc o e=>e1.extBut _ _ (ie hc D.c1) e;refine Qqx<|D1.item k { s with heap:=g1 } _ _ k1 s1' λx g2 tk2 px sx e2=>Qqk ?_;have t2:=e2.extBut _ _ ajF.symm<|e1.extBut _ _ D.a2 hTO;refine Qqx<|Qz7 t2 rfl ?_;refine Qqx<|wpAny_updateSeq_pair t2 λg3 t3 e3=>?_
 replace t3:IsPair g3 TO x b:=t3
 refine Qqx<|wpAny_letGo<|Qqk ?_;refine Qqx<|Qqx<|wpAny_onRaise ?_;show wpAny _ _ (Builtin.SmallTypes.nextOf (.ref j2) >>= _) _ _ _;have s2':=D2.frame k _ _ s2 λc hc o e=>e3.extBut _ _ (ie hc D.c4)<|e2.extBut _ _ (ie hc D.c8)<|e1.extBut _ _ (ie hc D.c2) e;refine Qqx<|D2.item k { s with heap:=g3,toks:=tk2 } _ _ k2 s2' λy g4 tk4 py sy e4=>Qqk ?_;have t4:=e4.extBut _ _ ank.symm t3;refine Qqx<|Qz7 t4 rfl ?_;refine Qqx<|wpAny_updateSeq_pair t4 λg5 t5 e5=>?_
 replace t5:IsPair g5 TO x y:=t5
 refine Qqx<|wpAny_letGo<|Qqk<|Qqk ?_;refine Qqx<|Qz7 t5 rfl ?_;refine Qqx<|wpAny_newTuple ?_;have hsz:g5.objs.size=s.heap.objs.size:=by rw[e5.1,e4.1,e3.1,e2.1,e1.1]
 have hz5:=e5.extBut _ _ D.a2.symm<|e4.extBut _ _ ajE.symm<|e3.extBut _ _ D.a2.symm<|e2.extBut _ _ aeW.symm hz1;have al9:∀c o,c≠z->c≠TO->c≠j1->c≠j2->s.heap.get? c=some o->g5.get? c=some o:=λc o c1 c2 c3 c4 e=>
  e5.extBut _ _ c2 (e4.extBut _ _ c4<|e3.extBut _ _ c2<|e2.extBut _ _ c3<|e1.extBut _ _ c1 e)
 have s15:=D1.frame _ _ _ sx λc hc o e=>e5.extBut _ _ (ie hc D.c3)<|e4.extBut _ _ (ie hc D.c7)<|e3.extBut _ _ (ie hc D.c3) e;have s25:=D2.frame _ _ _ sy λc hc o e=>e5.extBut _ _ (ie hc D.c4) e;have zlt:=Qqv hz5;show wpAny _ _ (Builtin.SmallTypes.ownedTupleHandOut (.ref z) (.ref g5.objs.size) >>= _) _ _ _;refine Qqx ?_;unfold Builtin.SmallTypes.ownedTupleHandOut;have hz6:IsZip (g5.push { cls:=.type "tuple",data:=.seq #[x,y] }) z TI TO .ellipsis:=Qqq _ hz5;refine Qqx<|Qjx hz6 (by simp) λg7 hz7 e7=>?_
 replace hz7:IsZip g7 z TI TO (rawInt g5.objs.size):=hz7
 refine Qjx hz7 (by simp) λg8 hz8 e8=>?_
 replace hz8:IsZip g8 z TI TO (rawInt g5.objs.size):=hz8
 have up:∀c o,c≠z->g5.get? c=some o->g8.get? c=some o:=λc o c1 e=>e8.extBut _ _ c1<|e7.extBut _ _ c1<|Qqq _ e;have t8:=e8.extBut _ _ (Qzz zlt)<|e7.extBut _ _ (Qzz zlt)<|Qq2 _ rfl;have l8:g8.objs.size=g5.objs.size+1:=by rw[e8.1,e7.1,Qx6]
 rw[hsz] at hz8 t8 l8;refine Qqk ⟨_,rfl,?_⟩;show Q (.ref g5.objs.size) _;rw[hsz];exact q x y g8 _ px py hz8 (up _ _ D.a2 t5) (D1.frame _ _ _ s15 λc hc o e=>up c o (ie hc D.c1) e) (D2.frame _ _ _ s25 λc hc o e=>up c o (ie hc D.c2) e) t8 l8 λc o c1 c2 c3 c4 e=>up c o c1<|al9 c o c1 c2 c3 c4 e
theorem ack(D:Ap z TI TO j1 j2 f1 f2)(D1:Draws prog w A j1 f1 n1 P1 S1)(D2:Draws prog w A j2 f2 n2 P2 S2)(hk:k=n1\/(k<n1/\k=n2))
  (hz:IsZip s.heap z TI TO .none) (hTI:IsPair s.heap TI (.ref j1) (.ref j2)) (hTO:IsPair s.heap TO a b) (s1:S1 k s.heap) (s2:S2 k s.heap)
  (q:∀g e tk,(∀c o,c≠z->c≠TO->c≠j1->c≠j2->s.heap.get? c=some o->g.get? c=some o)->(∃o,g.get? e=some o/\o.cls = .type "StopIteration")->E (.ref e) { s with heap:=g,toks:=tk }) :
  wpAny (model prog w) A (Builtin.«zip.__next__» ⟨[.ref z],[]⟩) Q E s:=by
 have aeW:=ie D.b1 D.c1;have ajE:=ie D.b2 D.c2;have ajF:=ie D.b1 D.c3;have ank:=ie D.b2 D.c4;show wpAny _ _ (field (.ref z) 2 >>= _) _ _ _;refine Qqx<|Qzx hz rfl rfl ?_;show wpAny _ _ (field (.ref z) 3 >>= _) _ _ _;refine Qqx<|Qzx hz rfl rfl ?_;refine Qqx<|Qz7 hTI rfl ?_;show wpAny _ _ (Builtin.SmallTypes.ownedTupleIsFree (.ref z) >>= _) _ _ _;refine Qqx ?_;unfold Builtin.SmallTypes.ownedTupleIsFree;refine Qqx<|Qzx hz rfl rfl (Qqk ?_);simp only[if_true];refine Qqx<|wpAny_rule ?_;refine Qqx<|Qzx hz rfl rfl ?_;refine Qqx<|Qjx hz (by simp) λg1 hz1 e1=>?_
 replace hz1:IsZip g1 z TI TO .ellipsis:=hz1
 refine Qqx ?_;simp only[List.zipIdx_cons,List.zipIdx_nil,List.forIn_cons,Qj9];refine Qqx<|Qqx<|wpAny_onRaise ?_;show wpAny _ _ (Builtin.SmallTypes.nextOf (.ref j1) >>= _) _ _ _;have s1':=D1.frame k _ _ s1 λc hc o e=>e1.extBut _ _ (ie hc D.c1) e;rcases hk with rfl|⟨k1,rfl⟩
 ·refine Qqx<|D1.done { s with heap:=g1 } _ _ s1' λg2 e x2 he=>?_;obtain⟨oe,hoe,hce⟩:=he;have hz2:=x2 _ _ aeW.symm hz1;have hez:e≠z:=λx=>by grind
  exact Qjx hz2 (by simp) λg3 _ e3=>q g3 e s.toks (λc o c1 _ c3 _ x=>e3.extBut _ _ c1<|x2 _ _ c3<|e1.extBut _ _ c1 x) ⟨oe,e3.extBut _ _ hez hoe,hce⟩
 ·refine Qqx<|D1.item k { s with heap:=g1 } _ _ k1 s1' λx g2 tk2 px sx e2=>Qqk ?_;have t2:=e2.extBut _ _ ajF.symm<|e1.extBut _ _ D.a2 hTO;refine Qqx<|Qz7 t2 rfl ?_;refine Qqx<|wpAny_updateSeq_pair t2 λg3 t3 e3=>?_;refine Qqx<|wpAny_letGo<|Qqk ?_;refine Qqx<|Qqx<|wpAny_onRaise ?_;show wpAny _ _ (Builtin.SmallTypes.nextOf (.ref j2) >>= _) _ _ _;have s2':=D2.frame k _ _ s2 λc hc o e=>e3.extBut _ _ (ie hc D.c4)<|e2.extBut _ _ (ie hc D.c8)<|e1.extBut _ _ (ie hc D.c2) e;refine Qqx<|D2.done { s with heap:=g3,toks:=tk2 } _ _ s2' λg4 e x4 he=>?_;obtain⟨oe,hoe,hce⟩:=he;have hz4:=x4 _ _ ajE.symm<|e3.extBut _ _ D.a2.symm<|e2.extBut _ _ aeW.symm hz1;have hez:e≠z:=λx=>by grind
  exact Qjx hz4 (by simp) λg5 _ e5=>q g5 e tk2 (λc o c1 c2 c3 c4 x=>e5.extBut _ _ c1<|x4 _ _ c4<|e3.extBut _ _ c2<|e2.extBut _ _ c3<|e1.extBut _ _ c1 x) ⟨oe,e5.extBut _ _ hez hoe,hce⟩
theorem oV(D:Ap z TI TO j1 j2 f1 f2)(D1:Draws prog w A.in1 j1 f1 n1 P1 S1)(D2:Draws prog w A.in1 j2 f2 n2 P2 S2)(k1:k<n1)(k2:k<n2)
  (hz:IsZip s.heap z TI TO .none) (hTI:IsPair s.heap TI (.ref j1) (.ref j2)) (hTO:IsPair s.heap TO a b) (s1:S1 k s.heap) (s2:S2 k s.heap)
  (q:∀x y g tk,P1 k x->P2 k y->IsZip g z TI TO (rawInt s.heap.objs.size)->IsPair g TO x y->S1 (k+1) g->S2 (k+1) g->IsPair g s.heap.objs.size x y->g.objs.size=s.heap.objs.size+1->
   (∀c o,c≠z->c≠TO->c≠j1->c≠j2->s.heap.get? c=some o->g.get? c=some o)->Q (some (.ref s.heap.objs.size)) { s with heap:=g,toks:=tk }) :
  wpAny (model prog w) A (pyNext (.ref z)) Q E s:=by
 have hT:s.TypeIs (.ref z) "zip":=⟨_,hz,rfl⟩;unfold pyNext;exact Qqx (wpAny_attempt (Qzq hT F.slot_zip_next (Qzj F.slot_zip_next hT F.entry_zip_next
  (X8 D D1 D2 k1 k2 hz hTI hTO s1 s2 λx y g tk u1 u2 u3 u4 u5 u6 u7 u8 u9=>Qqk<|q x y g tk u1 u2 u3 u4 u5 u6 u7 u8 u9) (F.args_zip_next_1 _))))
theorem pR(D:Ap z TI TO j1 j2 f1 f2)(D1:Draws prog w A.in1 j1 f1 n1 P1 S1)(D2:Draws prog w A.in1 j2 f2 n2 P2 S2)(hk:k=n1\/(k<n1/\k=n2))
  (hz:IsZip s.heap z TI TO .none) (hTI:IsPair s.heap TI (.ref j1) (.ref j2)) (hTO:IsPair s.heap TO a b) (s1:S1 k s.heap) (s2:S2 k s.heap)
  (q:∀g tk,(∀c o,c≠z->c≠TO->c≠j1->c≠j2->s.heap.get? c=some o->g.get? c=some o)->Q none { s with heap:=g,toks:=tk }):wpAny (model prog w) A (pyNext (.ref z)) Q E s:=by
 have hT:s.TypeIs (.ref z) "zip":=⟨_,hz,rfl⟩;unfold pyNext;refine Qqx (wpAny_attempt (Qzq hT F.slot_zip_next (Qzj F.slot_zip_next hT F.entry_zip_next
  (ack D D1 D2 hk hz hTI hTO s1 s2 λg e tk hkp he=>?_) (F.args_zip_next_1 _))))
 obtain⟨o,ho,hc⟩:=he;refine Qqx<|wpAny_isInstance ⟨o,ho,hc⟩ isSubtype_stop ?_;exact Qqk<|q _ _ hkp
end
end ZT
namespace L2
open PySem PySem.Spec PyProof.Rows PySem.Builtin ZT
def Itz(K:PySem.W.Frag)(a1 a2:Addr):It:=
 ⟨λi H=>∃xs ys x y,oH K H a1 xs/\oH K H a2 ys/\xs[i]? = some x/\ys[i]? = some y,
 λi H v H'=>∃p x y,(∀xs,oH K H a1 xs->xs[i]? = some x)/\(∀ys,oH K H a2 ys->ys[i]? = some y)/\H p=none/\H'=upd H p (.tup [x,y])/\v = .ref p,
 λi H=>∃xs ys,oH K H a1 xs/\oH K H a2 ys/\(i=xs.length\/(i<xs.length/\i=ys.length))⟩
structure Apz(z TI TO j1 j2 a1 a2:Addr):Prop where
 t1:TI≠z
 t2:TO≠z
 t3:TI≠TO
 t4:j1≠j2
 b1:z ∉ [j1,a1]
 b2:z ∉ [j2,a2]
 b3:TO ∉ [j1,a1]
 b4:TO ∉ [j2,a2]
 b5:TI ∉ [j1,a1]
 b6:TI ∉ [j2,a2]
 b7:j2 ∉ [j1,a1]
 b8:j1 ∉ [j2,a2]
 c1:a1≠j1
 c2:a2≠j2
theorem Apz.ap{z TI TO j1 j2 a1 a2:Addr}(D:Apz z TI TO j1 j2 a1 a2):Ap z TI TO j1 j2 [j1,a1] [j2,a2]:=⟨D.t1,D.t2,D.t3,D.t4,by simp,by simp,D.b1,D.b2,D.b3,D.b4,D.b5,D.b6,D.b7,D.b8⟩
theorem Yr{P:Program}{w:World}{K:PySem.W.Frag}{elts:List Expr}{kk:Nat}{pos:Pos}(z TI TO j1 j2 a1 a2:Addr)(D:Apz z TI TO j1 j2 a1 a2) :
  Turn P w K (.Tuple elts kk pos) (Itz K a1 a2) [z,TI,TO,j1,j2] z (λi h=>IsZip h z TI TO .none/\IsPair h TI (.ref j1) (.ref j2)/\(∃a b,IsPair h TO a b)/\h.IsTupleIter j1 a1 i/\h.IsTupleIter j2 a2 i) where
 mem:=by simp
 obj:=λi h st b hb=>by
  obtain⟨hz,hTI,⟨a,c,hTO⟩,⟨o1,e1,_,d1⟩,o2,e2,_,d2⟩:=st
  grind
 keep:=λi h h' st k=>by
  obtain⟨hz,hTI,⟨a,c,hTO⟩,⟨o1,e1,r1⟩,o2,e2,r2⟩:=st;exact⟨k z (by simp) _ hz,k TI (by simp) _ hTI,⟨a,c,k TO (by simp) _ hTO⟩,⟨o1,k j1 (by simp) _ e1,r1⟩,o2,k j2 (by simp) _ e2,r2⟩
 item:=by
  intro X hP hw hK hc i pins s σ H E I hf st hg;subst hP hw hK;obtain⟨hz,hTI,⟨a,b,hTO⟩,i1,i2⟩:=st;obtain⟨xs,ys,x,y,hx,hy,gx,gy⟩:=hg;obtain⟨us,ru,pu,zu⟩:=I.tuple hx;obtain⟨vs,rv,pv,zv⟩:=I.tuple hy;obtain⟨u,hu,rxu⟩:=ru.get gx;obtain⟨v,hv,ryv⟩:=rv.get gy;have lu:i<us.toArray.size:=by grind
  have lv:i<vs.toArray.size:=by grind
  have D1:Draws X.prog X.w X.A.in1 j1 [j1,a1] _ _ _:=pM (A:=X.A.in1) (show X.A.in1.handled=none from I.ok.hd hc) j1 a1 D.c1 us.toArray;have D2:Draws X.prog X.w X.A.in1 j2 [j2,a2] _ _ _:=pM (A:=X.A.in1) (show X.A.in1.handled=none from I.ok.hd hc) j2 a2 D.c2 vs.toArray;refine oV (A:=X.A) D.ap D1 D2 lu lv hz hTI hTO ⟨i1,pu⟩ ⟨i2,pv⟩ λx' y' g tk px py hz' aa0 s1 s2 hT hsz hk=>?_;have ex:x'=u:=by simp_all
  have ey:y'=v:=by simp_all
  subst ex ey;refine⟨_,rfl,?_⟩;refine wpAny_letOwnedTupleGo_zip (s:={ s with heap:=g,toks:=tk }) hz' λg' hz'' e'=>?_;have lr:∀b o,b≠z->g.get? b=some o->g'.get? b=some o:=λb o hb q=>(e'.2 b hb).trans q;have lts:∀b ∈ [z,TI,TO,j1,j2],b<s.heap.objs.size:=λb hb=>by
   simp only[Qwq,List.not_mem_nil,or_false] at hb;rcases hb with rfl|rfl|rfl|rfl|rfl
   ·exact Qqv hz
   ·exact Qqv hTI
   ·exact Qqv hTO
   ·obtain⟨_,q,_⟩:=i1;exact Qqv q
   ·obtain⟨_,q,_⟩:=i2;exact Qqv q
  have nT:H s.heap.objs.size=none:=I.hok.fresh<|Qqw _;refine⟨.ref s.heap.objs.size,upd H s.heap.objs.size<|.tup [x,y],I.drawn (t':=tk) (ch:=[z,TI,TO,j1,j2]) hf (λb o hb q=>?_) (Qqw _) ?_,rfl,⟨_,x,y,λzs hq=>by rw[I.uR hq hx];exact gx,λzs hq=>by rw[I.uR hq hy];exact gy,nT,rfl,rfl⟩,⟨hz'',?_,⟨_,_,lr TO _ D.t2 aa0⟩,?_,?_⟩,λb hb=>?_⟩
  ·simp_all
  ·exact⟨by show 2<=sizeLine;decide,[x',y'],.cons rxu<|.cons ryv .nil,_,lr _ _ (Qzz (lts z (by simp))) hT,rfl,⟨_,rfl⟩,rfl⟩
  ·exact lr TI _ D.t1 (hk TI _ D.t1 D.t3 (λq=>D.b5 (by simp[q])) (λq=>D.b6 (by simp[q])) hTI)
  ·obtain⟨o,q,r⟩:=s1.1;exact⟨o,lr j1 o (λq=>D.b1 (by simp[q])) q,r⟩
  ·obtain⟨o,q,r⟩:=s2.1;exact⟨o,lr j2 o (λq=>D.b2 (by simp[q])) q,r⟩
  ·rw[cz (Qwv (lts b hb))];exact(hf b hb).1
 done:=by
  intro X hP hw hK hc i pins s σ H E I hf st hg;subst hP hw hK;obtain⟨hz,hTI,⟨a,b,hTO⟩,i1,i2⟩:=st;obtain⟨xs,ys,hx,hy,hi⟩:=hg;obtain⟨us,ru,pu,zu⟩:=I.tuple hx;obtain⟨vs,rv,pv,zv⟩:=I.tuple hy;have l1:=ru.length;have l2:=rv.length;have D1:Draws X.prog X.w X.A.in1 j1 [j1,a1] _ _ _:=pM (A:=X.A.in1) (show X.A.in1.handled=none from I.ok.hd hc) j1 a1 D.c1 us.toArray;have D2:Draws X.prog X.w X.A.in1 j2 [j2,a2] _ _ _:=pM (A:=X.A.in1) (show X.A.in1.handled=none from I.ok.hd hc) j2 a2 D.c2 vs.toArray;refine pR (A:=X.A) (k:=i) D.ap D1 D2 (by simp_all) hz hTI hTO ⟨i1,pu⟩ ⟨i2,pv⟩ λg tk hk=>⟨rfl,I.Ay (t':=tk) (ch:=[z,TI,TO,j1,j2]) hf λb o hb e=>?_⟩
  simp_all
 self:=λA i s Q E st h=>wpAny_pyIter_zip st.1 h
end L2
namespace ZT
open PySem PySem.Spec PyProof.Rows L2 PySem.Builtin
noncomputable abbrev h1T(h:Heap)(l1:Addr):Heap:=h.push { cls:=.type "tuple_iterator",data:=.fields #[.ref l1,.int 0 0] }
abbrev h2T(h:Heap)(l1 l2:Addr):Heap:=(h1T h l1).push { cls:=.type "tuple_iterator",data:=.fields #[.ref l2,.int 0 0] }
abbrev h3T(h:Heap)(l1 l2:Addr):Heap:=(h2T h l1 l2).push { cls:=.type "tuple",data:=.seq #[.ref h.objs.size,.ref (h1T h l1).objs.size] }
abbrev h4T(h:Heap)(l1 l2:Addr):Heap:=(h3T h l1 l2).push { cls:=.type "tuple",data:=.seq #[.none,.none] }
abbrev h5T(h:Heap)(l1 l2:Addr):Heap:=(h4T h l1 l2).push { cls:=.type "zip",data:=.fields #[.none,.bool false,.bool false,.ref (h2T h l1 l2).objs.size,.ref (h3T h l1 l2).objs.size] }
theorem ahZ(l1 l2)(xs ys):Meets (Builtin.«zip.__new__» ⟨[.type "zip",.ref l1,.ref l2],[]⟩) (λ_ R s=>s.heap.IsTuple l1 xs/\s.heap.IsTuple l2 ys/\
   R (.ok (.ret (.ref (h4T s.heap l1 l2).objs.size))) { s with heap:=h5T s.heap l1 l2 }):=
 .of_wp λprog w A R s h=>by
  obtain⟨hp,g,d,tk,os⟩:=s;obtain⟨hl1,hl2,h⟩:=h;have hsub:=sub_zip;have hL1:=hl1;have hL2:Heap.IsTuple (Shared.heap ⟨hp.push { cls:=.type "tuple_iterator",data:=.fields #[.ref l1,.int 0 0] },g,d,tk,os⟩) l2 ys:=Heap.IsTuple.push hl2 _
  wp_walk using wpAny_pyIter_tuple hL1,wpAny_pyIter_tuple hL2
  exact⟨_,rfl,h⟩
section
variable{prog:Program}{w:World}{A:Around}{E:Value->Shared->Prop}{s:Shared}
theorem ae2(hl1:s.heap.IsTuple l1 xs)(hl2:s.heap.IsTuple l2 ys)
  (h:∀g,IsZip g (s.heap.objs.size+4) (s.heap.objs.size+2) (s.heap.objs.size+3) .none->IsPair g (s.heap.objs.size+2) (.ref s.heap.objs.size) (.ref (s.heap.objs.size+1))->
   IsPair g (s.heap.objs.size+3) .none .none->g.IsTupleIter s.heap.objs.size l1 0->g.IsTupleIter (s.heap.objs.size+1) l2 0->g.objs.size=s.heap.objs.size+5->
   (∀c o,s.heap.get? c=some o->g.get? c=some o)->Q (.ref (s.heap.objs.size+4)) { s with heap:=g }) :
  wpAny (model prog w) A (call (.type "zip") [.ref l1,.ref l2]) Q E s:=by
 refine callType_new F.called_zip (by decide) (F.typeCall_zip_2 _ _) (F.newCall_zip_2 _ _) (λobj=>F.args_object_init_3 obj _ _) F.entry_zip_new (ahZ l1 l2 xs ys) ⟨hl1,hl2,?_⟩;have z1:(h1T s.heap l1).objs.size=s.heap.objs.size+1:=Qx6 ..;have z2:(h2T s.heap l1 l2).objs.size=s.heap.objs.size+2:=by simp_all
 have z3:(h3T s.heap l1 l2).objs.size=s.heap.objs.size+3:=by simp_all
 have z4:(h4T s.heap l1 l2).objs.size=s.heap.objs.size+4:=by simp_all
 have z5:(h5T s.heap l1 l2).objs.size=s.heap.objs.size+5:=by simp_all
 have g5:(h5T s.heap l1 l2).get? (h4T s.heap l1 l2).objs.size=some _:=Qq2 _ rfl;have g4:(h5T s.heap l1 l2).get? (h3T s.heap l1 l2).objs.size=some _:=Qqq _<|Qq2 _ rfl;have g3:(h5T s.heap l1 l2).get? (h2T s.heap l1 l2).objs.size=some _:=Qqq _<|Qqq _<|Qq2 _ rfl;have g2:(h5T s.heap l1 l2).get? (h1T s.heap l1).objs.size=some _:=Qqq _<|Qqq _<|Qqq _<|Qq2 _ rfl;have g1:(h5T s.heap l1 l2).get? s.heap.objs.size=some _:=Qqq _<|Qqq _<|Qqq _<|Qqq _<|Qq2 _ rfl;show _/\_;rw[z2,z3,z4] at g5;rw[z1,z2] at g3;rw[z3] at g4;rw[z1] at g2;rw[z4];exact⟨⟨_,g5,rfl⟩,h _ g5 g3 g4 ⟨_,g1,rfl,rfl⟩ ⟨_,g2,rfl,rfl⟩ z5 λc o x=>Qqq _<|Qqq _<|Qqq _<|Qqq _<|Qqq _ x⟩
end
end ZT
namespace L2
open PySem PySem.Spec PyProof.Rows PySem.Builtin ZT
section
variable{X:Cx}
def ao9(K:PySem.W.Frag)(ta:TA):TI:=λσ H R=>ta σ H λvs H1=>∃a1 a2,vs=[.ref a1,.ref a2]/\(∃xs,oH K H1 a1 xs)/\(∃ys,oH K H1 a2 ys)/\R (Itz K a1 a2) H1
theorem ahg{elts:List Expr}{k:Nat}{tp:Pos}{p pos:Pos}(hg:Gl X "zip")(hm:X.mg "zip" = none)(ha:PA X [a,b] ta)(hs:starEach [a,b] X.env=(false,eval a X.env)::starEach [b] X.env:=by rfl)(hs2:starEach [b] X.env=[(false,eval b X.env)]:=by rfl):PI X (.Tuple elts k tp) (.Call (.Name "zip" p) [a,b] [] pos) (ao9 X.K ta):=by
 intro pins s σ H R I h;refine Call_ (rQ I hg hm PyProof.Rows.boot_zip (Qxv (fG (ha pos pins s σ H _ I h) λus s1 ⟨vs,H1,I1,r1,q1⟩=>?_) hs (by rw[hs2];rfl)));obtain⟨a1,a2,e,⟨xs,hx⟩,⟨ys,hy⟩,q⟩:=q1;subst e;cases r1 with
 | cons r rr=>
  cases rr with
  | cons r' rr'=>
   cases rr';cases r;cases r';obtain⟨u1,ru1,p1,z1⟩:=I1.tuple hx;obtain⟨u2,ru2,p2,z2⟩:=I1.tuple hy;have lt1:a1<s1.heap.objs.size:=by obtain⟨_,e,_⟩:=p1;exact Qqv e
   have Ui:a2<s1.heap.objs.size:=by obtain⟨_,e,_⟩:=p2;exact Qqv e
   refine ae2 p1 p2 λg hz hTI hTO i1 i2 hsz hk=>?_;refine wpAny_pyIter_zip hz ?_;have I2:Inv X pins σ H1 { s1 with heap:=g }:=I1.kept (t':=s1.toks) hk;have own:∀b,s1.heap.objs.size<=b->pG X pins H1 b:=λb hb=>I1.Sg hb (I1.hok.fresh hb);generalize hn:s1.heap.objs.size=n at *;have ne:∀{c d:Nat},c<d->(c:Addr)≠d:=λh e=>Qx3 _ (by subst e;exact h);have ne':∀{c d:Nat},d<c->(c:Addr)≠d:=λh e=>Qx3 _ (by subst e;exact h);have D:Apz (n+4) (n+2) (n+3) n (n+1) a1 a2:={
    t1:=ne (by omega),t2:=ne (by omega),t3:=ne (by omega),t4:=ne (by omega)
    b1:=by grind
    b2:=by grind
    b3:=by grind
    b4:=by grind
    b5:=by grind
    b6:=by grind
    b7:=by grind
    b8:=by simp_all
    c1:=ne lt1,c2:=ne (Qwy Ui (by omega)) }
   refine⟨n+4,[n+4,n+2,n+3,n,n+1],_,_,H1,rfl,I2,Yr _ _ _ _ _ a1 a2 D,⟨hz,hTI,⟨_,_,hTO⟩,i1,i2⟩,λb hb=>own b ?_,q⟩
   grind
end
end L2
namespace Ev
open PySem PySem.Spec PyProof.Rows L2 PySem.Builtin
section
variable{X:Cx}{C:Cfg}{pos:Pos}{e e2:Expr}
noncomputable def tL(x y:List D):List D:=(x.zip y).map λp=>.tup [p.1,p.2]
def Ov(a:dq):dq:=λenv=>bindR (a env) λds aJ=>match ds with
 | [.tup x,.tup y]=>.ok (tL x y) aJ
 | _=>.stuck
theorem rN{K:Fg}:∀{ds} {vs},cu K F ds vs->∀{i:Nat} {d},ds[i]? = some d->∃v,vs[i]? = some v/\Rep K F d v
 | [],vs,_,i,d,h=>by simp at h
 | x::ds,vs,r,i,d,h=>by
  obtain⟨v,w,rfl,p,q⟩:=r;cases i with
  | zero=>simp_all
  | succ i=>obtain⟨u,h1,h2⟩:=rN q (by simpa using h);exact⟨u,by simpa using h1,h2⟩
end
end Ev
namespace L2
open PySem PySem.Spec PyProof.Rows PySem.Builtin ZT
def anG(K:PySem.W.Frag)(a1 a2:Addr):It:=
 ⟨λi H=>∃xs ys x y,jR K H a1 xs/\oH K H a2 ys/\xs[i]? = some x/\ys[i]? = some y,
 λi H v H'=>∃p x y,(∀xs,jR K H a1 xs->xs[i]? = some x)/\(∀ys,oH K H a2 ys->ys[i]? = some y)/\H p=none/\H'=upd H p (.tup [x,y])/\v = .ref p,
 λi H=>∃xs ys,jR K H a1 xs/\oH K H a2 ys/\(i=xs.length\/(i<xs.length/\i=ys.length))⟩
theorem Vq{P:Program}{w:World}{K:PySem.W.Frag}{elts:List Expr}{kk:Nat}{pos:Pos}(z TI TO j1 j2 a1 a2:Addr)(D:Apz z TI TO j1 j2 a1 a2) :
  Turn P w K (.Tuple elts kk pos) (anG K a1 a2) [z,TI,TO,j1,j2] z (λi h=>IsZip h z TI TO .none/\IsPair h TI (.ref j1) (.ref j2)/\(∃a b,IsPair h TO a b)/\h.IsListIter j1 a1 i/\h.IsTupleIter j2 a2 i) where
 mem:=by simp
 obj:=λi h st b hb=>by
  obtain⟨hz,hTI,⟨a,c,hTO⟩,⟨o1,e1,_,d1⟩,o2,e2,_,d2⟩:=st
  grind
 keep:=λi h h' st k=>by
  obtain⟨hz,hTI,⟨a,c,hTO⟩,⟨o1,e1,r1⟩,o2,e2,r2⟩:=st;exact⟨k z (by simp) _ hz,k TI (by simp) _ hTI,⟨a,c,k TO (by simp) _ hTO⟩,⟨o1,k j1 (by simp) _ e1,r1⟩,o2,k j2 (by simp) _ e2,r2⟩
 item:=by
  intro X hP hw hK hc i pins s σ H E I hf st hg;subst hP hw hK;obtain⟨hz,hTI,⟨a,b,hTO⟩,i1,i2⟩:=st;obtain⟨xs,ys,x,y,hx,hy,gx,gy⟩:=hg;obtain⟨us,ru,pu,zu⟩:=I.list hx;obtain⟨vs,rv,pv,zv⟩:=I.tuple hy;obtain⟨u,hu,rxu⟩:=ru.get gx;obtain⟨v,hv,ryv⟩:=rv.get gy;have lu:i<us.toArray.size:=by grind
  have lv:i<vs.toArray.size:=by grind
  have D1:Draws X.prog X.w X.A.in1 j1 [j1,a1] _ _ _:=Draws.list (A:=X.A.in1) (show X.A.in1.handled=none from I.ok.hd hc) j1 a1 D.c1 us.toArray;have D2:Draws X.prog X.w X.A.in1 j2 [j2,a2] _ _ _:=pM (A:=X.A.in1) (show X.A.in1.handled=none from I.ok.hd hc) j2 a2 D.c2 vs.toArray;refine oV (A:=X.A) D.ap D1 D2 lu lv hz hTI hTO ⟨i1,pu.isList⟩ ⟨i2,pv⟩ λx' y' g tk px py hz' aa0 s1 s2 hT hsz hk=>?_;have ex:x'=u:=by simp_all
  have ey:y'=v:=by simp_all
  subst ex ey;refine⟨_,rfl,?_⟩;refine wpAny_letOwnedTupleGo_zip (s:={ s with heap:=g,toks:=tk }) hz' λg' hz'' e'=>?_;have lr:∀b o,b≠z->g.get? b=some o->g'.get? b=some o:=λb o hb q=>(e'.2 b hb).trans q;have lts:∀b ∈ [z,TI,TO,j1,j2],b<s.heap.objs.size:=λb hb=>by
   simp only[Qwq,List.not_mem_nil,or_false] at hb;rcases hb with rfl|rfl|rfl|rfl|rfl
   ·exact Qqv hz
   ·exact Qqv hTI
   ·exact Qqv hTO
   ·obtain⟨_,q,_⟩:=i1;exact Qqv q
   ·obtain⟨_,q,_⟩:=i2;exact Qqv q
  have nT:H s.heap.objs.size=none:=I.hok.fresh<|Qqw _;refine⟨.ref s.heap.objs.size,upd H s.heap.objs.size<|.tup [x,y],I.drawn (t':=tk) (ch:=[z,TI,TO,j1,j2]) hf (λb o hb q=>?_) (Qqw _) ?_,rfl,⟨_,x,y,λzs hq=>by rw[I.xF hq hx];exact gx,λzs hq=>by rw[I.uR hq hy];exact gy,nT,rfl,rfl⟩,⟨hz'',?_,⟨_,_,lr TO _ D.t2 aa0⟩,?_,?_⟩,λb hb=>?_⟩
  ·simp_all
  ·exact⟨by show 2<=sizeLine;decide,[x',y'],.cons rxu<|.cons ryv .nil,_,lr _ _ (Qzz (lts z (by simp))) hT,rfl,⟨_,rfl⟩,rfl⟩
  ·exact lr TI _ D.t1 (hk TI _ D.t1 D.t3 (λq=>D.b5 (by simp[q])) (λq=>D.b6 (by simp[q])) hTI)
  ·obtain⟨o,q,r⟩:=s1.1;exact⟨o,lr j1 o (λq=>D.b1 (by simp[q])) q,r⟩
  ·obtain⟨o,q,r⟩:=s2.1;exact⟨o,lr j2 o (λq=>D.b2 (by simp[q])) q,r⟩
  ·rw[cz (Qwv (lts b hb))];exact(hf b hb).1
 done:=by
  intro X hP hw hK hc i pins s σ H E I hf st hg;subst hP hw hK;obtain⟨hz,hTI,⟨a,b,hTO⟩,i1,i2⟩:=st;obtain⟨xs,ys,hx,hy,hi⟩:=hg;obtain⟨us,ru,pu,zu⟩:=I.list hx;obtain⟨vs,rv,pv,zv⟩:=I.tuple hy;have l1:=ru.length;have l2:=rv.length;have D1:Draws X.prog X.w X.A.in1 j1 [j1,a1] _ _ _:=Draws.list (A:=X.A.in1) (show X.A.in1.handled=none from I.ok.hd hc) j1 a1 D.c1 us.toArray;have D2:Draws X.prog X.w X.A.in1 j2 [j2,a2] _ _ _:=pM (A:=X.A.in1) (show X.A.in1.handled=none from I.ok.hd hc) j2 a2 D.c2 vs.toArray;refine pR (A:=X.A) (k:=i) D.ap D1 D2 (by simp_all) hz hTI hTO ⟨i1,pu.isList⟩ ⟨i2,pv⟩ λg tk hk=>⟨rfl,I.Ay (t':=tk) (ch:=[z,TI,TO,j1,j2]) hf λb o hb e=>?_⟩
  simp_all
 self:=λA i s Q E st h=>wpAny_pyIter_zip st.1 h
end L2
namespace ZT
open PySem PySem.Spec PyProof.Rows L2 PySem.Builtin
noncomputable abbrev h1L(h:Heap)(l1:Addr):Heap:=h.push { cls:=.type "list_iterator",data:=.fields #[.ref l1,.int 0 0] }
abbrev h2L(h:Heap)(l1 l2:Addr):Heap:=(h1L h l1).push { cls:=.type "tuple_iterator",data:=.fields #[.ref l2,.int 0 0] }
abbrev h3L(h:Heap)(l1 l2:Addr):Heap:=(h2L h l1 l2).push { cls:=.type "tuple",data:=.seq #[.ref h.objs.size,.ref (h1L h l1).objs.size] }
abbrev h4L(h:Heap)(l1 l2:Addr):Heap:=(h3L h l1 l2).push { cls:=.type "tuple",data:=.seq #[.none,.none] }
abbrev h5L(h:Heap)(l1 l2:Addr):Heap:=(h4L h l1 l2).push { cls:=.type "zip",data:=.fields #[.none,.bool false,.bool false,.ref (h2L h l1 l2).objs.size,.ref (h3L h l1 l2).objs.size] }
theorem ah0(l1 l2)(xs ys):Meets (Builtin.«zip.__new__» ⟨[.type "zip",.ref l1,.ref l2],[]⟩) (λ_ R s=>s.heap.IsList l1 xs/\s.heap.IsTuple l2 ys/\
   R (.ok (.ret (.ref (h4L s.heap l1 l2).objs.size))) { s with heap:=h5L s.heap l1 l2 }):=
 .of_wp λprog w A R s h=>by
  obtain⟨hp,g,d,tk,os⟩:=s;obtain⟨hl1,hl2,h⟩:=h;have hsub:=sub_zip;have hL1:=hl1;have hL2:Heap.IsTuple (Shared.heap ⟨hp.push { cls:=.type "list_iterator",data:=.fields #[.ref l1,.int 0 0] },g,d,tk,os⟩) l2 ys:=Heap.IsTuple.push hl2 _
  wp_walk using Qjy hL1,wpAny_pyIter_tuple hL2
  exact⟨_,rfl,h⟩
section
variable{prog:Program}{w:World}{A:Around}{E:Value->Shared->Prop}{s:Shared}
theorem ae3(hl1:s.heap.IsList l1 xs)(hl2:s.heap.IsTuple l2 ys)
  (h:∀g,IsZip g (s.heap.objs.size+4) (s.heap.objs.size+2) (s.heap.objs.size+3) .none->IsPair g (s.heap.objs.size+2) (.ref s.heap.objs.size) (.ref (s.heap.objs.size+1))->
   IsPair g (s.heap.objs.size+3) .none .none->g.IsListIter s.heap.objs.size l1 0->g.IsTupleIter (s.heap.objs.size+1) l2 0->g.objs.size=s.heap.objs.size+5->
   (∀c o,s.heap.get? c=some o->g.get? c=some o)->Q (.ref (s.heap.objs.size+4)) { s with heap:=g }) :
  wpAny (model prog w) A (call (.type "zip") [.ref l1,.ref l2]) Q E s:=by
 refine callType_new F.called_zip (by decide) (F.typeCall_zip_2 _ _) (F.newCall_zip_2 _ _) (λobj=>F.args_object_init_3 obj _ _) F.entry_zip_new (ah0 l1 l2 xs ys) ⟨hl1,hl2,?_⟩;have z1:(h1L s.heap l1).objs.size=s.heap.objs.size+1:=Qx6 ..;have z2:(h2L s.heap l1 l2).objs.size=s.heap.objs.size+2:=by simp_all
 have z3:(h3L s.heap l1 l2).objs.size=s.heap.objs.size+3:=by simp_all
 have z4:(h4L s.heap l1 l2).objs.size=s.heap.objs.size+4:=by simp_all
 have z5:(h5L s.heap l1 l2).objs.size=s.heap.objs.size+5:=by simp_all
 have g5:(h5L s.heap l1 l2).get? (h4L s.heap l1 l2).objs.size=some _:=Qq2 _ rfl;have g4:(h5L s.heap l1 l2).get? (h3L s.heap l1 l2).objs.size=some _:=Qqq _<|Qq2 _ rfl;have g3:(h5L s.heap l1 l2).get? (h2L s.heap l1 l2).objs.size=some _:=Qqq _<|Qqq _<|Qq2 _ rfl;have g2:(h5L s.heap l1 l2).get? (h1L s.heap l1).objs.size=some _:=Qqq _<|Qqq _<|Qqq _<|Qq2 _ rfl;have g1:(h5L s.heap l1 l2).get? s.heap.objs.size=some _:=Qqq _<|Qqq _<|Qqq _<|Qqq _<|Qq2 _ rfl;show _/\_;rw[z2,z3,z4] at g5;rw[z1,z2] at g3;rw[z3] at g4;rw[z1] at g2;rw[z4];exact⟨⟨_,g5,rfl⟩,h _ g5 g3 g4 ⟨_,g1,rfl,rfl⟩ ⟨_,g2,rfl,rfl⟩ z5 λc o x=>Qqq _<|Qqq _<|Qqq _<|Qqq _<|Qqq _ x⟩
end
end ZT
namespace L2
open PySem PySem.Spec PyProof.Rows PySem.Builtin ZT
section
variable{X:Cx}
def amI(K:PySem.W.Frag)(ta:TA):TI:=λσ H R=>ta σ H λvs H1=>∃a1 a2,vs=[.ref a1,.ref a2]/\(∃xs,jR K H1 a1 xs)/\(∃ys,oH K H1 a2 ys)/\R (anG K a1 a2) H1
theorem adq{elts:List Expr}{k:Nat}{tp:Pos}{p pos:Pos}(hg:Gl X "zip")(hm:X.mg "zip" = none)(ha:PA X [a,b] ta)(hs:starEach [a,b] X.env=(false,eval a X.env)::starEach [b] X.env:=by rfl)(hs2:starEach [b] X.env=[(false,eval b X.env)]:=by rfl):PI X (.Tuple elts k tp) (.Call (.Name "zip" p) [a,b] [] pos) (amI X.K ta):=by
 intro pins s σ H R I h;refine Call_ (rQ I hg hm PyProof.Rows.boot_zip (Qxv (fG (ha pos pins s σ H _ I h) λus s1 ⟨vs,H1,I1,r1,q1⟩=>?_) hs (by rw[hs2];rfl)));obtain⟨a1,a2,e,⟨xs,hx⟩,⟨ys,hy⟩,q⟩:=q1;subst e;cases r1 with
 | cons r rr=>
  cases rr with
  | cons r' rr'=>
   cases rr';cases r;cases r';obtain⟨u1,ru1,p1,z1⟩:=I1.list hx;obtain⟨u2,ru2,p2,z2⟩:=I1.tuple hy;have lt1:a1<s1.heap.objs.size:=by obtain⟨_,e,_⟩:=p1.isList;exact Qqv e
   have Ui:a2<s1.heap.objs.size:=by obtain⟨_,e,_⟩:=p2;exact Qqv e
   refine ae3 p1.isList p2 λg hz hTI hTO i1 i2 hsz hk=>?_;refine wpAny_pyIter_zip hz ?_;have I2:Inv X pins σ H1 { s1 with heap:=g }:=I1.kept (t':=s1.toks) hk;have own:∀b,s1.heap.objs.size<=b->pG X pins H1 b:=λb hb=>I1.Sg hb (I1.hok.fresh hb);generalize hn:s1.heap.objs.size=n at *;have ne:∀{c d:Nat},c<d->(c:Addr)≠d:=λh e=>Qx3 _ (by subst e;exact h);have ne':∀{c d:Nat},d<c->(c:Addr)≠d:=λh e=>Qx3 _ (by subst e;exact h);have D:Apz (n+4) (n+2) (n+3) n (n+1) a1 a2:={
    t1:=ne (by omega),t2:=ne (by omega),t3:=ne (by omega),t4:=ne (by omega)
    b1:=by grind
    b2:=by grind
    b3:=by grind
    b4:=by grind
    b5:=by grind
    b6:=by grind
    b7:=by grind
    b8:=by simp_all
    c1:=ne lt1,c2:=ne (Qwy Ui (by omega)) }
   refine⟨n+4,[n+4,n+2,n+3,n,n+1],_,_,H1,rfl,I2,Vq _ _ _ _ _ a1 a2 D,⟨hz,hTI,⟨_,_,hTO⟩,i1,i2⟩,λb hb=>own b ?_,q⟩
   grind
end
end L2
namespace Ev
open PySem PySem.Spec PyProof.Rows L2 PySem.Builtin
section
variable{X:Cx}{C:Cfg}{pos:Pos}{e e2:Expr}
def Ss(a:dq):dq:=λenv=>bindR (a env) λds aJ=>match ds with
 | [.lst x,.tup y]=>.ok (tL x y) aJ
 | _=>.stuck
end
open PySem PySem.Spec PyProof.Rows L2
def ana(f:List D->Option (D×D))(c:Ev)(a:dq):Ev:=λenv=>bindR (c env) λx aJ=>bindR (a aJ) λds dB=>match f (x::ds) with
 | some (d,_)=>.ok d dB
 | none=>.stuck
section
variable{X:Cx}{C:Cfg}{pos:Pos}{x y z:Expr}{a b c:Ev}
theorem ael{K:Fg}{x:Str}(X:K.In h)(G:h.Ns mainGlobals mg)(a:PySem.W.nsIn K mainGlobals x=some (some (.int i t))):Qa K mg x (.int i):=
 ⟨.int i,_,Qj2 X G a,⟨t,rfl⟩,λF=>rfl⟩
end
noncomputable def RN(g:GV)(wN:dq)(g2:GV)(c:gj)(e:Ev):List D->Env->R (List D)
 | [],env=>.ok [] env
 | d::ds,env=>(match g d env with
  | none=>.stuck
  | some e1=>bindR (wN e1) λEp e2=>bindR (vp g2 c e Ep e2) λys e3=>bindR (RN g wN g2 c e ds e3) λzs e4=>.ok (ys++zs) e4)
def zY(lo n:Nat)(it:dq)(g:GV)(wN:dq)(g2:GV)(c:gj)(e:Ev):Ev:=λenv=>bindR (it env) λds aJ=>if aJ.length=lo then bindR (RN g wN g2 c e ds (aJ++List.replicate (n - lo) none)) λys dB=>(if ys.length<=sizeLine then .ok (.lst ys) (dB.take lo) else .stuck) else .stuck
theorem ah8{lo n:Nat}(h:tN C (zY lo n it g wN g2 c e) σ H Q):akV n (tI C it) (tG C lo g) (tI C wN) (tG C lo g2) (tT C c) (tE C e) σ H Q:=by
 obtain⟨Pr,F,env,env',d,r,ev,q⟩:=h;obtain⟨ds,aJ,e1,e2⟩:=aO ev;split at e2
 ·rename_i hlo;obtain⟨ys,dB,e3,e4⟩:=aO e2;split at e4
  ·rename_i hz;cases e4;refine⟨Pr,F,env,aJ,ds,r,e1,λJ H1 F1 r1 s1 y1 a ha=>?_⟩;have hσ:σ.length=lo:=r1.len.symm.trans hlo;have hPa:Pr a=none:=r1.pr.free ha;refine⟨λi m σ' H'=>m=ds.length - i/\i<=ds.length/\∃F' lC acc ws rest,Rel C (upd Pr a<|.lst ws) F' lC σ' H'/\aY F1 F'/\cu C.K F' acc ws/\σ'.take lo=σ/\RN g wN g2 c e (ds.drop i) lC = .ok rest dB/\acc++rest=ys,
    ⟨ds.length,rfl,Qxw _,F1,aJ++List.replicate (n - lo) none,[],[],ys,?_,aY.refl _,rfl,?_,e3,rfl⟩,?_⟩
   ·rw[hσ];exact(r1.aside ha).pad _
   ·unfold qW
    simp_all
   rintro i m σ' H' ⟨rfl,hi,F',lC,acc,ws,rest,r',s',p',t',l',hacc⟩;have hFa:F' a=none:=by
    cases ez:F' a with
    | none=>rfl
    | some w=>have:=r'.dj a w ez;rw[bD] at this;cases this
   by_cases hl:i<ds.length
   ·have hd:ds[i]? = some ds[i]:=Qqy hl;have hdr:ds.drop i=ds[i]::ds.drop (i+1):=Qx0 hl;have yy:=y1 i H'<|s'.trans r'.fr;refine .inr ⟨(yy.2 _ hd).1,λσ2 H2=>∃F' lC acc ws rest,Rel C (upd Pr a<|.lst ws) F' lC σ2 H2/\aY F1 F'/\cu C.K F' acc ws/\σ2.take lo=σ/\RN g wN g2 c e (ds.drop<|i+1) lC = .ok rest dB/\acc++rest=ys,
     λσ2 H2 h2=>⟨ds.length - (i+1),by omega,rfl,hl,h2⟩,λx H2 hy=>?_⟩
    obtain⟨F2,r2,s2,p2⟩:=p8.item r' s' y1 hd hy;rw[hdr] at l';unfold RN at l';cases eg:g ds[i] lC with
    | none=>simp_all
    | some e5=>
     rw[eg] at l';obtain⟨Ep,e6,c1,l2⟩:=aO l';obtain⟨yI,e7,c2,l3⟩:=aO l2;obtain⟨zs,e8,c3,l4⟩:=aO l3;cases l4;refine⟨_,F2,lC,e5,ds[i],r2,p2,eg,λσ3 H3 F3 r3 s3 t3=>⟨_,F3,e5,e6,Ep,r3,c1,λJ2 H4 F4 r4 s4 y4=>?_⟩⟩;have t3':σ3.take lo=σ:=t3.trans t';have s24:aY F' F4:=(s2.trans s3).trans s4
     -- the second loop
     refine⟨λi2 m2 σ5 H5=>m2=Ep.length - i2/\i2<=Ep.length/\∃F5 lC Gm Yg Cq,Rel C (upd Pr a<|.lst Yg) F5 lC σ5 H5/\aY F4 F5/\cu C.K F5 Gm Yg/\σ5.take lo=σ/\vp g2 c e (Ep.drop i2) lC = .ok Cq e7/\Gm++Cq=acc++yI,
      ⟨Ep.length,rfl,Qxw _,F4,e6,acc,ws,yI,r4,aY.refl _,cu.mono s24 _ _ p',t3',c2,rfl⟩,?_⟩
     rintro i2 m2 σ5 H5 ⟨rfl,hi2,F5,ane,Gm,Yg,Cq,r5,s5,p5,t5,l5,af3⟩;by_cases hl2:i2<Ep.length
     ·have hd2:Ep[i2]? = some Ep[i2]:=Qqy hl2;have apg:Ep.drop i2=Ep[i2]::Ep.drop (i2+1):=Qx0 hl2;have yy2:=y4 i2 H5<|s5.trans r5.fr;refine .inr ⟨(yy2.2 _ hd2).1,λσ6 H6=>∃F5 lC Gm Yg Cq,Rel C (upd Pr a<|.lst Yg) F5 lC σ6 H6/\aY F4 F5/\cu C.K F5 Gm Yg/\σ6.take lo=σ/\vp g2 c e (Ep.drop<|i2+1) lC = .ok Cq e7/\Gm++Cq=acc++yI,
       λσ6 H6 h6=>⟨Ep.length - (i2+1),by omega,rfl,hl2,h6⟩,λy H6 hy2=>?_⟩
      obtain⟨F6,r6,s6,p6⟩:=p8.item r5 s5 y4 hd2 hy2;rw[apg] at l5;unfold vp at l5;cases eg2:g2 Ep[i2] ane with
      | none=>simp_all
      | some e9=>
       rw[eg2] at l5;obtain⟨b,e10,c4,l6⟩:=aO l5;refine⟨_,F6,ane,e9,Ep[i2],r6,p6,eg2,λσ7 H7 F7 r7 s7 t7=>⟨_,F7,e9,e10,b,r7,c4,λH8 F8 r8 s8=>?_⟩⟩;have t7':σ7.take lo=σ:=t7.trans t5;have s58:aY F5 F8:=(s6.trans s7).trans s8;cases b with
       | false=>
        show if false=true then _ else _
        rw[if_neg Qwj];rw[if_neg Qwj] at l6;exact⟨F8,e10,Gm,Yg,Cq,r8,s5.trans s58,cu.mono s58 _ _ p5,t7',l6,af3⟩
       | true=>
        show if true=true then _ else _
        rw[if_pos rfl];rw[if_pos rfl] at l6;obtain⟨v,e11,c5,l7⟩:=aO l6;obtain⟨rs3,e12,c6,l8⟩:=aO l7;cases l8;refine⟨_,F8,e10,e11,v,r8,c5,λu H9 F9 r9 s9 p9=>?_⟩;have hlen:Gm.length+(rs3.length+1)=acc.length+yI.length:=by grind
        have hlen2:acc.length+(yI.length+zs.length)=ys.length:=by grind
        refine⟨Yg,r9.pr _ _ bD,by rw[p5.length];omega,F9,e11,Gm++[v],Yg++[u],rs3,?_,s5.trans<|s58.trans s9,(cu.mono (s58.trans s9) _ _ p5).append<|cu.one p9,t7',c6,by simp_all⟩;have r10:=r9.turn (u:=.lst<|Yg++[u]) bD
        rwa [Jq] at r10
     ·have ei2:i2=Ep.length:=by omega
      subst ei2;rw[List.drop_length] at l5;cases l5;rw[Qx5] at af3;refine .inl ⟨(y4 _ H5<|s5.trans r5.fr).1 (Qjz<|Qqw _) rfl,?_⟩;exact⟨F5,e7,Gm,Yg,zs,r5,s'.trans<|s24.trans s5,p5,t5,c3,by simp_all⟩
   ·have ei:i=ds.length:=by omega
    subst ei;rw[List.drop_length] at l';cases l';rw[Qx5] at hacc;subst hacc;refine .inl ⟨(y1 _ H'<|s'.trans r'.fr).1 (Qjz<|Qqw _) rfl,?_⟩;have sP:aY Pr (upd Pr a<|.lst ws):=mz hPa;have r7:Rel C Pr F' (dB.take lo) σ H':=by
     have:=(r'.less sP).cut (σ0:=σ) (by simp_all) r1.fix
     simp_all
    refine q a H' F' r7 (s1.trans s') ⟨⟨hz,ws,r'.pr _ _ bD,p'⟩,hFa,hPa,λj e he hs=>?_⟩;have hj:j<σ.length:=(Qwz.mp hs).1;have he':dB[j]? = some (some (true,e)):=by simp_all
    obtain⟨b,g1,_,_,g4⟩:=r'.own j e he';have:σ'[j]? = some (some<|V.ref a):=by grind
    rw[this] at g1;cases g1;rw[bD] at g4;cases g4
  ·cases e4
 ·cases e2
section
variable{X:Cx}{C:Cfg}{pos:Pos}{n:Str}
theorem ak7{elt tg iter rz dO:Expr}(N'){spos py:Pos}(lo)(i)(ok:jA X scope N')(G:Good X C)(hi:X5 X C tg iter it)
  (bg:∀X',dI X scope N' X'->X6 X' C lo tg g) (bi:∀X',dI X scope N' X'->X5 X' C rz dO wN) (bg2:∀X',dI X scope N' X'->X6 X' C lo rz g2) (bc:∀X',dI X scope N' X'->PQ X' C ifs c) (be:∀X',dI X scope N' X'->PX X' C elt e)
  (hnd:oY X.N=true:=by rfl) (hfx:C.fx i=none:=by rfl) (hy:X.N[i]? = some n:=by rfl) (hx:Loc X.env.scope n:=by first|exact Or.inl rfl|exact Or.inr rfl)
  (hsw:swapsWith (.ListComp elt [⟨tg,iter,[],0⟩,⟨rz,dO,ifs,0⟩] scope pos) (some (.Name n py)) spos.line X.env=pure true:=by rfl)
  (hf:X.fn n=true\/X.env.scope.names.lookup n=some .local:=by first|exact .inl rfl|exact .inr rfl)
  (hs2:∀X' x,dI X scope N' X'->foldedSetIterable dO X'.env x=pure x:=by intro _ _ _;rfl) (hs:∀x,foldedSetIterable iter X.env x=pure x:=by intro _;rfl):PXS X C (.Assign [.Name n py] (.ListComp elt [⟨tg,iter,[],0⟩,⟨rz,dO,ifs,0⟩] scope pos) spos) (eY i (zY lo N'.length it g wN g2 c e)):=
 (Wc ok G.calm hi bg bi bg2 hs2 bc be (lV hnd) hy hx hsw hf hs).imp λD σ H h=>by
  obtain⟨Pr,F,env,r,f⟩:=h;obtain⟨d,aJ,e1,f1⟩:=gP f;have:tN C (zY lo N'.length it g wN g2 c e) σ H λv H1=>zV i v σ H1 D.nx:=⟨Pr,F,env,aJ,d,r,e1,λv H1 F1 r1 s1 p1=>f1 _ H1 F1 (r1.Rn hfx p1) s1⟩;exact ah8 this
def Ml(i:Nat)(a:Ev):bV:=λenv=>match env[i]? with
 | some (some (true,.lst _))=>gr (a env) λd aJ=>(match aJ[i]?,d with
  | some (some (true,.lst xs)),.lst zs=>if xs.length+zs.length<=sizeLine then .nx (aJ.set i (some (true,.lst (xs++zs)))) else .stuck
  | _,_=>.stuck)
 | _=>.stuck
end
end Ev
namespace SX
open PySem PySem.Spec PyProof.Rows L2 PySem.Builtin
noncomputable def Pz(ys:List Str)(x:Str):List Str:=if x∈ys then ys else ys++[x]
def afB(zs:List Str):List Str:=zs.foldl Pz []
theorem abK(ys)(x):(Pz ys x).length<=ys.length+1:=by
 unfold Pz;split
 ·omega
 ·simp
theorem Yn(zs:List Str):∀ys,(zs.foldl Pz ys).length<=ys.length+zs.length:=by
 induction zs with
 | nil=>simp_all
 | cons z zs ih=>intro ys;rw[Qjw,Qq3];have:=ih<|Pz ys z;have:=abK ys z;omega
noncomputable def led(w:World):Bool:=!(w.params.followText "set-order")
structure TOk(P:Program)(w:World)(es:Array (Int×Value))(t:SetTable)(ys:List Str):Prop where
 el:ElemsOf (strKind P w) es.toList
 tx:∃ss:List Str,StrsAre (es.toList.map (·.2)) ss/\ss.Perm ys
 fit:t.fits es.size=true
 ld:t.led=led w
 pl:es.size≠0->t.plain=false
def Lh(P:Program)(w:World)(h:Heap)(a:Addr)(ys:List Str):Prop:=
 ∃o es ep t,h.get? a=some o/\o.ExactSet/\o.data = .set es ep t/\TOk P w es t ys
open PySem PySem.Spec PyProof.Rows L2 PySem.Builtin Ev
noncomputable def akf(P:Program)(w:World)(a:Addr)(ys:List Str):HO:=.ext λh=>Lh P w h a ys
noncomputable def ae8(ys:List (List Nat))(x:List Nat):List (List Nat):=if x∈ys then ys else ys++[x]
def sW(zs:List (List Nat)):List (List Nat):=zs.foldl ae8 []
theorem m7(h:Ev.strOf x=Ev.strOf y):x=y:=by
 have:=Qx7 (λs:Str=>s.cps.toList) h
 assumption
theorem PJ(ys)(x):(ae8 ys x).map Ev.strOf=Pz (ys.map Ev.strOf) (Ev.strOf x):=by
 unfold ae8 Pz;by_cases h:x∈ys
 ·grind
 ·rw[if_neg h,if_neg<|λz=>h (by obtain⟨y,hy,e⟩:=Qwk.mp z;rw[<-m7 e];exact hy),Qxk]
  rfl
theorem Lp:∀(zs ys:List (List Nat)),(zs.foldl ae8 ys).map Ev.strOf=(zs.map Ev.strOf).foldl Pz (ys.map Ev.strOf)
 | [],ys=>rfl
 | z::zs,ys=>by rw[Qjw,Lp zs,PJ,Qq4,Qjw]
theorem Vo(zs):(sW zs).map Ev.strOf=afB (zs.map Ev.strOf):=Lp zs []
theorem Gv(zs):(sW zs).length<=zs.length:=by
 have h:=Yn (zs.map Ev.strOf) [];have e:=Qx7 List.length<|Vo zs;rw[Qqz] at e;rw[e]
 simpa[afB] using h
end SX
namespace Ev
open PySem PySem.Spec PyProof.Rows L2 PySem.Builtin
section
variable{X:Cx}{C:Cfg}{pos:Pos}{x:Expr}{a:Ev}
structure PXL(X:Cx)(C:Cfg)(es:List Expr)(ev:dq):Prop where
 go:PXA X C es ev
theorem ac9:PXL X C [] aj:=⟨TX⟩
noncomputable def amT:D->Option D
 | .tup xs=>some (.tup xs.reverse)
 | _=>none
end
open PySem L2
theorem nr{α:Type}{a b:α}(h:a=b):a=b:=h
theorem bR{α β:Type}(a)(e)(f:α->Env->R β):bindR (.ok a e) f=f a e:=nr rfl
theorem bO{α:Type}(a)(e)(f:α->Env->Out):gr (.ok a e) f=f a e:=nr rfl
theorem lR{α:Type}(a:α)(e):fc (some a) e = .ok a e:=nr rfl
theorem lO(e):G6 (some e) = .nx e:=nr rfl
noncomputable def XM{α:Type}(_:Env):R α:=.stuck
noncomputable def YQ(o:Out)(b:bV):Out:=match o with
 | .nx e=>b e
 | .rt o d e=>.rt o d e
 | .bk e=>.bk e
 | .ct e=>.ct e
 | .stuck=>.stuck
theorem acH(a b)(env):aC a b env=YQ (a env) b:=nr rfl
theorem sNx(e)(b):YQ (.nx e) b=b e:=nr rfl
theorem sRt(o)(d)(e)(b):YQ (.rt o d e) b = .rt o d e:=nr rfl
theorem sBk(e)(b):YQ (.bk e) b = .bk e:=nr rfl
theorem sCt(e)(b):YQ (.ct e) b = .ct e:=nr rfl
noncomputable def Us{α:Type}(c:Bool)(a b:Env->α)(env:Env):α:=if c=true then a env else b env
theorem iT{α:Type}(a b:Env->α)(env):Us true a b env=a env:=nr rfl
theorem iF{α:Type}(a b:Env->α)(env):Us false a b env=b env:=nr rfl
def kIf{α:Type}(a b:Env->α)(c:Bool)(e:Env):α:=Us c a b e
theorem amq{α:Type}(a b:Env->α)(c)(e):kIf a b c e=Us c a b e:=nr rfl
theorem agQ(t)(a b)(env):cZ t a b env=gr (t env) (kIf a b):=nr rfl
theorem ajB(t)(a b)(env):apz t a b env=bindR (t env) (kIf a b):=nr rfl
noncomputable def okT(b:Bool):gj:=λe=>.ok b e
theorem alN(b)(e):okT b e = .ok b e:=nr rfl
theorem abq(a b)(env):fP a b env=bindR (a env) (kIf b (okT false)):=nr rfl
theorem aeL(a b)(env):iB a b env=bindR (a env) (kIf (okT true) b):=nr rfl
noncomputable def blR{α:Type}(d:D)(f:Bool->R α):R α:=match d with
 | .bl b=>f b
 | _=>.stuck
theorem bB{α:Type}(b)(f:Bool->R α):blR (.bl b) f=f b:=nr rfl
noncomputable def okB(b:Bool):Ev:=λe=>.ok (.bl b) e
theorem alO(b)(e):okB b e = .ok (.bl b) e:=nr rfl
def N5(a b:Ev)(d:D)(e:Env):R D:=blR d (RT a b e)
where RT (a b:Ev) (e:Env) (c:Bool):R D:=Us c a b e
theorem ad4(a b)(d)(e):N5 a b d e=blR d (N5.RT a b e):=nr rfl
theorem aaK(a b)(e)(c):N5.RT a b e c=Us c a b e:=nr rfl
theorem aeT(a b)(env):iD a b env=bindR (a env) (N5 b (okB false)):=by
 unfold iD
 congr 1
 funext d e
 cases d with
 | bl b=>cases b<;>rfl
 | _=>rfl
theorem ajz(a b)(env):Xc a b env=bindR (a env) (N5 (okB true) b):=by
 unfold Xc
 congr 1
 funext d e
 cases d with
 | bl b=>cases b<;>rfl
 | _=>rfl
noncomputable def aaA(e:Env)(c:Bool):R D:=.ok (.bl (!c)) e
def aml(d:D)(e:Env):R D:=blR d (aaA e)
theorem adV(e)(c):aaA e c = .ok (.bl (!c)) e:=nr rfl
theorem aio(d)(e):aml d e=blR d (aaA e):=nr rfl
theorem aeM(a)(env):Ow a env=bindR (a env) aml:=by rfl
noncomputable def kB2(e:Env)(c:Bool):R Bool:=.ok c e
def kB(d:D)(e:Env):R Bool:=blR d (kB2 e)
theorem amx(e)(c):kB2 e c = .ok c e:=nr rfl
theorem ao2(d)(e):kB d e=blR d (kB2 e):=nr rfl
theorem anc(a)(env):dg a env=bindR (a env) kB:=by rfl
noncomputable def V5{α:Type}(o:Option (Option (Bool×D)))(f:Bool->D->R α):R α:=match o with
 | some (some (o,d))=>f o d
 | _=>.stuck
theorem rS{α:Type}(o)(d)(f:Bool->D->R α):V5 (some (some (o,d))) f=f o d:=nr rfl
noncomputable def kRd(env:Env)(_:Bool)(d:D):R D:=.ok d env
theorem amj(env)(o)(d):kRd env o d = .ok d env:=nr rfl
theorem ajy(i)(env):bj i env=V5 env[i]? (kRd env):=by rfl
noncomputable def amc(i:Nat)(env:Env)(o:Bool)(d:D):R D:=.ok d (bif o then env.set i (some (false,d)) else env)
theorem aif(i)(env)(o)(d):amc i env o d = .ok d (bif o then env.set i (some (false,d)) else env):=nr rfl
theorem aeD(i)(env):aN i env=V5 env[i]? (amc i env):=by
 unfold aN V5;cases env[i]? with
 | none=>rfl
 | some o=>
  cases o with
  | none=>rfl
  | some p=>obtain⟨b,d⟩:=p;cases b<;>rfl
def RV(g:D->D->Option D)(y:D)(e:Env)(_:Bool)(x:D):R D:=fc (g x y) e
def RW(g:D->D->Option D)(i:Nat)(y:D)(e:Env):R D:=V5 e[i]? (RV g y e)
def afX(g:D->D->Option D)(i:Nat)(b:Ev)(env:Env)(_:Bool)(_:D):R D:=bindR (b env) (RW g i)
theorem aaL(g)(y)(e)(o)(x):RV g y e o x=fc (g x y) e:=nr rfl
theorem aaM(g)(i)(y)(e):RW g i y e=V5 e[i]? (RV g y e):=nr rfl
theorem ad5(g)(i)(b)(env)(o)(d):afX g i b env o d=bindR (b env) (RW g i):=nr rfl
theorem abp(g)(i)(b)(env):az g i b env=V5 env[i]? (afX g i b env):=by rfl
noncomputable def ioR{α:Type}(o:Option (D×D))(f:D->D->R α):R α:=match o with
 | some (d,x)=>f d x
 | none=>.stuck
theorem oS{α:Type}(d x)(f:D->D->R α):ioR (some (d,x)) f=f d x:=nr rfl
noncomputable def aiz(i:Nat)(e:Env)(d x':D):R D:=.ok d (e.set i (some (true,x')))
def aiB(f:List D->Option (D×D))(i:Nat)(x:D)(ds:List D)(e:Env):R D:=ioR (f (x::ds)) (aiz i e)
def aaD(f:List D->Option (D×D))(i:Nat)(ds:List D)(e:Env)(o:Bool)(x:D):R D:=Us o (aiB f i x ds) XM e
def aiE(f:List D->Option (D×D))(i:Nat)(ds:List D)(e:Env):R D:=V5 e[i]? (aaD f i ds e)
def aiG(f:List D->Option (D×D))(i:Nat)(a:dq)(env:Env):R D:=bindR (a env) (aiE f i)
def kIO(f:List D->Option (D×D))(i:Nat)(a:dq)(env:Env)(o:Bool)(_:D):R D:=Us o (aiG f i a) XM env
theorem aiy(i)(e)(d x'):aiz i e d x' = .ok d (e.set i (some (true,x'))):=nr rfl
theorem aiA(f)(i)(x)(ds)(e):aiB f i x ds e=ioR (f (x::ds)) (aiz i e):=nr rfl
theorem aiC(f)(i)(ds)(e)(o)(x):aaD f i ds e o x=Us o (aiB f i x ds) XM e:=nr rfl
theorem aiD(f)(i)(ds)(e):aiE f i ds e=V5 e[i]? (aaD f i ds e):=nr rfl
theorem aiF(f)(i)(a)(env):aiG f i a env=bindR (a env) (aiE f i):=nr rfl
theorem ams(f)(i)(a)(env)(o)(d):kIO f i a env o d=Us o (aiG f i a) XM env:=nr rfl
theorem ajC(f)(i)(a)(env):fW f i a env=V5 env[i]? (kIO f i a env):=by
 unfold fW V5 kIO Us;cases env[i]? with
 | none=>rfl
 | some o=>
  cases o with
  | none=>rfl
  | some p=>
   obtain⟨b,d⟩:=p;cases b with
   | false=>rfl
   | true=>
    show bindR (a env) _=bindR (a env) _
    congr 1
    funext ds e
    show _=V5 e[i]? (aaD f i ds e);unfold V5 aaD Us;cases e[i]? with
    | none=>rfl
    | some o=>
     cases o with
     | none=>rfl
     | some p=>obtain⟨b,d⟩:=p;cases b<;>rfl
noncomputable def aaB(e:Env)(d _:D):R D:=.ok d e
def aaC(f:List D->Option (D×D))(x:D)(ds:List D)(e:Env):R D:=ioR (f (x::ds)) (aaB e)
def amr(f:List D->Option (D×D))(a:dq)(x:D)(e:Env):R D:=bindR (a e) (aaC f x)
theorem adW(e)(d x):aaB e d x = .ok d e:=nr rfl
theorem adX(f)(x)(ds)(e):aaC f x ds e=ioR (f (x::ds)) (aaB e):=nr rfl
theorem aix(f)(a)(x)(e):amr f a x e=bindR (a e) (aaC f x):=nr rfl
theorem aeQ(f)(c)(a)(env):ana f c a env=bindR (c env) (amr f a):=nr rfl
noncomputable def ai6{α:Type}(d:D)(f:Int->R α):R α:=match d with
 | .int i=>f i
 | _=>.stuck
theorem nS{α:Type}(i)(f:Int->R α):ai6 (.int i) f=f i:=nr rfl
noncomputable def kP2(e:Env)(i:Int):R (Option Int):=.ok (some i) e
def kP(d:D)(e:Env):R (Option Int):=ai6 d (kP2 e)
theorem amk(e)(i):kP2 e i = .ok (some i) e:=nr rfl
theorem aoZ(d)(e):kP d e=ai6 d (kP2 e):=nr rfl
theorem am9(a)(env):tU a env=bindR (a env) kP:=nr rfl
noncomputable def obR{α:Type}(o:Option D)(f:Bool->R α):R α:=match o with
 | some (.bl k)=>f k
 | _=>.stuck
theorem obS{α:Type}(k)(f:Bool->R α):obR (some (.bl k)) f=f k:=nr rfl
def aiS(g':D->D->Option D)(v t:D)(e:Env):R D:=fc (g' v t) e
def aiU(g':D->D->Option D)(c:Ev)(v:D)(e:Env):R D:=bindR (c e) (aiS g' v)
def aaJ(g':D->D->Option D)(c:Ev)(v:D)(e:Env)(k:Bool):R D:=Us k (aiU g' c v) (okB false) e
def aiW(g g':D->D->Option D)(c:Ev)(u v:D)(e:Env):R D:=obR (g u v) (aaJ g' c v e)
def kCh(g g':D->D->Option D)(b c:Ev)(u:D)(e:Env):R D:=bindR (b e) (aiW g g' c u)
theorem aiR(g')(v t)(e):aiS g' v t e=fc (g' v t) e:=nr rfl
theorem aiT(g')(c)(v)(e):aiU g' c v e=bindR (c e) (aiS g' v):=nr rfl
theorem ad3(g')(c)(v)(e)(k):aaJ g' c v e k=Us k (aiU g' c v) (okB false) e:=nr rfl
theorem aiV(g g')(c)(u v)(e):aiW g g' c u v e=obR (g u v) (aaJ g' c v e):=nr rfl
theorem amv(g g')(b c)(u)(e):kCh g g' b c u e=bindR (b e) (aiW g g' c u):=nr rfl
theorem Xf(g g')(a b c)(env):sH g g' a b c env=bindR (a env) (kCh g g' b c):=by rfl
noncomputable def sY(o:Out)(k:bV):Out:=match o with
 | .nx e=>k e
 | .ct e=>k e
 | .bk e=>.nx e
 | .rt o d e=>.rt o d e
 | .stuck=>.stuck
theorem kNx(e)(b):sY (.nx e) b=b e:=nr rfl
theorem kRt(o)(d)(e)(b):sY (.rt o d e) b = .rt o d e:=nr rfl
theorem kBk(e)(b):sY (.bk e) b = .nx e:=nr rfl
theorem kCt(e)(b):sY (.ct e) b=b e:=nr rfl
noncomputable def gvK(o:Option Env)(b:bV):Out:=match o with
 | none=>.stuck
 | some e=>b e
theorem vS(e)(b):gvK (some e) b=b e:=nr rfl
def kFor(g:GV)(b:bV)(ds:List D)(e:Env):Out:=sY (b e) (mV g b ds)
theorem Dm(g)(b)(ds)(e):kFor g b ds e=sY (b e) (mV g b ds):=nr rfl
theorem aju(g)(b)(env):mV g b [] env = .nx env:=nr rfl
theorem rZ(g)(b)(d)(ds)(env):mV g b (d::ds) env=gvK (g d env) (kFor g b ds):=by rfl
def kWh(t:gj)(b:bV)(n:Nat):bV:=λe=>sY (b e) (Jo t b n)
theorem amb(t)(b)(n)(e):kWh t b n e=sY (b e) (Jo t b n):=nr rfl
noncomputable def gvR{α:Type}(o:Option Env)(b:Env->R α):R α:=match o with
 | none=>.stuck
 | some e=>b e
theorem wS{α:Type}(e)(b:Env->R α):gvR (some e) b=b e:=nr rfl
noncomputable def air(y:D)(ys:List D)(e:Env):R (List D):=.ok (y::ys) e
def ait(g:GV)(c:gj)(el:Ev)(ds:List D)(y:D)(e:Env):R (List D):=bindR (vp g c el ds e) (air y)
def aiv(g:GV)(c:gj)(el:Ev)(ds:List D)(e:Env):R (List D):=bindR (el e) (ait g c el ds)
def kLc(g:GV)(c:gj)(el:Ev)(ds:List D)(e:Env):R (List D):=bindR (c e) (kIf (aiv g c el ds) (vp g c el ds))
theorem aiq(y)(ys)(e):air y ys e = .ok (y::ys) e:=nr rfl
theorem ais(g)(c)(el)(ds)(y)(e):ait g c el ds y e=bindR (vp g c el ds e) (air y):=nr rfl
theorem aiu(g)(c)(el)(ds)(e):aiv g c el ds e=bindR (el e) (ait g c el ds):=nr rfl
theorem amn(g)(c)(el)(ds)(e):kLc g c el ds e=bindR (c e) (kIf (aiv g c el ds) (vp g c el ds)):=nr rfl
theorem al7(g)(c)(e)(env):vp g c e [] env = .ok [] env:=nr rfl
theorem al8(g)(c)(e)(d)(ds)(env):vp g c e (d::ds) env=gvR (g d env) (kLc g c e ds):=by rfl
noncomputable def ag0(o:Out):Option D:=match o with
 | .rt false d _=>some d
 | .nx _=>some .non
 | _=>none
theorem agY(n)(ev)(ds):bT n ev ds=ag0 (ev (envOf n ds)):=nr rfl
theorem dRt(d)(e):ag0 (.rt false d e)=some d:=nr rfl
theorem dNx(e):ag0 (.nx e)=some .non:=nr rfl
noncomputable def szR{α:Type}(n:Nat)(x:R α):R α:=if n<=sizeLine then x else .stuck
theorem zR{α:Type}{x:R α}(h:n<=sizeLine):szR n x=x:=if_pos h
def ame(ds:List D)(e:Env):R D:=szR ds.length (.ok (.tup ds) e)
theorem aih(ds)(e):ame ds e=szR ds.length (.ok (.tup ds) e):=nr rfl
theorem aeE(r)(env):cY r env=bindR (r env) ame:=nr rfl
def amm(ds:List D)(e:Env):R D:=szR ds.length (.ok (.lst ds) e)
theorem aip(ds)(e):amm ds e=szR ds.length (.ok (.lst ds) e):=nr rfl
theorem aeP(r)(env):fB r env=bindR (r env) amm:=nr rfl
noncomputable def lsO(o:Option (Option (Bool×D)))(f:List D->Out):Out:=match o with
 | some (some (true,.lst xs))=>f xs
 | _=>.stuck
theorem lS(xs)(f):lsO (some (some (true,.lst xs))) f=f xs:=nr rfl
noncomputable def szO(n:Nat)(x:Out):Out:=if n<=sizeLine then x else .stuck
theorem zO(h:n<=sizeLine):szO n x=x:=if_pos h
def aaO(i:Nat)(d:D)(e:Env)(xs:List D):Out:=szO (xs.length+1) (.nx (e.set i (some (true,.lst (xs++[d])))))
def aaP(i:Nat)(d:D)(e:Env):Out:=lsO e[i]? (aaO i d e)
def amz(i:Nat)(a:Ev)(env:Env)(_:List D):Out:=gr (a env) (aaP i)
theorem ad7(i)(d)(e)(xs):aaO i d e xs=szO (xs.length+1) (.nx (e.set i (some (true,.lst (xs++[d]))))):=nr rfl
theorem ad8(i)(d)(e):aaP i d e=lsO e[i]? (aaO i d e):=nr rfl
theorem aiZ(i)(a)(env)(xs):amz i a env xs=gr (a env) (aaP i):=nr rfl
theorem acM(i)(a)(env):kY i a env=lsO env[i]? (amz i a env):=nr rfl
noncomputable def ldO(d:D)(f:List D->Out):Out:=match d with
 | .lst xs=>f xs
 | _=>.stuck
theorem eS(xs)(f):ldO (.lst xs) f=f xs:=nr rfl
def aaE(i:Nat)(e:Env)(xs zs:List D):Out:=szO (xs.length+zs.length) (.nx (e.set i (some (true,.lst (xs++zs)))))
def NZ(i:Nat)(d:D)(e:Env)(xs:List D):Out:=ldO d (aaE i e xs)
def aaF(i:Nat)(d:D)(e:Env):Out:=lsO e[i]? (NZ i d e)
def aiI(i:Nat)(a:Ev)(env:Env)(_:List D):Out:=gr (a env) (aaF i)
theorem adY(i)(e)(xs zs):aaE i e xs zs=szO (xs.length+zs.length) (.nx (e.set i (some (true,.lst (xs++zs))))):=nr rfl
theorem adZ(i)(d)(e)(xs):NZ i d e xs=ldO d (aaE i e xs):=nr rfl
theorem ad0(i)(d)(e):aaF i d e=lsO e[i]? (NZ i d e):=nr rfl
theorem aiH(i)(a)(env)(xs):aiI i a env xs=gr (a env) (aaF i):=nr rfl
theorem acK(i)(a)(env):Ml i a env=lsO env[i]? (aiI i a env):=by
 unfold Ml lsO aiI;cases env[i]? with
 | none=>rfl
 | some o=>
  cases o with
  | none=>rfl
  | some p=>
   obtain⟨b,d⟩:=p;cases b with
   | false=>rfl
   | true=>
    cases d with
    | lst xs=>
     show gr (a env) _=gr (a env) _
     congr 1
     funext d e
     show _=lsO e[i]? (NZ i d e);unfold lsO NZ;cases e[i]? with
     | none=>rfl
     | some o=>
      cases o with
      | none=>rfl
      | some p=>
       obtain⟨b,u⟩:=p;cases b with
       | false=>rfl
       | true=>
        cases u with
        | lst ys=>cases d<;>rfl
        | _=>rfl
    | _=>rfl
theorem aeA(h:a.length+b.length<=sizeLine):cj (.str a) (.str b)=some (.str (a++b)):=if_pos h
theorem rY(h:a.length+b.length<=sizeLine):cj (.tup a) (.tup b)=some (.tup (a++b)):=if_pos h
theorem aeB(h:a.length+b.length<=sizeLine):cj (.lst a) (.lst b)=some (.lst (a++b)):=if_pos h
theorem aez(h:a.length+b.length<=sizeLine):apw (.lst a) (.lst b)=some (.lst (a++b)):=if_pos h
theorem amR(xs)(lo hi):gSl (.lst xs) lo hi=some (.lst (cutD xs lo hi)):=nr rfl
theorem amS(xs)(lo hi):gSl (.arr xs) lo hi=some (.lst (cutD xs lo hi)):=nr rfl
theorem aje(x)(lo hi):ajf (.str x) lo hi=some (.str (cutD x lo hi)):=nr rfl
theorem ajk(x):ajl (.str x)=some (.str x.reverse):=nr rfl
theorem aer(x):amT (.tup x)=some (.tup x.reverse):=nr rfl
theorem amE(xs):itD (.lst xs)=some xs:=nr rfl
theorem amF(xs):itD (.arr xs)=some xs:=nr rfl
theorem amC(xs):itD (.tup xs)=some xs:=nr rfl
theorem amD(x):itD (.str x)=some (jc x):=nr rfl
theorem Oi(xs)(lo hi):W6 (.tup xs) lo hi=some (.tup (cutD xs lo hi)):=by
 show(if HT.gZ xs.length 0 lo=0/\HT.gZ xs.length xs.length hi=xs.length then some (D.tup xs) else some (D.tup<|cutD xs lo hi))=_;split
 ·rename_i h;unfold cutD
  simp_all
 ·rfl
theorem vA(xs)(k):bZ (.tup xs) (.int k)=qO xs k:=nr rfl
theorem Ol(xs)(k):bZ (.lst xs) (.int k)=qO xs k:=nr rfl
theorem amW(x)(k):bZ (.str x) (.int k)=(qO x k).map λc=>.str [c]:=nr rfl
theorem at0{α:Type}(x)(r:List α):qO (x::r) 0=some x:=m6 rfl
theorem at1{α:Type}(x y)(r:List α):qO (x::y::r) 1=some y:=m6 rfl
theorem at2{α:Type}(x y z)(r:List α):qO (x::y::z::r) 2=some z:=m6 rfl
theorem at3{α:Type}(x y z u)(r:List α):qO (x::y::z::u::r) 3=some u:=m6 rfl
theorem atN{α:Type}(xs:List α)(k:Nat):qO xs k=xs[k]?:=by
 cases h:xs[k]? with
 | some x=>exact m6 h
 | none=>
  have hl:=List.getElem?_eq_none_iff.mp h;unfold qO ixN
  simp_all
theorem ajt(i j):cj (.int i) (.int j)=some (.int (i+j)):=nr rfl
theorem ajp(x):cN [.str x]=some (.int x.length):=nr rfl
theorem wH(x):cN [.tup x]=some (.int x.length):=nr rfl
theorem R7(x):cN [.lst x]=some (.int x.length):=nr rfl
theorem ajq(x):cN [.arr x]=some (.int x.length):=nr rfl
theorem abd(x):d8 [.lst x]=some (.tup x):=nr rfl
theorem abb(x):d8 [.tup x]=some (.tup x):=nr rfl
theorem aet(x):zW [.tup x]=some (.lst x):=nr rfl
theorem aev(x):zW [.lst x]=some (.lst x):=nr rfl
theorem aeu(x):zW [.str x]=some (.lst (signs x)):=nr rfl
theorem am2(a b):jT (.str a) (.str b)=some (.bl (a == b)):=nr rfl
theorem abe(a b):tQ (.str a) (.str b)=some (.bl (!(a == b))):=nr rfl
theorem Iu(a b):jT (.int a) (.int b)=some (.bl (a == b)):=nr rfl
theorem af4(a b):tQ (.int a) (.int b)=some (.bl (!(a == b))):=nr rfl
theorem abf(a b):W9 (.int a) (.int b)=some (.bl (decide (a<=b))):=nr rfl
theorem Ip(a b):Qf (.int a) (.int b)=some (.bl (decide (a<b))):=nr rfl
theorem amZ(a b):gGt (.int a) (.int b)=some (.bl (decide (b<a))):=nr rfl
theorem am1(a b):gGe (.int a) (.int b)=some (.bl (decide (b<=a))):=nr rfl
theorem amU(a b):Qf (.str a) (.str b)=some (.bl (decide (a<b))):=nr rfl
theorem ajd(a b):qZ (.int a) (.int b)=some (.int (a - b)):=nr rfl
theorem amX(c)(z):Ec (.str [c]) (.str z)=some (.bl (decide (c∈z))):=nr rfl
theorem ajO{α:Type}(p):∀l:List α,mZ (l.map λa=>D.bl (p a))=some (l.map p)
 | []=>rfl
 | a::l=>by
  rw[Qq4];unfold mZ;rw[ajO p l]
  rfl
theorem sZ{α:Type}(p)(l:List α):o4 [.lst (l.map λa=>D.bl (p a))]=some (.bl (l.all p)):=by
 show(mZ _).map _=_;rw[ajO]
 simp_all
theorem af6{α:Type}(p)(l:List α):R9 [.lst (l.map λa=>D.bl (p a))]=some (.bl (l.any p)):=by
 show(mZ _).map _=_;rw[ajO]
 simp_all
noncomputable def Ko:D->Bool
 | .clo _ _=>false
 | _=>true
theorem ajr(T)(d)(h:Ko d=true):jd T d=some (.bl (jP d T)):=by cases d<;>first|rfl|cases h
theorem agO(n):iR 0 1 n=(List.range n).map λ(i:Nat)=>D.int i:=by
 unfold iR
 simp_all
theorem wj{n:Nat}(h:n<2^62):vg [.int n]=some ((List.range n).map λ(i:Nat)=>D.int i):=by
 have hf:lG n=true:=by
  unfold lG
  grind
 show(if lG n=true then some (iR 0 1 (n:Int).toNat) else none)=_;rw[if_pos hf,Qzy,agO]
theorem apr(n)(gs)(xs)(env)(h:xs.length=n):dR n gs (.tup xs) env=gs xs env:=if_pos h
noncomputable def gvB(o:Option Env)(f:Env->Option Env):Option Env:=o.bind f
theorem gB(e)(f):gvB (some e) f=f e:=nr rfl
theorem aa2(g)(gs)(d)(ds)(env):aZ g gs (d::ds) env=gvB (g d env) (gs ds):=nr rfl
theorem aeh(env):dU [] env=some env:=nr rfl
noncomputable def ami(d:D)(e:Env):Out:=.rt false d e
theorem aim(d)(e):ami d e = .rt false d e:=nr rfl
theorem acI(a)(env):aV a env=gr (a env) ami:=nr rfl
theorem YB(env):agP env = .rt false .non env:=nr rfl
def amy(g:GV)(d:D)(e:Env):Out:=G6 (g d e)
theorem aiY(g)(d)(e):amy g d e=G6 (g d e):=nr rfl
theorem acL(a)(g)(env):aW a g env=gr (a env) (amy g):=nr rfl
noncomputable def kOwn(i:Nat)(d:D)(e:Env):Out:=.nx (e.set i (some (true,d)))
theorem ain(i)(d)(e):kOwn i d e = .nx (e.set i (some (true,d))):=nr rfl
theorem JD(i)(a)(env):eY i a env=gr (a env) (kOwn i):=nr rfl
theorem YC(env):bH env = .nx env:=nr rfl
theorem acJ(it)(g)(b)(env):gC it g b env=gr (it env) (mV g b):=nr rfl
theorem anb(d)(env):mX d env = .ok d env:=nr rfl
theorem abm(env):K1 env = .ok (.dct []) env:=nr rfl
theorem aeO(env):aj env = .ok [] env:=nr rfl
theorem abj(env):bY env = .ok true env:=nr rfl
theorem aeN(env):jD env = .ok none env:=nr rfl
noncomputable def RQ(d:D)(ds:List D)(e:Env):R (List D):=.ok (d::ds) e
def afW(r:dq)(d:D)(e:Env):R (List D):=bindR (r e) (RQ d)
theorem aaI(d)(ds)(e):RQ d ds e = .ok (d::ds) e:=nr rfl
theorem ad2(r)(d)(e):afW r d e=bindR (r e) (RQ d):=nr rfl
theorem abn(a)(r)(env):aa a r env=bindR (a env) (afW r):=nr rfl
def aaN(g:D->D->Option D)(x y:D)(e:Env):R D:=fc (g x y) e
def amw(g:D->D->Option D)(b:Ev)(x:D)(e:Env):R D:=bindR (b e) (aaN g x)
theorem ad6(g)(x y)(e):aaN g x y e=fc (g x y) e:=nr rfl
theorem aiX(g)(b)(x)(e):amw g b x e=bindR (b e) (aaN g x):=nr rfl
theorem aeS(g)(a b)(env):aL g a b env=bindR (a env) (amw g b):=nr rfl
def kUn{α β:Type}(g:α->Option β)(x:α)(e:Env):R β:=fc (g x) e
theorem amd{α β:Type}(g:α->Option β)(x)(e):kUn g x e=fc (g x) e:=nr rfl
theorem ajw(g)(a)(env):gh g a env=bindR (a env) (kUn g):=nr rfl
theorem abo(g)(a)(env):ao g a env=bindR (a env) (kUn g):=nr rfl
noncomputable def afV(b:Bool)(e:Env):R Bool:=.ok (!b) e
theorem adU(b)(e):afV b e = .ok (!b) e:=nr rfl
theorem abk(a)(env):dW a env=bindR (a env) afV:=nr rfl
def aij(s:D->Option Int->Option Int->Option D)(d:D)(l u:Option Int)(e:Env):R D:=fc (s d l u) e
def ail(s:D->Option Int->Option Int->Option D)(hi:EY)(d:D)(l:Option Int)(e:Env):R D:=bindR (hi e) (aij s d l)
def kSl(s:D->Option Int->Option Int->Option D)(lo hi:EY)(d:D)(e:Env):R D:=bindR (lo e) (ail s hi d)
theorem aii(s)(d)(l u)(e):aij s d l u e=fc (s d l u) e:=nr rfl
theorem aik(s)(hi)(d)(l)(e):ail s hi d l e=bindR (hi e) (aij s d l):=nr rfl
theorem amg(s)(lo hi)(d)(e):kSl s lo hi d e=bindR (lo e) (ail s hi d):=nr rfl
theorem ajx(a)(lo hi)(env):zx a lo hi env=bindR (a env) (kSl gSl lo hi):=nr rfl
theorem aeG(a)(lo hi)(env):vB a lo hi env=bindR (a env) (kSl ajf lo hi):=nr rfl
theorem aeF(a)(lo hi)(env):UT a lo hi env=bindR (a env) (kSl W6 lo hi):=nr rfl
theorem aeK(a)(env):tu a env=bindR (a env) (kUn ajl):=nr rfl
theorem ajA(a)(env):eG a env=bindR (a env) (kUn itD):=nr rfl
theorem aeI(a)(env):eF a env=bindR (a env) (kUn vg):=nr rfl
theorem aa1(i)(d)(env):ak i d env=some (env.set i (some (false,d))):=nr rfl
theorem gt0{α:Type}(a)(l:List α):(a::l)[0]? = some a:=nr rfl
theorem gtS{α:Type}(a)(l:List α)(i):(a::l)[i+1]? = l[i]?:=nr rfl
theorem st0{α:Type}(a b)(l:List α):(a::l).set 0 b=b::l:=nr rfl
theorem stS{α:Type}(a b)(l:List α)(i):(a::l).set (i+1) b=a::l.set i b:=nr rfl
theorem cdT{α:Type}(a b:α):(bif true then a else b)=a:=nr rfl
theorem cdF{α:Type}(a b:α):(bif false then a else b)=b:=nr rfl
theorem aas{α:Type}(enc)(ext:α->Env)(p)(out)(env)(k):∀(l:List α) vs,vs.length=k->
  (∀a∈l,(ext a).length=k/\(∀vs,vs.length=k->g (enc a) (env++vs)=some (env++ext a))/\c (env++ext a) = .ok (p a) (env++ext a)/\(p a=true->e (env++ext a) = .ok (out a) (env++ext a)))->
  ∃vs',vs'.length=k/\vp g c e (l.map enc) (env++vs) = .ok ((l.filter p).map out) (env++vs')
 | [],vs,hv,_=>⟨vs,hv,rfl⟩
 | a::l,vs,hv,h=>by
  obtain⟨h1,h2,h3,h4⟩:=h a Qq5;obtain⟨vs',h5,h6⟩:=aas enc ext p out env k l (ext a) h1 λb hb=>h b<|Qq0 _ hb;refine⟨vs',h5,?_⟩;rw[Qq4];unfold vp;rw[h2 vs hv];show bindR (c<|env++ext a) _=_;rw[h3,bR];cases hp:p a with
  | true=>rw[if_pos rfl,h4 hp,bR,h6,bR,List.filter_cons_of_pos hp,Qq4]
  | false=>simp_all
theorem sG{α:Type}{lo n:Nat}(l:List α)(enc)(ext:α->Env)(p)(out)(hit:it env = .ok (l.map enc) aJ)(hlo:aJ.length=lo)
  (h:∀a∈l,(ext a).length=n - lo/\(∀vs,vs.length=n - lo->g (enc a) (aJ++vs)=some (aJ++ext a))/\c (aJ++ext a) = .ok (p a) (aJ++ext a)/\(p a=true->e (aJ++ext a) = .ok (out a) (aJ++ext a)))
  (hz:l.length<=sizeLine):dH lo n it g c e env = .ok (.lst ((l.filter p).map out)) aJ:=by
 obtain⟨vs',h5,h6⟩:=aas enc ext p out aJ (n - lo) l (List.replicate (n - lo) none) Qxz h;have:=xW hit hlo h6<|Qqj (by grind) hz
 simp_all
theorem iY{α:Type}{lo n:Nat}(l:List α)(enc)(out)(hit:it env = .ok (l.map enc) aJ)(hlo:aJ.length=lo)(hn:n=lo+1)
  (h:∀a∈l,e (aJ++[some (false,enc a)]) = .ok (out a) (aJ++[some (false,enc a)])) (hz:l.length<=sizeLine):dH lo n it (ak lo) bY e env = .ok (.lst (l.map out)) aJ:=by
 subst hn hlo;have:=sG (n:=aJ.length+1) (g:=ak aJ.length) (c:=bY) l enc (λa=>[some (false,enc a)]) (λ_=>true) out hit rfl (λa ha=>⟨by simp,λvs hv=>?_,rfl,λ_=>h a ha⟩) hz
 ·rw[this,Qj1.mpr<|λ_ _=>rfl]
 ·have hv:vs.length=1:=by omega
  obtain⟨v,rfl⟩:=List.length_eq_one_iff.mp hv;unfold ak
  simp_all
theorem Bh{α:Type}{lo n:Nat}(l:List α)(enc)(p)(out)(hit:it env = .ok (l.map enc) aJ)(hlo:aJ.length=lo)(hn:n=lo+1)
  (hc:∀a∈l,c (aJ++[some (false,enc a)]) = .ok (p a) (aJ++[some (false,enc a)]))
  (h:∀a∈l,p a=true->e (aJ++[some (false,enc a)]) = .ok (out a) (aJ++[some (false,enc a)])) (hz:l.length<=sizeLine):dH lo n it (ak lo) c e env = .ok (.lst ((l.filter p).map out)) aJ:=by
 subst hn hlo;refine sG l enc (λa=>[some (false,enc a)]) p out hit rfl (λa ha=>⟨by simp,λvs hv=>?_,hc a ha,λhp=>h a ha hp⟩) hz;have hv:vs.length=1:=by omega
 obtain⟨v,rfl⟩:=List.length_eq_one_iff.mp hv;unfold ak
 simp_all
open PySem PySem.Spec PyProof.Rows L2
section
variable{X:Cx}{C:Cfg}
theorem nc0:((0:Nat):Int)=0:=nr rfl
theorem nc1:((1:Nat):Int)=1:=nr rfl
theorem nc2:((2:Nat):Int)=2:=nr rfl
theorem nc3:((3:Nat):Int)=3:=nr rfl
theorem nc4:((4:Nat):Int)=4:=nr rfl
theorem nc5:((5:Nat):Int)=5:=nr rfl
theorem nc6:((6:Nat):Int)=6:=nr rfl
theorem nc7:((7:Nat):Int)=7:=nr rfl
theorem nc8:((8:Nat):Int)=8:=nr rfl
end
noncomputable def Y4(o:Out):Option (D×D):=match o with
 | .rt false d env=>(match env[0]? with
  | some (some (true,x'))=>some (d,x')
  | _=>none)
 | .nx env=>(match env[0]? with
  | some (some (true,x'))=>some (.non,x')
  | _=>none)
 | _=>none
theorem acW(n)(ev)(x)(r):ou n ev (x::r)=Y4 (ev (xX n x r)):=nr rfl
theorem ao5(d x)(e:Env):Y4 (.rt false d (some (true,x)::e))=some (d,x):=nr rfl
theorem ao6(x)(e:Env):Y4 (.nx (some (true,x)::e))=some (.non,x):=nr rfl
noncomputable def ale(o:Out):Option D:=match o with
 | .rt true d _=>some d
 | _=>none
theorem agZ(n)(ev)(ds):runN n ev ds=ale (ev (envOf n ds)):=nr rfl
theorem nRt(d)(e):ale (.rt true d e)=some d:=nr rfl
noncomputable def afU(d:D)(e:Env):Out:=.rt true d e
theorem adT(d)(e):afU d e = .rt true d e:=nr rfl
theorem QR(a)(env):xg a env=gr (a env) afU:=nr rfl
noncomputable def rdP(o:Option (Option (Bool×D)))(f:Bool->D->Out):Out:=match o with
 | some (some (o,d))=>f o d
 | _=>.stuck
theorem pS(o)(d)(f):rdP (some (some (o,d))) f=f o d:=nr rfl
noncomputable def dcO(o:Bool)(d:D)(f:List (D×D)->Out):Out:=match o,d with
 | true,.dct kvs=>f kvs
 | _,_=>.stuck
theorem cS(kvs)(f):dcO true (.dct kvs) f=f kvs:=nr rfl
def kyO(d:D)(f:Key->Out):Out:=match tM d with
 | some q=>f q
 | none=>.stuck
theorem amf(z)(f):kyO (.str z) f=f (.inr (strOf z)):=nr rfl
theorem amo(i)(f):kyO (.int i) f=f (.inl i):=nr rfl
def aiL(i:Nat)(d kd:D)(e:Env)(kvs:List (D×D))(q:Key):Out:=szO (kvs.length+1) (.nx (e.set i (some (true,.dct (putD kvs kd q d)))))
def ad1(i:Nat)(d kd:D)(e:Env)(kvs:List (D×D)):Out:=kyO kd (aiL i d kd e kvs)
def aaG(i:Nat)(d kd:D)(e:Env)(o:Bool)(x:D):Out:=dcO o x (ad1 i d kd e)
def aiP(i:Nat)(d kd:D)(e:Env):Out:=rdP e[i]? (aaG i d kd e)
def aaH(i:Nat)(k:Ev)(d:D)(e:Env)(_:Bool)(_:D):Out:=gr (k e) (aiP i d)
def kDp(i:Nat)(k:Ev)(d:D)(e:Env):Out:=rdP e[i]? (aaH i k d e)
theorem aiK(i)(d kd)(e)(kvs)(q):aiL i d kd e kvs q=szO (kvs.length+1) (.nx (e.set i (some (true,.dct (putD kvs kd q d))))):=nr rfl
theorem aiM(i)(d kd)(e)(kvs):ad1 i d kd e kvs=kyO kd (aiL i d kd e kvs):=nr rfl
theorem aiN(i)(d kd)(e)(o)(x):aaG i d kd e o x=dcO o x (ad1 i d kd e):=nr rfl
theorem aiO(i)(d kd)(e):aiP i d kd e=rdP e[i]? (aaG i d kd e):=nr rfl
theorem aiQ(i)(k)(d)(e)(o)(x):aaH i k d e o x=gr (k e) (aiP i d):=nr rfl
theorem amu(i)(k)(d)(e):kDp i k d e=rdP e[i]? (aaH i k d e):=nr rfl
theorem YD(i)(k a)(env):tW i k a env=gr (a env) (kDp i k):=by
 unfold tW
 congr 1
 funext d e1
 show _=rdP e1[i]? (aaH i k d e1);unfold rdP aaH;cases e1[i]? with
 | none=>rfl
 | some o=>
  cases o with
  | none=>rfl
  | some p=>
   obtain⟨b,x⟩:=p;show gr (k e1) _=gr (k e1) _
   congr 1
   funext kd e2
   show _=rdP e2[i]? (aaG i d kd e2);unfold rdP aaG dcO ad1;cases e2[i]? with
   | none=>rfl
   | some o=>
    cases o with
    | none=>rfl
    | some p=>
     obtain⟨b,u⟩:=p;cases b with
     | false=>rfl
     | true=>
      cases u with
      | dct kvs=>
       unfold kyO;cases tM kd<;>rfl
      | _=>rfl
section
variable{X:Cx}{C:Cfg}{pos:Pos}{x:Expr}{a:Ev}
def Ea:D->Option Int->Option Int->Option D
 | .str z,lo,hi=>some (.str (cutD z lo hi))
 | .tup xs,lo,hi=>some (.tup (cutD xs lo hi))
 | .lst xs,lo,hi=>some (.lst (cutD xs lo hi))
 | .arr xs,lo,hi=>some (.lst (cutD xs lo hi))
 | _,_,_=>none
def uK(a:Ev)(lo hi:EY):Ev:=λenv=>bindR (a env) λd aJ=>bindR (lo aJ) λl dB=>bindR (hi dB) λu zy=>fc (Ea d l u) zy
theorem ajh(z)(lo hi):Ea (.str z) lo hi=some (.str (cutD z lo hi)):=nr rfl
theorem ajg(z)(lo hi):Ea (.tup z) lo hi=some (.tup (cutD z lo hi)):=nr rfl
theorem aji(z)(lo hi):Ea (.lst z) lo hi=some (.lst (cutD z lo hi)):=nr rfl
theorem ajj(z)(lo hi):Ea (.arr z) lo hi=some (.lst (cutD z lo hi)):=nr rfl
theorem aeH(a)(lo hi)(env):uK a lo hi env=bindR (a env) (kSl Ea lo hi):=nr rfl
end
structure SX(X:Cx)(C:Cfg)(e:Expr)(ev:Ev):Prop where
 u:Ev.PX X C e ev
structure Vl(X:Cx)(C:Cfg)(e:Expr)(ev:Ev):Prop where
 u:Ev.PXB X C e ev
structure SXN(X:Cx)(C:Cfg)(e:Expr)(ev:Ev):Prop where
 u:Ev.PXN X C e ev
structure Vj(X:Cx)(C:Cfg)(e:Expr)(ev:gj):Prop where
 u:Ev.PXT X C e ev
structure SXW(X:Cx)(C:Cfg)(e:Expr)(ev:gj):Prop where
 u:Ev.PXW X C e ev
structure PN(X:Cx)(C:Cfg)(e:List Expr)(ev:dq):Prop where
 u:Ev.PXA X C e ev
structure Ez(X:Cx)(C:Cfg)(e:List Expr)(ev:dq):Prop where
 u:Ev.afu X C e ev
structure SXL(X:Cx)(C:Cfg)(e:List Expr)(ev:dq):Prop where
 u:Ev.PXL X C e ev
structure Vk(X:Cx)(C:Cfg)(e:Stmt)(ev:bV):Prop where
 u:Ev.PXS X C e ev
structure di(X:Cx)(C:Cfg)(e:List Stmt)(ev:bV):Prop where
 u:Ev.Li X C e ev
structure Xz(X:Cx)(C:Cfg)(e:List Expr)(ev:gj):Prop where
 u:Ev.PQ X C e ev
structure SXP(X:Cx)(C:Cfg)(e:Option Expr)(ev:EY):Prop where
 u:Ev.PXP X C e ev
structure XC(X:Cx)(C:Cfg)(tg e:Expr)(ev:dq):Prop where
 u:Ev.X5 X C tg e ev
structure SXG(X:Cx)(C:Cfg)(lo:Nat)(e:Expr)(ev:GV):Prop where
 u:Ev.X6 X C lo e ev
structure afr(X:Cx)(C:Cfg)(lo:Nat)(e:List Expr)(ev:X7):Prop where
 u:Ev.akh X C lo e ev
section
variable{X:Cx}{C:Cfg}{pos p px:Pos}{x y z:Expr}{a b c:Ev}{t u:gj}{i:Nat}{n:Str}{e:Expr}{es:List Expr}{ea:dq}{e2:Expr}
theorem aB(ha:SX X C e a)(hr:PN X C es r)(hs:starEach (e::es) X.env=(false,eval e X.env)::starEach es X.env:=by rfl):PN X C (e::es) (aa a r):=⟨Ev.M7 ha.u hr.u hs⟩
theorem aU(i)(hN:X.N[i]? = some n:=by rfl)(hv:Aa X.env.scope n:=by first|exact Or.inl rfl|exact Or.inr (Or.inl rfl)|exact Or.inr (Or.inr rfl))(hd:qi n:=by decide)(hcd:Am n:=by decide):SX X C (.Name n pos) (aN i):=⟨ag4 i hN hv hd hcd⟩
theorem cB(i)(hr:PN X C es r)(hN:X.N[i]? = some n:=by rfl)(hv:Aa X.env.scope n:=by first|exact Or.inl rfl|exact Or.inr (Or.inl rfl)|exact Or.inr (Or.inr rfl))(hd:qi n:=by decide)(hcd:Am n:=by decide)(hs:starEach (.Name n pos::es) X.env=(false,eval (.Name n pos) X.env)::starEach es X.env:=by rfl):PN X C (.Name n pos::es) (aa (aN i) r):=aB (aU i hN hv hd hcd) hr hs
theorem aq  : PN X C [] aj:=⟨Ev.TX ⟩
theorem aG(h:SX X C e ev):Vl X C e ev:=⟨Ev.PX.b h.u⟩
theorem aF{i:Int}:SX X C (.Constant (.int i) j pos) (mX (.int i)):=⟨Ev.ag9 ⟩
theorem au{st:Stmt}{rest:List Stmt}{a b:bV}(h1:Vk X C st a)(h2:di X C rest b):di X C (st::rest) (aC a b):=⟨(ZC h1.u h2.u).imp λD σ H h=>by
 obtain⟨Pr,F,env,r,f⟩:=h;refine⟨Pr,F,env,r,?_⟩;unfold aC at f;cases e:a env with
 | nx e1=>rw[e] at f;exact λσ' H' F' r' s'=>⟨Pr,F',e1,r',f.mono s'⟩
 | rt o d e1=>rw[e] at f;cases o<;>exact f
 | bk e1=>rw[e] at f;exact f
 | ct e1=>rw[e] at f;exact f
 | stuck=>rw[e] at f;exact f⟩
theorem aA{st:Stmt}{a:bV}(h1:Vk X C st a):di X C [st] a:=⟨adg h1.u⟩
theorem aM{lo:Nat}(i)(hnd:oY X.N=true:=by rfl)(hlo:Nat.ble lo i=true:=by rfl)(hfx:C.fx i=none:=by rfl)(hi:X.N[i]? = some n:=by rfl)(hx:Loc X.env.scope n:=by first|exact Or.inl rfl|exact Or.inr rfl)(hf:X.fn n=true\/X.env.scope.names.lookup n=some .local:=by first|exact .inl rfl|exact .inr rfl):SXG X C lo (.Name n pos) (ak i):=⟨Zq (lV hnd) hi hx (Qz4 hlo) hfx hf⟩
theorem bL(z){x:Str}{j:Nat}(hz:x=strOf z:=by decide +kernel)(hl:z.length<=sizeLine:=by decide):SX X C (.Constant (.str x) j pos) (mX (.str z)):=⟨by
 subst hz;refine ahl.imp λσ H Q h=>?_;obtain⟨Pr,F,env,env',d,r,e,q⟩:=h;cases e;exact q _ _ F r (aY.refl F) ⟨rfl,hl⟩⟩
theorem bF(i)(hN:X.N[i]? = some n:=by rfl)(hv:Aa X.env.scope n:=by first|exact Or.inl rfl|exact Or.inr (Or.inl rfl)|exact Or.inr (Or.inr rfl))(hd:qi n:=by decide)(hcd:Am n:=by decide):Vl X C (.Name n pos) (bj i):=⟨ade i hN hv hd hcd⟩
theorem bJ{pos':Pos}(i)(he:SX X C e a)(hnd:oY X.N=true:=by rfl)(hfx:C.fx i=none:=by rfl)(hi:X.N[i]? = some n:=by rfl)(hx:Loc X.env.scope n:=by first|exact Or.inl rfl|exact Or.inr rfl)(hs:swapsWith e (some (.Name n pos')) pos.line X.env=pure false:=by rfl)(hf:X.fn n=true\/X.env.scope.names.lookup n=some .local:=by first|exact .inl rfl|exact .inr rfl):Vk X C (.Assign [.Name n pos'] e pos) (aW a (ak i)):=⟨ac4 (lV hnd) hi hx hfx he.u hs hf⟩
theorem aD(h:SX X C e a):Vk X C (.Return (some e) pos) (aV a):=⟨(ZG h.u).imp λD σ H hq=>by
 obtain⟨Pr,F,env,r,f⟩:=hq;obtain⟨d,aJ,e1,f1⟩:=gP f;exact⟨Pr,F,env,aJ,d,r,e1,λv H1 F1 r1 s1 p1=>f1 v σ H1 F1 r1 s1 p1⟩⟩
theorem aH(h:Vl X C e a)(hs:Qd e X.env:=by rfl):Ez X C [e] (aa a aj):=⟨(j8 h.u qG hs).imp λσ H Q hq=>by
 obtain⟨Pr,F,env,env',ds,rl,e,q⟩:=hq;obtain⟨d1,aJ,e1,e2⟩:=aO e;cases e2;exact⟨Pr,F,env,env',d1,rl,e1,λv H1 F1 r1 s1 p1=>q _ H1 F1 r1 s1 ⟨v,[],rfl,p1,rfl⟩⟩⟩
theorem aX(O:Own X.prog X.w X.K X.mg X.base n k ps (jQ X.K m g))(G:Good X C)(hr:lF k' X.A)(ha:PN X C (e::es) ea)(hn:∀env ds env',ea env = .ok ds env'->ds.length=m)(hk:Nat.ble k k'=true:=by rfl)(hg:Gl X n:=by rfl)(hdb:qi n:=by decide)(he:starEach (e::es) X.env=(false,eval e X.env)::starEach es X.env:=by rfl)(hpl:(backTo pos (starEach es X.env)).any (·.1)=false:=by rfl):SX X C (.Call (.Name n p) (e::es) [] pos) (ao g ea):=⟨by
 obtain⟨f,fd,h1,h2,h3,h4⟩:=O;rw[G.K] at h1;have h1':qd X.prog X.w X.K X.mg X.base Jk k f fd ps (jQ C.K m g):=by rw[G.K];exact h1
 exact ag5 h1' (hr.mono<|Qz4 hk) hg h2 h3 h4 ha.u hn hdb he hpl⟩
theorem cX(h:PN X C es r):SX X C (.Tuple es k pos) (cY r):=⟨(ahk h.u).imp λσ H Q hq=>by
 obtain⟨Pr,F,env,env',d,rl,e,q⟩:=hq;obtain⟨ds,aJ,e1,e2⟩:=aO e;split at e2
 ·rename_i hz;cases e2;refine⟨Pr,F,env,env',ds,rl,e1,λvs H1 F1 r1 s1 p1=>⟨by rw[p1.length];exact hz,λp hp=>?_⟩⟩;obtain⟨r2,s2⟩:=r1.new hp;exact q _ _ _ r2 (s1.trans s2) ⟨hz,p,vs,rfl,oH.of bD,cu.mono s2 _ _ p1⟩
 ·cases e2⟩
theorem aP{lo:Nat}(h1:SXG X C lo e g)(h2:afr X C lo es gs)(hs:(assignEach (e::es) X.env).map (·.2)=assign e X.env::(assignEach es X.env).map (·.2):=by rfl):afr X C lo (e::es) (aZ g gs):=⟨(ZS h1.u h2.u hs).imp λv σ H Q h=>by
 obtain⟨Pr,F,env,env',ds,r,p,e,q⟩:=h;cases ds with
 | nil=>cases e
 | cons d ds=>
  obtain⟨u,w,rfl,p1,p2⟩:=p;obtain⟨aJ,e1,e2⟩:=Qxy.mp e;refine⟨u,w,rfl,Pr,F,env,aJ,d,r,p1,e1,λσ1 H1 F1 r1 s1 t1=>?_⟩;exact⟨Pr,F1,aJ,env',ds,r1,cu.mono s1 _ _ p2,e2,λσ2 H2 F2 r2 s2 t2=>q σ2 H2 F2 r2 (s1.trans s2)<|t2.trans t1⟩⟩
theorem bU(h:SXN X C e ev):SX X C e ev:=⟨Ev.PXN.px h.u⟩
theorem bG(i)(G:Good X C)(hb:Vl X C y b)(hN:X.N[i]? = some n:=by rfl)(hv:Aa X.env.scope n:=by first|exact Or.inl rfl|exact Or.inr (Or.inl rfl)|exact Or.inr (Or.inr rfl))(hs:yf y:=by intro _ _;rfl)(hd:qi n:=by decide)(hcd:Am n:=by decide):SX X C (.Subscript (.Name n px) y pos) (az bZ i b):=⟨ag8 i G.K hN hv hb.u hs hd hcd⟩
theorem je{v:Str}{pv:Pos}(i)(O:Own X.prog X.w X.K X.mg X.base n k ps (yu X.K m g))(G:Good X C)(hr:lF k' X.A)(ha:PN X C es ea)(hn:∀env ds env',ea env = .ok ds env'->ds.length+1=m)(hk:Nat.ble k k'=true:=by rfl)(hN:X.N[i]? = some v:=by rfl)(hv:Aa X.env.scope v:=by first|exact Or.inl rfl|exact Or.inr (Or.inl rfl)|exact Or.inr (Or.inr rfl))(hg:Gl X n:=by rfl)(hdb:qi n:=by decide)(he:starEach (.Name v pv::es) X.env=(false,eval (.Name v pv) X.env)::starEach es X.env:=by rfl)(hpl:(backTo pos (starEach es X.env)).any (·.1)=false:=by rfl)(hd:qi v:=by decide)(hcd:Am v:=by decide):SX X C (.Call (.Name n p) (.Name v pv::es) [] pos) (fW g i ea):=⟨by
 obtain⟨f,fd,h1,h2,h3,h4⟩:=O;rw[G.K] at h1;have h1':qd X.prog X.w X.K X.mg X.base Jk k f fd ps (yu C.K m g):=by rw[G.K];exact h1
 exact alB hN hv h1' (hr.mono<|Qz4 hk) hg h2 h3 h4 ha.u hn hdb he hpl hd hcd⟩
theorem fZ(o:Bi X C op g)(ha:SX X C x a)(hb:Vl X C y b):SX X C (.BinOp x op y pos) (aL g a b):=⟨let ⟨_,h1,h2⟩:=o.ex;alz h1 h2 ha.u hb.u⟩
theorem pI(ha:SX X C e a)(hr:SXL X C es r)(hs:starEach (e::es) X.env=(false,eval e X.env)::starEach es X.env:=by rfl):SXL X C (e::es) (aa a r):=⟨⟨Ev.M7 ha.u hr.u.go hs⟩⟩
theorem dJ(i)(o:Bi X C op g)(hb:Vl X C y b)(hN:X.N[i]? = some n:=by rfl)(hv:Aa X.env.scope n:=by first|exact Or.inl rfl|exact Or.inr (Or.inl rfl)|exact Or.inr (Or.inr rfl))(hd:qi n:=by decide)(hcd:Am n:=by decide):SX X C (.BinOp (.Name n px) op y pos) (az g i b):=⟨let ⟨_,h1,h2⟩:=o.ex;ag6 i hN hv h1 h2 hb.u hd hcd⟩
theorem bI{c:Expr}{a b:List Stmt}{ea eb:bV}(hc:Vj X C c t)(ha:di X C a ea)(hb:di X C b eb):Vk X C (.If c a b pos) (cZ t ea eb):=⟨(alD hc.u ha.u hb.u).imp λD σ H h=>by
 obtain⟨Pr,F,env,r,f⟩:=h;obtain⟨k,aJ,e1,f1⟩:=gP f;refine⟨Pr,F,env,aJ,k,r,e1,λH1 F1 r1 s1=>?_⟩;split at f1
 ·rename_i hk;rw[if_pos hk];exact⟨Pr,F1,aJ,r1,f1.mono s1⟩
 ·rename_i hk;rw[if_neg hk];exact⟨Pr,F1,aJ,r1,f1.mono s1⟩⟩
theorem f9(h:PN X C es r):SXN X C (.List es pos) (fB r):=⟨Ev.TV h.u⟩
theorem bh  : di X C [] bH:=⟨Ev.Ze ⟩
theorem cV(G:Good X C)(h:SX X C x a):XC X C tg x (eG a):=⟨ada G.K h.u⟩
theorem dF{b:Bool}:SX X C (.Constant (.bool b) j pos) (mX (.bl b)):=⟨Ev.alC ⟩
theorem gb{elt tg iter:Expr}(N')(lo)(ok:jA X scope N')(G:Good X C)(hi:XC X C tg iter it)(bg:∀X',dI X scope N' X'->SXG X' C lo tg g)(bc:∀X',dI X scope N' X'->Xz X' C ifs cc)(be:∀X',dI X scope N' X'->SX X' C elt ee)(hs:∀x,foldedSetIterable iter X.env x=pure x:=by intro _;rfl):SXN X C (.ListComp elt [⟨tg,iter,ifs,0⟩] scope pos) (dH lo N'.length it g cc ee):=⟨Ev.aoV N' lo ok G hi.u (λX1 h1=>(bg X1 h1).u) (λX1 h1=>(bc X1 h1).u) (λX1 h1=>(be X1 h1).u) hs⟩
theorem cG(G:Good X C)(hm:X.mg "len" = none)(ha:Ez X C [e] ea)(hg:Gl X "len":=by rfl)(he:Qd e X.env:=by rfl):SX X C (.Call (.Name "len" p) [e] [] pos) (ao cN ea):=⟨uv (by rw[<-G.K];exact abC) ajK hg hm PySem.boot_len ha.u (by decide) (by decide) he rfl⟩
theorem bK(h:SX X C e a)(he:∀whole,isTrue e X.env whole=(do let v <-whole;standAt e.pos;holding [v] (truthy v)):=by intro _;rfl):Vj X C e (dg a):=⟨(ahb h.u he).imp λσ H Q hq=>Mg hq⟩
theorem cO{lo:Nat}:afr X C lo [] dU:=⟨Ev.Zo ⟩
theorem gH{lo:Nat}{k:Nat}(G:Good X C)(h:afr X C lo es gs)(hn:(assignEach es X.env).length=m:=by rfl)(hst:(assignEach es X.env).findIdx? (·.1)=none:=by rfl):SXG X C lo (.Tuple es k pos) (dR m gs):=⟨adb G.calm G.K h.u hn hst⟩
theorem bM:Xz X C [] bY:=⟨Ev.Zm ⟩
theorem jV{tg iter:Expr}(G:Good X C)(hi:XC X C tg iter it)(hg:SXG X C 0 tg g)(hb:di X C body bs)(hp:PassesOwn (model X.prog X.w) X.A X.env X.xe:=by exact PassesOwn.never)(hs:∀x,foldedSetIterable iter X.env x=pure x:=by intro _;rfl):Vk X C (.For tg iter body [] pos) (gC it g bs):=⟨ac6 hp G.calm hi.u hg.u hb.u hs⟩
theorem gG(o:Cm X C op g)(ha:SX X C x a)(hb:Vl X C y b)(hm:behindInMarks op y=false:=by rfl):Vj X C (.Compare x [op] [y] pos) (dg (aL g a b)):=⟨let ⟨_,h1,h2⟩:=o.ex;ac3 h1 h2 ha.u hb.u hm⟩
theorem rF{pos':Pos}(i)(he:SXN X C e a)(hnd:oY X.N=true:=by rfl)(hfx:C.fx i=none:=by rfl)(hi:X.N[i]? = some n:=by rfl)(hx:Loc X.env.scope n:=by first|exact Or.inl rfl|exact Or.inr rfl)(hs:swapsWith e (some (.Name n pos')) pos.line X.env=pure false:=by rfl)(hf:X.fn n=true\/X.env.scope.names.lookup n=some .local:=by first|exact .inl rfl|exact .inr rfl):Vk X C (.Assign [.Name n pos'] e pos) (eY i a):=⟨ac5 (lV hnd) hi hx hfx he.u hs hf⟩
theorem gQ(G:Good X C)(hm:X.mg "tuple" = none)(ha:Ez X C [e] ea)(hg:Gl X "tuple":=by rfl)(he:Qd e X.env:=by rfl):SX X C (.Call (.Name "tuple" p) [e] [] pos) (ao d8 ea):=⟨yX (by rw[<-G.K];exact Gh) abA hg hm (by rfl) ha.u (by decide) (by decide) he rfl⟩
theorem n8(G:Good X C)(ha:SX X C x a)(hb:Vl X C y b)(hs:yf y:=by intro _ _;rfl):SX X C (.Subscript x y pos) (aL bZ a b):=⟨alA G.K ha.u hb.u hs⟩
theorem dY(i)(o:Cm X C op g)(hb:Vl X C y b)(hN:X.N[i]? = some n:=by rfl)(hv:Aa X.env.scope n:=by first|exact Or.inl rfl|exact Or.inr (Or.inl rfl)|exact Or.inr (Or.inr rfl))(hm:behindInMarks op y=false:=by rfl)(hd:qi n:=by decide)(hcd:Am n:=by decide):Vj X C (.Compare (.Name n px) [op] [y] pos) (dg (az g i b)):=⟨by
 obtain⟨r,h1,h2⟩:=o.ex;exact(T3 h1 (ni hN hv hd hcd) hb.u hm).imp λσ H Q h=>yd h2 σ H _<|Mg h⟩
theorem iu(he:SX X C e a)(hg:SXG X C 0 tg g)(hs:swapsWithSole [tg] e pos.line X.env=pure false:=by rfl)(hw:swappedStores [tg] e X.env=pure none:=by rfl)(h1:(assignEach [tg] X.env).map (·.2)=[assign tg X.env]:=by rfl):Vk X C (.Assign [tg] e pos) (aW a g):=⟨(ahf he.u hg.u hs hw h1).imp λD σ H h=>ajS h⟩
theorem gO(h:SX X C e a):SXP X C (some e) (tU a):=⟨(adk h.u).imp λσ H Q hq=>by
 obtain⟨Pr,F,env,env',o,r,e,q⟩:=hq;obtain⟨d,aJ,e1,e2⟩:=aO e;refine⟨Pr,F,env,aJ,d,r,e1,λv H1 F1 r1 s1 p1=>?_⟩;cases d with
 | int i=>cases e2;exact⟨i,p1,q H1 F1 r1 s1⟩
 | _=>cases e2⟩
theorem cQ{a:gj}(h:Vj X C x a):Vj X C (.UnaryOp .Not x pos) (dW a):=⟨(ahc h.u).imp λσ H Q hq=>by
 obtain⟨Pr,F,env,env',b,rl,e,q⟩:=hq;obtain⟨c,aJ,e1,e2⟩:=aO e;cases e2;exact⟨Pr,F,env,env',c,rl,e1,λH1 F1 r1 s1=>q H1 F1 r1 s1⟩⟩
theorem fK{a:gj}(h:SXW X C e a):Vj X C e a:=⟨Ev.PXW.pt h.u⟩
theorem iQ{tg:Expr}(hm:X.mg "range" = none)(ha:PN X C [e] ea)(hl:∀env ds env',ea env = .ok ds env'->ds.length=1)(hg:Gl X "range":=by rfl)(hs:starEach [e] X.env=[(false,eval e X.env)]:=by rfl):XC X C tg (.Call (.Name "range" p) [e] [] pos) (eF ea):=⟨Rk hg hm ha.u hl hs⟩
theorem jh(i)(o:Cm X C op g)(hb:Vl X C y b)(hN:X.N[i]? = some n:=by rfl)(hv:Aa X.env.scope n:=by first|exact Or.inl rfl|exact Or.inr (Or.inl rfl)|exact Or.inr (Or.inr rfl))(hm:behindInMarks op y=false:=by rfl)(hd:qi n:=by decide)(hcd:Am n:=by decide):SX X C (.Compare (.Name n px) [op] [y] pos) (az g i b):=⟨by
 obtain⟨r,h1,h2⟩:=o.ex;exact(T7 h1 (ni hN hv hd hcd) hb.u hm).imp<|yd h2⟩
theorem uT:SX X C (.Constant .none j pos) (mX .non):=⟨Ev.ag7 ⟩
theorem Rm(ha:SX X C e a)(hr:Ez X C es r)(hs:starEach (e::es) X.env=(false,eval e X.env)::starEach es X.env:=by rfl):Ez X C (e::es) (aa a r):=⟨(j8 ha.u hr.u hs).imp λσ H Q h=>by
  obtain⟨Pr,F,env,env',ds,rl,e,q⟩:=h;obtain⟨d1,aJ,e1,e2⟩:=aO e;obtain⟨Ep,dB,e3,e4⟩:=aO e2;cases e4;refine⟨Pr,F,env,aJ,d1,rl,e1,λv H1 F1 r1 s1 p1=>?_⟩;refine⟨Pr,F1,aJ,env',Ep,r1,e3,λvs H2 F2 r2 s2 p2=>?_⟩;exact q _ H2 F2 r2 (s1.trans s2) ⟨v,vs,rfl,.inl<|Rep.mono s2 d1 v p1,p2⟩⟩
theorem fJ(h:SX X C x a):SX X C (.BoolOp op [x] pos) a:=⟨ahn h.u⟩
theorem yS{apos cpos:Pos}(i)(G:Good X C)(he:SX X C e a)(hN:X.N[i]? = some n:=by rfl)(hv:Aa X.env.scope n:=by first|exact Or.inl rfl|exact Or.inr (Or.inl rfl)|exact Or.inr (Or.inr rfl))(hs:swapsWith (.Call (.Attribute (.Name n px) "append" apos) [e] [] cpos) none pos.line X.env=pure false:=by rfl) (hfew:((backTo cpos (starEach [e] X.env)).all (λx=>!x.1)&&(backToKw cpos (keywordEach [] X.env)).all (λx=>x.1.isSome)
   && decide ([e].length+([]:List Keyword).length+(if ([]:List Keyword).isEmpty then 0 else 1)<30))=true:=by rfl) (hbase:attributeBase (.Name n px) "append" X.env (eval (.Name n px) X.env)=eval (.Name n px) X.env:=by rfl) (hline:(apos.endLine == cpos.line)=true:=by rfl) (hst:Qd e X.env:=by rfl) (hplain:(backTo cpos (starEach [] X.env)).any (·.1)=false:=by rfl) (hd:qi n:=by decide) (hcd:Am n:=by decide):Vk X C (.Expr (.Call (.Attribute (.Name n px) "append" apos) [e] [] cpos) pos) (kY i a):=⟨ac7 hN hv he.u G.K hs hfew hbase hline hst hplain hd hcd⟩
theorem iU  : SXP X C none jD:=⟨Ev.Zh ⟩
theorem dM{rest:List Expr}(ha:SX X C x a)(hb:SX X C (.BoolOp .And (y::rest) pos) b):SX X C (.BoolOp .And (x::y::rest) pos) (iD a b):=⟨(ahr ha.u hb.u).imp λσ H Q hq=>by
  obtain⟨Pr,F,env,env',k,rl,e,q⟩:=hq;obtain⟨c,aJ,e1,e2⟩:=aO e;refine⟨Pr,F,env,aJ,c,rl,e1,λv H1 F1 r1 s1 p1=>?_⟩;cases c with
  | bl z=>
   refine⟨z,p1,?_⟩;cases z with
   | true=>exact amA ⟨Pr,F1,aJ,env',k,r1,e2,λv2 H2 F2 r2 s2 p2=>q v2 H2 F2 r2 (s1.trans s2) p2⟩
   | false=>cases e2;exact amB<|q _ H1 F1 r1 s1 rfl
  | _=>cases e2⟩
theorem eQ{rest:List Expr}{a b:gj}(ha:Vj X C x a)(hb:SXW X C (.BoolOp .Or (y::rest) pos) b):SXW X C (.BoolOp .Or (x::y::rest) pos) (iB a b):=⟨(pw_or ha.u hb.u).imp λσ H Q hq=>by
  obtain⟨Pr,F,env,env',k,rl,e,q⟩:=hq;obtain⟨c,aJ,e1,e2⟩:=aO e;refine⟨Pr,F,env,aJ,c,rl,e1,λH1 F1 r1 s1=>?_⟩;split at e2
  ·grind
  ·rename_i hc;rw[if_neg hc];exact⟨Pr,F1,aJ,env',k,r1,e2,λH2 F2 r2 s2=>q H2 F2 r2<|s1.trans s2⟩⟩
theorem jH(G:Good X C)(hm:X.mg "all" = none)(ha:Ez X C [e] ea)(hg:Gl X "all":=by rfl)(he:Qd e X.env:=by rfl):SX X C (.Call (.Name "all" p) [e] [] pos) (ao o4 ea):=⟨uv (by rw[<-G.K];exact Xp G.calm) ajM hg hm (by rfl) ha.u (by decide) (by decide) he rfl⟩
theorem gD{a:gj}(h:Vj X C x a):SXW X C (.BoolOp .Or [x] pos) a:=⟨pw_or1 h.u⟩
theorem fU{p q pos:Pos}(hg:Gl X "isinstance")(hm:X.mg "isinstance" = none)(hgT:Gl X xT)(hmT:X.mg xT=none)(hvT:bootBuiltins xT=some (.type T))(hk:∀d,PySem.W.kitOne X.K (.type (Vp d)) (.type T)=some (jP d T))(hK:X.K=C.K)(ha:SX X C e a)(hn:xT ≠ "__name__":=by decide)(hd:qi xT:=by decide)(he:starEach [e,.Name xT q] X.env=(false,eval e X.env)::starEach [.Name xT q] X.env:=by rfl):SX X C (.Call (.Name "isinstance" p) [e,.Name xT q] [] pos) (gh (jd T) a):=⟨by
 refine(Cw (abD hk) hg hm boot_isinstance (j8 ha.u (j8 (ady (v:=.ty T) hgT hmT hvT rfl hn hd) qG) he) (by decide) (by decide) he rfl).imp λσ H Q h=>?_;obtain⟨Pr,F,env,env',d,rl,e1,qq⟩:=h;obtain⟨d0,aJ,e2,e3⟩:=aO e1;obtain⟨e4,rfl⟩:=dz e3;obtain⟨nc,rfl⟩:=aex e4;refine⟨Pr,F,env,env',d0,rl,e2,λv H1 F1 r1 s1 p1=>⟨d0,v,rfl,nc,?_,qq _ H1 F1 r1 s1 rfl⟩⟩;rw[hK];exact Rep.mono r1.fr d0 v p1⟩
theorem j7{c:Expr}(h:Vj X C c t):Xz X C [c] t:=⟨ado h.u⟩
theorem aam(O:Own X.prog X.w X.K X.mg X.base n k ps (spN X.K m g))(G:Good X C)(hr:lF k' X.A)(ha:PN X C (e::es) ea)(hn:∀env ds env',ea env = .ok ds env'->ds.length=m)(hk:Nat.ble k k'=true:=by rfl)(hg:Gl X n:=by rfl)(hdb:qi n:=by decide)(he:starEach (e::es) X.env=(false,eval e X.env)::starEach es X.env:=by rfl)(hpl:(backTo pos (starEach es X.env)).any (·.1)=false:=by rfl):SXN X C (.Call (.Name n p) (e::es) [] pos) (ao g ea):=⟨by
 obtain⟨f,fd,h1,h2,h3,h4⟩:=O;rw[G.K] at h1;have h1':qd X.prog X.w X.K X.mg X.base Jk k f fd ps (spN C.K m g):=by rw[G.K];exact h1
 exact ac8 h1' (hr.mono<|Qz4 hk) hg h2 h3 h4 ha.u hn hdb he hpl⟩
theorem oA{rest:List Expr}{a b:gj}(ha:Vj X C x a)(hb:SXW X C (.BoolOp .And (y::rest) pos) b):SXW X C (.BoolOp .And (x::y::rest) pos) (fP a b):=⟨(pw_and ha.u hb.u).imp λσ H Q hq=>by
  obtain⟨Pr,F,env,env',k,rl,e,q⟩:=hq;obtain⟨c,aJ,e1,e2⟩:=aO e;refine⟨Pr,F,env,aJ,c,rl,e1,λH1 F1 r1 s1=>?_⟩;split at e2
  ·rename_i hc;rw[if_pos hc];exact⟨Pr,F1,aJ,env',k,r1,e2,λH2 F2 r2 s2=>q H2 F2 r2<|s1.trans s2⟩
  grind⟩
theorem iw{x:Str}{u:Value}(d)(hg:Gl X x)(hm:X.mg x=some u)(rv:RelV v u)(hr:∀F,Rep C.K F d v)(hd:qi x:=by decide):SX X C (.Name x pos) (mX d):=⟨(J8 hg hm rv hd).imp λσ H Q h=>by
  obtain⟨Pr,F,env,env',d,r,e,q⟩:=h;cases e;exact q _ _ F r (aY.refl F)<|hr F⟩
theorem Ax{apos cpos:Pos}(G:Good X C)(ho:SX X C o a)(he:Vl X C e b)(hbase:attributeBase o "join" X.env (eval o X.env)=eval o X.env:=by rfl)(hs:Qd e X.env:=by rfl) (hfew:((backTo cpos (starEach [e] X.env)).all (λx=>!x.1)&&(backToKw cpos (keywordEach [] X.env)).all (λx=>x.1.isSome)
   && decide ([e].length+([]:List Keyword).length+(if ([]:List Keyword).isEmpty then 0 else 1)<30))=true:=by rfl) (hline:(apos.endLine == cpos.line)=true:=by rfl) (hplain:(backTo cpos (starEach [] X.env)).any (·.1)=false:=by rfl):SX X C (.Call (.Attribute o "join" apos) [e] [] cpos) (aL qj a b):=⟨adf G.K ho.u he.u hbase hs hfew hline hplain⟩
theorem Yc{lo hi:Option Expr}(G:Good X C)(ha:SX X C x a)(hl:SXP X C lo el)(hh:SXP X C hi eh):SX X C (.Subscript x (.Slice lo hi none p2) pos) (zx a el eh):=⟨aly G.K ha.u hl.u hh.u⟩
theorem pH{a:gj}(h:Vj X C x a):SXW X C (.BoolOp .And [x] pos) a:=⟨pw_and1 h.u⟩
theorem vH(ha:SX X C x a):SX X C (.UnaryOp .USub x pos) (gh tO a):=⟨alx Yo agy ha.u⟩
theorem pN(o:Cm X C op g)(ha:SX X C x a)(hb:Vl X C y b)(hm:behindInMarks op y=false:=by rfl):SX X C (.Compare x [op] [y] pos) (aL g a b):=⟨let ⟨_,h1,h2⟩:=o.ex;aha h1 h2 ha.u hb.u hm⟩
theorem Zk  : SXL X C [] aj:=⟨Ev.ac9 ⟩
theorem adK{a:dq}(h:SXL X C es a):SXN X C (.List es pos) (fB a):=⟨Ev.TV h.u.go⟩
theorem Bt(i)(G:Good X C)(hb:Vl X C y b)(hN:X.N[i]? = some n:=by rfl)(hv:Aa X.env.scope n:=by first|exact Or.inl rfl|exact Or.inr (Or.inl rfl)|exact Or.inr (Or.inr rfl))(hs:abU y:=by intro _ _;rfl)(hd:qi n:=by decide)(hcd:Am n:=by decide):SX X C (.Subscript (.Name n px) y pos) (az lW i b):=⟨Zr i G.u1 hN hv hb.u hs hd hcd⟩
theorem Jm(ha:SX X C x a):SX X C (.Subscript x (.Slice none none (some (.UnaryOp .USub (.Constant (.int 1) k p4) p3)) p2) pos) (tu a):=⟨by
 refine(ahm ha.u<|afK Yo<|ZV).imp λσ H Q hq=>?_;obtain⟨Pr,F,env,env',d,r,e,q⟩:=hq;obtain⟨z,aJ,e1,e2⟩:=aO e;obtain⟨e3,rfl⟩:=dz e2;cases z with
 | str z=>
  cases e3;refine⟨Pr,F,env,env',.str z,r,e1,λv H1 F1 r1 s1 p1=>?_⟩;obtain⟨rfl,hz⟩:=p1;refine⟨1,rfl,strOf z,rfl,by rw[rC];exact hz,rfl,q _ H1 F1 r1 s1 ⟨by simp[strOf],by rw[List.length_reverse];exact hz⟩⟩
 | _=>cases e3⟩
theorem Wa  : SXN X C (.Dict [] [] pos) K1:=⟨Ev.Zj ⟩
theorem Gr(G:Good X C)(hm:X.mg "sorted" = none)(ha:Ez X C [e] ea)(hg:Gl X "sorted":=by rfl)(he:Qd e X.env:=by rfl):SX X C (.Call (.Name "sorted" p) [e] [] pos) (ao mU ea):=⟨Wb G.K G.calm hg hm ha.u he rfl⟩
theorem J5{rest:List Expr}(ha:SX X C x a)(hb:SX X C (.BoolOp .Or (y::rest) pos) b):SX X C (.BoolOp .Or (x::y::rest) pos) (Xc a b):=⟨(alF ha.u hb.u).imp λσ H Q hq=>by
  obtain⟨Pr,F,env,env',k,rl,e,q⟩:=hq;obtain⟨c,aJ,e1,e2⟩:=aO e;refine⟨Pr,F,env,aJ,c,rl,e1,λv H1 F1 r1 s1 p1=>?_⟩;cases c with
  | bl z=>
   refine⟨z,p1,?_⟩;cases z with
   | true=>cases e2;exact amA<|q _ H1 F1 r1 s1 rfl
   | false=>exact amB ⟨Pr,F1,aJ,env',k,r1,e2,λv2 H2 F2 r2 s2 p2=>q v2 H2 F2 r2 (s1.trans s2) p2⟩
  | _=>cases e2⟩
theorem Ql{lo hi:Option Expr}(ha:SX X C x a)(hl:SXP X C lo el)(hh:SXP X C hi eh):SX X C (.Subscript x (.Slice lo hi none p2) pos) (vB a el eh):=⟨by
 refine(xB YG ha.u hl.u hh.u).imp λσ H Q hq=>?_;obtain⟨Pr,F,env,env',d,r,e,q⟩:=hq;obtain⟨z,aJ,e1,e2⟩:=aO e;obtain⟨l,dB,e3,e4⟩:=aO e2;obtain⟨u,zy,e5,e6⟩:=aO e4;obtain⟨e7,rfl⟩:=dz e6;cases z with
 | str z=>
  cases e7;refine⟨Pr,F,env,aJ,.str z,r,e1,λv H1 F1 r1 s1 p1=>⟨Pr,F1,aJ,dB,l,r1,e3,λH2 F2 r2 s2=>⟨Pr,F2,dB,env',u,r2,e5,λH3 F3 r3 s3=>?_⟩⟩⟩;obtain⟨rfl,hz⟩:=p1;exact⟨z,rfl,hz,q _ H3 F3 r3 ((s1.trans s2).trans s3) ⟨rfl,Qqj (O7 _ _ _) hz⟩⟩
 | _=>cases e7⟩
theorem aco(G:Good X C)(hm:X.mg "list" = none)(ha:Ez X C [e] ea)(hg:Gl X "list":=by rfl)(he:Qd e X.env:=by rfl):SX X C (.Call (.Name "list" p) [e] [] pos) (ao zW ea):=⟨yX (by rw[<-G.K];exact S9 G.calm) aeZ hg hm (by rfl) ha.u (by decide) (by decide) he rfl⟩
theorem Gx{elt tg iter:Expr}(N'){spos py:Pos}(lo)(i)(ok:jA X scope N')(G:Good X C)(hi:XC X C tg iter it)(bg:∀X',dI X scope N' X'->SXG X' C lo tg g)(bc:∀X',dI X scope N' X'->Xz X' C ifs cc)(be:∀X',dI X scope N' X'->SX X' C elt ee)(hnd:oY X.N=true:=by rfl)(hfx:C.fx i=none:=by rfl)(hy:X.N[i]? = some n:=by rfl)(hx:Loc X.env.scope n:=by first|exact Or.inl rfl|exact Or.inr rfl)(hsw:swapsWith (.ListComp elt [⟨tg,iter,ifs,0⟩] scope pos) (some (.Name n py)) spos.line X.env=pure true:=by rfl)(hf:X.fn n=true\/X.env.scope.names.lookup n=some .local:=by first|exact .inl rfl|exact .inr rfl)(hs:∀x,foldedSetIterable iter X.env x=pure x:=by intro _;rfl):Vk X C (.Assign [.Name n py] (.ListComp elt [⟨tg,iter,ifs,0⟩] scope pos) spos) (eY i (dH lo N'.length it g cc ee)):=⟨Ev.aoI N' lo i ok G hi.u (λX1 h1=>(bg X1 h1).u) (λX1 h1=>(bc X1 h1).u) (λX1 h1=>(be X1 h1).u) hnd hfx hy hx hsw hf hs⟩
theorem Ut{tg e2:Expr}(hm:X.mg "range" = none)(ha:PN X C [e,e2] ea)(hl:∀env ds env',ea env = .ok ds env'->ds.length=2)(hg:Gl X "range":=by rfl)(hs:starEach [e,e2] X.env=[(false,eval e X.env),(false,eval e2 X.env)]:=by rfl)(hs2:starEach [e2] X.env=[(false,eval e2 X.env)]:=by rfl):XC X C tg (.Call (.Name "range" p) [e,e2] [] pos) (eF ea):=⟨Rj hg hm ha.u hl hs hs2⟩
theorem Vn(G:Good X C)(hm:X.mg "divmod" = none)(ha:Ez X C [e,e2] ea)(hg:Gl X "divmod":=by rfl)(he:starEach [e,e2] X.env=(false,eval e X.env)::starEach [e2] X.env:=by rfl)(hpl:(backTo pos (starEach [e2] X.env)).any (·.1)=false:=by rfl):SX X C (.Call (.Name "divmod" p) [e,e2] [] pos) (ao xR ea):=⟨uv Pg Xl hg hm (by rfl) ha.u (by decide) (by decide) he hpl⟩
theorem M6(h:SXN X C e a):Vk X C (.Return (some e) pos) (xg a):=⟨(ZG h.u).imp λD σ H hq=>by
 obtain⟨Pr,F,env,r,f⟩:=hq;obtain⟨d,aJ,e1,f1⟩:=gP f;exact⟨Pr,F,env,aJ,d,r,e1,λv H1 F1 r1 s1 p1=>f1 v σ H1 F1 r1 s1 p1⟩⟩
theorem amQ{lo:Nat}(i)(h:SX X C ix ev)(hN:X.N[i]? = some n:=by rfl)(hv:Aa X.env.scope n:=by first|exact Or.inl rfl|exact Or.inr (Or.inl rfl)|exact Or.inr (Or.inr rfl)) (ha:∀v,assign (.Subscript (.Name n px) ix pos) X.env v=(do
   let ov <-holding [v] (eval (.Name n px) X.env)
   let iv <-holding [v,ov] (eval ix X.env)
   standAt pos
   holding [v,ov,iv] (setItem ov iv v)
   release [v,ov,iv] []):=by intro _;rfl) (hd:qi n:=by decide) (hcd:Am n:=by decide):SXG X C lo (.Subscript (.Name n px) ix pos) (aei i ev):=⟨ag3 hN hv h.u ha hd hcd⟩
theorem Tn(G:Good X C)(hm:X.mg "dict" = none)(ha:Ez X C [e] ea)(hg:Gl X "dict":=by rfl)(he:Qd e X.env:=by rfl):SX X C (.Call (.Name "dict" p) [e] [] pos) (ao uG ea):=⟨yX (by rw[<-G.K];exact Xn G.calm) ae0 hg hm (by rfl) ha.u (by decide) (by decide) he rfl⟩
theorem acU{pos':Pos}(i)(G:Good X C)(hk:SX X C k ek)(he:SX X C e a)(hN:X.N[i]? = some n:=by rfl)(hv:Aa X.env.scope n:=by first|exact Or.inl rfl|exact Or.inr (Or.inl rfl)|exact Or.inr (Or.inr rfl))(hs:swapsWith e (some (.Subscript (.Name n px) k pos')) pos.line X.env=pure false:=by rfl)(hd:qi n:=by decide)(hcd:Am n:=by decide):Vk X C (.Assign [.Subscript (.Name n px) k pos'] e pos) (tW i ek a):=⟨Zg G.u1 hN hv hk.u he.u hs hd hcd⟩
theorem agv{lo hi:Option Expr}(G:Good X C)(ha:SX X C x a)(hl:SXP X C lo el)(hh:SXP X C hi eh):SX X C (.Subscript x (.Slice lo hi none p2) pos) (UT a el eh):=⟨by
 have h:=xB (pos:=pos) (p2:=p2) (Tj.or JK Mp) ha.u hl.u hh.u;rw[G.K] at h;refine h.imp λσ H Q hq=>?_;obtain⟨Pr,F,env,env',d,r,e,q⟩:=hq;obtain⟨x,aJ,e1,e2⟩:=aO e;obtain⟨l,dB,e3,e4⟩:=aO e2;obtain⟨u,zy,e5,e6⟩:=aO e4;obtain⟨e7,rfl⟩:=dz e6;refine⟨Pr,F,env,aJ,x,r,e1,λv H1 F1 r1 s1 p1=>⟨Pr,F1,aJ,dB,l,r1,e3,λH2 F2 r2 s2=>⟨Pr,F2,dB,env',u,r2,e5,λH3 F3 r3 s3=>?_⟩⟩⟩;exact YJ r3 (Rep.mono (s2.trans s3) _ _ p1) e7 λv H' F' r' s' p'=>q v H' F' r' (((s1.trans s2).trans s3).trans s') p'⟩
theorem aec{elts:List Expr}{k:Nat}{tp p:Pos}(hm:X.mg "enumerate" = none)(ha:PN X C [e] ea)(hg:Gl X "enumerate":=by rfl)(hs:starEach [e] X.env=[(false,eval e X.env)]:=by rfl):XC X C (.Tuple elts k tp) (.Call (.Name "enumerate" p) [e] [] pos) (Su ea):=⟨(adt hg hm ha.u hs).imp λσ H R hq=>by
  obtain⟨Pr,F,env,env',ds,r,e,q⟩:=hq;obtain⟨as,aJ,e1,e2⟩:=aO e;refine⟨Pr,F,env,aJ,as,r,e1,λvs H1 F1 r1 s1 p1=>?_⟩;split at e2
  ·rename_i x;cases e2;obtain⟨v,w,rfl,⟨rfl,hz⟩,p2⟩:=p1;cases p2;refine⟨strOf x,rfl,q _ H1 F1 r1 s1 λi H2 s2=>⟨λ_ ei=>?_,λd hd=>?_⟩⟩
   ·show i=x.toArray.size;rw[ei];simp[vC]
   ·unfold vC at hd;rw[Qw1] at hd;obtain⟨⟨c,j⟩,hc,rfl⟩:=Qww.mp hd;rw[List.getElem?_zipIdx] at hc;obtain⟨c',hc',h2⟩:=Qww.mp hc;cases h2;refine⟨?_,λy H3 hy=>.inr ?_⟩
    ·show i<x.toArray.size;have:=(Qwz.mp hc').1
     simpa using this
    ·obtain⟨p,c2,h3,h4,rfl,rfl⟩:=hy;have h5:x[i]? = some c2:=by simpa[strOf] using h3
     rw[hc'] at h5;cases h5;exact⟨p,_,_,h4,rfl,rfl,rfl,by show 2<=sizeLine;decide,_,_,rfl,by simp[Rep],_,_,rfl,⟨rfl,by show 1<=sizeLine;decide⟩,rfl⟩
  ·cases e2⟩
theorem Bq{lo hi:Option Expr}(G:Good X C)(ha:SX X C x a)(hl:SXP X C lo el)(hh:SXP X C hi eh):SX X C (.Subscript x (.Slice lo hi none p2) pos) (uK a el eh):=⟨by
 have h:=xB (pos:=pos) (p2:=p2) (Tj.or (Tj.or Tw JK)<|Tj.or (Tj.or JK Mp) YG) ha.u hl.u hh.u;rw[G.K] at h;refine h.imp λσ H Q hq=>?_;obtain⟨Pr,F,env,env',d,r,e,q⟩:=hq;obtain⟨x,aJ,e1,e2⟩:=aO e;obtain⟨l,dB,e3,e4⟩:=aO e2;obtain⟨u,zy,e5,e6⟩:=aO e4;obtain⟨e7,rfl⟩:=dz e6;refine⟨Pr,F,env,aJ,x,r,e1,λv H1 F1 r1 s1 p1=>⟨Pr,F1,aJ,dB,l,r1,e3,λH2 F2 r2 s2=>⟨Pr,F2,dB,env',u,r2,e5,λH3 F3 r3 s3=>?_⟩⟩⟩;have p3:=Rep.mono (s2.trans s3) _ _ p1;have q3:=λv H' F' r' s' p'=>q v H' F' r' (((s1.trans s2).trans s3).trans s') p';cases x with
 | str z=>
  cases e7;obtain⟨rfl,hz⟩:=p1;exact .inr<|.inr ⟨z,rfl,hz,q3 _ H3 F3 r3 (aY.refl _) ⟨rfl,Qqj (O7 _ _ _) hz⟩⟩
 | tup xs=>
  exact .inr<|.inl<|YJ r3 p3 (by rw[Oi];exact e7) q3
 | lst xs=>exact .inl<|YH r3 (.inl p3) e7 q3
 | arr xs=>exact .inl<|YH r3 (.inl p3) e7 q3
 | _=>cases e7⟩
theorem aaY{elts:List Expr}{k:Nat}{tp p:Pos}(G:Good X C)(hm:X.mg "zip" = none)(ha:PN X C [e,e2] ea)(hg:Gl X "zip":=by rfl)(hs:starEach [e,e2] X.env=(false,eval e X.env)::starEach [e2] X.env:=by rfl)(hs2:starEach [e2] X.env=[(false,eval e2 X.env)]:=by rfl):XC X C (.Tuple elts k tp) (.Call (.Name "zip" p) [e,e2] [] pos) (Ov ea):=⟨by
 have h:=ahg (elts:=elts) (k:=k) (tp:=tp) (p:=p) (pos:=pos) hg hm ha.u hs hs2;rw[G.K] at h;refine h.imp λσ H R hq=>?_;obtain⟨Pr,F,env,env',ds,r,e,q⟩:=hq;obtain⟨as,aJ,e1,e2⟩:=aO e;refine⟨Pr,F,env,aJ,as,r,e1,λvs H1 F1 r1 s1 p1=>?_⟩;split at e2
 ·rename_i xs ys;cases e2;obtain⟨v,w,rfl,p2,v2,w2,rfl,p3,p4⟩:=p1;cases p4;obtain⟨z1,a1,us,rfl,h1,h2⟩:=p2;obtain⟨z2,a2,ws,rfl,h3,h4⟩:=p3;have l1:=h2.length;have l2:=h4.length;refine⟨a1,a2,rfl,⟨us,aY.tupK r1.fr h1⟩,⟨ws,aY.tupK r1.fr h3⟩,q _ H1 F1 r1 s1 λi H2 s2=>⟨λ_ ei=>⟨us,ws,aY.tupK s2 h1,aY.tupK s2 h3,?_⟩,λd hd=>?_⟩⟩
  ·have:(tL xs ys).length=min xs.length ys.length:=by unfold tL;rw[Qqz,Qz9]
   omega
  ·unfold tL at hd;rw[Qw1] at hd;obtain⟨⟨c,j⟩,hc,rfl⟩:=Qww.mp hd;obtain⟨g1,g2⟩:=List.getElem?_zip_eq_some.mp hc;obtain⟨v1,k1,k2⟩:=rN h2 g1;obtain⟨v2,k3,k4⟩:=rN h4 g2;refine⟨⟨us,ws,v1,v2,aY.tupK s2 h1,aY.tupK s2 h3,k1,k3⟩,λy H3 hy=>.inr ?_⟩;obtain⟨p,x',y',m1,m2,m3,rfl,rfl⟩:=hy;have n1:=m1 us<|aY.tupK s2 h1;have n2:=m2 ws<|aY.tupK s2 h3;rw[k1] at n1;rw[k3] at n2;cases n1;cases n2;exact⟨p,_,_,m3,rfl,rfl,rfl,by show 2<=sizeLine;decide,_,_,rfl,k2,_,_,rfl,k4,rfl⟩
 ·cases e2⟩
theorem Lk(o:Cm X C op g)(o':Cm X C op' g')(ha:SX X C x a)(hb:SX X C y b)(hc:SX X C z c)(hm:lastMarks [op,op'] [y,z]=false:=by with_unfolding_all rfl):SX X C (.Compare x [op,op'] [y,z] pos) (sH g g' a b c):=⟨by
 obtain⟨r,h1,h2⟩:=o.ex;obtain⟨r',h1',h2'⟩:=o'.ex;refine(ZX h1 h1' ha.u hb.u hc.u hm).imp λσ H Q hq=>?_;obtain⟨Pr,F,env,env',d,rl,e,q⟩:=hq;obtain⟨u,aJ,e1,e2⟩:=aO e;obtain⟨v,dB,e3,e4⟩:=aO e2;refine⟨Pr,F,env,aJ,u,rl,e1,λvu H1 F1 r1 s1 p1=>⟨Pr,F1,aJ,dB,v,r1,e3,λvv H2 F2 r2 s2 p2=>?_⟩⟩;split at e4
 ·rename_i k hg;refine h2 Pr F2 dB σ H2 u v (.bl k) vu vv _ r2 (.inl<|Rep.mono s2 _ _ p1) (.inl p2) hg λvz H3 F3 r3 s3 p3=>⟨k,p3,?_⟩;cases k with
  | false=>
   rw[if_neg Qwj] at e4 ⊢;cases e4;exact q _ H3 F3 r3 ((s1.trans s2).trans s3) rfl
  | true=>
   rw[if_pos rfl] at e4 ⊢;obtain⟨t,zy,e5,e6⟩:=aO e4;obtain⟨e7,rfl⟩:=dz e6;exact⟨Pr,F3,dB,env',t,r3,e5,λvt H4 F4 r4 s4 p4=>h2' Pr F4 env' σ H4 v t d vv vt Q r4 (.inl<|Rep.mono (s3.trans s4) _ _ p2) (.inl p4) e7 λv' H5 F5 r5 s5 p5=>q v' H5 F5 r5 ((((s1.trans s2).trans s3).trans s4).trans s5) p5⟩
 ·cases e4⟩
theorem Ye(G:Good X C)(hm:X.mg "any" = none)(ha:Ez X C [e] ea)(hg:Gl X "any":=by rfl)(he:Qd e X.env:=by rfl):SX X C (.Call (.Name "any" p) [e] [] pos) (ao R9 ea):=⟨uv (by rw[<-G.K];exact Xo G.calm) ajL hg hm (by rfl) ha.u (by decide) (by decide) he rfl⟩
theorem LQ(o:Cm X C op g)(o':Cm X C op' g')(ha:SX X C x a)(hb:SX X C y b)(hc:SX X C z c)(hm:lastMarks [op,op'] [y,z]=false:=by with_unfolding_all rfl):Vj X C (.Compare x [op,op'] [y,z] pos) (dg (sH g g' a b c)):=⟨by
 obtain⟨r,h1,h2⟩:=o.ex;obtain⟨r',h1',h2'⟩:=o'.ex;refine(Zz h1 h1' ha.u hb.u hc.u hm).imp λσ H Q' hq'=>?_;have hq:=Mg hq';show QJ r r' (tE C a) (tE C b) (tE C c) σ H _;generalize(λ(z:V) H'=>∃b,z = .bl b/\Q' b H')=Q at *;obtain⟨Pr,F,env,env',d,rl,e,q⟩:=hq;obtain⟨u,aJ,e1,e2⟩:=aO e;obtain⟨v,dB,e3,e4⟩:=aO e2;refine⟨Pr,F,env,aJ,u,rl,e1,λvu H1 F1 r1 s1 p1=>⟨Pr,F1,aJ,dB,v,r1,e3,λvv H2 F2 r2 s2 p2=>?_⟩⟩;split at e4
 ·rename_i k hg;refine h2 Pr F2 dB σ H2 u v (.bl k) vu vv _ r2 (.inl<|Rep.mono s2 _ _ p1) (.inl p2) hg λvz H3 F3 r3 s3 p3=>⟨k,p3,?_⟩;cases k with
  | false=>
   rw[if_neg Qwj] at e4 ⊢;cases e4;exact q _ H3 F3 r3 ((s1.trans s2).trans s3) rfl
  | true=>
   rw[if_pos rfl] at e4 ⊢;obtain⟨t,zy,e5,e6⟩:=aO e4;obtain⟨e7,rfl⟩:=dz e6;exact⟨Pr,F3,dB,env',t,r3,e5,λvt H4 F4 r4 s4 p4=>h2' Pr F4 env' σ H4 v t d vv vt Q r4 (.inl<|Rep.mono (s3.trans s4) _ _ p2) (.inl p4) e7 λv' H5 F5 r5 s5 p5=>q v' H5 F5 r5 ((((s1.trans s2).trans s3).trans s4).trans s5) p5⟩
 ·cases e4⟩
theorem agX{px apos cpos:Pos}(i)(G:Good X C)(he:SX X C e a)(hN:X.N[i]? = some n:=by rfl)(hv:Aa X.env.scope n:=by first|exact Or.inl rfl|exact Or.inr (Or.inl rfl)|exact Or.inr (Or.inr rfl))(hs:swapsWith (.Call (.Attribute (.Name n px) "extend" apos) [e] [] cpos) none pos.line X.env=pure false:=by rfl) (hfew:((backTo cpos (starEach [e] X.env)).all (λx=>!x.1)&&(backToKw cpos (keywordEach [] X.env)).all (λx=>x.1.isSome)
   && decide ([e].length+([]:List Keyword).length+(if ([]:List Keyword).isEmpty then 0 else 1)<30))=true:=by rfl) (hbase:attributeBase (.Name n px) "extend" X.env (eval (.Name n px) X.env)=eval (.Name n px) X.env:=by rfl) (hline:(apos.endLine == cpos.line)=true:=by rfl) (hst:Qd e X.env:=by rfl) (hplain:(backTo cpos (starEach [] X.env)).any (·.1)=false:=by rfl) (hd:qi n:=by decide) (hcd:Am n:=by decide):Vk X C (.Expr (.Call (.Attribute (.Name n px) "extend" apos) [e] [] cpos) pos) (Ml i a):=⟨by
 refine PS.imp (T4 (T8 PySem.F.plainAttrs_list PySem.F.slot_list_extend PySem.F.type_list_extend WL (ni hN hv hd hcd) (j8 he.u qG hst) hbase hfew hline hst hplain) hs) λD σ H h=>?_;obtain⟨Pr,F,env,r,f⟩:=h;unfold Ml at f;split at f
 ·rename_i xs0 h0;obtain⟨d,aJ,e1,f1⟩:=gP f;obtain⟨a0,hv0,⟨z0,vs0,g0,_⟩,_⟩:=r.own i _ h0;refine⟨_,hv0,.inl ⟨rfl,vs0,jR.of g0⟩,Pr,F,env,aJ,d,r,e1,λv H1 F1 r1 s1 p1=>?_⟩;split at f1
  ·rename_i xs zs h1;split at f1
   ·rename_i hz;obtain⟨a,g1,⟨z,vs,g2,g3⟩,g4,g5⟩:=r1.own i _ h1;rw[hv0] at g1;cases g1;obtain⟨_,b,ws,rfl,hb,hws⟩:=lq.lst r1.fr<|.inl p1;refine⟨a0,b,vs,ws,rfl,rfl,g2,hb,by rw[g3.length,hws.length];exact hz,?_⟩;exact f1 σ _ F1 (r1.write h1 hv0 ⟨by simp_all,vs++ws,bD,g3.append hws⟩) s1
   ·exact f1.elim
  ·exact f1.elim
 ·exact f.elim⟩
theorem aeb{elts:List Expr}{k:Nat}{tp p:Pos}(G:Good X C)(hm:X.mg "zip" = none)(ha:PN X C [e,e2] ea)(hg:Gl X "zip":=by rfl)(hs:starEach [e,e2] X.env=(false,eval e X.env)::starEach [e2] X.env:=by rfl)(hs2:starEach [e2] X.env=[(false,eval e2 X.env)]:=by rfl):XC X C (.Tuple elts k tp) (.Call (.Name "zip" p) [e,e2] [] pos) (Ss ea):=⟨by
 have h:=adq (elts:=elts) (k:=k) (tp:=tp) (p:=p) (pos:=pos) hg hm ha.u hs hs2;rw[G.K] at h;refine h.imp λσ H R hq=>?_;obtain⟨Pr,F,env,env',ds,r,e,q⟩:=hq;obtain⟨as,aJ,e1,e2⟩:=aO e;refine⟨Pr,F,env,aJ,as,r,e1,λvs H1 F1 r1 s1 p1=>?_⟩;split at e2
 ·rename_i xs ys;cases e2;obtain⟨v,w,rfl,p2,v2,w2,rfl,p3,p4⟩:=p1;cases p4;obtain⟨z1,a1,us,rfl,h1,h2⟩:=p2;obtain⟨z2,a2,ws,rfl,h3,h4⟩:=p3;have l1:=h2.length;have l2:=h4.length;refine⟨a1,a2,rfl,⟨us,jR.of<|r1.fr _ _ h1⟩,⟨ws,aY.tupK r1.fr h3⟩,q _ H1 F1 r1 s1 λi H2 s2=>⟨λ_ ei=>⟨us,ws,jR.of<|s2 _ _ h1,aY.tupK s2 h3,?_⟩,λd hd=>?_⟩⟩
  ·have:(tL xs ys).length=min xs.length ys.length:=by unfold tL;rw[Qqz,Qz9]
   omega
  ·unfold tL at hd;rw[Qw1] at hd;obtain⟨⟨c,j⟩,hc,rfl⟩:=Qww.mp hd;obtain⟨g1,g2⟩:=List.getElem?_zip_eq_some.mp hc;obtain⟨v1,k1,k2⟩:=rN h2 g1;obtain⟨v2,k3,k4⟩:=rN h4 g2;refine⟨⟨us,ws,v1,v2,jR.of<|s2 _ _ h1,aY.tupK s2 h3,k1,k3⟩,λy H3 hy=>.inr ?_⟩;obtain⟨p,x',y',m1,m2,m3,rfl,rfl⟩:=hy;have n1:=m1 us<|jR.of<|s2 _ _ h1;have n2:=m2 ws<|aY.tupK s2 h3;rw[k1] at n1;rw[k3] at n2;cases n1;cases n2;exact⟨p,_,_,m3,rfl,rfl,rfl,by show 2<=sizeLine;decide,_,_,rfl,k2,_,_,rfl,k4,rfl⟩
 ·cases e2⟩
theorem YW{elt tg iter rz dO:Expr}(N'){spos py:Pos}{c:gj}{e:Ev}(lo)(i)(ok:jA X scope N')(G:Good X C)(hi:XC X C tg iter it)(bg:∀X',dI X scope N' X'->SXG X' C lo tg g)(bi:∀X',dI X scope N' X'->XC X' C rz dO wN)(bg2:∀X',dI X scope N' X'->SXG X' C lo rz g2)(bc:∀X',dI X scope N' X'->Xz X' C ifs c)(be:∀X',dI X scope N' X'->SX X' C elt e)(hnd:oY X.N=true:=by rfl)(hfx:C.fx i=none:=by rfl)(hy:X.N[i]? = some n:=by rfl)(hx:Loc X.env.scope n:=by first|exact Or.inl rfl|exact Or.inr rfl)(hsw:swapsWith (.ListComp elt [⟨tg,iter,[],0⟩,⟨rz,dO,ifs,0⟩] scope pos) (some (.Name n py)) spos.line X.env=pure true:=by rfl)(hf:X.fn n=true\/X.env.scope.names.lookup n=some .local:=by first|exact .inl rfl|exact .inr rfl)(hs2:∀X' x,dI X scope N' X'->foldedSetIterable dO X'.env x=pure x:=by intro _ _ _;rfl)(hs:∀x,foldedSetIterable iter X.env x=pure x:=by intro _;rfl):Vk X C (.Assign [.Name n py] (.ListComp elt [⟨tg,iter,[],0⟩,⟨rz,dO,ifs,0⟩] scope pos) spos) (eY i (zY lo N'.length it g wN g2 c e)):=⟨Ev.ak7 N' lo i ok G hi.u (λX1 h1=>(bg X1 h1).u) (λX1 h1=>(bi X1 h1).u) (λX1 h1=>(bg2 X1 h1).u) (λX1 h1=>(bc X1 h1).u) (λX1 h1=>(be X1 h1).u) hnd hfx hy hx hsw hf hs2 hs⟩
theorem TY(ha:SX X C x a):SX X C (.UnaryOp .Not x pos) (Ow a):=⟨(aho ha.u).imp λσ H Q hq=>by
 obtain⟨Pr,F,env,env',k,rl,e,q⟩:=hq;obtain⟨c,aJ,e1,e2⟩:=aO e;refine⟨Pr,F,env,aJ,c,rl,e1,λv H1 F1 r1 s1 p1=>?_⟩;cases c with
 | bl z=>cases e2;exact⟨z,p1,q _ H1 F1 r1 s1 rfl⟩
 | _=>cases e2⟩
noncomputable def abr(xs:List D):List D:=xs.zipIdx.map λp=>.tup [.int (p.2:Nat),p.1]
def aeR(a:dq):dq:=λenv=>bindR (a env) λds aJ=>match ds with
 | [.str x]=>.ok (vC x) aJ
 | [.tup xs]=>.ok (abr xs) aJ
 | _=>.stuck
end
end Ev
namespace L2
open PySem PySem.Spec PyProof.Rows PySem.Builtin
noncomputable def afs(l:Addr)(n:Nat):HO:=.ext λh=>∃t u v,IsRange h l 0 (n:Int) 1 t u v
section
variable{X:Cx}
def TF:List V->Hp->VK->Prop:=λxs H Q=>∃n:Nat,xs=[.int n]/\∀l,H l=none->Q (.ref l) (upd H l (afs l n))
def Y7:List V->Hp->VK->Prop:=λxs H Q=>∃(p:Addr) (n:Nat),xs=[.ref p]/\H p=some (afs p n)/\n<=sizeLine/\∀l,H l=none->Q (.ref l) (upd H l (.lst ((List.range n).map λi=>V.int (i:Nat))))
theorem Pb:kZ X (.type "range") TF:=by
 intro pins s σ H xs us Q I r h;obtain⟨n,rfl,q⟩:=h;obtain⟨u,rfl,⟨t,rfl⟩⟩:=vals1 r;refine call_range_1 ?_;refine⟨.ref s.heap.objs.size,_,I.laid (λb o e=>Qqq _ e) (Qqw _) (o:=afs s.heap.objs.size n) ⟨⟨_,_,_,IsRange.new ..⟩,⟨_,IsRange.new ..⟩,λh1 h2 y kk=>?_⟩,rfl,q _<|I.hok.fresh<|Qqw _⟩
 grind
theorem Hd:∀n k vs,vs.length=n->(∀j v,vs[j]? = some v->∃t,v=Value.int ((k+j:Nat)) t)->Vals ((List.range' k n).map λi=>V.int (i:Nat)) vs
 | 0,k,vs,hl,_=>by rw[Qx8 hl];exact .nil
 | n+1,k,vs,hl,hv=>by
  cases vs with
  | nil=>simp at hl
  | cons v vs=>
   rw[List.range'_succ,Qq4];refine .cons ?_<|Hd n (k+1) vs (by simp_all) λj w hw=>?_
   ·obtain⟨t,rfl⟩:=hv 0 v rfl;exact⟨t,by simp⟩
   ·obtain⟨t,rfl⟩:=hv (j+1) w (by simpa using hw)
    grind
theorem S8(hc:X.calm=true):kZ X (.type "list") Y7:=by
 intro pins s σ H xs us Q I r h;obtain⟨p,n,rfl,hp,hz,q⟩:=h;obtain⟨u,rfl,rx⟩:=vals1 r;cases rx;obtain⟨t,u,v,e⟩:∃t u v,IsRange s.heap p 0 (n:Int) 1 t u v:=(I.hok p _ hp).1;have hzz:n<=2^24:=hz;have hb:(n:Int)<2^62:=by omega
 have hrs:Builtin.Range.rangeSize 0 (n:Int) 1=(n:Int):=by rw[rangeSize_one];split<;>omega
 refine call_list_range (I.ok.hd hc) e (small_one (by decide) (by decide) (by omega) hb) hrs hzz λh' tk acc' c' kp e2 hacc=>?_;refine⟨.ref s.heap.objs.size,_,I.laid kp (Qqw _)<|show iZ X.prog X.w _ h' _ (.lst<|(List.range n).map λi=>V.int (i:Nat)) from⟨?_,acc'.toList,c',?_,by simpa using e2⟩,rfl,q _<|I.hok.fresh<|Qqw _⟩
 ·rw[Qqz,List.length_range];exact hz
 ·obtain⟨hsz,hit⟩:=hacc;rw[List.range_eq_range'];refine Hd n 0 _ (by simpa using hsz) λj v hv=>?_;obtain⟨t,rfl⟩:=hit j v (by simpa using hv);exact⟨t,by congr 1;omega⟩
end
end L2
namespace Ev
open PySem PySem.Spec PyProof.Rows L2 PySem.Builtin
section
variable{X:Cx}{C:Cfg}{pos p p2 pos2:Pos}{e:Expr}{a:Ev}
noncomputable def Ir:D->Option D
 | .int i=>if 0<=i/\i.toNat<=sizeLine then some (.lst ((List.range i.toNat).map λ(k:Nat)=>.int (k:Int))) else none
 | _=>none
theorem GF{K:Fg}:∀l:List Nat,cu K F (l.map λ(k:Nat)=>D.int k) (l.map λi=>V.int (i:Nat))
 | []=>rfl
 | k::l=>⟨_,_,rfl,rfl,GF l⟩
theorem aew(h:n<=sizeLine):Ir (.int n)=some (.lst ((List.range n).map λ(k:Nat)=>.int k)):=by
 show(if _ then _ else _)=_
 simp_all
end
end Ev
namespace L2
open PySem PySem.Spec PyProof.Rows PySem.Builtin ZT
def ags(K:PySem.W.Frag)(a1 a2:Addr):It:=
 ⟨λi H=>∃xs ys x y,jR K H a1 xs/\jR K H a2 ys/\xs[i]? = some x/\ys[i]? = some y,
 λi H v H'=>∃p x y,(∀xs,jR K H a1 xs->xs[i]? = some x)/\(∀ys,jR K H a2 ys->ys[i]? = some y)/\H p=none/\H'=upd H p (.tup [x,y])/\v = .ref p,
 λi H=>∃xs ys,jR K H a1 xs/\jR K H a2 ys/\(i=xs.length\/(i<xs.length/\i=ys.length))⟩
theorem Qn{P:Program}{w:World}{K:PySem.W.Frag}{elts:List Expr}{kk:Nat}{pos:Pos}(z TI TO j1 j2 a1 a2:Addr)(D:Apz z TI TO j1 j2 a1 a2) :
  Turn P w K (.Tuple elts kk pos) (ags K a1 a2) [z,TI,TO,j1,j2] z (λi h=>IsZip h z TI TO .none/\IsPair h TI (.ref j1) (.ref j2)/\(∃a b,IsPair h TO a b)/\h.IsListIter j1 a1 i/\h.IsListIter j2 a2 i) where
 mem:=by simp
 obj:=λi h st b hb=>by
  obtain⟨hz,hTI,⟨a,c,hTO⟩,⟨o1,e1,_,d1⟩,o2,e2,_,d2⟩:=st
  grind
 keep:=λi h h' st k=>by
  obtain⟨hz,hTI,⟨a,c,hTO⟩,⟨o1,e1,r1⟩,o2,e2,r2⟩:=st;exact⟨k z (by simp) _ hz,k TI (by simp) _ hTI,⟨a,c,k TO (by simp) _ hTO⟩,⟨o1,k j1 (by simp) _ e1,r1⟩,o2,k j2 (by simp) _ e2,r2⟩
 item:=by
  intro X hP hw hK hc i pins s σ H E I hf st hg;subst hP hw hK;obtain⟨hz,hTI,⟨a,b,hTO⟩,i1,i2⟩:=st;obtain⟨xs,ys,x,y,hx,hy,gx,gy⟩:=hg;obtain⟨us,ru,pu,zu⟩:=I.list hx;obtain⟨vs,rv,pv,zv⟩:=I.list hy;obtain⟨u,hu,rxu⟩:=ru.get gx;obtain⟨v,hv,ryv⟩:=rv.get gy;have lu:i<us.toArray.size:=by grind
  have lv:i<vs.toArray.size:=by grind
  have D1:Draws X.prog X.w X.A.in1 j1 [j1,a1] _ _ _:=Draws.list (A:=X.A.in1) (show X.A.in1.handled=none from I.ok.hd hc) j1 a1 D.c1 us.toArray;have D2:Draws X.prog X.w X.A.in1 j2 [j2,a2] _ _ _:=Draws.list (A:=X.A.in1) (show X.A.in1.handled=none from I.ok.hd hc) j2 a2 D.c2 vs.toArray;refine oV (A:=X.A) D.ap D1 D2 lu lv hz hTI hTO ⟨i1,pu.isList⟩ ⟨i2,pv.isList⟩ λx' y' g tk px py hz' aa0 s1 s2 hT hsz hk=>?_;have ex:x'=u:=by simp_all
  have ey:y'=v:=by simp_all
  subst ex ey;refine⟨_,rfl,?_⟩;refine wpAny_letOwnedTupleGo_zip (s:={ s with heap:=g,toks:=tk }) hz' λg' hz'' e'=>?_;have lr:∀b o,b≠z->g.get? b=some o->g'.get? b=some o:=λb o hb q=>(e'.2 b hb).trans q;have lts:∀b ∈ [z,TI,TO,j1,j2],b<s.heap.objs.size:=λb hb=>by
   simp only[Qwq,List.not_mem_nil,or_false] at hb;rcases hb with rfl|rfl|rfl|rfl|rfl
   ·exact Qqv hz
   ·exact Qqv hTI
   ·exact Qqv hTO
   ·obtain⟨_,q,_⟩:=i1;exact Qqv q
   ·obtain⟨_,q,_⟩:=i2;exact Qqv q
  have nT:H s.heap.objs.size=none:=I.hok.fresh<|Qqw _;refine⟨.ref s.heap.objs.size,upd H s.heap.objs.size<|.tup [x,y],I.drawn (t':=tk) (ch:=[z,TI,TO,j1,j2]) hf (λb o hb q=>?_) (Qqw _) ?_,rfl,⟨_,x,y,λzs hq=>by rw[I.xF hq hx];exact gx,λzs hq=>by rw[I.xF hq hy];exact gy,nT,rfl,rfl⟩,⟨hz'',?_,⟨_,_,lr TO _ D.t2 aa0⟩,?_,?_⟩,λb hb=>?_⟩
  ·simp_all
  ·exact⟨by show 2<=sizeLine;decide,[x',y'],.cons rxu<|.cons ryv .nil,_,lr _ _ (Qzz<|lts z (by simp)) hT,rfl,⟨_,rfl⟩,rfl⟩
  ·exact lr TI _ D.t1<|hk TI _ D.t1 D.t3 (λq=>D.b5 (by simp[q])) (λq=>D.b6 (by simp[q])) hTI
  ·obtain⟨o,q,r⟩:=s1.1;exact⟨o,lr j1 o (λq=>D.b1 (by simp[q])) q,r⟩
  ·obtain⟨o,q,r⟩:=s2.1;exact⟨o,lr j2 o (λq=>D.b2 (by simp[q])) q,r⟩
  ·rw[cz (Qwv (lts b hb))];exact(hf b hb).1
 done:=by
  intro X hP hw hK hc i pins s σ H E I hf st hg;subst hP hw hK;obtain⟨hz,hTI,⟨a,b,hTO⟩,i1,i2⟩:=st;obtain⟨xs,ys,hx,hy,hi⟩:=hg;obtain⟨us,ru,pu,zu⟩:=I.list hx;obtain⟨vs,rv,pv,zv⟩:=I.list hy;have l1:=ru.length;have l2:=rv.length;have D1:Draws X.prog X.w X.A.in1 j1 [j1,a1] _ _ _:=Draws.list (A:=X.A.in1) (show X.A.in1.handled=none from I.ok.hd hc) j1 a1 D.c1 us.toArray;have D2:Draws X.prog X.w X.A.in1 j2 [j2,a2] _ _ _:=Draws.list (A:=X.A.in1) (show X.A.in1.handled=none from I.ok.hd hc) j2 a2 D.c2 vs.toArray;refine pR (A:=X.A) (k:=i) D.ap D1 D2 (by simp_all) hz hTI hTO ⟨i1,pu.isList⟩ ⟨i2,pv.isList⟩ λg tk hk=>⟨rfl,I.Ay (t':=tk) (ch:=[z,TI,TO,j1,j2]) hf λb o hb e=>?_⟩
  simp_all
 self:=λA i s Q E st h=>wpAny_pyIter_zip st.1 h
end L2
namespace ZT
open PySem PySem.Spec PyProof.Rows L2 PySem.Builtin
noncomputable abbrev aeg(h:Heap)(l1:Addr):Heap:=h.push { cls:=.type "list_iterator",data:=.fields #[.ref l1,.int 0 0] }
abbrev aef(h:Heap)(l1 l2:Addr):Heap:=(aeg h l1).push { cls:=.type "list_iterator",data:=.fields #[.ref l2,.int 0 0] }
abbrev aee(h:Heap)(l1 l2:Addr):Heap:=(aef h l1 l2).push { cls:=.type "tuple",data:=.seq #[.ref h.objs.size,.ref (aeg h l1).objs.size] }
abbrev aed(h:Heap)(l1 l2:Addr):Heap:=(aee h l1 l2).push { cls:=.type "tuple",data:=.seq #[.none,.none] }
abbrev RZ(h:Heap)(l1 l2:Addr):Heap:=(aed h l1 l2).push { cls:=.type "zip",data:=.fields #[.none,.bool false,.bool false,.ref (aef h l1 l2).objs.size,.ref (aee h l1 l2).objs.size] }
theorem ah1(l1 l2)(xs ys):Meets (Builtin.«zip.__new__» ⟨[.type "zip",.ref l1,.ref l2],[]⟩) (λ_ R s=>s.heap.IsList l1 xs/\s.heap.IsList l2 ys/\
   R (.ok (.ret (.ref (aed s.heap l1 l2).objs.size))) { s with heap:=RZ s.heap l1 l2 }):=
 .of_wp λprog w A R s h=>by
  obtain⟨hp,g,d,tk,os⟩:=s;obtain⟨hl1,hl2,h⟩:=h;have hsub:=sub_zip;have hL1:=hl1;have hL2:Heap.IsList (Shared.heap ⟨hp.push { cls:=.type "list_iterator",data:=.fields #[.ref l1,.int 0 0] },g,d,tk,os⟩) l2 ys:=Heap.IsList.push hl2 _
  wp_walk using Qjy hL1,Qjy hL2
  exact⟨_,rfl,h⟩
section
variable{prog:Program}{w:World}{A:Around}{E:Value->Shared->Prop}{s:Shared}
theorem abB(hl1:s.heap.IsList l1 xs)(hl2:s.heap.IsList l2 ys)
  (h:∀g,IsZip g (s.heap.objs.size+4) (s.heap.objs.size+2) (s.heap.objs.size+3) .none->IsPair g (s.heap.objs.size+2) (.ref s.heap.objs.size) (.ref (s.heap.objs.size+1))->
   IsPair g (s.heap.objs.size+3) .none .none->g.IsListIter s.heap.objs.size l1 0->g.IsListIter (s.heap.objs.size+1) l2 0->g.objs.size=s.heap.objs.size+5->
   (∀c o,s.heap.get? c=some o->g.get? c=some o)->Q (.ref (s.heap.objs.size+4)) { s with heap:=g }) :
  wpAny (model prog w) A (call (.type "zip") [.ref l1,.ref l2]) Q E s:=by
 refine callType_new F.called_zip (by decide) (F.typeCall_zip_2 _ _) (F.newCall_zip_2 _ _) (λobj=>F.args_object_init_3 obj _ _) F.entry_zip_new (ah1 l1 l2 xs ys) ⟨hl1,hl2,?_⟩;have z1:(aeg s.heap l1).objs.size=s.heap.objs.size+1:=Qx6 ..;have z2:(aef s.heap l1 l2).objs.size=s.heap.objs.size+2:=by simp_all
 have z3:(aee s.heap l1 l2).objs.size=s.heap.objs.size+3:=by simp_all
 have z4:(aed s.heap l1 l2).objs.size=s.heap.objs.size+4:=by simp_all
 have z5:(RZ s.heap l1 l2).objs.size=s.heap.objs.size+5:=by simp_all
 have g5:(RZ s.heap l1 l2).get? (aed s.heap l1 l2).objs.size=some _:=Qq2 _ rfl;have g4:(RZ s.heap l1 l2).get? (aee s.heap l1 l2).objs.size=some _:=Qqq _<|Qq2 _ rfl;have g3:(RZ s.heap l1 l2).get? (aef s.heap l1 l2).objs.size=some _:=Qqq _<|Qqq _<|Qq2 _ rfl;have g2:(RZ s.heap l1 l2).get? (aeg s.heap l1).objs.size=some _:=Qqq _<|Qqq _<|Qqq _<|Qq2 _ rfl;have g1:(RZ s.heap l1 l2).get? s.heap.objs.size=some _:=Qqq _<|Qqq _<|Qqq _<|Qqq _<|Qq2 _ rfl;show _/\_;rw[z2,z3,z4] at g5;rw[z1,z2] at g3;rw[z3] at g4;rw[z1] at g2;rw[z4];exact⟨⟨_,g5,rfl⟩,h _ g5 g3 g4 ⟨_,g1,rfl,rfl⟩ ⟨_,g2,rfl,rfl⟩ z5 λc o x=>Qqq _<|Qqq _<|Qqq _<|Qqq _<|Qqq _ x⟩
end
end ZT
namespace L2
open PySem PySem.Spec PyProof.Rows PySem.Builtin ZT
section
variable{X:Cx}
def ai7(K:PySem.W.Frag)(ta:TA):TI:=λσ H R=>ta σ H λvs H1=>∃a1 a2,vs=[.ref a1,.ref a2]/\(∃xs,jR K H1 a1 xs)/\(∃ys,jR K H1 a2 ys)/\R (ags K a1 a2) H1
theorem We{elts:List Expr}{k:Nat}{tp:Pos}{p pos:Pos}(hg:Gl X "zip")(hm:X.mg "zip" = none)(ha:PA X [a,b] ta)(hs:starEach [a,b] X.env=(false,eval a X.env)::starEach [b] X.env:=by rfl)(hs2:starEach [b] X.env=[(false,eval b X.env)]:=by rfl):PI X (.Tuple elts k tp) (.Call (.Name "zip" p) [a,b] [] pos) (ai7 X.K ta):=by
 intro pins s σ H R I h;refine Call_<|rQ I hg hm PyProof.Rows.boot_zip<|Qxv (fG (ha pos pins s σ H _ I h) λus s1 ⟨vs,H1,I1,r1,q1⟩=>?_) hs (by rw[hs2];rfl);obtain⟨a1,a2,e,⟨xs,hx⟩,⟨ys,hy⟩,q⟩:=q1;subst e;cases r1 with
 | cons r rr=>
  cases rr with
  | cons r' rr'=>
   cases rr';cases r;cases r';obtain⟨u1,ru1,p1,z1⟩:=I1.list hx;obtain⟨u2,ru2,p2,z2⟩:=I1.list hy;have lt1:a1<s1.heap.objs.size:=by obtain⟨_,e,_⟩:=p1.isList;exact Qqv e
   have Ui:a2<s1.heap.objs.size:=by obtain⟨_,e,_⟩:=p2.isList;exact Qqv e
   refine abB p1.isList p2.isList λg hz hTI hTO i1 i2 hsz hk=>?_;refine wpAny_pyIter_zip hz ?_;have I2:Inv X pins σ H1 { s1 with heap:=g }:=I1.kept (t':=s1.toks) hk;have own:∀b,s1.heap.objs.size<=b->pG X pins H1 b:=λb hb=>I1.Sg hb (I1.hok.fresh hb);generalize hn:s1.heap.objs.size=n at *;have ne:∀{c d:Nat},c<d->(c:Addr)≠d:=λh e=>Qx3 _ (by subst e;exact h);have ne':∀{c d},d<c->(c:Addr)≠d:=λh e=>Qx3 _ (by subst e;exact h);have D:Apz (n+4) (n+2) (n+3) n (n+1) a1 a2:={
    t1:=ne (by omega),t2:=ne (by omega),t3:=ne (by omega),t4:=ne (by omega)
    b1:=by grind
    b2:=by grind
    b3:=by grind
    b4:=by grind
    b5:=by grind
    b6:=by grind
    b7:=by grind
    b8:=by simp_all
    c1:=ne lt1,c2:=ne (Qwy Ui (by omega)) }
   refine⟨n+4,[n+4,n+2,n+3,n,n+1],_,_,H1,rfl,I2,Qn _ _ _ _ _ a1 a2 D,⟨hz,hTI,⟨_,_,hTO⟩,i1,i2⟩,λb hb=>own b ?_,q⟩
   grind
end
end L2
namespace Ev
open PySem PySem.Spec PyProof.Rows L2 PySem.Builtin
section
variable{X:Cx}{C:Cfg}{pos:Pos}{e e2:Expr}{p p2 pos2:Pos}{a:Ev}
def KY(a:dq):dq:=λenv=>bindR (a env) λds aJ=>match ds with
 | [.lst x,.lst y]=>.ok (tL x y) aJ
 | _=>.stuck
theorem adL(G:Good X C)(h1:X.mg "list" = none)(h2:X.mg "range" = none)(ha:SX X C e a)(g1:Gl X "list":=by rfl)(g2:Gl X "range":=by rfl)(he:Qd e X.env:=by rfl)(he2:starEach [.Call (.Name "range" p2) [e] [] pos2] X.env=(false,eval (.Call (.Name "range" p2) [e] [] pos2) X.env)::starEach [] X.env:=by rfl):SXN X C (.Call (.Name "list" p) [.Call (.Name "range" p2) [e] [] pos2] [] pos) (gh Ir a):=⟨by
 have i1:PE X (.Call (.Name "range" p2) [e] [] pos2) _:=yZ L2.Pb g2 h2 (by rfl) (j8 ha.u qG he) (by decide) (by decide) he rfl;have i2:PE X (.Call (.Name "list" p) [.Call (.Name "range" p2) [e] [] pos2] [] pos) _:=yZ (L2.S8 G.calm) g1 h1 (by rfl) (j8 i1 qG he2) (by decide) (by decide) he2 rfl;refine i2.imp λσ H Q hq=>?_;obtain⟨Pr,F,env,env',d,r,e0,q⟩:=hq;obtain⟨x,aJ,e1,e2⟩:=aO e0;obtain⟨e3,rfl⟩:=dz e2;refine⟨Pr,F,env,env',x,r,e1,λv H1 F1 r1 s1 p1=>?_⟩;cases x with
 | int i=>
  unfold Ir at e3;simp only at e3;split at e3
  ·rename_i hi;cases e3;obtain⟨n,rfl⟩:∃n:Nat,i=(n:Int):=⟨i.toNat,by omega⟩;rw[Qzy] at hi q;cases p1;show TF [.int n] H1 λx H2=>Y7 [x] H2 Q;refine⟨n,rfl,λl hl=>?_⟩;have r2:=r1.fresh (o:=afs l n) hl;refine⟨l,n,rfl,bD,hi.2,λl2 hl2=>?_⟩;exact q l2 _ F1 (r2.fresh hl2) s1<|New.of r2 hl2 ⟨by simp_all,_,bD,GF _⟩
  ·cases e3
 | _=>cases e3⟩
theorem aaX{elts:List Expr}{k:Nat}{tp p:Pos}(G:Good X C)(hm:X.mg "zip" = none)(ha:PN X C [e,e2] ea)(hg:Gl X "zip":=by rfl)(hs:starEach [e,e2] X.env=(false,eval e X.env)::starEach [e2] X.env:=by rfl)(hs2:starEach [e2] X.env=[(false,eval e2 X.env)]:=by rfl):XC X C (.Tuple elts k tp) (.Call (.Name "zip" p) [e,e2] [] pos) (KY ea):=⟨by
 have h:=We (elts:=elts) (k:=k) (tp:=tp) (p:=p) (pos:=pos) hg hm ha.u hs hs2;rw[G.K] at h;refine h.imp λσ H R hq=>?_;obtain⟨Pr,F,env,env',ds,r,e,q⟩:=hq;obtain⟨as,aJ,e1,e2⟩:=aO e;refine⟨Pr,F,env,aJ,as,r,e1,λvs H1 F1 r1 s1 p1=>?_⟩;split at e2
 ·rename_i xs ys;cases e2;obtain⟨v,w,rfl,p2,v2,w2,rfl,p3,p4⟩:=p1;cases p4;obtain⟨z1,a1,us,rfl,h1,h2⟩:=p2;obtain⟨z2,a2,ws,rfl,h3,h4⟩:=p3;have l1:=h2.length;have l2:=h4.length;refine⟨a1,a2,rfl,⟨us,jR.of<|r1.fr _ _ h1⟩,⟨ws,jR.of<|r1.fr _ _ h3⟩,q _ H1 F1 r1 s1 λi H2 s2=>⟨λ_ ei=>⟨us,ws,jR.of<|s2 _ _ h1,jR.of<|s2 _ _ h3,?_⟩,λd hd=>?_⟩⟩
  ·have:(tL xs ys).length=min xs.length ys.length:=by unfold tL;rw[Qqz,Qz9]
   omega
  ·unfold tL at hd;rw[Qw1] at hd;obtain⟨⟨c,j⟩,hc,rfl⟩:=Qww.mp hd;obtain⟨g1,g2⟩:=List.getElem?_zip_eq_some.mp hc;obtain⟨v1,k1,k2⟩:=rN h2 g1;obtain⟨v2,k3,k4⟩:=rN h4 g2;refine⟨⟨us,ws,v1,v2,jR.of<|s2 _ _ h1,jR.of<|s2 _ _ h3,k1,k3⟩,λy H3 hy=>.inr ?_⟩;obtain⟨p,x',y',m1,m2,m3,rfl,rfl⟩:=hy;have n1:=m1 us<|jR.of<|s2 _ _ h1;have n2:=m2 ws<|jR.of<|s2 _ _ h3;rw[k1] at n1;rw[k3] at n2;cases n1;cases n2;exact⟨p,_,_,m3,rfl,rfl,rfl,by show 2<=sizeLine;decide,_,_,rfl,k2,_,_,rfl,k4,rfl⟩
 ·cases e2⟩
end
open PySem L2
section
variable{α β:Type}{g g2:GV}{wN:dq}{c:gj}{e:Ev}(enc:α->D)(ea:α->Env)(l2:α->List β)(Ge:α->β->D)(eb:α->β->Env)(p:α->β->Bool)(out:α->β->D)(env:Env)(m k:Nat)
theorem al6(a)(hc:∀b∈l2 a,(eb a b).length=k/\(∀v,v.length=k->g2 (Ge a b) (env++(ea a++v))=some (env++(ea a++eb a b)))/\c (env++(ea a++eb a b)) = .ok (p a b) (env++(ea a++eb a b))/\(p a b=true->e (env++(ea a++eb a b)) = .ok (out a b) (env++(ea a++eb a b))))(v)(hv:v.length=k) :
  ∃v',v'.length=k/\vp g2 c e ((l2 a).map (Ge a)) (env++(ea a++v)) = .ok (((l2 a).filter (p a)).map (out a)) (env++(ea a++v')):=by
 have:=aas (g:=g2) (c:=c) (e:=e) (Ge a) (eb a) (p a) (out a) (env++ea a) k (l2 a) v hv (λb hb=>by
  simp_all)
 simp_all
theorem aat:∀(l:List α),(∀a∈l,(ea a).length=m/\(∀u v,u.length=m->v.length=k->g (enc a) (env++(u++v))=some (env++(ea a++v)))/\(∀v,v.length=k->wN (env++(ea a++v)) = .ok ((l2 a).map (Ge a)) (env++(ea a++v)))/\
   ∀b∈l2 a,(eb a b).length=k/\(∀v,v.length=k->g2 (Ge a b) (env++(ea a++v))=some (env++(ea a++eb a b)))/\c (env++(ea a++eb a b)) = .ok (p a b) (env++(ea a++eb a b))/\(p a b=true->e (env++(ea a++eb a b)) = .ok (out a b) (env++(ea a++eb a b))))->
  ∀u v,u.length=m->v.length=k->∃u' v',u'.length=m/\v'.length=k/\RN g wN g2 c e (l.map enc) (env++(u++v)) = .ok (l.flatMap λa=>((l2 a).filter (p a)).map (out a)) (env++(u'++v'))
 | [],_,u,v,hu,hv=>⟨u,v,hu,hv,rfl⟩
 | a::l,h,u,v,hu,hv=>by
  obtain⟨h1,h2,h3,h4⟩:=h a Qq5;obtain⟨v1,hv1,e1⟩:=al6 ea l2 Ge eb p out env k a h4 v hv;obtain⟨u',v',hu',hv',e2⟩:=aat l (λa ha=>h a<|Qq0 _ ha) (ea a) v1 h1 hv1;refine⟨u',v',hu',hv',?_⟩;rw[Qq4];unfold RN;rw[h2 u v hu hv];show bindR (wN<|env++(ea a++v)) _=_;rw[h3 v hv,bR,e1,bR,e2,bR,List.flatMap_cons]
end
theorem UW{α β:Type}{lo n:Nat}(m k)(l:List α)(enc)(ea:α->Env)(l2:α->List β)(Ge:α->β->D)(eb:α->β->Env)(p:α->β->Bool)(out:α->β->D)
  (hit:it env = .ok (l.map enc) aJ) (hlo:aJ.length=lo) (hn:n=lo+(m+k))
  (h:∀a∈l,(ea a).length=m/\(∀u v:Env,u.length=m->v.length=k->g (enc a) (aJ++(u++v))=some (aJ++(ea a++v)))/\(∀v:Env,v.length=k->wN (aJ++(ea a++v)) = .ok ((l2 a).map (Ge a)) (aJ++(ea a++v)))/\
   ∀b∈l2 a,(eb a b).length=k/\(∀v:Env,v.length=k->g2 (Ge a b) (aJ++(ea a++v))=some (aJ++(ea a++eb a b)))/\c (aJ++(ea a++eb a b)) = .ok (p a b) (aJ++(ea a++eb a b))/\(p a b=true->e (aJ++(ea a++eb a b)) = .ok (out a b) (aJ++(ea a++eb a b))))
  (hz:(l.flatMap λa=>((l2 a).filter (p a)).map (out a)).length<=sizeLine):zY lo n it g wN g2 c e env = .ok (.lst (l.flatMap λa=>((l2 a).filter (p a)).map (out a))) aJ:=by
 obtain⟨u',v',hu',hv',e1⟩:=aat enc ea l2 Ge eb p out aJ m k l h (List.replicate m none) (List.replicate k none) Qxz Qxz;have er:List.replicate m (none:Option (Bool×D))++List.replicate k none=List.replicate (n - lo) none:=by simp_all
 rw[er] at e1;unfold zY;rw[hit];show(if aJ.length=lo then _ else _)=_;rw[if_pos hlo,e1,bR,if_pos hz,<-hlo,List.take_left]
theorem N6(i:Nat):∀r:List Nat,Dr (.int i) (r.map λ(k:Nat)=>D.int k)=some (decide (i∈r))
 | []=>rfl
 | k::r=>by
  rw[Qq4];unfold Dr;rw[N6 i r];show some ((k == (i:Int))||decide (i∈r))=_
  congr 1
  grind
theorem uE(i:Nat)(r:List Nat):rW (.int i) (.tup (r.map λ(k:Nat)=>D.int k))=some (.bl (!decide (i∈r))):=by
 unfold rW Bg;show(Option.map (λb=>D.bl<|!b)<|Dr (.int i)<|r.map λ(k:Nat)=>D.int k).or _=_;rw[N6]
 rfl
noncomputable def bA(r:List Nat):D:=.tup (r.map λ(k:Nat)=>D.int (k:Int))
def amt(ds:List D)(e:Env):R (List D):=match ds with
 | [.str x]=>.ok (vC x) e
 | [.tup xs]=>.ok (abr xs) e
 | _=>.stuck
theorem aiJ(xs)(e):amt [.tup xs] e = .ok (abr xs) e:=nr rfl
theorem Xe(a)(env):aeR a env=bindR (a env) amt:=nr rfl
def ama(ds:List D)(e:Env):R (List D):=match ds with
 | [.lst x,.lst y]=>.ok (tL x y) e
 | _=>.stuck
theorem aie(x y)(e):ama [.lst x,.lst y] e = .ok (tL x y) e:=nr rfl
theorem Xb(a)(env):KY a env=bindR (a env) ama:=nr rfl
theorem ajm:tO (.int 1)=some (.int (-1)):=nr rfl
end Ev
namespace ST
open PySem PyProof.Rows
section
variable{prog:Program}{w:World}{A:Around}{E:Value->Shared->Prop}{s:Shared}{kd:SortKind}{r:Keyed->Nat}{a₀:Array Keyed}
def Cmp(prog:Program)(w:World)(A:Around)(E:Value->Shared->Prop)(s:Shared)(kd:SortKind)(r:Keyed->Nat)(a₀:Array Keyed):Prop:=
 ∀x y,x∈a₀->y∈a₀->∀(st:SortSt) (Q:Option Bool->SortSt->Prop),kindOf st=kd->Q (some (decide (r x<r y))) st->wpS (model prog w) A E s (lt' x y) Q st
noncomputable def bB(left:Bool)(r:Keyed->Nat)(key x:Keyed):Bool:=if left then decide (r x<r key) else !decide (r key<r x)
section
variable{left:Bool}{key:Keyed}{arr:Array Keyed}{base n:Nat}{st:SortSt}(C:Cmp prog w A E s kd r a₀)(hk:kindOf st=kd)(hkey:key∈a₀)(apk:∀x∈arr,x∈a₀)(hb:base+n<=arr.size)
 (B:Nat->Bool) (hB:∀i (h:base+i<arr.size),i<n->bB left r key arr[base+i]=B i) (hm:∀i j,i<=j->j<n->B j=true->B i=true)
include C hk hkey apk hb hB hm
end
end
section
variable{le:Keyed->Keyed->Prop}
structure J(le:Keyed->Keyed->Prop)(X Y out:List Keyed)(i j:Nat):Prop where
 hi:i<=X.length
 hj:j<=Y.length
 perm:out.Perm (X.take i++Y.take j)
 srt:out.Pairwise le
 low:∀x∈out,∀y∈X.drop i++Y.drop j,le x y
def Good(le:Keyed->Keyed->Prop)(X Y R:List Keyed):Prop:=R.Perm (X++Y)/\R.Pairwise le
end
section
variable{prog:Program}{w:World}{A:Around}{E:Value->Shared->Prop}{s:Shared}{kd:SortKind}{r:Keyed->Nat}{a₀:Array Keyed}
abbrev XQ(r:Keyed->Nat):Keyed->Keyed->Prop:=λx y=>r x<=r y
section
variable{a b:Array Keyed}{st:SortSt}(C:Cmp prog w A E s kd r a₀)(hk:kindOf st=kd)(ma:∀x∈a,x∈a₀)(mb:∀x∈b,x∈a₀)(hX:a.toList.Pairwise (XQ r))(hY:b.toList.Pairwise (XQ r))
 (hl:∀y∈b.toList,∀h:a.size - 1<a.toList.length,XQ r y a.toList[a.size - 1])
structure JS(r:Keyed->Nat)(a b o:Array Keyed)(i j:Nat):Prop where
 on:J (XQ r) a.toList b.toList o.toList i j
 hi:i+1<a.size
 hj:j<b.size
abbrev GD(r:Keyed->Nat)(a b R:Array Keyed):Prop:=Good (XQ r) a.toList b.toList R.toList
include hX in
include hX in
include hY hl in
include hY in
def P1(r:Keyed->Nat)(a b:Array Keyed)(n:Nat)(c:Option (Array Keyed))(o:Array Keyed)(i j:Nat):Prop:=match c with
 | some R=>GD r a b R
 | none=>JS r a b o i j/\n<=i+j
include C hk ma mb hX hY hl
end
end
section
variable{prog:Program}{w:World}{A:Around}{E:Value->Shared->Prop}{s:Shared}{kd:SortKind}{r:Keyed->Nat}{a₀:Array Keyed}
variable{a b:Array Keyed}{st:SortSt}(C:Cmp prog w A E s kd r a₀)(hk:kindOf st=kd)(ma:∀x∈a,x∈a₀)(mb:∀x∈b,x∈a₀)(hX:a.toList.Pairwise (XQ r))(hY:b.toList.Pairwise (XQ r))
 (hl:∀y∈b.toList,∀h:a.size - 1<a.toList.length,XQ r y a.toList[a.size - 1])
include C hk ma mb hX hY hl
end
abbrev H1:=Option (Array Keyed)×Nat×Nat×Array Keyed×Nat×Nat
abbrev H2:=Option (Array Keyed)×Nat×Nat×Array Keyed×Nat×Nat×Nat
abbrev H0:=Option (Array Keyed)×Nat×Nat×Array Keyed×Nat
abbrev geR(r:Keyed->Nat):Keyed->Keyed->Prop:=λx y=>r y<=r x
section
variable{prog:Program}{w:World}{A:Around}{E:Value->Shared->Prop}{s:Shared}{kd:SortKind}{r:Keyed->Nat}{a₀:Array Keyed}
variable{a b:Array Keyed}{st:SortSt}(C:Cmp prog w A E s kd r a₀)(hk:kindOf st=kd)(ma:∀x∈a,x∈a₀)(mb:∀x∈b,x∈a₀)(hX:a.toList.Pairwise (XQ r))(hY:b.toList.Pairwise (XQ r))
 (hl:∀y∈a.toList,∀h:0<b.toList.length,r b.toList[0]<=r y)
abbrev JH(r:Keyed->Nat)(a b o:Array Keyed)(m n:Nat):Prop:=J (geR r) a.toList.reverse b.toList.reverse o.toList (a.size - m) (b.size - n)
structure KS(r:Keyed->Nat)(a b o:Array Keyed)(m n:Nat):Prop where
 on:JH r a b o m n
 m0:0<m
 ml:m<=a.size
 n1:1<n
 nl:n<=b.size
include hX hY in
include hX hl in
include hX in
def P2(r:Keyed->Nat)(a b:Array Keyed)(k:Nat)(c:Option (Array Keyed))(m n:Nat)(o:Array Keyed):Prop:=match c with
 | some R=>GD r a b R
 | none=>KS r a b o m n/\m+n<=k
include C hk ma mb hX hY hl
end
section
variable{prog:Program}{w:World}{A:Around}{E:Value->Shared->Prop}{s:Shared}{kd:SortKind}{r:Keyed->Nat}{a₀:Array Keyed}
variable{a b:Array Keyed}{st:SortSt}(C:Cmp prog w A E s kd r a₀)(hk:kindOf st=kd)(ma:∀x∈a,x∈a₀)(mb:∀x∈b,x∈a₀)(hX:a.toList.Pairwise (XQ r))(hY:b.toList.Pairwise (XQ r))
 (hl:∀y∈a.toList,∀h:0<b.toList.length,r b.toList[0]<=r y)
include C hk ma mb hX hY hl
end
section
variable{prog:Program}{w:World}{A:Around}{E:Value->Shared->Prop}{s:Shared}{kd:SortKind}{r:Keyed->Nat}{a₀:Array Keyed}
structure Bs(kd:SortKind)(a₀:Array Keyed)(st:SortSt):Prop where
 perm:(arrOf st).Perm a₀
 fail:failedOf st=none
 kind:kindOf st=kd
abbrev A1:=Option (Option Nat)×Nat
noncomputable def part(l:List Keyed)(b n:Nat):List Keyed:=(l.drop b).take n
end
end ST
namespace Ev
open PySem PySem.Spec PySem.W PySem.Calls PyProof.Rows L2
def FA(K:Fg)(x:Str)(st:Stmt):Prop:=∃(f:Addr) (oc kV doc pm cdv ct:Value) (od an:Option Addr) (osl:Array (Option Value)),PySem.W.nsIn K mainGlobals x=some (some (.ref f))/\
 K.lookup f=some ⟨oc,od,.func (PySem.W.fnOf x x (lH st) (gK st) (aK st) .none kV doc pm an cdv ct),osl⟩/\PySem.W.codeIn K cdv x=true/\PySem.W.keepIn K (.ref f)=true
theorem FA.mk{K:Fg}{st:Stmt}{oc kV doc pm cdv ct:Value}{od an:Option Addr}(a:PySem.W.nsIn K mainGlobals x=some (some (.ref f)))
  (l:K.lookup f=some ⟨oc,od,.func (PySem.W.fnOf x x (lH st) (gK st) (aK st) .none kV doc pm an cdv ct),osl⟩) (c:PySem.W.codeIn K cdv x=true) (k:PySem.W.keepIn K (.ref f)=true):FA K x st:=
 ⟨f,oc,kV,doc,pm,cdv,ct,od,an,osl,a,l,c,k⟩
theorem FA.at{K:Fg}{st:Stmt}(X:K.In h)(G:h.Ns mainGlobals mg)(F:FA K x st)
  (b:∀{kV doc pm} {an} {cdv ct} us,us.length=ps.length->bindArgs (PySem.W.fnOf x x (lH st) (gK st) (aK st) .none kV doc pm an cdv ct) ⟨us,[]⟩=pure (ps.zip us)):bW K mg x st ps:=by
 obtain⟨f,oc,kV,doc,pm,cdv,ct,od,an,osl,a,l,c,k⟩:=F;exact funAt X G a l c k<|λ_ _ _ _ _ _ us hl=>b us hl
abbrev BdX(x:Str)(st:Stmt)(us:List Value)(r:List (Str×Value)):Prop:=∀{kV doc pm:Value} {an:Option Addr} {cdv ct:Value},bindArgs (PySem.W.fnOf x x (lH st) (gK st) (aK st) .none kV doc pm an cdv ct) ⟨us,[]⟩=pure r
theorem FA.a1{K:Fg}{st:Stmt}(X:K.In h)(G:h.Ns mainGlobals mg)(F:FA K x st)(b:∀u,BdX x st [u] [(p,u)]:=by exact λ_=>rfl):bW K mg x st [p]:=F.at X G fun|[u],_=>b u
theorem FA.a2{K:Fg}{st:Stmt}(X:K.In h)(G:h.Ns mainGlobals mg)(F:FA K x st)(b:∀u v,BdX x st [u,v] [(p,u),(q,v)]:=by exact λ_ _=>rfl):bW K mg x st [p,q]:=F.at X G fun|[u,v],_=>b u v
theorem FA.a3{K:Fg}{st:Stmt}(X:K.In h)(G:h.Ns mainGlobals mg)(F:FA K x st)(b:∀u v w,BdX x st [u,v,w] [(p,u),(q,v),(r,w)]:=by exact λ_ _ _=>rfl):bW K mg x st [p,q,r]:=F.at X G fun|[u,v,w],_=>b u v w
theorem FA.a4{K:Fg}{st:Stmt}(X:K.In h)(G:h.Ns mainGlobals mg)(F:FA K x st)(b:∀u v w y,BdX x st [u,v,w,y] [(p,u),(q,v),(r,w),(t,y)]:=by exact λ_ _ _ _=>rfl):bW K mg x st [p,q,r,t]:=F.at X G fun|[u,v,w,y],_=>b u v w y
theorem FA.law{K:Fg}{st:Stmt}(X:K.In h)(G:h.Ns mainGlobals mg)(hfa:mg x=some (.ref fa))(F:FA K x st)
  (b:∀{kV doc pm} {an} {cdv ct} s v,BindsTo s (PySem.W.fnOf x x (lH st) (gK st) (aK st) .none kV doc pm an cdv ct) ⟨[v],[]⟩ [(y,v)])
  (q:∀{fd} base,Fun K x x st fa fd->qd P w K mg base Jk k fa fd [y] (jQ K 1 g)) :
  ∃fd,(∀s v,BindsTo s fd ⟨[v],[]⟩ [(y,v)])/\∀base,K.In base->base.Ns mainGlobals mg->qd P w K mg base Jk k fa fd [y] (jQ K 1 g):=by
 obtain⟨f,oc,kV,doc,pm,cdv,ct,od,an,osl,a,l,c,k⟩:=F;have e:=hfa.symm.trans<|Qj2 X G a;cases e;exact⟨_,b,λbase _ _=>q base<|Sd l c k⟩
end Ev
namespace SI
open PySem PySem.Spec PyProof.Rows L2 PySem.Builtin
def Ris(xs:Array Nat):Prop:=∀i j,i<j->j<xs.size->xs.getD i 0<xs.getD j 0
structure Pl(t:SetTable):Prop where
 dm:t.dummies = #[]
 ri:Ris t.place
open SX (led)
structure TOk(P:Program)(w:World)(es:Array (Int×Value))(t:SetTable)(ys:List Int):Prop where
 el:ElemsOf (intKind P w) es.toList
 tx:∃ss:List Int,IntsAre (es.toList.map (·.2)) ss/\ss.Perm ys
 fit:t.fits es.size=true
 ld:t.led=led w
 pl:Pl t
def Lh(P:Program)(w:World)(h:Heap)(a:Addr)(ys:List Int):Prop:=
 ∃o es ep t,h.get? a=some o/\o.ExactSet/\o.data = .set es ep t/\TOk P w es t ys
open PySem PySem.Spec PyProof.Rows L2 PySem.Builtin Ev
noncomputable def akf(P:Program)(w:World)(a:Addr)(ys:List Int):HO:=.ext λh=>Lh P w h a ys
end SI
namespace Ev
open PySem PySem.Spec PyProof.Rows L2 PySem.Builtin
instance (zs:List Int):Decidable (zs.Pairwise (·< ·)):=inferInstance
end Ev
namespace SJ
open PySem PySem.Spec PyProof.Rows L2 PySem.Builtin
open SX (led)
structure TOk(P:Program)(w:World)(es:Array (Int×Value))(t:SetTable)(ys:List Int):Prop where
 el:ElemsOf (intKind P w) es.toList
 tx:∃ss:List Int,IntsAre (es.toList.map (·.2)) ss/\ss.Perm ys
 fit:t.fits es.size=true
def Lh(P:Program)(w:World)(h:Heap)(a:Addr)(ys:List Int):Prop:=
 ∃o es ep t,h.get? a=some o/\o.ExactSet/\o.data = .set es ep t/\TOk P w es t ys
noncomputable def akf(P:Program)(w:World)(a:Addr)(ys:List Int):HO:=.ext λh=>Lh P w h a ys
end SJ
namespace Ev
open PySem PySem.Spec PySem.W PySem.Calls PyProof.Rows L2
noncomputable def W8(n:Str):D:=.clo (.Global [n] ⟨0,0,0,0⟩) []
theorem FA.val{K:Fg}{st:Stmt}(X:K.In h)(G:h.Ns mainGlobals mg)(F:FA K x st):Qa K mg x (W8 x):=by obtain⟨f,oc,kV,doc,pm,cdv,ct,od,an,osl,a,l,c,k⟩:=F;exact⟨.ref f,.ref f,Qj2 X G a,rfl,λF=>⟨f,[],rfl,.inr<|.inl ⟨x,_,_,_,_,_,rfl,a,l⟩,rfl⟩⟩
theorem Qa.fn{K:Fg}(h:Qa K mg x (W8 x))(r:Rep K F (W8 x) (.ref a)):mg x=some (.ref a):=by
 obtain⟨v,u,h1,h2,h3⟩:=h;obtain⟨a1,vs1,rfl,c1,_⟩:=h3 F;obtain⟨a2,vs2,e2,c2,_⟩:=r;cases e2;have mk:∀{b} {vs},Clo K F (.Global [x] ⟨0,0,0,0⟩) b vs->PySem.W.nsIn K mainGlobals x=some (some<|.ref b):=λ{b vs} c=>by
  rcases c with ⟨_,c⟩|⟨n,p,_,_,_,_,e,c,_⟩|⟨_,_,_,_,_,_,_,e,_⟩
  ·cases c
  all_goals simp_all
 have e:=(mk c1).symm.trans<|mk c2;cases e;cases h2;exact h1
open PySem PySem.Spec PyProof.Rows L2
noncomputable def ai3:D->Bool
 | .lst _=>true
 | .dct _=>true
 | .Bl _=>true
 | _=>false
def FX(R:D->Hp->Prop)(C:Cfg)(Pr F:Hp):Out->Prop
 | .rt true d env'=>ai3 d=false/\∀σ' H' F',Rel C Pr F' env' σ' H'->aY F F'->R d H'
 | _=>True
def tX(R:D->Hp->Prop)(C:Cfg)(ev:bV):TS:=λD σ H=>∃(Pr F:Hp) (env:Env),Rel C Pr F env σ H/\Fin C Pr F D (ev env)/\FX R C Pr F (ev env)
def PR(R:D->Hp->Prop)(X:Cx)(C:Cfg)(st:Stmt)(ev:bV):Prop:=PS X st (tX R C ev)
noncomputable def pU(b:Bool):List Bool->Option Nat
 | []=>none
 | c::r=>if c=b then some 0 else (pU b r).map (·+ 1)
theorem GP:∀{bs} {j},pU b bs=some j->∃hj:j<bs.length,bs[j]=b/\∀m (hm:m<bs.length),m<j->bs[m]≠b
 | [],_,h=>by cases h
 | c::r,j,h=>by
  unfold pU at h;split at h
  ·grind
  ·rename_i z;obtain⟨k,h1,rfl⟩:=Qww.mp h;obtain⟨hk,h2,h3⟩:=GP h1
   grind
section
variable{X:Cx}{C:Cfg}{o e:Expr}{a b:Ev}{apos cpos p pos:Pos}{ea:dq}
def ac0(K:Fg):V->List V->Hp->VK->Prop:=λx vs H Q=>∃a bs b j,x = .ref a/\vs=[.bl b]/\jR K H a (bs.map V.bl)/\pU b bs=some j/\Q (.int (j:Nat)) H
theorem Kr:MtM X "list.index" (ac0 X.K):=by
 intro pins s σ H x vs v us Q I rx rv h;obtain⟨a,bs,b,j,rfl,rfl,hq,hp,q⟩:=h;cases rx;obtain⟨u,rfl,ru⟩:=rv.one;cases ru;obtain⟨its,r,ht,hz⟩:=I.list hq;have e:=wQ r;subst e;obtain⟨hj,h1,h2⟩:=GP hp
 let e:Value->Bool:=λy=>match y with|.bool y=>y == b|_=>false
 obtain⟨o,ho,hc,n,hd⟩:=ht.isList;obtain⟨cls,dd,data,sl⟩:=o;simp at hc hd;subst hc hd;have hjs:j<(bs.map Value.bool).toArray.size:=by simp_all
 have at':∀m (hm:m<bs.length) (hm':m<(bs.map Value.bool).toArray.size),(bs.map Value.bool).toArray[m] = .bool bs[m]:=λm hm hm'=>by simp
 refine call_meets F.slot_list_index ⟨_,ho,rfl⟩ F.entry_list_index (F.args_list_index_2 _ _) (SeqAt.list_indexAt a (bs.map Value.bool).toArray n dd sl (.bool b) e j hjs ?_ ?_ ?_) ⟨ho,λy hy=>?_,?_⟩
 ·have:bs.length<=sizeLine:=by simp_all
  rw[sizeLine_eq] at this;omega
 ·grind
 ·grind
 ·obtain⟨m,hm,rfl⟩:=Array.mem_iff_getElem.mp hy;have hm':m<bs.length:=by grind
  rw[at' m hm' hm];exact PySem.SeqAt.EqAt.bool_bool _ _
 ·exact⟨.int j,H,I.tok _,⟨_,rfl⟩,q⟩
def pY:D->D->Option D
 | .lst ds,.bl b=>(mZ ds).bind λbs=>(pU b bs).map λj=>.int (j:Nat)
 | _,_=>none
theorem Br(G:Good X C)(ho:SX X C o a)(he:Vl X C e b)(hbase:attributeBase o "index" X.env (eval o X.env)=eval o X.env:=by rfl)
  (hs:Qd e X.env:=by rfl)
  (hfew:((backTo cpos (starEach [e] X.env)).all (λx=>!x.1)&&(backToKw cpos (keywordEach [] X.env)).all (λx=>x.1.isSome)
   && decide ([e].length+([]:List Keyword).length+(if ([]:List Keyword).isEmpty then 0 else 1)<30))=true:=by rfl)
  (hline:(apos.endLine == cpos.line)=true:=by rfl) (hplain:(backTo cpos (starEach [] X.env)).any (·.1)=false:=by rfl) :
  SX X C (.Call (.Attribute o "index" apos) [e] [] cpos) (aL pY a b):=⟨by
 have h:=T8 PySem.F.plainAttrs_list PySem.F.slot_list_index PySem.F.type_list_index Kr ho.u (j8 he.u qG hs) hbase hfew hline hs hplain;rw[G.K] at h;refine h.imp λσ H Q hq=>?_;obtain⟨Pr,F,env,env',d,r,e0,q⟩:=hq;obtain⟨x,aJ,e1,e2⟩:=aO e0;obtain⟨y,dB,e3,e4⟩:=aO e2;obtain⟨e5,rfl⟩:=dz e4;unfold pY at e5;split at e5
 ·rename_i ds z;obtain⟨zs,h1,h2⟩:=Qxy.mp e5;obtain⟨j,h3,rfl⟩:=Qww.mp h2;refine⟨Pr,F,env,aJ,_,r,e1,λvx H1 F1 r1 s1 p1=>?_⟩;obtain⟨hz,p,vs,rfl,h4,h5⟩:=p1;refine⟨.inl ⟨rfl,vs,jR.of<|r1.fr _ _ h4⟩,Pr,F1,aJ,env',_,r1,e3,λvy H2 F2 r2 s2 p2=>?_⟩;have hvy:vy = .bl z:=by
   rcases p2 with p2|⟨_,_,p2⟩
   ·exact p2
   ·exact p2.elim
  subst hvy;have e6:=xu h1 h5;subst e6;exact⟨p,zs,z,j,rfl,rfl,jR.of<|r2.fr _ _<|s2 _ _ h4,h3,q _ H2 F2 r2 (s1.trans s2) rfl⟩
 ·cases e5⟩
end
open PySem PySem.Spec PyProof.Rows L2 PySem.Builtin
theorem Mi:∀{ds} {zs},jM ds=some zs->ds=zs.map .str
 | [],zs,h=>by cases h;rfl
 | d::ds,zs,h=>by
  unfold jM at h;cases d<;>try (cases h)
  rename_i x;cases e:jM ds with
  | none=>simp_all
  | some r=>have:=Mi e;simp_all;subst h;rfl
def Eb:D->Option D
 | .lst ds=>(jM ds).bind λzs=>if zs.length<64 then some (.int (SX.sW zs).length) else none
 | _=>none
theorem ak6{lo n:Nat}{H Pr F:Hp}(r:Rel C Pr F env σ H)
  (ev:dH lo n it g c e env = .ok (.lst (zs.map .str)) env') (hzs:zs.length<64)
  (q:∀d H' F',Rel C Pr F' env' σ H'->aY F F'->H' d=some (SetT P w d ((SX.sW zs).map strOf))->Q (.ref d) H'):tSC P w n (tI C it) (tG C lo g) (tT C c) (tE C e) σ H Q:=by
 obtain⟨ds,aJ,e1,e2⟩:=aO ev;split at e2
 ·rename_i hlo;obtain⟨ys,dB,e3,e4⟩:=aO e2;split at e4
  ·rename_i hz;cases e4;refine⟨Pr,F,env,aJ,ds,r,e1,λJ H1 F1 r1 s1 y1 a ha=>?_⟩;have hσ:=r1.len.symm.trans hlo;have hPa:=r1.pr.free ha;refine⟨λi m σ' H'=>m=ds.length - i/\i<=ds.length/\∃F' lC acc rest,Rel C (upd Pr a<|SetT P w a<|(SX.sW acc).map strOf) F' lC σ' H'/\aY F1 F'/\σ'.take lo=σ/\vp g c e (ds.drop i) lC = .ok rest dB/\acc.map .str++rest=zs.map .str,
    ⟨ds.length,rfl,Qxw _,F1,aJ++List.replicate (n - lo) none,[],zs.map .str,?_,aY.refl _,?_,e3,rfl⟩,?_⟩
   ·rw[hσ];exact(r1.aside ha).pad _
   ·unfold qW
    simp_all
   rintro i m σ' H' ⟨rfl,hi,F',lC,acc,rest,r',s',t',l',hacc⟩;have hFa:F' a=none:=by
    cases ez:F' a with
    | none=>rfl
    | some w=>have:=r'.dj a w ez;rw[bD] at this;cases this
   by_cases hl:i<ds.length
   ·have hd:=Qqy hl;have hdr:=Qx0 hl;have yy:=y1 i H'<|s'.trans r'.fr;refine .inr ⟨(yy.2 _ hd).1,λσ2 H2=>∃F' lC acc rest,Rel C (upd Pr a<|SetT P w a<|(SX.sW acc).map strOf) F' lC σ2 H2/\aY F1 F'/\σ2.take lo=σ/\vp g c e (ds.drop<|i+1) lC = .ok rest dB/\acc.map .str++rest=zs.map .str,
     λσ2 H2 h2=>⟨ds.length - (i+1),by omega,rfl,hl,h2⟩,λx H2 hy=>?_⟩
    obtain⟨F2,r2,s2,p2⟩:=p8.item r' s' y1 hd hy;rw[hdr] at l';unfold vp at l';cases eg:g ds[i] lC with
    | none=>simp_all
    | some e5=>
     rw[eg] at l';obtain⟨b,e6,c1,l2⟩:=aO l';refine⟨_,F2,lC,e5,ds[i],r2,p2,eg,λσ3 H3 F3 r3 s3 t3=>⟨_,F3,e5,e6,b,r3,c1,λH4 F4 r4 s4=>?_⟩⟩;have t3':σ3.take lo=σ:=t3.trans t';have s24:aY F' F4:=(s2.trans s3).trans s4;cases b with
     | false=>
      show if false=true then _ else _
      rw[if_neg Qwj];rw[if_neg Qwj] at l2;exact⟨F4,e6,acc,rest,r4,s'.trans s24,t3',l2,hacc⟩
     | true=>
      show if true=true then _ else _
      rw[if_pos rfl];rw[if_pos rfl] at l2;obtain⟨y,e7,c2,l3⟩:=aO l2;obtain⟨ys2,e8,c3,l4⟩:=aO l3;cases l4;refine⟨_,F4,e6,e7,y,r4,c2,λv H5 F5 r5 s5 p5=>?_⟩;have hsp:∃z rs,zs=acc++z::rs/\y = .str z/\ys2=rs.map .str:=by
       have h1:=Qx7 (List.drop acc.length) hacc;rw[<-List.map_drop,List.drop_append_of_le_length (by simp),List.drop_of_length_le (by simp),List.nil_append] at h1;have h2:=Qx7 (List.take acc.length) hacc;rw[<-List.map_take,List.take_append_of_le_length (by simp),List.take_of_length_le (by simp)] at h2;have h3:acc=zs.take acc.length:=by
        have inj:∀(p q:List (List Nat)),p.map D.str=q.map D.str->p=q:=λp q h=>by
         have:=Qx7 (List.map<|λd=>match d with|D.str z=>z|_=>[]) h
         simpa[Function.comp_def] using this
        exact inj _ _ h2
       cases h4:zs.drop acc.length with
       | nil=>rw[h4] at h1;cases h1
       | cons z rs=>
        rw[h4,Qq4] at h1;obtain⟨h5,h6⟩:=List.cons.inj h1;refine⟨z,rs,?_,h5,h6⟩;rw[<-h4]
        conv=>rhs;rw[h3]
        rw[Qw4];have:min acc.length zs.length=acc.length:=by have:=Qx7 List.length h3;rw[Qw4] at this;omega
        rw[this,List.take_append_drop]
      obtain⟨z,rs,hzz,rfl,rfl⟩:=hsp;have hv:v = .str (strOf z):=p5.1;subst hv;have hul:=SX.Gv acc;have hlz:=Qx7 List.length hzz;rw[Qq1,Qq3] at hlz;refine⟨(SX.sW acc).map strOf,strOf z,rfl,r5.pr _ _ bD,by rw[Qqz];omega,F5,e7,acc++[z],rs.map .str,?_,s'.trans<|s24.trans s5,t3',c3,by rw[hzz];simp⟩;have r6:=r5.turn (u:=SetT P w a<|Tg ((SX.sW acc).map strOf)<|strOf z) bD;rw[Jq] at r6;have eu:(SX.sW<|acc++[z]).map strOf=Tg ((SX.sW acc).map strOf) (strOf z):=by unfold SX.sW;rw[List.foldl_append];exact SX.PJ _ _
      rw[eu];exact r6
   ·have ei:i=ds.length:=by omega
    subst ei;rw[List.drop_length] at l';cases l';rw[Qx5] at hacc;have:acc=zs:=by
     have:=Qx7 (List.map<|λd=>match d with|D.str z=>z|_=>[]) hacc
     simpa[Function.comp_def] using this
    subst this;refine .inl ⟨(y1 _ H'<|s'.trans r'.fr).1 (Qjz<|Qqw _) rfl,?_⟩;have sP:aY Pr (upd Pr a<|SetT P w a<|(SX.sW acc).map strOf):=mz hPa;have r7:Rel C Pr F' (dB.take lo) σ H':=by
     have:=(r'.less sP).cut (by simp_all) r1.fix
     simp_all
    exact q a H' F' r7 (s1.trans s')<|r'.pr _ _ bD
  ·cases e4
 ·cases e2
def afG(X:Cx):List V->Hp->VK->Prop:=λxs H Q=>∃(p:Addr) (zs:List Str),xs=[.ref p]/\H p=some (SetT X.prog X.w p zs)/\zs.length<64/\Q (.int zs.length) H
theorem Xm:kZ X (.builtin "len") (afG X):=by intro pins s σ H xs us Q I r h;obtain⟨p,zs,rfl,hq,hz,q⟩:=h;obtain⟨u,rfl,rx⟩:=vals1 r;cases rx;obtain⟨o,es,ep,t,e1,e2,e3,_,_,_,e4,e5⟩:s.heap.SetOf (cI X.prog X.w) p (inS zs) zs.length:=(I.hok p _ hq).1;refine call_len_set e1 e2 e3 e4 (by omega) ⟨.int zs.length,H,I.tok _,⟨s.toks+1,by rw[e5]⟩,q⟩
section
variable{X:Cx}{C:Cfg}{pos pos2 p:Pos}
theorem acp{elt tg iter:Expr}(N')(lo)(ok:jA X scope N')(G:Good X C)(h1:X.mg "len" = none)(hi:X5 X C tg iter it)
  (bg:∀X',dI X scope N' X'->X6 X' C lo tg g) (bc:∀X',dI X scope N' X'->PQ X' C ifs c) (be:∀X',dI X scope N' X'->PX X' C elt e)
  (g1:Gl X "len":=by rfl) (hs:∀x,foldedSetIterable iter X.env x=pure x:=by intro _;rfl)
  (he:starEach [.SetComp elt [⟨tg,iter,ifs,0⟩] scope pos2] X.env=(false,eval (.SetComp elt [⟨tg,iter,ifs,0⟩] scope pos2) X.env)::starEach [] X.env:=by rfl) :
  PX X C (.Call (.Name "len" p) [.SetComp elt [⟨tg,iter,ifs,0⟩] scope pos2] [] pos) (gh Eb (dH lo N'.length it g c e)):=by
 have i1:PE X (.SetComp elt [⟨tg,iter,ifs,0⟩] scope pos2) _:=alE ok G.calm hi bg bc be hs;have i2:PE X (.Call (.Name "len" p) [.SetComp elt [⟨tg,iter,ifs,0⟩] scope pos2] [] pos) _:=Cw Xm g1 h1 (by rfl) (j8 i1 qG he) (by decide) (by decide) he rfl;refine i2.imp λσ H Q hq=>?_;obtain⟨Pr,F,env,env',d,r,e0,q⟩:=hq;obtain⟨x,aJ,e1,e2⟩:=aO e0;obtain⟨e3,rfl⟩:=dz e2;unfold Eb at e3;split at e3
 ·obtain⟨zs,e4,e5⟩:=Qxy.mp e3;split at e5
  ·rename_i hz;cases e5;obtain rfl:=Mi e4;show tSC X.prog X.w N'.length (tI C it) (tG C lo g) (tT C c) (tE C e) σ H λv H1=>afG X [v] H1 Q;refine ak6 r e1 hz λd H' F' r' s' hd=>⟨d,_,rfl,hd,?_,?_⟩
   ·have:=SX.Gv zs;rw[Qqz];omega
   ·rw[Qqz];exact q _ _ _ r' s' rfl
  ·cases e5
 ·cases e3
end
variable{X:Cx}{C:Cfg}{pos pos2 p:Pos}
theorem Yd{elt tg iter:Expr}(N')(lo)(ok:jA X scope N')(G:Good X C)(h1:X.mg "len" = none)(hi:XC X C tg iter it)
  (bg:∀X',dI X scope N' X'->SXG X' C lo tg g) (bc:∀X',dI X scope N' X'->Xz X' C ifs c) (be:∀X',dI X scope N' X'->SX X' C elt e)
  (g1:Gl X "len":=by rfl) (hs:∀x,foldedSetIterable iter X.env x=pure x:=by intro _;rfl)
  (he:starEach [.SetComp elt [⟨tg,iter,ifs,0⟩] scope pos2] X.env=(false,eval (.SetComp elt [⟨tg,iter,ifs,0⟩] scope pos2) X.env)::starEach [] X.env:=by rfl) :
  SX X C (.Call (.Name "len" p) [.SetComp elt [⟨tg,iter,ifs,0⟩] scope pos2] [] pos) (gh Eb (dH lo N'.length it g c e)):=
 ⟨Ev.acp N' lo ok G h1 hi.u (λX1 h1=>(bg X1 h1).u) (λX1 h1=>(bc X1 h1).u) (λX1 h1=>(be X1 h1).u) g1 hs he⟩
open PySem PySem.Spec PySem.W PyProof.Rows L2
abbrev Gp:=List (List Nat×Option D)
def abP(P:Params)(K:Fg):Gp->List DictEntry->Prop
 | [],es=>es=[]
 | (x,od)::r,es=>∃(t:Tok) (v:Value) (rest:List DictEntry),es=⟨PyData.keyHash P (strOf x),.str (strOf x) t,v⟩::rest/\(∀d,od=some d->∃u,RelV u v/\∀F,Rep K F d u)/\abP P K r rest
def Tbl(P:Params)(K:Fg)(mg:Str->Option Value)(x:Str)(t:Gp):Prop:=∃(a:Addr) (es:Array DictEntry) (n:Nat),
 mg x=some (.ref a)/\(a == sysModules)=false/\K.lookup a=some ⟨.type "dict",none,.dict es n, #[]⟩/\abP P K t es.toList/\(t.map (·.1)).Nodup
theorem Bx{K:Fg}:∀{t} {es},abP w.params K t es->
  ∃kvs,(∀e∈es,∃k,(cI P w).is k e.key=true/\e.hash=(cI P w).hash k)/\Pairs (cI P w) es kvs/\kvs.map (·.1)=t.map (λr=>Sum.inr (strOf r.1))/\
   (∀x,(valueAt kvs (Sum.inr (strOf x))).isSome=t.any (λr=>r.1 == x))/\
   ∀x d,t.find? (λr=>r.1 == x)=some (x,some d)->∃v u,valueAt kvs (Sum.inr (strOf x))=some v/\RelV u v/\∀F,Rep K F d u
 | [],es,h=>by
  cases h;exact⟨[],by simp,.nil,rfl,λx=>rfl,λx d h=>by cases h⟩
 | (y,od)::r,es,⟨t,v,rest,e,hv,h⟩=>by
  subst e;obtain⟨kvs,h1,h2,h3,h4,h5⟩:=Bx h;have hk:(cI P w).is (Sum.inr<|strOf y) (.str (strOf y) t)=true:=xG<|show RelV (.str<|strOf y) _ from⟨t,rfl⟩;refine⟨(Sum.inr<|strOf y,v)::kvs,?_,.cons hk rfl h2,by rw[Qq4,h3];rfl,λx=>?_,λx d h=>?_⟩
  ·intro e he;rcases Qwq.mp he with rfl|he
   ·exact⟨_,hk,rfl⟩
   ·exact h1 e he
  ·unfold valueAt at h4 ⊢;by_cases hx:y=x
   ·subst hx;simp
   ·have:=λz=>hx<|SX.m7 z
    simp_all
  ·unfold valueAt at h5 ⊢;by_cases hx:y=x
   ·subst hx;simp at h;obtain⟨u,h6,h7⟩:=hv d h;exact⟨v,u,by simp,h6,h7⟩
   ·have hne:¬strOf y=strOf x:=λz=>hx<|SX.m7 z;rw[List.find?_cons_of_neg (by simp[hx])] at h;obtain⟨v',u,h6,h7,h8⟩:=h5 x d h;refine⟨v',u,?_,h7,h8⟩;rw[List.find?_cons_of_neg (by simp[hne])];exact h6
theorem wW{K:Fg}(T:Tbl w.params K mg x t)(X:K.In h) :
  ∃a kvs,mg x=some (.ref a)/\(a == sysModules)=false/\h.DictOf (cI P w) a kvs/\
   (∀x,(valueAt kvs (Sum.inr (strOf x))).isSome=t.any (λr=>r.1 == x))/\
   ∀x d,t.find? (λr=>r.1 == x)=some (x,some d)->∃v u,valueAt kvs (Sum.inr (strOf x))=some v/\RelV u v/\∀F,Rep K F d u:=by
 obtain⟨a,es,n,h1,h2,h3,h4,h5⟩:=T;obtain⟨kvs,k1,k2,k3,k4,k5⟩:=Bx h4;refine⟨a,kvs,h1,h2,⟨_,es,n,X _ _ h3,⟨rfl,rfl,rfl⟩,rfl,λe he=>k1 e (by simpa using he),k2,?_⟩,k4,k5⟩;rw[k3];have:(t.map λr=>(Sum.inr (strOf r.1):Key))=(t.map (·.1)).map (λx=>Sum.inr<|strOf x):=by simp
 rw[this];exact h5.map (λx=>(Sum.inr (strOf x))) λp q hpq z=>hpq<|SX.m7<|Sum.inr.inj z
noncomputable def uD(t:Gp):D->Option D
 | .str x=>some (.bl (!t.any λr=>r.1 == x))
 | _=>none
noncomputable def zq(t:Gp):D->Option D
 | .str x=>(match t.find? (λr=>r.1 == x) with
  | some (_,od)=>od
  | none=>none)
 | _=>none
section
variable{X:Cx}{C:Cfg}{pos p:Pos}{e:Expr}{a:Ev}{n:Str}{t:Gp}
theorem Rq(T:Tbl X.w.params X.K X.mg n t)(ha:PX X C e a)(hg:Gl X n)(hd:(n == "__debug__" )=false):PC X .NotIn e (.Name n p) (tE C (gh (uD t) a)):=by
 intro pins s σ H Q I hq;obtain⟨Pr,F,env,env',d,r,e0,q⟩:=hq;obtain⟨y,aJ,e1,e2⟩:=aO e0;obtain⟨e3,rfl⟩:=dz e2;unfold uD at e3;split at e3
 ·rename_i x;cases e3;obtain⟨a0,kvs,h1,h2,_,_,_⟩:=wW (P:=X.prog) T I.WR;refine fG (ha pins s σ H (λv H1=>v = .str (strOf x)/\Q (.bl<|!t.any λr=>r.1 == x) H1) I ⟨Pr,F,env,_,.str x,r,e1,λv H1 F1 r1 s1 p1=>⟨p1.1,q _ _ _ r1 s1 rfl⟩⟩) λu s1 ⟨v,H1,I1,rv,hv,q1⟩=>?_;subst hv;refine fG (J8 (v:=.ref a0) hg h1 rfl hd pins s1 σ H1 (λv H'=>v = .ref a0/\H'=H1) I1 ⟨rfl,rfl⟩) λu2 s2 ⟨v2,H2,I2,rv2,hv2,hH2⟩=>?_;subst hv2 hH2;obtain rfl:u2=Value.ref a0:=rv2;obtain⟨a1,aoX,g1,g2,g3,g4,g5⟩:=wW T I2.WR;rw[h1] at g1;cases g1;refine wpAny_notIn_of (xG (k:=.inr<|strOf x) rv) g2 g3.mapOf ?_;rw[g4];exact⟨.bl<|!t.any λr=>r.1 == x,H2,I2.tok _,rfl,q1⟩
 ·cases e3
theorem Qs(T:Tbl X.w.params X.K X.mg n t)(ha:SX X C e a)(hg:Gl X n:=by rfl)(hm:behindInMarks .NotIn (.Name n p)=false:=by rfl)(hd:qi n:=by decide):Vj X C (.Compare e [.NotIn] [.Name n p] pos) (dg (gh (uD t) a)):=⟨(ahd (Rq T ha.u hg hd) hm).imp λσ H Q h=>Mg h⟩
theorem Lj(T:Tbl X.w.params X.K X.mg n t)(G:Good X C)(ha:SX X C e a)(hg:Gl X n:=by rfl)(hs:abU e:=by intro _ _;rfl)(hd:qi n:=by decide):SX X C (.Subscript (.Name n p) e pos) (gh (zq t) a):=⟨by
 intro pins s σ H Q I hq;obtain⟨Pr,F,env,env',d,r,e0,q⟩:=hq;obtain⟨y,aJ,e1,e2⟩:=aO e0;obtain⟨e3,rfl⟩:=dz e2;unfold zq at e3;split at e3
 ·rename_i x;split at e3
  ·rename_i x' od hf;subst e3;have hx:x'=x:=by simpa using List.find?_some hf
   subst hx;obtain⟨a0,kvs,h1,h2,_,_,_⟩:=wW (P:=X.prog) T I.WR;refine Tt PySem.F.slot_dict_getitem.lookup hs<|fG (J8 (v:=.ref a0) hg h1 rfl hd pins s σ H (λv H'=>v = .ref a0/\H'=H) I ⟨rfl,rfl⟩) λu2 s2 ⟨v2,H2,I2,rv2,hv2,hH2⟩=>?_;subst hv2 hH2;obtain rfl:u2=Value.ref a0:=rv2;refine fG (ha.u pins s2 σ H2 (λv H1=>v = .str (strOf x')/\∃F1,Rel C Pr F1 env' σ H1/\aY F F1) I2 ⟨Pr,F,env,_,.str x',r,e1,λv H1 F1 r1 s1 p1=>⟨p1.1,F1,r1,s1⟩⟩) λu s1 ⟨v,H1,I1,rv,hv,F1,r1,sF⟩=>?_;subst hv;obtain⟨a1,aoX,g1,g2,g3,g4,g5⟩:=wW T I1.WR;rw[h1] at g1;cases g1;obtain⟨w1,u1,k1,k2,k3⟩:=g5 _ _ hf;refine⟨g3.typeIs,wpAny_getItem_of (xG (k:=.inr<|strOf x') rv) g3.mapOf k1 ⟨u1,H1,I1.tok _,k2,?_⟩⟩;exact q _ _ _ r1 sF (by rw[<-G.K];exact k3 _)
  ·cases e3
 ·cases e3⟩
end
end Ev
namespace L2
open PySem PySem.Spec PyProof.Rows
theorem adw{k i:Nat}{p pos:Pos}
  (hN:X.N[i]? = some x) (hv:Aa X.env.scope x) (F:qd X.prog X.w X.K X.mg X.base CX k f fd ps sp) (hr:lF k X.A) (hk:PySem.W.keepIn X.K (.ref f)=true) (hb:Binds X.K fd ps ds) (hd:Vals dvs ds) (hx:Passes CX X E)
  (ha:PA X (e::es) t) (hdb:qi x:=by decide) (hcd:Am x:=by decide) (he:starEach (e::es) X.env=(false,eval e X.env)::starEach es X.env:=by rfl) (hpl:(backTo pos (starEach es X.env)).any (·.1)=false:=by rfl) :
  PE X (.Call (.Name x p) (e::es) [] pos) (λσ H Q=>σ[i]? = some (some (.ref f))/\afD sp dvs E t σ H Q):=by
 intro pins s σ H Q I h;obtain⟨hσ,h⟩:=h;refine wpAny_Call_Name_kw<|Qw3 (ni hN hv hdb hcd pins s σ H (λv H'=>v = .ref f/\H'=H) I ⟨_,hσ,rfl,rfl⟩) (λu s1 hu=>?_) λ_ _ z=>z;obtain⟨v',H',I1,rv,rfl,rfl⟩:=hu;obtain rfl:u=Value.ref f:=rv;exact PySem.W.callWith_K I1.ok.mod.Um hk (fG (ha pos pins s1 σ H' _ I1 h) λus s2 ⟨vs,H1,I2,r,q⟩=>⟨I2.WR,YZ F hr hb hd hx I2 r q⟩) he hpl
end L2
namespace Ev
open PySem PySem.Spec PySem.W PySem.Calls PyProof.Rows L2
def Ox(n:Str)(g:List D->Option D)(i:Nat)(a:dq):Ev:=λenv=>match env[i]? with
 | some (some (false,.clo (.Global [n'] ⟨0,0,0,0⟩) []))=>if n'=n then bindR (a env) λds aJ=>fc (g ds) aJ else .stuck
 | _=>.stuck
section
variable{X:Cx}{C:Cfg}{pos p:Pos}{e:Expr}{es:List Expr}{a:Ev}{ea:dq}{x n:Str}
theorem agw(i)(O:Own X.prog X.w X.K X.mg X.base n k ps (jQ X.K m g))
  (L:Qa X.K X.mg n (W8 n)) (G:Good X C) (hr:lF k' X.A) (hk:Nat.ble k k'=true) (ha:PN X C (e::es) ea) (hn:∀env ds env',ea env = .ok ds env'->ds.length=m)
  (hN:X.N[i]? = some x:=by rfl) (hv:Aa X.env.scope x:=by first|exact Or.inl rfl|exact Or.inr (Or.inl rfl)|exact Or.inr (Or.inr rfl)) (hdb:qi x:=by decide) (hcd:Am x:=by decide) (he:starEach (e::es) X.env=(false,eval e X.env)::starEach es X.env:=by rfl) (hpl:(backTo pos (starEach es X.env)).any (·.1)=false:=by rfl) :
  SX X C (.Call (.Name x p) (e::es) [] pos) (Ox n g i ea):=⟨by
 intro pins s σ H Q I h;obtain⟨Pr,F,env,env',d,r,ev,q⟩:=h;unfold Ox at ev;split at ev
 ·rename_i n' h0;split at ev
  ·rename_i en;subst en;obtain⟨ds,aJ,e1,e2⟩:=aO ev;obtain⟨e3,rfl⟩:=dz e2;obtain⟨v,hσ,a0,vs0,rfl,hclo,amN⟩:=r.val i _ h0;have rep0:Rep X.K F (W8 n') (.ref a0):=by rw[G.K];exact⟨a0,vs0,rfl,hclo,amN⟩
   obtain⟨f,fd,h1,h2,h3,h4⟩:=O;have e5:=h2.symm.trans<|L.fn rep0;cases e5;have h1':qd X.prog X.w X.K X.mg X.base Jk k a0 fd ps (jQ C.K m g):=by rw[<-G.K];exact h1
   refine adw hN hv h1' (hr.mono<|Qz4 hk) h3 h4 .nil T9 ha.u hdb hcd he hpl pins s σ H Q I ⟨hσ,Pr,F,env,_,ds,r,e1,λvs H1 F1 r1 s1 p1=>?_⟩;show jQ C.K m g (vs++[]) H1 Q E0;rw[Qx5];exact⟨F1,ds,d,hn _ _ _ e1,r1.fr,p1,e3,λv H2 F2 t1 t2 t3 t4 p2=>q v H2 F2 (r1.after t1 t2 t3 t4) (s1.trans t3) p2⟩
  ·cases ev
 ·cases ev⟩
end
variable{K:Fg}
theorem FA.valAt{st:Stmt}(F:FA K x st)(a':PySem.W.nsIn K mainGlobals x=some (some v)):∃u,RelV u v/\∀F,Rep K F (W8 x) u:=by obtain⟨f,oc,kV,doc,pm,cdv,ct,od,an,osl,a,l,c,k⟩:=F;rw[a] at a';cases a';exact⟨.ref f,rfl,λF=>⟨f,[],rfl,.inr<|.inl ⟨x,_,_,_,_,_,rfl,a,l⟩,rfl⟩⟩
theorem Ys{zs:List (List Nat)}(hl:K.lookup b=some ⟨.type "tuple",none,.seq its n,sl⟩)
  (h:its.toList=(zs.zip ts).map λp=>Value.str (strOf p.1) p.2) (ht:ts.length=zs.length) (hz:zs.length<=100/\∀z∈zs,z.length<=100):∃u,RelV u (.ref b)/\∀F,Rep K F (.tup (zs.map .str)) u:=by
 have hs:100<=sizeLine:=by decide
 have hsz:its.size=zs.length:=by rw[<-Qz8,h,Qqz,Qz9,ht,Nat.min_self]
 have hv:∀(zs:List (List Nat)) ts,ts.length=zs.length->Vals (zs.map λz=>V.str<|strOf z) ((zs.zip ts).map λp=>Value.str (strOf p.1) p.2):=λzs=>by
  induction zs with
  | nil=>intro ts _;exact .nil
  | cons z zs ih=>
   intro ts hl;cases ts with
   | nil=>cases hl
   | cons t ts=>exact .cons ⟨t,rfl⟩<|ih ts (by simpa using hl)
 have hr:∀F (zs:List (List Nat)),(∀z∈zs,z.length<=sizeLine)->cu K F (zs.map .str) (zs.map λz=>V.str<|strOf z):=λF zs=>by
  induction zs with
  | nil=>intro _;exact rfl
  | cons z zs ih=>intro hz;exact⟨_,_,rfl,⟨rfl,hz z Qq5⟩,ih λy hy=>hz y<|Qq0 _ hy⟩
 exact⟨.ref b,rfl,λF=>⟨by rw[Qqz];omega,b,_,rfl,.inr ⟨_,its,n,hl,rfl,rfl,rfl,by omega,by rw[h];exact hv zs ts ht⟩,hr F zs λz hz'=>Qqj (hz.2 z hz') hs⟩⟩
open PySem
theorem arW(h1:env[i]? = some (some (false,x)))(h2:b env = .ok y e2)(h4:e2[i]? = some (some (false,x)))(h3:g x y=some d):az g i b env = .ok d e2:=bN h1 h2 h4 h3
theorem arV(h1:env[i]? = some (some (true,x)))(h2:b env = .ok y e2)(h4:e2[i]? = some (some (true,x)))(h3:g x y=some d):az g i b env = .ok d e2:=bN h1 h2 h4 h3
theorem ap6(h0:env[i]? = some (some (true,.lst xs)))(h1:a env = .ok d e)(h2:e[i]? = some (some (true,.lst xs)))(hz:xs.length<sizeLine):kY i a env = .nx (e.set i (some (true,.lst (xs++[d])))):=by unfold kY;rw[h0];simp[h1,gr,h2,if_pos hz]
theorem af7(h0:env[i]? = some (some (true,x)))(h1:a env = .ok ds e1)(h2:e1[i]? = some (some (true,x)))(h3:f (x::ds)=some (d,x')):fW f i a env = .ok d (e1.set i (some (true,x'))):=iC h0 h1 h2 h3
theorem zz1:1<=sizeLine:=by decide
theorem zz2:2<=sizeLine:=by decide
theorem zz3:3<=sizeLine:=by decide
theorem zz4:4<=sizeLine:=by decide
theorem zz5:5<=sizeLine:=by decide
theorem zz6:6<=sizeLine:=by decide
theorem zz7:7<=sizeLine:=by decide
end Ev
abbrev OD:=Option (Bool×Ev.D)
noncomputable abbrev Zf(d:Ev.D):OD:=some (false,d)
noncomputable abbrev Zt(d:Ev.D):OD:=some (true,d)
noncomputable abbrev Zs(w:List Nat):OD:=some (false,.str w)
noncomputable abbrev Zb(b:Bool):OD:=some (false,.bl b)
noncomputable abbrev Zl(l:List Ev.D):OD:=some (true,.lst l)
abbrev Zv(i:Nat)(a:Ev.dq):Ev.dq:=Ev.aa (Ev.aN i) a
abbrev Zi(i:Int):Ev.Ev:=Ev.mX (.int i)
abbrev Zw(w:List Nat):Ev.Ev:=Ev.mX (.str w)
abbrev LD:=List Ev.D->Option Ev.D
noncomputable abbrev Zn:OD:=none
noncomputable abbrev yj:List PySem.Str:=["thing"]
noncomputable abbrev Jg:List PySem.Str:=["stock","thing"]
noncomputable abbrev Th:List PySem.Str:=["sounds","thing"]
noncomputable abbrev Zq3:List PySem.Str:=["rule","word"]
noncomputable abbrev Zq4:List PySem.Str:=["_law_pack_here","_law_sounds_here"]
noncomputable abbrev Zq5:List PySem.Str:=["many","thing"]
noncomputable abbrev Zq6:List PySem.Str:=["order","word"]
noncomputable abbrev Zq7:List PySem.Str:=["stock","many","thing"]
noncomputable abbrev Zq8:List PySem.Str:=["order","book"]
noncomputable abbrev Zq9:List PySem.Str:=["_law_pack_here","_law_sounds_here","_law_most"]
noncomputable abbrev Ti:List PySem.Str:=["_law_order_here","_law_word_here"]
noncomputable abbrev Xy:List PySem.Str:=["_law_rule_here","_law_word_here"]
noncomputable abbrev afp:List PySem.Str:=["side","rule","word"]
noncomputable abbrev afo:List PySem.Str:=["tellings","numbers"]
noncomputable abbrev afn:List PySem.Str:=["stock","kind","thing"]
noncomputable abbrev afm:List PySem.Str:=["stock","kinds","things"]
noncomputable abbrev afl:List PySem.Str:=["_law_stock_here"]
noncomputable abbrev afk:List PySem.Str:=["_law_signs_here","_law_sign"]
noncomputable abbrev afj:List PySem.Str:=["_law_side","_law_rule_here","_law_word_here"]
noncomputable abbrev afi:List PySem.Str:=["_law_order_here","_law_ordering"]
noncomputable abbrev afh:List PySem.Str:=["_law_order_here","_law_book"]
noncomputable abbrev ake:List PySem.Str:=["stock","parts","paper"]
noncomputable abbrev akd:List PySem.Str:=["_law_pack_here","_law_size"]
noncomputable abbrev akc:List PySem.Str:=["_law_order_here","_law_ordering","_law_book"]
noncomputable abbrev akb:List PySem.Str:=["_law_order_here","_law_book","_law_pairs"]
noncomputable abbrev aka:List PySem.Str:=["_law_stock_here","_law_order_here","_law_pairs","_law_paper"]
noncomputable abbrev anA:List PySem.Str:=["_law_script","_law_pack_here","_law_stock_here","_law_sounds_here","_law_order_here","_law_digits","_law_known","_law_book","_law_turn","_law_word_here","_law_form","_law_found"]
namespace mj
open Ev
section
noncomputable abbrev qQ:Gp:=[([109,97,107,101,115],none),([109,97,99,104,105,110,101],none),([97,108,105,107,101],none),([112,97,114,116,101,100],none),([110,111,32,115,111,117,114,99,101],none),([101,110,100,108,101,115,115],none),([110,111,32,99,111,109,109,111,110],none),([97,99,116,115],none),([110,101,118,101,114],none),([109,97,107,101,115,32,119,97,121],none),([116,97,107,101,115],none),([110,111,32,119,97,121],none),([110,111,32,116,97,107,105,110,103],none),([113,117,97,114,114,101,108],some (.tup [(.str [111,114,100,101,114]),(.str [98,111,111,107])]))]
abbrev wX:Gp:=[([109,97,107,101,115],none),([109,97,99,104,105,110,101],none),([97,108,105,107,101],none),([112,97,114,116,101,100],none),([110,111,32,115,111,117,114,99,101],none),([101,110,100,108,101,115,115],none),([110,111,32,99,111,109,109,111,110],none),([97,99,116,115],none),([110,101,118,101,114],none),([109,97,107,101,115,32,119,97,121],none),([116,97,107,101,115],none),([110,111,32,119,97,121],none),([110,111,32,116,97,107,105,110,103],none),([113,117,97,114,114,101,108],some (W8 "quarrel_shown"))]
def Kw:Ev:=dH 1 2 (eG (aN 0)) (ak 1) bY (az Ec 1 (Zw [97,98,99,100,101,102,103,104,105,106,107,108,109,110,111,112,113,114,115,116,117,118,119,120,121,122]))
def Xw:bV:=aC (cZ (dW (dg (gh (jd "str") (aN 0)))) (aV (mX (.bl false))) bH) (aV (iD (sH W9 W9 (Zi 1) (ao cN (aa (bj 0) aj)) (Zi 8)) (ao o4 (aa (Kw) aj))))
def zr:LD:=bT 1 Xw
def Te:bV:=aV (iD (ao zr (Zv 0 aj)) (aL jT (ao cN (aa (bj 0) aj)) (Zi 1)))
def Ek:LD:=bT 1 Te
def Dd:Ev:=dH 1 2 (eF (aa (aL qZ (ao cN (aa (bj 0) aj)) (Zi 1)) aj)) (ak 1) bY (aL Qf (az bZ 0 (bj 1)) (az bZ 0 (az cj 1 (Zi 1))))
def Ve:bV:=aV (ao o4 (aa (Dd) aj))
def pC:LD:=bT 1 Ve
def Xv:bV:=aV (iD (gh (jd "tuple") (aN 0)) (aL jT (ao cN (aa (bj 0) aj)) (Zi 2)))
def gk:LD:=bT 1 Xv
def Di:Ev:=dH 1 2 (eG (aN 0)) (ak 1) bY (ao zr (Zv 1 aj))
def Pu:bV:=aC (cZ (iB (dW (dg (gh (jd "tuple") (aN 0)))) (dg (aL gGt (ao cN (aa (bj 0) aj)) (Zi 4)))) (aV (mX (.bl false))) bH) (aV (iD (ao o4 (aa (Di) aj)) (ao pC (Zv 0 aj))))
def zX:LD:=bT 1 Pu
def ye:bV:=aV (iD (ao gk (Zv 0 aj)) (iD (ao Ek (aa (az bZ 0 (Zi 0)) aj)) (ao zX (aa (az bZ 0 (Zi 1)) aj))))
def gq:LD:=bT 1 ye
def uC:Ev:=dH 1 3 (eG (aN 0)) (dR 2 (aZ (ak 1) (aZ (ak 2) dU))) bY (aN 1)
def uO:bV:=aV (ao d8 (aa (uC) aj))
def d9:LD:=bT 1 uO
def nY:Ev:=dH 1 2 (eG (aN 0)) (ak 1) bY (ao gq (Zv 1 aj))
def Ex:bV:=aC (cZ (iB (dW (dg (gh (jd "tuple") (aN 0)))) (dW (dg (sH W9 W9 (Zi 1) (ao cN (aa (bj 0) aj)) (Zi 4))))) (aV (mX (.bl false))) bH) (aV (iD (ao o4 (aa (nY) aj)) (ao pC (aa (ao d9 (Zv 0 aj)) aj))))
def nJ:LD:=bT 1 Ex
def pA:Ev:=dH 3 4 (eG (aN 1)) (ak 3) bY (az Ec 3 (bj 2))
def Jd:bV:=aC (cZ (dW (dg (gh (jd "str") (aN 1)))) (aV (mX (.bl false))) bH) (aC (aW (ao d9 (Zv 0 aj)) (ak 2)) (aV (ao o4 (aa (pA) aj))))
def kJ:LD:=bT 3 Jd
def o7:bV:=aC (cZ (dW (dg (ao gk (Zv 1 aj)))) (aV (mX (.bl false))) bH) (aC (aW (aN 1) (dR 2 (aZ (ak 2) (aZ (ak 3) dU)))) (aV (iD (az Ec 2 (bj 0)) (iD (Xc (az Ec 3 (bj 0)) (az jT 3 (Zw []))) (az tQ 2 (bj 3))))))
def il:LD:=bT 4 o7
def qL:bV:=aV (iD (ao gk (Zv 1 aj)) (iD (aL jT (az bZ 1 (Zi 0)) (Zw [])) (aL Ec (az bZ 1 (Zi 1)) (bj 0))))
def iI:LD:=bT 2 qL
def km:Ev:=dH 2 3 (eG (aN 1)) (ak 2) bY (ao il (Zv 0 (Zv 2 aj)))
def kj:Ev:=dH 2 4 (eG (aN 1)) (dR 2 (aZ (ak 2) (aZ (ak 3) dU))) bY (aN 2)
def qN:bV:=aC (cZ (iB (dW (dg (gh (jd "tuple") (aN 1)))) (dg (aL jT (ao cN (aa (bj 1) aj)) (Zi 0)))) (aV (mX (.bl false))) bH) (aC (cZ (fP (dg (aL jT (ao cN (aa (bj 1) aj)) (Zi 1))) (dg (ao iI (Zv 0 (aa (az bZ 1 (Zi 0)) aj))))) (aV (mX (.bl true))) bH) (aV (iD (ao o4 (aa (km) aj)) (ao pC (aa (kj) aj)))))
def eN:LD:=bT 2 qN
def Dh:Ev:=dH 2 3 (eG (aN 1)) (ak 2) bY (Xc (az jT 2 (Zw [35])) (az Ec 2 (bj 0)))
def Pn:bV:=aC (cZ (dg (az gIs 1 (mX .non))) (aV (mX (.bl true))) bH) (aC (cZ (iB (dW (dg (gh (jd "tuple") (aN 1)))) (dg (aL jT (ao cN (aa (bj 1) aj)) (Zi 0)))) (aV (mX (.bl false))) bH) (aV (iD (ao o4 (aa (Dh) aj)) (ao pC (Zv 1 aj)))))
def oF:LD:=bT 2 Pn
def Je:bV:=aC (cZ (iB (dW (dg (gh (jd "tuple") (aN 1)))) (dg (aL tQ (ao cN (aa (bj 1) aj)) (Zi 4)))) (aV (mX (.bl false))) bH) (aC (aW (aN 1) (dR 4 (aZ (ak 2) (aZ (ak 3) (aZ (ak 4) (aZ (ak 5) dU)))))) (aC (aW (ao d9 (Zv 0 aj)) (ak 6)) (aV (iD (az Ec 2 (mX (.tup [(.str [111,110,99,101]),(.str [97,108,111,110,103])]))) (iD (ao eN (Zv 6 (Zv 3 aj))) (iD (ao oF (Zv 6 (Zv 4 aj))) (ao oF (Zv 6 (Zv 5 aj)))))))))
def nM:LD:=bT 7 Je
def nZ:Ev:=dH 4 5 (eG (aN 3)) (ak 4) bY (ao nM (Zv 0 (Zv 4 aj)))
def Ey:bV:=aC (cZ (dW (dg (ao gk (Zv 1 aj)))) (aV (mX (.bl false))) bH) (aC (aW (aN 1) (dR 2 (aZ (ak 2) (aZ (ak 3) dU)))) (aC (cZ (iB (dg (az rW 2 (mX (.tup [(.str [108,101,102,116]),(.str [114,105,103,104,116])])))) (iB (dW (dg (gh (jd "tuple") (aN 3)))) (dg (aL gGt (ao cN (aa (bj 3) aj)) (Zi 4))))) (aV (mX (.bl false))) bH) (aV (ao o4 (aa (nZ) aj)))))
def nO:LD:=bT 4 Ey
def m5:bV:=aV (Xc (az gIs 0 (mX .non)) (az Ec 1 (bj 0)))
def jz:LD:=bT 2 m5
def lE:bV:=aC (aW (aN 0) (dR 4 (aZ (ak 1) (aZ (ak 2) (aZ (ak 3) (aZ (ak 4) dU)))))) (aV (cY (Zv 1 (Zv 2 (Zv 4 (Zv 3 aj))))))
def uI:LD:=bT 5 lE
def jG:bV:=aV (aL jT (aL bZ (aL bZ (az bZ 0 (Zi 1)) (Zi 0)) (Zi 0)) (Zw []))
def pL:LD:=bT 1 jG
def kE:bV:=aC (cZ (fP (dg (ao jz (Zv 4 (Zv 8 aj)))) (dg (ao jz (Zv 5 (Zv 9 aj))))) (kY 7 (aN 6)) bH) (aC (kY 7 (aN 9)) (aW (aN 9) (ak 8)))
def eO:bV:=aC (aW (aN 0) (dR 4 (aZ (ak 2) (aZ (ak 3) (aZ (ak 4) (aZ (ak 5) dU)))))) (aC (aW (aL bZ (az bZ 3 (Zi 0)) (Zi 1)) (ak 6)) (aC (eY 7 (fB aj)) (aC (aW (Zw [35]) (ak 8)) (aC (gC (eG (az cj 1 (Zw [35]))) (ak 9) (kE)) (aV (aL qj (Zw []) (zx (aN 7) jD (tU (gh tO (Zi 1))))))))))
def jF:LD:=bT 10 eO
def jO:bV:=aC (aW (aN 11) (ak 12)) (aC (cZ (fP (dg (az qJ 11 (bj 6))) (fP (dg (ao jz (Zv 4 (Zv 9 aj)))) (dg (ao jz (Zv 5 (aa (az bZ 7 (az cj 10 (Zi 1))) aj)))))) (aW (az lW 6 (bj 11)) (ak 12)) bH) (aC (kY 8 (aN 12)) (cZ (dg (az jT 2 (Zw [111,110,99,101]))) (aW (aN 11) (ak 9)) (cZ (dg (az tQ 12 (Zw []))) (aW (aN 12) (ak 9)) bH))))
def dX:bV:=aC (aW (aN 0) (dR 4 (aZ (ak 2) (aZ (ak 3) (aZ (ak 4) (aZ (ak 5) dU)))))) (aC (aW (ao uG (aa (bj 3) aj)) (ak 6)) (aC (aW (az cj 1 (Zw [35])) (ak 7)) (aC (eY 8 (fB aj)) (aC (aW (Zw [35]) (ak 9)) (aC (gC (Su (Zv 1 aj)) (dR 2 (aZ (ak 10) (aZ (ak 11) dU))) (jO)) (aV (aL qj (Zw []) (bj 8))))))))
def iV:LD:=bT 13 dX
def fC:bV:=aC (cZ (dg (ao pL (Zv 0 aj))) (aV (ao jF (Zv 0 (Zv 1 aj)))) bH) (aV (ao iV (Zv 0 (Zv 1 aj))))
def j5:LD:=bT 2 fC
def ir:bV:=aC (cZ (dg (az jT 0 (Zw [114,105,103,104,116]))) (aV (tu (ao j5 (aa (ao uI (Zv 1 aj)) (aa (tu (aN 2)) aj))))) bH) (aV (ao j5 (Zv 1 (Zv 2 aj))))
def lX:LD:=bT 3 ir
def uU:bV:=kY 4 (ao lX (Zv 2 (Zv 5 (aa (az bZ 4 (gh tO (Zi 1))) aj))))
def wJ:bV:=aC (aW (aN 0) (dR 2 (aZ (ak 2) (aZ (ak 3) dU)))) (aC (eY 4 (fB (Zv 1 aj))) (aC (gC (eG (aN 3)) (ak 5) (uU)) (aV (ao d8 (aa (bj 4) aj)))))
def Ei:LD:=bT 6 wJ
def wK:bV:=aV (aL bZ (ao Ei (Zv 0 (Zv 1 aj))) (gh tO (Zi 1)))
def mW:LD:=bT 2 wK
def Tc:bV:=aV (iD (gh (jd "int") (aN 0)) (Ow (gh (jd "bool") (aN 0))))
def su:LD:=bT 1 Tc
def qw:bV:=aV (iD (ao su (Zv 1 aj)) (sH W9 Qf (Zi 0) (aN 1) (aN 0)))
def gm:LD:=bT 2 qw
def Pk:bV:=aV (iD (gh (jd "tuple") (aN 1)) (aL jT (ao cN (aa (bj 1) aj)) (bj 0)))
def uJ:LD:=bT 2 Pk
def Xu:bV:=aV (iD (ao gk (Zv 2 aj)) (iD (ao kJ (Zv 0 (aa (az bZ 2 (Zi 0)) aj))) (ao gm (Zv 1 (aa (az bZ 2 (Zi 1)) aj)))))
def Iv:LD:=bT 3 Xu
def FZ:Ev:=dH 5 6 (eG (aN 4)) (ak 5) bY (ao Iv (Zv 0 (Zv 1 (Zv 5 aj))))
def Td:bV:=aC (cZ (dW (dg (ao gk (Zv 2 aj)))) (aV (mX (.bl false))) bH) (aC (aW (aN 2) (dR 2 (aZ (ak 3) (aZ (ak 4) dU)))) (aV (iD (ao kJ (Zv 0 (Zv 3 aj))) (iD (ao uJ (aa (ao cN (aa (bj 0) aj)) (Zv 4 aj))) (ao o4 (aa (FZ) aj))))))
def Ej:LD:=bT 5 Td
def Ao:Ev:=dH 4 5 (eG (aN 3)) (ak 4) bY (ao Ej (Zv 0 (aa (ao cN (aa (bj 3) aj)) (Zv 4 aj))))
def La:bV:=aC (cZ (dW (dg (ao gk (Zv 1 aj)))) (aV (mX (.bl false))) bH) (aC (aW (aN 1) (dR 2 (aZ (ak 2) (aZ (ak 3) dU)))) (aC (cZ (iB (dW (dg (ao kJ (Zv 0 (Zv 2 aj))))) (iB (dW (dg (gh (jd "tuple") (aN 3)))) (dg (aL jT (ao cN (aa (bj 3) aj)) (Zi 0))))) (aV (mX (.bl false))) bH) (aV (ao o4 (aa (Ao) aj)))))
def xV:LD:=bT 4 La
def uP:bV:=aV (iD (ao gk (Zv 1 aj)) (iD (ao kJ (Zv 0 (aa (az bZ 1 (Zi 0)) aj))) (ao kJ (Zv 0 (aa (az bZ 1 (Zi 1)) aj)))))
def iW:LD:=bT 2 uP
def pB:Ev:=dH 2 3 (eG (aN 1)) (ak 2) bY (ao iW (Zv 0 (Zv 2 aj)))
def Jf:bV:=aC (cZ (iB (dW (dg (gh (jd "tuple") (aN 1)))) (dW (dg (sH W9 W9 (Zi 1) (ao cN (aa (bj 1) aj)) (Zi 6))))) (aV (mX (.bl false))) bH) (aV (ao o4 (aa (pB) aj)))
def nQ:LD:=bT 2 Jf
def fM:Ev:=zY 3 5 (eG (aN 1)) (ak 3) (eF (Zv 0 aj)) (ak 4) (dg (az rW 4 (bj 3))) (az cj 3 (cY (Zv 4 aj)))
def d7:bV:=eY 1 (fM)
def lK:bV:=aC (aW (fB (aa (cY aj) aj)) (ak 1)) (aC (gC (eF (Zv 0 aj)) (ak 2) (d7)) (aV (aN 1)))
def dC:LD:=bT 3 lK
def pK:Ev:=dH 4 5 (eG (aN 1)) (ak 4) bY (az bZ 3 (bj 4))
def K9:bV:=aC (aW (aN 0) (dR 2 (aZ (ak 2) (aZ (ak 3) dU)))) (aV (cY (Zv 2 (aa (ao d8 (aa (pK) aj)) aj))))
def sr:LD:=bT 4 K9
def ig:Ev:=dH 2 4 (eG (aN 1)) (dR 2 (aZ (ak 2) (aZ (ak 3) dU))) bY (aL jT (ao mW (Zv 0 (Zv 2 aj))) (bj 3))
def pD:bV:=aV (ig)
def gJ:LD:=bT 2 pD
def ik:Ev:=dH 3 4 (eG (aN 1)) (ak 3) bY (az bZ 2 (bj 3))
def jB:Ev:=dH 2 3 (eG (aN 0)) (ak 2) bY (ao o4 (aa (ik) aj))
def pF:bV:=aV (Ow (ao R9 (aa (jB) aj)))
def kO:LD:=bT 2 pF
def kh:Ev:=dH 5 6 (eG (aN 2)) (ak 5) (dg (az tQ 5 (bj 3))) (aN 5)
def jq:bV:=aC (eY 4 (kh)) (cZ (dg (ao kO (Zv 0 (Zv 4 aj)))) (aW (aN 4) (ak 2)) bH)
def vd:bV:=aC (aW (gh Ir (aN 1)) (ak 2)) (aC (gC (eF (Zv 1 aj)) (ak 3) (jq)) (aV (ao d8 (aa (bj 2) aj))))
def nD:LD:=bT 5 vd
def j9:Ev:=dH 5 6 (eG (aN 2)) (ak 5) bY (ao gJ (aa (ao sr (Zv 0 (Zv 5 aj))) (Zv 1 aj)))
def jj:Ev:=dH 5 7 (KY (Zv 2 (Zv 3 aj))) (dR 2 (aZ (ak 5) (aZ (ak 6) dU))) (dg (ao o4 (aa (bj 6) aj))) (aN 5)
def u0:bV:=aC (aW (ao dC (aa (ao cN (aa (az bZ 0 (Zi 1)) aj)) aj)) (ak 2)) (aC (eY 3 (j9)) (aC (eY 4 (jj)) (aC (cZ (dg (az tQ 4 (fB aj))) (aV (cY (aa (Zw [116,111,108,100]) (aa (ao d8 (aa (bj 4) aj)) aj)))) bH) (aV (cY (aa (Zw [113,117,97,114,114,101,108]) (aa (ao nD (Zv 3 (aa (ao cN (aa (bj 1) aj)) aj))) aj)))))))
def nC:LD:=bT 5 u0
def jn:Ev:=dH 6 7 (eG (az bZ 3 (Zi 1))) (ak 6) bY (az bZ 2 (bj 6))
def jm:Ev:=dH 6 7 (eG (ao dC (aa (ao cN (aa (az bZ 1 (Zi 1)) aj)) aj))) (ak 6) bY (ao gJ (aa (ao sr (Zv 1 (Zv 6 aj))) (Zv 4 aj)))
def jl:Ev:=dH 6 7 (eG (aN 5)) (ak 6) bY (aL pY (aN 6) (mX (.bl false)))
def o6:bV:=aC (aW (ao nC (Zv 1 (Zv 2 aj))) (ak 3)) (aC (cZ (dg (aL tQ (az bZ 3 (Zi 0)) (Zw [113,117,97,114,114,101,108]))) (aV (mX .non)) bH) (aC (aW (ao d8 (aa (jn) aj)) (ak 4)) (aC (eY 5 (jm)) (aV (cY (aa (cY (aa (Zw [113,117,97,114,114,101,108]) (Zv 0 (Zv 1 (Zv 4 aj))))) (aa (ao d8 (aa (jl) aj)) aj)))))))
def gA:LD:=bT 6 o6
def zF:bV:=aC (cZ (dg (az jT 1 (Zw [111,114,100,101,114]))) (aV (ao nO (Zv 0 (Zv 2 aj)))) bH) (aC (cZ (dg (az jT 1 (Zw [114,117,108,101]))) (aV (ao nM (Zv 0 (Zv 2 aj)))) bH) (aC (cZ (dg (az jT 1 (Zw [119,111,114,100]))) (aV (ao kJ (Zv 0 (Zv 2 aj)))) bH) (aC (cZ (dg (az jT 1 (Zw [109,97,99,104,105,110,101]))) (aV (ao xV (Zv 0 (Zv 2 aj)))) bH) (aC (cZ (dg (az jT 1 (Zw [98,111,111,107]))) (aV (ao nQ (Zv 0 (Zv 2 aj)))) bH) (aC (cZ (dg (az jT 1 (Zw [115,105,100,101]))) (aV (az Ec 2 (mX (.tup [(.str [108,101,102,116]),(.str [114,105,103,104,116])])))) bH) (aV (ao su (Zv 2 aj))))))))
def kW:LD:=bT 3 zF
def mQ:Ev:=dH 3 5 (Ov (Zv 1 (Zv 2 aj))) (dR 2 (aZ (ak 3) (aZ (ak 4) dU))) bY (ao kW (Zv 0 (Zv 3 (Zv 4 aj))))
def mO:Ev:=dH 3 5 (Ov (Zv 1 (Zv 2 aj))) (dR 2 (aZ (ak 3) (aZ (ak 4) dU))) (dg (az jT 3 (Zw [111,114,100,101,114]))) (az bZ 4 (Zi 0))
def z9:bV:=aC (cZ (dg (aL tQ (ao cN (aa (bj 2) aj)) (ao cN (aa (bj 1) aj)))) (aV (mX (.bl false))) bH) (aC (cZ (dW (dg (ao o4 (aa (mQ) aj)))) (aV (mX (.bl false))) bH) (aV (aL W9 (gh Eb (mO)) (Zi 1))))
def qp:LD:=bT 3 z9
def rR:Ev:=zY 3 5 (eG (aN 1)) (ak 3) (eF (aa (ao cN (aa (bj 0) aj)) aj)) (ak 4) (dg (az rW 4 (bj 3))) (az cj 3 (cY (Zv 4 aj)))
def mR:bV:=eY 1 (rR)
def pq:Ev:=dH 4 5 (eG (aN 3)) (ak 4) bY (az bZ 0 (bj 4))
def ph:Ev:=dH 3 4 (eG (aN 1)) (ak 3) bY (ao d8 (aa (pq) aj))
def Jc:bV:=aC (aW (fB (aa (cY aj) aj)) (ak 1)) (aC (gC (eF (aa (ao cN (aa (bj 0) aj)) aj)) (ak 2) (mR)) (aV (ph)))
def uW:LD:=bT 3 Jc
def gU:Ev:=dH 8 9 (eG (aN 2)) (ak 8) bY (ao gm (aa (ao cN (aa (bj 4) aj)) (Zv 8 aj)))
def jk:Ev:=dH 8 10 (Ss (Zv 7 (Zv 2 aj))) (dR 2 (aZ (ak 8) (aZ (ak 9) dU))) bY (aL tQ (ao mW (aa (cY (Zv 5 (Zv 8 aj))) (aa (aL bZ (az bZ 4 (bj 9)) (Zi 0)) aj))) (aL bZ (az bZ 4 (bj 9)) (Zi 1)))
def lJ:bV:=aC (aW (aN 1) (dR 2 (aZ (ak 3) (aZ (ak 4) dU)))) (aC (aW (aN 3) (dR 2 (aZ (ak 5) (aZ (ak 6) dU)))) (aC (aW (ao uW (Zv 6 aj)) (ak 7)) (aC (cZ (iB (dW (dg (ao uJ (aa (ao cN (aa (bj 7) aj)) (Zv 2 aj))))) (dW (dg (ao o4 (aa (gU) aj))))) (aV (mX (.bl false))) bH) (aV (ao o4 (aa (jk) aj))))))
def dZ:LD:=bT 8 lJ
def Vf:bV:=aC (cZ (iB (dW (dg (gh (jd "tuple") (aN 0)))) (dg (aL Qf (ao cN (aa (bj 0) aj)) (Zi 2)))) (aV (mX (.bl false))) bH) (aC (aW (az bZ 0 (Zi 0)) (ak 2)) (aC (aW (az bZ 0 (Zi 1)) (ak 3)) (aC (cZ (iB (dW (dg (gh (jd "str") (aN 2)))) (iB (dg (gh (uD qQ) (aN 2))) (dW (dg (ao nJ (Zv 3 aj)))))) (aV (mX (.bl false))) bH) (aC (aW (uK (aN 0) (tU (Zi 2)) jD) (ak 4)) (aC (aW (gh (zq wX) (aN 2)) (ak 5)) (aV (iD (ao qp (Zv 3 (aa (gh (zq qQ) (aN 2)) (Zv 4 aj)))) (Ox "quarrel_shown" dZ 5 (Zv 3 (Zv 4 (Zv 1 aj)))))))))))
def sE:LD:=bT 6 Vf
def qu:bV:=aV (aL ajn (az wG 0 (Zi 915965594177219015054603514932384110774149374281672134266497)) (aL R6 (Zi 10) (Zi 60)))
def j4:LD:=bT 1 qu
def Ga:bV:=aW (aL cj (az wG 2 (aL R6 (Zi 10) (Zi 60))) (ao j4 (aa (aL bZ (aL cj (zx (aN 0) (tU (aN 3)) (tU (az cj 3 (Zi 1)))) (fB (aa (aL cj (aL wG (Zi 7919) (bj 3)) (Zi 61)) aj))) (Zi 0)) aj))) (ak 2)
def nR:bV:=aC (aW (Zi 0) (ak 2)) (aC (gC (eG (fB (aa (az cj 1 (Zi 1)) (Zv 1 aj)))) (ak 3) (Ga)) (xg (fB (Zv 2 aj))))
def jx:LD:=runN 4 nR
def j6:bV:=aC (aW (ao xR (aa (az bZ 0 (Zi 0)) (aa (bj 1) aj))) (dR 2 (aZ (aei 0 (Zi 0)) (aZ (ak 2) dU)))) (aV (aN 2))
def bz:List D->Option (D×D):=ou 3 j6
def De:Ev:=dH 7 8 (eF (aa (Zi 5) aj)) (ak 7) (dg (aL jT (aL Om (az Oj 5 (bj 7)) (Zi 1)) (Zi 1))) (az bZ 2 (bj 7))
def Dj:bV:=aC (aW (fW bz 0 (aa (Zi 32) aj)) (ak 5)) (aC (aW (ao mU (aa (De) aj)) (ak 6)) (kY 3 (cY (Zv 4 (aa (ao d8 (aa (zx (aN 6) jD (tU (Zi 4))) aj)) aj)))))
def z7:bV:=aC (aW (aL bZ (fB (aa (Zw [97]) (aa (Zw [97,98]) (aa (Zw [97,98]) (aa (Zw [97,98,99]) (aa (Zw [97,101,112,116]) (aa (Zw [109,110,122]) aj))))))) (fW bz 0 (aa (Zi 6) aj))) (ak 1)) (aC (aW (fB (aa (Zw [115,116,111,112]) (aa (Zw [115,116,111,112,115]) (aa (Zw [115]) (aa (Zw [111,112,101,110]) (aa (Zw [97,98,99,100,101,102,103,104]) aj)))))) (ak 2)) (aC (eY 3 (fB aj)) (aC (gC (eG (aN 1)) (ak 4) (Dj)) (aV (ao d8 (aa (bj 3) aj))))))
def ql:List D->Option (D×D):=ou 7 z7
def An:Ev:=mj.uC
def sS:bV:=aV (aL qj (Zw []) (An))
def ju:LD:=bT 1 sS
def Df:Ev:=dH 4 5 (eF (aa (ao cN (aa (bj 3) aj)) aj)) (ak 4) (dg (aL jT (aL Om (az Oj 2 (bj 4)) (Zi 1)) (Zi 1))) (az bZ 3 (bj 4))
def oG:bV:=aC (cZ (dg (aL jT (fW bz 0 (aa (Zi 2) aj)) (Zi 0))) (aV (mX .non)) bH) (aC (aW (aL cj (Zi 1) (fW bz 0 (aa (aL qZ (aL W7 (Zi 2) (ao cN (aa (bj 1) aj))) (Zi 1)) aj))) (ak 2)) (aC (aW (aL cj (Zw [35]) (bj 1)) (ak 3)) (aV (ao d8 (aa (Df) aj)))))
def oE:List D->Option (D×D):=ou 4 oG
def zc:Ev:=dH 6 7 (eG (aL cj (ao zW (aa (bj 1) aj)) (fB (aa (Zw []) aj)))) (ak 6) (dg (az tQ 6 (bj 4))) (aN 6)
def zf:bV:=aC (aW (az bZ 1 (fW bz 0 (aa (ao cN (aa (bj 1) aj)) aj))) (ak 4)) (aC (eY 5 (zc)) (tW 2 (aN 4) (az bZ 5 (fW bz 0 (aa (ao cN (aa (bj 5) aj)) aj)))))
def zb:Ev:=dH 6 7 (eG (ao mU (aa (bj 2) aj))) (ak 6) bY (cY (Zv 6 (aa (az lW 2 (bj 6)) aj)))
def qM:bV:=aC (cZ (dg (aL jT (fW bz 0 (aa (Zi 5) aj)) (Zi 0))) (aV (cY (aa (cY (aa (Zw []) (aa (az bZ 1 (fW bz 0 (aa (ao cN (aa (bj 1) aj)) aj))) aj))) aj))) bH) (aC (eY 2 (K1)) (aC (gC (eF (aa (aL cj (Zi 1) (fW bz 0 (aa (Zi 3) aj))) aj)) (ak 3) (zf)) (aV (ao d8 (aa (zb) aj)))))
def qK:List D->Option (D×D):=ou 6 qM
def Ew:bV:=aC (aW (aL bZ (fB (aa (Zw [111,110,99,101]) (aa (Zw [97,108,111,110,103]) aj))) (fW bz 0 (aa (Zi 2) aj))) (ak 2)) (aC (aW (fW qK 0 (Zv 1 aj)) (ak 3)) (aV (cY (Zv 2 (Zv 3 (aa (fW oE 0 (Zv 1 aj)) (aa (fW oE 0 (Zv 1 aj)) aj)))))))
def nH:List D->Option (D×D):=ou 4 Ew
def Dg:Ev:=dH 4 5 (eF (aa (fW bz 0 (aa (az cj 2 (Zi 1)) aj)) aj)) (ak 4) bY (fW nH 0 (Zv 1 aj))
def z8:bV:=aC (aW (aL bZ (fB (aa (Zw [108,101,102,116]) (aa (Zw [114,105,103,104,116]) aj))) (fW bz 0 (aa (Zi 2) aj))) (ak 3)) (aV (cY (Zv 3 (aa (ao d8 (aa (Dg) aj)) aj))))
def qm:List D->Option (D×D):=ou 4 z8
def FW:Ev:=dH 3 4 (eF (aa (fW bz 0 (aa (az cj 2 (Zi 1)) aj)) aj)) (ak 3) bY (az bZ 1 (fW bz 0 (aa (ao cN (aa (bj 1) aj)) aj)))
def sO:bV:=aV (aL qj (Zw []) (FW))
def nG:List D->Option (D×D):=ou 3 sO
def lN:bV:=mj.m5
def cR:LD:=bT 2 lN
def oZ:bV:=aC (cZ (fP (dg (ao cR (aa (az bZ 0 (Zi 2)) (aa (az bZ 2 (az qZ 4 (Zi 1))) aj)))) (dg (ao cR (aa (az bZ 0 (Zi 3)) (aa (az bZ 2 (bj 4)) aj))))) (aW (az cj 3 (aL bZ (aL bZ (az bZ 0 (Zi 1)) (Zi 0)) (Zi 1))) (ak 3)) bH) (aW (az cj 3 (az bZ 2 (bj 4))) (ak 3))
def fY:bV:=aC (aW (aL cj (aL cj (Zw [35]) (bj 1)) (Zw [35])) (ak 2)) (aC (aW (Zw []) (ak 3)) (aC (gC (eF (aa (Zi 1) (aa (ao cN (aa (bj 2) aj)) aj))) (ak 4) (oZ)) (aV (vB (aN 3) jD (tU (gh tO (Zi 1)))))))
def jw:LD:=bT 5 fY
def nu:bV:=aC (aW (az bZ 7 (az qZ 9 (Zi 1))) (ak 10)) (aC (cZ (dg (az jT 2 (Zw [97,108,111,110,103]))) (aW (az bZ 8 (gh tO (Zi 1))) (ak 10)) bH) (cZ (fP (dg (aL qJ (az bZ 7 (bj 9)) (bj 6))) (fP (dg (ao cR (Zv 4 (Zv 10 aj)))) (dg (ao cR (Zv 5 (aa (az bZ 7 (az cj 9 (Zi 1))) aj)))))) (aW (az cj 8 (az lW 6 (az bZ 7 (bj 9)))) (ak 8)) (aW (az cj 8 (az bZ 7 (bj 9))) (ak 8))))
def dD:bV:=aC (aW (aN 0) (dR 4 (aZ (ak 2) (aZ (ak 3) (aZ (ak 4) (aZ (ak 5) dU)))))) (aC (cZ (dg (aL jT (aL bZ (az bZ 3 (Zi 0)) (Zi 0)) (Zw []))) (aV (ao jw (Zv 0 (Zv 1 aj)))) bH) (aC (aW (ao uG (aa (bj 3) aj)) (ak 6)) (aC (aW (aL cj (aL cj (Zw [35]) (bj 1)) (Zw [35])) (ak 7)) (aC (aW (Zw [35]) (ak 8)) (aC (gC (eF (aa (Zi 1) (aa (aL qZ (ao cN (aa (bj 7) aj)) (Zi 1)) aj))) (ak 9) (nu)) (aV (vB (aN 8) (tU (Zi 1)) jD)))))))
def cT:LD:=bT 11 dD
def fX:bV:=aV (cY (aa (az bZ 0 (Zi 0)) (aa (az bZ 0 (Zi 1)) (aa (az bZ 0 (Zi 3)) (aa (az bZ 0 (Zi 2)) aj)))))
def jt:LD:=bT 1 fX
def dh:bV:=aC (cZ (dg (az jT 0 (Zw [114,105,103,104,116]))) (aV (tu (ao cT (aa (ao jt (Zv 1 aj)) (aa (tu (aN 2)) aj))))) bH) (aV (ao cT (Zv 1 (Zv 2 aj))))
def cU:LD:=bT 3 dh
def qI:bV:=kY 2 (ao cU (aa (az bZ 0 (Zi 0)) (Zv 3 (aa (az bZ 2 (gh tO (Zi 1))) aj))))
def lM:bV:=aC (eY 2 (fB (Zv 1 aj))) (aC (gC (eG (az bZ 0 (Zi 1))) (ak 3) (qI)) (aV (ao d8 (aa (bj 2) aj))))
def jZ:LD:=bT 4 lM
def sU:bV:=aV (aL bZ (ao jZ (Zv 0 (Zv 1 aj))) (gh tO (Zi 1)))
def gW:LD:=bT 2 sU
def lL:Ev:=dH 6 7 (eF (Zv 1 aj)) (ak 6) (dg (az rW 6 (bj 5))) (az cj 5 (cY (Zv 6 aj)))
def jr:bV:=Ml 4 (lL)
def gV:bV:=aC (eY 4 (fB aj)) (aC (gC (eG (aN 2)) (ak 5) (jr)) (aW (aN 4) (ak 2)))
def tD:bV:=aC (aW (ao cN (aa (az bZ 0 (Zi 1)) aj)) (ak 1)) (aC (aW (fB (aa (cY aj) aj)) (ak 2)) (aC (gC (eF (Zv 1 aj)) (ak 3) (gV)) (aV (aN 2))))
def fj:LD:=bT 6 tD
def jE:Ev:=dH 2 3 (eG (aN 1)) (ak 2) bY (aL bZ (az bZ 0 (Zi 1)) (bj 2))
def sV:bV:=aV (cY (aa (az bZ 0 (Zi 0)) (aa (ao d8 (aa (jE) aj)) aj)))
def jy:LD:=bT 2 sV
def mL:Ev:=dH 4 6 (eG (aN 2)) (dR 2 (aZ (ak 4) (aZ (ak 5) dU))) bY (aL jT (ao gW (Zv 3 (Zv 4 aj))) (bj 5))
def z6:bV:=aC (aW (ao jy (Zv 0 (Zv 1 aj))) (ak 3)) (aV (ao o4 (aa (mL) aj)))
def j0:LD:=bT 4 z6
def iM:Ev:=dH 2 3 (eG (ao fj (Zv 0 aj))) (ak 2) bY (ao j0 (Zv 0 (Zv 2 (Zv 1 aj))))
def rm:bV:=aV (ao R9 (aa (iM) aj))
def eE:LD:=bT 2 rm
def cJ:bV:=cZ (fP (dg (az Qf 3 (ao cN (aa (bj 2) aj)))) (dg (az jT 4 (az bZ 2 (bj 3))))) (aW (az cj 3 (Zi 1)) (ak 3)) bH
def iy:Ev:=dH 5 6 (eF (aa (ao cN (aa (bj 2) aj)) aj)) (ak 5) bY (ao eE (Zv 0 (aa (aL cj (uK (aN 2) jD (tU (aN 5))) (uK (aN 2) (tU (az cj 5 (Zi 1))) jD)) aj)))
def qt:bV:=aC (cZ (iB (dW (dg (gh (jd "tuple") (aN 2)))) (iB (dg (az jT 2 (cY aj))) (dg (ao eE (Zv 0 (Zv 2 aj)))))) (aV (mX (.bl false))) bH) (aC (aW (Zi 0) (ak 3)) (aC (gC (eG (aN 1)) (ak 4) (cJ)) (aC (cZ (dg (az Qf 3 (ao cN (aa (bj 2) aj)))) (aV (mX (.bl false))) bH) (aV (ao o4 (aa (iy) aj))))))
def iz:LD:=bT 5 qt
def jo:Ev:=dH 8 9 (eG (aN 2)) (ak 8) bY (ao j0 (Zv 1 (aa (az bZ 4 (bj 5)) (aa (cY (Zv 8 aj)) aj))))
def eV:bV:=aC (eY 6 (jo)) (aC (cZ (iB (dW (dg (gh (jd "int") (az bZ 3 (bj 5))))) (iB (dg (gh (jd "bool") (az bZ 3 (bj 5)))) (dg (az bZ 6 (az bZ 3 (bj 5)))))) (aV (mX (.bl false))) bH) (cZ (dg (aL Ec (mX (.bl true)) (bj 6))) (aC (aW (aL cj (aL cj (uK (aN 3) jD (tU (aN 5))) (cY (aa (aL pY (aN 6) (mX (.bl true))) aj))) (uK (aN 3) (tU (az cj 5 (Zi 1))) jD)) (ak 7)) (cZ (dg (aL uF (ao sE (aa (cY (aa (Zw [113,117,97,114,114,101,108]) (Zv 0 (Zv 1 (Zv 2 aj))))) (Zv 7 aj))) (mX (.bl false)))) (aV (mX (.bl false))) bH)) bH))
def pg:bV:=aC (aW (ao fj (Zv 1 aj)) (ak 4)) (aC (cZ (iB (dW (dg (gh (jd "tuple") (aN 3)))) (dg (aL tQ (ao cN (aa (bj 3) aj)) (ao cN (aa (bj 4) aj))))) (aV (mX (.bl false))) bH) (aC (gC (eF (aa (ao cN (aa (bj 4) aj)) aj)) (ak 5) (eV)) (aV (mX (.bl true)))))
def gF:LD:=bT 8 pg
def qY:bV:=aC (aW (fW nG 5 (Zv 3 (aa (Zi 5) aj))) (ak 9)) (aC (aW (ao gW (aa (ao jy (Zv 4 (aa (az bZ 6 (fW bz 5 (aa (ao cN (aa (bj 6) aj)) aj))) aj))) (Zv 9 aj))) (ak 10)) (aC (cZ (dg (aL jT (fW bz 5 (aa (Zi 6) aj)) (Zi 0))) (aW (fW nG 5 (Zv 3 (aa (Zi 5) aj))) (ak 10)) bH) (aW (az cj 7 (cY (aa (cY (Zv 9 (aa (vB (aN 10) jD (tU (Zi 20))) aj))) aj))) (ak 7))))
def agc:bV:=aC (eY 1 (ao jx (Zv 0 (aa (Zi 0) aj)))) (aC (aW (fW ql 1 aj) (ak 2)) (aC (aW (ao ju (Zv 2 aj)) (ak 3)) (aC (aW (fW qm 1 (Zv 3 (aa (Zi 3) aj))) (ak 4)) (aC (aW (cY (aa (az bZ 4 (Zi 0)) (aa (aL cj (az bZ 4 (Zi 1)) (cY (aa (fW nH 1 (Zv 3 aj)) aj))) aj))) (ak 4)) (aC (eY 5 (ao jx (Zv 0 (aa (Zi 2) aj)))) (aC (aW (ao fj (Zv 4 aj)) (ak 6)) (aC (aW (cY aj) (ak 7)) (aC (gC (eF (aa (aL cj (Zi 1) (fW bz 5 (aa (Zi 5) aj))) aj)) (ak 8) (qY)) (aC (aW (ao gA (Zv 2 (Zv 4 (Zv 7 aj)))) (ak 11)) (aC (cZ (dg (ao eE (Zv 4 (Zv 7 aj)))) (aV (az gIs 11 (mX .non))) bH) (aC (cZ (iB (dW (dg (gh (jd "tuple") (aN 11)))) (iB (dg (aL tQ (ao cN (aa (bj 11) aj)) (Zi 2))) (dg (aL tQ (UT (az bZ 11 (Zi 0)) jD (tU (Zi 3))) (cY (aa (Zw [113,117,97,114,114,101,108]) (Zv 2 (Zv 4 aj)))))))) (aV (mX (.bl false))) bH) (aC (cZ (iB (dg (aL tQ (ao cN (aa (az bZ 11 (Zi 0)) aj)) (Zi 4))) (iB (dW (dg (ao iz (Zv 4 (Zv 7 (aa (aL bZ (az bZ 11 (Zi 0)) (Zi 3)) aj)))))) (dg (aL uF (ao sE (aa (az bZ 11 (Zi 0)) (aa (az bZ 11 (Zi 1)) aj))) (mX (.bl true)))))) (aV (mX (.bl false))) bH) (aV (ao gF (Zv 2 (Zv 4 (aa (aL bZ (az bZ 11 (Zi 0)) (Zi 3)) (aa (az bZ 11 (Zi 1)) aj))))))))))))))))))
def UL:LD:=bT 12 agc
end
open PySem PySem.Spec PyProof.Rows L2 Ev
noncomputable def top(i:Nat):Stmt:=PySem.Challenge.pw_soundrules_k71_whole_papers_of_books.main.body.getD i (.Pass ⟨0,0,0,0⟩)
abbrev yP:Stmt:=top 6
abbrev v8:Stmt:=top 7
abbrev J0:Stmt:=top 8
abbrev yO:Stmt:=top 9
abbrev ur:Stmt:=top 10
abbrev mG:Stmt:=top 11
abbrev tZ:Stmt:=top 14
abbrev vZ:Stmt:=top 12
abbrev yK:Stmt:=top 13
abbrev oO:Stmt:=top 19
abbrev qy:Stmt:=top 20
abbrev qF:Stmt:=top 21
abbrev uo:Stmt:=top 22
abbrev yM:Stmt:=top 23
abbrev v9:Stmt:=top 24
abbrev Rh:Stmt:=top 25
abbrev Ck:Stmt:=top 26
abbrev yH:Stmt:=top 27
abbrev qx:Stmt:=top 29
abbrev pP:Stmt:=top 30
abbrev um:Stmt:=top 31
abbrev yR:Stmt:=top 32
abbrev Rc:Stmt:=top 33
abbrev Rf:Stmt:=top 34
abbrev vY:Stmt:=top 37
abbrev mF:Stmt:=top 38
abbrev Cp:Stmt:=top 39
abbrev yL:Stmt:=top 41
abbrev v7:Stmt:=top 42
abbrev rM:Stmt:=top 43
abbrev pQ:Stmt:=top 46
abbrev yQ:Stmt:=top 47
abbrev oR:Stmt:=top 59
abbrev Rg:Stmt:=top 60
abbrev rE:Stmt:=top 62
abbrev rK:Stmt:=top 63
abbrev yG:Stmt:=top 64
abbrev yF:Stmt:=top 65
abbrev oM:Stmt:=top 75
abbrev yN:Stmt:=top 78
abbrev uq:Stmt:=top 79
abbrev yJ:Stmt:=top 96
abbrev oK:Stmt:=top 97
abbrev J1:Stmt:=top 99
abbrev uh:Stmt:=top 101
abbrev vU:Stmt:=top 102
abbrev vQ:Stmt:=top 103
abbrev ue:Stmt:=top 104
abbrev rH:Stmt:=top 105
abbrev uf:Stmt:=top 106
abbrev qz:Stmt:=top 107
abbrev vR:Stmt:=top 108
abbrev ug:Stmt:=top 109
abbrev vO:Stmt:=top 110
abbrev vX:Stmt:=top 111
abbrev rJ:Stmt:=top 112
abbrev qC:Stmt:=top 113
abbrev rG:Stmt:=top 114
abbrev qD:Stmt:=top 115
abbrev vP:Stmt:=top 116
abbrev vV:Stmt:=top 117
abbrev oN:Stmt:=top 118
abbrev vW:Stmt:=top 119
abbrev t6:Stmt:=top 120
abbrev m9:Stmt:=top 121
abbrev mD:Stmt:=top 122
abbrev lg:Stmt:=top 123
abbrev YX:Stmt:=top 124
structure Top(w:World)(K:Fg)(mg:Str->Option Value):Prop where
 jJ:mg "all" = none
 aal:mg "any" = none
 Ug:mg "bool" = none
 Ue:mg "dict" = none
 WK:mg "divmod" = none
 Kq:mg "enumerate" = none
 aak:mg "int" = none
 bQ:mg "isinstance" = none
 cD:mg "len" = none
 Ud:mg "list" = none
 eU:mg "range" = none
 G5:mg "sorted" = none
 RD:mg "str" = none
 cH:mg "tuple" = none
 Kp:mg "zip" = none
 Dn:∀d:D,PySem.W.kitOne K (.type (Vp d)) (.type "bool")=some (jP d "bool")
 KH:∀d:D,PySem.W.kitOne K (.type (Vp d)) (.type "int")=some (jP d "int")
 Be:∀d:D,PySem.W.kitOne K (.type (Vp d)) (.type "str")=some (jP d "str")
 fO:∀d:D,PySem.W.kitOne K (.type (Vp d)) (.type "tuple")=some (jP d "tuple")
 fV:Qa K mg "EDGE" (.str [35])
 pX:Qa K mg "LETTERS" (.str [97,98,99,100,101,102,103,104,105,106,107,108,109,110,111,112,113,114,115,116,117,118,119,120,121,122])
 jC:Qa K mg "MOST_LETTERS" (.int 8)
 lB:Qa K mg "MOST_MARKS" (.int 4)
 lA:Qa K mg "MOST_PAIRS" (.int 6)
 lz:Qa K mg "MOST_RULES" (.int 4)
 jY:Qa K mg "MOST_SOUNDS" (.int 4)
 jX:Qa K mg "SIDES" (.tup [(.str [108,101,102,116]),(.str [114,105,103,104,116])])
 uV:Qa K mg "WAYS" (.tup [(.str [111,110,99,101]),(.str [97,108,111,110,103])])
 xM:Tbl w.params K mg "PARTS" qQ
 DY:Tbl w.params K mg "SHOWN" wX
 nA:Qa K mg "quarrel_shown" (W8 "quarrel_shown")
 VJ:bW K mg "is_name" yP yj
 QG:bW K mg "is_sound" v8 yj
 acE:bW K mg "rises" J0 ["things"]
 VH:bW K mg "is_pair" yO yj
 Mf:bW K mg "are_marks" ur yj
 xf:bW K mg "is_marked_sound" mG yj
 Lr:bW K mg "sounds_of" tZ ["stock"]
 QD:bW K mg "is_stock" vZ yj
 VB:bW K mg "is_word" yK Jg
 Ae:bW K mg "changes_sound" oO Th
 Fd:bW K mg "puts_one_in" qy Th
 Fj:bW K mg "are_changes" qF Th
 LR:bW K mg "are_signs" uo Th
 VF:bW K mg "is_rule" yM Jg
 QH:bW K mg "is_order" v9 Jg
 agH:bW K mg "fits" Rh ["signs","sign"]
 Yx:bW K mg "turned" Ck ["rule"]
 Vy:bW K mg "puts_in" yH ["rule"]
 Fb:bW K mg "with_put_in" qx Zq3
 By:bW K mg "with_changes" pP Zq3
 LK:bW K mg "from_left" um Zq3
 VM:bW K mg "changed" yR afp
 agE:bW K mg "walk" Rc Zq6
 agF:bW K mg "made" Rf Zq6
 QC:bW K mg "is_whole" vY yj
 wZ:bW K mg "is_number_below" mF Zq5
 Yy:bW K mg "is_row" Cp Zq5
 VD:bW K mg "is_step" yL Zq7
 QF:bW K mg "is_state" v7 Zq7
 Jx:bW K mg "is_machine" rM Jg
 BJ:bW K mg "is_told_pair" pQ Jg
 VL:bW K mg "is_book" yQ Jg
 Af:bW K mg "all_orderings" oR ["many"]
 agG:bW K mg "laid" Rg ["order","ordering"]
 Js:bW K mg "pairs_told" rE Zq8
 Jw:bW K mg "is_quarrel" rK afo
 Vx:bW K mg "quarrel" yG ["tellings","many"]
 Vw:bW K mg "told_by" yF Zq8
 Ac:bW K mg "paper_quarrel" oM ["stock","order","book"]
 VG:bW K mg "is_part" yN afn
 Ma:bW K mg "are_parts" uq afm
 Vz:bW K mg "layings" yJ ["rules"]
 Ab:bW K mg "quarrel_shown" oK ake
 acF:bW K mg "holds" J1 ["claim","paper"]
 Lz:bW K mg "_law_mixed" uh ["_law_cell"]
 Qx:bW K mg "_law_pack" vU ["_law_script","_law_k"]
 Qv:bW K mg "_law_take" vQ akd
 Lw:bW K mg "_law_stock" ue ["_law_pack_here"]
 Ju:bW K mg "_law_sounds" rH afl
 Lx:bW K mg "_law_signs" uf Zq4
 Fe:bW K mg "_law_changes" qz Zq4
 Qw:bW K mg "_law_rule" vR Zq4
 Ly:bW K mg "_law_order" ug Zq9
 Qt:bW K mg "_law_word" vO Zq9
 QB:bW K mg "_law_fits" vX afk
 Jv:bW K mg "_law_put_in" rJ Xy
 Ff:bW K mg "_law_changed" qC Xy
 Jt:bW K mg "_law_turned" rG ["_law_rule_here"]
 Fi:bW K mg "_law_by_side" qD afj
 Qu:bW K mg "_law_walk" vP Ti
 Qy:bW K mg "_law_made" vV Ti
 Ad:bW K mg "_law_orderings" oN ["_law_order_here"]
 Qz:bW K mg "_law_laid" vW afi
 Ls:bW K mg "_law_tells" t6 akc
 yp:bW K mg "_law_some_tells" m9 afh
 wY:bW K mg "_law_pairs_right" mD akb
 vf:bW K mg "_law_numbers_right" lg aka
section
variable{P:Program}{w:World}{K:Fg}{mg:Str->Option Value}{base:Heap}(Z:Top w K mg)
theorem Q9:bf yj yj (aK yP):=dG
include Z in
theorem G4:Own P w K mg base "is_name" 1 yj (jQ K 1 zr):=by
 obtain⟨ako,akp,pX⟩:=Z.pX;obtain⟨Yk,Yp,jC⟩:=Z.jC;exact bu (k:=0) Z.VJ Q9 (λf cdv A outer s H E hr G=>(di.u (au (bI (cQ (bK (fU (T:="str") rfl Z.bQ rfl Z.RD (by decide +kernel) Z.Be G.K (aU 0)))) (aA (aD dF)) bh)
   (aA (aD (dM (Lk Ph Ph aF (cG G Z.cD (aH (bF 0))) (iw (.int 8) rfl jC.1 jC.2.1 (λF=>jC.2.2 F))) (fJ (jH G Z.jJ (aH (aG (bU (gb ["thing","sign"] 1 cM G (cV G (aU 0)) (λX1 h1=>by have G:=G.at h1;obtain⟨_,_,_,_,_,rfl⟩:=h1;exact(aM 1)) (λX1 h1=>by have G:=G.at h1;obtain⟨_,_,_,_,_,rfl⟩:=h1;exact bM) (λX1 h1=>by have G:=G.at h1;obtain⟨_,_,_,_,_,rfl⟩:=h1;exact(jh 1 (Eu G) (aG (iw (.str [97,98,99,100,101,102,103,104,105,106,107,108,109,110,111,112,113,114,115,116,117,118,119,120,121,122]) rfl pX.1 pX.2.1 (λF=>pX.2.2 F)))))))))))))))))
theorem MP:bf yj yj (aK v8):=dG
include Z in
theorem Rz:Own P w K mg base "is_sound" 2 yj (jQ K 1 Ek):=by exact bu Z.QG MP<|λf cdv A outer s H E hr G=>(di.u<|aA<|aD<|dM (aX (G4 Z) G hr (cB 0 aq)<|aQ len0)<|fJ<|pN (lD G) (cG G Z.cD<|aH<|bF 0)<|aG aF)
theorem YS:bf ["things"] ["things"] (aK J0):=dG
include Z in
theorem Bb:Own P w K mg base "rises" 1 ["things"] (jQ K 1 pC):=by exact bu Z.acE YS<|λf cdv A outer s H E hr G=>(di.u<|aA<|aD<|jH G Z.jJ<|aH<|aG<|bU<|gb ["things","at"] 1 cM G (iQ Z.eU (aB (fZ Pj (cG G Z.cD<|aH<|bF 0)<|aG aF) aq)<|aQ len0) (λX1 h1=>by have G:=G.at h1;obtain⟨_,_,_,_,_,rfl⟩:=h1;exact(aM 1)) (λX1 h1=>by have G:=G.at h1;obtain⟨_,_,_,_,_,rfl⟩:=h1;exact bM) (λX1 h1=>by have G:=G.at h1;obtain⟨_,_,_,_,_,rfl⟩:=h1;exact(pN abE (bG 0 G<|bF 1)<|aG<|bG 0 G<|aG<|dJ 1 (fQ G)<|aG aF)))
theorem Q8:bf yj yj (aK yO):=dG
include Z in
theorem lU:Own P w K mg base "is_pair" 1 yj (jQ K 1 gk):=by exact bu Z.VH Q8<|λf cdv A outer s H E hr G=>(di.u<|aA<|aD<|dM (fU rfl Z.bQ rfl Z.cH (by decide +kernel) Z.fO G.K (aU 0))<|fJ<|pN (lD G) (cG G Z.cD<|aH<|bF 0)<|aG aF)
theorem JZ:bf yj yj (aK ur):=dG
include Z in
theorem Np:Own P w K mg base "are_marks" 2 yj (jQ K 1 zX):=by
 obtain⟨acw,acA,lB⟩:=Z.lB;exact bu (k:=1) Z.Mf JZ (λf cdv A outer s H E hr G=>(di.u (au (bI (fK (eQ (cQ (bK (fU (T:="tuple") rfl Z.bQ rfl Z.cH (by decide +kernel) Z.fO G.K (aU 0)))) (gD (gG anm (cG G Z.cD (aH (bF 0))) (aG (iw (.int 4) rfl lB.1 lB.2.1 (λF=>lB.2.2 F))))))) (aA (aD dF)) bh)
   (aA (aD (dM (jH G Z.jJ (aH (aG (bU (gb ["thing","mark"] 1 cM G (cV G (aU 0)) (λX1 h1=>by have G:=G.at h1;obtain⟨_,_,_,_,_,rfl⟩:=h1;exact(aM 1)) (λX1 h1=>by have G:=G.at h1;obtain⟨_,_,_,_,_,rfl⟩:=h1;exact bM) (λX1 h1=>by have G:=G.at h1;obtain⟨_,_,_,_,_,rfl⟩:=h1;exact(aX (G4 Z) G hr (cB 1 aq) (aQ len0)))))))) (fJ (aX (Bb Z) G hr (cB 0 aq) (aQ len0)))))))))
theorem vN:bf yj yj (aK mG):=dG
include Z in
theorem xE:Own P w K mg base "is_marked_sound" 3 yj (jQ K 1 gq):=by exact bu Z.xf vN<|λf cdv A outer s H E hr G=>(di.u<|aA<|aD<|dM (aX (lU Z) G hr (cB 0 aq)<|aQ len0)<|dM (aX (Rz Z) G hr (aB (bG 0 G<|aG aF) aq)<|aQ len0)<|fJ<|aX (Np Z) G hr (aB (bG 0 G<|aG aF) aq)<|aQ len0)
theorem JM:bf ["stock"] ["stock"] (aK tZ):=dG
include Z in
theorem ux:Own P w K mg base "sounds_of" 1 ["stock"] (jQ K 1 d9):=by exact bu Z.Lr JM<|λf cdv A outer s H E hr G=>(di.u<|aA<|aD<|gQ G Z.cH<|aH<|aG<|bU<|gb ["stock","sound","marks"] 1 cM G (cV G<|aU 0) (λX1 h1=>by have G:=G.at h1;obtain⟨_,_,_,_,_,rfl⟩:=h1;exact(gH G<|aP (aM 1)<|aP (aM 2) cO)) (λX1 h1=>by have G:=G.at h1;obtain⟨_,_,_,_,_,rfl⟩:=h1;exact bM) (λX1 h1=>by have G:=G.at h1;obtain⟨_,_,_,_,_,rfl⟩:=h1;exact(aU 1)))
theorem MJ:bf yj yj (aK vZ):=dG
include Z in
theorem Rx:Own P w K mg base "is_stock" 4 yj (jQ K 1 nJ):=by
 obtain⟨abY,abZ,jY⟩:=Z.jY;exact bu (k:=3) Z.QD MJ (λf cdv A outer s H E hr G=>(di.u (au (bI (fK (eQ (cQ (bK (fU (T:="tuple") rfl Z.bQ rfl Z.cH (by decide +kernel) Z.fO G.K (aU 0)))) (gD (cQ (LQ Ph Ph aF (cG G Z.cD (aH (bF 0))) (iw (.int 4) rfl jY.1 jY.2.1 (λF=>jY.2.2 F))))))) (aA (aD dF)) bh)
   (aA (aD (dM (jH G Z.jJ (aH (aG (bU (gb ["thing","row"] 1 cM G (cV G (aU 0)) (λX1 h1=>by have G:=G.at h1;obtain⟨_,_,_,_,_,rfl⟩:=h1;exact(aM 1)) (λX1 h1=>by have G:=G.at h1;obtain⟨_,_,_,_,_,rfl⟩:=h1;exact bM) (λX1 h1=>by have G:=G.at h1;obtain⟨_,_,_,_,_,rfl⟩:=h1;exact(aX (xE Z) G hr (cB 1 aq) (aQ len0)))))))) (fJ (aX (Bb Z) G hr (aB (aX (ux Z) G hr (cB 0 aq) (aQ len0)) aq) (aQ len0)))))))))
theorem Q4:bf ["stock","thing","sounds"] Jg (aK yK):=dG
include Z in
theorem pJ:Own P w K mg base "is_word" 2 Jg (jQ K 2 kJ):=by
 exact bu (k:=1) Z.VB Q4 (λf cdv A outer s H E hr G=>(di.u (au (bI (cQ (bK (fU (T:="str") rfl Z.bQ rfl Z.RD (by decide +kernel) Z.Be G.K (aU 1)))) (aA (aD dF)) bh)
   (au (bJ 2 (aX (ux Z) G hr (cB 0 aq) (aQ len0)))
   (aA (aD (jH G Z.jJ (aH (aG (bU (gb ["stock","thing","sounds","sign"] 3 cM G (cV G (aU 1)) (λX1 h1=>by have G:=G.at h1;obtain⟨_,_,_,_,_,rfl⟩:=h1;exact(aM 3)) (λX1 h1=>by have G:=G.at h1;obtain⟨_,_,_,_,_,rfl⟩:=h1;exact bM) (λX1 h1=>by have G:=G.at h1;obtain⟨_,_,_,_,_,rfl⟩:=h1;exact(jh 3 (Eu G) (bF 2))))))))))))))
theorem yD:bf ["sounds","thing","old","new"] Th (aK oO):=dG
include Z in
theorem Al:Own P w K mg base "changes_sound" 2 Th (jQ K 2 il):=by
 exact bu (k:=1) Z.Ae yD (λf cdv A outer s H E hr G=>(di.u (au (bI (cQ (bK (aX (lU Z) G hr (cB 1 aq) (aQ len0)))) (aA (aD dF)) bh)
   (au (iu (aU 1) (gH G (aP (aM 2) (aP (aM 3) cO))))
   (aA (aD (dM (jh 2 (Eu G) (bF 0)) (dM (J5 (jh 3 (Eu G) (bF 0)) (fJ (jh 3 (lD G) (aG (bL []))))) (fJ (jh 2 (zE G) (bF 3)))))))))))
theorem Ca:bf Th Th (aK qy):=dG
include Z in
theorem Fz:Own P w K mg base "puts_one_in" 2 Th (jQ K 2 iI):=by exact bu Z.Fd Ca<|λf cdv A outer s H E hr G=>(di.u<|aA<|aD<|dM (aX (lU Z) G hr (cB 1 aq)<|aQ len0)<|dM (pN (lD G) (bG 1 G<|aG aF)<|aG<|bL [])<|fJ<|pN (Eu G) (bG 1 G<|aG aF)<|bF 0)
theorem Cj:bf Th Th (aK qF):=dG
include Z in
theorem FQ:Own P w K mg base "are_changes" 3 Th (jQ K 2 eN):=by
 exact bu (k:=2) Z.Fj Cj (λf cdv A outer s H E hr G=>(di.u (au (bI (fK (eQ (cQ (bK (fU (T:="tuple") rfl Z.bQ rfl Z.cH (by decide +kernel) Z.fO G.K (aU 1)))) (gD (gG (lD G) (cG G Z.cD (aH (bF 1))) (aG aF))))) (aA (aD dF)) bh)
   (au (bI (fK (oA (gG (lD G) (cG G Z.cD (aH (bF 1))) (aG aF)) (pH (bK (aX (Fz Z) G hr (cB 0 (aB (bG 1 G (aG aF)) aq)) (aQ (aQ len0))))))) (aA (aD dF)) bh)
   (aA (aD (dM (jH G Z.jJ (aH (aG (bU (gb ["sounds","thing","change"] 2 cM G (cV G (aU 1)) (λX1 h1=>by have G:=G.at h1;obtain⟨_,_,_,_,_,rfl⟩:=h1;exact(aM 2)) (λX1 h1=>by have G:=G.at h1;obtain⟨_,_,_,_,_,rfl⟩:=h1;exact bM) (λX1 h1=>by have G:=G.at h1;obtain⟨_,_,_,_,_,rfl⟩:=h1;exact(aX (Al Z) G hr (cB 0 (cB 2 aq)) (aQ (aQ len0))))))))) (fJ (aX (Bb Z) G hr (aB (bU (gb ["sounds","thing","old","new"] 2 cM G (cV G (aU 1)) (λX1 h1=>by have G:=G.at h1;obtain⟨_,_,_,_,_,rfl⟩:=h1;exact(gH G (aP (aM 2) (aP (aM 3) cO)))) (λX1 h1=>by have G:=G.at h1;obtain⟨_,_,_,_,_,rfl⟩:=h1;exact bM) (λX1 h1=>by have G:=G.at h1;obtain⟨_,_,_,_,_,rfl⟩:=h1;exact(aU 2)))) aq) (aQ len0))))))))))
theorem JW:bf Th Th (aK uo):=dG
include Z in
theorem zN:Own P w K mg base "are_signs" 2 Th (jQ K 2 oF):=by
 obtain⟨Yl,Yq,fV⟩:=Z.fV;exact bu (k:=1) Z.LR JW (λf cdv A outer s H E hr G=>(di.u (au (bI (dY 1 ae4 (aG uT)) (aA (aD dF)) bh)
   (au (bI (fK (eQ (cQ (bK (fU (T:="tuple") rfl Z.bQ rfl Z.cH (by decide +kernel) Z.fO G.K (aU 1)))) (gD (gG (lD G) (cG G Z.cD (aH (bF 1))) (aG aF))))) (aA (aD dF)) bh)
   (aA (aD (dM (jH G Z.jJ (aH (aG (bU (gb ["sounds","thing","sign"] 2 cM G (cV G (aU 1)) (λX1 h1=>by have G:=G.at h1;obtain⟨_,_,_,_,_,rfl⟩:=h1;exact(aM 2)) (λX1 h1=>by have G:=G.at h1;obtain⟨_,_,_,_,_,rfl⟩:=h1;exact bM) (λX1 h1=>by have G:=G.at h1;obtain⟨_,_,_,_,_,rfl⟩:=h1;exact(J5 (jh 2 (lD G) (aG (iw (.str [35]) rfl fV.1 fV.2.1 (λF=>fV.2.2 F)))) (fJ (jh 2 (Eu G) (bF 0)))))))))) (fJ (aX (Bb Z) G hr (cB 1 aq) (aQ len0))))))))))
theorem Q6:bf ["stock","thing","way","changes","left","right","sounds"] Jg (aK yM):=dG
include Z in
theorem G3:Own P w K mg base "is_rule" 4 Jg (jQ K 2 nM):=by
 obtain⟨aop,aos,uV⟩:=Z.uV;exact bu (k:=3) Z.VF Q6 (λf cdv A outer s H E hr G=>(di.u (au (bI (fK (eQ (cQ (bK (fU (T:="tuple") rfl Z.bQ rfl Z.cH (by decide +kernel) Z.fO G.K (aU 1)))) (gD (gG (zE G) (cG G Z.cD (aH (bF 1))) (aG aF))))) (aA (aD dF)) bh)
   (au (iu (aU 1) (gH G (aP (aM 2) (aP (aM 3) (aP (aM 4) (aP (aM 5) cO))))))
   (au (bJ 6 (aX (ux Z) G hr (cB 0 aq) (aQ len0)))
   (aA (aD (dM (jh 2 (Eu G) (aG (iw (.tup [(.str [111,110,99,101]),(.str [97,108,111,110,103])]) rfl uV.1 uV.2.1 (λF=>uV.2.2 F)))) (dM (aX (FQ Z) G hr (cB 6 (cB 3 aq)) (aQ (aQ len0))) (dM (aX (zN Z) G hr (cB 6 (cB 4 aq)) (aQ (aQ len0))) (fJ (aX (zN Z) G hr (cB 6 (cB 5 aq)) (aQ (aQ len0))))))))))))))
theorem MT:bf ["stock","thing","side","rules"] Jg (aK v9):=dG
include Z in
theorem RB:Own P w K mg base "is_order" 5 Jg (jQ K 2 nO):=by
 obtain⟨acu,acy,lz⟩:=Z.lz;obtain⟨acs,acx,jX⟩:=Z.jX;exact bu (k:=4) Z.QH MT (λf cdv A outer s H E hr G=>(di.u (au (bI (cQ (bK (aX (lU Z) G hr (cB 1 aq) (aQ len0)))) (aA (aD dF)) bh)
   (au (iu (aU 1) (gH G (aP (aM 2) (aP (aM 3) cO))))
   (au (bI (fK (eQ (dY 2 (Bm G) (aG (iw (.tup [(.str [108,101,102,116]),(.str [114,105,103,104,116])]) rfl jX.1 jX.2.1 (λF=>jX.2.2 F)))) (eQ (cQ (bK (fU (T:="tuple") rfl Z.bQ rfl Z.cH (by decide +kernel) Z.fO G.K (aU 3)))) (gD (gG anm (cG G Z.cD (aH (bF 3))) (aG (iw (.int 4) rfl lz.1 lz.2.1 (λF=>lz.2.2 F)))))))) (aA (aD dF)) bh)
   (aA (aD (jH G Z.jJ (aH (aG (bU (gb ["stock","thing","side","rules","rule"] 4 cM G (cV G (aU 3)) (λX1 h1=>by have G:=G.at h1;obtain⟨_,_,_,_,_,rfl⟩:=h1;exact(aM 4)) (λX1 h1=>by have G:=G.at h1;obtain⟨_,_,_,_,_,rfl⟩:=h1;exact bM) (λX1 h1=>by have G:=G.at h1;obtain⟨_,_,_,_,_,rfl⟩:=h1;exact(aX (G3 Z) G hr (cB 0 (cB 4 aq)) (aQ (aQ len0))))))))))))))))
theorem acT:bf ["signs","sign"] ["signs","sign"] (aK Rh):=dG
include Z in
theorem Kh:Own P w K mg base "fits" 1 ["signs","sign"] (jQ K 2 jz):=by exact bu Z.agH acT<|λf cdv A outer s H E hr G=>(di.u<|aA<|aD<|J5 (jh 0 ae4<|aG uT)<|fJ<|jh 1 (Eu G)<|bF 0)
theorem V3:bf ["rule","way","changes","left","right"] ["rule"] (aK Ck):=dG
include Z in
theorem aaa:Own P w K mg base "turned" 1 ["rule"] (jQ K 1 uI):=by
 exact bu (k:=0) Z.Yx V3 (λf cdv A outer s H E hr G=>(di.u (au (iu (aU 0) (gH G (aP (aM 1) (aP (aM 2) (aP (aM 3) (aP (aM 4) cO))))))
   (aA (aD (cX (cB 1 (cB 2 (cB 4 (cB 3 aq))))))))))
theorem Q0:bf ["rule"] ["rule"] (aK yH):=dG
include Z in
theorem Wv:Own P w K mg base "puts_in" 1 ["rule"] (jQ K 1 pL):=by exact bu Z.Vy Q0<|λf cdv A outer s H E hr G=>(di.u<|aA<|aD<|pN (lD G) (n8 G (n8 G (bG 0 G<|aG aF)<|aG aF)<|aG aF)<|aG<|bL [])
theorem BZ:bf ["rule","word","way","changes","left","right","new","made_of","ahead","sign"] Zq3 (aK qx):=dG
include Z in
theorem Fy:Own P w K mg base "with_put_in" 2 Zq3 (jQ K 2 jF):=by
 obtain⟨Yl,Yq,fV⟩:=Z.fV;exact bu (k:=1) Z.Fb BZ (λf cdv A outer s H E hr G=>(di.u (au (iu (aU 0) (gH G (aP (aM 2) (aP (aM 3) (aP (aM 4) (aP (aM 5) cO))))))
   (au (bJ 6 (n8 G (bG 3 G (aG aF)) (aG aF)))
   (au (rF 7 (f9 aq))
   (au (bJ 8 (iw (.str [35]) rfl fV.1 fV.2.1 (λF=>fV.2.2 F)))
   (au (jV G (cV G (dJ 1 (fQ G) (aG (iw (.str [35]) rfl fV.1 fV.2.1 (λF=>fV.2.2 F))))) (aM 9) (au (bI (fK (oA (bK (aX (Kh Z) G hr (cB 4 (cB 8 aq)) (aQ (aQ len0)))) (pH (bK (aX (Kh Z) G hr (cB 5 (cB 9 aq)) (aQ (aQ len0))))))) (aA (yS 7 G (aU 6))) bh)
   (au (yS 7 G (aU 9))
   (aA (bJ 8 (aU 9))))))
   (aA (aD (Ax G (bL []) (aG (Yc G (aU 7) iU (gO (vH aF))))))))))))))
theorem Ah:bf ["rule","word","way","changes","left","right","becomes","signs","made_of","ahead","at","sound","new"] Zq3 (aK pP):=dG
include Z in
theorem CG:Own P w K mg base "with_changes" 2 Zq3 (jQ K 2 iV):=by
 obtain⟨Yl,Yq,fV⟩:=Z.fV;exact bu (k:=1) Z.By Ah (λf cdv A outer s H E hr G=>(di.u (au (iu (aU 0) (gH G (aP (aM 2) (aP (aM 3) (aP (aM 4) (aP (aM 5) cO))))))
   (au (bJ 6 (Tn G Z.Ue (aH (bF 3))))
   (au (bJ 7 (dJ 1 (fQ G) (aG (iw (.str [35]) rfl fV.1 fV.2.1 (λF=>fV.2.2 F)))))
   (au (rF 8 (f9 aq))
   (au (bJ 9 (iw (.str [35]) rfl fV.1 fV.2.1 (λF=>fV.2.2 F)))
   (au (jV G (aec Z.Kq (cB 1 aq)) (gH G (aP (aM 10) (aP (aM 11) cO))) (au (bJ 12 (aU 11))
   (au (bI (fK (oA (dY 11 (Vb G) (bF 6)) (oA (bK (aX (Kh Z) G hr (cB 4 (cB 9 aq)) (aQ (aQ len0)))) (pH (bK (aX (Kh Z) G hr (cB 5 (aB (bG 7 G (aG (dJ 10 (fQ G) (aG aF)))) aq)) (aQ (aQ len0)))))))) (aA (bJ 12 (Bt 6 G (bF 11)))) bh)
   (au (yS 8 G (aU 12))
   (aA (bI (dY 2 (lD G) (aG (bL [111,110,99,101]))) (aA (bJ 9 (aU 11))) (aA (bI (dY 12 (zE G) (aG (bL []))) (aA (bJ 9 (aU 12))) bh))))))))
   (aA (aD (Ax G (bL []) (bF 8))))))))))))
theorem JV:bf Zq3 Zq3 (aK um):=dG
include Z in
theorem zM:Own P w K mg base "from_left" 3 Zq3 (jQ K 2 j5):=by
 exact bu (k:=2) Z.LK JV (λf cdv A outer s H E hr G=>(di.u (au (bI (bK (aX (Wv Z) G hr (cB 0 aq) (aQ len0))) (aA (aD (aX (Fy Z) G hr (cB 0 (cB 1 aq)) (aQ (aQ len0))))) bh)
   (aA (aD (aX (CG Z) G hr (cB 0 (cB 1 aq)) (aQ (aQ len0))))))))
theorem Rb:bf afp afp (aK yR):=dG
include Z in
theorem WD:Own P w K mg base "changed" 4 afp (jQ K 3 lX):=by
 exact bu (k:=3) Z.VM Rb (λf cdv A outer s H E hr G=>(di.u (au (bI (dY 0 (lD G) (aG (bL [114,105,103,104,116]))) (aA (aD (Jm (aX (zM Z) G hr (aB (aX (aaa Z) G hr (cB 1 aq) (aQ len0)) (aB (Jm (aU 2)) aq)) (aQ (aQ len0)))))) bh)
   (aA (aD (aX (zM Z) G hr (cB 1 (cB 2 aq)) (aQ (aQ len0))))))))
theorem acQ:bf ["order","word","side","rules","words","rule"] Zq6 (aK Rc):=dG
include Z in
theorem ahX:Own P w K mg base "walk" 5 Zq6 (jQ K 2 Ei):=by
 exact bu (k:=4) Z.agE acQ (λf cdv A outer s H E hr G=>(di.u (au (iu (aU 0) (gH G (aP (aM 2) (aP (aM 3) cO))))
   (au (rF 4 (f9 (cB 1 aq)))
   (au (jV G (cV G (aU 3)) (aM 5) (aA (yS 4 G (aX (WD Z) G hr (cB 2 (cB 5 (aB (bG 4 G (aG (vH aF))) aq))) (aQ (aQ (aQ len0)))))))
   (aA (aD (gQ G Z.cH (aH (bF 4))))))))))
theorem acR:bf Zq6 Zq6 (aK Rf):=dG
include Z in
theorem aab:Own P w K mg base "made" 6 Zq6 (jQ K 2 mW):=by exact bu Z.agF acR<|λf cdv A outer s H E hr G=>(di.u<|aA<|aD<|n8 G (aX (ahX Z) G hr (cB 0<|cB 1 aq)<|aQ<|aQ len0)<|aG<|vH aF)
theorem MF:bf yj yj (aK vY):=dG
include Z in
theorem CT:Own P w K mg base "is_whole" 1 yj (jQ K 1 su):=by exact bu Z.QC MF<|λf cdv A outer s H E hr G=>(di.u<|aA<|aD<|dM (fU rfl Z.bQ rfl Z.aak (by decide +kernel) Z.KH G.K (aU 0))<|fJ<|TY<|fU rfl Z.bQ rfl Z.Ug (by decide +kernel) Z.Dn G.K (aU 0))
theorem vM:bf Zq5 Zq5 (aK mF):=dG
include Z in
theorem qg:Own P w K mg base "is_number_below" 2 Zq5 (jQ K 2 gm):=by exact bu Z.wZ vM<|λf cdv A outer s H E hr G=>(di.u<|aA<|aD<|dM (aX (CT Z) G hr (cB 1 aq)<|aQ len0)<|fJ<|Lk Ph abE aF (aU 1)<|aU 0)
theorem V4:bf Zq5 Zq5 (aK Cp):=dG
include Z in
theorem Nk:Own P w K mg base "is_row" 1 Zq5 (jQ K 2 uJ):=by exact bu Z.Yy V4<|λf cdv A outer s H E hr G=>(di.u<|aA<|aD<|dM (fU rfl Z.bQ rfl Z.cH (by decide +kernel) Z.fO G.K (aU 1))<|fJ<|pN (lD G) (cG G Z.cD<|aH<|bF 1)<|bF 0)
theorem Q5:bf Zq7 Zq7 (aK yL):=dG
include Z in
theorem Wx:Own P w K mg base "is_step" 3 Zq7 (jQ K 3 Iv):=by exact bu Z.VD Q5<|λf cdv A outer s H E hr G=>(di.u<|aA<|aD<|dM (aX (lU Z) G hr (cB 2 aq)<|aQ len0)<|dM (aX (pJ Z) G hr (cB 0<|aB (bG 2 G<|aG aF) aq)<|aQ<|aQ len0)<|fJ<|aX (qg Z) G hr (cB 1<|aB (bG 2 G<|aG aF) aq)<|aQ<|aQ len0)
theorem MN:bf ["stock","many","thing","end","steps"] Zq7 (aK v7):=dG
include Z in
theorem Ry:Own P w K mg base "is_state" 4 Zq7 (jQ K 3 Ej):=by
 exact bu (k:=3) Z.QF MN (λf cdv A outer s H E hr G=>(di.u (au (bI (cQ (bK (aX (lU Z) G hr (cB 2 aq) (aQ len0)))) (aA (aD dF)) bh)
   (au (iu (aU 2) (gH G (aP (aM 3) (aP (aM 4) cO))))
   (aA (aD (dM (aX (pJ Z) G hr (cB 0 (cB 3 aq)) (aQ (aQ len0))) (dM (aX (Nk Z) G hr (aB (cG G Z.cD (aH (bF 0))) (cB 4 aq)) (aQ (aQ len0))) (fJ (jH G Z.jJ (aH (aG (bU (gb ["stock","many","thing","end","steps","step"] 5 cM G (cV G (aU 4)) (λX1 h1=>by have G:=G.at h1;obtain⟨_,_,_,_,_,rfl⟩:=h1;exact(aM 5)) (λX1 h1=>by have G:=G.at h1;obtain⟨_,_,_,_,_,rfl⟩:=h1;exact bM) (λX1 h1=>by have G:=G.at h1;obtain⟨_,_,_,_,_,rfl⟩:=h1;exact(aX (Wx Z) G hr (cB 0 (cB 1 (cB 5 aq))) (aQ (aQ (aQ len0)))))))))))))))))))
theorem Fx:bf ["stock","thing","first","states"] Jg (aK rM):=dG
include Z in
theorem Kg:Own P w K mg base "is_machine" 5 Jg (jQ K 2 xV):=by
 exact bu (k:=4) Z.Jx Fx (λf cdv A outer s H E hr G=>(di.u (au (bI (cQ (bK (aX (lU Z) G hr (cB 1 aq) (aQ len0)))) (aA (aD dF)) bh)
   (au (iu (aU 1) (gH G (aP (aM 2) (aP (aM 3) cO))))
   (au (bI (fK (eQ (cQ (bK (aX (pJ Z) G hr (cB 0 (cB 2 aq)) (aQ (aQ len0))))) (eQ (cQ (bK (fU (T:="tuple") rfl Z.bQ rfl Z.cH (by decide +kernel) Z.fO G.K (aU 3)))) (gD (gG (lD G) (cG G Z.cD (aH (bF 3))) (aG aF)))))) (aA (aD dF)) bh)
   (aA (aD (jH G Z.jJ (aH (aG (bU (gb ["stock","thing","first","states","state"] 4 cM G (cV G (aU 3)) (λX1 h1=>by have G:=G.at h1;obtain⟨_,_,_,_,_,rfl⟩:=h1;exact(aM 4)) (λX1 h1=>by have G:=G.at h1;obtain⟨_,_,_,_,_,rfl⟩:=h1;exact bM) (λX1 h1=>by have G:=G.at h1;obtain⟨_,_,_,_,_,rfl⟩:=h1;exact(aX (Ry Z) G hr (cB 0 (aB (cG G Z.cD (aH (bF 3))) (cB 4 aq))) (aQ (aQ (aQ len0)))))))))))))))))
theorem Ai:bf Jg Jg (aK pQ):=dG
include Z in
theorem CV:Own P w K mg base "is_told_pair" 3 Jg (jQ K 2 iW):=by exact bu Z.BJ Ai<|λf cdv A outer s H E hr G=>(di.u<|aA<|aD<|dM (aX (lU Z) G hr (cB 1 aq)<|aQ len0)<|dM (aX (pJ Z) G hr (cB 0<|aB (bG 1 G<|aG aF) aq)<|aQ<|aQ len0)<|fJ<|aX (pJ Z) G hr (cB 0<|aB (bG 1 G<|aG aF) aq)<|aQ<|aQ len0)
theorem Ra:bf Jg Jg (aK yQ):=dG
include Z in
theorem Wz:Own P w K mg base "is_book" 4 Jg (jQ K 2 nQ):=by
 obtain⟨acv,acz,lA⟩:=Z.lA;exact bu (k:=3) Z.VL Ra (λf cdv A outer s H E hr G=>(di.u (au (bI (fK (eQ (cQ (bK (fU (T:="tuple") rfl Z.bQ rfl Z.cH (by decide +kernel) Z.fO G.K (aU 1)))) (gD (cQ (LQ Ph Ph aF (cG G Z.cD (aH (bF 1))) (iw (.int 6) rfl lA.1 lA.2.1 (λF=>lA.2.2 F))))))) (aA (aD dF)) bh)
   (aA (aD (jH G Z.jJ (aH (aG (bU (gb ["stock","thing","pair"] 2 cM G (cV G (aU 1)) (λX1 h1=>by have G:=G.at h1;obtain⟨_,_,_,_,_,rfl⟩:=h1;exact(aM 2)) (λX1 h1=>by have G:=G.at h1;obtain⟨_,_,_,_,_,rfl⟩:=h1;exact bM) (λX1 h1=>by have G:=G.at h1;obtain⟨_,_,_,_,_,rfl⟩:=h1;exact(aX (CV Z) G hr (cB 0 (cB 2 aq)) (aQ (aQ len0))))))))))))))
theorem yE:bf ["many","rows","turn"] ["many"] (aK oR):=dG
include Z in
theorem sX:Own P w K mg base "all_orderings" 1 ["many"] (jQ K 1 dC):=by
 exact bu (k:=0) Z.Af yE (λf cdv A outer s H E hr G=>(di.u (au (bJ 1 (bU (f9 (aB (cX aq) aq))))
   (au (jV G (iQ Z.eU (cB 0 aq) (aQ len0)) (aM 2) (aA (YW ["many","rows","turn","row","number"] 3 1 cM G (cV G (aU 1)) (λX1 h1=>by have G:=G.at h1;obtain⟨_,_,_,_,_,rfl⟩:=h1;exact(aM 3)) (λX1 h1=>by have G:=G.at h1;obtain⟨_,_,_,_,_,rfl⟩:=h1;exact(iQ Z.eU (cB 0 aq) (aQ len0))) (λX1 h1=>by have G:=G.at h1;obtain⟨_,_,_,_,_,rfl⟩:=h1;exact(aM 4)) (λX1 h1=>by have G:=G.at h1;obtain⟨_,_,_,_,_,rfl⟩:=h1;exact(j7 (dY 4 (Bm G) (bF 3)))) (λX1 h1=>by have G:=G.at h1;obtain⟨_,_,_,_,_,rfl⟩:=h1;exact(dJ 3 (fQ G) (aG (cX (cB 4 aq))))))))
   (aA (aD (aU 1)))))))
theorem acS:bf ["order","ordering","side","rules"] ["order","ordering"] (aK Rg):=dG
include Z in
theorem aac:Own P w K mg base "laid" 1 ["order","ordering"] (jQ K 2 sr):=by
 exact bu (k:=0) Z.agG acS (λf cdv A outer s H E hr G=>(di.u (au (iu (aU 0) (gH G (aP (aM 2) (aP (aM 3) cO))))
   (aA (aD (cX (cB 2 (aB (gQ G Z.cH (aH (aG (bU (gb ["order","ordering","side","rules","number"] 4 cM G (cV G (aU 1)) (λX1 h1=>by have G:=G.at h1;obtain⟨_,_,_,_,_,rfl⟩:=h1;exact(aM 4)) (λX1 h1=>by have G:=G.at h1;obtain⟨_,_,_,_,_,rfl⟩:=h1;exact bM) (λX1 h1=>by have G:=G.at h1;obtain⟨_,_,_,_,_,rfl⟩:=h1;exact(bG 3 G (bF 4)))))))) aq))))))))
theorem Fp:bf Zq8 Zq8 (aK rE):=dG
include Z in
theorem xC:Own P w K mg base "pairs_told" 7 Zq8 (jQ K 2 gJ):=by exact bu Z.Js Fp<|λf cdv A outer s H E hr G=>(di.u<|aA<|aD<|bU<|gb ["order","book","word","form"] 2 cM G (cV G<|aU 1) (λX1 h1=>by have G:=G.at h1;obtain⟨_,_,_,_,_,rfl⟩:=h1;exact(gH G<|aP (aM 2)<|aP (aM 3) cO)) (λX1 h1=>by have G:=G.at h1;obtain⟨_,_,_,_,_,rfl⟩:=h1;exact bM) (λX1 h1=>by have G:=G.at h1;obtain⟨_,_,_,_,_,rfl⟩:=h1;exact(pN (lD G) (aX (aab Z) G hr (cB 0<|cB 2 aq)<|aQ<|aQ len0)<|bF 3)))
theorem Fw:bf afo afo (aK rK):=dG
include Z in
theorem Kf:Own P w K mg base "is_quarrel" 1 afo (jQ K 2 kO):=by exact bu Z.Jw Fw<|λf cdv A outer s H E hr G=>(di.u<|aA<|aD<|TY<|Ye G Z.aal<|aH<|aG<|bU<|gb ["tellings","numbers","telling"] 2 cM G (cV G<|aU 0) (λX1 h1=>by have G:=G.at h1;obtain⟨_,_,_,_,_,rfl⟩:=h1;exact(aM 2)) (λX1 h1=>by have G:=G.at h1;obtain⟨_,_,_,_,_,rfl⟩:=h1;exact bM) (λX1 h1=>by have G:=G.at h1;obtain⟨_,_,_,_,_,rfl⟩:=h1;exact(jH G Z.jJ<|aH<|aG<|bU<|gb ["tellings","numbers","telling","number"] 3 cM G (cV G<|aU 1) (λX1 h1=>by have G:=G.at h1;obtain⟨_,_,_,_,_,rfl⟩:=h1;exact(aM 3)) (λX1 h1=>by have G:=G.at h1;obtain⟨_,_,_,_,_,rfl⟩:=h1;exact bM) (λX1 h1=>by have G:=G.at h1;obtain⟨_,_,_,_,_,rfl⟩:=h1;exact(bG 2 G<|bF 3)))))
theorem QZ:bf ["tellings","many","numbers","number","others"] ["tellings","many"] (aK yG):=dG
include Z in
theorem Wu:Own P w K mg base "quarrel" 2 ["tellings","many"] (jQ K 2 nD):=by
 exact bu (k:=1) Z.Vx QZ (λf cdv A outer s H E hr G=>(di.u (au (bJ 2 (bU (adL G Z.Ud Z.eU (aU 1))))
   (au (jV G (iQ Z.eU (cB 1 aq) (aQ len0)) (aM 3) (au (Gx ["tellings","many","numbers","number","others","each"] 5 4 cM G (cV G (aU 2)) (λX1 h1=>by have G:=G.at h1;obtain⟨_,_,_,_,_,rfl⟩:=h1;exact(aM 5)) (λX1 h1=>by have G:=G.at h1;obtain⟨_,_,_,_,_,rfl⟩:=h1;exact(j7 (dY 5 (zE G) (bF 3)))) (λX1 h1=>by have G:=G.at h1;obtain⟨_,_,_,_,_,rfl⟩:=h1;exact(aU 5)))
   (aA (bI (bK (aX (Kf Z) G hr (cB 0 (cB 4 aq)) (aQ (aQ len0)))) (aA (bJ 2 (aU 4))) bh))))
   (aA (aD (gQ G Z.cH (aH (bF 2)))))))))
theorem QX:bf ["order","book","orderings","tellings","telling_all"] Zq8 (aK yF):=dG
include Z in
theorem Wt:Own P w K mg base "told_by" 8 Zq8 (jQ K 2 nC):=by
 exact bu (k:=7) Z.Vw QX (λf cdv A outer s H E hr G=>(di.u (au (bJ 2 (aX (sX Z) G hr (aB (cG G Z.cD (aH (aG (bG 0 G (aG aF))))) aq) (aQ len0)))
   (au (Gx ["order","book","orderings","tellings","telling_all","ordering"] 5 3 cM G (cV G (aU 2)) (λX1 h1=>by have G:=G.at h1;obtain⟨_,_,_,_,_,rfl⟩:=h1;exact(aM 5)) (λX1 h1=>by have G:=G.at h1;obtain⟨_,_,_,_,_,rfl⟩:=h1;exact bM) (λX1 h1=>by have G:=G.at h1;obtain⟨_,_,_,_,_,rfl⟩:=h1;exact(aX (xC Z) G hr (aB (aX (aac Z) G hr (cB 0 (cB 5 aq)) (aQ (aQ len0))) (cB 1 aq)) (aQ (aQ len0)))))
   (au (Gx ["order","book","orderings","tellings","telling_all","ordering","telling"] 5 4 cM G (aaX G Z.Kp (cB 2 (cB 3 aq))) (λX1 h1=>by have G:=G.at h1;obtain⟨_,_,_,_,_,rfl⟩:=h1;exact(gH G (aP (aM 5) (aP (aM 6) cO)))) (λX1 h1=>by have G:=G.at h1;obtain⟨_,_,_,_,_,rfl⟩:=h1;exact(j7 (bK (jH G Z.jJ (aH (bF 6)))))) (λX1 h1=>by have G:=G.at h1;obtain⟨_,_,_,_,_,rfl⟩:=h1;exact(aU 5)))
   (au (bI (dY 4 (zE G) (aG (bU (f9 aq)))) (aA (aD (cX (aB (bL [116,111,108,100]) (aB (gQ G Z.cH (aH (bF 4))) aq))))) bh)
   (aA (aD (cX (aB (bL [113,117,97,114,114,101,108]) (aB (aX (Wu Z) G hr (cB 3 (aB (cG G Z.cD (aH (bF 1))) aq)) (aQ (aQ len0))) aq)))))))))))
theorem yz:bf ["stock","order","book","told","pairs","tellings"] ["stock","order","book"] (aK oM):=dG
include Z in
theorem Ak:Own P w K mg base "paper_quarrel" 9 ["stock","order","book"] (jQ K 3 gA):=by
 exact bu (k:=8) Z.Ac yz (λf cdv A outer s H E hr G=>(di.u (au (bJ 3 (aX (Wt Z) G hr (cB 1 (cB 2 aq)) (aQ (aQ len0))))
   (au (bI (gG (zE G) (bG 3 G (aG aF)) (aG (bL [113,117,97,114,114,101,108]))) (aA (aD uT)) bh)
   (au (bJ 4 (gQ G Z.cH (aH (aG (bU (gb ["stock","order","book","told","pairs","tellings","number"] 6 cM G (cV G (bG 3 G (aG aF))) (λX1 h1=>by have G:=G.at h1;obtain⟨_,_,_,_,_,rfl⟩:=h1;exact(aM 6)) (λX1 h1=>by have G:=G.at h1;obtain⟨_,_,_,_,_,rfl⟩:=h1;exact bM) (λX1 h1=>by have G:=G.at h1;obtain⟨_,_,_,_,_,rfl⟩:=h1;exact(bG 2 G (bF 6)))))))))
   (au (Gx ["stock","order","book","told","pairs","tellings","ordering"] 6 5 cM G (cV G (aX (sX Z) G hr (aB (cG G Z.cD (aH (aG (bG 1 G (aG aF))))) aq) (aQ len0))) (λX1 h1=>by have G:=G.at h1;obtain⟨_,_,_,_,_,rfl⟩:=h1;exact(aM 6)) (λX1 h1=>by have G:=G.at h1;obtain⟨_,_,_,_,_,rfl⟩:=h1;exact bM) (λX1 h1=>by have G:=G.at h1;obtain⟨_,_,_,_,_,rfl⟩:=h1;exact(aX (xC Z) G hr (aB (aX (aac Z) G hr (cB 1 (cB 6 aq)) (aQ (aQ len0))) (cB 4 aq)) (aQ (aQ len0)))))
   (aA (aD (cX (aB (cX (aB (bL [113,117,97,114,114,101,108]) (cB 0 (cB 1 (cB 4 aq))))) (aB (gQ G Z.cH (aH (aG (bU (gb ["stock","order","book","told","pairs","tellings","telling"] 6 cM G (cV G (aU 5)) (λX1 h1=>by have G:=G.at h1;obtain⟨_,_,_,_,_,rfl⟩:=h1;exact(aM 6)) (λX1 h1=>by have G:=G.at h1;obtain⟨_,_,_,_,_,rfl⟩:=h1;exact bM) (λX1 h1=>by have G:=G.at h1;obtain⟨_,_,_,_,_,rfl⟩:=h1;exact(Br G (aU 6) (aG dF)))))))) aq)))))))))))
theorem Q7:bf afn afn (aK yN):=dG
include Z in
theorem Wy:Own P w K mg base "is_part" 6 afn (jQ K 3 kW):=by
 obtain⟨acs,acx,jX⟩:=Z.jX;exact bu (k:=5) Z.VG Q7 (λf cdv A outer s H E hr G=>(di.u (au (bI (dY 1 (lD G) (aG (bL [111,114,100,101,114]))) (aA (aD (aX (RB Z) G hr (cB 0 (cB 2 aq)) (aQ (aQ len0))))) bh)
   (au (bI (dY 1 (lD G) (aG (bL [114,117,108,101]))) (aA (aD (aX (G3 Z) G hr (cB 0 (cB 2 aq)) (aQ (aQ len0))))) bh)
   (au (bI (dY 1 (lD G) (aG (bL [119,111,114,100]))) (aA (aD (aX (pJ Z) G hr (cB 0 (cB 2 aq)) (aQ (aQ len0))))) bh)
   (au (bI (dY 1 (lD G) (aG (bL [109,97,99,104,105,110,101]))) (aA (aD (aX (Kg Z) G hr (cB 0 (cB 2 aq)) (aQ (aQ len0))))) bh)
   (au (bI (dY 1 (lD G) (aG (bL [98,111,111,107]))) (aA (aD (aX (Wz Z) G hr (cB 0 (cB 2 aq)) (aQ (aQ len0))))) bh)
   (au (bI (dY 1 (lD G) (aG (bL [115,105,100,101]))) (aA (aD (jh 2 (Eu G) (aG (iw (.tup [(.str [108,101,102,116]),(.str [114,105,103,104,116])]) rfl jX.1 jX.2.1 (λF=>jX.2.2 F)))))) bh)
   (aA (aD (aX (CT Z) G hr (cB 2 aq) (aQ len0))))))))))))
theorem JX:bf afm afm (aK uq):=dG
include Z in
theorem Nm:Own P w K mg base "are_parts" 7 afm (jQ K 3 qp):=by
 exact bu (k:=6) Z.Ma JX (λf cdv A outer s H E hr G=>(di.u (au (bI (gG (zE G) (cG G Z.cD (aH (bF 2))) (aG (cG G Z.cD (aH (bF 1))))) (aA (aD dF)) bh)
   (au (bI (cQ (bK (jH G Z.jJ (aH (aG (bU (gb ["stock","kinds","things","kind","thing"] 3 cM G (aaY G Z.Kp (cB 1 (cB 2 aq))) (λX1 h1=>by have G:=G.at h1;obtain⟨_,_,_,_,_,rfl⟩:=h1;exact(gH G (aP (aM 3) (aP (aM 4) cO)))) (λX1 h1=>by have G:=G.at h1;obtain⟨_,_,_,_,_,rfl⟩:=h1;exact bM) (λX1 h1=>by have G:=G.at h1;obtain⟨_,_,_,_,_,rfl⟩:=h1;exact(aX (Wy Z) G hr (cB 0 (cB 3 (cB 4 aq))) (aQ (aQ (aQ len0)))))))))))) (aA (aD dF)) bh)
   (aA (aD (pN Ph (Yd ["stock","kinds","things","kind","thing"] 3 cM G Z.cD (aaY G Z.Kp (cB 1 (cB 2 aq))) (λX1 h1=>by have G:=G.at h1;obtain⟨_,_,_,_,_,rfl⟩:=h1;exact(gH G (aP (aM 3) (aP (aM 4) cO)))) (λX1 h1=>by have G:=G.at h1;obtain⟨_,_,_,_,_,rfl⟩:=h1;exact(j7 (dY 3 (lD G) (aG (bL [111,114,100,101,114]))))) (λX1 h1=>by have G:=G.at h1;obtain⟨_,_,_,_,_,rfl⟩:=h1;exact(bG 4 G (aG aF)))) (aG aF))))))))
theorem Q3:bf ["rules","rows","turn"] ["rules"] (aK yJ):=dG
include Z in
theorem Ww:Own P w K mg base "layings" 1 ["rules"] (jQ K 1 uW):=by
 exact bu (k:=0) Z.Vz Q3 (λf cdv A outer s H E hr G=>(di.u (au (bJ 1 (bU (f9 (aB (cX aq) aq))))
   (au (jV G (iQ Z.eU (aB (cG G Z.cD (aH (bF 0))) aq) (aQ len0)) (aM 2) (aA (YW ["rules","rows","turn","row","number"] 3 1 cM G (cV G (aU 1)) (λX1 h1=>by have G:=G.at h1;obtain⟨_,_,_,_,_,rfl⟩:=h1;exact(aM 3)) (λX1 h1=>by have G:=G.at h1;obtain⟨_,_,_,_,_,rfl⟩:=h1;exact(iQ Z.eU (aB (cG G Z.cD (aH (bF 0))) aq) (aQ len0))) (λX1 h1=>by have G:=G.at h1;obtain⟨_,_,_,_,_,rfl⟩:=h1;exact(aM 4)) (λX1 h1=>by have G:=G.at h1;obtain⟨_,_,_,_,_,rfl⟩:=h1;exact(j7 (dY 4 (Bm G) (bF 3)))) (λX1 h1=>by have G:=G.at h1;obtain⟨_,_,_,_,_,rfl⟩:=h1;exact(dJ 3 (fQ G) (aG (cX (cB 4 aq))))))))
   (aA (aD (bU (gb ["rules","rows","turn","row"] 3 cM G (cV G (aU 1)) (λX1 h1=>by have G:=G.at h1;obtain⟨_,_,_,_,_,rfl⟩:=h1;exact(aM 3)) (λX1 h1=>by have G:=G.at h1;obtain⟨_,_,_,_,_,rfl⟩:=h1;exact bM) (λX1 h1=>by have G:=G.at h1;obtain⟨_,_,_,_,_,rfl⟩:=h1;exact(gQ G Z.cH (aH (aG (bU (gb ["rules","rows","turn","row","number"] 4 cM G (cV G (aU 3)) (λX1 h1=>by have G:=G.at h1;obtain⟨_,_,_,_,_,rfl⟩:=h1;exact(aM 4)) (λX1 h1=>by have G:=G.at h1;obtain⟨_,_,_,_,_,rfl⟩:=h1;exact bM) (λX1 h1=>by have G:=G.at h1;obtain⟨_,_,_,_,_,rfl⟩:=h1;exact(bG 0 G (bF 4)))))))))))))))))
theorem yx:bf ["stock","parts","paper","order","book","side","rules","rows"] ake (aK oK):=dG
include Z in
theorem Aj:Own P w K mg base "quarrel_shown" 7 ake (jQ K 3 dZ):=by
 exact bu (k:=6) Z.Ab yx (λf cdv A outer s H E hr G=>(di.u (au (iu (aU 1) (gH G (aP (aM 3) (aP (aM 4) cO))))
   (au (iu (aU 3) (gH G (aP (aM 5) (aP (aM 6) cO))))
   (au (bJ 7 (aX (Ww Z) G hr (cB 6 aq) (aQ len0)))
   (au (bI (fK (eQ (cQ (bK (aX (Nk Z) G hr (aB (cG G Z.cD (aH (bF 7))) (cB 2 aq)) (aQ (aQ len0))))) (gD (cQ (bK (jH G Z.jJ (aH (aG (bU (gb ["stock","parts","paper","order","book","side","rules","rows","number"] 8 cM G (cV G (aU 2)) (λX1 h1=>by have G:=G.at h1;obtain⟨_,_,_,_,_,rfl⟩:=h1;exact(aM 8)) (λX1 h1=>by have G:=G.at h1;obtain⟨_,_,_,_,_,rfl⟩:=h1;exact bM) (λX1 h1=>by have G:=G.at h1;obtain⟨_,_,_,_,_,rfl⟩:=h1;exact(aX (qg Z) G hr (aB (cG G Z.cD (aH (bF 4))) (cB 8 aq)) (aQ (aQ len0)))))))))))))) (aA (aD dF)) bh)
   (aA (aD (jH G Z.jJ (aH (aG (bU (gb ["stock","parts","paper","order","book","side","rules","rows","row","number"] 8 cM G (aeb G Z.Kp (cB 7 (cB 2 aq))) (λX1 h1=>by have G:=G.at h1;obtain⟨_,_,_,_,_,rfl⟩:=h1;exact(gH G (aP (aM 8) (aP (aM 9) cO)))) (λX1 h1=>by have G:=G.at h1;obtain⟨_,_,_,_,_,rfl⟩:=h1;exact bM) (λX1 h1=>by have G:=G.at h1;obtain⟨_,_,_,_,_,rfl⟩:=h1;exact(pN (zE G) (aX (aab Z) G hr (aB (cX (cB 5 (cB 8 aq))) (aB (n8 G (bG 4 G (bF 9)) (aG aF)) aq)) (aQ (aQ len0))) (aG (n8 G (bG 4 G (bF 9)) (aG aF))))))))))))))))))
theorem YT:bf ["claim","paper","word","stock","parts","shown"] ["claim","paper"] (aK J1):=dG
include Z in
theorem Ub:Own P w K mg base "holds" 8 ["claim","paper"] (jQ K 2 sE):=by
 obtain⟨XH,XJ,nA⟩:=Z.nA;exact bu (k:=7) Z.acF YT (λf cdv A outer s H E hr G=>(di.u (au (bI (fK (eQ (cQ (bK (fU (T:="tuple") rfl Z.bQ rfl Z.cH (by decide +kernel) Z.fO G.K (aU 0)))) (gD (gG abE (cG G Z.cD (aH (bF 0))) (aG aF))))) (aA (aD dF)) bh)
   (au (bJ 2 (bG 0 G (aG aF)))
   (au (bJ 3 (bG 0 G (aG aF)))
   (au (bI (fK (eQ (cQ (bK (fU (T:="str") rfl Z.bQ rfl Z.RD (by decide +kernel) Z.Be G.K (aU 2)))) (eQ (Qs Z.xM (aU 2)) (gD (cQ (bK (aX (Rx Z) G hr (cB 3 aq) (aQ len0)))))))) (aA (aD dF)) bh)
   (au (bJ 4 (Bq G (aU 0) (gO aF) iU))
   (au (bJ 5 (Lj Z.DY G (aU 2)))
   (aA (aD (dM (aX (Nm Z) G hr (cB 3 (aB (Lj Z.xM G (aU 2)) (cB 4 aq))) (aQ (aQ (aQ len0)))) (fJ (agw 5 (Aj Z) Z.nA G hr (by rfl) (cB 3 (cB 4 (cB 1 aq))) (aQ (aQ (aQ len0))))))))))))))))
theorem JT:bf ["_law_cell"] ["_law_cell"] (aK uh):=dG
include Z in
theorem Nj:Own P w K mg base "_law_mixed" 1 ["_law_cell"] (jQ K 1 j4):=by exact bu (k:=0) Z.Lz JT<|λf cdv A outer s H E hr G=>(di.u<|aA<|aD<|fZ anu (dJ 0 abG<|aG aF)<|aG<|fZ agb aF<|aG aF)
theorem Mw:bf ["_law_script","_law_k","_law_found","_law_at"] ["_law_script","_law_k"] (aK vU):=dG
include Z in
theorem CN:Own P w K mg base "_law_pack" 2 ["_law_script","_law_k"] (spN K 2 jx):=by
 exact adz (k:=1) Z.Qx Mw (λf cdv A outer s H E hr G=>(di.u (au (bJ 2 aF)
   (au (jV G (cV G (bU (f9 (aB (dJ 1 (fQ G) (aG aF)) (cB 1 aq))))) (aM 3) (aA (bJ 2 (fZ (fQ G) (dJ 2 abG (aG (fZ agb aF (aG aF)))) (aG (aX (Nj Z) G hr (aB (n8 G (fZ (fQ G) (Yc G (aU 0) (gO (aU 3)) (gO (dJ 3 (fQ G) (aG aF)))) (aG (bU (f9 (aB (fZ (fQ G) (fZ abG aF (bF 3)) (aG aF)) aq))))) (aG aF)) aq) (aQ len0)))))))
   (aA (M6 (f9 (cB 2 aq))))))))
theorem Mu:bf ["_law_pack_here","_law_size","_law_digit"] akd (aK vQ):=dG
include Z in
theorem dw:Own P w K mg base "_law_take" 1 akd (yu K 2 bz):=by
 exact wu (k:=0) Z.Qv Mu (λf cdv A outer s H E a hr G=>(di.u (au (iu (Vn G Z.WK (Rm (bG 0 G (aG aF)) (aH (bF 1)))) (gH G (aP (amQ 0 aF) (aP (aM 2) cO))))
   (aA (aD (aU 2))))))
theorem JP:bf ["_law_pack_here","_law_sounds_here","_law_known","_law_found","_law_sound","_law_number","_law_marks"] ["_law_pack_here"] (aK ue):=dG
include Z in
theorem Nh:Own P w K mg base "_law_stock" 2 ["_law_pack_here"] (yu K 1 ql):=by
 exact wu (k:=1) Z.Lw JP (λf cdv A outer s H E a hr G=>(di.u (au (bJ 1 (n8 G (bU (adK (pI (bL [97]) (pI (bL [97,98]) (pI (bL [97,98]) (pI (bL [97,98,99]) (pI (bL [97,101,112,116]) (pI (bL [109,110,122]) Zk)))))))) (aG (je 0 (dw Z) G hr (aB aF aq) (jf (aQ len0))))))
   (au (bJ 2 (bU (f9 (aB (bL [115,116,111,112]) (aB (bL [115,116,111,112,115]) (aB (bL [115]) (aB (bL [111,112,101,110]) (aB (bL [97,98,99,100,101,102,103,104]) aq))))))))
   (au (rF 3 (f9 aq))
   (au (jV G (cV G (aU 1)) (aM 4) (au (bJ 5 (je 0 (dw Z) G hr (aB aF aq) (jf (aQ len0))))
   (au (bJ 6 (Gr G Z.G5 (aH (aG (bU (gb ["_law_pack_here","_law_sounds_here","_law_known","_law_found","_law_sound","_law_number","_law_marks","_law_k"] 7 cM G (iQ Z.eU (aB aF aq) (aQ len0)) (λX1 h1=>by have G:=G.at h1;obtain⟨_,_,_,_,_,rfl⟩:=h1;exact(aM 7)) (λX1 h1=>by have G:=G.at h1;obtain⟨_,_,_,_,_,rfl⟩:=h1;exact(j7 (gG (lD G) (fZ agd (dJ 5 aga (bF 7)) (aG aF)) (aG aF)))) (λX1 h1=>by have G:=G.at h1;obtain⟨_,_,_,_,_,rfl⟩:=h1;exact(bG 2 G (bF 7)))))))))
   (aA (yS 3 G (cX (cB 4 (aB (gQ G Z.cH (aH (aG (Yc G (aU 6) iU (gO aF))))) aq))))))))
   (aA (aD (gQ G Z.cH (aH (bF 3)))))))))))
theorem Ft:bf afl afl (aK rH):=dG
include Z in
theorem Kd:Own P w K mg base "_law_sounds" 1 afl (jQ K 1 ju):=by exact bu (k:=0) Z.Ju Ft<|λf cdv A outer s H E hr G=>(di.u<|aA<|aD<|Ax G (bL [])<|aG<|bU<|gb ["_law_stock_here","_law_sound","_law_marks"] 1 cM G (cV G<|aU 0) (λX1 h1=>by have G:=G.at h1;obtain⟨_,_,_,_,_,rfl⟩:=h1;exact(gH G<|aP (aM 1)<|aP (aM 2) cO)) (λX1 h1=>by have G:=G.at h1;obtain⟨_,_,_,_,_,rfl⟩:=h1;exact bM) (λX1 h1=>by have G:=G.at h1;obtain⟨_,_,_,_,_,rfl⟩:=h1;exact(aU 1)))
theorem JQ:bf ["_law_pack_here","_law_sounds_here","_law_number","_law_signs_here"] Zq4 (aK uf):=dG
include Z in
theorem zL:Own P w K mg base "_law_signs" 2 Zq4 (yu K 2 oE):=by
 exact wu (k:=1) Z.Lx JQ (λf cdv A outer s H E a hr G=>(di.u (au (bI (gG (lD G) (je 0 (dw Z) G hr (aB aF aq) (jf (aQ len0))) (aG aF)) (aA (aD uT)) bh)
   (au (bJ 2 (fZ (fQ G) aF (aG (je 0 (dw Z) G hr (aB (fZ Pj (fZ ant aF (aG (cG G Z.cD (aH (bF 1))))) (aG aF)) aq) (jf (aQ len0))))))
   (au (bJ 3 (fZ (fQ G) (bL [35]) (bF 1)))
   (aA (aD (gQ G Z.cH (aH (aG (bU (gb ["_law_pack_here","_law_sounds_here","_law_number","_law_signs_here","_law_k"] 4 cM G (iQ Z.eU (aB (cG G Z.cD (aH (bF 3))) aq) (aQ len0)) (λX1 h1=>by have G:=G.at h1;obtain⟨_,_,_,_,_,rfl⟩:=h1;exact(aM 4)) (λX1 h1=>by have G:=G.at h1;obtain⟨_,_,_,_,_,rfl⟩:=h1;exact(j7 (gG (lD G) (fZ agd (dJ 2 aga (bF 4)) (aG aF)) (aG aF)))) (λX1 h1=>by have G:=G.at h1;obtain⟨_,_,_,_,_,rfl⟩:=h1;exact(bG 3 G (bF 4)))))))))))))))
theorem Ce:bf ["_law_pack_here","_law_sounds_here","_law_found","_law_turn","_law_one","_law_others"] Zq4 (aK qz):=dG
include Z in
theorem FJ:Own P w K mg base "_law_changes" 2 Zq4 (yu K 2 qK):=by
 exact wu (k:=1) Z.Fe Ce (λf cdv A outer s H E a hr G=>(di.u (au (bI (gG (lD G) (je 0 (dw Z) G hr (aB aF aq) (jf (aQ len0))) (aG aF)) (aA (aD (cX (aB (cX (aB (bL []) (aB (bG 1 G (aG (je 0 (dw Z) G hr (aB (cG G Z.cD (aH (bF 1))) aq) (jf (aQ len0))))) aq))) aq)))) bh)
   (au (rF 2 Wa)
   (au (jV G (iQ Z.eU (aB (fZ (fQ G) aF (aG (je 0 (dw Z) G hr (aB aF aq) (jf (aQ len0))))) aq) (aQ len0)) (aM 3) (au (bJ 4 (bG 1 G (aG (je 0 (dw Z) G hr (aB (cG G Z.cD (aH (bF 1))) aq) (jf (aQ len0))))))
   (au (Gx ["_law_pack_here","_law_sounds_here","_law_found","_law_turn","_law_one","_law_others","_law_sound"] 6 5 cM G (cV G (fZ (fQ G) (aco G Z.Ud (aH (bF 1))) (aG (bU (f9 (aB (bL []) aq)))))) (λX1 h1=>by have G:=G.at h1;obtain⟨_,_,_,_,_,rfl⟩:=h1;exact(aM 6)) (λX1 h1=>by have G:=G.at h1;obtain⟨_,_,_,_,_,rfl⟩:=h1;exact(j7 (dY 6 (zE G) (bF 4)))) (λX1 h1=>by have G:=G.at h1;obtain⟨_,_,_,_,_,rfl⟩:=h1;exact(aU 6)))
   (aA (acU 2 G (aU 4) (bG 5 G (aG (je 0 (dw Z) G hr (aB (cG G Z.cD (aH (bF 5))) aq) (jf (aQ len0))))))))))
   (aA (aD (gQ G Z.cH (aH (aG (bU (gb ["_law_pack_here","_law_sounds_here","_law_found","_law_turn","%4","_law_others","_law_one"] 6 cM G (cV G (Gr G Z.G5 (aH (bF 2)))) (λX1 h1=>by have G:=G.at h1;obtain⟨_,_,_,_,_,rfl⟩:=h1;exact(aM 6)) (λX1 h1=>by have G:=G.at h1;obtain⟨_,_,_,_,_,rfl⟩:=h1;exact bM) (λX1 h1=>by have G:=G.at h1;obtain⟨_,_,_,_,_,rfl⟩:=h1;exact(cX (cB 6 (aB (Bt 2 G (bF 6)) aq))))))))))))))))
theorem Mv:bf ["_law_pack_here","_law_sounds_here","_law_how","_law_changes_here"] Zq4 (aK vR):=dG
include Z in
theorem CK:Own P w K mg base "_law_rule" 3 Zq4 (yu K 2 nH):=by
 exact wu (k:=2) Z.Qw Mv (λf cdv A outer s H E a hr G=>(di.u (au (bJ 2 (n8 G (bU (f9 (aB (bL [111,110,99,101]) (aB (bL [97,108,111,110,103]) aq)))) (aG (je 0 (dw Z) G hr (aB aF aq) (jf (aQ len0))))))
   (au (bJ 3 (je 0 (FJ Z) G hr (cB 1 aq) (jf (aQ len0))))
   (aA (aD (cX (cB 2 (cB 3 (aB (je 0 (zL Z) G hr (cB 1 aq) (jf (aQ len0))) (aB (je 0 (zL Z) G hr (cB 1 aq) (jf (aQ len0))) aq)))))))))))
theorem JR:bf ["_law_pack_here","_law_sounds_here","_law_most","_law_side"] Zq9 (aK ug):=dG
include Z in
theorem Ni:Own P w K mg base "_law_order" 4 Zq9 (yu K 3 qm):=by
 exact wu (k:=3) Z.Ly JR (λf cdv A outer s H E a hr G=>(di.u (au (bJ 3 (n8 G (bU (f9 (aB (bL [108,101,102,116]) (aB (bL [114,105,103,104,116]) aq)))) (aG (je 0 (dw Z) G hr (aB aF aq) (jf (aQ len0))))))
   (aA (aD (cX (cB 3 (aB (gQ G Z.cH (aH (aG (bU (gb ["_law_pack_here","_law_sounds_here","_law_most","_law_side","_law_turn"] 4 cM G (iQ Z.eU (aB (je 0 (dw Z) G hr (aB (dJ 2 (fQ G) (aG aF)) aq) (jf (aQ len0))) aq) (aQ len0)) (λX1 h1=>by have G:=G.at h1;obtain⟨_,_,_,_,_,rfl⟩:=h1;exact(aM 4)) (λX1 h1=>by have G:=G.at h1;obtain⟨_,_,_,_,_,rfl⟩:=h1;exact bM) (λX1 h1=>by have G:=G.at h1;obtain⟨_,_,_,_,_,rfl⟩:=h1;exact(je 0 (CK Z) G hr (cB 1 aq) (jf (aQ len0))))))))) aq))))))))
theorem Ms:bf Zq9 Zq9 (aK vO):=dG
include Z in
theorem CJ:Own P w K mg base "_law_word" 2 Zq9 (yu K 3 nG):=by exact wu (k:=1) Z.Qt Ms<|λf cdv A outer s H E a hr G=>(di.u<|aA<|aD<|Ax G (bL [])<|aG<|bU<|gb ["_law_pack_here","_law_sounds_here","_law_most","_law_turn"] 3 cM G (iQ Z.eU (aB (je 0 (dw Z) G hr (aB (dJ 2 (fQ G)<|aG aF) aq)<|jf<|aQ len0) aq)<|aQ len0) (λX1 h1=>by have G:=G.at h1;obtain⟨_,_,_,_,_,rfl⟩:=h1;exact(aM 3)) (λX1 h1=>by have G:=G.at h1;obtain⟨_,_,_,_,_,rfl⟩:=h1;exact bM) (λX1 h1=>by have G:=G.at h1;obtain⟨_,_,_,_,_,rfl⟩:=h1;exact(bG 1 G<|aG<|je 0 (dw Z) G hr (aB (cG G Z.cD<|aH<|bF 1) aq)<|jf<|aQ len0)))
theorem Mz:bf afk afk (aK vX):=dG
include Z in
theorem rP:Own P w K mg base "_law_fits" 1 afk (jQ K 2 cR):=by exact bu (k:=0) Z.QB Mz<|λf cdv A outer s H E hr G=>(di.u<|aA<|aD<|J5 (jh 0 ae4<|aG uT)<|fJ<|jh 1 (Eu G)<|bF 0)
theorem Fv:bf ["_law_rule_here","_law_word_here","_law_signs_here","_law_found","_law_k"] Xy (aK rJ):=dG
include Z in
theorem Ke:Own P w K mg base "_law_put_in" 2 Xy (jQ K 2 jw):=by
 exact bu (k:=1) Z.Jv Fv (λf cdv A outer s H E hr G=>(di.u (au (bJ 2 (fZ (fQ G) (fZ (fQ G) (bL [35]) (bF 1)) (aG (bL [35]))))
   (au (bJ 3 (bL []))
   (au (jV G (Ut Z.eU (aB aF (aB (cG G Z.cD (aH (bF 2))) aq)) (aQ (aQ len0))) (aM 4) (au (bI (fK (oA (bK (aX (rP Z) G hr (aB (bG 0 G (aG aF)) (aB (bG 2 G (aG (dJ 4 Pj (aG aF)))) aq)) (aQ (aQ len0)))) (pH (bK (aX (rP Z) G hr (aB (bG 0 G (aG aF)) (aB (bG 2 G (bF 4)) aq)) (aQ (aQ len0))))))) (aA (bJ 3 (dJ 3 (fQ G) (aG (n8 G (n8 G (bG 0 G (aG aF)) (aG aF)) (aG aF)))))) bh)
   (aA (bJ 3 (dJ 3 (fQ G) (aG (bG 2 G (bF 4))))))))
   (aA (aD (Ql (aU 3) iU (gO (vH aF))))))))))
theorem Cg:bf ["_law_rule_here","_law_word_here","_law_how","_law_changes_here","_law_first","_law_second","_law_known","_law_signs_here","_law_found","_law_k","_law_near"] Xy (aK qC):=dG
include Z in
theorem vo:Own P w K mg base "_law_changed" 3 Xy (jQ K 2 cT):=by
 exact bu (k:=2) Z.Ff Cg (λf cdv A outer s H E hr G=>(di.u (au (iu (aU 0) (gH G (aP (aM 2) (aP (aM 3) (aP (aM 4) (aP (aM 5) cO))))))
   (au (bI (gG (lD G) (n8 G (bG 3 G (aG aF)) (aG aF)) (aG (bL []))) (aA (aD (aX (Ke Z) G hr (cB 0 (cB 1 aq)) (aQ (aQ len0))))) bh)
   (au (bJ 6 (Tn G Z.Ue (aH (bF 3))))
   (au (bJ 7 (fZ (fQ G) (fZ (fQ G) (bL [35]) (bF 1)) (aG (bL [35]))))
   (au (bJ 8 (bL [35]))
   (au (jV G (Ut Z.eU (aB aF (aB (fZ Pj (cG G Z.cD (aH (bF 7))) (aG aF)) aq)) (aQ (aQ len0))) (aM 9) (au (bJ 10 (bG 7 G (aG (dJ 9 Pj (aG aF)))))
   (au (bI (dY 2 (lD G) (aG (bL [97,108,111,110,103]))) (aA (bJ 10 (bG 8 G (aG (vH aF))))) bh)
   (aA (bI (fK (oA (gG (Vb G) (bG 7 G (bF 9)) (bF 6)) (oA (bK (aX (rP Z) G hr (cB 4 (cB 10 aq)) (aQ (aQ len0)))) (pH (bK (aX (rP Z) G hr (cB 5 (aB (bG 7 G (aG (dJ 9 (fQ G) (aG aF)))) aq)) (aQ (aQ len0)))))))) (aA (bJ 8 (dJ 8 (fQ G) (aG (Bt 6 G (aG (bG 7 G (bF 9)))))))) (aA (bJ 8 (dJ 8 (fQ G) (aG (bG 7 G (bF 9)))))))))))
   (aA (aD (Ql (aU 8) (gO aF) iU)))))))))))
theorem Fq:bf ["_law_rule_here"] ["_law_rule_here"] (aK rG):=dG
include Z in
theorem Kc:Own P w K mg base "_law_turned" 1 ["_law_rule_here"] (jQ K 1 jt):=by exact bu (k:=0) Z.Jt Fq<|λf cdv A outer s H E hr G=>(di.u<|aA<|aD<|cX<|aB (bG 0 G<|aG aF)<|aB (bG 0 G<|aG aF)<|aB (bG 0 G<|aG aF)<|aB (bG 0 G<|aG aF) aq)
theorem Ci:bf afj afj (aK qD):=dG
include Z in
theorem FP:Own P w K mg base "_law_by_side" 4 afj (jQ K 3 cU):=by
 exact bu (k:=3) Z.Fi Ci (λf cdv A outer s H E hr G=>(di.u (au (bI (dY 0 (lD G) (aG (bL [114,105,103,104,116]))) (aA (aD (Jm (aX (vo Z) G hr (aB (aX (Kc Z) G hr (cB 1 aq) (aQ len0)) (aB (Jm (aU 2)) aq)) (aQ (aQ len0)))))) bh)
   (aA (aD (aX (vo Z) G hr (cB 1 (cB 2 aq)) (aQ (aQ len0))))))))
theorem Mt:bf ["_law_order_here","_law_word_here","_law_found","_law_rule_here"] Ti (aK vP):=dG
include Z in
theorem Rw:Own P w K mg base "_law_walk" 5 Ti (jQ K 2 jZ):=by
 exact bu (k:=4) Z.Qu Mt (λf cdv A outer s H E hr G=>(di.u (au (rF 2 (f9 (cB 1 aq)))
   (au (jV G (cV G (bG 0 G (aG aF))) (aM 3) (aA (yS 2 G (aX (FP Z) G hr (aB (bG 0 G (aG aF)) (cB 3 (aB (bG 2 G (aG (vH aF))) aq))) (aQ (aQ (aQ len0)))))))
   (aA (aD (gQ G Z.cH (aH (bF 2)))))))))
theorem Mx:bf Ti Ti (aK vV):=dG
include Z in
theorem CP:Own P w K mg base "_law_made" 6 Ti (jQ K 2 gW):=by exact bu (k:=5) Z.Qy Mx<|λf cdv A outer s H E hr G=>(di.u<|aA<|aD<|n8 G (aX (Rw Z) G hr (cB 0<|cB 1 aq)<|aQ<|aQ len0)<|aG<|vH aF)
theorem yC:bf ["_law_order_here","_law_many","_law_found","_law_turn","_law_longer","_law_some"] ["_law_order_here"] (aK oN):=dG
include Z in
theorem oX:Own P w K mg base "_law_orderings" 1 ["_law_order_here"] (jQ K 1 fj):=by
 exact bu (k:=0) Z.Ad yC (λf cdv A outer s H E hr G=>(di.u (au (bJ 1 (cG G Z.cD (aH (aG (bG 0 G (aG aF))))))
   (au (bJ 2 (bU (f9 (aB (cX aq) aq))))
   (au (jV G (iQ Z.eU (cB 1 aq) (aQ len0)) (aM 3) (au (rF 4 (f9 aq))
   (au (jV G (cV G (aU 2)) (aM 5) (aA (agX 4 G (bU (gb ["_law_order_here","_law_many","_law_found","_law_turn","_law_longer","_law_some","_law_number"] 6 cM G (iQ Z.eU (cB 1 aq) (aQ len0)) (λX1 h1=>by have G:=G.at h1;obtain⟨_,_,_,_,_,rfl⟩:=h1;exact(aM 6)) (λX1 h1=>by have G:=G.at h1;obtain⟨_,_,_,_,_,rfl⟩:=h1;exact(j7 (dY 6 (Bm G) (bF 5)))) (λX1 h1=>by have G:=G.at h1;obtain⟨_,_,_,_,_,rfl⟩:=h1;exact(dJ 5 (fQ G) (aG (cX (cB 6 aq))))))))))
   (aA (bJ 2 (aU 4))))))
   (aA (aD (aU 2))))))))
theorem My:bf afi afi (aK vW):=dG
include Z in
theorem CQ:Own P w K mg base "_law_laid" 1 afi (jQ K 2 jy):=by exact bu Z.Qz My<|λf cdv A outer s H E hr G=>(di.u<|aA<|aD<|cX<|aB (bG 0 G<|aG aF)<|aB (gQ G Z.cH<|aH<|aG<|bU<|gb ["_law_order_here","_law_ordering","_law_number"] 2 cM G (cV G<|aU 1) (λX1 h1=>by have G:=G.at h1;obtain⟨_,_,_,_,_,rfl⟩:=h1;exact(aM 2)) (λX1 h1=>by have G:=G.at h1;obtain⟨_,_,_,_,_,rfl⟩:=h1;exact bM) (λX1 h1=>by have G:=G.at h1;obtain⟨_,_,_,_,_,rfl⟩:=h1;exact(n8 G (bG 0 G<|aG aF)<|bF 2))) aq)
theorem JN:bf ["_law_order_here","_law_ordering","_law_book","_law_here"] akc (aK t6):=dG
include Z in
theorem zK:Own P w K mg base "_law_tells" 7 akc (jQ K 3 j0):=by
 exact bu (k:=6) Z.Ls JN (λf cdv A outer s H E hr G=>(di.u (au (bJ 3<|aX (CQ Z) G hr (cB 0<|cB 1 aq)<|aQ (aQ len0))
   (aA (aD (jH G Z.jJ (aH (aG (bU (gb ["_law_order_here","_law_ordering","_law_book","_law_here","_law_word_here","_law_form"] 4 cM G (cV G (aU 2)) (λX1 h1=>by have G:=G.at h1;obtain⟨_,_,_,_,_,rfl⟩:=h1;exact(gH G (aP (aM 4) (aP (aM 5) cO)))) (λX1 h1=>by have G:=G.at h1;obtain⟨_,_,_,_,_,rfl⟩:=h1;exact bM) (λX1 h1=>by have G:=G.at h1;obtain⟨_,_,_,_,_,rfl⟩:=h1;exact(pN (lD G) (aX (CP Z) G hr (cB 3 (cB 4 aq)) (aQ (aQ len0))) (bF 5)))))))))))))
theorem xn:bf afh afh (aK m9):=dG
include Z in
theorem nq:Own P w K mg base "_law_some_tells" 8 afh (jQ K 2 eE):=by exact bu Z.yp xn<|λf cdv A outer s H E hr G=>(di.u<|aA<|aD<|Ye G Z.aal<|aH<|aG<|bU<|gb ["_law_order_here","_law_book","_law_ordering"] 2 cM G (cV G<|aX (oX Z) G hr (cB 0 aq)<|aQ len0) (λX1 h1=>by have G:=G.at h1;obtain⟨_,_,_,_,_,rfl⟩:=h1;exact(aM 2)) (λX1 h1=>by have G:=G.at h1;obtain⟨_,_,_,_,_,rfl⟩:=h1;exact bM) (λX1 h1=>by have G:=G.at h1;obtain⟨_,_,_,_,_,rfl⟩:=h1;exact(aX (zK Z) G hr (cB 0<|cB 2<|cB 1 aq)<|aQ<|aQ<|aQ len0)))
theorem vL:bf ["_law_order_here","_law_book","_law_pairs","_law_at","_law_pair"] akb (aK mD):=dG
include Z in
theorem xD:Own P w K mg base "_law_pairs_right" 9 akb (jQ K 3 iz):=by
 exact bu (k:=8) Z.wY vL (λf cdv A outer s H E hr G=>(di.u (au (bI (fK<|eQ (cQ<|bK (fU (T:="tuple") rfl Z.bQ rfl Z.cH (by decide +kernel) Z.fO G.K (aU 2))) (eQ (dY 2 (lD G) (aG (cX aq))) (gD (bK (aX (nq Z) G hr (cB 0 (cB 2 aq)) (aQ (aQ len0))))))) (aA (aD dF)) bh)
   (au (bJ 3 aF)
   (au (jV G (cV G (aU 1)) (aM 4) (aA (bI (fK (oA (dY 3 abE (aG (cG G Z.cD (aH (bF 2))))) (pH (dY 4 (lD G) (aG (bG 2 G (bF 3))))))) (aA (bJ 3 (dJ 3 (fQ G) (aG aF)))) bh)))
   (au (bI (dY 3 abE (aG (cG G Z.cD (aH (bF 2))))) (aA (aD dF)) bh)
   (aA (aD (jH G Z.jJ (aH (aG (bU (gb ["_law_order_here","_law_book","_law_pairs","_law_at","_law_pair","_law_k"] 5 cM G (iQ Z.eU (aB (cG G Z.cD (aH (bF 2))) aq) (aQ len0)) (λX1 h1=>by have G:=G.at h1;obtain⟨_,_,_,_,_,rfl⟩:=h1;exact(aM 5)) (λX1 h1=>by have G:=G.at h1;obtain⟨_,_,_,_,_,rfl⟩:=h1;exact bM) (λX1 h1=>by have G:=G.at h1;obtain⟨_,_,_,_,_,rfl⟩:=h1;exact(aX (nq Z) G hr (cB 0 (aB (fZ (fQ G) (Bq G (aU 2) iU (gO (aU 5))) (aG (Bq G (aU 2) (gO (dJ 5 (fQ G) (aG aF))) iU))) aq)) (aQ (aQ len0)))))))))))))))))
theorem tY:bf ["_law_stock_here","_law_order_here","_law_pairs","_law_paper","_law_known","_law_k","_law_told","_law_turned_paper"] aka (aK lg):=dG
include Z in
theorem vh:Own P w K mg base "_law_numbers_right" 9 aka (jQ K 4 gF):=by
 exact bu (k:=8) Z.vf tY (λf cdv A outer s H E hr G=>(di.u (au (bJ 4 (aX (oX Z) G hr (cB 1 aq) (aQ len0)))
   (au (bI (fK (eQ (cQ (bK (fU (T:="tuple") rfl Z.bQ rfl Z.cH (by decide +kernel) Z.fO G.K (aU 3)))) (gD (gG (zE G) (cG G Z.cD (aH (bF 3))) (aG (cG G Z.cD (aH (bF 4)))))))) (aA (aD dF)) bh)
   (au (jV G (iQ Z.eU (aB (cG G Z.cD (aH (bF 4))) aq) (aQ len0)) (aM 5) (au (Gx ["_law_stock_here","_law_order_here","_law_pairs","_law_paper","_law_known","_law_k","_law_told","_law_turned_paper","_law_pair"] 8 6 cM G (cV G (aU 2)) (λX1 h1=>by have G:=G.at h1;obtain⟨_,_,_,_,_,rfl⟩:=h1;exact(aM 8)) (λX1 h1=>by have G:=G.at h1;obtain⟨_,_,_,_,_,rfl⟩:=h1;exact bM) (λX1 h1=>by have G:=G.at h1;obtain⟨_,_,_,_,_,rfl⟩:=h1;exact(aX (zK Z) G hr (cB 1 (aB (bG 4 G (bF 5)) (aB (cX (cB 8 aq)) aq))) (aQ (aQ (aQ len0))))))
   (au (bI (fK (eQ (cQ (bK (fU (T:="int") rfl Z.bQ rfl Z.aak (by decide +kernel) Z.KH G.K (bG 3 G (bF 5))))) (eQ (bK (fU (T:="bool") rfl Z.bQ rfl Z.Ug (by decide +kernel) Z.Dn G.K (bG 3 G (bF 5)))) (gD (bK (bG 6 G (aG (bG 3 G (bF 5))))))))) (aA (aD dF)) bh)
   (aA (bI (gG (Eu G) dF (bF 6)) (au (bJ 7 (fZ (fQ G) (fZ (fQ G) (Bq G (aU 3) iU (gO (aU 5))) (aG (cX (aB (Br G (aU 6) (aG dF)) aq)))) (aG (Bq G (aU 3) (gO (dJ 5 (fQ G) (aG aF))) iU))))
   (aA (bI (gG Va (aX (Ub Z) G hr (aB (cX (aB (bL [113,117,97,114,114,101,108]) (cB 0 (cB 1 (cB 2 aq))))) (cB 7 aq)) (aQ (aQ len0))) (aG dF)) (aA (aD dF)) bh))) bh)))))
   (aA (aD dF)))))))
theorem agW:bf anA ["_law_script"] (aK YX):=dG
include Z in
theorem ajv(F:Fun K "law" "law" YX f fd):qd P w K mg base Jk 10 f fd ["_law_script"] (jQ K 1 UL):=by
 exact O4 (k:=9) F agW (λcdv A outer s H E hr=>by
  have G:=Bf (P:=P) (w:=w) (K:=K) (mg:=mg) (base:=base) (N:=anA) (outer:=outer) (H:=H) (E:=E) (C:=C0 K) rfl hr;exact(di.u (au (rF 1 (aam (CN Z) G hr (cB 0 (aB aF aq)) (aQ (aQ len0))))
   (au (bJ 2 (je 1 (Nh Z) G hr aq (jf len0)))
   (au (bJ 3 (aX (Kd Z) G hr (cB 2 aq) (aQ len0)))
   (au (bJ 4 (je 1 (Ni Z) G hr (cB 3 (aB aF aq)) (jf (aQ (aQ len0)))))
   (au (bJ 4 (cX (aB (bG 4 G (aG aF)) (aB (fZ (fQ G) (bG 4 G (aG aF)) (aG (cX (aB (je 1 (CK Z) G hr (cB 3 aq) (jf (aQ len0))) aq)))) aq))))
   (au (rF 5 (aam (CN Z) G hr (cB 0 (aB aF aq)) (aQ (aQ len0))))
   (au (bJ 6 (aX (oX Z) G hr (cB 4 aq) (aQ len0)))
   (au (bJ 7 (cX aq))
   (au (jV G (iQ Z.eU (aB (fZ (fQ G) aF (aG (je 5 (dw Z) G hr (aB aF aq) (jf (aQ len0))))) aq) (aQ len0)) (aM 8) (au (bJ 9 (je 5 (CJ Z) G hr (cB 3 (aB aF aq)) (jf (aQ (aQ len0)))))
   (au (bJ 10 (aX (CP Z) G hr (aB (aX (CQ Z) G hr (cB 4 (aB (bG 6 G (aG (je 5 (dw Z) G hr (aB (cG G Z.cD (aH (bF 6))) aq) (jf (aQ len0))))) aq)) (aQ (aQ len0))) (cB 9 aq)) (aQ (aQ len0))))
   (au (bI (gG (lD G) (je 5 (dw Z) G hr (aB aF aq) (jf (aQ len0))) (aG aF)) (aA (bJ 10 (je 5 (CJ Z) G hr (cB 3 (aB aF aq)) (jf (aQ (aQ len0)))))) bh)
   (aA (bJ 7 (dJ 7 (fQ G) (aG (cX (aB (cX (cB 9 (aB (Ql (aU 10) iU (gO aF)) aq))) aq))))))))))
   (au (bJ 11 (aX (Ak Z) G hr (cB 2 (cB 4 (cB 7 aq))) (aQ (aQ (aQ len0)))))
   (au (bI (bK (aX (nq Z) G hr (cB 4 (cB 7 aq)) (aQ (aQ len0)))) (aA (aD (jh 11 ae4 (aG uT)))) bh)
   (au (bI (fK (eQ (cQ (bK (fU (T:="tuple") rfl Z.bQ rfl Z.cH (by decide +kernel) Z.fO G.K (aU 11)))) (eQ (gG (zE G) (cG G Z.cD (aH (bF 11))) (aG aF)) (gD (gG (zE G) (agv G (bG 11 G (aG aF)) iU (gO aF)) (aG (cX (aB (bL [113,117,97,114,114,101,108]) (cB 2 (cB 4 aq)))))))))) (aA (aD dF)) bh)
   (au (bI (fK (eQ (gG (zE G) (cG G Z.cD (aH (aG (bG 11 G (aG aF))))) (aG aF)) (eQ (cQ (bK (aX (xD Z) G hr (cB 4 (cB 7 (aB (n8 G (bG 11 G (aG aF)) (aG aF)) aq))) (aQ (aQ (aQ len0)))))) (gD (gG Va (aX (Ub Z) G hr (aB (bG 11 G (aG aF)) (aB (bG 11 G (aG aF)) aq)) (aQ (aQ len0))) (aG dF)))))) (aA (aD dF)) bh)
   (aA (aD (aX (vh Z) G hr (cB 2 (cB 4 (aB (n8 G (bG 11 G (aG aF)) (aG aF)) (aB (bG 11 G (aG aF)) aq)))) (aQ (aQ (aQ (aQ len0))))))))))))))))))))))
end
end mj
namespace lQ
open Ev
def uO:bV:=aV (ao d8 (aa (dH 1 3 (eG (aN 0)) (dR 2 (aZ (ak 1) (aZ (ak 2) dU))) bY (aN 1)) aj))
def d9:LD:=bT 1 uO
def j6:bV:=mj.j6
def bz:List D->Option (D×D):=ou 3 j6
def sS:bV:=aV (aL qj (Zw []) (dH 1 3 (eG (aN 0)) (dR 2 (aZ (ak 1) (aZ (ak 2) dU))) bY (aN 1)))
def ju:LD:=bT 1 sS
def oG:bV:=aC (cZ (dg (aL jT (fW bz 0 (aa (Zi 2) aj)) (Zi 0))) (aV (mX .non)) bH) (aC (aW (aL cj (Zi 1) (fW bz 0 (aa (aL qZ (aL W7 (Zi 2) (ao cN (aa (bj 1) aj))) (Zi 1)) aj))) (ak 2)) (aC (aW (aL cj (Zw [35]) (bj 1)) (ak 3)) (aV (ao d8 (aa (dH 4 5 (eF (aa (ao cN (aa (bj 3) aj)) aj)) (ak 4) (dg (aL jT (aL Om (az Oj 2 (bj 4)) (Zi 1)) (Zi 1))) (az bZ 3 (bj 4))) aj)))))
def oE:List D->Option (D×D):=ou 4 oG
open Ev PySem L2
theorem uZ(h:i.natAbs<2^b):Builtin.Int.intBits i<=b:=by
 unfold Builtin.Int.intBits;split
 ·omega
 ·rename_i h0;have hz:i.natAbs≠0:=λz=>h0 (by simp_all);exact(Nat.log2_lt hz).mpr h
theorem wA(h1:Builtin.Int.intBits i<=a)(h2:Builtin.Int.intBits j<=b)(h:a+b<=134217728):nW i j=true:=
 Qw8 (by omega)
theorem aeY{α:Type}{xs:List α}{x:α}(h:x∈cutD xs lo hi):x∈xs:=List.mem_of_mem_drop<|List.mem_of_mem_take h
theorem Px{α:Type}(x)(r:List α):qO (x::r) 0=some x:=m6 rfl
noncomputable def known:D:=.lst [.str [115,116,111,112],.str [115,116,111,112,115],.str [115],.str [111,112,101,110],.str [97,98,99,100,101,102,103,104]]
def xj:bV:=aW (ao mU (aa (dH 7 8 (eF (aa (Zi 5) aj)) (ak 7) (dg (aL jT (aL Om (az Oj 5 (bj 7)) (Zi 1)) (Zi 1))) (az bZ 2 (bj 7))) aj)) (ak 6)
def mk(d:Nat):D:=match xj [Zn,Zn,Zf known,Zn,Zn,Zf (.int d),Zn] with
 | .nx e=>(match e[6]? with|some (some (_,z))=>z|_=>.non)
 | _=>.non
def AllB(P:Nat->Prop):Nat->Prop
 | 0=>True
 | n+1=>AllB P n/\P n
theorem abI:∀{n},AllB P n->∀d,d<n->P d
 | 0,_,d,h=>absurd h<|Nat.not_lt_zero d
 | n+1,⟨a,b⟩,d,h=>by
  by_cases e:d=n
  ·simp_all
  ·exact abI a d (by omega)
theorem marks(d:Nat)(hd:d<32)(a b c e f:OD):xj [a,b,Zf known,c,e,Zf (.int d),f] = .nx [a,b,Zf known,c,e,Zf (.int d),Zf (mk d)]:=by refine abI (P:=λd=>xj [a,b,Zf known,c,e,Zf<|.int d,f] = .nx [a,b,Zf known,c,e,Zf<|.int d,Zf<|mk d]) ?_ d hd;refine⟨⟨⟨⟨⟨⟨⟨⟨⟨⟨⟨⟨⟨⟨⟨⟨⟨⟨⟨⟨⟨⟨⟨⟨⟨⟨⟨⟨⟨⟨⟨⟨trivial,?_⟩,?_⟩,?_⟩,?_⟩,?_⟩,?_⟩,?_⟩,?_⟩,?_⟩,?_⟩,?_⟩,?_⟩,?_⟩,?_⟩,?_⟩,?_⟩,?_⟩,?_⟩,?_⟩,?_⟩,?_⟩,?_⟩,?_⟩,?_⟩,?_⟩,?_⟩,?_⟩,?_⟩,?_⟩,?_⟩,?_⟩,?_⟩<;>kernel_rfl
noncomputable def amG:D->Bool
 | .lst _=>true
 | _=>false
theorem aao(d)(hd:d<32):∃zs,mk d = .lst zs:=by
 have h:((List.range 32).all λd=>amG<|mk d)=true:=by rfl
 have h1:=Qw0.mp h d<|Qw7.mpr hd;cases e:mk d with
 | lst zs=>simp_all
 | _=>rw[e] at h1;cases h1
inductive Rows:List D->List D->Prop where
 | nil:Rows [] []
 | cons {s m:D} {ss rs:List D}:Rows ss rs->Rows (s::ss) (.tup [s,m]::rs)
theorem Rows.len(h:Rows ss rs):rs.length=ss.length:=by
 induction h with
 | nil=>rfl
 | cons _ ih=>simp_all
theorem gR{i:Nat}{env e:Ev.Env}(h0:env[i]? = some (Zl x0))(h1:a env = .ok d e)(h2:e[i]? = some (Zl xs))(hz:xs.length<sizeLine):kY i a env = .nx (e.set i (Zl (xs++[d]))):=by
 unfold kY;rw[h0];show gr (a env) _=_;rw[h1];show(match e[i]? with|some (some (true,.lst xs))=>if xs.length<sizeLine then Out.nx (e.set i<|Zl<|xs++[d]) else .stuck|_=>.stuck)=_
 simp_all
structure XOk(x:List Nat):Prop where
 len:x.length<=4
 pos:0<x.length
 nd:x.Nodup
 ne:35 ∉ x
inductive XSt
 | mk
noncomputable def XS:XSt:=.mk
instance:Membership (List Nat) XSt:=⟨λ_ x=>XOk x⟩
theorem Jh(h:x∈XS):XOk x:=h
theorem anB(h:XOk x):x∈XS:=h
theorem o8:∀x∈XS,x.length<=4:=λ_ h=>(Jh h).len
theorem abN(h:x∈XS):(∃a,x=[a])\/(∃a b,x=[a,b])\/(∃a b c,x=[a,b,c])\/∃a b c d,x=[a,b,c,d]:=by
 have h1:=(Jh h).len;have h2:=(Jh h).pos
 match x,h1,h2 with
 | [a],_,_=>exact .inl ⟨a,rfl⟩
 | [a,b],_,_=>exact .inr<|.inl ⟨a,b,rfl⟩
 | [a,b,c],_,_=>exact .inr<|.inr<|.inl ⟨a,b,c,rfl⟩
 | [a,b,c,d],_,_=>exact .inr<|.inr<|.inr ⟨a,b,c,d,rfl⟩
theorem acX(h:Rows ss rs):∀(a v1 v2:OD),∃w1 w2,vp (dR 2 (aZ (ak 1) (aZ (ak 2) dU))) bY (aN 1) rs [a,v1,v2] = .ok ss [a,w1,w2]:=by
 induction h with
 | nil=>exact λa v1 v2=>⟨v1,v2,rfl⟩
 | cons _ ih=>
  rename_i s m ss rs _;intro a v1 v2;obtain⟨w1,w2,e⟩:=ih a (Zf s)<|Zf m;refine⟨w1,w2,?_⟩;unfold vp;show bindR (vp _ bY (aN 1) rs [a,Zf s,Zf m]) _=_;rw[e]
  rfl
theorem Gz(hx:x∈XS)(h:Rows (jc x) rs):dH 1 3 (eG (aN 0)) (dR 2 (aZ (ak 1) (aZ (ak 2) dU))) bY (aN 1) [Zf (.tup rs)] = .ok (.lst (jc x)) [Zf (.tup rs)]:=by obtain⟨w1,w2,e⟩:=acX h (Zf<|.tup rs) none none;exact xW (n:=3) (aJ:=[Zf (.tup rs)]) rfl rfl (by exact e) (by unfold jc;rw[Qqz];exact Qqj (o8 x hx) (by decide))
theorem sounds_of(hx:x∈XS)(h:Rows (jc x) rs):d9 [.tup rs]=some (.tup (jc x)):=
 fH (cW<|bC (bw (Gz hx h) cL) rfl)
theorem join_eq:∀x∈XS,qj (.str []) (.lst (jc x))=some (.str x):=by intro x hx;rcases abN hx with ⟨a,rfl⟩|⟨a,b,rfl⟩|⟨a,b,c,rfl⟩|⟨a,b,c,d,rfl⟩<;>rfl
theorem RP(hx:x∈XS)(h:Rows (jc x) rs):ju [.tup rs]=some (.str x):=
 fH (cW<|cA rfl (Gz hx h) (join_eq x hx))
theorem aeJ(h:a env = .ok ds e)(h':vg ds=some ys):eF a env = .ok ys e:=by
 unfold eF;rw[h];show fc (vg ds) e=_;rw[h']
 rfl
theorem jL(n)(m:Nat)(h0:0<m)(h1:m<1073741824):bz [.lst [.int n],.int m]=some (.int (n % m),.lst [.int (n / m)]):=by
 refine mH (env:=[Zl [.int (n / m)],Zf<|.int m,Zf<|.int<|n % m]) ?_ rfl;unfold j6;have g:xR [.int n,.int (m:Int)]=some (.tup [.int (n / m),.int<|n % m]):=by show(if 0<(m:Int)/\(m:Int)<1073741824 then _ else _)=_;rw[if_pos (by omega)]
 refine(aR (e:=[Zl [.int (n / m)],Zf<|.int m,Zf<|.int<|n % m]) ?_).trans rfl;exact cC (bC (by rfl) g) (by rfl)
noncomputable def isT:Option D->Bool
 | some (.bl true)=>true
 | _=>false
theorem zg(h:isT o=true):o=some (.bl true):=by
 cases o with
 | none=>cases h
 | some d=>cases d with
  | bl b=>cases b with
   | true=>rfl
   | false=>cases h
  | _=>cases h
noncomputable def M(x:List Nat):Nat:=2*2^x.length - 1
def YK:bV:=aC (aW (aL cj (Zw [35]) (bj 1)) (ak 3)) (aV (ao d8 (aa (dH 4 5 (eF (aa (ao cN (aa (bj 3) aj)) aj)) (ak 4) (dg (aL jT (aL Om (az Oj 2 (bj 4)) (Zi 1)) (Zi 1))) (az bZ 3 (bj 4))) aj)))
noncomputable def bit(d k:Nat):Bool:=Builtin.bitAnd ((1+(d:Int)) / 2^k) 1 == 1
def sgR(x:List Nat)(d:Nat):D:=.tup ((((List.range (x.length+1)).filter (bit d)).map λk=>(35::x).getD k 0).map λc=>.str [c])
def SG(x:List Nat):List D:=.non::(List.range (M x)).map (sgR x)
theorem acO(a:OD):∀x∈XS,∀d,d<M x->∃e3,YK [a,Zs x,Zf (.int (1+d)),Zn] = .rt false (sgR x d) [a,Zs x,Zf (.int (1+d)),e3]:=by
 intro x hx d hd;have hl:=o8 x hx;refine⟨Zs (35::x),?_⟩;unfold YK;refine(aR<|cC (d:=.str (35::x)) (cA rfl rfl ?_) rfl).trans ?_
 ·unfold cj;exact if_pos<|Qqj (show 1+x.length<=5 by omega) (by decide)
 ·have h:dH 4 5 (eF (aa (ao cN (aa (bj 3) aj)) aj)) (ak 4) (dg (aL jT (aL Om (az Oj 2 (bj 4)) (Zi 1)) (Zi 1))) (az bZ 3 (bj 4)) [a,Zs x,Zf (.int (1+(d:Int))),Zs (35::x)] = .ok (.lst (((List.range (x.length+1)).filter (bit d)).map λk=>.str [(35::x).getD k 0])) [a,Zs x,Zf (.int (1+(d:Int))),Zs (35::x)]:=by
   refine Bh (n:=5) (List.range (x.length+1)) (λk=>.int (k:Int)) (bit d) (λk=>.str [(35::x).getD k 0]) ?_ rfl rfl (λk hk=>?_) (λk hk _=>?_) (by rw[List.length_range];exact Qqj (show x.length+1<=5 by omega) (by decide))
   ·exact aeJ rfl (wj (Qxx (show(35::x).length<=5 by simp_all) (by decide)))
   ·rfl
   ·refine bN (i:=3) rfl rfl rfl ?_;show(qO (35::x) (k:Int)).map _=_;have hk':k<(35::x).length:=Qw7.mp hk;rw[m6 (v:=(35::x).getD k 0) (by simp_all)]
    rfl
  refine cW (bC (bw h cL) ?_);unfold sgR;rw[Qxj]
  rfl
theorem signs(n)(x)(hx:x∈XS):∃r n',oE [.lst [.int n],.str x]=some (r,.lst [.int n'])/\r∈SG x:=by
 obtain⟨d,hd,e⟩:=dig n 2 (by decide);have t:dg (aL jT (fW bz 0 (aa (Zi 2) aj)) (Zi 0)) [Zl [.int n],Zs x,Zn,Zn] = .ok ((d:Int) == 0) [Zl [.int (n / 2)],Zs x,Zn,Zn]:=by
  rw[<-e]
  rfl
 have hc:d=0\/d=1:=by omega
 rcases hc with rfl|rfl
 ·refine⟨.non,n / 2,mH (env:=[Zl [.int (n / 2)],Zs x,Zn,Zn]) ?_ rfl,Qq5 ..⟩;unfold oG;refine(oh ?_).trans rfl;exact(mq t).trans rfl
 ·obtain⟨k,hk,ek⟩:=dig (n / 2) (M x) (by unfold M;have:0<2^x.length:=Nat.two_pow_pos _;omega);obtain⟨e3,h3⟩:=acO (Zl [.int (n / 2 / (M x:Int))]) x hx k hk;refine⟨sgR x k,n / 2 / (M x:Int),mH (env:=[Zl [.int (n / 2 / (M x:Int))],Zs x,Zf (.int (1+(k:Int))),e3]) ?_ rfl,Qq0 _ (Qwk.mpr ⟨k,Qw7.mpr hk,rfl⟩)⟩;unfold oG;refine(aR (e:=[Zl [.int (n / 2)],Zs x,Zn,Zn]) ?_).trans ?_
  ·exact(m8 t).trans rfl
  ·refine(aR (e:=[Zl [.int (n / 2 / (M x:Int))],Zs x,Zf (.int (1+n / 2 % (M x:Int))),Zn]) ?_).trans ?_
   ·have hM:aL qZ (aL W7 (Zi 2) (ao cN (aa (bj 1) aj))) (Zi 1) [Zl [.int (n / 2)],Zs x,Zn,Zn] = .ok (.int (M x:Int)) [Zl [.int (n / 2)],Zs x,Zn,Zn]:=by
     have hl:=o8 x hx;refine cA (x:=.int (2*2^x.length)) (cA rfl rfl ?_) rfl ?_
     ·unfold W7 gI;simp only;rw[if_pos (Qw8 ⟨Int.natCast_nonneg _,by omega,by decide⟩),Qzy]
     ·show some (D.int (2*2^x.length - 1))=_;have hp:0<2^x.length:=Nat.two_pow_pos _;have e:((M x:Nat):Int)=2*2^x.length - 1:=by
       unfold M;rw[Int.natCast_sub (by omega),Int.natCast_mul,Int.natCast_pow]
       rfl
      rw[e]
    have ht:bz [.lst [.int (n / 2)],.int (M x:Int)]=some (.int (n / 2 % (M x:Int)),.lst [.int (n / 2 / (M x:Int))]):=by have hl:=o8 x hx;have hp:0<2^x.length:=Nat.two_pow_pos _;have hq:2^x.length<=2^4:=Nat.pow_le_pow_right (by decide) hl;exact jL (n / 2) (M x) (by unfold M;omega) (by unfold M;omega)
    refine cC (cA rfl (iC rfl (bw hM cL) rfl ht) rfl) rfl
   ·rw[ek];exact h3
noncomputable def oth(x:List Nat)(c:Nat):List D:=((x.map (λa=>[a])++[[]]).filter λz=>z != [c]).map .str
def PV(x:List Nat):List (Nat×D):=x.flatMap λc=>(oth x c).map λv=>(c,v)
def one:bV:=aW (az bZ 1 (fW bz 0 (aa (ao cN (aa (bj 1) aj)) aj))) (ak 4)
def others:bV:=eY 5 (dH 6 7 (eG (aL cj (ao zW (aa (bj 1) aj)) (fB (aa (Zw []) aj)))) (ak 6) (dg (az tQ 6 (bj 4))) (aN 6))
def zH:bV:=tW 2 (aN 4) (az bZ 5 (fW bz 0 (aa (ao cN (aa (bj 5) aj)) aj)))
theorem Wj(a b v3 v5:OD):∀x∈XS,∀c∈x,others [a,Zs x,b,v3,Zs [c],v5] = .nx [a,Zs x,b,v3,Zs [c],Zl (oth x c)]:=by
 intro x hx c hc;have hl:=o8 x hx;unfold others;refine(BR (e:=[a,Zs x,b,v3,Zs [c],v5]) ?_).trans rfl;have h5:(x.map (λa=>[a])++[[]]).length<=5:=by simp_all
 refine Bh (n:=7) (x.map (λa=>[a])++[[]]) D.str (λz=>z != [c]) D.str ?_ rfl rfl (λz hz=>rfl) (λz hz _=>rfl) (Qqj h5 (by decide));refine KZ (d:=.lst<|((x.map λa=>[a])++[[]]).map D.str) (cA rfl rfl ?_) rfl;rw[Qxk,Qxj];refine Oo (a:=jc x) ?_;unfold jc;rw[Qqz];exact Qqj (Nat.succ_le_succ hl) (by decide)
theorem adA:∀x∈XS,∀c∈x,(oth x c).length=x.length:=by
 intro x hx c hc;have h1:=List.length_erase_of_mem hc;rw[(Jh hx).nd.erase_eq_filter] at h1;have e:(λz:List Nat=>z != [c]) ∘ (λa=>[a])=λa=>a != c:=by grind
 unfold oth
 grind
theorem wL:∀x∈XS,0<x.length:=λ_ h=>(Jh h).pos
theorem VR{i:Nat}{env e1 e2:Ev.Env}(h1:a env = .ok d e1)(h2:e1[i]? = some (some (o,x0)))(h3:k e1 = .ok kd e2)(h4:e2[i]? = some (Zt (.dct kvs)))(h5:tM kd=some q)(hz:kvs.length<sizeLine) :
  tW i k a env = .nx (e2.set i (Zt (.dct (putD kvs kd q d)))):=by
 unfold tW;rw[h1];simp[gr]
 simp_all
def Zx(kvs:List (D×D))(p:Nat×D):List (D×D):=putD kvs (.str [p.1]) (.inr (strOf [p.1])) p.2
theorem round(n)(x)(hx:x∈XS)(kvs)(hk:kvs.length<=10)(v3 v4 v5:OD):∃p n' v4' v5',p∈PV x/\aC one (aC others zH) [Zl [.int n],Zs x,Zt (.dct kvs),v3,v4,v5] = .nx [Zl [.int n'],Zs x,Zt (.dct (Zx kvs p)),v3,v4',v5']:=by
 have hp:=wL x hx;have hl4:=o8 x hx;obtain⟨d,hd,e⟩:=dig n x.length hp;have hc:x[d]∈x:=Qw9 hd;have hol:=adA x hx x[d] hc;obtain⟨d',hd',e'⟩:=dig (n / (x.length:Int)) x.length hp;have hv:d'<(oth x x[d]).length:=by omega
 refine⟨(x[d],(oth x x[d])[d']),n / (x.length:Int) / (x.length:Int),Zs [x[d]],Zl (oth x x[d]),?_,?_⟩
 ·unfold PV
  simp_all
 ·refine(aR (e:=[Zl [.int (n / (x.length:Int))],Zs x,Zt (.dct kvs),v3,Zs [x[d]],v5]) ?_).trans ?_
  ·unfold one;refine cC (e:=[Zl [.int (n / (x.length:Int))],Zs x,Zt (.dct kvs),v3,v4,v5]) ?_ (by rfl);refine bN (y:=.int (n % (x.length:Int))) (by rfl) ?_ (by rfl) ?_
   ·exact iC (e1:=[Zl [.int n],Zs x,Zt (.dct kvs),v3,v4,v5]) (by rfl) (by rfl) (by rfl) (jL n x.length hp (by omega))
   ·show(qO x (n % (x.length:Int))).map _=_;rw[e,Le hd]
    rfl
  ·refine(aR (Wj _ _ _ _ x hx x[d] hc)).trans ?_;unfold zH;refine(VR (e1:=[Zl [.int (n / (x.length:Int) / (x.length:Int))],Zs x,Zt (.dct kvs),v3,Zs [x[d]],Zl (oth x x[d])])
    ?_ (by rfl) (by rfl) (by rfl) (by rfl) (Qxx hk (by decide))).trans rfl
   refine bN (y:=.int (n / (x.length:Int) % (x.length:Int))) (by rfl) ?_ (by rfl) ?_
   ·refine iC (e1:=[Zl [.int (n / (x.length:Int))],Zs x,Zt (.dct kvs),v3,Zs [x[d]],Zl (oth x x[d])]) (by rfl) ?_ (by rfl) (jL _ x.length hp (by omega));refine bw ?_ cL;refine bC (by rfl) ?_;show some (D.int ((oth x x[d]).length:Int))=_;rw[hol]
   ·show qO (oth x x[d]) (n / (x.length:Int) % (x.length:Int))=_;rw[e',Le hv]
def Xj(kvs:List (D×D)):Option D:=match mU [.dct kvs] with
 | some (.lst ks)=>if (ks.all λk=>(lW (.dct kvs) k).isSome) then some (.tup (ks.map λk=>.tup [k,(lW (.dct kvs) k).getD .non])) else none
 | _=>none
def ajJ:bV:=aV (ao d8 (aa (dH 6 7 (eG (ao mU (aa (bj 2) aj))) (ak 6) bY (cY (Zv 6 (aa (az lW 2 (bj 6)) aj)))) aj))
theorem Oh(h:mU [.dct kvs]=some (.lst ks)):ks.length<=64:=by
 obtain⟨zs,h1,h2⟩:=Qxy.mp h;split at h2
 ·rename_i hz;cases h2;rw[Qqz,(ji zs).length_eq];omega
 ·cases h2
theorem uX(h:Xj kvs=some ch)(a b v3 v4 v5:OD):ajJ [a,b,Zt (.dct kvs),v3,v4,v5] = .rt false ch [a,b,Zt (.dct kvs),v3,v4,v5]:=by
 unfold Xj at h;split at h
 ·rename_i ks hs;split at h
  ·rename_i hall;cases h;obtain⟨env',h1,v6,rfl⟩:=Ul (g:=ak 6) (e:=cY<|Zv 6<|aa (az lW 2<|bj 6) aj) (λenv=>∃v6,env=[a,b,Zt<|.dct kvs,v3,v4,v5,v6]) (λk=>.tup [k,(lW (.dct kvs) k).getD .non]) ks [a,b,Zt<|.dct kvs,v3,v4,v5,Zn] ⟨none,rfl⟩
    (λk hk env ⟨v6,he⟩=>by
     subst he;obtain⟨v,hv⟩:=Qxq.mp<|Qw0.mp hall k hk;refine⟨_,[a,b,Zt<|.dct kvs,v3,v4,v5,Zf k],rfl,?_,Zf k,rfl⟩;rw[hv];exact p7 (bw (d:=k) (by rfl)<|bw (d:=v) (bN (y:=k) (by rfl) (by rfl) (by rfl) hv) cL) Ev.zz2)
   refine cW<|bC (ds:=[.lst (ks.map λk=>.tup [k,(lW (.dct kvs) k).getD .non])]) (bw ?_ cL) rfl;refine xW (n:=7) (aJ:=[a,b,Zt (.dct kvs),v3,v4,v5]) ?_ (by rfl) h1 ?_
   ·exact KZ (bC (by rfl) hs) rfl
   ·rw[Qqz];exact Qqj (Oh hs) (by decide)
  ·cases h
 ·cases h
structure Av(x:List Nat)(kvs:List (D×D))(zs:List Nat):Prop where
 keys:kvs.map (·.1)=zs.map λc=>D.str [c]
 nd:zs.Nodup
 mem:∀c∈zs,c∈x
 vals:∀k v,(k,v)∈kvs->∃c,k = .str [c]/\(c,v)∈PV x
theorem m7(h:strOf a=strOf b):a=b:=by
 have:=Qx7 (λs:Str=>s.cps.toList) h
 assumption
theorem yw(q)(d):∀kvs,(Ag kvs q d).map (·.1)=kvs.map (·.1)
 | []=>rfl
 | (k,e)::r=>by
  unfold Ag;rw[Qq4,Qq4,yw q d r]
  grind
theorem BX:∀{kvs} {k v},(k,v)∈Ag kvs q d->(k,v)∈kvs\/(tM k=some q/\v=d)
 | [],_,_,h=>by simp[Ag] at h
 | (k',e)::r,k,v,h=>by
  unfold Ag at h;rcases Qwq.mp h with h|h
  ·grind
  ·rcases BX h with h|h
   all_goals simp_all
theorem ym:∀{kvs},rB kvs q=none->∀k v,(k,v)∈kvs->tM k≠some q
 | [],_,k,v,hm=>by simp at hm
 | (k',e)::r,h,k,v,hm=>by
  unfold rB at h;split at h
  ·cases h
  ·rename_i hk;rcases Qwq.mp hm with hm|hm
   ·simp_all
   ·exact ym h k v hm
theorem qP:∀{kvs},rB kvs q=some d->∃k,(k,d)∈kvs/\tM k=some q
 | [],h=>by simp[rB] at h
 | (k',e)::r,h=>by
  unfold rB at h;split at h
  ·simp_all
  ·obtain⟨k,h1,h2⟩:=qP h
   grind
theorem Av.put(h:Av x kvs zs)(hp:p∈PV x)(hx:p.1∈x):∃zs',Av x (Zx kvs p) zs'/\0<zs'.length/\zs'.length<=zs.length+1:=by
 unfold Zx putD;cases e:rB kvs (.inr<|strOf [p.1]) with
 | none=>
  simp[Option.isSome_none,Bool.false_eq_true,if_false];refine⟨zs++[p.1],⟨?_,?_,λc hc=>?_,λk v hm=>?_⟩,by simp,by simp⟩
  ·rw[Qxk,Qxk,h.keys];rfl
  ·refine List.nodup_append.mpr ⟨h.nd,Qz2.mpr ⟨List.not_mem_nil,.nil⟩,λa ha b hb=>?_⟩;rcases Qq9.mp hb with rfl;rintro rfl;have hm:D.str [p.1]∈kvs.map (·.1):=by rw[h.keys];exact Qwk.mpr ⟨p.1,ha,rfl⟩
   obtain⟨⟨k,v⟩,h1,h2⟩:=Qwk.mp hm;have h2':=h2;subst h2';exact ym e _ _ h1 rfl
  ·rcases Qw5.mp hc with hc|hc
   ·exact h.mem c hc
   ·rw[Qq9.mp hc];exact hx
  ·rcases Qw5.mp hm with hm|hm
   ·exact h.vals k v hm
   ·have:=Qq9.mp hm;cases this;exact⟨p.1,rfl,hp⟩
 | some w=>
  simp[Option.isSome_some,if_true];obtain⟨k0,hk0,_⟩:=qP e;have hne:0<zs.length:=by have:=Qx7 List.length h.keys;rw[Qqz,Qqz] at this;rw[<-this];exact List.length_pos_of_mem hk0
  refine⟨zs,⟨by rw[yw];exact h.keys,h.nd,h.mem,λk v hm=>?_⟩,hne,Nat.le_succ _⟩;rcases BX hm with hm|⟨hk,rfl⟩
  ·exact h.vals k v hm
  ·have hin:k∈(Ag kvs (.inr<|strOf [p.1]) p.2).map (·.1):=Qwk.mpr ⟨_,hm,rfl⟩;rw[yw,h.keys] at hin;obtain⟨c,hc,rfl⟩:=Qwk.mp hin;have:strOf [c]=strOf [p.1]:=by
    have:=Qw6 hk;exact Sum.inr.inj this
   have e2:=m7 this;cases e2;exact⟨p.1,rfl,hp⟩
theorem wM(h:p∈PV x):p.1∈x:=by
 unfold PV at h
 grind
theorem qR(zs:List (List Nat)):jM (zs.map D.str)=some zs:=by
 induction zs with
 | nil=>rfl
 | cons z r ih=>
  rw[Qq4];unfold jM
  simp_all
theorem V1(h:Av x kvs zs)(h4:zs.length<=4):mU [.dct kvs]=some (.lst ((jN (zs.map λc=>[c])).map .str)):=by
 have e:kvs.map (·.1)=(zs.map λc=>[c]).map D.str:=by rw[h.keys,Qxj];rfl
 show(jM<|kvs.map (·.1)).bind _=_;rw[e,qR];show(if _ then _ else _)=_;rw[if_pos];refine⟨by grind,λz hz=>?_⟩;obtain⟨c,_,rfl⟩:=Qwk.mp hz;show 1<=sizeLine
 decide
def prs(kvs:List (D×D))(ks:List D):List D:=ks.map λk=>.tup [k,(lW (.dct kvs) k).getD .non]
theorem wC(h:Av x kvs zs)(k)(hk:k∈(jN (zs.map λc=>[c])).map D.str):∃c v,k = .str [c]/\lW (.dct kvs) k=some v/\(c,v)∈PV x:=by
 obtain⟨z,hz,rfl⟩:=Qwk.mp hk;obtain⟨c,hc,rfl⟩:=Qwk.mp<|(ji _).mem_iff.mp hz;have hm:D.str [c]∈kvs.map (·.1):=by rw[h.keys];exact Qwk.mpr ⟨c,hc,rfl⟩
 obtain⟨⟨k,v⟩,h1,h2⟩:=Qwk.mp hm;have h2':=h2;subst h2';cases e:rB kvs (.inr<|strOf [c]) with
 | none=>exact absurd rfl (ym e _ _ h1)
 | some w=>
  obtain⟨k',h3,h4⟩:=qP e;obtain⟨c',rfl,h5⟩:=h.vals k' w h3;have e2:=Sum.inr.inj<|Qw6 h4;cases m7 e2;exact⟨c,w,rfl,e,h5⟩
theorem uY(h:Av x kvs zs)(h4:zs.length<=4):Xj kvs=some (.tup (prs kvs ((jN (zs.map λc=>[c])).map D.str))):=by
 unfold Xj;rw[V1 h h4];simp only;rw[if_pos]
 ·rfl
 ·refine Qw0.mpr λk hk=>?_;obtain⟨c,v,_,e,_⟩:=wC h k hk;rw[e];rfl
end lQ
namespace Qi
open Ev
def j6:bV:=mj.j6
def bz:List D->Option (D×D):=ou 3 j6
def sO:bV:=aV (aL qj (Zw []) (dH 3 4 (eF (aa (fW bz 0 (aa (az cj 2 (Zi 1)) aj)) aj)) (ak 3) bY (az bZ 1 (fW bz 0 (aa (ao cN (aa (bj 1) aj)) aj)))))
def nG:List D->Option (D×D):=ou 3 sO
open Ev PySem L2
noncomputable abbrev XS:=lQ.XS
theorem wL:∀x∈XS,0<x.length:=λ_ h=>(lQ.Jh h).pos
open lQ (jL)
theorem RM(P:Ev.Env->Prop)(R:D->Prop):∀ds env,P env->(∀d∈ds,∀env,P env->∃y e1 e2,g d env=some e1/\e e1 = .ok y e2/\P e2/\R y)->∃ys env',vp g bY e ds env = .ok ys env'/\P env'/\(∀y∈ys,R y)/\ys.length=ds.length
 | [],env,hp,_=>⟨[],env,rfl,hp,λy hy=>by simp at hy,rfl⟩
 | d::ds,env,hp,h=>by
  obtain⟨y,e1,e2,h1,h2,h3,h4⟩:=h d (Qq5 ..) env hp;obtain⟨ys,e3,h5,h6,h7,h8⟩:=RM P R ds e2 h3 λd' hd=>h d'<|Qq0 _ hd;refine⟨y::ys,e3,?_,h6,λz hz=>?_,by simp_all⟩
  ·unfold vp;rw[h1];show bindR (e e1) _=_;rw[h2];show bindR (vp g bY e ds e2) _=_;rw[h5]
   rfl
  grind
theorem G8:∀zs,zT [] zs=zs.flatten
 | []=>rfl
 | x::r=>by
  show r.foldl (λacc y=>acc++[]++y) x=(x::r).flatten;have go:∀(r:List (List Nat)) x,r.foldl (λacc y=>acc++[]++y) x=x++r.flatten:=by
   intro r
   induction r with
   | nil=>intro x;simp
   | cons y r ih=>simp_all
  rw[go];rfl
theorem qR(zs:List (List Nat)):jM (zs.map D.str)=some zs:=by
 induction zs with
 | nil=>rfl
 | cons z r ih=>
  rw[Qq4];unfold jM
  simp_all
theorem QK{zs:List (List Nat)}(h:∀z∈zs,z.length<=k):(zs.map List.length).sum<=zs.length*k:=by
 induction zs with
 | nil=>simp
 | cons z r ih=>
  rw[Qq4,List.sum_cons,Qq3,Nat.add_mul]
  grind
theorem Xa(h1:zs.length<=100)(h2:∀z∈zs,z.length<=10):joinFits [] zs=true:=by
 refine Qw8 ?_;have:=QK h2
 grind
theorem join_eq{zs:List (List Nat)}(h1:zs.length<=100)(h2:∀z∈zs,z.length<=10):qj (.str []) (.lst (zs.map .str))=some (.str zs.flatten):=by show(match jM (zs.map D.str) with|some xs=>if joinFits [] xs=true then some (D.str<|zT [] xs) else none|none=>none)=_;rw[qR];show(if joinFits [] zs=true then _ else _)=_;rw[if_pos (Xa h1 h2),G8]
theorem Tu{x:List Nat}:∀{ys},(∀y∈ys,∃c∈x,y = .str [c])->∃w:List Nat,ys=(w.map λc=>[c]).map D.str/\∀c∈w,c∈x
 | [],_=>⟨[],rfl,λc hc=>by simp at hc⟩
 | y::ys,h=>by
  obtain⟨c,hc,rfl⟩:=h y<|Qq5 ..;obtain⟨w,rfl,hw⟩:=Tu λz hz=>h z<|Qq0 _ hz;refine⟨c::w,rfl,λd hd=>?_⟩
  grind
theorem abh(w:List Nat):(w.map λc=>[c]).flatten=w:=by
 induction w with
 | nil=>rfl
 | cons c r ih=>simp_all
theorem wj{j:Nat}(h:j<1000):vg [.int j]=some (iR 0 1 j):=by
 have hf:lG j=true:=by
  unfold lG
  grind
 unfold vg
 simp_all
theorem uL(h:a env = .ok ds e)(h':vg ds=some ys):eF a env = .ok ys e:=by
 unfold eF;rw[h];show fc (vg ds) e=_;rw[h']
 rfl
theorem word(n)(x)(hx:x∈XS)(m:Nat)(hm:m<=50):∃w n',nG [.lst [.int n],.str x,.int m]=some (.str w,.lst [.int n'])/\(∀c∈w,c∈x)/\w.length<=m:=by
 have hp:=wL x hx;have hl4:=lQ.o8 x hx;obtain⟨d,hd,e⟩:=dig n (m+1) (by omega);obtain⟨ys,env',h1,⟨n',v3,rfl⟩,h3,h4⟩:=RM (g:=ak 3) (e:=az bZ 1<|fW bz 0<|aa (ao cN<|aa (bj 1) aj) aj) (λenv=>∃n v3,env=[Zl [.int n],Zs x,Zf<|.int (m:Int),v3]) (λy=>∃c∈x,y = .str [c]) (iR 0 1 d)
  [Zl [.int (n / ((m+1:Nat):Int))],Zs x,Zf<|.int (m:Int),Zn] ⟨_,_,rfl⟩
  (λs _ env ⟨n,v3,he⟩=>by
   subst he;obtain⟨j,hj,ej⟩:=dig n x.length hp;refine⟨.str [x[j]],[Zl [.int n],Zs x,Zf<|.int (m:Int),Zf s],[Zl [.int (n / (x.length:Int))],Zs x,Zf<|.int (m:Int),Zf s],rfl,?_,⟨_,_,rfl⟩,x[j],Qw9 hj,rfl⟩;refine bN (y:=.int<|n % (x.length:Int)) (by rfl) ?_ (by rfl) ?_
   ·exact iC (e1:=[Zl [.int n],Zs x,Zf<|.int (m:Int),Zf s]) (by rfl) (by rfl) (by rfl)<|jL n x.length hp (by omega)
   ·show(qO x<|n % (x.length:Int)).map _=_;rw[ej,Le hj]
    rfl)
 obtain⟨w,rfl,hw⟩:=Tu h3;have hwl:w.length=d:=by have:=h4;rw[Qqz,Qqz,jU] at this;exact this
 refine⟨w,n',mH (env:=[Zl [.int n'],Zs x,Zf<|.int (m:Int)]) ?_ rfl,hw,by omega⟩;unfold sO;refine cW (cA (by rfl) (y:=.lst ((w.map λc=>[c]).map D.str)) ?_ ?_)
 ·refine xW (n:=4) (aJ:=[Zl [.int (n / ((m+1:Nat):Int))],Zs x,Zf (.int (m:Int))]) ?_ (by rfl) h1 ?_
  ·refine uL (ds:=[.int (n % ((m+1:Nat):Int))]) ?_ (by rw[e];exact wj (by omega));refine bw ?_ cL;exact iC (e1:=[Zl [.int n],Zs x,Zf (.int (m:Int))]) (by rfl) (by rfl) (by rfl) (jL n (m+1) (by omega) (by omega))
  ·rw[Qqz,Qqz,hwl];exact Qqj (show d<=100 by omega) (by decide)
 ·have:=join_eq (zs:=w.map λc=>[c]) (by grind) (λz hz=>by grind);rw[abh] at this;exact this
noncomputable def texts(x:List Nat):List (List Nat):=[[],[x.headD 0],[x.getLastD 0],[x.headD 0,x.headD 0],[x.headD 0,x.getLastD 0]]
end Qi
namespace qb
open Ev
def m5:bV:=mj.m5
def jz:LD:=bT 2 m5
def lE:bV:=mj.lE
def uI:LD:=bT 5 lE
def jG:bV:=mj.jG
def pL:LD:=bT 1 jG
def eO:bV:=aC (aW (aN 0) (dR 4 (aZ (ak 2) (aZ (ak 3) (aZ (ak 4) (aZ (ak 5) dU)))))) (aC (aW (aL bZ (az bZ 3 (Zi 0)) (Zi 1)) (ak 6)) (aC (eY 7 (fB aj)) (aC (aW (Zw [35]) (ak 8)) (aC (gC (eG (az cj 1 (Zw [35]))) (ak 9) (aC (cZ (fP (dg (ao jz (Zv 4 (Zv 8 aj)))) (dg (ao jz (Zv 5 (Zv 9 aj))))) (kY 7 (aN 6)) bH) (aC (kY 7 (aN 9)) (aW (aN 9) (ak 8))))) (aV (aL qj (Zw []) (zx (aN 7) jD (tU (gh tO (Zi 1))))))))))
def jF:LD:=bT 10 eO
def dX:bV:=aC (aW (aN 0) (dR 4 (aZ (ak 2) (aZ (ak 3) (aZ (ak 4) (aZ (ak 5) dU)))))) (aC (aW (ao uG (aa (bj 3) aj)) (ak 6)) (aC (aW (az cj 1 (Zw [35])) (ak 7)) (aC (eY 8 (fB aj)) (aC (aW (Zw [35]) (ak 9)) (aC (gC (Su (Zv 1 aj)) (dR 2 (aZ (ak 10) (aZ (ak 11) dU))) (aC (aW (aN 11) (ak 12)) (aC (cZ (fP (dg (az qJ 11 (bj 6))) (fP (dg (ao jz (Zv 4 (Zv 9 aj)))) (dg (ao jz (Zv 5 (aa (az bZ 7 (az cj 10 (Zi 1))) aj)))))) (aW (az lW 6 (bj 11)) (ak 12)) bH) (aC (kY 8 (aN 12)) (cZ (dg (az jT 2 (Zw [111,110,99,101]))) (aW (aN 11) (ak 9)) (cZ (dg (az tQ 12 (Zw []))) (aW (aN 12) (ak 9)) bH)))))) (aV (aL qj (Zw []) (bj 8))))))))
def iV:LD:=bT 13 dX
def fC:bV:=mj.fC
def j5:LD:=bT 2 fC
def ir:bV:=mj.ir
def lX:LD:=bT 3 ir
def lN:bV:=mj.m5
def cR:LD:=bT 2 lN
def fY:bV:=aC (aW (aL cj (aL cj (Zw [35]) (bj 1)) (Zw [35])) (ak 2)) (aC (aW (Zw []) (ak 3)) (aC (gC (eF (aa (Zi 1) (aa (ao cN (aa (bj 2) aj)) aj))) (ak 4) (aC (cZ (fP (dg (ao cR (aa (az bZ 0 (Zi 2)) (aa (az bZ 2 (az qZ 4 (Zi 1))) aj)))) (dg (ao cR (aa (az bZ 0 (Zi 3)) (aa (az bZ 2 (bj 4)) aj))))) (aW (az cj 3 (aL bZ (aL bZ (az bZ 0 (Zi 1)) (Zi 0)) (Zi 1))) (ak 3)) bH) (aW (az cj 3 (az bZ 2 (bj 4))) (ak 3)))) (aV (vB (aN 3) jD (tU (gh tO (Zi 1)))))))
def jw:LD:=bT 5 fY
def dD:bV:=aC (aW (aN 0) (dR 4 (aZ (ak 2) (aZ (ak 3) (aZ (ak 4) (aZ (ak 5) dU)))))) (aC (cZ (dg (aL jT (aL bZ (az bZ 3 (Zi 0)) (Zi 0)) (Zw []))) (aV (ao jw (Zv 0 (Zv 1 aj)))) bH) (aC (aW (ao uG (aa (bj 3) aj)) (ak 6)) (aC (aW (aL cj (aL cj (Zw [35]) (bj 1)) (Zw [35])) (ak 7)) (aC (aW (Zw [35]) (ak 8)) (aC (gC (eF (aa (Zi 1) (aa (aL qZ (ao cN (aa (bj 7) aj)) (Zi 1)) aj))) (ak 9) (aC (aW (az bZ 7 (az qZ 9 (Zi 1))) (ak 10)) (aC (cZ (dg (az jT 2 (Zw [97,108,111,110,103]))) (aW (az bZ 8 (gh tO (Zi 1))) (ak 10)) bH) (cZ (fP (dg (aL qJ (az bZ 7 (bj 9)) (bj 6))) (fP (dg (ao cR (Zv 4 (Zv 10 aj)))) (dg (ao cR (Zv 5 (aa (az bZ 7 (az cj 9 (Zi 1))) aj)))))) (aW (az cj 8 (az lW 6 (az bZ 7 (bj 9)))) (ak 8)) (aW (az cj 8 (az bZ 7 (bj 9))) (ak 8)))))) (aV (vB (aN 8) (tU (Zi 1)) jD)))))))
def cT:LD:=bT 11 dD
def fX:bV:=mj.fX
def jt:LD:=bT 1 fX
def dh:bV:=aC (cZ (dg (az jT 0 (Zw [114,105,103,104,116]))) (aV (tu (ao cT (aa (ao jt (Zv 1 aj)) (aa (tu (aN 2)) aj))))) bH) (aV (ao cT (Zv 1 (Zv 2 aj))))
def cU:LD:=bT 3 dh
open Ev PySem L2
noncomputable abbrev XS:=lQ.XS
open lQ (wL o8 Av PV SG Xj prs one others zH uX wC Zx jL wM uY)
theorem aki:∀x∈XS,∀p∈PV x,∃t,p.2 = .str t/\t.length<=1/\∀c∈t,c∈x:=by
 intro x hx p hp;obtain⟨c,hc,h⟩:=List.mem_flatMap.mp hp;obtain⟨v,hv,rfl⟩:=Qwk.mp h;obtain⟨t,ht,rfl⟩:=Qwk.mp hv
 grind
abbrev Pr:=Nat×List Nat
noncomputable def encC(p:Pr):D:=.tup [.str [p.1],.str p.2]
inductive Aw (x:List Nat):D->Prop
 | put {c:Nat}:c∈x->Aw x (.tup [.tup [.str [],.str [c]]])
 | chg {ps:List Pr}:0<ps.length->ps.length<=4->(∀p∈ps,p.1∈x/\p.2.length<=1/\∀c∈p.2,c∈x)->Aw x (.tup (ps.map encC))
structure jK(x:List Nat)(w ch l r:D):Prop where
 way:w = .str [111,110,99,101]\/w = .str [97,108,111,110,103]
 chg:Aw x ch
 left:l∈SG x
 right:r∈SG x
def fit(l:D)(a:Nat):Bool:=lQ.isT (jz [l,.str [a]])
theorem Dq(a):∀z:List Nat,Dr (.str [a]) (z.map λc=>.str [c])=some (z.contains a)
 | []=>rfl
 | c::z=>by
  rw[Qq4];unfold Dr;rw[Dq a z];show some (([c] == [a])||z.contains a)=_;rw[List.contains_cons]
  congr 2
  grind
theorem n6:∀x∈XS,∀l∈SG x,∀a∈35::x,jz [l,.str [a]]=some (.bl (fit l a)):=by
 intro x hx l hl a ha;have h:∃b,jz [l,.str [a]]=some (.bl b):=by
  rcases Qwq.mp hl with rfl|hl
  ·exact⟨true,rfl⟩
  ·obtain⟨d,_,rfl⟩:=Qwk.mp hl;unfold lQ.sgR;generalize(((List.range<|x.length+1).filter<|lQ.bit d).map λk=>(35::x).getD k 0)=z;refine⟨z.contains a,fH (env:=[Zf (.tup<|z.map λc=>.str [c]),Zs [a]])<|cW ?_⟩;have e:az Ec 1 (bj 0) [Zf (.tup<|z.map λc=>.str [c]),Zs [a]] = .ok (.bl<|z.contains a) [Zf (.tup<|z.map λc=>.str [c]),Zs [a]]:=by
    refine bN rfl rfl rfl ?_;show(Option.map D.bl<|Dr (.str [a])<|z.map λc=>.str [c]).or _=_;rw[Dq]
    rfl
   assumption
 obtain⟨b,e⟩:=h;unfold fit;rw[e];cases b<;>rfl
open lQ (SG gR)
theorem pZ(h:a.length+b.length<=16000000):cj (.str a) (.str b)=some (.str (a++b)):=by show(if a.length+b.length<=sizeLine then _ else _)=_;rw[if_pos (Qqj h (by decide))]
theorem lY(h1:a env = .ok p env)(h2:b env = .ok q env):fP a b env = .ok (p&&q) env:=by
 unfold fP;rw[h1];cases p with
 | true=>exact h2
 | false=>rfl
theorem afY{zs:List (List Nat)}(h1:zs.length<=8100000)(h2:∀z∈zs,z.length<=2):qj (.str []) (.lst (zs.map .str))=some (.str zs.flatten):=by
 have hf:joinFits [] zs=true:=by
  refine Qw8 ?_;have:=Qi.QK h2
  grind
 show(match jM (zs.map D.str) with|some xs=>if joinFits [] xs=true then some (D.str<|zT [] xs) else none|none=>none)=_;rw[Qi.qR];show(if joinFits [] zs=true then _ else _)=_;rw[if_pos hf,Qi.G8]
theorem Ld{all done rest:List D}(h:all=done++d::rest):all[done.length]? = some d:=by rw[h];simp
theorem getD_get{z:List Nat}(h:n<z.length):z[n]? = some (z.getD n 0):=by simp_all
theorem G9{n:Nat}(h:n<z.length):bZ (.str z) (.int n)=some (.str [z.getD n 0]):=by
 show(qO z n).map _=_;rw[m6 (getD_get h)]
 rfl
theorem agV{z done rest:List _}(h:jc z=done++d::rest):d = .str [z.getD done.length 0]/\done.length<z.length:=by
 have h1:=Ld h;unfold jc at h1
 grind
theorem O5{α:Type}(xs:List α):cutD xs none (some (-1))=xs.dropLast:=by
 unfold cutD;have e1:HT.gZ xs.length xs.length (some<|-1)=((-1)+(xs.length:Int)).toNat:=rfl;have e2:HT.gZ xs.length 0 none=0:=rfl;rw[e1,e2,List.drop_zero,List.dropLast_eq_take]
 grind
theorem Xi(xs):xY xs none (some (-1))=xs.dropLast:=O5 xs
noncomputable abbrev ed(w:List Nat):List Nat:=35::(w++[35])
abbrev sg(w:List Nat)(n:Nat):Nat:=(ed w).getD n 0
section
variable{x w:List Nat}{l r:D}
theorem Eo:(ed w).length=w.length+2:=by simp
theorem vK(hw:∀c∈w,c∈x)(h:n<w.length+2):sg w n∈35::x:=by
 have h1:n<(ed w).length:=by rw[Eo];exact h
 have:sg w n∈ed w:=List.mem_of_getElem?<|getD_get h1;rcases Qwq.mp this with e|e
 ·rw[e];exact Qq5 ..
 ·rcases Qw5.mp e with e|e
  ·exact Qq0 _<|hw _ e
  ·rw[Qq9.mp e];exact Qq5 ..
def pc(l r:D)(c:Nat)(w:List Nat)(n:Nat):List (List Nat):=if (fit l (sg w n)&&fit r (sg w (n+1)))=true then [[c]] else []
noncomputable def pin(l r:D)(c:Nat)(w:List Nat):Nat->List (List Nat)
 | 0=>[]
 | n+1=>pin l r c w n++(pc l r c w n++[[sg w (n+1)]])
theorem ZZ(c)(n):(pc l r c w n).length<=1/\∀z∈pc l r c w n,z.length=1:=by
 unfold pc;split
 ·exact⟨Qqw _,λz hz=>by rw[Qq9.mp hz];rfl⟩
 ·exact⟨Qxw _,λz hz=>by simp at hz⟩
theorem Cu(c):∀n,(pin l r c w n).length<=2*n/\∀z∈pin l r c w n,z.length=1
 | 0=>⟨Qqw _,λz hz=>by simp[pin] at hz⟩
 | n+1=>by
  obtain⟨h1,h2⟩:=Cu c n;obtain⟨h3,h4⟩:=ZZ (l:=l) (r:=r) (w:=w) c n;unfold pin
  grind
theorem abi{zs:List (List Nat)}(h:∀z∈zs,z.length=1):zs.flatten.length=zs.length:=by
 induction zs with
 | nil=>rfl
 | cons z t ih=>grind
def inn(l r:D)(c:Nat)(w:List Nat):List Nat:=(pin l r c w w.length++pc l r c w w.length).flatten
theorem Cv(c):(pin l r c w (w.length+1)).dropLast=pin l r c w w.length++pc l r c w w.length:=by
 show(pin l r c w w.length++(pc l r c w w.length++[[sg w (w.length+1)]])).dropLast=_
 simp_all
theorem ZP(c):(pin l r c w (w.length+1)).flatten.dropLast=inn l r c w:=by
 show(pin l r c w w.length++(pc l r c w w.length++[[sg w (w.length+1)]])).flatten.dropLast=(pin l r c w w.length++pc l r c w w.length).flatten
 simp_all
variable(hx:x∈XS)(hl:l∈SG x)(hr:r∈SG x)(hw:∀c∈w,c∈x)(hn:w.length<=4000000)
def Yh:bV:=mj.kE
include hx hl hr
theorem acq(ha:a∈35::x)(hs:s∈35::x)(acc)(hac:acc.length<=8100000)(a0 a1 a2 a3:OD) :
  Yh [a0,a1,a2,a3,Zf l,Zf r,Zs [c],Zl acc,Zs [a],Zs [s]] =
   .nx [a0,a1,a2,a3,Zf l,Zf r,Zs [c],Zl (acc++((if (fit l a&&fit r s)=true then [.str [c]] else [])++[.str [s]])),Zs [s],Zs [s]]:=by
 have t:fP (dg<|ao jz<|Zv 4<|Zv 8 aj) (dg<|ao jz<|Zv 5<|Zv 9 aj) [a0,a1,a2,a3,Zf l,Zf r,Zs [c],Zl acc,Zs [a],Zs [s]] = .ok (fit l a&&fit r s) [a0,a1,a2,a3,Zf l,Zf r,Zs [c],Zl acc,Zs [a],Zs [s]]:=
  lY (mY<|bC rfl (n6 x hx l hl a ha)) (mY<|bC rfl (n6 x hx r hr s hs))
 have tl:∀acc,acc.length<=8100001->aC (kY 7<|aN 9) (aW (aN 9)<|ak 8) [a0,a1,a2,a3,Zf l,Zf r,Zs [c],Zl acc,Zs [a],Zs [s]] = .nx [a0,a1,a2,a3,Zf l,Zf r,Zs [c],Zl<|acc++[.str [s]],Zs [s],Zs [s]]:=λacc hac=>
  (aR<|gR (i:=7) (e:=[a0,a1,a2,a3,Zf l,Zf r,Zs [c],Zl acc,Zs [a],Zs [s]]) rfl rfl rfl (Qxx hac (by decide))).trans rfl
 unfold Yh;cases hc:fit l a&&fit r s with
 | true=>
  rw[hc] at t;rw[if_pos rfl];refine(aR (e:=[a0,a1,a2,a3,Zf l,Zf r,Zs [c],Zl<|acc++[.str [c]],Zs [a],Zs [s]]) ?_).trans ?_
  ·exact(mq t).trans<|(gR (i:=7) (e:=[a0,a1,a2,a3,Zf l,Zf r,Zs [c],Zl acc,Zs [a],Zs [s]]) rfl rfl rfl (Qxx hac (by decide))).trans rfl
  simp_all
 | false=>
  rw[hc] at t;rw[if_neg Qwj];exact(aR<|(m8 t).trans rfl).trans (tl acc (by omega))
theorem adn(c n):((pin l r c w (n+1)).map D.str)=(pin l r c w n).map D.str++((if (fit l (sg w n)&&fit r (sg w (n+1)))=true then [.str [c]] else [])++[.str [sg w (n+1)]]):=by
 show(pin l r c w n++(pc l r c w n++[[sg w (n+1)]])).map D.str=_;rw[Qxk,Qxk];unfold pc
 grind
include hw hn
theorem with_put_in(wy)(c):jF [.tup [wy,.tup [.tup [.str [],.str [c]]],l,r],.str w]=some (.str (inn l r c w)):=by
 generalize hR:D.tup [wy,.tup [.tup [.str [],.str [c]]],l,r]=R;generalize hC:D.tup [.tup [.str [],.str [c]]]=ch;obtain⟨e',f1,hd,a9,rfl⟩:=kI (g:=ak 9) (jc<|w++[35])
  (λdone env=>done.length<=w.length+1/\∃a9,env=[Zf R,Zs w,Zf wy,Zf ch,Zf l,Zf r,Zs [c],Zl<|(pin l r c w done.length).map .str,Zs [sg w done.length],a9])
  (λdone s rest hall env ⟨hd,a9,he⟩=>by
   subst he;obtain⟨rfl,hdl⟩:=agV hall;have arK:done.length<w.length+1:=by simp_all
   have hp:=(Cu (l:=l) (r:=r) (w:=w) c done.length).1;refine⟨_,_,rfl,acq hx hl hr (s:=sg w<|done.length+1) (vK (w:=w) hw (by omega)) (vK (w:=w) hw (by omega)) _ (by grind) _ _ _ _,by grind,Zs [sg w (done.length+1)],?_⟩;rw[Qq1,Qz1,adn hx hl hr])
  [Zf R,Zs w,Zf wy,Zf ch,Zf l,Zf r,Zs [c],Zl [],Zs [35],Zn] ⟨Qxw _,Zn,rfl⟩
 have hlen:(jc<|w++[35]).length=w.length+1:=by unfold jc;rw[Qqz,Qq1,Qz1]
 rw[hlen] at f1;have hp:=Cu (l:=l) (r:=r) (w:=w) c<|w.length+1;refine fH (env:=[Zf R,Zs w,Zf wy,Zf ch,Zf l,Zf r,Zs [c],Zf<|.lst ((pin l r c w (w.length+1)).map .str),Zs [sg w (w.length+1)],a9]) ?_;unfold eO;refine(aR (e:=[Zf R,Zs w,Zf wy,Zf ch,Zf l,Zf r,Zn,Zn,Zn,Zn]) (by rw[<-hR,<-hC];rfl)).trans ?_;refine(aR (e:=[Zf R,Zs w,Zf wy,Zf ch,Zf l,Zf r,Zs [c],Zn,Zn,Zn]) (by rw[<-hC];rfl)).trans ?_;refine(aR rfl).trans ?_;refine(aR rfl).trans ?_;refine(aR ((my ?_).trans f1)).trans ?_
 ·refine KZ (bN rfl rfl rfl (pZ (by grind))) rfl
 ·refine cW (cA rfl (y:=.lst ((pin l r c w w.length++pc l r c w w.length).map .str)) ?_ ?_)
  ·have ec:cutD ((pin l r c w (w.length+1)).map D.str) none (some (-1))=(pin l r c w w.length++pc l r c w w.length).map D.str:=by
    rw[O5,<-List.map_dropLast,Cv c]
   rw[<-ec]
   rfl
  ·rw[<-Cv c];unfold inn;rw[<-Cv c];refine afY ?_ λz hz=>?_
   ·grind
   ·rw[hp.2 z (List.dropLast_subset _ hz)];decide
end
section
variable{x w:List Nat}{l r:D}
theorem ald(h:j<16000000):vg [.int 1,.int (j+1:Nat)]=some (iR 1 1 j):=by
 have hf:lG ((j+1))=true:=by
  unfold lG
  grind
 have e:(((j+1:Nat):Int) - 1).toNat=j:=by omega
 unfold vg;simp only;rw[if_pos ⟨by decide,hf⟩,e]
theorem step_at{done rest:List D}(h:iR 1 1 j=done++d::rest):d = .int (done.length+1:Nat)/\done.length<j:=by
 obtain⟨h1,h2⟩:=BP<|Ld h
 grind
def aar:bV:=aC (cZ (fP (dg (ao cR (aa (az bZ 0 (Zi 2)) (aa (az bZ 2 (az qZ 4 (Zi 1))) aj)))) (dg (ao cR (aa (az bZ 0 (Zi 3)) (aa (az bZ 2 (bj 4)) aj))))) (aW (az cj 3 (aL bZ (aL bZ (az bZ 0 (Zi 1)) (Zi 0)) (Zi 1))) (ak 3)) bH) (aW (az cj 3 (az bZ 2 (bj 4))) (ak 3))
theorem agN(n):qZ (.int (n+1:Nat)) (.int 1)=some (.int n):=by
 show some (D.int<|(n+1) - 1)=_
 simp_all
variable(hx:x∈XS)(hl:l∈SG x)(hr:r∈SG x)(hw:∀c∈w,c∈x)(hn:w.length<=4000000)
include hx hl hr hw hn
theorem adO(wy)(c n)(hnn:n<w.length+1)(f)(hf:f.length<=8100000)(a1:OD) :
  aar [Zf (.tup [wy,.tup [.tup [.str [],.str [c]]],l,r]),a1,Zs (ed w),Zs f,Zf (.int (n+1:Nat))] =
   .nx [Zf (.tup [wy,.tup [.tup [.str [],.str [c]]],l,r]),a1,Zs (ed w),Zs (f++((pc l r c w n).flatten++[sg w (n+1)])),Zf (.int (n+1:Nat))]:=by
 have hp:=ZZ (l:=l) (r:=r) (w:=w) c n;have hpf:(pc l r c w n).flatten.length<=1:=by rw[abi hp.2];exact hp.1
 have i1:=G9 (z:=ed w) (n:=n) (by rw[Eo];omega);have i2:=G9 (z:=ed w) (n:=n+1) (by rw[Eo];omega);have g2:∀f,az bZ 2 (bj 4) [Zf (.tup [wy,.tup [.tup [.str [],.str [c]]],l,r]),a1,Zs<|ed w,Zs f,Zf<|.int ((n+1:Nat):Int)] = .ok (.str [sg w (n+1)]) [Zf (.tup [wy,.tup [.tup [.str [],.str [c]]],l,r]),a1,Zs<|ed w,Zs f,Zf<|.int ((n+1:Nat):Int)]:=λf=>
  bN rfl rfl rfl i2
 have tl:∀f,f.length<=8100001->aW (az cj 3<|az bZ 2<|bj 4) (ak 3) [Zf (.tup [wy,.tup [.tup [.str [],.str [c]]],l,r]),a1,Zs<|ed w,Zs f,Zf<|.int ((n+1:Nat):Int)] = .nx [Zf (.tup [wy,.tup [.tup [.str [],.str [c]]],l,r]),a1,Zs<|ed w,Zs<|f++[sg w (n+1)],Zf (.int ((n+1:Nat):Int))]:=λf hf=>
  cC (bN rfl (g2 f) rfl (pZ (by show f.length+1<=16000000;omega))) rfl
 have t:fP (dg (ao cR (aa (az bZ 0 (Zi 2)) (aa (az bZ 2 (az qZ 4 (Zi 1))) aj)))) (dg (ao cR (aa (az bZ 0 (Zi 3)) (aa (az bZ 2 (bj 4)) aj)))) [Zf (.tup [wy,.tup [.tup [.str [],.str [c]]],l,r]),a1,Zs (ed w),Zs f,Zf (.int ((n+1:Nat):Int))] = .ok (fit l (sg w n)&&fit r (sg w (n+1))) [Zf (.tup [wy,.tup [.tup [.str [],.str [c]]],l,r]),a1,Zs (ed w),Zs f,Zf (.int ((n+1:Nat):Int))]:=by
  refine lY (mY (bC ?_ (n6 x hx l hl _ (vK (w:=w) hw (by omega))))) (mY (bC ?_ (n6 x hx r hr _ (vK (w:=w) hw (by omega)))))
  ·refine bw (d:=l) rfl (bw ?_ cL);exact bN rfl (bN rfl rfl rfl (agN n)) rfl i1
  ·exact bw (d:=r) rfl (bw (g2 f) cL)
 unfold aar;unfold pc at hpf ⊢;cases hc:fit l (sg w n)&&fit r (sg w (n+1)) with
 | true=>
  rw[hc] at t;rw[if_pos rfl];refine(aR (e:=[Zf (.tup [wy,.tup [.tup [.str [],.str [c]]],l,r]),a1,Zs (ed w),Zs (f++[c]),Zf (.int ((n+1:Nat):Int))]) ?_).trans ?_
  ·exact(mq t).trans (cC (bN rfl rfl rfl (pZ (by show f.length+1<=16000000;omega))) rfl)
  ·rw[tl _ (by rw[Qq1,Qz1];omega),List.append_assoc]
   rfl
 | false=>
  rw[hc] at t;rw[if_neg Qwj];exact(aR ((m8 t).trans rfl)).trans (tl f (by omega))
theorem Dk(wy)(c):jw [.tup [wy,.tup [.tup [.str [],.str [c]]],l,r],.str w]=some (.str (inn l r c w)):=by
 obtain⟨e',f1,hd,a9,rfl⟩:=kI (g:=ak 4) (iR 1 1<|w.length+1)
  (λdone env=>done.length<=w.length+1/\∃a9,env=[Zf (.tup [wy,.tup [.tup [.str [],.str [c]]],l,r]),Zs w,Zs<|ed w,Zs<|(pin l r c w done.length).flatten,a9])
  (λdone s rest hall env ⟨hd,a9,he⟩=>by
   subst he;obtain⟨rfl,hdl⟩:=step_at hall;have hp:=Cu (l:=l) (r:=r) (w:=w) c done.length;have hpf:=abi hp.2;refine⟨_,_,rfl,adO hx hl hr hw hn wy c done.length hdl _ (by omega) _,by grind,Zf<|.int ((done.length+1:Nat):Int),?_⟩;rw[Qq1,Qz1];show _=[_,_,_,Zs<|(pin l r c w done.length++(pc l r c w done.length++[[sg w (done.length+1)]])).flatten,_]
   simp_all)
  [Zf (.tup [wy,.tup [.tup [.str [],.str [c]]],l,r]),Zs w,Zs<|ed w,Zs [],Zn] ⟨Qxw _,Zn,rfl⟩
 rw[jU] at f1;refine fH (env:=[Zf (.tup [wy,.tup [.tup [.str [],.str [c]]],l,r]),Zs w,Zs<|ed w,Zs<|(pin l r c w<|w.length+1).flatten,a9]) ?_;unfold fY;refine(aR (e:=[Zf (.tup [wy,.tup [.tup [.str [],.str [c]]],l,r]),Zs w,Zs<|ed w,Zn,Zn]) ?_).trans ?_
 ·refine cC (e:=[Zf (.tup [wy,.tup [.tup [.str [],.str [c]]],l,r]),Zs w,Zn,Zn,Zn]) ?_ rfl;refine cA (x:=.str<|[35]++w) ?_ rfl (pZ (by grind));exact cA rfl rfl (pZ (by grind))
 refine(aR rfl).trans ?_;refine(aR<|(my ?_).trans f1).trans ?_
 ·refine Qi.uL ?_<|ald (by omega);refine bw rfl (bw ?_ cL);refine bC rfl ?_;show some (D.int ((ed w).length:Int))=_;rw[Eo]
 ·refine cW ?_;rw[<-ZP c,<-Xi]
  rfl
end
def Jj(x:List Nat)(kvs:List (D×D)):Prop:=∀k v,(k,v)∈kvs->∃t:List Nat,v = .str t/\t.length<=1/\∀c∈t,c∈x
theorem Jj.put(h:Jj x kvs)(k)(q)(t)(h1:t.length<=1)(h2:∀c∈t,c∈x):Jj x (putD kvs k q (.str t)):=by
 intro k' v hm;unfold putD at hm;split at hm
 ·rcases lQ.BX hm with hm|⟨_,rfl⟩
  ·exact h k' v hm
  simp_all
 ·rcases Qw5.mp hm with hm|hm
  ·exact h k' v hm
  simp_all
theorem Jj.all:∀(ps:List Pr) kvs,Jj x kvs->(∀p∈ps,p.1∈x/\p.2.length<=1/\∀c∈p.2,c∈x)->Jj x (nU kvs (ps.map λp=>(.str [p.1],.str p.2)))
 | [],kvs,h,_=>h
 | p::ps,kvs,h,hp=>by
  have h1:=hp p<|Qq5 ..;exact Jj.all ps _ (h.put (.str [p.1]) (.inr<|strOf [p.1]) p.2 h1.2.1 h1.2.2) λp hm=>hp p<|Qq0 _ hm
theorem GX:∀(ps:List Pr),rO (ps.map encC)=some (ps.map λp=>(.str [p.1],.str p.2))
 | []=>rfl
 | p::ps=>by
  rw[Qq4];unfold rO;rw[GX ps]
  rfl
theorem Bj{ps:List Pr}(hp:∀p∈ps,p.1∈x/\p.2.length<=1/\∀c∈p.2,c∈x):∃kvs,uG [.tup (ps.map encC)]=some (.dct kvs)/\Jj x kvs:=by
 refine⟨nU []<|ps.map λp=>(.str [p.1],.str p.2),?_,Jj.all ps [] (λk v h=>by simp at h) hp⟩;show(rO<|ps.map encC).map _=_;rw[GX]
 rfl
def look(kvs:List (D×D))(s:Nat):Option (List Nat):=match rB kvs (.inr (strOf [s])) with
 | some (.str t)=>some t
 | _=>none
theorem Bc(h:Jj x kvs)(s):qJ (.str [s]) (.dct kvs)=some (.bl (look kvs s).isSome):=by
 show some (D.bl (rB kvs<|.inr<|strOf [s]).isSome)=_;unfold look;cases e:rB kvs (.inr<|strOf [s]) with
 | none=>rfl
 | some v=>
  obtain⟨k,hk,_⟩:=lQ.qP e;obtain⟨t,rfl,_⟩:=h k v hk
  rfl
theorem uA(h:Jj x kvs)(hs:look kvs s=some t):lW (.dct kvs) (.str [s])=some (.str t)/\t.length<=1/\∀c∈t,c∈x:=by
 unfold look at hs;split at hs
 ·rename_i u e;cases hs;obtain⟨k,hk,_⟩:=lQ.qP e;obtain⟨t',h1,h2⟩:=h k _ hk;cases h1;exact⟨e,h2⟩
 ·cases hs
section
variable{x w:List Nat}{l r:D}{kvs:List (D×D)}
def nw(kvs:List (D×D))(l r:D)(w:List Nat)(near n:Nat):List Nat:=if ((look kvs (sg w (n+1))).isSome&&(fit l near&&fit r (sg w (n+2))))=true then (look kvs (sg w (n+1))).getD [] else [sg w (n+1)]
def jW(al:Bool)(w:List Nat)(made:List (List Nat))(n:Nat):Nat:=if al=true then (35::made.flatten).getLastD 0 else sg w n
noncomputable def cg(al:Bool)(kvs:List (D×D))(l r:D)(w:List Nat):Nat->List (List Nat)
 | 0=>[]
 | n+1=>cg al kvs l r w n++[nw kvs l r w (jW al w (cg al kvs l r w n) n) n]
theorem afE(hw:∀c∈w,c∈x)(h:n<w.length):sg w (n+1)=w.getD n 0/\sg w (n+1)∈x:=by grind
theorem aad(hk:Jj x kvs)(hw:∀c∈w,c∈x)(h:n<w.length)(near):(nw kvs l r w near n).length<=1/\∀c∈nw kvs l r w near n,c∈x:=by
 unfold nw;split
 ·cases e:look kvs (sg w<|n+1) with
  | none=>exact⟨Qxw _,λc hc=>by simp at hc⟩
  | some t=>exact(uA hk e).2
 ·exact⟨Qqw _,λc hc=>by rw[Qq9.mp hc];exact(afE hw h).2⟩
theorem IK(al)(hk:Jj x kvs)(hw:∀c∈w,c∈x):∀n,n<=w.length->(cg al kvs l r w n).length=n/\∀z∈cg al kvs l r w n,z.length<=1/\∀c∈z,c∈x
 | 0,_=>⟨rfl,λz hz=>by simp[cg] at hz⟩
 | n+1,h=>by
  obtain⟨h1,h2⟩:=IK al hk hw n (by omega);unfold cg;refine⟨by rw[Qq1,Qz1,h1],λz hz=>?_⟩;rcases Qw5.mp hz with hz|hz
  ·exact h2 z hz
  ·rw[Qq9.mp hz];exact aad hk hw (by omega) _
theorem U8(al)(hk:Jj x kvs)(hw:∀c∈w,c∈x)(h:n<=w.length):(cg al kvs l r w n).flatten.length<=n:=by obtain⟨h1,h2⟩:=IK (l:=l) (r:=r) al hk hw n h;rw[List.length_flatten];have:=Qi.QK λz hz=>(h2 z hz).1;omega
theorem NQ:∀a z,(a::z).getLastD 0∈a::z
 | a,[]=>Qq5 ..
 | a,b::z=>Qq0 _<|NQ b z
theorem Nr(al)(hk:Jj x kvs)(hw:∀c∈w,c∈x)(h:n<=w.length):jW al w (cg al kvs l r w n) n∈35::x:=by
 unfold jW;split
 ·rcases Qwq.mp (NQ 35 (cg al kvs l r w n).flatten) with e|e
  ·rw[e];exact Qq5 ..
  ·obtain⟨z,hz,hc⟩:=List.mem_flatten.mp e;exact Qq0 _<|((IK al hk hw n h).2 z hz).2 _ hc
 ·exact vK hw (by omega)
theorem anv(n:Nat):cj (.int n) (.int 1)=some (.int (n+1:Nat)):=rfl
theorem aea(a)(z):bZ (.str (a::z)) (.int (-1))=some (.str [(a::z).getLastD 0]):=by
 have e:qO (a::z) (-1)=some ((a::z).getLastD 0):=by
  unfold qO ixN;rw[if_neg (by decide),if_pos (by grind)];show(a::z)[((-1)+((a::z).length:Int)).toNat]? = _;have e1:((-1)+((a::z).length:Int)).toNat=(a::z).length - 1:=by omega
  rw[e1,<-List.getLast?_eq_getElem?]
  rfl
 show(qO (a::z)<|-1).map _=_;rw[e]
 rfl
theorem abw(a)(z):xY (a::z) (some 1) none=z:=by
 unfold xY;have e1:HT.gZ (a::z).length (a::z).length none=z.length+1:=rfl;have e2:HT.gZ (a::z).length 0 (some 1)=1:=by rfl
 simp_all
theorem RC(made)(t)(n)(h:t.length<=1):jW true w (made++[t]) (n+1)=if t=[] then jW true w made n else t.headD 0:=by
 unfold jW;rw[if_pos rfl,if_pos rfl]
 match t,h with
 | [],_=>simp_all
 | [a],_=>
  grind
noncomputable def iK(al:Bool):D:=if al=true then .str [97,108,111,110,103] else .str [111,110,99,101]
def Yj:bV:=mj.jO
variable(hx:x∈XS)(hl:l∈SG x)(hr:r∈SG x)(hw:∀c∈w,c∈x)(hn:w.length<=4000000)(hk:Jj x kvs)
include hx hl hr hw hn hk
theorem acr(al)(n)(hnn:n<w.length)(a0 a1 a3 a12:OD) :
  ∃b12,Yj [a0,a1,Zf (iK al),a3,Zf l,Zf r,Zf (.dct kvs),Zs (w++[35]),Zl ((cg al kvs l r w n).map .str),Zs [jW al w (cg al kvs l r w n) n],Zf (.int n),Zs [sg w (n+1)],a12] =
   .nx [a0,a1,Zf (iK al),a3,Zf l,Zf r,Zf (.dct kvs),Zs (w++[35]),Zl ((cg al kvs l r w (n+1)).map .str),Zs [jW al w (cg al kvs l r w (n+1)) (n+1)],Zf (.int n),Zs [sg w (n+1)],b12]:=by
 have hcl:=(IK (l:=l) (r:=r) al hk hw n (by omega)).1;have hnm:=Nr (l:=l) (r:=r) al hk hw (n:=n) (by omega);have hno:=aad (l:=l) (r:=r) hk hw hnn<|jW al w (cg al kvs l r w n) n;have hcg:cg al kvs l r w (n+1)=cg al kvs l r w n++[nw kvs l r w (jW al w (cg al kvs l r w n) n) n]:=rfl;have i2:=G9 (z:=w++[35]) (n:=n+1) (by simp_all);have h2m:sg w (n+2)∈35::x:=vK hw (by omega);rw[hcg];generalize hM:cg al kvs l r w n=made at *;generalize hN:jW al w made n=near at *;have hnw:nw kvs l r w near n=if ((look kvs<|sg w<|n+1).isSome&&(fit l near&&fit r (sg w<|n+2)))=true then (look kvs<|sg w<|n+1).getD [] else [sg w (n+1)]:=rfl
 generalize hT:nw kvs l r w near n=t at *;refine⟨Zs t,?_⟩;unfold Yj;refine(aR rfl).trans ?_;refine(aR (e:=[a0,a1,Zf<|iK al,a3,Zf l,Zf r,Zf<|.dct kvs,Zs<|w++[35],Zl<|made.map .str,Zs [near],Zf<|.int (n:Int),Zs [sg w (n+1)],Zs t]) ?_).trans ?_
 ·have tt:fP (dg<|az qJ 11<|bj 6) (fP (dg<|ao jz<|Zv 4<|Zv 9 aj)<|dg<|ao jz<|Zv 5<|aa (az bZ 7<|az cj 10<|Zi 1) aj) [a0,a1,Zf<|iK al,a3,Zf l,Zf r,Zf<|.dct kvs,Zs<|w++[35],Zl<|made.map .str,Zs [near],Zf<|.int (n:Int),Zs [sg w (n+1)],Zs [sg w (n+1)]] = .ok ((look kvs<|sg w<|n+1).isSome&&(fit l near&&fit r (sg w<|n+2))) [a0,a1,Zf<|iK al,a3,Zf l,Zf r,Zf<|.dct kvs,Zs<|w++[35],Zl<|made.map .str,Zs [near],Zf<|.int (n:Int),Zs [sg w (n+1)],Zs [sg w (n+1)]]:=by
   refine lY (mY<|bN rfl rfl rfl (Bc hk _))<|lY (mY<|bC rfl (n6 x hx l hl _ hnm))<|mY<|bC ?_<|n6 x hx r hr _ h2m;refine bw (d:=r) rfl (bw ?_ cL);exact bN rfl (bN rfl rfl rfl (anv n)) rfl i2
  cases hc:(look kvs<|sg w<|n+1).isSome&&(fit l near&&fit r (sg w<|n+2)) with
  | true=>
   rw[hc] at tt hnw;rw[if_pos rfl] at hnw;obtain⟨u,hu⟩:=Qxq.mp (Qjk.mp hc).1;rw[hu] at hnw;cases hnw;exact(mq tt).trans<|cC (bN rfl rfl rfl (uA hk hu).1) rfl
  | false=>
   rw[hc] at tt hnw;rw[if_neg Qwj] at hnw;rw[hnw];exact(m8 tt).trans rfl
 refine(aR (e:=[a0,a1,Zf<|iK al,a3,Zf l,Zf r,Zf<|.dct kvs,Zs<|w++[35],Zl<|(made++[t]).map .str,Zs [near],Zf<|.int (n:Int),Zs [sg w (n+1)],Zs t]) ?_).trans ?_
 ·rw[Qxk];exact(gR (i:=8) (e:=[a0,a1,Zf<|iK al,a3,Zf l,Zf r,Zf<|.dct kvs,Zs<|w++[35],Zl<|made.map .str,Zs [near],Zf<|.int (n:Int),Zs [sg w (n+1)],Zs t]) rfl rfl rfl (by rw[Qqz,hcl];exact Qxx (show n<=4000000 by omega) (by decide))).trans rfl
 cases al with
 | false=>rfl
 | true=>
  refine(m8 (e:=_) rfl).trans ?_;rw[RC made t n hno.1,hN]
  match t,hno.1 with
  | [],_=>rfl
  | [a],_=>rfl
theorem aeV{done rest:List D}(h:vC w=done++d::rest):d = .tup [.int done.length,.str [sg w (done.length+1)]]/\done.length<w.length:=by
 have h1:=Ld h;unfold vC at h1
 grind
def out(al:Bool)(kvs:List (D×D))(l r:D)(w:List Nat):List Nat:=(cg al kvs l r w w.length).flatten
theorem with_changes(al)(ch)(hd:uG [ch]=some (.dct kvs)):iV [.tup [iK al,ch,l,r],.str w]=some (.str (out al kvs l r w)):=by
 generalize hR:D.tup [iK al,ch,l,r]=R;obtain⟨e',f1,hdl,a10,a11,a12,rfl⟩:=kI (g:=dR 2<|aZ (ak 10)<|aZ (ak 11) dU) (vC w)
  (λdone env=>done.length<=w.length/\∃a10 a11 a12,env=[Zf R,Zs w,Zf<|iK al,Zf ch,Zf l,Zf r,Zf<|.dct kvs,Zs<|w++[35],Zl<|(cg al kvs l r w done.length).map .str,Zs [jW al w (cg al kvs l r w done.length) done.length],a10,a11,a12])
  (λdone s rest hall env ⟨hdl,a10,a11,a12,he⟩=>by
   subst he;obtain⟨rfl,hdl⟩:=aeV hx hl hr hw hn hk hall;obtain⟨b12,hb⟩:=acr hx hl hr hw hn hk al done.length hdl (Zf R) (Zs w) (Zf ch) a12;refine⟨_,_,rfl,hb,by grind,Zf<|.int (done.length:Int),Zs [sg w (done.length+1)],b12,?_⟩
   simp_all)
  [Zf R,Zs w,Zf<|iK al,Zf ch,Zf l,Zf r,Zf<|.dct kvs,Zs<|w++[35],Zl [],Zs [35],Zn,Zn,Zn] ⟨Qxw _,Zn,Zn,Zn,by cases al<;>rfl⟩
 have hlen:(vC w).length=w.length:=by unfold vC;rw[Qqz,List.length_zipIdx]
 rw[hlen] at f1;have hok:=IK (l:=l) (r:=r) al hk hw w.length<|Qqw _;refine fH (env:=[Zf R,Zs w,Zf<|iK al,Zf ch,Zf l,Zf r,Zf<|.dct kvs,Zs<|w++[35],Zl<|(cg al kvs l r w w.length).map .str,Zs [jW al w (cg al kvs l r w w.length) w.length],a10,a11,a12]) ?_;unfold dX;refine(aR (e:=[Zf R,Zs w,Zf<|iK al,Zf ch,Zf l,Zf r,Zn,Zn,Zn,Zn,Zn,Zn,Zn]) (by rw[<-hR];rfl)).trans ?_;refine(aR (e:=[Zf R,Zs w,Zf<|iK al,Zf ch,Zf l,Zf r,Zf<|.dct kvs,Zn,Zn,Zn,Zn,Zn,Zn]) ?_).trans ?_
 ·exact cC (bC rfl hd) rfl
 refine(aR (e:=[Zf R,Zs w,Zf<|iK al,Zf ch,Zf l,Zf r,Zf<|.dct kvs,Zs<|w++[35],Zn,Zn,Zn,Zn,Zn]) ?_).trans ?_
 ·exact cC (bN rfl rfl rfl (pZ (by grind))) rfl
 refine(aR rfl).trans ?_;refine(aR rfl).trans ?_;refine(aR<|(my rfl).trans f1).trans ?_;refine cW<|cA rfl rfl ?_;exact afY (by omega) λz hz=>Qqj (hok.2 z hz).1 (by decide)
theorem Z0(al):(∀c∈out al kvs l r w,c∈x)/\(out al kvs l r w).length<=2*w.length+1:=by
 unfold out;refine⟨λc hc=>?_,?_⟩
 ·obtain⟨z,hz,hcz⟩:=List.mem_flatten.mp hc;exact((IK al hk hw w.length<|Qqw _).2 z hz).2 c hcz
 ·have:=U8 (l:=l) (r:=r) al hk hw<|Qqw _;omega
end
section
variable{x w:List Nat}{l r:D}
theorem afN(hc:c∈x)(n):∀z∈pc l r c w n,∀d∈z,d∈x:=by
 unfold pc
 simp_all
theorem ZM(hc:c∈x)(hw:∀c∈w,c∈x):∀n,n<=w.length->∀z∈pin l r c w n,∀d∈z,d∈x
 | 0,_=>λz hz=>by simp[pin] at hz
 | n+1,h=>by
  intro z hz d hd;unfold pin at hz;rcases Qw5.mp hz with hz|hz
  ·exact ZM hc hw n (by omega) z hz d hd
  ·rcases Qw5.mp hz with hz|hz
   ·exact afN hc n z hz d hd
   ·rw[Qq9.mp hz] at hd;rw[Qq9.mp hd];exact(afE hw (by omega)).2
theorem aaV(hc:c∈x)(hw:∀c∈w,c∈x):(∀d∈inn l r c w,d∈x)/\(inn l r c w).length<=2*w.length+1:=by
 unfold inn;refine⟨λd hd=>?_,?_⟩
 ·obtain⟨z,hz,hdz⟩:=List.mem_flatten.mp hd;rcases Qw5.mp hz with hz|hz
  ·exact ZM hc hw w.length (Qqw _) z hz d hdz
  ·exact afN hc _ z hz d hdz
 ·have h1:=Cu (l:=l) (r:=r) (w:=w) c w.length;have h2:=ZZ (l:=l) (r:=r) (w:=w) c w.length;rw[abi λz hz=>(Qw5.mp hz).elim (h1.2 z)<|h2.2 z,Qq1];omega
end
section
variable{x w:List Nat}{l r:D}{kvs:List (D×D)}
def aau:bV:=aC (aW (az bZ 7 (az qZ 9 (Zi 1))) (ak 10)) (aC (cZ (dg (az jT 2 (Zw [97,108,111,110,103]))) (aW (az bZ 8 (gh tO (Zi 1))) (ak 10)) bH) (cZ (fP (dg (aL qJ (az bZ 7 (bj 9)) (bj 6))) (fP (dg (ao cR (Zv 4 (Zv 10 aj)))) (dg (ao cR (Zv 5 (aa (az bZ 7 (az cj 9 (Zi 1))) aj)))))) (aW (az cj 8 (az lW 6 (az bZ 7 (bj 9)))) (ak 8)) (aW (az cj 8 (az bZ 7 (bj 9))) (ak 8))))
variable(hx:x∈XS)(hl:l∈SG x)(hr:r∈SG x)(hw:∀c∈w,c∈x)(hn:w.length<=4000000)(hk:Jj x kvs)
include hx hl hr hw hn hk
theorem adP(al)(n)(hnn:n<w.length)(a0 a1 a3 a10:OD) :
  ∃b10,aau [a0,a1,Zf (iK al),a3,Zf l,Zf r,Zf (.dct kvs),Zs (ed w),Zs (35::(cg al kvs l r w n).flatten),Zf (.int (n+1:Nat)),a10] =
   .nx [a0,a1,Zf (iK al),a3,Zf l,Zf r,Zf (.dct kvs),Zs (ed w),Zs (35::(cg al kvs l r w (n+1)).flatten),Zf (.int (n+1:Nat)),b10]:=by
 have hcl:=U8 (l:=l) (r:=r) al hk hw (n:=n) (by omega);have hnm:=Nr (l:=l) (r:=r) al hk hw (n:=n) (by omega);have hno:=aad (l:=l) (r:=r) hk hw hnn<|jW al w (cg al kvs l r w n) n;have hcg:cg al kvs l r w (n+1)=cg al kvs l r w n++[nw kvs l r w (jW al w (cg al kvs l r w n) n) n]:=rfl;have i0:=G9 (z:=ed w) (n:=n) (by grind);have i1:=G9 (z:=ed w) (n:=n+1) (by grind);have i2:=G9 (z:=ed w) (n:=n+2) (by simp_all);have h2m:sg w (n+2)∈35::x:=vK hw (by omega);rw[hcg,List.flatten_append];generalize hM:cg al kvs l r w n=made at *;have hnr:jW al w made n=if al=true then (35::made.flatten).getLastD 0 else sg w n:=rfl
 generalize hN:jW al w made n=near at *;have hnw:nw kvs l r w near n=if ((look kvs<|sg w<|n+1).isSome&&(fit l near&&fit r (sg w<|n+2)))=true then (look kvs<|sg w<|n+1).getD [] else [sg w (n+1)]:=rfl
 generalize hT:nw kvs l r w near n=t at *;generalize hF:made.flatten=f at *;refine⟨Zs [near],?_⟩;unfold aau;refine(aR (e:=[a0,a1,Zf<|iK al,a3,Zf l,Zf r,Zf<|.dct kvs,Zs<|ed w,Zs (35::f),Zf<|.int ((n+1:Nat):Int),Zs [sg w n]]) ?_).trans ?_
 ·exact cC (bN rfl (bN rfl rfl rfl (agN n)) rfl i0) rfl
 refine(aR (e:=[a0,a1,Zf<|iK al,a3,Zf l,Zf r,Zf<|.dct kvs,Zs<|ed w,Zs (35::f),Zf<|.int ((n+1:Nat):Int),Zs [near]]) ?_).trans ?_
 ·cases al with
  | false=>
   rw[if_neg Qwj] at hnr;rw[hnr]
   rfl
  | true=>
   rw[if_pos rfl] at hnr;rw[hnr];exact(mq (e:=_) rfl).trans<|cC (bN rfl rfl rfl (aea 35 f)) rfl
 have g1:az bZ 7 (bj 9) [a0,a1,Zf<|iK al,a3,Zf l,Zf r,Zf<|.dct kvs,Zs<|ed w,Zs (35::f),Zf<|.int ((n+1:Nat):Int),Zs [near]] = .ok (.str [sg w (n+1)]) [a0,a1,Zf<|iK al,a3,Zf l,Zf r,Zf<|.dct kvs,Zs<|ed w,Zs (35::f),Zf<|.int ((n+1:Nat):Int),Zs [near]]:=
  bN rfl rfl rfl i1
 have tt:fP (dg<|aL qJ (az bZ 7<|bj 9)<|bj 6) (fP (dg<|ao cR<|Zv 4<|Zv 10 aj)<|dg<|ao cR<|Zv 5<|aa (az bZ 7<|az cj 9<|Zi 1) aj) [a0,a1,Zf<|iK al,a3,Zf l,Zf r,Zf<|.dct kvs,Zs<|ed w,Zs (35::f),Zf<|.int ((n+1:Nat):Int),Zs [near]] = .ok ((look kvs<|sg w<|n+1).isSome&&(fit l near&&fit r (sg w<|n+2))) [a0,a1,Zf<|iK al,a3,Zf l,Zf r,Zf<|.dct kvs,Zs<|ed w,Zs (35::f),Zf<|.int ((n+1:Nat):Int),Zs [near]]:=by refine lY (mY<|cA g1 rfl (Bc hk _))<|lY (mY<|bC rfl (n6 x hx l hl _ hnm))<|mY<|bC ?_<|n6 x hx r hr _ h2m;refine bw (d:=r) rfl (bw ?_ cL);exact bN rfl (bN rfl rfl rfl (anv<|n+1)) rfl i2
 have hfl:(35::f).length+t.length<=16000000:=by grind
 cases hc:(look kvs<|sg w<|n+1).isSome&&(fit l near&&fit r (sg w<|n+2)) with
 | true=>
  rw[hc] at tt hnw;rw[if_pos rfl] at hnw;obtain⟨u,hu⟩:=Qxq.mp (Qjk.mp hc).1;rw[hu] at hnw;have hnw':t=u:=hnw;have hfu:[t].flatten=u:=by simp_all
  rw[hfu];rw[hnw'] at hfl;exact(mq tt).trans<|cC (bN rfl (bN rfl g1 rfl (uA hk hu).1) rfl (pZ hfl)) rfl
 | false=>
  rw[hc] at tt hnw;rw[if_neg Qwj] at hnw;have hfu:[t].flatten=[sg w (n+1)]:=by rw[hnw];rfl
  rw[hfu];rw[hnw] at hfl;exact(m8 tt).trans<|cC (bN rfl g1 rfl (pZ hfl)) rfl
theorem vq(al)(ps:List Pr)(hps:0<ps.length)(hd:uG [.tup (ps.map encC)]=some (.dct kvs)):cT [.tup [iK al,.tup (ps.map encC),l,r],.str w]=some (.str (out al kvs l r w)):=by
 have t0:∀a0 a1 a2 a4 a5,dg (aL jT (aL bZ (az bZ 3<|Zi 0)<|Zi 0)<|Zw []) [a0,a1,a2,Zf<|.tup<|ps.map encC,a4,a5,Zn,Zn,Zn,Zn,Zn] = .ok false [a0,a1,a2,Zf<|.tup<|ps.map encC,a4,a5,Zn,Zn,Zn,Zn,Zn]:=by
  intro a0 a1 a2 a4 a5
  match ps,hps with
  | p::ps,_=>
   refine mY<|cA (x:=.str [p.1]) ?_ rfl rfl;refine cA (x:=encC p) ?_ rfl rfl;exact bN rfl rfl rfl (m6 (j:=0) rfl)
 generalize hC:D.tup (ps.map encC)=ch at *;generalize hR:D.tup [iK al,ch,l,r]=R;obtain⟨e',f1,hdl,a9,a10,rfl⟩:=kI (g:=ak 9) (iR 1 1 w.length)
  (λdone env=>done.length<=w.length/\∃a9 a10,env=[Zf R,Zs w,Zf<|iK al,Zf ch,Zf l,Zf r,Zf<|.dct kvs,Zs<|ed w,Zs (35::(cg al kvs l r w done.length).flatten),a9,a10])
  (λdone s rest hall env ⟨hdl,a9,a10,he⟩=>by
   subst he;obtain⟨rfl,hdl⟩:=step_at hall;obtain⟨b10,hb⟩:=adP hx hl hr hw hn hk al done.length hdl (Zf R) (Zs w) (Zf ch) a10;refine⟨_,_,rfl,hb,by grind,Zf<|.int ((done.length+1:Nat):Int),b10,?_⟩
   simp_all)
  [Zf R,Zs w,Zf<|iK al,Zf ch,Zf l,Zf r,Zf<|.dct kvs,Zs<|ed w,Zs [35],Zn,Zn] ⟨Qxw _,Zn,Zn,rfl⟩
 rw[jU] at f1;refine fH (env:=[Zf R,Zs w,Zf<|iK al,Zf ch,Zf l,Zf r,Zf<|.dct kvs,Zs<|ed w,Zs (35::(cg al kvs l r w w.length).flatten),a9,a10]) ?_;unfold dD;refine(aR (e:=[Zf R,Zs w,Zf<|iK al,Zf ch,Zf l,Zf r,Zn,Zn,Zn,Zn,Zn]) (by rw[<-hR];rfl)).trans ?_;refine(aR<|(m8<|t0 _ _ _ _ _).trans rfl).trans ?_;refine(aR (e:=[Zf R,Zs w,Zf<|iK al,Zf ch,Zf l,Zf r,Zf<|.dct kvs,Zn,Zn,Zn,Zn]) ?_).trans ?_
 ·exact cC (bC rfl hd) rfl
 refine(aR (e:=[Zf R,Zs w,Zf<|iK al,Zf ch,Zf l,Zf r,Zf<|.dct kvs,Zs<|ed w,Zn,Zn,Zn]) ?_).trans ?_
 ·refine cC (e:=[Zf R,Zs w,Zf<|iK al,Zf ch,Zf l,Zf r,Zf<|.dct kvs,Zn,Zn,Zn,Zn]) ?_ rfl;refine cA (x:=.str<|[35]++w) ?_ rfl (pZ (by grind));exact cA rfl rfl (pZ (by grind))
 refine(aR rfl).trans ?_;refine(aR ((my ?_).trans f1)).trans ?_
 ·refine Qi.uL ?_ (ald (by omega));refine bw rfl (bw ?_ cL);refine cA ?_ rfl (agN _);refine bC rfl ?_;show some (D.int ((ed w).length:Int))=_;rw[Eo]
 ·refine cW ?_;unfold out;generalize(cg al kvs l r w w.length).flatten=z;have e1:∀env,env[8]? = some (Zs (35::z))->vB (aN 8) (tU (Zi 1)) jD env = .ok (.str (xY (35::z) (some 1) none)) env:=λenv h=>by
   have hv:aN 8 env = .ok (.str (35::z)) env:=by unfold aN;rw[h]
   unfold vB;rw[hv]
   rfl
  rw[abw] at e1
  simp_all
end
theorem afA(h:w = .str [111,110,99,101]\/w = .str [97,108,111,110,103]):∃al,w=iK al:=by
 rcases h with rfl|rfl
 ·exact⟨false,rfl⟩
 ·exact⟨true,rfl⟩
theorem from_left(hx:x∈XS)(h:jK x wy ch l r)(hw:∀c∈w,c∈x)(hn:w.length<=4000000):∃o,j5 [.tup [wy,ch,l,r],.str w]=some (.str o)/\cT [.tup [wy,ch,l,r],.str w]=some (.str o)/\(∀c∈o,c∈x)/\o.length<=2*w.length+1:=by
 obtain⟨al,rfl⟩:=afA h.way;cases h.chg with
 | put hc=>
  rename_i c;refine⟨inn l r c w,?_,?_,aaV hc hw⟩
  ·refine fH (env:=[Zf (.tup [iK al,.tup [.tup [.str [],.str [c]]],l,r]),Zs w]) ?_;unfold fC;refine oh ?_;refine(mq<|mY<|bC rfl rfl).trans ?_;exact cW<|bC rfl (with_put_in hx h.left h.right hw hn _ c)
  ·refine fH (env:=[Zf (.tup [iK al,.tup [.tup [.str [],.str [c]]],l,r]),Zs w,Zf<|iK al,Zf<|.tup [.tup [.str [],.str [c]]],Zf l,Zf r,Zn,Zn,Zn,Zn,Zn]) ?_;unfold dD;refine(aR rfl).trans ?_;refine oh ?_;refine(mq rfl).trans ?_;exact cW<|bC rfl (Dk hx h.left h.right hw hn _ c)
 | chg h0 h4 hp=>
  rename_i ps;obtain⟨kvs,hd,hk⟩:=Bj hp;refine⟨out al kvs l r w,?_,vq hx h.left h.right hw hn hk al ps h0 hd,Z0 hx h.left h.right hw hn hk al⟩;have hpi:pL [.tup [iK al,.tup<|ps.map encC,l,r]]=some (.bl false):=by
   match ps,h0 with
   | p::ps,_=>
    refine fH (env:=[Zf (.tup [iK al,.tup<|(p::ps).map encC,l,r])])<|cW ?_;refine cA (x:=.str [p.1]) ?_ rfl rfl;refine cA (x:=encC p) ?_ rfl rfl;refine cA rfl rfl (m6 rfl)
  refine fH (env:=[Zf (.tup [iK al,.tup<|ps.map encC,l,r]),Zs w]) ?_;unfold fC;refine(aR<|(m8<|mY<|bC rfl hpi).trans rfl).trans ?_;exact cW<|bC rfl (with_changes hx h.left h.right hw hn hk al _ hd)
noncomputable def sides:List D:=[.str [108,101,102,116],.str [114,105,103,104,116]]
theorem Gb(hx:x∈XS)(hl:l∈SG x)(hr:r∈SG x)(hw:∀c∈w,c∈x)(hn:w.length<=4000000)(wy)(c):cT [.tup [wy,.tup [.tup [.str [],.str [c]]],l,r],.str w]=some (.str (inn l r c w)):=by refine fH (env:=[Zf (.tup [wy,.tup [.tup [.str [],.str [c]]],l,r]),Zs w,Zf wy,Zf<|.tup [.tup [.str [],.str [c]]],Zf l,Zf r,Zn,Zn,Zn,Zn,Zn]) ?_;unfold dD;refine(aR rfl).trans ?_;refine oh ?_;refine(mq rfl).trans ?_;exact cW<|bC rfl (Dk hx hl hr hw hn _ c)
theorem Eg(hx:x∈XS)(h:jK x wy ch l r)(hw:∀c∈w,c∈x)(hn:w.length<=4000000):∃o,cT [.tup [wy,ch,l,r],.str w]=some (.str o)/\(∀c∈o,c∈x)/\o.length<=2*w.length+1:=by
 obtain⟨al,rfl⟩:=afA h.way;cases h.chg with
 | put hc=>exact⟨inn l r _ w,Gb hx h.left h.right hw hn _ _,aaV hc hw⟩
 | chg h0 h4 hp=>
  obtain⟨kvs,hd,hk⟩:=Bj hp;exact⟨out al kvs l r w,vq hx h.left h.right hw hn hk al _ h0 hd,Z0 hx h.left h.right hw hn hk al⟩
theorem agU{R:D}(h:cT [R,.str w]=some (.str o)):cU [.str [108,101,102,116],R,.str w]=some (.str o):=by refine fH (env:=[Zs [108,101,102,116],Zf R,Zs w]) ?_;unfold dh;refine(aR<|(m8 (by rfl)).trans rfl).trans ?_;exact cW<|bC rfl h
theorem agT{R Q:D}(ht:jt [R]=some Q)(h:cT [Q,.str w.reverse]=some (.str o)):cU [.str [114,105,103,104,116],R,.str w]=some (.str o.reverse):=by
 have rev:∀{a} {env} {o},a env = .ok (.str o) env->tu a env = .ok (.str o.reverse) env:=λ{a env o} e=>by unfold tu;rw[e];rfl
 refine fH (env:=[Zs [114,105,103,104,116],Zf R,Zs w]) ?_;unfold dh;refine oh<|(mq rfl).trans<|cW<|rev ?_;exact bC (bw (bC rfl ht)<|bw (rev rfl) cL) h
theorem abz(hx:x∈XS)(h:jK x wy ch l r)(hw:∀c∈w,c∈x)(hn:w.length<=4000000):∀s∈sides,∃o,cU [s,.tup [wy,ch,l,r],.str w]=some (.str o)/\(∀c∈o,c∈x)/\o.length<=2*w.length+1:=by
 intro s hs;rcases Qwq.mp hs with rfl|hs
 ·obtain⟨o,h2,h3⟩:=Eg hx h hw hn;exact⟨o,agU h2,h3⟩
 ·rw[Qq9.mp hs];obtain⟨o,h2,h3,h4⟩:=Eg hx ⟨h.way,h.chg,h.right,h.left⟩ (λc hc=>hw c<|List.mem_reverse.mp hc) (by simp_all);exact⟨o.reverse,agT rfl h2,λc hc=>h3 c<|List.mem_reverse.mp hc,by simp_all⟩
theorem changed(hx:x∈XS)(h:jK x wy ch l r)(hw:∀c∈w,c∈x)(hn:w.length<=4000000):∀s∈sides,∃o,lX [s,.tup [wy,ch,l,r],.str w]=some (.str o)/\cU [s,.tup [wy,ch,l,r],.str w]=some (.str o)/\(∀c∈o,c∈x)/\o.length<=2*w.length+1:=by
 intro s hs;rcases Qwq.mp hs with rfl|hs
 ·obtain⟨o,h1,h2,h3⟩:=from_left hx h hw hn;refine⟨o,?_,?_,h3⟩
  ·refine fH (env:=[Zs [108,101,102,116],Zf<|.tup [wy,ch,l,r],Zs w]) ?_;unfold ir;refine(aR<|(m8 (by rfl)).trans rfl).trans ?_;exact cW<|bC rfl h1
  ·refine fH (env:=[Zs [108,101,102,116],Zf<|.tup [wy,ch,l,r],Zs w]) ?_;unfold dh;refine(aR<|(m8 (by rfl)).trans rfl).trans ?_;exact cW<|bC rfl h2
 ·rw[Qq9.mp hs];obtain⟨o,h1,h2,h3,h4⟩:=from_left hx (⟨h.way,h.chg,h.right,h.left⟩:jK x wy ch r l) (λc hc=>hw c<|List.mem_reverse.mp hc) (by simp_all);have rev:∀{a} {env},a env = .ok (.str o) env->tu a env = .ok (.str o.reverse) env:=λ{a env} e=>by unfold tu;rw[e];rfl
  refine⟨o.reverse,?_,?_,λc hc=>h3 c<|List.mem_reverse.mp hc,by simp_all⟩
  ·refine fH (env:=[Zs [114,105,103,104,116],Zf<|.tup [wy,ch,l,r],Zs w]) ?_;unfold ir;refine oh<|(mq rfl).trans<|cW<|rev ?_;exact bC rfl h1
  ·refine fH (env:=[Zs [114,105,103,104,116],Zf<|.tup [wy,ch,l,r],Zs w]) ?_;unfold dh;refine oh<|(mq rfl).trans<|cW<|rev ?_;exact bC rfl h2
end qb
namespace vG
open Ev
def m5:bV:=mj.m5
def jz:LD:=bT 2 m5
def lE:bV:=mj.lE
def uI:LD:=bT 5 lE
def jG:bV:=mj.jG
def pL:LD:=bT 1 jG
def eO:bV:=qb.eO
def jF:LD:=bT 10 eO
def dX:bV:=qb.dX
def iV:LD:=bT 13 dX
def fC:bV:=qb.fC
def j5:LD:=bT 2 fC
def ir:bV:=qb.ir
def lX:LD:=bT 3 ir
def wJ:bV:=aC (aW (aN 0) (dR 2 (aZ (ak 2) (aZ (ak 3) dU)))) (aC (eY 4 (fB (Zv 1 aj))) (aC (gC (eG (aN 3)) (ak 5) (kY 4 (ao lX (Zv 2 (Zv 5 (aa (az bZ 4 (gh tO (Zi 1))) aj)))))) (aV (ao d8 (aa (bj 4) aj)))))
def Ei:LD:=bT 6 wJ
def wK:bV:=mj.wK
def mW:LD:=bT 2 wK
def lN:bV:=mj.m5
def cR:LD:=bT 2 lN
def fY:bV:=qb.fY
def jw:LD:=bT 5 fY
def dD:bV:=qb.dD
def cT:LD:=bT 11 dD
def fX:bV:=mj.fX
def jt:LD:=bT 1 fX
def dh:bV:=qb.dh
def cU:LD:=bT 3 dh
def lM:bV:=aC (eY 2 (fB (Zv 1 aj))) (aC (gC (eG (az bZ 0 (Zi 1))) (ak 3) (kY 2 (ao cU (aa (az bZ 0 (Zi 0)) (Zv 3 (aa (az bZ 2 (gh tO (Zi 1))) aj)))))) (aV (ao d8 (aa (bj 2) aj))))
def jZ:LD:=bT 4 lM
open Ev PySem L2
open lQ (gR)
open qb (XS sides jK pZ)
def gY(x:List Nat)(R:D):Prop:=∃wy ch l r,R = .tup [wy,ch,l,r]/\jK x wy ch l r
def cF(s R:D)(w:List Nat):List Nat:=match qb.cU [s,R,.str w] with
 | some (.str o)=>o
 | _=>[]
section
variable{x:List Nat}{s:D}
theorem anp(hx:x∈XS)(hs:s∈sides){R:D}(hR:gY x R)(hw:∀c∈w,c∈x)(hn:w.length<=4000000) :
  lX [s,R,.str w]=some (.str (cF s R w))/\cU [s,R,.str w]=some (.str (cF s R w))/\(∀c∈cF s R w,c∈x)/\(cF s R w).length<=2*w.length+1:=by
 obtain⟨wy,ch,l,r,rfl,h⟩:=hR;obtain⟨o,h1,h2,h3⟩:=qb.changed hx h hw hn s hs;have e:cF s (.tup [wy,ch,l,r]) w=o:=by unfold cF;rw[h2]
 rw[e];exact⟨h1,h2,h3⟩
theorem ano(hx:x∈XS)(hs:s∈sides){R:D}(hR:gY x R)(hw:∀c∈w,c∈x)(hn:w.length<=4000000) :
  cU [s,R,.str w]=some (.str (cF s R w))/\(∀c∈cF s R w,c∈x)/\(cF s R w).length<=2*w.length+1:=by
 obtain⟨wy,ch,l,r,rfl,h⟩:=hR;obtain⟨o,h1,h3⟩:=qb.abz hx h hw hn s hs;have e:cF s (.tup [wy,ch,l,r]) w=o:=by unfold cF;rw[h1]
 rw[e];exact⟨h1,h3⟩
def fin(s:D)(Rs:List D)(w:List Nat):List Nat:=Rs.foldl (λv R=>cF s R v) w
noncomputable def uQ(s:D):List Nat->List D->List (List Nat)
 | w,[]=>[w]
 | w,R::Rs=>w::uQ s (cF s R w) Rs
theorem Bu:∀Rs w R,uQ s w (Rs++[R])=uQ s w Rs++[cF s R (fin s Rs w)]
 | [],w,R=>rfl
 | Q::Rs,w,R=>by
  show w::uQ s (cF s Q w) (Rs++[R])=w::uQ s (cF s Q w) Rs++[cF s R (fin s Rs<|cF s Q w)];rw[Bu Rs]
  rfl
theorem Bv:∀Rs w,∃pre,uQ s w Rs=pre++[fin s Rs w]
 | [],w=>⟨[],rfl⟩
 | R::Rs,w=>by
  obtain⟨pre,e⟩:=Bv Rs<|cF s R w;refine⟨w::pre,?_⟩;show w::uQ s (cF s R w) Rs=_;rw[e]
  rfl
theorem Jp:∀Rs w,(uQ s w Rs).length=Rs.length+1
 | [],w=>rfl
 | R::Rs,w=>by show(w::uQ s (cF s R w) Rs).length=_;rw[Qq3,Jp Rs,Qq3]
theorem Eh(hx:x∈XS)(hs:s∈sides):∀Rs w,(∀R∈Rs,gY x R)->(∀c∈w,c∈x)->(w.length+1)*2^Rs.length<=6500001->(∀c∈fin s Rs w,c∈x)/\(fin s Rs w).length+1<=(w.length+1)*2^Rs.length
 | [],w,_,hw,hn=>⟨hw,by show w.length+1<=(w.length+1)*1;omega⟩
 | R::Rs,w,hR,hw,hn=>by
  have h2:(w.length+1)*2^(R::Rs).length=(2*w.length+1+1)*2^Rs.length:=by grind
  have hp:1<=2^Rs.length:=Nat.one_le_two_pow;have hwl:w.length<=4000000:=by have:2*w.length+1+1<=(2*w.length+1+1)*2^Rs.length:=Nat.le_mul_of_pos_right _ hp;omega
  obtain⟨_,h3,h4⟩:=ano hx hs (hR R<|Qq5 ..) hw hwl;have h5:((cF s R w).length+1)*2^Rs.length<=(2*w.length+1+1)*2^Rs.length:=Nat.mul_le_mul_right _ (by omega);obtain⟨h6,h7⟩:=Eh hx hs Rs (cF s R w) (λQ hQ=>hR Q<|Qq0 _ hQ) h3 (by omega);refine⟨h6,?_⟩;show(fin s Rs<|cF s R w).length+1<=_;omega
theorem UJ(hx:x∈XS)(hs:s∈sides)(Rs)(w)(hR:∀R∈Rs,gY x R)(hw:∀c∈w,c∈x)(hn:(w.length+1)*2^Rs.length<=3250001):(∀c∈fin s Rs w,c∈x)/\(fin s Rs w).length<=4000000:=by
 obtain⟨h1,h2⟩:=Eh hx hs Rs w hR hw<|Qqj hn (by decide)
 grind
theorem ZL{Rs done rest:List D}{R:D}(hall:Rs=done++R::rest)(hn:(n+1)*2^Rs.length<=6500001):(n+1)*2^done.length<=3250001:=by
 have hl:done.length+1<=Rs.length:=by simp_all
 have:=Qqj (Nat.mul_le_mul_left (n+1)<|Nat.pow_le_pow_right (by decide) hl) hn;rw[Nat.pow_succ,<-Nat.mul_assoc] at this;omega
theorem Py{d:D}:qO (ds++[d]) (-1)=some d:=by
 unfold qO ixN;rw[if_neg (by decide),if_pos (by grind)];show(ds++[d])[((-1)+((ds++[d]).length:Int)).toNat]? = _;have e1:((-1)+((ds++[d]).length:Int)).toNat=ds.length:=by grind
 simp_all
theorem NT(Rs)(w):bZ (.lst ((uQ s w Rs).map .str)) (.int (-1))=some (.str (fin s Rs w)):=by obtain⟨pre,e⟩:=Bv Rs w;rw[e,Qxk];exact Py
theorem NP(Rs)(w):bZ (.tup ((uQ s w Rs).map .str)) (.int (-1))=some (.str (fin s Rs w)):=by obtain⟨pre,e⟩:=Bv Rs w;rw[e,Qxk];exact Py
def Yi:bV:=mj.uU
def ah4:bV:=kY 2 (ao cU (aa (az bZ 0 (Zi 0)) (Zv 3 (aa (az bZ 2 (gh tO (Zi 1))) aj))))
variable(hx:x∈XS)(hs:s∈sides){Rs:List D}(hR:∀R∈Rs,gY x R)(h4:Rs.length<=10){w:List Nat}(hw:∀c∈w,c∈x)(hn:(w.length+1)*2^Rs.length<=6500001)
include hx hs hR h4 hw hn
theorem walk:Ei [.tup [s,.tup Rs],.str w]=some (.tup ((uQ s w Rs).map .str)):=by
 generalize hO:D.tup [s,.tup Rs]=O;obtain⟨e',f1,hd,a5,rfl⟩:=kI (g:=ak 5) (b:=Yi) Rs
  (λdone env=>done.length<=Rs.length/\∃a5,env=[Zf O,Zs w,Zf s,Zf<|.tup Rs,Zl<|(uQ s w done).map .str,a5])
  (λdone R rest hall env ⟨hd,a5,he⟩=>by
   subst he;have hm:∀Q∈done,gY x Q:=λQ hQ=>hR Q (by simp_all);have hRm:gY x R:=hR R (by simp_all);obtain⟨q1,q2⟩:=UJ hx hs done w hm hw<|ZL hall hn;obtain⟨c1,_⟩:=anp hx hs hRm q1 q2;have hl:=Qx7 List.length hall;rw[Qq1,Qq3] at hl;refine⟨[Zf O,Zs w,Zf s,Zf<|.tup Rs,Zl<|(uQ s w done).map .str,Zf R],[Zf O,Zs w,Zf s,Zf<|.tup Rs,Zl<|(uQ s w<|done++[R]).map .str,Zf R],rfl,?_,by simp_all,_,rfl⟩;rw[Bu,Qxk];unfold Yi;refine(gR (i:=4) (e:=[Zf O,Zs w,Zf s,Zf<|.tup Rs,Zl<|(uQ s w done).map .str,Zf R]) (by rfl) ?_ (by rfl) (by rw[Qqz,Jp];exact Qxx (show done.length+1<=11 by omega) (by decide))).trans rfl;refine bC (bw (d:=s) (by rfl)<|bw (d:=R) (by rfl)<|bw ?_ cL) c1;exact bN (by rfl) (by rfl) (by rfl)<|NT done w)
  [Zf O,Zs w,Zf s,Zf<|.tup Rs,Zl [.str w],Zn] ⟨Qxw _,Zn,rfl⟩
 refine fH (env:=[Zf O,Zs w,Zf s,Zf<|.tup Rs,Zl<|(uQ s w Rs).map .str,a5]) ?_;unfold wJ;refine(aR (e:=[Zf O,Zs w,Zf s,Zf<|.tup Rs,Zn,Zn]) (by rw[<-hO];rfl)).trans ?_;refine(aR (by rfl)).trans ?_;exact(aR ((my (by rfl)).trans f1)).trans rfl
theorem aaw:jZ [.tup [s,.tup Rs],.str w]=some (.tup ((uQ s w Rs).map .str)):=by
 obtain⟨e',f1,hd,a5,rfl⟩:=kI (g:=ak 3) (b:=ah4) Rs
  (λdone env=>done.length<=Rs.length/\∃a5,env=[Zf (.tup [s,.tup Rs]),Zs w,Zl<|(uQ s w done).map .str,a5])
  (λdone R rest hall env ⟨hd,a5,he⟩=>by
   subst he;have hm:∀Q∈done,gY x Q:=λQ hQ=>hR Q (by simp_all);have hRm:gY x R:=hR R (by simp_all);obtain⟨q1,q2⟩:=UJ hx hs done w hm hw<|ZL hall hn;obtain⟨c1,_⟩:=ano hx hs hRm q1 q2;have hl:=Qx7 List.length hall;rw[Qq1,Qq3] at hl;refine⟨[Zf (.tup [s,.tup Rs]),Zs w,Zl<|(uQ s w done).map .str,Zf R],[Zf (.tup [s,.tup Rs]),Zs w,Zl<|(uQ s w<|done++[R]).map .str,Zf R],rfl,?_,by simp_all,_,rfl⟩;rw[Bu,Qxk];refine(gR (i:=2) (e:=[Zf (.tup [s,.tup Rs]),Zs w,Zl<|(uQ s w done).map .str,Zf R]) (by rfl) ?_ (by rfl) (by rw[Qqz,Jp];exact Qxx (show done.length+1<=11 by omega) (by decide))).trans rfl;refine bC (bw (d:=s) (by rfl)<|bw (d:=R) (by rfl)<|bw ?_ cL) c1;exact bN (by rfl) (by rfl) (by rfl)<|NT done w)
  [Zf (.tup [s,.tup Rs]),Zs w,Zl [.str w],Zn] ⟨Qxw _,Zn,rfl⟩
 refine fH (env:=[Zf (.tup [s,.tup Rs]),Zs w,Zl<|(uQ s w Rs).map .str,a5]) ?_;unfold lM;refine(aR (by rfl)).trans ?_;exact(aR<|(my (by rfl)).trans f1).trans rfl
theorem made:mW [.tup [s,.tup Rs],.str w]=some (.str (fin s Rs w)):=by refine fH (env:=[Zf (.tup [s,.tup Rs]),Zs w])<|cW ?_;exact cA (bC (by rfl)<|walk hx hs hR h4 hw hn) (by rfl)<|NP Rs w
end
theorem xQ(h:okN 60 d=true):tQ d d=some (.bl false):=by
 show(jg 60 d d).map _=_;rw[Em 60 d h]
 rfl
end vG
namespace K14
open Ev
def qu:bV:=mj.qu
def j4:LD:=bT 1 qu
def nR:bV:=aC (aW (Zi 0) (ak 2)) (aC (gC (eG (fB (aa (az cj 1 (Zi 1)) (Zv 1 aj)))) (ak 3) (aW (aL cj (az wG 2 (aL R6 (Zi 10) (Zi 60))) (ao j4 (aa (aL bZ (aL cj (zx (aN 0) (tU (aN 3)) (tU (az cj 3 (Zi 1)))) (fB (aa (aL cj (aL wG (Zi 7919) (bj 3)) (Zi 61)) aj))) (Zi 0)) aj))) (ak 2))) (xg (fB (Zv 2 aj))))
def jx:LD:=runN 4 nR
open Ev PySem L2
open lQ (SG gR)
open qb (XS sides jK pZ fit n6 Jj look uA Bc iK encC Bj Aw lY)
open vG (gY xQ)
inductive Rl
 | put (c:Nat) (l r:D)
 | chg (al:Bool) (kvs:List (D×D)) (l r:D)
inductive Is (x:List Nat):D->Rl->Prop
 | put {wy l r:D} {c:Nat}:c∈x->l∈SG x->r∈SG x->Is x (.tup [wy,.tup [.tup [.str [],.str [c]]],l,r]) (.put c l r)
 | chg {al:Bool} {ps:List qb.Pr} {kvs:List (D×D)} {l r:D}:0<ps.length->uG [.tup (ps.map encC)]=some (.dct kvs)->Jj x kvs->l∈SG x->r∈SG x->Is x (.tup [iK al,.tup (ps.map encC),l,r]) (.chg al kvs l r)
noncomputable def tn:D->D
 | .tup [wy,ch,l,r]=>.tup [wy,ch,r,l]
 | d=>d
noncomputable def rt:D->Bool
 | .str (114::_)=>true
 | _=>false
open qb (XS sides jK pZ Aw)
open lQ (wL o8 Av PV SG Xj prs one others zH uX wC Zx jL wM qR uY)
noncomputable def aap(i:Int):Int:=i*915965594177219015054603514932384110774149374281672134266497 % 10^60
theorem adN(i):(aap i).natAbs<2^200:=by unfold aap;omega
theorem mixed(h:Builtin.Int.intBits i<=2^20):j4 [.int i]=some (.int (aap i)):=by
 have hm:nW i 915965594177219015054603514932384110774149374281672134266497=true:=lQ.wA h (lQ.uZ (b:=200) (by decide)) (by decide);have e1:az wG 0 (Zi 915965594177219015054603514932384110774149374281672134266497) [Zf (.int i)] = .ok (.int<|i*915965594177219015054603514932384110774149374281672134266497) [Zf (.int i)]:=by
  show fc (gI nW (λi j=>D.int<|i*j) (.int i)<|.int _) _=_;unfold gI;simp;rw[if_pos hm]
  rfl
 show(match aV _ [Zf (.int i)] with|.rt false d _=>some d|.nx _=>some .non|_=>none)=_;rw[cW];unfold aL;rw[e1]
 rfl
def pW:bV:=aW (aL cj (az wG 2 (aL R6 (Zi 10) (Zi 60))) (ao j4 (aa (aL bZ (aL cj (zx (aN 0) (tU (aN 3)) (tU (az cj 3 (Zi 1)))) (fB (aa (aL cj (aL wG (Zi 7919) (bj 3)) (Zi 61)) aj))) (Zi 0)) aj))) (ak 2)
theorem GZ(ns)(hl:ns.length<=63)(hb:XF ns)(k a f)(ha:a.natAbs<2^10)(hf:Builtin.Int.intBits f<=2^20) :
  ∃f',pW [Zf (.arr (ns.map .int)),Zf (.int k),Zf (.int f),Zf (.int a)] = .nx [Zf (.arr (ns.map .int)),Zf (.int k),Zf (.int f'),Zf (.int a)]/\(f=0->f'.natAbs<2^200):=by
 generalize hE:([Zf (.arr<|ns.map .int),Zf<|.int k,Zf<|.int f,Zf<|.int a]:Ev.Env)=env;have m1:nW 7919 a=true:=lQ.wA (a:=20) (lQ.uZ (by decide)) (lQ.uZ ha) (by decide);have m2:nW f (10^(60:Int).toNat)=true:=lQ.wA (b:=200) hf (lQ.uZ (by decide)) (by decide);have e1:zx (aN 0) (tU<|aN 3) (tU<|az cj 3<|Zi 1) env = .ok (.lst<|cutD (ns.map .int) (some a)<|some<|a+1) env:=by rw[<-hE];rfl
 have e2:fB (aa (aL cj (aL wG (Zi 7919)<|bj 3)<|Zi 61) aj) env = .ok (.lst [.int (7919*a+61)]) env:=by refine abl (bw (cA (cA rfl (by rw[<-hE];rfl) (Ux m1)) rfl rfl) cL) Ev.zz1
 generalize hL:cutD (ns.map D.int) (some a) (some<|a+1)=L at e1;have hLl:L.length<=63:=by rw[<-hL];exact Qqj (uN _ _ _) (by rw[Qqz];exact hl)
 have e3:aL cj (zx (aN 0) (tU<|aN 3)<|tU<|az cj 3<|Zi 1) (fB (aa (aL cj (aL wG (Zi 7919) (bj 3)) (Zi 61)) aj)) env = .ok (.lst (L++[.int (7919*a+61)])) env:=by exact cA e1 e2 (Oo (by show L.length+1<=sizeLine;exact Qqj (Nat.succ_le_succ hLl) (by decide)))
 obtain⟨c,hc,hcb⟩:∃c,qO (L++[.int (7919*a+61)]) 0=some (.int c)/\Builtin.Int.intBits c<=2^20:=by
  cases hLc:L with
  | nil=>
   refine⟨7919*a+61,rfl,Qqj (lQ.uZ (b:=30) ?_) (by decide)⟩;omega
  | cons y r=>
   have hy:y∈ns.map D.int:=lQ.aeY (by rw[hL,hLc];exact Qq5 ..);obtain⟨i,hi,rfl⟩:=Qwk.mp hy;exact⟨i,lQ.Px _ _,hb i hi⟩
 have e4:ao j4 (aa (aL bZ (aL cj (zx (aN 0) (tU (aN 3)) (tU (az cj 3 (Zi 1)))) (fB (aa (aL cj (aL wG (Zi 7919) (bj 3)) (Zi 61)) aj))) (Zi 0)) aj) env = .ok (.int (aap c)) env:=by exact bC (bw (cA e3 rfl hc) cL) (mixed hcb)
 refine⟨f*10^(60:Int).toNat+aap c,?_,λh0=>?_⟩
 ·unfold pW;refine cC (e:=env) ?_ (by rw[<-hE];rfl);have e5:az wG 2 (aL R6 (Zi 10) (Zi 60)) env = .ok (.int (f*10^(60:Int).toNat)) env:=by
   rw[<-hE];exact bN rfl rfl rfl (Ux m2)
  exact cA e5 e4 rfl
 ·rw[h0,Int.zero_mul,Int.zero_add];exact adN c
theorem pack(ns)(hl:ns.length<=63)(hb:XF ns)(k)(h0:0<=k)(h1:k<=500):∃p,jx [.arr (ns.map .int),.int k]=some (.lst [.int p]):=by
 obtain⟨f1,e1,b1⟩:=GZ ns hl hb k (k+1) 0 (by omega) (by decide);obtain⟨f2,e2,_⟩:=GZ ns hl hb k k f1 (by omega)<|Qqj (lQ.uZ<|b1 rfl) (by decide);refine⟨f2,?_⟩;have h:nR [Zf (.arr<|ns.map .int),Zf<|.int k,Zn,Zn] = .rt true (.lst [.int f2]) [Zf (.arr<|ns.map .int),Zf<|.int k,Zf<|.int f2,Zf<|.int k]:=by
  unfold nR;refine(aR rfl).trans ?_;refine(aR (e:=[Zf (.arr<|ns.map .int),Zf<|.int k,Zf<|.int f2,Zf<|.int k]) ?_).trans rfl;refine(my rfl).trans ?_;show mV (ak 3) pW [.int (k+1),.int k] _=_;unfold mV;show(match pW [Zf (.arr<|ns.map .int),Zf<|.int k,Zf<|.int 0,Zf<|.int<|k+1] with|.nx e2=>mV (ak 3) pW [.int k] e2|.ct e2=>_|.bk e2=>_|.rt o d e2=>_|.stuck=>_)=_;rw[e1];simp;unfold mV;show(match pW [Zf (.arr<|ns.map .int),Zf<|.int k,Zf<|.int f1,Zf<|.int k] with|.nx e2=>mV (ak 3) pW [] e2|.ct e2=>_|.bk e2=>_|.rt o d e2=>_|.stuck=>_)=_;rw[e2]
  rfl
 show(match nR _ with|.rt true d _=>some d|_=>none)=_;have e:envOf 4 [D.arr (ns.map .int),.int k]=[Zf (.arr<|ns.map .int),Zf<|.int k,Zn,Zn]:=rfl;rw[e,h]
end K14
namespace jb
open Ev
def m5:bV:=mj.m5
def jz:LD:=bT 2 m5
def lE:bV:=mj.lE
def uI:LD:=bT 5 lE
def jG:bV:=mj.jG
def pL:LD:=bT 1 jG
def kE:bV:=mj.kE
def eO:bV:=mj.eO
def jF:LD:=bT 10 eO
def jO:bV:=mj.jO
def dX:bV:=mj.dX
def iV:LD:=bT 13 dX
def fC:bV:=mj.fC
def j5:LD:=bT 2 fC
def ir:bV:=mj.ir
def lX:LD:=bT 3 ir
def uU:bV:=mj.uU
def wJ:bV:=mj.wJ
def Ei:LD:=bT 6 wJ
def wK:bV:=mj.wK
def mW:LD:=bT 2 wK
def fM:Ev:=mj.fM
def d7:bV:=eY 1 (fM)
def lK:bV:=aC (aW (fB (aa (cY aj) aj)) (ak 1)) (aC (gC (eF (Zv 0 aj)) (ak 2) (d7)) (aV (aN 1)))
def dC:LD:=bT 3 lK
def pK:Ev:=mj.pK
def K9:bV:=aC (aW (aN 0) (dR 2 (aZ (ak 2) (aZ (ak 3) dU)))) (aV (cY (Zv 2 (aa (ao d8 (aa (pK) aj)) aj))))
def sr:LD:=bT 4 K9
def ig:Ev:=mj.ig
def pD:bV:=aV (ig)
def gJ:LD:=bT 2 pD
def ik:Ev:=mj.ik
def jB:Ev:=dH 2 3 (eG (aN 0)) (ak 2) bY (ao o4 (aa (ik) aj))
def pF:bV:=aV (Ow (ao R9 (aa (jB) aj)))
def kO:LD:=bT 2 pF
def kh:Ev:=mj.kh
def jq:bV:=aC (eY 4 (kh)) (cZ (dg (ao kO (Zv 0 (Zv 4 aj)))) (aW (aN 4) (ak 2)) bH)
def vd:bV:=aC (aW (gh Ir (aN 1)) (ak 2)) (aC (gC (eF (Zv 1 aj)) (ak 3) (jq)) (aV (ao d8 (aa (bj 2) aj))))
def nD:LD:=bT 5 vd
def j9:Ev:=dH 5 6 (eG (aN 2)) (ak 5) bY (ao gJ (aa (ao sr (Zv 0 (Zv 5 aj))) (Zv 1 aj)))
def jj:Ev:=mj.jj
def u0:bV:=aC (aW (ao dC (aa (ao cN (aa (az bZ 0 (Zi 1)) aj)) aj)) (ak 2)) (aC (eY 3 (j9)) (aC (eY 4 (jj)) (aC (cZ (dg (az tQ 4 (fB aj))) (aV (cY (aa (Zw [116,111,108,100]) (aa (ao d8 (aa (bj 4) aj)) aj)))) bH) (aV (cY (aa (Zw [113,117,97,114,114,101,108]) (aa (ao nD (Zv 3 (aa (ao cN (aa (bj 1) aj)) aj))) aj)))))))
def nC:LD:=bT 5 u0
def lN:bV:=mj.m5
def cR:LD:=bT 2 lN
def oZ:bV:=mj.oZ
def fY:bV:=mj.fY
def jw:LD:=bT 5 fY
def nu:bV:=mj.nu
def dD:bV:=mj.dD
def cT:LD:=bT 11 dD
def fX:bV:=mj.fX
def jt:LD:=bT 1 fX
def dh:bV:=mj.dh
def cU:LD:=bT 3 dh
def qI:bV:=mj.qI
def lM:bV:=mj.lM
def jZ:LD:=bT 4 lM
def sU:bV:=aV (aL bZ (ao jZ (Zv 0 (Zv 1 aj))) (gh tO (Zi 1)))
def gW:LD:=bT 2 sU
def jE:Ev:=mj.jE
def sV:bV:=aV (cY (aa (az bZ 0 (Zi 0)) (aa (ao d8 (aa (jE) aj)) aj)))
def jy:LD:=bT 2 sV
open Ev PySem L2
open vG (cF fin gY)
noncomputable def perms(n:Nat):Nat->List (List Nat)
 | 0=>[[]]
 | k+1=>(perms n k).flatMap λr=>((List.range n).filter λi=>!decide (i∈r)).map λi=>r++[i]
theorem cP(n):∀k r,r∈perms n k↔r.length=k/\r.Nodup/\∀i∈r,i<n
 | 0,r=>by
  constructor
  ·intro h;have:r=[]:=by simpa[perms] using h
   subst this;exact⟨rfl,.nil,by simp⟩
  ·rintro⟨h,_⟩;rw[Qx8 h];simp[perms]
 | k+1,r=>by
  unfold perms;rw[List.mem_flatMap];constructor
  ·rintro⟨q,hq,hr⟩;obtain⟨i,hi,rfl⟩:=Qwk.mp hr;obtain⟨h1,h2,h3⟩:=(cP n k q).mp hq;obtain⟨h4,h5⟩:=List.mem_filter.mp hi;have h5:i ∉ q:=by simpa using h5
   refine⟨by simp[h1],?_,?_⟩
   ·rw[List.nodup_append];refine⟨h2,by simp,λa ha b hb=>?_⟩;rw[Qq9.mp hb];intro e;exact h5<|e ▸ ha
   ·intro j hj;rcases Qw5.mp hj with hj|hj
    ·exact h3 j hj
    ·rw[Qq9.mp hj];exact Qw7.mp h4
  ·rintro⟨h1,h2,h3⟩;obtain⟨q,i,rfl⟩:∃q i,r=q++[i]:=⟨r.dropLast,r.getLast (by intro e;subst e;simp at h1),(List.dropLast_concat_getLast _).symm⟩;rw[List.nodup_append] at h2;refine⟨q,(cP n k q).mpr ⟨by simpa using h1,h2.1,λj hj=>h3 j (by simp[hj])⟩,Qwk.mpr ⟨i,List.mem_filter.mpr ⟨Qw7.mpr<|h3 i (by simp),?_⟩,rfl⟩⟩;have:=λh=>h2.2.2 i h i (by simp) rfl
   simpa using this
theorem qU(h:r∈perms n k):k<=n:=by obtain⟨h1,h2,h3⟩:=(cP n k r).mp h;have hs:=λi hi=>Qw7.mpr<|h3 i hi;have:=List.Nodup.length_le_of_subset h2 hs;rw[List.length_range] at this;omega
theorem Rp(h:n<k):perms n k=[]:=by
 cases e:perms n k with
 | nil=>rfl
 | cons r l=>
  have:r∈perms n k:=by rw[e];simp
  have:=qU this;omega
def few(t:List Nat->Bool)(n:Nat):Option (List Nat):=(List.range (n+1)).findSome? λk=>(perms n k).find? t
noncomputable def pick(Rs:List D)(r:List Nat):List D:=r.map λi=>Rs.getD i .non
def tells(s:D)(Rs:List D)(B:List (List Nat×List Nat))(r:List Nat):Bool:=B.all λp=>fin s (pick Rs r) p.1 == p.2
theorem yW(k):List.range k∈perms k k:=(cP _ _ _).mpr ⟨by simp,List.nodup_range,λi hi=>Qw7.mp hi⟩
end jb
section
open Ev PySem L2
local macro_rules | `(tactic| ac_rfl) => `(tactic| simp (maxSteps := 2000000) (disch := (first | ((try simp only [Qq3, List.length_nil, Qq1, Qqz, List.length_range, sizeLine, Nat.reducePow]) <;> omega) | fail)) only [↓sNx, ↓sRt, ↓bR, ↓bO, ↓lR, ↓lO, ↓iT, ↓iF, ↓rS, ↓bB, ↓oS, ↓nS, ↓obS, ↓kNx, ↓vS, ↓wS, ↓lS, ↓eS, ↓pS, ↓cS, ↓amf, ↓amo, acH, zR, zO, aeE, aeP, lS, acM, acK, aeA, rY, aeB, aez, Oi, amR, amS, aje, ajk, aer, sNx, sRt, sBk, sCt, agQ, ajB, iT, iF, bR, bO, lR, lO, acI, acL, JD, YC, YB, anb, aeO, abn, aeS, ajw, abo, aeD, ajy, abp, rS, aeT, ajz, aeM, anc, bB, abq, aeL, abk, ajC, oS, aeQ, Xf, obS, am9, nS, aeN, ajx, aeG, aeF, aeK, abm, acJ, aa1, apr, aa2, gB, aeh, ajA, aeI, amE, amF, amC, amD, eS, rZ, aju, vS, kNx, kRt, kBk, kCt, al8, al7, wS, abj, agY, dRt, dNx, envOf, vA, Ol, amW, at0, at1, at2, at3, ajt, ajp, wH, R7, ajq, abd, abb, aet, aev, aeu, am2, abe, Iu, af4, ajr, abf, Ip, amZ, am1, amU, ajd, amX, gt0, gtS, st0, stS, cdT, cdF, Qj7, Option.bind_some, Qq4, List.map_nil, List.replicate_succ, List.replicate_zero, Nat.reduceAdd, Nat.reduceSub, Qq3, List.length_nil, List.cons_append, List.nil_append, Bool.not_true, Bool.not_false, nc0, nc1, nc2, nc3, nc4, nc5, nc6, nc7, nc8, Int.reduceBEq, Nat.reduceBEq, Int.reduceLE, Int.reduceLT, Nat.reduceLeDiff, Nat.reduceLT, Int.reduceAdd, Int.reduceSub, decide_true, decide_false, beq_self_eq_true, acW, xX, ao5, ao6, agZ, nRt, QR, pS, cS, amf, amo, YD, ajh, ajg, aji, ajj, aeH, aiJ, Xe, aie, Xb, ajm, alN, alO, XM, ad8, ad7, aiZ, aiY, amx, ao2, ad6, aaM, aaL, ad5, aiX, aaK, ad4, aiV, ad3, aiT, aiR, amv, aaI, ad2, aiQ, aiO, aiN, aiM, aiK, amu, ad0, adZ, adY, aiH, Dm, aiF, aiD, aiC, aiA, aiy, ams, adX, adW, aix, amq, aiu, ais, aiq, amn, aip, adV, adU, aio, ain, amk, aoZ, amj, adT, aim, aik, aii, amg, aih, amd, aif, amb, *] <;> try rfl)
namespace jb
open Ev PySem L2
open vG (cF fin gY)
open qb (XS sides)
theorem Ku:mW=vG.mW:=rfl
theorem Ny:jZ=vG.jZ:=rfl
abbrev rows(l:List (List Nat)):List D:=l.map bA
theorem GQ(n)(hn:n<=5):∀k,(perms n k).length<=5^k
 | 0=>by simp[perms]
 | k+1=>by
  unfold perms;rw[List.length_flatMap];have ih:=GQ n hn k;have:∀l:List (List Nat),(l.map λr=>(((List.range n).filter λi=>!decide (i∈r)).map λi=>r++[i]).length).sum<=5*l.length:=by
   intro l
   induction l with
   | nil=>simp
   | cons r l ih=>
    rw[Qq4,List.sum_cons,Qq3];have:(((List.range n).filter λi=>!decide (i∈r)).map λi=>r++[i]).length<=5:=by rw[Qqz];refine Qqj (List.length_filter_le _ _) ?_;rw[List.length_range];exact hn
    omega
  have:=this (perms n k);rw[Nat.pow_succ];omega
theorem du(n k)(hn:n<=5):(perms n k).length<=3125:=by
 by_cases h:k<=5
 ·exact Qqj (GQ n hn k)<|Qqj (Nat.pow_le_pow_right (by decide) h) (by decide)
 ·rw[Rp (by omega)];simp
theorem xq(r)(i:Nat)(hr:r.length<=100):cj (bA r) (.tup [.int i])=some (bA (r++[i])):=by unfold bA;rw[Qxk];exact rY<|Qqj (by rw[Qqz];show r.length+1<=101;omega) (by decide)
theorem abH(n k:Nat)(hn:n<=5)(v:OD)(o):∃w1 w2,fM [(Zf (.int n)),(some (o,.lst (rows (perms n k)))),v] = .ok (.lst (rows (perms n (k+1)))) [(Zf (.int n)),(Zf (.lst (rows (perms n k)))),v]/\w1=w2/\w2=v:=by
 refine⟨v,v,?_,rfl,rfl⟩;unfold fM;have e:rows (perms n<|k+1)=(perms n k).flatMap λr=>((List.range n).filter λi=>!decide (i∈r)).map λi=>bA (r++[i]):=by
  show((perms n k).flatMap λr=>((List.range n).filter λi=>!decide (i∈r)).map λi=>r++[i]).map bA=_;rw[List.map_flatMap]
  congr 1
  funext r
  rw[Qxj]
  rfl
 rw[e];have hz:((perms n k).flatMap λr=>((List.range n).filter λi=>!decide (i∈r)).map λi=>bA<|r++[i]).length<=sizeLine:=by rw[<-e,Qqz];exact Qqj (du n (k+1) hn) (by decide)
 refine UW (aJ:=[(Zf<|.int (n:Int)),(Zf<|.lst<|rows<|perms n k),v]) 1 1 (perms n k) bA (λr=>[Zf (bA r)]) (λ_=>List.range n) (λ_ (i:Nat)=>.int (i:Int)) (λ_ (i:Nat)=>[(Zf<|.int (i:Int))]) (λr i=>!decide (i∈r)) (λr i=>bA<|r++[i]) ?_ rfl rfl (λr hr=>⟨rfl,λu v hu hv=>?_,λv hv=>?_,λi hi=>⟨rfl,λv hv=>?_,?_,λ_=>?_⟩⟩) hz
 ·cases o<;>rfl
 ·match u,hu with
  | [_],_=>rfl
 ·match v,hv with
  | [_],_=>
   have:=wj (n:=n) (by omega)
   ac_rfl
 ·match v,hv with
  | [_],_=>rfl
 ·have:=uE i r;have er:bA r = .tup (r.map λ(k:Nat)=>D.int (k:Int)):=rfl;rw[er]
  ac_rfl
 ·have hl:=((cP n k r).mp hr).1;have hk:=qU hr;have:=xq r i (by omega);generalize bA r=R at *;generalize bA (r++[i])=R2 at *;clear hr hl hk hz e
  ac_rfl
theorem all_orderings(n:Nat)(hn:n<=5):dC [.int n]=some (.lst (rows (perms n n))):=by
 have go:∀m k o v,∃o' v',mV (ak 2) d7 ((List.range' k m).map λ(i:Nat)=>D.int (i:Int)) [(Zf<|.int (n:Int)),(some (o,.lst<|rows<|perms n k)),v] = .nx [(Zf<|.int (n:Int)),(some (o',.lst<|rows<|perms n<|k+m)),v']:=by
  intro m
  induction m with
  | zero=>intro k o v;exact⟨o,v,rfl⟩
  | succ m ih=>
   intro k o v;obtain⟨_,_,h,_⟩:=abH n k hn (Zf<|.int (k:Int)) o;obtain⟨o',v',ih⟩:=ih (k+1) true<|Zf<|.int (k:Int);refine⟨o',v',?_⟩;rw[List.range'_succ,Qq4,rZ];have hb:d7 [(Zf<|.int (n:Int)),(some (o,.lst<|rows<|perms n k)),(Zf<|.int (k:Int))] = .nx [(Zf<|.int (n:Int)),(Zl<|rows<|perms n<|k+1),(Zf<|.int (k:Int))]:=by
    unfold d7;rw[JD,h,bO]
    rfl
   show sY (d7 [(Zf<|.int (n:Int)),(some (o,.lst<|rows<|perms n k)),(Zf (.int (k:Int)))]) _=_;rw[hb,kNx,ih,show k+1+m=k+(m+1) by omega]
 obtain⟨o',v',h⟩:=go n 0 false none;rw[Nat.zero_add,<-List.range_eq_range'] at h;have hr:=wj (n:=n) (by omega);have e0:rows (perms n 0)=[.tup []]:=rfl;rw[e0] at h;unfold dC lK;generalize rows (perms n n)=RR at *;cases o'<;>ac_rfl
theorem xA{i:Nat}(h:i<Rs.length):bZ (.tup Rs) (.int i)=some (Rs.getD i .non):=by
 rw[vA,atN,Qq8,Qqy h]
 rfl
theorem laid(s)(Rs)(r)(h:∀i∈r,i<Rs.length)(hr:r.length<=100):sr [.tup [s,.tup Rs],bA r]=some (.tup [s,.tup (pick Rs r)]):=by
 have hl:pK [Zf (.tup [s,.tup Rs]),Zf<|bA r,Zf s,Zf<|.tup Rs] = .ok (.lst<|pick Rs r) [Zf (.tup [s,.tup Rs]),Zf<|bA r,Zf s,Zf<|.tup Rs]:=by
  unfold pK pick;refine iY r (λi=>.int i) _ (by rfl) rfl rfl (λi hi=>?_) (Qqj hr (by decide));have:=xA<|h i hi;generalize Rs.getD i .non=Z at *;generalize bA r=Q;clear hi h;rw[vA] at this
  ac_rfl
 unfold sr K9;generalize bA r=Q at *;generalize pick Rs r=Z at *;clear h
 ac_rfl
theorem NB(s)(Rs)(r)(h:∀i∈r,i<Rs.length)(hr:r.length<=100):jy [.tup [s,.tup Rs],bA r]=some (.tup [s,.tup (pick Rs r)]):=by
 have hl:jE [Zf (.tup [s,.tup Rs]),Zf<|bA r] = .ok (.lst<|pick Rs r) [Zf (.tup [s,.tup Rs]),Zf<|bA r]:=by
  unfold jE pick;refine iY r (λi=>.int i) _ (by rfl) rfl rfl (λi hi=>?_) (Qqj hr (by decide));have:=xA<|h i hi;generalize Rs.getD i .non=Z at *;generalize bA r=Q;clear hi h;rw[vA] at this
  ac_rfl
 unfold jy sV;generalize bA r=Q at *;generalize pick Rs r=Z at *;clear h
 ac_rfl
abbrev Pr:=List Nat×List Nat
noncomputable def encP(p:Pr):D:=.tup [.str p.1,.str p.2]
def bk(B:List Pr):D:=.tup (B.map encP)
structure Bk(x:List Nat)(B:List Pr):Prop where
 few:B.length<=10
 uQ:∀p∈B,(∀c∈p.1,c∈x)/\p.1.length<=7/\p.2.length<=100
theorem aes(l):tQ (.lst l) (.lst [])=some (.bl (!l.isEmpty)):=by cases l<;>rfl
structure Ok(x:List Nat)(s:D)(Rs:List D):Prop where
 hx:x∈XS
 hs:s∈sides
 hR:∀R∈Rs,gY x R
 h4:Rs.length<=5
theorem Ok.pick(h:Ok x s Rs)(hr:∀i∈r,i<Rs.length)(hl:r.length<=5):Ok x s (pick Rs r):=by refine⟨h.hx,h.hs,λR hR=>?_,by unfold jb.pick;rw[Qqz];exact hl⟩;unfold jb.pick at hR;obtain⟨i,hi,rfl⟩:=Qwk.mp hR;have:=hr i hi;rw[Qq8,Qqy this];exact h.hR _<|Qw9 this
theorem Ok.bound(h:Ok x s Rs){w:List Nat}(hw:w.length<=7):(w.length+1)*2^Rs.length<=301:=by have:2^Rs.length<=32:=Qqj (Nat.pow_le_pow_right (by decide) h.h4) (by decide);exact Qqj (Nat.mul_le_mul (show w.length+1<=8 by omega) this) (by decide)
section
variable{x:List Nat}{s:D}{Rs:List D}(h:Ok x s Rs){w:List Nat}(hw:∀c∈w,c∈x)(hl:w.length<=7)
include h hw hl
theorem made:mW [.tup [s,.tup Rs],.str w]=some (.str (fin s Rs w)):=by rw[Ku];exact vG.made h.hx h.hs h.hR (by have:=h.h4;omega) hw<|Qqj (h.bound hl) (by decide)
theorem Nz:gW [.tup [s,.tup Rs],.str w]=some (.str (fin s Rs w)):=by
 have h1:=vG.aaw h.hx h.hs h.hR (by have:=h.h4;omega) hw<|Qqj (h.bound hl) (by decide);rw[<-Ny] at h1;have h2:=vG.NP (s:=s) Rs w;unfold gW sU;rw[vA] at h2;generalize vG.uQ s w Rs=W at *;generalize fin s Rs w=Z at *;clear h hw hl
 ac_rfl
theorem Eh:(∀c∈fin s Rs w,c∈x)/\(fin s Rs w).length<=300:=by have h1:=h.bound hl;obtain⟨h2,h3⟩:=vG.Eh h.hx h.hs Rs w h.hR hw<|Qqj h1 (by decide);exact⟨h2,by omega⟩
end
noncomputable def fD(t:List Bool):D:=.lst (t.map .bl)
def tell(s:D)(Rs:List D)(B:List Pr):List Bool:=B.map λp=>fin s Rs p.1 == p.2
theorem pairs_told(h:Ok x s Rs)(hB:Bk x B):gJ [.tup [s,.tup Rs],bk B]=some (fD (tell s Rs B)):=by
 generalize hO:D.tup [s,.tup Rs]=O;have hl:ig [Zf O,Zf<|bk B] = .ok (fD<|tell s Rs B) [Zf O,Zf<|bk B]:=by
  unfold ig fD tell;rw[Qxj];have:=sG (n:=4) (g:=dR 2<|aZ (ak 2)<|aZ (ak 3) dU) (e:=aL jT (ao mW<|Zv 0<|Zv 2 aj)<|bj 3) (env:=[Zf O,Zf<|bk B]) B encP (λp=>[Zs p.1,Zs p.2]) (λ_=>true) (λp=>.bl<|fin s Rs p.1 == p.2) (by rfl) rfl (λp hp=>by
   refine⟨rfl,λvs hv=>?_,rfl,λ_=>?_⟩
   ·match vs,hv with
    | [_,_],_=>rfl
   ·obtain⟨w1,w2,w3⟩:=hB.uQ p hp;have hm:=made h w1 w2;rw[hO] at hm;clear hO hp h
    ac_rfl) (Qqj hB.few (by decide))
  rw[Qj1.mpr (λ_ _=>rfl)] at this;exact this
 unfold gJ pD;generalize bk B=BB at *;generalize fD (tell s Rs B)=TT at *;clear h hB
 ac_rfl
noncomputable def Gd(T:List (List Bool))(ns:List Nat):Bool:=!T.any λt=>ns.all λi=>t.getD i false
noncomputable def eZ(ns:List Nat):List D:=ns.map λ(k:Nat)=>D.int (k:Int)
theorem is_quarrel(T)(ns)(h:∀t∈T,∀i∈ns,i<t.length)(hT:T.length<=1000)(hn:ns.length<=1000):kO [.lst (T.map fD),.lst (eZ ns)]=some (.bl (Gd T ns)):=by
 have h2:jB [(Zf<|.lst<|T.map fD),(Zf<|.lst<|eZ ns)] = .ok (.lst<|T.map λt=>.bl<|ns.all λi=>t.getD i false) [(Zf<|.lst<|T.map fD),(Zf<|.lst<|eZ ns)]:=by
  unfold jB;refine iY T fD _ (by rfl) rfl rfl (λt ht=>?_) (Qqj hT (by decide));have h1:ik [(Zf<|.lst<|T.map fD),(Zf<|.lst<|eZ ns),Zf<|fD t] = .ok (.lst<|ns.map λi=>.bl<|t.getD i false) [(Zf<|.lst<|T.map fD),(Zf<|.lst<|eZ ns),Zf<|fD t]:=by
   unfold ik;refine iY ns (λi=>.int (i:Int)) _ (by rfl) rfl rfl (λi hi=>?_) (Qqj hn (by decide));have hi:=h t ht i hi;have g:qO (t.map D.bl) (i:Int)=some (.bl<|t.getD i false):=by
    rw[atN,Qw1,Qq8,Qqy hi]
    rfl
   have e:fD t = .lst (t.map .bl):=rfl;rw[e];generalize T.map fD=TE;generalize eZ ns=NS;generalize t.getD i false=b at *;generalize t.map D.bl=tb at *;clear h ht e
   ac_rfl
  have g2:=sZ (λi=>t.getD i false) ns;generalize List.map (λi=>D.bl<|t.getD i false) ns=L1 at *;generalize(ns.all λi=>t.getD i false)=b at *;generalize fD t=te at *;generalize T.map fD=TE at *;generalize eZ ns=NS at *;clear h ht
  ac_rfl
 have g3:=af6 (λt:List Bool=>ns.all λi=>t.getD i false) T;unfold kO pF Gd;generalize List.map (λt=>D.bl<|ns.all λi=>t.getD i false) T=L1 at *;generalize(T.any λt=>ns.all λi=>t.getD i false)=b at *;generalize T.map fD=TE at *;generalize eZ ns=NS at *;clear h hT
 ac_rfl
def mJ(T:List (List Bool))(ns:List Nat)(i:Nat):List Nat:=if Gd T (ns.filter λj=>!decide (j=i))=true then ns.filter λj=>!decide (j=i) else ns
theorem V7(T)(ns)(i):∀j∈mJ T ns i,j∈ns:=by
 intro j hj;unfold mJ at hj;split at hj
 ·exact(List.mem_filter.mp hj).1
 ·exact hj
theorem V8(T)(ns)(i):(mJ T ns i).length<=ns.length:=by
 unfold mJ;split
 ·exact List.length_filter_le _ _
 ·exact Qqw _
def oU(T:List (List Bool))(m:Nat):List Nat:=(List.range m).foldl (mJ T) (List.range m)
theorem quarrel(T)(m:Nat)(h:∀t∈T,t.length=m)(hT:T.length<=1000)(hm:m<=100):nD [.lst (T.map fD),.int m]=some (.tup (eZ (oU T m))):=by
 have go:∀(is:List Nat) ns v3 v4,ns.length<=100->(∀j∈ns,j<m)->∃v3' v4',mV (ak 3) jq (is.map λ(i:Nat)=>D.int (i:Int)) [(Zf<|.lst<|T.map fD),(Zf<|.int (m:Int)),(Zf<|.lst<|eZ ns),v3,v4] = .nx [(Zf<|.lst<|T.map fD),(Zf<|.int (m:Int)),(Zf<|.lst<|eZ<|is.foldl (mJ T) ns),v3',v4']:=by
  intro is
  induction is with
  | nil=>intro ns v3 v4 _ _;exact⟨v3,v4,rfl⟩
  | cons i is ih=>
   intro ns v3 v4 hl hj;have c1:kh [(Zf<|.lst<|T.map fD),(Zf<|.int (m:Int)),(Zf<|.lst<|eZ ns),(Zf<|.int (i:Int)),v4] = .ok (.lst<|eZ<|ns.filter λj=>!decide (j=i)) [(Zf<|.lst<|T.map fD),(Zf<|.int (m:Int)),(Zf (.lst (eZ ns))),(Zf (.int (i:Int))),v4]:=by
    unfold kh;refine Bh ns (λj=>.int (j:Int)) (λj=>!decide (j=i)) (λj=>.int (j:Int)) (by rfl) rfl rfl (λj _=>?_) (λj _ _=>by rfl) (Qqj hl (by decide));have e:((j:Int) == (i:Int))=decide (j=i):=by rw[Qz5];simp only[beq_iff_eq,decide_eq_true_eq];omega
    generalize T.map fD=TE;generalize eZ ns=NS;clear ih hj h
    ac_rfl
   have q:=is_quarrel T (ns.filter λj=>!decide (j=i)) (λt ht j hj2=>by rw[h t ht];exact hj j (List.mem_filter.mp hj2).1) hT (Qqj (List.length_filter_le _ _) (by omega));have hb:∃w4,jq [(Zf (.lst (T.map fD))),(Zf (.int (m:Int))),(Zf (.lst (eZ ns))),(Zf (.int (i:Int))),v4] = .nx [(Zf (.lst (T.map fD))),(Zf (.int (m:Int))),(Zf (.lst (eZ (mJ T ns i)))),(Zf (.int (i:Int))),w4]:=by
    refine⟨(Zf (.lst (eZ (ns.filter λj=>!decide (j=i))))),?_⟩;unfold jq mJ;generalize(ns.filter λj=>!decide (j=i))=OT at *;generalize Gd T OT=b at *;generalize T.map fD=TE at *;clear ih hj h;cases b with
    | true=>
     rw[if_pos rfl];generalize eZ ns=NS at *;generalize eZ OT=OO at *
     ac_rfl
    | false=>
     rw[if_neg Qwj];generalize eZ ns=NS at *;generalize eZ OT=OO at *
     ac_rfl
   obtain⟨w4,hb⟩:=hb;obtain⟨v3',v4',ih⟩:=ih (mJ T ns i) (Zf (.int (i:Int))) w4 (Qqj (V8 T ns i) hl) (λj hj2=>hj j (V7 T ns i j hj2));refine⟨v3',v4',?_⟩;rw[Qq4,rZ];show sY (jq [(Zf (.lst (T.map fD))),(Zf (.int (m:Int))),(Zf (.lst (eZ ns))),(Zf (.int (i:Int))),v4]) _=_;rw[hb,kNx,ih]
   rfl
 obtain⟨v3,v4,f1⟩:=go (List.range m) (List.range m) none none (by rw[List.length_range];exact hm) (λj hj=>Qw7.mp hj);have hr:=wj (n:=m) (by omega);have hg:Ir (.int (m:Int))=some (.lst (eZ (List.range m))):=aew (Qqj hm (by decide));unfold nD vd oU;generalize eZ ((List.range m).foldl (mJ T) (List.range m))=Z at *;generalize eZ (List.range m)=Y at *;generalize T.map fD=TE at *;clear go h
 ac_rfl
section
variable{x:List Nat}{s:D}{Rs:List D}(h:Ok x s Rs){B:List Pr}(hB:Bk x B)
def W(s:D)(Rs:List D)(B:List Pr)(r:List Nat):List D:=B.map λp=>.str (fin s (pick Rs r) p.1)
include h hB
omit h hB in
theorem any_filter(t)(P:List (List Nat)):P.any t = !(P.filter t).isEmpty:=by
 induction P with
 | nil=>rfl
 | cons a P ih=>
  rw[List.any_cons];cases e:t a with
  | true=>rw[List.filter_cons_of_pos e];rfl
  | false=>rw[List.filter_cons_of_neg (by rw[e];decide),<-ih];rfl
def told(s:D)(Rs:List D)(B:List Pr):D:=match (perms Rs.length Rs.length).filter (tells s Rs B) with
 | []=>.tup [.str [113,117,97,114,114,101,108],.tup (eZ (oU ((perms Rs.length Rs.length).map λr=>tell s (pick Rs r) B) B.length))]
 | a::l=>.tup [.str [116,111,108,100],.tup (rows (a::l))]
theorem Yu:nC [.tup [s,.tup Rs],bk B]=some (told s Rs B):=by
 have h4:=h.h4;have ha:=all_orderings Rs.length (by omega);have hP:∀r∈perms Rs.length Rs.length,r.length=Rs.length/\∀i∈r,i<Rs.length:=λr hr=>⟨((cP _ _ _).mp hr).1,((cP _ _ _).mp hr).2.2⟩;have hz:=du Rs.length Rs.length (by omega);have c1:j9 [Zf (.tup [s,.tup Rs]),Zf<|bk B,(Zf<|.lst<|rows<|perms Rs.length Rs.length),Zn,Zn] = .ok (.lst<|(perms Rs.length Rs.length).map λr=>fD<|tell s (pick Rs r) B) [Zf (.tup [s,.tup Rs]),Zf<|bk B,(Zf<|.lst<|rows<|perms Rs.length Rs.length),Zn,Zn]:=by
  unfold j9;refine iY (perms Rs.length Rs.length) bA (λr=>fD<|tell s (pick Rs r) B) (by rfl) rfl rfl (λr hr=>?_) (Qqj hz (by decide));obtain⟨q1,q2⟩:=hP r hr;have l1:=laid s Rs r q2 (by omega);have l2:=pairs_told (h.pick q2 (by omega)) hB;generalize fD (tell s (pick Rs r) B)=TT at *;generalize bk B=BB at *;generalize bA r=RR at *;generalize rows (perms Rs.length Rs.length)=PP at *;generalize D.tup [s,.tup Rs]=O1 at *;generalize D.tup [s,.tup (pick Rs r)]=O2 at *;clear h hB ha hP hr q2
  ac_rfl
 have c2:jj [Zf (.tup [s,.tup Rs]),Zf (bk B),(Zf (.lst (rows (perms Rs.length Rs.length)))),(Zl ((perms Rs.length Rs.length).map λr=>fD (tell s (pick Rs r) B))),Zn] = .ok (.lst (rows ((perms Rs.length Rs.length).filter (tells s Rs B)))) [Zf (.tup [s,.tup Rs]),Zf (bk B),(Zf (.lst (rows (perms Rs.length Rs.length)))),(Zf (.lst ((perms Rs.length Rs.length).map λr=>fD (tell s (pick Rs r) B)))),Zn]:=by
  unfold jj;refine sG (aJ:=[Zf (.tup [s,.tup Rs]),Zf (bk B),(Zf (.lst (rows (perms Rs.length Rs.length)))),(Zf (.lst ((perms Rs.length Rs.length).map λr=>fD (tell s (pick Rs r) B)))),Zn]) (perms Rs.length Rs.length) (λr=>.tup [bA r,fD (tell s (pick Rs r) B)]) (λr=>[Zf (bA r),(Zf (fD (tell s (pick Rs r) B)))]) (tells s Rs B) bA ?_ rfl (λr hr=>?_) (Qqj hz (by decide))
  ·have ez:tL (rows (perms Rs.length Rs.length)) ((perms Rs.length Rs.length).map λr=>fD (tell s (pick Rs r) B))=(perms Rs.length Rs.length).map λr=>D.tup [bA r,fD (tell s (pick Rs r) B)]:=by
    unfold tL;generalize perms Rs.length Rs.length=P;clear h hB ha hP hz h4
    induction P with
    | nil=>rfl
    | cons a P ih=>exact Qx7 (List.cons (D.tup [bA a,fD (tell s (pick Rs a) B)])) ih
   rw[<-ez];generalize rows (perms Rs.length Rs.length)=P1;generalize(perms Rs.length Rs.length).map (λr=>fD (tell s (pick Rs r) B))=P2
   rfl
  ·refine⟨rfl,λvs hv=>?_,?_,λ_=>?_⟩
   ·match vs,hv with
    | [_,_],_=>rfl
   ·have g:o4 [fD (tell s (pick Rs r) B)]=some (.bl (tells s Rs B r)):=by
     have:=sZ id (tell s (pick Rs r) B);have e:tells s Rs B r=(tell s (pick Rs r) B).all id:=by unfold tells tell;rw[List.all_map];rfl
     rw[e];exact this
    generalize fD (tell s (pick Rs r) B)=TT at *;generalize bk B=BB at *;generalize bA r=RR at *;generalize rows (perms Rs.length Rs.length)=PP at *;generalize D.tup [s,.tup Rs]=O1 at *;generalize(perms Rs.length Rs.length).map (λr=>fD (tell s (pick Rs r) B))=P2;generalize tells s Rs B r=b at *;clear h hB ha hP hr c1
    ac_rfl
   ·generalize fD (tell s (pick Rs r) B)=TT at *;generalize rows (perms Rs.length Rs.length)=PP at *;generalize(perms Rs.length Rs.length).map (λr=>fD (tell s (pick Rs r) B))=P2
    rfl
 have hq:=quarrel ((perms Rs.length Rs.length).map λr=>tell s (pick Rs r) B) B.length (λt ht=>by
  obtain⟨r,_,rfl⟩:=Qwk.mp ht;unfold tell;rw[Qqz]) (by rw[Qqz];exact Qqj ((by decide +kernel:∀n,n<=5->(perms n n).length<=200) _ h4) (by decide)) (by have:=hB.few;omega)
 rw[Qxj] at hq;have eb:cN [bk B]=some (.int (B.length:Int)):=by show some (D.int ((B.map encP).length:Int))=_;rw[Qqz]
 have hn:=aes (rows ((perms Rs.length Rs.length).filter (tells s Rs B)));unfold nC u0 told
 change nD [D.lst ((perms Rs.length Rs.length).map (λr=>fD (tell s (pick Rs r) B))),_]=_ at hq
 generalize(perms Rs.length Rs.length).filter (tells s Rs B)=TA at *;generalize bk B=BB at *;generalize rows (perms Rs.length Rs.length)=PP at *;generalize oU ((perms Rs.length Rs.length).map λr=>tell s (pick Rs r) B) B.length=QQ at *;generalize(perms Rs.length Rs.length).map (λr=>fD (tell s (pick Rs r) B))=P2 at *;clear h hB hP;cases TA with
 | nil=>
  show _=some (D.tup [.str [113,117,97,114,114,101,108],.tup (eZ QQ)])
  replace hn:tQ (.lst []) (.lst [])=some (.bl false):=hn
  replace c2:jj _=R.ok (.lst []) _:=c2
  generalize eZ QQ=NN at *
  ac_rfl
 | cons a l=>
  show _=some (D.tup [.str [116,111,108,100],.tup (rows (a::l))])
  replace hn:tQ (.lst (rows (a::l))) (.lst [])=some (.bl true):=hn
  generalize rows (a::l)=RL at *
  ac_rfl
end
end jb
namespace K48
open Ev PySem L2
open jb (perms cP tells pick Gd oU mJ eZ tell bk encP Ok Bk told rows yW)
open vG (fin)
abbrev Pq:=List Nat×List Nat
theorem ah2{q:List Nat}(hn:q.Nodup)(hi:i<q.length)(hj:j<q.length)(e:q[i]=q[j]):i=j:=by
 have h:=List.pairwise_iff_getElem.mp hn;rcases Nat.lt_trichotomy i j with c|c|c
 ·exact absurd e<|h i j hi hj c
 ·exact c
 ·exact absurd e.symm<|h j i hj hi c
theorem rT:Gd T A=true ↔ ∀t∈T,∃i∈A,t.getD i false=false:=by
 unfold Gd;rw[Bool.not_eq_true',List.any_eq_false];constructor
 ·intro h t ht;have:=h t ht;rw[Bool.not_eq_true,List.all_eq_false] at this;obtain⟨i,hi,e⟩:=this;exact⟨i,hi,by simpa using e⟩
 ·intro h t ht;rw[Bool.not_eq_true,List.all_eq_false];obtain⟨i,hi,e⟩:=h t ht;exact⟨i,hi,by simpa using e⟩
theorem aaU(h:∀i∈A,i∈B)(e:Gd T A=true):Gd T B=true:=
 rT.mpr λt ht=>by obtain⟨i,hi,q⟩:=rT.mp e t ht;exact⟨i,h i hi,q⟩
theorem Zd(T):∀(l ns:List Nat),Gd T ns=true->Gd T (l.foldl (mJ T) ns)=true/\(l.foldl (mJ T) ns).Sublist ns/\∀i∈l,i∈l.foldl (mJ T) ns->Gd T ((l.foldl (mJ T) ns).filter λj=>!decide (j=i))=false
 | [],ns,h=>⟨h,List.Sublist.refl _,λi hi=>by cases hi⟩
 | a::l,ns,h=>by
  rw[Qjw];by_cases c:Gd T (ns.filter λj=>!decide (j=a))=true
  ·have e:mJ T ns a=ns.filter λj=>!decide (j=a):=by unfold mJ;rw[if_pos c]
   rw[e];obtain⟨h1,h2,h3⟩:=Zd T l _ c;refine⟨h1,h2.trans List.filter_sublist,λi hi hq=>?_⟩;rcases Qwq.mp hi with rfl|hi
   ·have:=List.mem_filter.mp<|h2.subset hq;simp at this
   ·exact h3 i hi hq
  ·have e:mJ T ns a=ns:=by unfold mJ;rw[if_neg c]
   rw[e];obtain⟨h1,h2,h3⟩:=Zd T l _ h;refine⟨h1,h2,λi hi hq=>?_⟩;rcases Qwq.mp hi with rfl|hi
   ·rw[Bool.eq_false_iff];exact λz=>c<|aaU (λj hj=>(h2.filter _).subset hj) z
   ·exact h3 i hi hq
theorem xx(T)(m)(h:Gd T (List.range m)=true):Gd T (oU T m)=true/\(oU T m).Sublist (List.range m)/\∀i∈oU T m,Gd T ((oU T m).filter λj=>!decide (j=i))=false:=by obtain⟨h1,h2,h3⟩:=Zd T (List.range m) (List.range m) h;exact⟨h1,h2,λi hi=>h3 i (h2.subset hi) hi⟩
noncomputable def sub(B:List Pq)(q:List Nat):List Pq:=q.map λi=>B.getD i ([],[])
theorem Yw(s)(Rs)(B)(q)(h:∀i∈q,i<B.length):tell s Rs (sub B q)=q.map λi=>(tell s Rs B).getD i false:=by unfold tell sub;rw[Qxj];refine List.map_congr_left λi hi=>?_;have:=h i hi;simp[Qq8,this]
theorem getD_map{α:Type}(q:List Nat)(f)(d:α)(h:j<q.length):(q.map f).getD j d=f (q.getD j 0):=by simp[Qq8,h]
theorem Uq{q A:List Nat}(hA:∀i∈A,i<q.length):Gd (T.map λt=>q.map λi=>t.getD i false) A=Gd T (A.map λj=>q.getD j 0):=by
 rw[Qz5,rT,rT];constructor
 ·intro h t ht;obtain⟨i,hi,e⟩:=h _<|Qwk.mpr ⟨t,ht,rfl⟩;rw[getD_map q _ _ (hA i hi)] at e;exact⟨_,Qwk.mpr ⟨i,hi,rfl⟩,e⟩
 ·intro h t ht;obtain⟨u,hu,rfl⟩:=Qwk.mp ht;obtain⟨i,hi,e⟩:=h u hu;obtain⟨j,hj,rfl⟩:=Qwk.mp hi;exact⟨j,hj,by rw[getD_map q _ _ (hA j hj)];exact e⟩
section
variable(s:D)(Rs:List D)(B:List Pq)
def TL:List (List Bool):=(perms Rs.length Rs.length).map λr=>tell s (pick Rs r) B
theorem vI(r):tells s Rs B r=(tell s (pick Rs r) B).all id:=by unfold tells tell;rw[List.all_map];rfl
theorem qX:(perms Rs.length Rs.length).filter (tells s Rs B)=[]↔Gd (TL s Rs B) (List.range B.length)=true:=by
 rw[List.filter_eq_nil_iff,rT];constructor
 ·intro h t ht;obtain⟨r,hr,rfl⟩:=Qwk.mp ht;have:=h r hr;rw[vI,Bool.not_eq_true,List.all_eq_false] at this;obtain⟨b,hb,e⟩:=this;obtain⟨i,hi,rfl⟩:=List.mem_iff_getElem.mp hb;refine⟨i,Qw7.mpr (by have:=hi;unfold tell at this;rw[Qqz] at this;exact this),?_⟩;rw[Qq8,Qqy hi]
  simpa using e
 ·intro h r hr;obtain⟨i,hi,e⟩:=h _<|Qwk.mpr ⟨r,hr,rfl⟩;rw[vI,Bool.not_eq_true,List.all_eq_false];have hi':i<(tell s (pick Rs r) B).length:=by unfold tell;rw[Qqz];exact Qw7.mp hi
  refine⟨(tell s (pick Rs r) B)[i],Qw9 hi',?_⟩;rw[Qq8,Qqy hi'] at e
  simpa using e
theorem Yv(q)(h:∀i∈q,i<B.length):TL s Rs (sub B q)=(TL s Rs B).map λt=>q.map λi=>t.getD i false:=by unfold TL;rw[Qxj];exact List.map_congr_left λr _=>Yw s (pick Rs r) B q h
theorem Vv(h:(perms Rs.length Rs.length).filter (tells s Rs B)=[]):told s Rs B = .tup [.str [113,117,97,114,114,101,108],.tup (eZ (oU (TL s Rs B) B.length))]:=by
 unfold told;rw[h]
 rfl
theorem Vu(h:(perms Rs.length Rs.length).filter (tells s Rs B)=a::l):told s Rs B = .tup [.str [116,111,108,100],.tup (rows (a::l))]:=by unfold told;rw[h]
end
end K48
namespace mj
open Ev PySem L2
open lQ (mk aao marks xj known gR Rows isT zg jL PV Av SG prs wC uY wM uX one others zH)
open qb (XS sides encC Aw jK)
theorem Tr:bz=lQ.bz:=rfl
theorem Ua:jx=K14.jx:=rfl
theorem VV:ju=lQ.ju:=rfl
theorem xm:d9=lQ.d9:=rfl
def mt(d:Nat):D:=match mk d with
 | .lst zs=>.tup (cutD zs none (some 4))
 | _=>.non
def MK:List D:=(List.range 32).map mt
inductive rn:List D->List D->Prop where
 | nil:rn [] []
 | cons {s m:D} {ss rs:List D}:m∈MK->rn ss rs->rn (s::ss) (.tup [s,m]::rs)
theorem rn.snoc(h:rn ss rs)(s)(hm:m∈MK):rn (ss++[s]) (rs++[.tup [s,m]]):=by
 induction h with
 | nil=>exact .cons hm .nil
 | cons a _ ih=>exact .cons a ih
theorem rn.rows(h:rn ss rs):Rows ss rs:=by
 induction h with
 | nil=>exact .nil
 | cons _ _ ih=>exact .cons ih
noncomputable def XL:List (List Nat):=[[97],[97,98],[97,98,99],[97,101,112,116],[109,110,122],[97,101],[109,110]]
theorem vD:∀x∈XL,x∈XS:=by intro x hx;simp[XL,Qwq,List.not_mem_nil,or_false] at hx;rcases hx with rfl|rfl|rfl|rfl|rfl|rfl|rfl<;>exact lQ.anB ⟨by decide,by decide,by decide,by decide⟩
theorem abO:∀x∈XL,pC [.tup (jc x)]=some (.bl true):=by
 have h:(XL.all λx=>isT<|pC [.tup (jc x)])=true:=by decide +kernel
 exact λx hx=>zg<|Qw0.mp h x hx
theorem Y0:∀c∈XL.flatten,∀m∈MK,gq [.tup [.str [c],m]]=some (.bl true):=by
 have h:(XL.flatten.all λc=>MK.all λm=>isT<|gq [.tup [.str [c],m]])=true:=by decide +kernel
 exact λc hc m hm=>zg<|Qw0.mp (Qw0.mp h c hc) m hm
theorem Gy(h:rn ss rs):∀r∈rs,∃s∈ss,∃m∈MK,r = .tup [s,m]:=by
 induction h with
 | nil=>intro r hr;cases hr
 | @cons s m ss rs a _ ih=>
  intro r hr;rcases Qwq.mp hr with rfl|hr
  ·exact⟨s,Qq5 ..,m,a,rfl⟩
  ·obtain⟨s',h1,h2⟩:=ih r hr;exact⟨s',Qq0 _ h1,h2⟩
theorem is_stock(hx:x∈XL)(h:rn (jc x) rs):nJ [.tup rs]=some (.bl true):=by
 have hs:=lQ.sounds_of (vD x hx) h.rows;rw[<-xm] at hs;have h2:=abO x hx;have hl:rs.length=x.length:=by rw[h.rows.len];simp[jc]
 have h3:=lQ.o8 x<|vD x hx;have h4:=lQ.wL x<|vD x hx;have hg:∀r∈rs,gq [r]=some (.bl true):=λr hr=>by
  obtain⟨s,h5,m,h6,rfl⟩:=Gy h r hr;unfold jc at h5;obtain⟨c,hc,rfl⟩:=Qwk.mp h5;exact Y0 c (List.mem_flatten.mpr ⟨x,hx,hc⟩) m h6
 have hc:nY [Zf (.tup rs)] = .ok (.lst<|rs.map λ_=>.bl true) [Zf (.tup rs)]:=by
  unfold nY;refine iY rs id _ (by rw[List.map_id];rfl) rfl rfl (λr hr=>?_) (Qqj (show rs.length<=4 by omega) (by decide));have:=hg r hr;show ao gq (Zv 1 aj) [Zf (.tup rs),Zf r]=_;clear hs h2 hg h
  ac_rfl
 have ha:=sZ (λ_:D=>true) rs;rw[show rs.all (λ_=>true)=true by simp] at ha;have l1:decide (1<=(rs.length:Int))=true:=Qw8 (by omega);have l2:decide ((rs.length:Int)<=4)=true:=Qw8 (by omega);have ht:jd "tuple" (.tup rs)=some (.bl true):=rfl;unfold nJ Ex;clear hg h hl h3 h4 hx;generalize nY=LC at *;generalize rs.map (λ_=>D.bl true)=MM at *
 ac_rfl
def yt:bV:=aC (aW (fW bz 0 (aa (Zi 32) aj)) (ak 5)) (aC xj (kY 3 (cY (Zv 4 (aa (ao d8 (aa (zx (aN 6) jD (tU (Zi 4))) aj)) aj)))))
theorem QL(n)(b v5 v6:OD)(acc)(s)(ha:acc.length<=10):∃m v5' v6',yt [Zl [.int n],b,Zf known,Zl acc,Zf s,v5,v6] = .nx [Zl [.int (n / 32)],b,Zf known,Zl (acc++[.tup [s,m]]),Zf s,v5',v6']/\m∈MK:=by obtain⟨d,hd,e⟩:=dig n 32 (by decide);obtain⟨zs,hz⟩:=aao d hd;refine⟨.tup<|cutD zs none<|some 4,Zf<|.int d,Zf<|.lst zs,?_,Qwk.mpr ⟨d,Qw7.mpr hd,by unfold mt;rw[hz]⟩⟩;unfold yt;refine(aR (e:=[Zl [.int (n / 32)],b,Zf known,Zl acc,Zf s,(Zf<|.int<|n % (32:Nat)),v6]) rfl).trans ?_;rw[e];refine(aR<|marks d hd _ _ _ _ _).trans ?_;rw[hz];exact gR (e:=[Zl [.int (n / 32)],b,Zf known,Zl acc,Zf s,Zf<|.int d,Zf<|.lst zs]) rfl rfl rfl (Qxx ha (by decide))
theorem stock(n):∃x rows n',x∈XL/\ql [.lst [.int n]]=some (.tup rows,.lst [.int n'])/\rn (jc x) rows:=by
 obtain⟨d,hd,e⟩:=dig n 6 (by decide);obtain⟨x,hx,h1⟩:∃x,x∈XL/\∀m,(λk m=>gr (fc (bZ (.lst [.str [97],.str [97,98],.str [97,98],.str [97,98,99],.str [97,101,112,116],.str [109,110,122]])<|.int k) ([Zl [.int m],Zn,Zn,Zn,Zn,Zn,Zn]:Ev.Env)) λd aJ=>G6<|ak 1 d aJ) (d:Int) m = .nx [Zl [.int m],Zs x,Zn,Zn,Zn,Zn,Zn]:=by
  have hc:d=0\/d=1\/d=2\/d=3\/d=4\/d=5:=by omega
  rcases hc with rfl|rfl|rfl|rfl|rfl|rfl
  ·exact⟨[97],by decide,λm=>rfl⟩
  ·exact⟨[97,98],by decide,λm=>rfl⟩
  ·exact⟨[97,98],by decide,λm=>rfl⟩
  ·exact⟨[97,98,99],by decide,λm=>rfl⟩
  ·exact⟨[97,101,112,116],by decide,λm=>rfl⟩
  ·exact⟨[109,110,122],by decide,λm=>rfl⟩
 have hxl:x.length<=4:=lQ.o8 x<|vD x hx;obtain⟨e',f1,n',acc,v4,v5,v6,rfl,hr⟩:=kI (g:=ak 4) (b:=yt) (jc x) (λdone env=>∃n acc v4 v5 v6,env=[Zl [.int n],Zs x,Zf known,Zl acc,v4,v5,v6]/\rn done acc)
  (λdone s rest hall env ⟨n,acc,v4,v5,v6,he,hr⟩=>by
   subst he;have hd:done.length<=4:=by
    have:=Qx7 List.length hall;unfold jc at this
    grind
   obtain⟨m,w5,w6,hb,hm⟩:=QL n (Zs x) v5 v6 acc s (by rw[hr.rows.len];omega);exact⟨_,_,rfl,hb,n / 32,_,_,_,_,rfl,hr.snoc s hm⟩)
  [Zl [.int (n / 6)],Zs x,Zf known,Zl [],Zn,Zn,Zn] ⟨_,[],_,_,_,rfl,.nil⟩
 refine⟨x,acc,n',hx,mH (env:=[Zl [.int n'],Zs x,Zf known,Zl acc,v4,v5,v6]) ?_ rfl,hr⟩;unfold z7;refine(aR (e:=[Zl [.int (n / 6)],Zs x,Zn,Zn,Zn,Zn,Zn]) ?_).trans ?_
 ·have h2:=h1<|n / 6;rw[<-e] at h2;exact h2
 refine(aR rfl).trans ?_;refine(aR rfl).trans ?_;refine(aR (e:=[Zl [.int n'],Zs x,Zf known,Zl acc,v4,v5,v6]) ?_).trans ?_
 ·exact f1
 ·rfl
open lQ (Rows isT zg jL PV Av SG prs wC uY wM uX one others zH)
open vG (gY cF fin)
theorem lt1(x y:Nat):([x] < [y])↔x<y:=by
 constructor
 ·intro h;cases h with
  | rel h=>exact h
  | cons h=>exact absurd h<|List.not_lt_nil _
 ·intro h;exact .rel h
noncomputable def up:List Nat->Bool
 | []=>true
 | [_]=>true
 | a::b::r=>decide (a<b)&&up (b::r)
theorem Ym:∀z,((List.range (z.length - 1)).all λi=>decide ([z.getD i 0] < [z.getD (i+1) 0]))=up z
 | []=>rfl
 | [_]=>rfl
 | x::y::r=>by
  have ih:=Ym (y::r);have e:(x::y::r).length - 1=(y::r).length - 1+1:=by simp
  rw[e,List.range_succ_eq_map,List.all_cons,List.all_map];have e2:decide ([(x::y::r).getD 0 0] < [(x::y::r).getD (0+1) 0])=decide (x<y):=by rw[Qz5,decide_eq_true_iff,decide_eq_true_iff];exact lt1 x y
  rw[e2];show _=(decide (x<y)&&up (y::r));rw[<-ih]
  rfl
theorem rises{t:List D->D}(ht:t = .tup\/t = .lst)(hz:z.length<=1000):pC [t (jc z)]=some (.bl (up z)):=by
 unfold pC Ve Dd;have hlen:cN [t (jc z)]=some (.int z.length):=by rcases ht with rfl|rfl<;>simp[cN,jc]
 have hr:vg [.int ((z.length:Int) - 1)]=some ((List.range<|z.length - 1).map λ(i:Nat)=>D.int (i:Int)):=by
  cases z with
  | nil=>rfl
  | cons c r=>
   have e:(((c::r).length:Int) - 1)=((r.length:Nat):Int):=by rw[Qq3];omega
   rw[e,wj (by simp at hz;omega)]
   rfl
 have h4:=iY (lo:=1) (n:=2) (it:=eF<|aa (aL qZ (ao cN<|aa (bj 0) aj)<|Zi 1) aj) (e:=aL Qf (az bZ 0<|bj 1)<|az bZ 0<|az cj 1<|Zi 1) (env:=[(Zf<|t<|jc z)]) (List.range<|z.length - 1) (λi=>.int (i:Int)) (λi=>.bl<|decide ([z.getD i 0] < [z.getD (i+1) 0])) (by ac_rfl) rfl rfl (λi hi=>by
  have hi:=Qw7.mp hi;have g:∀j,j<z.length->bZ (t<|jc z) (.int (j:Int))=some (.str [z.getD j 0]):=λj hj=>by
   rcases ht with rfl|rfl<;>simp[vA,Ol,atN,jc,hj]
  have g1:=g i (by omega);have g2:=g (i+1) (by omega);rw[show(((i+1:Nat):Int))=(i:Int)+1 from rfl] at g2
  ac_rfl) (by rw[List.length_range];exact Qqj (show z.length - 1<=1000 by omega) (by decide))
 have h5:=sZ (λi=>decide ([z.getD i 0] < [z.getD (i+1) 0])) (List.range (z.length - 1));rw[Ym] at h5
 ac_rfl
theorem Gu:∀{z},(z.map λc=>[c]).Pairwise (·<= ·)->z.Nodup->up z=true
 | [],_,_=>rfl
 | [_],_,_=>rfl
 | a::b::r,h,hn=>by
  have ih:=Gu (Qz6.mp h).2 (Qz2.mp hn).2;have h1:=(Qz6.mp h).1 [b] (by simp);have h2:a≠b:=λe=>(Qz2.mp hn).1 (by simp[e]);show(decide (a<b)&&up (b::r))=true;rw[ih,Bool.and_true,decide_eq_true_iff];have h3:a<=b:=by
   rcases Nat.lt_or_ge b a with h4|h4
   ·exact absurd ((lt1 b a).mpr h4) h1
   ·exact h4
  omega
theorem abg(h:Dr d zs=some b):Ec d (.tup zs)=some (.bl b):=by
 show(R8 d<|.tup zs).or _=_;have:R8 d (.tup zs)=some (.bl b):=by
  show(Dr d zs).map D.bl=_;rw[h]
  rfl
 rw[this]
 rfl
theorem Uy(h:x.contains c=b):Ec (.str [c]) (.tup (jc x))=some (.bl b):=abg (by rw[jc,qb.Dq,h])
theorem amY(x):Ec (.str []) (.tup (jc x))=some (.bl false):=abg (by
 induction x with
 | nil=>rfl
 | cons c x ih=>
  show(match jg 59 (.str [c]) (.str []),Dr (.str []) (jc x) with|some a,some b=>some (a||b)|_,_=>none)=_;rw[ih]
  rfl)
theorem aby{ps:List qb.Pr}(h0:0<ps.length)(h4:ps.length<=4)(hp:∀p∈ps,p.1∈x/\p.2.length<=1/\(∀c∈p.2,c∈x)/\p.2≠[p.1])(hu:up (ps.map (·.1))=true):eN [.tup (jc x),.tup (ps.map encC)]=some (.bl true):=by
 have cs:∀p∈ps,il [.tup (jc x),encC p]=some (.bl true):=λp h=>by
  obtain⟨a1,a2,a3,a4⟩:=hp p h;have e1:gk [encC p]=some (.bl true):=rfl;have e2:Ec (.str [p.1]) (.tup<|jc x)=some (.bl true):=Uy<|List.contains_iff_mem.mpr a1;have e5:tQ (.str [p.1]) (.str p.2)=some (.bl true):=by rw[abe,Qzk.mpr<|Ne.symm a4];rfl
  match e:p.2,a2 with
  | [],_=>
   have e3:=amY x;rw[e] at e5;have e6:encC p = .tup [.str [p.1],.str []]:=by unfold encC;rw[e]
   rw[e6] at e1 ⊢;unfold il o7;clear hp a1 a2 a3 a4 e6 e hu;generalize jc x=X at *
   ac_rfl
  | [c],_=>
   have e3:=Uy<|List.contains_iff_mem.mpr<|a3 c (by rw[e];simp);rw[e] at e5;have e6:encC p = .tup [.str [p.1],.str [c]]:=by unfold encC;rw[e]
   rw[e6] at e1 ⊢;unfold il o7;clear hp a1 a2 a3 a4 e6 e hu;generalize jc x=X at *
   ac_rfl
  | a::b::r,h=>simp at h
 have c1:km [(Zf<|.tup<|jc x),(Zf<|.tup<|ps.map encC)] = .ok (.lst<|ps.map λ_=>.bl true) [(Zf<|.tup<|jc x),(Zf<|.tup (ps.map encC))]:=by
  unfold km;refine iY ps encC _ rfl rfl rfl (λp h=>?_) (Qqj (show ps.length<=4 by omega) (by decide));have:=cs p h;show ao il (Zv 0 (Zv 2 aj)) [(Zf (.tup (jc x))),(Zf (.tup (ps.map encC))),Zf (encC p)]=_;generalize encC p=P at *;generalize ps.map encC=PS at *;generalize jc x=X at *;clear cs hp hu h
  ac_rfl
 have c2:kj [(Zf (.tup (jc x))),(Zf (.tup (ps.map encC)))] = .ok (.lst (jc (ps.map (·.1)))) [(Zf (.tup (jc x))),(Zf (.tup (ps.map encC)))]:=by
  unfold kj;have h4:=sG (lo:=2) (n:=4) (it:=eG (aN 1)) (g:=dR 2 (aZ (ak 2) (aZ (ak 3) dU))) (c:=bY) (e:=aN 2) (env:=[(Zf (.tup (jc x))),(Zf (.tup (ps.map encC)))]) ps encC (λp=>[Zs [p.1],Zs p.2]) (λ_=>true) (λp=>.str [p.1]) rfl rfl (λp hp=>by
   refine⟨rfl,λvs hv=>?_,rfl,λ_=>rfl⟩
   match vs,hv with
   | [_,_],_=>rfl) (Qqj (show ps.length<=4 by omega) (by decide))
  rw[Qj1.mpr (λ_ _=>rfl)] at h4;rw[h4];unfold jc;rw[Qxj]
  rfl
 have ha:=sZ (λ_:qb.Pr=>true) ps;rw[show ps.all (λ_=>true)=true by simp] at ha;have hr:=rises (.inr rfl) (z:=ps.map (·.1)) (by rw[Qqz];omega);rw[hu] at hr;have hl:cN [.tup (ps.map encC)]=some (.int (ps.length:Nat)):=by rw[wH,Qqz]
 have hn:jT (.int (ps.length:Nat)) (.int 0)=some (.bl false):=by rw[Iu,Qzk.mpr (by omega)]
 have ht:jd "tuple" (.tup (ps.map encC))=some (.bl true):=rfl;have hpo:iI [.tup (jc x),(ps.map encC).headD .non]=some (.bl false):=by
  match ps,h0 with
  | p::r,_=>
   have e1:gk [.tup [.str [p.1],.str p.2]]=some (.bl true):=rfl;have e2:jT (.str [p.1]) (.str [])=some (.bl false):=rfl;show iI [.tup (jc x),.tup [.str [p.1],.str p.2]]=_;unfold iI qL;generalize jc x=X at *;clear c1 c2 ha hr hl hn ht hp cs hu
   ac_rfl
 have hix:bZ (.tup (ps.map encC)) (.int 0)=some ((ps.map encC).headD .non):=by
  match ps,h0 with
  | p::r,_=>rw[vA,Qq4,lQ.Px];rfl
 unfold eN qN;generalize(ps.map encC).headD .non=H at *;generalize ps.map encC=PS at *;generalize jc (ps.map (·.1))=SS at *;generalize ps.map (λ_=>D.bl true)=MM at *;generalize km=L1 at *;generalize kj=L2 at *;generalize jc x=X at *;clear cs hp hu;by_cases h1:ps.length=1
 ·have hn1:jT (.int (ps.length:Nat)) (.int 1)=some (.bl true):=by rw[Iu,h1];rfl
  generalize(ps.length:Int)=N at *;clear h0 h4 h1
  ac_rfl
 ·have hn1:jT (.int (ps.length:Nat)) (.int 1)=some (.bl false):=by rw[Iu,Qzk.mpr (by omega)]
  generalize(ps.length:Int)=N at *;clear h0 h4 h1
  ac_rfl
theorem Zu(hc:c∈x):eN [.tup (jc x),.tup [.tup [.str [],.str [c]]]]=some (.bl true):=by
 have e1:gk [.tup [.str [],.str [c]]]=some (.bl true):=rfl;have e2:=Uy<|List.contains_iff_mem.mpr hc;have e3:iI [.tup (jc x),.tup [.str [],.str [c]]]=some (.bl true):=by
  unfold iI qL;generalize jc x=X at *;have e4:jT (.str []) (.str [])=some (.bl true):=rfl
  ac_rfl
 unfold eN qN;generalize jc x=X at *;have e4:jd "tuple" (.tup [.tup [.str [],.str [c]]])=some (.bl true):=rfl;have e5:jT (.int (0+1)) (.int 0)=some (.bl false):=rfl;have e6:jT (.int (0+1)) (.int 1)=some (.bl true):=rfl
 ac_rfl
theorem M9(hx:x∈XS):∀ks,(∀k∈ks,∃c v,k = .str [c]/\lW (.dct kvs) k=some v/\(c,v)∈PV x)->∃ps:List qb.Pr,prs kvs ks=ps.map encC/\ps.length=ks.length/\(∀p∈ps,p.1∈x/\p.2.length<=1/\(∀c∈p.2,c∈x)/\p.2≠[p.1])/\ks=ps.map λp=>.str [p.1]
 | [],_=>⟨[],rfl,rfl,λp hp=>by simp at hp,rfl⟩
 | k::ks,h=>by
  obtain⟨c,v,rfl,e,hv⟩:=h k<|Qq5 ..;obtain⟨t,et,ht⟩:=qb.aki x hx _ hv;have hne:t≠[c]:=by
   obtain⟨c',hc',h'⟩:=List.mem_flatMap.mp hv;obtain⟨v',hv',h2⟩:=Qwk.mp h';cases h2;obtain⟨z,hz,h3⟩:=Qwk.mp hv';have et':v = .str t:=et;rw[et'] at h3;cases h3
   simpa using (List.mem_filter.mp hz).2
  obtain⟨ps,e1,e2,e3,e4⟩:=M9 hx ks λk hk=>h k<|Qq0 _ hk;refine⟨(c,t)::ps,?_,by rw[Qq3,Qq3,e2],λp hp=>?_,by rw[Qq4,<-e4]⟩
  ·unfold prs at e1 ⊢;rw[Qq4,e1,e];have et':v = .str t:=et;rw[et']
   rfl
  ·rcases Qwq.mp hp with rfl|hp
   ·exact⟨wM hv,ht.1,ht.2,hne⟩
   ·exact e3 p hp
theorem changes(n)(x)(hx:x∈XS):∃ch n',qK [.lst [.int n],.str x]=some (ch,.lst [.int n'])/\Aw x ch/\eN [.tup (jc x),ch]=some (.bl true):=by
 obtain⟨d,hd,e⟩:=dig n 5 (by decide);have hp:=lQ.wL x hx;have hl4:=lQ.o8 x hx;have t:dg (aL jT (fW bz 0<|aa (Zi 5) aj)<|Zi 0) [Zl [.int n],Zs x,Zn,Zn,Zn,Zn] = .ok ((d:Int) == 0) [Zl [.int (n / 5)],Zs x,Zn,Zn,Zn,Zn]:=by
  rw[<-e]
  rfl
 by_cases h0:d=0
 ·subst h0;obtain⟨j,hj,ej⟩:=dig (n / 5) x.length hp;refine⟨.tup [.tup [.str [],.str [x[j]]]],n / 5 / (x.length:Int),mH (env:=[Zl [.int (n / 5 / (x.length:Int))],Zs x,Zn,Zn,Zn,Zn]) ?_ rfl,.put<|Qw9 hj,Zu<|Qw9 hj⟩;unfold qM;refine(oh ?_).trans rfl;refine(mq t).trans ?_;refine cW<|p7 (bw (p7 (bw rfl (bw ?_ cL)) Ev.zz2) cL) Ev.zz1;refine bN (y:=.int<|n / 5 % (x.length:Int)) rfl ?_ rfl ?_
  ·exact iC (e1:=[Zl [.int (n / 5)],Zs x,Zn,Zn,Zn,Zn]) rfl rfl rfl (jL _ x.length hp (by omega))
  ·show(qO x (n / 5 % (x.length:Int))).map _=_;rw[ej,Le hj]
   rfl
 ·have t0:((d:Int) == 0)=false:=by simp_all
  rw[t0] at t;obtain⟨j,hj,ej⟩:=dig (n / 5) 3 (by decide);obtain⟨ds,hds,hl1,hl2⟩:∃ds,vg [.int (1+(j:Int))]=some ds/\0<ds.length/\ds.length<=3:=by
   have hc:j=0\/j=1\/j=2:=by omega
   rcases hc with rfl|rfl|rfl
   ·exact⟨_,rfl,by decide,by decide⟩
   ·exact⟨_,rfl,by decide,by decide⟩
   ·exact⟨_,rfl,by decide,by decide⟩
  obtain⟨e',f1,n',kvs,zs,v3,v4,v5,rfl,hk,hz1,hz2⟩:=kI (g:=ak 3) (b:=aC one (aC others zH)) ds
   (λdone env=>∃n kvs zs v3 v4 v5,env=[Zl [.int n],Zs x,Zt (.dct kvs),v3,v4,v5]/\Av x kvs zs/\zs.length<=done.length/\(0<done.length->0<zs.length))
   (λdone s rest hall env ⟨n,kvs,zs,v3,v4,v5,he,hk,hz1,hz2⟩=>by
    subst he;have hdl:done.length<=4:=by grind
    have hkl:kvs.length=zs.length:=by
     have:=Qx7 List.length hk.keys
     simp_all
    obtain⟨p,n',w4,w5,hpv,hb⟩:=lQ.round n x hx kvs (by omega) (Zf s) v4 v5;obtain⟨zs',hk',z1,z2⟩:=hk.put hpv (wM hpv);exact⟨_,_,rfl,hb,n',_,zs',_,_,_,rfl,hk',by grind,λ_=>z1⟩)
   [Zl [.int (n / 5 / 3)],Zs x,Zt (.dct []),Zn,Zn,Zn] ⟨_,[],[],_,_,_,rfl,⟨rfl,.nil,λc hc=>by simp at hc,λk v h=>by simp at h⟩,Qqw _,λh=>h⟩
  have hz3:zs.length<=4:=Qqj hz1 (Qqj hl2 (by decide));have hok:Aw x (.tup (prs kvs ((jN (zs.map λc=>[c])).map D.str)))/\eN [.tup (jc x),.tup (prs kvs ((jN (zs.map λc=>[c])).map D.str))]=some (.bl true):=by
   obtain⟨ps,e1,e2,e3,e4⟩:=M9 hx _ (wC hk);have hl:ps.length=zs.length:=by rw[e2,Qqz,(ji _).length_eq,Qqz]
   have hu:=hz2 hl1;rw[e1];refine⟨.chg (by omega) (by omega) (λp hp=>⟨(e3 p hp).1,(e3 p hp).2.1,(e3 p hp).2.2.1⟩),aby (by omega) (by omega) e3 ?_⟩;have e6:(ps.map (·.1)).map (λc=>[c])=jN (zs.map λc=>[c]):=by
    have:∀a b:List (List Nat),a.map D.str=b.map D.str->a=b:=λa b h=>by
     have:=Qx7 (List.map λd=>match d with|D.str z=>z|_=>[]) h
     simpa[Function.comp_def] using this
    exact this _ _ (by rw[e4,Qxj,Qxj];rfl)
   refine Gu (by rw[e6];exact rD _) ?_;have h7:(jN (zs.map λc=>[c])).Nodup:=(ji _).nodup_iff.mpr (List.pairwise_map.mpr (hk.nd.imp λh e=>h (by simpa using e)));rw[<-e6] at h7;exact(List.pairwise_map.mp h7).imp λh e=>h (by rw[e])
  refine⟨_,n',mH (env:=[Zl [.int n'],Zs x,Zt (.dct kvs),v3,v4,v5]) ?_ rfl,hok⟩;unfold qM;refine(aR ((m8 t).trans rfl)).trans ?_;refine(aR (e:=[Zl [.int (n / 5)],Zs x,Zt (.dct []),Zn,Zn,Zn]) rfl).trans ?_;refine(aR (e:=[Zl [.int n'],Zs x,Zt (.dct kvs),v3,v4,v5]) ?_).trans ?_
  ·refine(my ?_).trans f1;have a1:aa (aL cj (Zi 1) (fW bz 0 (aa (Zi 3) aj))) aj [Zl [.int (n / 5)],Zs x,Zt (.dct []),Zn,Zn,Zn] = .ok [.int (1+n / 5 % 3)] [Zl [.int (n / 5 / 3)],Zs x,Zt (.dct []),Zn,Zn,Zn]:=rfl;unfold eF;rw[a1];show fc (vg [.int (1+n / 5 % ((3:Nat):Int))]) _=_;rw[ej,hds]
   rfl
  ·exact uX (uY hk hz3) _ _ _ _ _
theorem rule(n)(x)(hx:x∈XS):∃w ch l r n',nH [.lst [.int n],.str x]=some (.tup [w,ch,l,r],.lst [.int n'])/\jK x w ch l r/\eN [.tup (jc x),ch]=some (.bl true):=by
 obtain⟨d,hd,e⟩:=dig n 2 (by decide);obtain⟨w,hw,h1⟩:∃w,(w = .str [111,110,99,101]\/w = .str [97,108,111,110,103])/\bZ (.lst [.str [111,110,99,101],.str [97,108,111,110,103]]) (.int (d:Int))=some w:=by
  have hc:d=0\/d=1:=by omega
  rcases hc with rfl|rfl
  ·exact⟨_,.inl rfl,rfl⟩
  ·exact⟨_,.inr rfl,rfl⟩
 obtain⟨ch,n1,h2,h3,h4⟩:=changes (n / 2) x hx;obtain⟨l,n2,h5,h6⟩:=lQ.signs n1 x hx;obtain⟨r,n3,h7,h8⟩:=lQ.signs n2 x hx;refine⟨w,ch,l,r,n3,mH (env:=[Zl [.int n3],Zs x,Zf w,Zf ch]) ?_ rfl,⟨hw,h3,h6,h8⟩,h4⟩;unfold Ew;refine(aR (e:=[Zl [.int (n / 2)],Zs x,Zf w,Zn]) ?_).trans ?_
 ·refine cC (e:=[Zl [.int (n / 2)],Zs x,Zn,Zn]) ?_ rfl;refine cA rfl rfl ?_
  simp_all
 refine(aR (e:=[Zl [.int n1],Zs x,Zf w,Zf ch]) ?_).trans ?_
 ·exact cC (iC (e1:=[Zl [.int (n / 2)],Zs x,Zf w,Zn]) rfl rfl rfl h2) rfl
 ·refine cW<|p7 (bw (d:=w) rfl (bw rfl (bw (d:=l) (e1:=[Zl [.int n2],Zs x,Zf w,Zf ch]) ?_<|bw (d:=r) ?_ cL))) Ev.zz4
  ·exact iC (e1:=[Zl [.int n1],Zs x,Zf w,Zf ch]) rfl rfl rfl h5
  ·exact iC (e1:=[Zl [.int n2],Zs x,Zf w,Zf ch]) rfl rfl rfl h7
theorem BW:∀x∈XL,∀l∈SG x,oF [.tup (jc x),l]=some (.bl true):=by
 have h:(XL.all λx=>(SG x).all λl=>isT<|oF [.tup (jc x),l])=true:=by decide +kernel
 exact λx hx l hl=>zg<|Qw0.mp (Qw0.mp h x hx) l hl
structure Vm(x:List Nat)(R:D):Prop where
 ok:gY x R
 isr:∀T,d9 [T]=some (.tup (jc x))->nM [T,R]=some (.bl true)
theorem is_rule(hx:x∈XL)(hT:d9 [T]=some (.tup (jc x)))(h:jK x w ch l r)(hc:eN [.tup (jc x),ch]=some (.bl true)):nM [T,.tup [w,ch,l,r]]=some (.bl true):=by
 have h1:=BW x hx l h.left;have h2:=BW x hx r h.right;have h3:Ec w (.tup [(.str [111,110,99,101]),(.str [97,108,111,110,103])])=some (.bl true):=by rcases h.way with rfl|rfl<;>rfl
 have ht:jd "tuple" (.tup [w,ch,l,r])=some (.bl true):=rfl;unfold nM Je;generalize jc x=X at *;clear h
 ac_rfl
theorem order(n)(x)(hx:x∈XL)(m:Nat)(hm:m<=4):∃s Rs n',qm [.lst [.int n],.str x,.int m]=some (.tup [s,.tup Rs],.lst [.int n'])/\s∈sides/\(∀R∈Rs,Vm x R)/\Rs.length<=m:=by
 obtain⟨d,hd,e⟩:=dig n 2 (by decide);obtain⟨s,hs,h1⟩:∃s,s∈sides/\bZ (.lst [.str [108,101,102,116],.str [114,105,103,104,116]]) (.int (d:Int))=some s:=by
  have hc:d=0\/d=1:=by omega
  rcases hc with rfl|rfl
  ·exact⟨_,Qq5 ..,rfl⟩
  ·exact⟨_,Qq0 _<|Qq5 ..,rfl⟩
 obtain⟨j,hj,ej⟩:=dig (n / 2) (m+1) (by omega);obtain⟨Rs,env',g1,⟨n',v4,rfl⟩,g3,g4⟩:=Qi.RM (g:=ak 4) (e:=fW nH 0<|Zv 1 aj) (λenv=>∃n v4,env=[Zl [.int n],Zs x,(Zf<|.int (m:Int)),Zf s,v4]) (Vm x) (iR 0 1 j)
  [Zl [.int (n / 2 / ((m+1:Nat):Int))],Zs x,(Zf<|.int (m:Int)),Zf s,Zn] ⟨_,_,rfl⟩
  (λt _ env ⟨n,v4,he⟩=>by
   subst he;obtain⟨wy,ch,l,r,n',h2,h3,h4⟩:=rule n x<|vD x hx;refine⟨.tup [wy,ch,l,r],_,[Zl [.int n'],Zs x,(Zf<|.int (m:Int)),Zf s,Zf t],rfl,?_,⟨_,_,rfl⟩,⟨_,_,_,_,rfl,h3⟩,λT hT=>is_rule hx hT h3 h4⟩;exact iC (e1:=[Zl [.int n],Zs x,(Zf<|.int (m:Int)),Zf s,Zf t]) (by rfl) (by rfl) (by rfl) h2)
 have hl:Rs.length=j:=by rw[jU] at g4;exact g4
 refine⟨s,Rs,n',mH (env:=[Zl [.int n'],Zs x,(Zf (.int (m:Int))),Zf s]) ?_ rfl,hs,g3,by omega⟩;unfold z8;refine(aR (e:=[Zl [.int (n / 2)],Zs x,(Zf (.int (m:Int))),Zf s]) ?_).trans ?_
 ·refine cC (d:=s) (e:=[Zl [.int (n / 2)],Zs x,(Zf (.int (m:Int))),Zn]) ?_ (by rfl);refine cA (by rfl) (by rfl) ?_
  grind
 refine cW (p7 (bw (d:=s) (by rfl) (bw ?_ cL)) Ev.zz2);refine bC (ds:=[.lst Rs]) (bw ?_ cL) rfl;refine xW (n:=5) (aJ:=[Zl [.int (n / 2 / ((m+1:Nat):Int))],Zs x,(Zf (.int (m:Int))),Zf s]) ?_ (by rfl) g1 (by rw[hl];exact Qqj (show j<=4 by omega) (by decide));refine Qi.uL (ds:=[.int (n / 2 % ((m+1:Nat):Int))]) ?_ ?_
 ·have ht:=jL (n / 2) (m+1) (by omega) (by omega);rw[<-Tr] at ht;have ha:cj (.int (m:Int)) (.int 1)=some (.int ((m+1:Nat):Int)):=rfl;generalize((m+1:Nat):Int)=M at *;clear g1 g3 h1 ej e
  ac_rfl
 ·rw[ej];exact Qi.wj (by omega)
open lQ (Rows)
open qb (XS sides)
open jb (perms cP qU du rows xq pick xA)
theorem is_order(hT:d9 [T]=some (.tup (jc x)))(hs:s∈sides)(h4:Rs.length<=4)(hR:∀R∈Rs,Vm x R):nO [T,.tup [s,.tup Rs]]=some (.bl true):=by
 have c:nZ [Zf T,Zf<|.tup [s,.tup Rs],Zf s,Zf<|.tup Rs] = .ok (.lst<|Rs.map λ_=>.bl true) [Zf T,Zf<|.tup [s,.tup Rs],Zf s,Zf<|.tup Rs]:=by
  unfold nZ;refine iY Rs id _ (by rw[List.map_id];rfl) rfl rfl (λR h=>?_) (Qqj h4 (by decide));have:=(hR R h).isr T hT;show ao nM (Zv 0<|Zv 4 aj) [Zf T,Zf<|.tup [s,.tup Rs],Zf s,Zf<|.tup Rs,Zf R]=_;clear hR hT hs
  ac_rfl
 have ha:=sZ (λ_:D=>true) Rs;rw[show Rs.all (λ_=>true)=true by simp] at ha;have e1:rW s (.tup [(.str [108,101,102,116]),(.str [114,105,103,104,116])])=some (.bl false):=by
  rcases Qwq.mp hs with rfl|hs
  ·rfl
  ·cases Qq9.mp hs
   rfl
 have e2:jd "tuple" (.tup Rs)=some (.bl true):=rfl;have e3:decide ((4:Int)<(Rs.length:Int))=false:=Qw2 (by omega);have e4:gk [.tup [s,.tup Rs]]=some (.bl true):=rfl;unfold nO Ey;generalize Rs.map (λ_=>D.bl true)=MM at *;generalize nZ=LC at *;clear hR hT hs
 ac_rfl
def ext(n:Nat)(r:List Nat):List D:=((List.range n).filter λi=>!decide (i∈r)).map λi=>bA (r++[i])
theorem aeC(hn:n<=5)(r):(ext n r).length<=5:=by unfold ext;rw[Qqz];refine Qqj (List.length_filter_le _ _) ?_;rw[List.length_range];exact hn
theorem yU(n k):rows (perms n (k+1))=(perms n k).flatMap (ext n):=by
 show((perms n k).flatMap λr=>((List.range n).filter λi=>!decide (i∈r)).map λi=>r++[i]).map bA=_;rw[List.map_flatMap]
 congr 1
 funext r
 rw[Qxj]
 rfl
theorem ahs(O)(n:Nat)(hn:n<=5)(a2 a3:OD):∀(l:List (List Nat)) acc (a5:OD),(∀r∈l,r.length<=100)->acc.length+5*l.length<=20000->∃b5,
  mV (ak 5) jr (l.map bA) [Zf O,(Zf (.int n)),a2,a3,Zl acc,a5] = .nx [Zf O,(Zf (.int n)),a2,a3,(Zl (acc++l.flatMap (ext n))),b5]:=by
 intro l
 induction l with
 | nil=>intro acc a5 _ _;exact⟨a5,by rw[List.flatMap_nil,Qx5];rfl⟩
 | cons r l ih=>
  intro acc a5 hr hz;rw[Qq3] at hz;have hx:=aeC hn r;have c:∀v,lL [Zf O,(Zf<|.int (n:Int)),a2,a3,v,Zf<|bA r] = .ok (.lst<|ext n r) [Zf O,(Zf<|.int (n:Int)),a2,a3,v,Zf<|bA r]:=λv=>by
   unfold lL ext;have hrg:=wj (n:=n) (by omega);refine Bh (List.range n) (λi=>.int (i:Int)) (λi=>!decide (i∈r)) (λi=>bA<|r++[i]) ?_ rfl rfl (λi hi=>?_) (λi hi _=>?_) (by rw[List.length_range];exact Qqj hn (by decide))
   ·generalize bA r=RR;clear ih hx hr hz
    ac_rfl
   ·have:=uE i r;have er:bA r = .tup (r.map λ(k:Nat)=>D.int (k:Int)):=rfl;rw[er];clear ih hx hr hz er hrg
    ac_rfl
   ·have:=xq r i<|hr r (by simp);generalize bA (r++[i])=R2 at *;generalize bA r=R1 at *;clear ih hx hr hz hrg
    ac_rfl
  obtain⟨b5,ih⟩:=ih (acc++ext n r) (Zf (bA r)) (λq hq=>hr q (by simp[hq])) (by rw[Qq1];omega);refine⟨b5,?_⟩;have hb:jr [Zf O,(Zf (.int (n:Int))),a2,a3,Zl acc,Zf (bA r)] = .nx [Zf O,(Zf (.int (n:Int))),a2,a3,Zl (acc++ext n r),Zf (bA r)]:=by
   unfold jr;have c:=c (Zl acc);clear ih hr;generalize ext n r=EE at *;generalize bA r=RR at *;have hz2:acc.length+EE.length<=20000:=by omega
   clear hz hx
   ac_rfl
  have e1:ak 5 (bA r) [Zf O,(Zf (.int (n:Int))),a2,a3,Zl acc,a5]=some [Zf O,(Zf (.int (n:Int))),a2,a3,Zl acc,Zf (bA r)]:=rfl;rw[Qq4,rZ,e1,vS,Dm,hb,kNx,ih,List.flatMap_cons,List.append_assoc]
theorem orderings(s)(Rs)(hn:Rs.length<=5):fj [.tup [s,.tup Rs]]=some (.lst (rows (perms Rs.length Rs.length))):=by
 have hi:bZ (.tup [s,.tup Rs]) (.int 1)=some (.tup Rs):=rfl;generalize D.tup [s,.tup Rs]=O at *;generalize hN:Rs.length=n at *;have go:∀m k a3 a4 a5,∃b3 b4 b5,mV (ak 3) gV ((List.range' k m).map λ(i:Nat)=>D.int (i:Int)) [Zf O,(Zf<|.int (n:Int)),(Zf<|.lst<|rows<|perms n k),a3,a4,a5] = .nx [Zf O,(Zf<|.int (n:Int)),(Zf<|.lst<|rows<|perms n<|k+m),b3,b4,b5]:=by
  intro m
  induction m with
  | zero=>intro k a3 a4 a5;exact⟨a3,a4,a5,rfl⟩
  | succ m ih=>
   intro k a3 a4 a5;have hz:=du n k hn;obtain⟨b5,hi⟩:=ahs O n hn (Zf<|.lst<|rows<|perms n k) (Zf<|.int (k:Int)) (perms n k) [] a5 (λr hr=>by rw[((cP _ _ _).mp hr).1];have:=qU hr;omega) (by show 0+_<=_;omega);rw[List.nil_append,<-yU] at hi;obtain⟨b3,b4,b5',ih⟩:=ih (k+1) (Zf<|.int (k:Int)) (Zf<|.lst<|rows<|perms n<|k+1) b5;refine⟨b3,b4,b5',?_⟩;rw[List.range'_succ,Qq4,rZ];have hb:gV [Zf O,(Zf (.int (n:Int))),(Zf (.lst (rows (perms n k)))),(Zf (.int (k:Int))),a4,a5] = .nx [Zf O,(Zf (.int (n:Int))),(Zf (.lst (rows (perms n (k+1))))),(Zf (.int (k:Int))),(Zf (.lst (rows (perms n (k+1))))),b5]:=by
    unfold gV;have e2:rows (perms n k)=(perms n k).map bA:=rfl;rw[<-e2] at hi;generalize rows (perms n (k+1))=R2 at *;generalize rows (perms n k)=R1 at *;clear ih e2
    ac_rfl
   show sY (gV [Zf O,(Zf (.int (n:Int))),(Zf (.lst (rows (perms n k)))),(Zf (.int (k:Int))),a4,a5]) _=_;rw[hb,kNx,ih,show k+1+m=k+(m+1) by omega]
 obtain⟨b3,b4,b5,h⟩:=go n 0 none none none;rw[Nat.zero_add,<-List.range_eq_range'] at h;have hr:=wj (n:=n) (by omega);have e0:rows (perms n 0)=[.tup []]:=rfl;rw[e0] at h;have hl:cN [.tup Rs]=some (.int (n:Int)):=by rw[wH,hN]
 unfold fj tD;generalize rows (perms n n)=RR at *;clear go
 ac_rfl
theorem aav(Rs)(k)(hn:Rs.length<=5)(v:OD)(o):rR [Zf (.tup Rs),(some (o,.lst (rows (perms Rs.length k)))),v] = .ok (.lst (rows (perms Rs.length (k+1)))) [Zf (.tup Rs),(Zf (.lst (rows (perms Rs.length k)))),v]:=by
 unfold rR;rw[yU];have hz:((perms Rs.length k).flatMap<|ext Rs.length).length<=sizeLine:=by rw[<-yU,Qqz];exact Qqj (du _ (k+1) hn) (by decide)
 unfold ext at hz ⊢;refine UW 1 1 (perms Rs.length k) bA (λr=>[Zf (bA r)]) (λ_=>List.range Rs.length) (λ_ (i:Nat)=>.int (i:Int)) (λ_ (i:Nat)=>[(Zf<|.int (i:Int))]) (λr i=>!decide (i∈r)) (λr i=>bA<|r++[i]) ?_ rfl rfl (λr hr=>⟨rfl,λu v hu hv=>?_,λv hv=>?_,λi hi=>⟨rfl,λv hv=>?_,?_,λ_=>?_⟩⟩) hz
 ·cases o<;>rfl
 ·match u,hu with
  | [_],_=>rfl
 ·match v,hv with
  | [_],_=>
   have:=wj (n:=Rs.length) (by omega);clear hz hr;generalize bA r=R1 at *;generalize rows (perms Rs.length k)=R2 at *
   ac_rfl
 ·match v,hv with
  | [_],_=>rfl
 ·have:=uE i r;have er:bA r = .tup (r.map λ(k:Nat)=>D.int (k:Int)):=rfl;rw[er];clear hz hr er;generalize rows (perms Rs.length k)=R2 at *
  ac_rfl
 ·have hl:=((cP Rs.length k r).mp hr).1;have hk:=qU hr;have:=xq r i (by omega);generalize bA r=R at *;generalize bA (r++[i])=R2 at *;generalize rows (perms Rs.length k)=R3 at *;clear hr hl hk hz
  ac_rfl
theorem adQ(Rs)(r)(h:∀i∈r,i<Rs.length)(hr:r.length<=100)(v1 v2:OD):pq [Zf (.tup Rs),v1,v2,Zf (bA r)] = .ok (.lst (pick Rs r)) [Zf (.tup Rs),v1,v2,Zf (bA r)]:=by
 unfold pq pick;refine iY r (λi=>.int i) _ (by rfl) rfl rfl (λi hi=>?_) (Qqj hr (by decide));have:=xA<|h i hi;generalize Rs.getD i .non=Z at *;generalize bA r=Q;clear hi h;rw[vA] at this
 ac_rfl
theorem layings(Rs)(hn:Rs.length<=5):uW [.tup Rs]=some (.lst ((perms Rs.length Rs.length).map λr=>.tup (pick Rs r))):=by
 have go:∀m k o v,∃o' v',mV (ak 2) mR ((List.range' k m).map λ(i:Nat)=>D.int (i:Int)) [Zf (.tup Rs),(some (o,.lst<|rows<|perms Rs.length k)),v] = .nx [Zf (.tup Rs),(some (o',.lst<|rows<|perms Rs.length<|k+m)),v']:=by
  intro m
  induction m with
  | zero=>intro k o v;exact⟨o,v,rfl⟩
  | succ m ih=>
   intro k o v;have h:=aav Rs k hn (Zf<|.int (k:Int)) o;obtain⟨o',v',ih⟩:=ih (k+1) true<|Zf<|.int (k:Int);refine⟨o',v',?_⟩;rw[List.range'_succ,Qq4,rZ];have hb:mR [Zf (.tup Rs),(some (o,.lst<|rows<|perms Rs.length k)),(Zf<|.int (k:Int))] = .nx [Zf (.tup Rs),(Zl<|rows<|perms Rs.length<|k+1),(Zf<|.int (k:Int))]:=by
    unfold mR;rw[JD,h,bO]
    rfl
   show sY (mR [Zf (.tup Rs),(some (o,.lst<|rows<|perms Rs.length k)),(Zf<|.int (k:Int))]) _=_;rw[hb,kNx,ih,show k+1+m=k+(m+1) by omega]
 obtain⟨o',v',h⟩:=go Rs.length 0 false none;rw[Nat.zero_add,<-List.range_eq_range'] at h;have hr:=wj (n:=Rs.length) (by omega);have e0:rows (perms Rs.length 0)=[.tup []]:=rfl;rw[e0] at h;have hc:ph [Zf (.tup Rs),(some (o',.lst (rows (perms Rs.length Rs.length)))),v'] = .ok (.lst ((perms Rs.length Rs.length).map λr=>.tup (pick Rs r))) [Zf (.tup Rs),(Zf (.lst (rows (perms Rs.length Rs.length)))),v']:=by
  unfold ph;refine iY (aJ:=[Zf (.tup Rs),(Zf (.lst (rows (perms Rs.length Rs.length)))),v']) (perms Rs.length Rs.length) bA _ (by cases o'<;>rfl) rfl rfl (λr hr=>?_) (Qqj (du _ _ hn) (by decide));obtain⟨h1,_,h2⟩:=(cP _ _ _).mp hr;have:=adQ Rs r h2 (by omega) (Zf (.lst (rows (perms Rs.length Rs.length)))) v';generalize rows (perms Rs.length Rs.length)=RR at *;generalize pick Rs r=PR at *;generalize bA r=ER at *;generalize pq=LC at *;clear h h1 h2 go hr
  ac_rfl
 unfold uW Jc;generalize rows (perms Rs.length Rs.length)=RR at *;generalize(perms Rs.length Rs.length).map (λr=>D.tup (pick Rs r))=RE at *;generalize ph=L3 at *;clear go;cases o'<;>ac_rfl
open jb (perms cP qU du rows xq pick xA encP bk)
theorem Ku:mW=jb.mW:=rfl
theorem zP:gW=jb.gW:=rfl
theorem zQ:jy=jb.jy:=rfl
structure Jl(x:List Nat)(B:List jb.Pr):Prop where
 few:B.length<=6
 uQ:∀p∈B,(∀c∈p.1,c∈x)/\p.1.length<=7/\(∀c∈p.2,c∈x)/\p.2.length<=100
theorem Jl.bk(h:Jl x B):jb.Bk x B:=⟨Qqj h.few (by decide),λp hp=>⟨(h.uQ p hp).1,(h.uQ p hp).2.1,(h.uQ p hp).2.2.2⟩⟩
theorem Jl.sub(h:Jl x B)(hs:∀p∈A,p∈B)(hl:A.length<=6):Jl x A:=⟨hl,λp hp=>h.uQ p<|hs p hp⟩
noncomputable def num(m:Nat):D->Option Nat
 | .int k=>if 0<=k/\k<(m:Int) then some k.toNat else none
 | _=>none
theorem WT(m:Nat)(h:Ko d=true):gm [.int m,d]=some (.bl (num m d).isSome):=by
 cases d with
 | int k=>
  have hw:su [.int k]=some (.bl true):=rfl;unfold gm qw;by_cases h0:0<=k
  ·have g0:W9 (.int 0) (.int k)=some (.bl true):=by rw[abf,Qw8 h0]
   by_cases h1:k<m
   ·have g1:Qf (.int k) (.int m)=some (.bl true):=by rw[Ip,Qw8 h1]
    rw[show num m (.int k)=some k.toNat from if_pos ⟨h0,h1⟩];generalize(m:Int)=M at *;clear h0 h1
    ac_rfl
   ·have g1:Qf (.int k) (.int m)=some (.bl false):=by rw[Ip,Qw2 h1]
    rw[show num m (.int k)=none from if_neg λh=>h1 h.2];generalize(m:Int)=M at *;clear h0 h1
    ac_rfl
  ·have g0:W9 (.int 0) (.int k)=some (.bl false):=by rw[abf,Qw2 h0]
   rw[show num m (.int k)=none from if_neg λh=>h0 h.1];generalize(m:Int)=M at *;clear h0
   ac_rfl
 | clo=>cases h
 | _=>rfl
noncomputable def yo(n:Nat):D->Bool
 | .tup ds=>decide (ds.length=n)
 | _=>false
theorem is_row(n:Nat)(h:Ko d=true):uJ [.int n,d]=some (.bl (yo n d)):=by
 cases d with
 | tup ds=>
  have h1:jP (.tup ds) "tuple" = true:=rfl;have h2:jT (.int ds.length) (.int n)=some (.bl<|decide (ds.length=n)):=by
   rw[Iu]
   congr 2
   rw[Qz5,beq_iff_eq,decide_eq_true_iff];omega
  rw[show yo n (.tup ds)=decide (ds.length=n) from rfl];unfold uJ Pk;generalize decide (ds.length=n)=b at *;generalize(n:Int)=N at *
  ac_rfl
 | clo=>cases h
 | _=>rfl
section
variable{x:List Nat}{s:D}{Rs:List D}(h:jb.Ok x s Rs){B:List jb.Pr}(hB:Jl x B)
def pd(s:D)(Rs:List D)(B:List jb.Pr)(p:List Nat×D):Bool:=match num B.length p.2 with
 | some k=>fin s (pick Rs p.1) (B.getD k ([],[])).1 != (B.getD k ([],[])).2
 | none=>false
theorem aaf(h:num m d=some k):d = .int k/\k<m:=by
 cases d with
 | int i=>
  unfold num at h;simp only at h;split at h
  ·rename_i h1;cases h;refine⟨?_,by omega⟩;rw[Int.toNat_of_nonneg h1.1]
  ·cases h
 | _=>cases h
theorem abF(hk:k<B.length):bZ (bk B) (.int k)=some (encP (B.getD k ([],[]))):=by
 unfold bk;rw[vA,atN,Qq8,Qqy hk,Qw1,Qqy hk]
 rfl
theorem zip_map{α:Type}(f)(l:List α)(ds):tL (l.map f) ds=(l.zip ds).map λp=>.tup [f p.1,p.2]:=by
 unfold tL;rw[List.zip_map_left,Qxj]
 rfl
end
def sh(s:D)(Rs:List D)(B:List jb.Pr):D->Bool
 | .tup ds=>decide (ds.length=(perms Rs.length Rs.length).length)&&((perms Rs.length Rs.length).zip ds).all (pd s Rs B)
 | _=>false
def pl:D->Bool
 | .tup ds=>ds.all Ko
 | .clo _ _=>false
 | _=>true
theorem adm(h:pl d=true):Ko d=true:=by cases d<;>first|rfl|cases h
section
variable{x:List Nat}{s:D}{Rs:List D}(h:jb.Ok x s Rs){B:List jb.Pr}(hB:Jl x B)
theorem acj(hd:ds.all Ko=true):∀p∈(perms n n).zip ds,p.1.length=n/\(∀i∈p.1,i<n)/\Ko p.2=true:=by intro p hp;obtain⟨h1,_,h2⟩:=(cP _ _ _).mp (Qj6 hp).1;exact⟨h1,h2,Qw0.mp hd _ (Qj6 hp).2⟩
theorem JL(ds):sh s Rs B (.tup ds)=(decide (ds.length=(perms Rs.length Rs.length).length)&&((perms Rs.length Rs.length).zip ds).all (pd s Rs B)):=rfl
include h hB
theorem shown(T)(hp:pl paper=true):dZ [T,.tup [.tup [s,.tup Rs],bk B],paper]=some (.bl (sh s Rs B paper)):=by
 have h4:=h.h4;have hb:=hB.few;have ho:=layings Rs (by omega);generalize hRR:((perms Rs.length Rs.length).map λr=>D.tup<|pick Rs r)=RR at *;have hlr:RR.length=(perms Rs.length Rs.length).length:=by rw[<-hRR,Qqz]
 have hrow:=is_row RR.length<|adm hp;have hls:=du Rs.length Rs.length (by omega);have hlo:cN [.lst RR]=some (.int (RR.length:Int)):=rfl;have hlb:cN [bk B]=some (.int (B.length:Int)):=by unfold bk;rw[wH,Qqz]
 by_cases hl:yo RR.length paper=true
 ·cases paper with
  | tup ds=>
   have hl':ds.length=RR.length:=Qx9 hl;have hdn:ds.all Ko=true:=hp;have hs:sh s Rs B (.tup ds)=((perms Rs.length Rs.length).zip ds).all (pd s Rs B):=by rw[JL,Qw8<|hl'.trans hlr,Bool.true_and]
   have c1:gU [Zf T,Zf<|.tup [.tup [s,.tup Rs],bk B],Zf<|.tup ds,Zf<|.tup [s,.tup Rs],Zf<|bk B,Zf s,Zf<|.tup Rs,Zf<|.lst RR] = .ok (.lst<|ds.map λd=>.bl (num B.length d).isSome) [Zf T,Zf<|.tup [.tup [s,.tup Rs],bk B],Zf<|.tup ds,Zf<|.tup [s,.tup Rs],Zf<|bk B,Zf s,Zf<|.tup Rs,Zf (.lst RR)]:=by
    unfold gU;refine iY ds (λd=>d) _ (by rw[List.map_id'];rfl) rfl rfl (λd hd=>?_) (Qqj (show ds.length<=3125 by omega) (by decide));have:=WT B.length (Qw0.mp hdn d hd);show ao gm (aa (ao cN (aa (bj 4) aj)) (Zv 8 aj)) [Zf T,Zf (.tup [.tup [s,.tup Rs],bk B]),Zf (.tup ds),Zf (.tup [s,.tup Rs]),Zf (bk B),Zf s,Zf (.tup Rs),Zf (.lst RR),Zf d]=_;generalize(num B.length d).isSome=NN at *;generalize(B.length:Int)=BL at *;generalize bk B=BB at *;clear h hB hp hl hrow ho hs hlo hls hdn hlr hl' hRR
    ac_rfl
   have a1:=sZ (λd=>(num B.length d).isSome) ds;by_cases ha:(ds.all λd=>(num B.length d).isSome)=true
   ·have c2:jk [Zf T,Zf (.tup [.tup [s,.tup Rs],bk B]),Zf (.tup ds),Zf (.tup [s,.tup Rs]),Zf (bk B),Zf s,Zf (.tup Rs),Zf (.lst RR)] = .ok (.lst (((perms Rs.length Rs.length).zip ds).map λp=>.bl (pd s Rs B p))) [Zf T,Zf (.tup [.tup [s,.tup Rs],bk B]),Zf (.tup ds),Zf (.tup [s,.tup Rs]),Zf (bk B),Zf s,Zf (.tup Rs),Zf (.lst RR)]:=by
     unfold jk;have hzl:((perms Rs.length Rs.length).zip ds).length<=sizeLine:=Qqj (show _<=3125 by rw[Qz9];omega) (by decide);have q:=sG (lo:=8) (n:=10) (it:=Ss (Zv 7 (Zv 2 aj))) (g:=dR 2 (aZ (ak 8) (aZ (ak 9) dU))) (c:=bY) (e:=aL tQ (ao mW (aa (cY (Zv 5 (Zv 8 aj))) (aa (aL bZ (az bZ 4 (bj 9)) (Zi 0)) aj))) (aL bZ (az bZ 4 (bj 9)) (Zi 1))) (env:=[Zf T,Zf (.tup [.tup [s,.tup Rs],bk B]),Zf (.tup ds),Zf (.tup [s,.tup Rs]),Zf (bk B),Zf s,Zf (.tup Rs),Zf (.lst RR)]) (aJ:=[Zf T,Zf (.tup [.tup [s,.tup Rs],bk B]),Zf (.tup ds),Zf (.tup [s,.tup Rs]),Zf (bk B),Zf s,Zf (.tup Rs),Zf (.lst RR)])
      ((perms Rs.length Rs.length).zip ds) (λp=>.tup [.tup (pick Rs p.1),p.2]) (λp=>[(Zf (.tup (pick Rs p.1))),Zf p.2]) (λ_=>true) (λp=>.bl (pd s Rs B p)) (by rw[<-zip_map (λr=>D.tup (pick Rs r)),hRR];rfl) rfl (λp hq=>by
      refine⟨rfl,λvs hv=>?_,rfl,λ_=>?_⟩
      ·match vs,hv with
       | [_,_],_=>rfl
      obtain⟨q1,q2,q3⟩:=acj hdn p hq;have hns:=Qw0.mp ha p.2 (Qj6 hq).2;obtain⟨r,d⟩:=p;obtain⟨k,hk⟩:=Qxq.mp hns;obtain⟨rfl,hkb⟩:=aaf hk;have hkk:B.getD k ([],[])∈B:=by rw[Qq8,Qqy hkb];exact Qw9 hkb
      obtain⟨w1,w2,_,_⟩:=hB.uQ _ hkk;have hm:=jb.made (h.pick q2 (show r.length<=5 by simp only at q1;omega)) w1 w2;rw[<-Ku] at hm;have hx:=abF hkb;have i0:bZ (encP (B.getD k ([],[]))) (.int 0)=some (.str (B.getD k ([],[])).1):=rfl;have i1:bZ (encP (B.getD k ([],[]))) (.int 1)=some (.str (B.getD k ([],[])).2):=rfl;have hpd:pd s Rs B (r,.int (k:Int))=(fin s (pick Rs r) (B.getD k ([],[])).1 != (B.getD k ([],[])).2):=by unfold pd;rw[hk]
      rw[hpd,bne];show aL tQ (ao mW (aa (cY (Zv 5 (Zv 8 aj))) (aa (aL bZ (az bZ 4 (bj 9)) (Zi 0)) aj))) (aL bZ (az bZ 4 (bj 9)) (Zi 1)) [Zf T,Zf (.tup [.tup [s,.tup Rs],bk B]),Zf (.tup ds),Zf (.tup [s,.tup Rs]),Zf (bk B),Zf s,Zf (.tup Rs),Zf (.lst RR),(Zf (.tup (pick Rs r))),(Zf (.int (k:Int)))]=_;generalize B.getD k ([],[])=P at *;have he:=abe (fin s (pick Rs r) P.1) P.2;generalize fin s (pick Rs r) P.1=FF at *;generalize pick Rs r=PP at *;generalize encP P=PE at *;generalize(k:Int)=K at *;generalize bk B=BB at *;generalize(!(FF == P.2))=nn at *;clear h hB hp hl hrow ho hs hlo hls hdn hlr hl' hRR c1 a1 ha hzl hpd hk hns hkk w1 w2 q1 q2 q3 hq
      ac_rfl) hzl
     rw[Qj1.mpr (λ_ _=>rfl)] at q;exact q
    have a2:=sZ (pd s Rs B) ((perms Rs.length Rs.length).zip ds);rw[ha] at a1;rw[hs];have hl2:yo RR.length (.tup ds)=true:=hl;rw[hl2] at hrow;unfold dZ lJ;generalize((perms Rs.length Rs.length).zip ds).all (pd s Rs B)=bb at *;generalize(((perms Rs.length Rs.length).zip ds).map λp=>D.bl (pd s Rs B p))=Z2 at *;generalize(ds.map λd=>D.bl (num B.length d).isSome)=Z1 at *;generalize gU=L1 at *;generalize jk=L2 at *;generalize(RR.length:Int)=RL at *;generalize(B.length:Int)=BL at *;generalize bk B=BB at *;clear h hB hp hl hs hls hdn hlr hl' hRR hl2 ha
    ac_rfl
   ·have ha':(ds.all λd=>(num B.length d).isSome)=false:=by simpa using ha
    have hs2:((perms Rs.length Rs.length).zip ds).all (pd s Rs B)=false:=by
     obtain⟨d,hd,hd2⟩:=List.all_eq_false.mp ha';obtain⟨i,hi,rfl⟩:=List.getElem_of_mem hd;refine List.all_eq_false.mpr ⟨((perms Rs.length Rs.length)[i]'(by omega),ds[i]),?_,?_⟩
     ·have:((perms Rs.length Rs.length).zip ds)[i]'(by rw[Qz9];omega)=((perms Rs.length Rs.length)[i]'(by omega),ds[i]):=List.getElem_zip;rw[<-this];exact Qw9 _
     ·unfold pd;cases e:num B.length ds[i] with
      | none=>simp
      | some k=>rw[e] at hd2;simp at hd2
    rw[hs,hs2];rw[ha'] at a1;have hl2:yo RR.length (.tup ds)=true:=hl;rw[hl2] at hrow;unfold dZ lJ;generalize(ds.map λd=>D.bl (num B.length d).isSome)=Z1 at *;generalize gU=L1 at *;generalize(RR.length:Int)=RL at *;generalize(B.length:Int)=BL at *;generalize bk B=BB at *;clear h hB hp hl hs hls hdn hlr hl' hRR hl2 ha ha' hs2
    ac_rfl
  | _=>cases hl
 ·have hl':yo RR.length paper=false:=by simpa using hl
  have hs:sh s Rs B paper=false:=by
   cases paper with
   | tup ds=>
    have:=of_decide_eq_false hl';rw[JL,Qw2 (by omega),Bool.false_and]
   | _=>rfl
  rw[hs];rw[hl'] at hrow;unfold dZ lJ;generalize(RR.length:Int)=RL at *;generalize bk B=BB at *;clear h hB hp hl hs hls hlr hl' hRR
  ac_rfl
end
open jb (perms pick encP bk)
section
variable{x:List Nat}{T:D}(hT:d9 [T]=some (.tup (jc x)))
include hT
theorem is_word(hw:∀c∈w,c∈x)(hl:w.length<=1000):kJ [T,.str w]=some (.bl true):=by
 have c:pA [Zf T,Zs w,(Zf<|.tup<|jc x)] = .ok (.lst<|w.map λ_=>.bl true) [Zf T,Zs w,(Zf<|.tup<|jc x)]:=by
  unfold pA;refine iY w (λc=>.str [c]) _ rfl rfl rfl (λc hc=>?_) (Qqj hl (by decide));have:=Uy<|List.contains_iff_mem.mpr<|hw c hc;show az Ec 3 (bj 2) [Zf T,Zs w,(Zf<|.tup<|jc x),Zs [c]]=_;generalize jc x=X at *;clear hw
  ac_rfl
 have ha:=sZ (λ_:Nat=>true) w;rw[show w.all (λ_=>true)=true by simp] at ha;have ht:jP (.str w) "str" = true:=rfl;have ht':jd "str" (.str w)=some (.bl true):=rfl;unfold kJ Jd;generalize jc x=X at *;generalize w.map (λ_=>D.bl true)=MM at *;generalize pA=LC at *;clear hw
 ac_rfl
theorem Wi(h1:∀c∈p.1,c∈x)(l1:p.1.length<=1000)(h2:∀c∈p.2,c∈x)(l2:p.2.length<=1000):iW [T,encP p]=some (.bl true):=by
 have w1:=is_word hT h1 l1;have w2:=is_word hT h2 l2;have hp:gk [.tup [.str p.1,.str p.2]]=some (.bl true):=rfl;unfold iW uP encP;clear h1 h2 hT
 ac_rfl
theorem ae5(ds)(h1:1<=ds.length)(h2:ds.length<=6)(p)(h:∀d∈ds,iW [T,d]=some (.bl (p d))):nQ [T,.tup ds]=some (.bl (ds.all p)):=by
 have c:pB [Zf T,Zf<|.tup ds] = .ok (.lst<|ds.map λd=>.bl<|p d) [Zf T,Zf<|.tup ds]:=by
  unfold pB;refine iY ds id _ (by rw[List.map_id];rfl) rfl rfl (λd hd=>?_) (Qqj h2 (by decide));have:=h d hd;show ao iW (Zv 0<|Zv 2 aj) [Zf T,Zf<|.tup ds,Zf d]=_;clear hT h h1 h2
  ac_rfl
 have ha:=sZ p ds;have ht:jP (.tup ds) "tuple" = true:=rfl;have ht':jd "tuple" (.tup ds)=some (.bl true):=rfl;have l1:decide ((1:Int)<=(ds.length:Int))=true:=Qw8 (by omega);have l2:decide ((ds.length:Int)<=6)=true:=Qw8 (by omega);unfold nQ Jf;generalize ds.all p=b at *;generalize ds.map (λd=>D.bl<|p d)=MM at *;generalize pB=LC at *;clear hT h
 ac_rfl
theorem Xr(hB:Jl x B)(h0:0<B.length):nQ [T,bk B]=some (.bl true):=by
 have:=ae5 hT (B.map encP) (by rw[Qqz];exact h0) (by rw[Qqz];exact hB.few) (λ_=>true) (λd hd=>by
  obtain⟨p,hp,rfl⟩:=Qwk.mp hd;obtain⟨h1,l1,h2,l2⟩:=hB.uQ p hp;exact Wi hT h1 (by omega) h2 (by omega))
 rw[show(B.map encP).all (λ_=>true)=true by simp] at this;exact this
end
section
variable{x:List Nat}{T s:D}{Rs:List D}(hs:s∈sides)(ho:nO [T,.tup [s,.tup Rs]]=some (.bl true))
include hs ho
theorem parts(hb:nQ [T,b]=some (.bl v)):qp [T,.tup [.str [111,114,100,101,114],.str [98,111,111,107]],.tup [.tup [s,.tup Rs],b]]=some (.bl v):=by
 have p1:kW [T,.str [111,114,100,101,114],.tup [s,.tup Rs]]=some (.bl true):=by
  unfold kW zF;have:jT (.str [111,114,100,101,114]) (.str [111,114,100,101,114])=some (.bl true):=rfl;clear hs hb
  ac_rfl
 have p2:kW [T,.str [98,111,111,107],b]=some (.bl v):=by
  unfold kW zF;have e1:jT (.str [98,111,111,107]) (.str [111,114,100,101,114])=some (.bl false):=rfl;have e2:jT (.str [98,111,111,107]) (.str [114,117,108,101])=some (.bl false):=rfl;have e3:jT (.str [98,111,111,107]) (.str [119,111,114,100])=some (.bl false):=rfl;have e4:jT (.str [98,111,111,107]) (.str [109,97,99,104,105,110,101])=some (.bl false):=rfl;have e5:jT (.str [98,111,111,107]) (.str [98,111,111,107])=some (.bl true):=rfl;clear hs ho p1
  ac_rfl
 generalize hO:D.tup [s,.tup Rs]=O at *;generalize hK:D.tup [.str [111,114,100,101,114],.str [98,111,111,107]]=KD;have c1:mQ [Zf T,Zf KD,Zf<|.tup [O,b]] = .ok (.lst [.bl true,.bl v]) [Zf T,Zf KD,Zf<|.tup [O,b]]:=by
  unfold mQ;have q:=sG (n:=5) (it:=Ov<|Zv 1<|Zv 2 aj) (g:=dR 2<|aZ (ak 3)<|aZ (ak 4) dU) (env:=[Zf T,Zf KD,Zf<|.tup [O,b]]) (aJ:=[Zf T,Zf KD,Zf<|.tup [O,b]])
   [(([111,114,100,101,114]:List Nat),O,true),([98,111,111,107],b,v)] (λp=>.tup [.str p.1,p.2.1]) (λp=>[Zs p.1,Zf p.2.1]) (λ_=>true) (λp=>.bl p.2.2) (by rw[<-hK];rfl) rfl (λp hp=>by
   refine⟨rfl,λvs hv=>?_,rfl,λ_=>?_⟩
   ·match vs,hv with
    | [_,_],_=>rfl
   ·show ao kW (Zv 0<|Zv 3<|Zv 4 aj) [Zf T,Zf KD,Zf<|.tup [O,b],Zs p.1,Zf p.2.1]=_;have hp':kW [T,.str p.1,p.2.1]=some (.bl p.2.2):=by
     rcases Qwq.mp hp with rfl|hp
     ·exact p1
     ·cases Qq9.mp hp;exact p2
    clear p1 p2 hp hs ho hb hK hO
    ac_rfl) (show 2<=sizeLine by decide)
  exact q
 have c2:mO [Zf T,Zf KD,Zf<|.tup [O,b]] = .ok (.lst [s]) [Zf T,Zf KD,Zf<|.tup [O,b]]:=by
  unfold mO;have q:=sG (n:=5) (it:=Ov<|Zv 1<|Zv 2 aj) (g:=dR 2<|aZ (ak 3)<|aZ (ak 4) dU) (c:=dg<|az jT 3<|Zw [111,114,100,101,114]) (e:=az bZ 4<|Zi 0) (env:=[Zf T,Zf KD,Zf<|.tup [O,b]]) (aJ:=[Zf T,Zf KD,Zf<|.tup [O,b]])
   [(([111,114,100,101,114]:List Nat),O,true),([98,111,111,107],b,false)] (λp=>.tup [.str p.1,p.2.1]) (λp=>[Zs p.1,Zf p.2.1]) (λp=>p.2.2) (λ_=>s) (by rw[<-hK];rfl) rfl (λp hp=>by
   rcases Qwq.mp hp with rfl|hp
   ·refine⟨rfl,λvs hv=>?_,rfl,λ_=>?_⟩
    ·match vs,hv with
     | [_,_],_=>rfl
    ·rw[<-hO]
     rfl
   ·cases Qq9.mp hp;refine⟨rfl,λvs hv=>?_,rfl,λh=>by cases h⟩
    match vs,hv with
    | [_,_],_=>rfl) (show 2<=sizeLine by decide)
  exact q
 have hg:Eb (.lst [s])=some (.int 1):=by
  rcases Qwq.mp hs with rfl|hs
  ·rfl
  ·cases Qq9.mp hs
   rfl
 have l1:cN [KD]=some (.int 2):=by rw[<-hK];rfl
 have ha:o4 [.lst [.bl true,.bl v]]=some (.bl v):=by cases v<;>rfl
 unfold qp z9;generalize mQ=L1 at *;generalize mO=L2 at *;have l2:cN [.tup [O,b]]=some (.int 2):=rfl;have hn:tQ (.int 2) (.int 2)=some (.bl false):=rfl;generalize D.tup [O,b]=OB at *;clear p1 p2 hs ho hb hO hK;cases v<;>ac_rfl
theorem holds(hk:nJ [T]=some (.bl true))(hb:nQ [T,b]=some (.bl v))(hq:v=true->dZ [T,.tup [.tup [s,.tup Rs],b],paper]=some (.bl q)):sE [.tup [.str [113,117,97,114,114,101,108],T,.tup [s,.tup Rs],b],paper]=some (.bl (v&&q)):=by
 have hp:=parts hs ho hb;generalize D.tup [s,.tup Rs]=O at *;have g1:uD qQ (.str [113,117,97,114,114,101,108])=some (.bl false):=rfl;have g2:zq wX (.str [113,117,97,114,114,101,108])=some (W8 "quarrel_shown"):=rfl;have g3:zq qQ (.str [113,117,97,114,114,101,108])=some (.tup [.str [111,114,100,101,114],.str [98,111,111,107]]):=rfl;have t1:jP (.tup [.str [113,117,97,114,114,101,108],T,O,b]) "tuple" = true:=rfl;have t1':jd "tuple" (.tup [.str [113,117,97,114,114,101,108],T,O,b])=some (.bl true):=rfl;have t2:jP (.str [113,117,97,114,114,101,108]) "str" = true:=rfl;have t2':jd "str" (.str [113,117,97,114,114,101,108])=some (.bl true):=rfl;have s1:Ea (.tup [.str [113,117,97,114,114,101,108],T,O,b]) (some 2) none=some (.tup [O,b]):=rfl;have i0:bZ (.tup [.str [113,117,97,114,114,101,108],T,O,b]) (.int 0)=some (.str [113,117,97,114,114,101,108]):=rfl;have i1:bZ (.tup [.str [113,117,97,114,114,101,108],T,O,b]) (.int 1)=some T:=rfl;have ln:cN [.tup [.str [113,117,97,114,114,101,108],T,O,b]]=some (.int 4):=rfl;have lt:Qf (.int 4) (.int 2)=some (.bl false):=rfl;have gf:∀e0 e1 e2 e3 e4 a,Ox "quarrel_shown" dZ 5 a [e0,e1,e2,e3,e4,Zf<|W8 "quarrel_shown"]=bindR (a [e0,e1,e2,e3,e4,Zf<|W8 "quarrel_shown"]) λds aJ=>fc (dZ ds) aJ:=λe0 e1 e2 e3 e4 a=>by
  unfold Ox W8;exact if_pos rfl
 unfold sE Vf;generalize D.tup [.str [113,117,97,114,114,101,108],T,O,b]=CL at *;generalize D.tup [.str [111,114,100,101,114],.str [98,111,111,107]]=KD at *;generalize D.tup [O,b]=OB at *;generalize W8 "quarrel_shown" = QS at *;generalize qQ=TP at *;generalize wX=TS at *;generalize [113,117,97,114,114,101,108]=QW at *;clear hs ho hb;cases v
 ·clear hq
  ac_rfl
 ·have hq:=hq rfl
  ac_rfl
end
open jb (perms cP pick encP bk tells tell Gd oU)
open K48 (TL sub qX Yv rT xx Uq)
noncomputable def lft:List jb.Pr->List jb.Pr->List jb.Pr
 | [],P=>P
 | _::_,[]=>[]
 | b::B,p::P=>if b=p then lft B P else lft B (p::P)
theorem Bd:∀{B P},P.Sublist B->lft B P=[]
 | [],P,h=>by cases h;rfl
 | b::B,[],_=>rfl
 | b::B,p::P,h=>by
  unfold lft;split
  ·rename_i e;cases h with
   | cons _ h=>exact Bd<|(List.sublist_cons_self p P).trans h
   | cons_cons _ h=>exact Bd h
  ·rename_i e;cases h with
   | cons _ h=>exact Bd h
   | cons_cons _ h=>exact absurd rfl e
section
variable(s:D)(Rs:List D)(B:List jb.Pr)
def prs:List jb.Pr:=sub B (oU (TL s Rs B) B.length)
variable{s Rs B}(h:(perms Rs.length Rs.length).filter (tells s Rs B)=[])
include h
theorem J6:(prs s Rs B).Sublist B:=by
 obtain⟨_,h2,_⟩:=xx (TL s Rs B) B.length<|(qX s Rs B).mp h;have e:(List.range B.length).map (λi=>B.getD i ([],[]))=B:=by refine List.ext_getElem (by simp) λi a b=>?_;simp[Qq8,b]
 have:=h2.map<|λi=>B.getD i ([],[]);rw[e] at this;exact this
theorem ZJ:(perms Rs.length Rs.length).filter (tells s Rs (prs s Rs B))=[]:=by
 obtain⟨h1,h2,_⟩:=xx (TL s Rs B) B.length<|(qX s Rs B).mp h;unfold prs;generalize oU (TL s Rs B) B.length=q at *;have hq:∀i∈q,i<B.length:=λi hi=>Qw7.mp<|h2.subset hi;refine(qX s Rs<|sub B q).mpr ?_;rw[show(sub B q).length=q.length by unfold sub;rw[Qqz],Yv s Rs B q hq,Uq λi hi=>Qw7.mp hi];have:((List.range q.length).map λj=>q.getD j 0)=q:=by refine List.ext_getElem (by simp) λi a b=>?_;simp[Qq8,b]
 rw[this];exact h1
theorem J7(hr:r∈perms Rs.length Rs.length):tells s Rs (prs s Rs B) r=false:=by
 have:=List.filter_eq_nil_iff.mp (ZJ h) r hr
 simpa using this
theorem T5:0<(prs s Rs B).length:=by
 have:=J7 h<|jb.yW Rs.length;cases e:prs s Rs B with
 | nil=>rw[e] at this;cases this
 | cons p l=>simp
theorem ZK(hk:k<(prs s Rs B).length):∃r∈perms Rs.length Rs.length,tells s Rs ((prs s Rs B).take k++(prs s Rs B).drop (k+1)) r=true:=by
 obtain⟨_,h2,h3⟩:=xx (TL s Rs B) B.length<|(qX s Rs B).mp h;unfold prs at hk ⊢;generalize oU (TL s Rs B) B.length=q at *;have hl:(sub B q).length=q.length:=by unfold sub;rw[Qqz]
 rw[hl] at hk;have hn:=h2.nodup List.nodup_range;have h4:=h3 q[k]<|Qw9 hk;have h5:¬ ∀t∈TL s Rs B,∃i∈q.filter λj=>!decide (j=q[k]),t.getD i false=false:=λe=>by
  rw[rT.mpr e] at h4;cases h4
 simp only[Classical.not_forall,not_exists,not_and] at h5;obtain⟨t,ht,h6⟩:=h5;obtain⟨r,hr,rfl⟩:=Qwk.mp ht;refine⟨r,hr,Qw0.mpr λp hp=>?_⟩;have hx:∃j,∃hj:j<q.length,j≠k/\p=B.getD q[j] ([],[]):=by
  rcases Qw5.mp hp with hp|hp
  ·obtain⟨j,hj,rfl⟩:=List.mem_iff_getElem.mp hp;rw[Qw4,hl] at hj;refine⟨j,by omega,by omega,?_⟩;rw[List.getElem_take];unfold sub;rw[List.getElem_map]
  ·obtain⟨j,hj,rfl⟩:=List.mem_iff_getElem.mp hp;rw[Qx4,hl] at hj;refine⟨k+1+j,by omega,by omega,?_⟩;rw[List.getElem_drop];unfold sub;rw[List.getElem_map]
 obtain⟨j,hj,hjk,rfl⟩:=hx;have hne:=λe=>hjk<|K48.ah2 hn hj hk e;have h7:=h6 q[j]<|List.mem_filter.mpr ⟨Qw9 hj,by simpa using hne⟩;have hlt:=Qw7.mp<|h2.subset<|Qw9 hj;unfold tell at h7;rw[Qq8,Qw1,Qqy hlt] at h7;rw[Qq8,Qqy hlt]
 simpa using h7
end
open jb (perms cP du rows pick encP bk tells tell fD Gd oU eZ)
open K48 (TL sub)
theorem adS:sr=jb.sr:=rfl
theorem adB:dC=jb.dC:=rfl
theorem Zy:gJ=jb.gJ:=rfl
theorem Tq:nC=jb.nC:=rfl
section
variable{x:List Nat}{s:D}{Rs:List D}(h:jb.Ok x s Rs)
include h
theorem G7(hB:Jl x B)(r)(hr:r.length<=5)(hi:∀i∈r,i<Rs.length):j0 [.tup [s,.tup Rs],bA r,bk B]=some (.bl (tells s Rs B r)):=by
 have hl:=jb.NB s Rs r hi (by omega);rw[<-zQ] at hl;have c:mL [Zf (.tup [s,.tup Rs]),Zf<|bA r,Zf<|bk B,(Zf<|.tup [s,.tup<|pick Rs r])] = .ok (.lst<|B.map λp=>.bl<|fin s (pick Rs r) p.1 == p.2) [Zf (.tup [s,.tup Rs]),Zf<|bA r,Zf<|bk B,(Zf<|.tup [s,.tup<|pick Rs r])]:=by
  unfold mL;have:=sG (n:=6) (it:=eG<|aN 2) (g:=dR 2<|aZ (ak 4)<|aZ (ak 5) dU) (c:=bY) (e:=aL jT (ao gW<|Zv 3<|Zv 4 aj)<|bj 5) (env:=[Zf (.tup [s,.tup Rs]),Zf<|bA r,Zf<|bk B,(Zf<|.tup [s,.tup<|pick Rs r])]) (aJ:=[Zf (.tup [s,.tup Rs]),Zf<|bA r,Zf<|bk B,(Zf<|.tup [s,.tup<|pick Rs r])]) B encP (λp=>[Zs p.1,Zs p.2]) (λ_=>true) (λp=>.bl<|fin s (pick Rs r) p.1 == p.2) rfl rfl (λp hp=>by
   refine⟨rfl,λvs hv=>?_,rfl,λ_=>?_⟩
   ·match vs,hv with
    | [_,_],_=>rfl
   ·obtain⟨w1,w2,_,_⟩:=hB.uQ p hp;have hm:=jb.Nz (h.pick hi hr) w1 w2;rw[<-zP] at hm;show aL jT (ao gW<|Zv 3<|Zv 4 aj) (bj 5) [Zf (.tup [s,.tup Rs]),Zf<|bA r,Zf<|bk B,(Zf<|.tup [s,.tup<|pick Rs r]),Zs p.1,Zs p.2]=_;generalize bk B=BB at *;generalize bA r=ER at *;generalize pick Rs r=PP at *;clear h hB hp hl hi w1 w2
    ac_rfl) (Qqj hB.few (by decide))
  rw[Qj1.mpr (λ_ _=>rfl)] at this;exact this
 have ha:=sZ (λp:jb.Pr=>fin s (pick Rs r) p.1 == p.2) B;unfold j0 z6;rw[show tells s Rs B r=B.all (λp=>fin s (pick Rs r) p.1 == p.2) from rfl];generalize(B.all λp=>fin s (pick Rs r) p.1 == p.2)=b at *;generalize(B.map λp=>D.bl<|fin s (pick Rs r) p.1 == p.2)=L at *;generalize D.tup [s,.tup<|pick Rs r]=PO at *;generalize bk B=BB at *;generalize bA r=ER at *;generalize mL=LC at *;clear h hB hi
 ac_rfl
theorem vJ(hB:Jl x B):eE [.tup [s,.tup Rs],bk B]=some (.bl ((perms Rs.length Rs.length).any (tells s Rs B))):=by
 have h4:=h.h4;have ho:=orderings s Rs (by omega);have c:iM [Zf (.tup [s,.tup Rs]),Zf<|bk B] = .ok (.lst<|(perms Rs.length Rs.length).map λr=>.bl<|tells s Rs B r) [Zf (.tup [s,.tup Rs]),Zf<|bk B]:=by
  unfold iM;refine iY (perms Rs.length Rs.length) bA _ ?_ rfl rfl (λr hr=>?_) (Qqj (du _ _ (by omega)) (by decide))
  ·show eG (ao fj<|Zv 0 aj) _ = .ok (rows<|perms Rs.length Rs.length) _;generalize rows (perms Rs.length Rs.length)=RR at *;generalize D.tup [s,.tup Rs]=OO at *;generalize bk B=BB at *;clear h hB h4
   ac_rfl
  ·obtain⟨h1,_,h2⟩:=(cP _ _ _).mp hr;have:=G7 h hB r (by omega) h2;show ao j0 (Zv 0<|Zv 2<|Zv 1 aj) [Zf (.tup [s,.tup Rs]),Zf<|bk B,Zf<|bA r]=_;generalize D.tup [s,.tup Rs]=OO at *;generalize bk B=BB at *;generalize bA r=ER at *;clear h hB h4 ho hr h1 h2
   ac_rfl
 have ha:=af6 (tells s Rs B)<|perms Rs.length Rs.length;unfold eE rm;generalize(perms Rs.length Rs.length).any (tells s Rs B)=b at *;generalize((perms Rs.length Rs.length).map λr=>D.bl<|tells s Rs B r)=L at *;generalize D.tup [s,.tup Rs]=OO at *;generalize bk B=BB at *;generalize iM=LC at *;clear h hB h4
 ac_rfl
def uH(s:D)(Rs:List D)(P:List jb.Pr)(r:List Nat):Nat:=(pU false (tell s (pick Rs r) P)).getD 0
def nums(s:D)(Rs:List D)(P:List jb.Pr):List D:=(perms Rs.length Rs.length).map λr=>.int (uH s Rs P r:Int)
omit h in
theorem Vc(t):mZ (t.map D.bl)=some t:=by
 induction t with
 | nil=>rfl
 | cons b t ih=>
  rw[Qq4];unfold mZ;rw[ih]
  rfl
omit h in
theorem wk:∀{t},b∈t->∃j,pU b t=some j/\t[j]? = some b
 | c::t,hb=>by
  unfold pU;by_cases e:c=b
  ·subst e;exact⟨0,by simp,rfl⟩
  ·obtain⟨j,h1,h2⟩:=wk (by
    rcases Qwq.mp hb with rfl|hb
    ·exact absurd rfl e
    ·exact hb)
   refine⟨j+1,?_,by simpa using h2⟩;rw[h1];simp[e]
theorem KR{B:List jb.Pr}(ht:tells s Rs B r=false):pU false (tell s (pick Rs r) B)=some (uH s Rs B r)/\(tell s (pick Rs r) B)[uH s Rs B r]? = some false:=by
 have hm:false∈tell s (pick Rs r) B:=by
  rw[K48.vI,List.all_eq_false] at ht;obtain⟨b,hb,e⟩:=ht;cases b
  ·exact hb
  ·simp at e
 obtain⟨j,h1,h2⟩:=wk hm;have e:uH s Rs B r=j:=by unfold uH;rw[h1];rfl
 rw[e];exact⟨h1,h2⟩
theorem Rt(hB:Jl x B)(T)(ht:(perms Rs.length Rs.length).any (tells s Rs B)=true):gA [T,.tup [s,.tup Rs],bk B]=some .non:=by
 have hf:∃a l,(perms Rs.length Rs.length).filter (tells s Rs B)=a::l:=by
  cases e:(perms Rs.length Rs.length).filter (tells s Rs B) with
  | nil=>rw[jb.any_filter,e] at ht;cases ht
  | cons a l=>exact⟨a,l,rfl⟩
 obtain⟨a,l,hf⟩:=hf;have h1:=jb.Yu h hB.bk;rw[<-Tq,K48.Vu s Rs B hf] at h1;have e1:bZ (.tup [.str [116,111,108,100],.tup<|rows (a::l)]) (.int 0)=some (.str [116,111,108,100]):=rfl;have e2:tQ (.str [116,111,108,100]) (.str [113,117,97,114,114,101,108])=some (.bl true):=rfl;unfold gA o6;generalize D.tup [.str [116,111,108,100],.tup<|rows (a::l)]=X at *;generalize D.tup [s,.tup Rs]=OO at *;generalize bk B=BB at *;clear h hB hf ht
 ac_rfl
theorem Rr(hB:Jl x B)(T)(hf:(perms Rs.length Rs.length).filter (tells s Rs B)=[]):gA [T,.tup [s,.tup Rs],bk B]=some (.tup [.tup [.str [113,117,97,114,114,101,108],T,.tup [s,.tup Rs],bk (prs s Rs B)],.tup (nums s Rs (prs s Rs B))]):=by
 have h4:=h.h4;have h6:=hB.few;have h1:=jb.Yu h hB.bk;rw[<-Tq,K48.Vv s Rs B hf] at h1;have hno:=λr hr=>J7 hf (r:=r) hr;have hsub:=J6 hf;have hP:Jl x (prs s Rs B):=hB.sub (λp hp=>hsub.subset hp)<|Qqj hsub.length_le h6;obtain⟨_,h2,_⟩:=K48.xx (TL s Rs B) B.length<|(K48.qX s Rs B).mp hf;have ep:prs s Rs B=sub B (oU (TL s Rs B) B.length):=rfl;have hq:∀i∈oU (TL s Rs B) B.length,i<B.length:=λi hi=>Qw7.mp<|h2.subset hi;have hql:(oU (TL s Rs B) B.length).length<=6:=by have:=h2.length_le;rw[List.length_range] at this;omega
 have e1:bZ (.tup [.str [113,117,97,114,114,101,108],.tup<|eZ<|oU (TL s Rs B) B.length]) (.int 0)=some (.str [113,117,97,114,114,101,108]):=rfl;have e1':bZ (.tup [.str [113,117,97,114,114,101,108],.tup<|eZ<|oU (TL s Rs B) B.length]) (.int 1)=some (.tup<|eZ<|oU (TL s Rs B) B.length):=rfl;have e2:tQ (.str [113,117,97,114,114,101,108]) (.str [113,117,97,114,114,101,108])=some (.bl false):=rfl;generalize hX:D.tup [.str [113,117,97,114,114,101,108],.tup<|eZ<|oU (TL s Rs B) B.length]=X at *;have c1:jn [Zf T,Zf<|.tup [s,.tup Rs],Zf<|bk B,Zf X,Zn,Zn] = .ok (.lst<|(prs s Rs B).map encP) [Zf T,Zf<|.tup [s,.tup Rs],Zf<|bk B,Zf X,Zn,Zn]:=by
  unfold jn;rw[ep,sub,Qxj];refine iY (oU (TL s Rs B) B.length) (λi=>.int (i:Int)) _ ?_ rfl rfl (λi hi=>?_) (Qqj hql (by decide))
  ·show eG (az bZ 3<|Zi 1) _ = .ok (eZ<|oU (TL s Rs B) B.length) _;generalize eZ (oU (TL s Rs B) B.length)=ND at *;generalize bk B=BB at *;clear h hB hf h1 hno hsub hP ep hq hql h2 hX
   ac_rfl
  ·have:=abF<|hq i hi;show az bZ 2 (bj 6) [Zf T,Zf<|.tup [s,.tup Rs],Zf<|bk B,Zf X,Zn,Zn,(Zf<|.int (i:Int))]=_;show _=R.ok (encP<|B.getD i ([],[])) _;generalize encP (B.getD i ([],[]))=PE at *;generalize bk B=BB at *;clear h hB hf h1 hno hsub hP ep hq hql h2 hX hi e1 e1' e2
   ac_rfl
 have ebk:bk (prs s Rs B) = .tup ((prs s Rs B).map encP):=rfl;have c2:jm [Zf T,Zf<|.tup [s,.tup Rs],Zf<|bk B,Zf X,(Zf<|bk<|prs s Rs B),Zn] = .ok (.lst<|(perms Rs.length Rs.length).map λr=>fD<|tell s (pick Rs r)<|prs s Rs B) [Zf T,Zf<|.tup [s,.tup Rs],Zf<|bk B,Zf X,(Zf<|bk<|prs s Rs B),Zn]:=by
  unfold jm;refine iY (perms Rs.length Rs.length) bA _ ?_ rfl rfl (λr hr=>?_) (Qqj (du _ _ (by omega)) (by decide))
  ·have ha:=jb.all_orderings Rs.length (by omega);rw[<-adB] at ha;show eG (ao dC<|aa (ao cN (aa (az bZ 1 (Zi 1)) aj)) aj) _ = .ok (rows (perms Rs.length Rs.length)) _;have hi:bZ (.tup [s,.tup Rs]) (.int 1)=some (.tup Rs):=rfl;have hl:cN [.tup Rs]=some (.int (Rs.length:Int)):=rfl;generalize rows (perms Rs.length Rs.length)=RR at *;generalize(Rs.length:Int)=RL at *;generalize D.tup Rs=TR at *;generalize D.tup [s,TR]=OO at *;generalize bk B=BB at *;generalize bk (prs s Rs B)=PB at *;clear h hB hf h1 hno hsub hP ep hq hql h2 hX e1 e1' e2 c1 ebk
   ac_rfl
  ·obtain⟨r1,_,r2⟩:=(cP _ _ _).mp hr;have hl:=jb.laid s Rs r r2 (by omega);rw[<-adS] at hl;have hp:=jb.pairs_told (h.pick r2 (by omega)) hP.bk;rw[<-Zy] at hp;show ao gJ (aa (ao sr (Zv 1 (Zv 6 aj))) (Zv 4 aj)) [Zf T,Zf (.tup [s,.tup Rs]),Zf (bk B),Zf X,(Zf (bk (prs s Rs B))),Zn,Zf (bA r)]=_;generalize fD (tell s (pick Rs r) (prs s Rs B))=ET at *;generalize D.tup [s,.tup (pick Rs r)]=PO at *;generalize D.tup [s,.tup Rs]=OO at *;generalize bk B=BB at *;generalize bk (prs s Rs B)=PB at *;generalize bA r=ER at *;clear h hB hf h1 hno hsub hP ep hq hql h2 hX e1 e1' e2 c1 ebk hr r1 r2
   ac_rfl
 generalize hTT:((perms Rs.length Rs.length).map λr=>fD (tell s (pick Rs r) (prs s Rs B)))=TT at *;have c3:∀v,jl [Zf T,Zf (.tup [s,.tup Rs]),Zf (bk B),Zf X,v,Zl TT] = .ok (.lst (nums s Rs (prs s Rs B))) [Zf T,Zf (.tup [s,.tup Rs]),Zf (bk B),Zf X,v,Zf (.lst TT)]:=λv=>by
  unfold jl nums;refine iY (perms Rs.length Rs.length) (λr=>fD (tell s (pick Rs r) (prs s Rs B))) _ (by rw[hTT];rfl) rfl rfl (λr hr=>?_) (Qqj (du _ _ (by omega)) (by decide));have hg:pY (fD (tell s (pick Rs r) (prs s Rs B))) (.bl false)=some (.int (uH s Rs (prs s Rs B) r:Nat)):=by
   show(mZ _).bind _=_;rw[Vc];show(pU false _).map _=_;rw[(KR h (hno r hr)).1]
   rfl
  show aL pY (aN 6) (mX (.bl false)) [Zf T,Zf (.tup [s,.tup Rs]),Zf (bk B),Zf X,v,Zf (.lst TT),(Zf (fD (tell s (pick Rs r) (prs s Rs B))))]=_;generalize fD (tell s (pick Rs r) (prs s Rs B))=ET at *;generalize(uH s Rs (prs s Rs B) r:Int)=FN at *;generalize bk B=BB at *;clear h hB hf h1 hno hsub hP ep hq hql h2 hX e1 e1' e2 c1 c2 ebk hr
  ac_rfl
 unfold gA o6;rw[ebk];rw[ebk] at c2;generalize(prs s Rs B).map encP=PL at *;generalize nums s Rs (prs s Rs B)=NN at *;generalize jn=L1 at *;generalize jm=L2 at *;generalize jl=L3 at *;have c3':=c3 (Zf (.tup PL));generalize bk B=BB at *;generalize D.tup [s,.tup Rs]=OO at *;clear h hB hf hno hsub hP ep hq hql h2 hX hTT c3 ebk
 ac_rfl
end
open jb (perms cP du rows pick encP bk tells tell fD)
theorem aeU(a b):jT (encP a) (encP b)=some (.bl (decide (a=b))):=by
 obtain⟨a1,a2⟩:=a;obtain⟨b1,b2⟩:=b;have e:jT (encP (a1,a2)) (encP (b1,b2))=some (D.bl<|(a1 == b1)&&((a2 == b2)&&true)):=rfl;rw[e]
 congr 2
 rw[Qz5];simp
theorem anr:∀{P},0<P.length->jT (bk P) (.tup [])=some (.bl false)
 | p::r,_=>rfl
theorem SM{α:Type}(xs:List α)(k:Nat):cutD xs none (some k)=xs.take k:=by
 unfold cutD;rw[HT.M3,HT.Tz,List.drop_zero,Nat.sub_zero];rcases Nat.le_total k xs.length with h|h
 ·rw[Nat.min_eq_left h]
 ·rw[Nat.min_eq_right h,List.take_of_length_le<|Qqw _,List.take_of_length_le h]
theorem O6{α:Type}(xs:List α)(k:Nat):cutD xs (some k) none=xs.drop k:=by
 unfold cutD;rw[HT.M3,HT.Tz];rcases Nat.le_total k xs.length with h|h
 ·rw[Nat.min_eq_left h,List.take_of_length_le (by rw[Qx4];exact Qqw _)]
 ·rw[Nat.min_eq_right h,List.drop_of_length_le<|Qqw _,List.drop_of_length_le h,List.take_nil]
theorem ak5(xs)(k:Nat):Ea (.tup xs) none (some k)=some (.tup (xs.take k)):=by rw[<-SM];rfl
theorem acN(xs)(k:Nat):Ea (.tup xs) (some k) none=some (.tup (xs.drop k)):=by rw[<-O6];rfl
section
variable{x:List Nat}{s:D}{Rs:List D}(h:jb.Ok x s Rs){B P:List jb.Pr}
theorem greedy(O BB):∀A (a:Nat) (v:OD),∃a' v',mV (ak 4) cJ (A.map encP) [Zf O,Zf BB,Zf (bk P),(Zf (.int a)),v] = .nx [Zf O,Zf BB,Zf (bk P),(Zf (.int (a':Nat))),v']/\P.drop a'=lft A (P.drop a):=by
 intro A
 induction A with
 | nil=>intro a v;exact⟨a,v,rfl,rfl⟩
 | cons b A ih=>
  intro a v;have hl:cN [bk P]=some (.int (P.length:Int)):=by unfold bk;rw[wH,Qqz]
  have e1:ak 4 (encP b) [Zf O,Zf BB,Zf<|bk P,(Zf<|.int (a:Int)),v]=some [Zf O,Zf BB,Zf<|bk P,(Zf<|.int (a:Int)),Zf<|encP b]:=rfl;rw[Qq4];by_cases ha:a<P.length
  ·have g1:Qf (.int (a:Int)) (.int (P.length:Int))=some (.bl true):=by rw[Ip,Qw8 (by omega)]
   have hx:=abF ha;have he:=aeU b<|P.getD a ([],[]);have hd:P.drop a=P.getD a ([],[])::P.drop (a+1):=by
    rw[Qx0 ha,Qq8,Qqy ha]
    rfl
   by_cases hb:b=P.getD a ([],[])
   ·obtain⟨a',v',f,g⟩:=ih (a+1)<|Zf<|encP b;refine⟨a',v',?_,?_⟩
    ·have hbd:cJ [Zf O,Zf BB,Zf<|bk P,(Zf<|.int (a:Int)),Zf<|encP b] = .nx [Zf O,Zf BB,Zf<|bk P,(Zf<|.int ((a+1:Nat):Int)),Zf<|encP b]:=by
      rw[Qw8 hb] at he;have ga:cj (.int (a:Int)) (.int 1)=some (.int ((a+1:Nat):Int)):=rfl;unfold cJ;generalize((a+1:Nat):Int)=A1 at *;generalize(a:Int)=A0 at *;generalize encP (P.getD a ([],[]))=PE at *;generalize encP b=EB at *;generalize bk P=PB at *;generalize(P.length:Int)=PL at *;clear ih hd hb f g ha
      ac_rfl
     rw[rZ,e1,vS,Dm,hbd,kNx,f]
    ·rw[g,hd];show _=(if b=P.getD a ([],[]) then lft A (P.drop<|a+1) else _);rw[if_pos hb]
   ·obtain⟨a',v',f,g⟩:=ih a<|Zf<|encP b;refine⟨a',v',?_,?_⟩
    ·have hbd:cJ [Zf O,Zf BB,Zf<|bk P,(Zf<|.int (a:Int)),Zf<|encP b] = .nx [Zf O,Zf BB,Zf<|bk P,(Zf<|.int (a:Int)),Zf<|encP b]:=by
      rw[Qw2 hb] at he;unfold cJ;generalize(a:Int)=A0 at *;generalize encP (P.getD a ([],[]))=PE at *;generalize encP b=EB at *;generalize bk P=PB at *;generalize(P.length:Int)=PL at *;clear ih hd hb f g ha
      ac_rfl
     rw[rZ,e1,vS,Dm,hbd,kNx,f]
    ·rw[g,hd];show _=(if b=P.getD a ([],[]) then _ else lft A (P.getD a ([],[])::P.drop (a+1)));rw[if_neg hb]
  ·have g1:Qf (.int (a:Int)) (.int (P.length:Int))=some (.bl false):=by rw[Ip,Qw2 (by omega)]
   obtain⟨a',v',f,g⟩:=ih a<|Zf<|encP b;have hd:P.drop a=[]:=List.drop_of_length_le (by omega);refine⟨a',v',?_,?_⟩
   ·have hbd:cJ [Zf O,Zf BB,Zf (bk P),(Zf (.int (a:Int))),Zf (encP b)] = .nx [Zf O,Zf BB,Zf (bk P),(Zf (.int (a:Int))),Zf (encP b)]:=by
     unfold cJ;generalize(a:Int)=A0 at *;generalize encP b=EB at *;generalize bk P=PB at *;generalize(P.length:Int)=PL at *;clear ih hd f g ha
     ac_rfl
    rw[rZ,e1,vS,Dm,hbd,kNx,f]
   ·rw[g,hd];cases A<;>rfl
include h
theorem Nb(hB:Jl x B)(hf:(perms Rs.length Rs.length).filter (tells s Rs B)=[]):iz [.tup [s,.tup Rs],bk B,bk (prs s Rs B)]=some (.bl true):=by
 have h6:=hB.few;have hsub:=J6 hf;have hpos:=T5 hf;have hless:=λk hk=>ZK hf (k:=k) hk;have hP:Jl x (prs s Rs B):=hB.sub (λp hp=>hsub.subset hp)<|Qqj hsub.length_le h6;have hno:(perms Rs.length Rs.length).any (tells s Rs<|prs s Rs B)=false:=List.any_eq_false.mpr λr hr=>by rw[J7 hf hr];exact Qwj
 have h1:=vJ h hP;rw[hno] at h1;generalize prs s Rs B=P at *;have hp6:=hP.few;obtain⟨a',v',f,g⟩:=greedy (P:=P) (.tup [s,.tup Rs]) (bk B) B 0 none;rw[List.drop_zero,Bd hsub] at g;have ha:P.length<=a':=by have:=Qx7 List.length g;rw[Qx4] at this;show P.length<=a';have h0:([]:List jb.Pr).length=0:=rfl;omega
 have g1:Qf (.int (a':Int)) (.int (P.length:Int))=some (.bl false):=by rw[Ip,Qw2 (by omega)]
 have hl:cN [bk P]=some (.int (P.length:Int)):=by unfold bk;rw[wH,Qqz]
 have c:iy [Zf (.tup [s,.tup Rs]),Zf<|bk B,Zf<|bk P,(Zf<|.int (a':Int)),v'] = .ok (.lst<|(List.range P.length).map λ_=>.bl true) [Zf (.tup [s,.tup Rs]),Zf<|bk B,Zf<|bk P,(Zf<|.int (a':Int)),v']:=by
  unfold iy;refine iY (List.range P.length) (λk=>.int (k:Int)) _ ?_ rfl rfl (λk hk=>?_) (by rw[List.length_range];exact Qqj hp6 (by decide))
  ·have hr:=wj (n:=P.length) (by omega);generalize bk P=PB at *;generalize(P.length:Int)=PL at *;generalize bk B=BB at *;generalize D.tup [s,.tup Rs]=OO at *;generalize(a':Int)=AA at *;clear h hB hf hsub hpos hless hP hno h1 f g ha
   ac_rfl
  ·obtain⟨r,hr,ht⟩:=hless k (Qw7.mp hk);have hPk:Jl x (P.take k++P.drop (k+1)):=hP.sub (λp hp=>by
    rcases Qw5.mp hp with hp|hp
    ·exact List.mem_of_mem_take hp
    ·exact List.mem_of_mem_drop hp) (by rw[Qq1,Qw4,Qx4];omega)
   have h2:=vJ h hPk;rw[List.any_eq_true.mpr ⟨r,hr,ht⟩] at h2;have s1:=ak5 (P.map encP) k;have s2:=acN (P.map encP) (k+1);rw[<-List.map_take] at s1;rw[<-List.map_drop] at s2;have ga:cj (.int (k:Int)) (.int 1)=some (.int ((k+1:Nat):Int)):=rfl;have gc:cj (.tup ((P.take k).map encP)) (.tup ((P.drop (k+1)).map encP))=some (bk (P.take k++P.drop (k+1))):=by unfold bk;rw[Qxk];exact rY (Qqj (show _<=12 by rw[Qqz,Qqz,Qw4,Qx4];omega) (by decide))
   have eb:bk P = .tup (P.map encP):=rfl;rw[<-eb] at s1 s2;show ao eE (Zv 0 (aa (aL cj (uK (aN 2) jD (tU (aN 5))) (uK (aN 2) (tU (az cj 5 (Zi 1))) jD)) aj)) [Zf (.tup [s,.tup Rs]),Zf (bk B),Zf (bk P),(Zf (.int (a':Int))),v',(Zf (.int (k:Int)))]=_;generalize bk (P.take k++P.drop (k+1))=PK at *;generalize D.tup ((P.take k).map encP)=D1 at *;generalize D.tup ((P.drop (k+1)).map encP)=D2 at *;generalize bk P=PB at *;generalize bk B=BB at *;generalize D.tup [s,.tup Rs]=OO at *;generalize(a':Int)=AA at *;clear h hB hf hsub hpos hless hP hno h1 f g ha hPk eb hr ht hk;have e1:uK (aN 2) jD (tU (aN 5)) [Zf OO,Zf BB,Zf PB,Zf (.int AA),v',(Zf (.int (k:Int)))] = .ok D1 [Zf OO,Zf BB,Zf PB,Zf (.int AA),v',(Zf (.int (k:Int)))]:=by
    show fc (Ea PB none (some (k:Int))) _=_;rw[s1]
    rfl
   have e2:uK (aN 2) (tU (az cj 5 (Zi 1))) jD [Zf OO,Zf BB,Zf PB,Zf (.int AA),v',(Zf (.int (k:Int)))] = .ok D2 [Zf OO,Zf BB,Zf PB,Zf (.int AA),v',(Zf (.int (k:Int)))]:=by
    show fc (Ea PB (some ((k+1:Nat):Int)) none) _=_;rw[s2]
    rfl
   exact bC (ds:=[OO,PK]) (bw rfl (bw (cA e1 e2 gc) cL)) h2
 have hall:=sZ (λ_:Nat=>true) (List.range P.length);rw[show(List.range P.length).all (λ_=>true)=true by simp] at hall;have ht:jP (bk P) "tuple" = true:=rfl;have ht':jd "tuple" (bk P)=some (.bl true):=rfl;have hne:=anr hpos;unfold iz qt;generalize iy=LC at *;generalize(List.range P.length).map (λ_=>D.bl true)=MM at *;generalize bk P=PB at *;generalize(P.length:Int)=PL at *;have hbk:bk B = .tup (B.map encP):=rfl;rw[hbk] at f c ⊢;have f':mV (ak 4) cJ (B.map encP) [Zf (.tup [s,.tup Rs]),(Zf (.tup (B.map encP))),Zf PB,Zf (.int 0),Zn]=_:=f;clear f;generalize B.map encP=BM at *;generalize D.tup [s,.tup Rs]=OO at *;generalize(a':Int)=AA at *;clear h hB hf hsub hpos hless hP hno g ha hbk
 ac_rfl
end
structure akk(x:List Nat)(T s:D)(Rs:List D):Prop where
 xl:x∈XL
 snd:d9 [T]=some (.tup (jc x))
 XM:nJ [T]=some (.bl true)
 sd:s∈sides
 ok:jb.Ok x s Rs
 ord:nO [T,.tup [s,.tup Rs]]=some (.bl true)
 few:Rs.length<=4
theorem aaW(b):∀t:List Bool,Dr (.bl b) (t.map .bl)=some (t.contains b)
 | []=>rfl
 | c::t=>by
  rw[Qq4];unfold Dr;rw[aaW b t];show some ((c == b)||t.contains b)=_;rw[List.contains_cons]
  congr 2
  cases b<;>cases c<;>rfl
theorem aey(b)(t:List Bool):Ec (.bl b) (.lst (t.map .bl))=some (.bl (t.contains b)):=by
 show(R8 (.bl b)<|.lst<|t.map .bl).or _=_;have:R8 (.bl b) (.lst<|t.map .bl)=some (.bl<|t.contains b):=by
  show(Dr (.bl b)<|t.map .bl).map D.bl=_;rw[aaW]
  rfl
 rw[this]
 rfl
section
variable{x:List Nat}{T s:D}{Rs:List D}(h:akk x T s Rs){P:List jb.Pr}(hP:Jl x P)(h0:0<P.length)
include h hP h0
theorem N8(hp:pl paper=true):sE [D.tup [.str [113,117,97,114,114,101,108],T,.tup [s,.tup Rs],bk P],paper]=some (.bl (sh s Rs P paper)):=by have:=holds h.sd h.ord h.XM (Xr h.snd hP h0)<|λ_=>shown h.ok hP T hp;rw[this,Bool.true_and]
noncomputable def trn(L:List D)(k j:Nat):List D:=L.take k++[.int (j:Int)]++L.drop (k+1)
omit h hP h0 in
theorem Uc:(nums s Rs P).all Ko=true:=Qw0.mpr λd hd=>by
 obtain⟨r,_,rfl⟩:=Qwk.mp hd
 rfl
omit h hP h0 in
theorem agC(k j):pl (.tup (trn (nums s Rs P) k j))=true:=Qw0.mpr λd hd=>by
 have hn:=Qw0.mp<|Uc (s:=s) (Rs:=Rs) (P:=P);rcases Qw5.mp hd with hd|hd
 ·rcases Qw5.mp hd with hd|hd
  ·exact hn d<|List.mem_of_mem_take hd
  ·cases Qq9.mp hd
   rfl
 ·exact hn d<|List.mem_of_mem_drop hd
theorem agB(hk:k<(perms Rs.length Rs.length).length)(hj:(tell s (pick Rs (perms Rs.length Rs.length)[k]) P)[j]? = some true):sh s Rs P (.tup (trn (nums s Rs P) k j))=false:=by
 have hl:(nums s Rs P).length=(perms Rs.length Rs.length).length:=by unfold nums;rw[Qqz]
 have hjl:j<P.length:=by
  have:=(Qwz.mp hj).1;unfold tell at this
  rwa [Qqz] at this
 have htl:(trn (nums s Rs P) k j).length=(perms Rs.length Rs.length).length:=by unfold trn;rw[Qq1,Qq1,Qw4,Qx4];show min k _+1+_=_;omega
 rw[JL,Qw8 htl,Bool.true_and];refine List.all_eq_false.mpr ⟨((perms Rs.length Rs.length)[k],.int j),?_,?_⟩
 ·have e:((perms Rs.length Rs.length).zip<|trn (nums s Rs P) k j)[k]'(by rw[Qz9];omega)=((perms Rs.length Rs.length)[k],.int j):=by
   rw[List.getElem_zip]
   congr 1
   unfold trn;rw[List.getElem_append_left (by rw[Qq1,Qw4];show k<min k _+1;omega),List.getElem_append_right (by rw[Qw4];omega)];simp
  rw[<-e];exact Qw9 _
 ·unfold pd;rw[show num P.length (.int j)=some j from by
   unfold num;simp only;rw[if_pos ⟨by omega,by omega⟩,Qzy]]
  show ¬(fin s (pick Rs (perms Rs.length Rs.length)[k]) (P.getD j ([],[])).1 != (P.getD j ([],[])).2)=true;unfold tell at hj;rw[Qw1,Qqy hjl] at hj;rw[Qq8,Qqy hjl];have hj':(fin s (pick Rs (perms Rs.length Rs.length)[k]) P[j].1 == P[j].2)=true:=Qw6 hj;show ¬(fin s (pick Rs (perms Rs.length Rs.length)[k]) P[j].1 != P[j].2)=true;rw[bne,hj'];exact Qwj
theorem aae(hno:∀r∈perms Rs.length Rs.length,tells s Rs P r=false)(hk:k<(perms Rs.length Rs.length).length)(a6 a7:OD):∃b6 b7,eV [Zf T,Zf (.tup [s,.tup Rs]),Zf (bk P),(Zf (.tup (nums s Rs P))),(Zf (.lst (rows (perms Rs.length Rs.length)))),(Zf (.int k)),a6,a7] = .nx [Zf T,Zf (.tup [s,.tup Rs]),Zf (bk P),(Zf (.tup (nums s Rs P))),(Zf (.lst (rows (perms Rs.length Rs.length)))),(Zf (.int k)),b6,b7]:=by
 have h4:=h.few;have hp6:=hP.few;have hr:=Qw9 hk;have hsh:=λj hj=>agB h hP h0 hk (j:=j) hj;have hnk:bZ (.tup<|nums s Rs P) (.int (k:Int))=some (.int (uH s Rs P (perms Rs.length Rs.length)[k]:Int)):=by
  unfold nums;rw[vA,atN,Qw1,Qqy hk]
  rfl
 have hrk:bZ (.lst<|rows<|perms Rs.length Rs.length) (.int (k:Int))=some (bA (perms Rs.length Rs.length)[k]):=by
  rw[Ol,atN,Qw1,Qqy hk]
  rfl
 generalize(perms Rs.length Rs.length)[k]=r at *;obtain⟨r1,_,r2⟩:=(cP _ _ _).mp hr;obtain⟨f1,f2⟩:=KR h.ok<|hno r hr;have c:jo [Zf T,Zf<|.tup [s,.tup Rs],Zf<|bk P,(Zf<|.tup<|nums s Rs P),(Zf<|.lst<|rows<|perms Rs.length Rs.length),(Zf<|.int (k:Int)),a6,a7] = .ok (.lst<|(tell s (pick Rs r) P).map .bl) [Zf T,Zf<|.tup [s,.tup Rs],Zf<|bk P,(Zf<|.tup<|nums s Rs P),(Zf<|.lst<|rows<|perms Rs.length Rs.length),(Zf<|.int (k:Int)),a6,a7]:=by
  unfold jo;rw[show(tell s (pick Rs r) P).map D.bl=P.map λp=>.bl (fin s (pick Rs r) p.1 == p.2) by unfold tell;rw[Qxj];rfl];refine iY P encP _ rfl rfl rfl (λp hp=>?_) (Qqj hp6 (by decide));have ht:=G7 h.ok (B:=[p]) (hP.sub (λq hq=>by cases Qq9.mp hq;exact hp)<|show 1<=6 by decide) r (by omega) r2;rw[show tells s Rs [p] r=(fin s (pick Rs r) p.1 == p.2) by show((fin s (pick Rs r) p.1 == p.2)&&true)=_;rw[Bool.and_true]] at ht;have eb:bk [p] = .tup [encP p]:=rfl;rw[eb] at ht;show ao j0 (Zv 1<|aa (az bZ 4<|bj 5)<|aa (cY<|Zv 8 aj) aj) [Zf T,Zf<|.tup [s,.tup Rs],Zf<|bk P,(Zf<|.tup<|nums s Rs P),(Zf<|.lst<|rows<|perms Rs.length Rs.length),(Zf<|.int (k:Int)),a6,a7,Zf<|encP p]=_;generalize(fin s (pick Rs r) p.1 == p.2)=bb at *;generalize encP p=PE at *;generalize bA r=ER at *;generalize rows (perms Rs.length Rs.length)=RR at *;generalize nums s Rs P=NN at *;generalize D.tup [s,.tup Rs]=OO at *;generalize bk P=BB at *;generalize(k:Int)=K at *;clear h hP h0 hsh hnk hr r1 r2 f1 f2 hp eb hno
  ac_rfl
 have g1:bZ (.lst<|(tell s (pick Rs r) P).map .bl) (.int (uH s Rs P r:Int))=some (.bl false):=by
  rw[Ol,atN,Qw1,f2]
  rfl
 have g2:=aey true<|tell s (pick Rs r) P;have i1:jP (.int (uH s Rs P r:Int)) "int" = true:=rfl;have i1':jd "int" (.int (uH s Rs P r:Int))=some (.bl true):=rfl;have i2:jP (.int (uH s Rs P r:Int)) "bool" = false:=rfl;have i2':jd "bool" (.int (uH s Rs P r:Int))=some (.bl false):=rfl;by_cases ht:true∈tell s (pick Rs r) P
 ·obtain⟨j,p1,p2⟩:=wk ht;rw[List.contains_iff_mem.mpr ht] at g2;have g3:pY (.lst<|(tell s (pick Rs r) P).map .bl) (.bl true)=some (.int (j:Int)):=by
   show(mZ _).bind _=_;rw[Vc];show(pU true _).map _=_;rw[p1]
   rfl
  have hh:=N8 h hP h0<|agC (s:=s) (Rs:=Rs) (P:=P) k j;rw[hsh j p2] at hh;have s1:=SM (nums s Rs P) k;have s2:cutD (nums s Rs P) (some<|(k:Int)+1) none=(nums s Rs P).drop (k+1):=O6 (nums s Rs P)<|k+1;have hnl:(nums s Rs P).length<=3125:=by unfold nums;rw[Qqz];exact du _ _ (by omega)
  have a1:cj (.tup ((nums s Rs P).take k)) (.tup [.int (j:Int)])=some (.tup ((nums s Rs P).take k++[.int (j:Int)])):=rY (Qqj (show _<=3126 by rw[Qw4];show _+1<=_;omega) (by decide));have a2:cj (.tup ((nums s Rs P).take k++[.int (j:Int)])) (.tup ((nums s Rs P).drop (k+1)))=some (.tup (trn (nums s Rs P) k j)):=rY (Qqj (show _<=6252 by rw[Qq1,Qw4,Qx4];show _+1+_<=_;omega) (by decide));have gn:uF (.bl false) (.bl false)=some (.bl false):=rfl;refine⟨(Zf (.lst ((tell s (pick Rs r) P).map .bl))),(Zf (.tup (trn (nums s Rs P) k j))),?_⟩;unfold eV;generalize trn (nums s Rs P) k j=TR at *;generalize(nums s Rs P).take k++[.int (j:Int)]=N1 at *;generalize(nums s Rs P).take k=N0 at *;generalize(nums s Rs P).drop (k+1)=N2 at *;generalize nums s Rs P=NN at *;generalize(tell s (pick Rs r) P).map D.bl=TB at *;generalize rows (perms Rs.length Rs.length)=RR at *;generalize(uH s Rs P r:Int)=FN at *;generalize D.tup [s,.tup Rs]=OO at *;generalize bk P=BB at *;generalize(k:Int)=K at *;generalize(j:Int)=J at *;clear h hP h0 hsh hr r1 r2 f1 f2 hno p1 p2 hnl ht
  ac_rfl
 ·rw[show(tell s (pick Rs r) P).contains true=false by simpa using ht] at g2;refine⟨(Zl ((tell s (pick Rs r) P).map .bl)),a7,?_⟩;unfold eV;generalize nums s Rs P=NN at *;generalize(tell s (pick Rs r) P).map D.bl=TB at *;generalize rows (perms Rs.length Rs.length)=RR at *;generalize(uH s Rs P r:Int)=FN at *;generalize D.tup [s,.tup Rs]=OO at *;generalize bk P=BB at *;generalize(k:Int)=K at *;clear h hP h0 hsh hr r1 r2 f1 f2 hno ht
  ac_rfl
theorem FT(hno:∀r∈perms Rs.length Rs.length,tells s Rs P r=false):gF [T,.tup [s,.tup Rs],bk P,.tup (nums s Rs P)]=some (.bl true):=by
 have h4:=h.few;have ho:=orderings s Rs (by omega);have hz:=du Rs.length Rs.length (by omega);have hll:cN [.lst (rows<|perms Rs.length Rs.length)]=some (.int ((perms Rs.length Rs.length).length:Int)):=by rw[R7,Qqz]
 have hln:cN [.tup (nums s Rs P)]=some (.int ((perms Rs.length Rs.length).length:Int)):=by rw[wH];unfold nums;rw[Qqz]
 obtain⟨e',f1,a5,a6,a7,rfl⟩:=Ot (g:=ak 5) (b:=eV) (λenv=>∃a5 a6 a7,env=[Zf T,Zf<|.tup [s,.tup Rs],Zf<|bk P,(Zf<|.tup<|nums s Rs P),(Zf<|.lst<|rows<|perms Rs.length Rs.length),a5,a6,a7]) ((List.range (perms Rs.length Rs.length).length).map λ(i:Nat)=>D.int (i:Int))
  (λd hd env ⟨a5,a6,a7,he⟩=>by
   subst he;obtain⟨k,hk,rfl⟩:=Qwk.mp hd;obtain⟨b6,b7,hb⟩:=aae h hP h0 hno (Qw7.mp hk) a6 a7;exact⟨_,_,rfl,hb,_,_,_,rfl⟩)
  [Zf T,Zf<|.tup [s,.tup Rs],Zf<|bk P,(Zf<|.tup<|nums s Rs P),(Zf<|.lst<|rows<|perms Rs.length Rs.length),Zn,Zn,Zn] ⟨_,_,_,rfl⟩
 have hr:=wj (n:=(perms Rs.length Rs.length).length) (by omega);have ht:jP (.tup (nums s Rs P)) "tuple" = true:=rfl;have ht':jd "tuple" (.tup (nums s Rs P))=some (.bl true):=rfl;have hne:tQ (.int ((perms Rs.length Rs.length).length:Int)) (.int ((perms Rs.length Rs.length).length:Int))=some (.bl false):=by rw[af4,beq_self_eq_true];rfl
 unfold gF pg;generalize(List.range (perms Rs.length Rs.length).length).map (λ(i:Nat)=>D.int (i:Int))=RG at *;generalize((perms Rs.length Rs.length).length:Int)=PL at *;generalize rows (perms Rs.length Rs.length)=RR at *;generalize D.tup (nums s Rs P)=NN at *;generalize D.tup [s,.tup Rs]=OO at *;generalize bk P=BB at *;clear h hP h0 hno hz
 ac_rfl
end
open lQ (SG sgR)
open jb (perms cP du rows pick encP bk tells)
theorem alM:∀m∈MK,okN 57 m=true:=by
 have h:(MK.all λm=>okN 57 m)=true:=by decide +kernel
 exact λm hm=>Qw0.mp h m hm
theorem adH(h:rn (jc x) rs):okN 59 (.tup rs)=true:=Qw0.mpr λr hr=>by
 obtain⟨s,hs,m,hm,rfl⟩:=Gy h r hr;unfold jc at hs;obtain⟨c,_,rfl⟩:=Qwk.mp hs;show(true&&(okN 57 m&&true))=true;rw[alM m hm]
 rfl
theorem adG{R:D}(h:gY x R):okN 57 R=true:=by
 obtain⟨wy,ch,l,r,rfl,h⟩:=h;have hw:okN 56 wy=true:=by rcases h.way with rfl|rfl<;>rfl
 have hc:okN 56 ch=true:=by
  cases h.chg with
  | put _=>rfl
  | chg _ _ _=>
   refine Qw0.mpr λd hd=>?_;obtain⟨p,_,rfl⟩:=Qwk.mp hd
   rfl
 have hs:∀l∈SG x,okN 56 l=true:=λl hl=>by
  rcases Qwq.mp hl with rfl|hl
  ·rfl
  ·obtain⟨d,_,rfl⟩:=Qwk.mp hl;refine Qw0.mpr λd hd=>?_;obtain⟨c,_,rfl⟩:=Qwk.mp hd
   rfl
 show(okN 56 wy&&(okN 56 ch&&(okN 56 l&&(okN 56 r&&true))))=true;rw[hw,hc,hs l h.left,hs r h.right]
 rfl
theorem ahK(hs:s∈sides)(h:∀R∈Rs,gY x R):okN 59 (.tup [s,.tup Rs])=true:=by
 have h1:okN 58 s=true:=by
  rcases Qwq.mp hs with rfl|hs
  ·rfl
  ·cases Qq9.mp hs
   rfl
 have h2:okN 58 (.tup Rs)=true:=Qw0.mpr λR hR=>adG<|h R hR;show(okN 58 s&&(okN 58 (.tup Rs)&&true))=true;rw[h1,h2]
 rfl
theorem Qq(n)(m)(h0:0<m)(h1:m<=1000):∃(d:Nat) (n':Int),d<m/\bz [.lst [.int n],.int m]=some (.int d,.lst [.int n']):=by obtain⟨d,hd,e⟩:=dig n m h0;exact⟨d,n / m,hd,by rw[Tr,lQ.jL n m h0 (by omega),e]⟩
section
variable{x:List Nat}{s:D}{Rs:List D}(hx:x∈XS)(h:jb.Ok x s Rs)(h4:Rs.length<=4)
def PrG(x:List Nat)(p:jb.Pr):Prop:=(∀c∈p.1,c∈x)/\p.1.length<=7/\(∀c∈p.2,c∈x)/\p.2.length<=100
theorem Wh(hn:n<=4):(perms n n).length<=256/\0<(perms n n).length:=by
 refine⟨?_,List.length_pos_of_mem<|jb.yW n⟩
 match n,hn with
 | 0,_=>decide
 | 1,_=>decide
 | 2,_=>decide
 | 3,_=>decide
 | 4,_=>decide
include hx h h4
theorem Xq(A0 A1:OD)(T)(n)(B)(hB:B.length<=100)(a8 a9 a10:OD):∃n' p b9 b10,qY [A0,A1,Zf T,Zs x,Zf (.tup [s,.tup Rs]),Zl [.int n],(Zf (.lst (rows (perms Rs.length Rs.length)))),(Zf (bk (B))),a8,a9,a10,Zn] = .nx [A0,A1,Zf T,Zs x,Zf (.tup [s,.tup Rs]),Zl [.int n'],(Zf (.lst (rows (perms Rs.length Rs.length)))),(Zf (bk (B++[p]))),a8,b9,b10,Zn]/\PrG x p:=by
 obtain⟨w,n1,hw,w1,w2⟩:=Qi.word n x hx 5 (by decide);obtain⟨hp1,hp0⟩:=Wh h4;obtain⟨j,n2,hj,ht⟩:=Qq n1 (perms Rs.length Rs.length).length hp0 (by omega);obtain⟨q,n3,_,hq⟩:=Qq n2 6 (by decide) (by decide);obtain⟨r1,_,r2⟩:=(cP _ _ _).mp<|Qw9 hj;have hl:=jb.NB s Rs (perms Rs.length Rs.length)[j] r2 (by omega);rw[<-zQ] at hl;have ok:=h.pick r2 (by omega);have hm:=jb.Nz ok w1 (by omega);rw[<-zP] at hm;have hf:=jb.Eh ok w1 (by omega);have hi:bZ (.lst<|rows<|perms Rs.length Rs.length) (.int (j:Int))=some (bA (perms Rs.length Rs.length)[j]):=by
  rw[Ol,atN,Qw1,Qqy hj]
  rfl
 have hlen:cN [.lst (rows<|perms Rs.length Rs.length)]=some (.int ((perms Rs.length Rs.length).length:Int)):=by rw[R7,Qqz]
 generalize(perms Rs.length Rs.length)[j]=r at *;generalize fin s (pick Rs r) w=f at *;have g1:fW nG 5 (Zv 3<|aa (Zi 5) aj) [A0,A1,Zf T,Zs x,Zf<|.tup [s,.tup Rs],Zl [.int n],(Zf<|.lst<|rows<|perms Rs.length Rs.length),(Zf<|bk<|B),a8,a9,a10,Zn] = .ok (.str w) [A0,A1,Zf T,Zs x,Zf<|.tup [s,.tup Rs],Zl [.int n1],(Zf<|.lst<|rows<|perms Rs.length Rs.length),(Zf<|bk<|B),a8,a9,a10,Zn]:=iC (e1:=[A0,A1,Zf T,Zs x,Zf<|.tup [s,.tup Rs],Zl [.int n],(Zf<|.lst<|rows<|perms Rs.length Rs.length),(Zf<|bk<|B),a8,a9,a10,Zn]) rfl rfl rfl hw;have g2:ao gW (aa (ao jy<|Zv 4<|aa (az bZ 6<|fW bz 5 (aa (ao cN (aa (bj 6) aj)) aj)) aj) (Zv 9 aj)) [A0,A1,Zf T,Zs x,Zf (.tup [s,.tup Rs]),Zl [.int n1],(Zf (.lst (rows (perms Rs.length Rs.length)))),(Zf (bk (B))),a8,Zs w,a10,Zn] = .ok (.str f) [A0,A1,Zf T,Zs x,Zf (.tup [s,.tup Rs]),Zl [.int n2],(Zf (.lst (rows (perms Rs.length Rs.length)))),(Zf (bk (B))),a8,Zs w,a10,Zn]:=by refine bC (ds:=[.tup [s,.tup (pick Rs r)],.str w]) (bw (e1:=[A0,A1,Zf T,Zs x,Zf (.tup [s,.tup Rs]),Zl [.int n2],(Zf (.lst (rows (perms Rs.length Rs.length)))),(Zf (bk (B))),a8,Zs w,a10,Zn]) (bC (ds:=[.tup [s,.tup Rs],bA r]) (bw (by rfl) (bw ?_ cL)) hl) (by rfl)) hm;refine bN (y:=.int (j:Int)) rfl ?_ rfl hi;exact iC (x:=.lst [.int n1]) (x0:=.lst [.int n1]) (ds:=[.int ((perms Rs.length Rs.length).length:Int)]) (e1:=[A0,A1,Zf T,Zs x,Zf (.tup [s,.tup Rs]),Zl [.int n1],(Zf (.lst (rows (perms Rs.length Rs.length)))),(Zf (bk (B))),a8,Zs w,a10,Zn]) (by rfl) (bw (bC (ds:=[.lst (rows (perms Rs.length Rs.length))]) (by rfl) hlen) cL) (by rfl) ht
 have g3:dg (aL jT (fW bz 5 (aa (Zi 6) aj)) (Zi 0)) [A0,A1,Zf T,Zs x,Zf (.tup [s,.tup Rs]),Zl [.int n2],(Zf (.lst (rows (perms Rs.length Rs.length)))),(Zf (bk (B))),a8,Zs w,Zs f,Zn] = .ok ((q:Int) == 0) [A0,A1,Zf T,Zs x,Zf (.tup [s,.tup Rs]),Zl [.int n3],(Zf (.lst (rows (perms Rs.length Rs.length)))),(Zf (bk (B))),a8,Zs w,Zs f,Zn]:=
  mY (cA (Ev.af7 (x:=.lst [.int n2]) (ds:=[.int 6]) (e1:=[A0,A1,Zf T,Zs x,Zf (.tup [s,.tup Rs]),Zl [.int n2],(Zf (.lst (rows (perms Rs.length Rs.length)))),(Zf (bk (B))),a8,Zs w,Zs f,Zn]) rfl rfl rfl hq) rfl (Iu _ _))
 have fin:∀m v,aW (az cj 7 (cY (aa (cY (Zv 9 (aa (vB (aN 10) jD (tU (Zi 20))) aj))) aj))) (ak 7) [A0,A1,Zf T,Zs x,Zf (.tup [s,.tup Rs]),Zl [.int m],(Zf (.lst (rows (perms Rs.length Rs.length)))),(Zf (bk (B))),a8,Zs w,Zs v,Zn] = .nx [A0,A1,Zf T,Zs x,Zf (.tup [s,.tup Rs]),Zl [.int m],(Zf (.lst (rows (perms Rs.length Rs.length)))),(Zf (bk (B++[(w,v.take 20)]))),a8,Zs w,Zs v,Zn]:=λm v=>by
  have hs:cutD v none (some (20:Int))=v.take 20:=SM v 20;have ha:cj (bk B) (.tup [.tup [.str w,.str (v.take 20)]])=some (bk (B++[(w,v.take 20)])):=by unfold bk;rw[Qxk];exact rY (Qqj (show _<=101 by rw[Qqz];show _+1<=_;omega) (by decide))
  generalize v.take 20=z at *;generalize bk (B++[(w,z)])=B2 at *;generalize bk B=BB at *;generalize rows (perms Rs.length Rs.length)=RR at *;generalize D.tup [s,.tup Rs]=OO at *;clear g1 g2 g3 hi hlen hf hm ok hl r1 r2 hq ht hj hp0 hp1 w1 w2 hw hB hx h h4
  ac_rfl
 unfold qY;by_cases h0:q=0
 ·obtain⟨v,n4,hv,v1,v2⟩:=Qi.word n3 x hx 5 (by decide);have t:((q:Int) == 0)=true:=by rw[h0];rfl
  rw[t] at g3;refine⟨n4,(w,v.take 20),Zs w,Zs v,?_,w1,by show w.length<=7;omega,λc hc=>v1 c (List.mem_of_mem_take hc),by show(v.take 20).length<=100;rw[Qw4];omega⟩;refine(aR (cC g1 rfl)).trans ((aR (cC g2 rfl)).trans ((aR (e:=[A0,A1,Zf T,Zs x,Zf (.tup [s,.tup Rs]),Zl [.int n4],(Zf (.lst (rows (perms Rs.length Rs.length)))),(Zf (bk (B))),a8,Zs w,Zs v,Zn]) ((mq g3).trans (cC (d:=.str v) (e:=[A0,A1,Zf T,Zs x,Zf (.tup [s,.tup Rs]),Zl [.int n4],(Zf (.lst (rows (perms Rs.length Rs.length)))),(Zf (bk (B))),a8,Zs w,Zs f,Zn]) ?_ rfl))).trans (fin n4 v)));exact iC (e1:=[A0,A1,Zf T,Zs x,Zf (.tup [s,.tup Rs]),Zl [.int n3],(Zf (.lst (rows (perms Rs.length Rs.length)))),(Zf (bk (B))),a8,Zs w,Zs f,Zn]) rfl rfl rfl hv
 ·have t:((q:Int) == 0)=false:=Qzk.mpr (by omega);rw[t] at g3;refine⟨n3,(w,f.take 20),Zs w,Zs f,?_,w1,by show w.length<=7;omega,λc hc=>hf.1 c (List.mem_of_mem_take hc),by show(f.take 20).length<=100;rw[Qw4];omega⟩;exact(aR (cC g1 rfl)).trans ((aR (cC g2 rfl)).trans ((aR ((m8 g3).trans rfl)).trans (fin n3 f)))
theorem book(A0 A1:OD)(T)(n):∃B n' b8 b9 b10,gC (eF (aa (aL cj (Zi 1) (fW bz 5 (aa (Zi 5) aj))) aj)) (ak 8) (qY) [A0,A1,Zf T,Zs x,Zf (.tup [s,.tup Rs]),Zl [.int n],(Zf (.lst (rows (perms Rs.length Rs.length)))),(Zf (bk ([]))),Zn,Zn,Zn,Zn] = .nx [A0,A1,Zf T,Zs x,Zf (.tup [s,.tup Rs]),Zl [.int n'],(Zf (.lst (rows (perms Rs.length Rs.length)))),(Zf (bk (B))),b8,b9,b10,Zn]/\Jl x B:=by
 obtain⟨m,n1,hm,ht⟩:=Qq n 5 (by decide) (by decide);obtain⟨e',f1,n',B,a8,a9,a10,rfl,hl,hB⟩:=kI (g:=ak 8) (iR 0 1<|1+m) (λdone env=>∃n B a8 a9 a10,env=[A0,A1,Zf T,Zs x,Zf<|.tup [s,.tup Rs],Zl [.int n],(Zf<|.lst<|rows<|perms Rs.length Rs.length),(Zf<|bk<|B),a8,a9,a10,Zn]/\B.length=done.length/\∀p∈B,PrG x p)
  (λdone d rest hall env ⟨n,B,a8,a9,a10,he,hb,hp⟩=>by
   subst he;have hdl:done.length<=6:=by have:=Qx7 List.length hall;rw[jU,Qq1,Qq3] at this;omega
   obtain⟨n',p,b9,b10,h1,h2⟩:=Xq hx h h4 A0 A1 T n B (by omega) (Zf d) a9 a10;refine⟨_,_,rfl,h1,n',B++[p],_,_,_,rfl,by rw[Qq1,Qq1,hb];rfl,λq hq=>?_⟩;rcases Qw5.mp hq with hq|hq
   ·exact hp q hq
   ·cases Qq9.mp hq;exact h2)
  [A0,A1,Zf T,Zs x,Zf<|.tup [s,.tup Rs],Zl [.int n1],(Zf<|.lst<|rows<|perms Rs.length Rs.length),(Zf<|bk<|[]),Zn,Zn,Zn,Zn] ⟨n1,[],Zn,Zn,Zn,rfl,rfl,λp hp=>by cases hp⟩
 rw[jU] at hl;refine⟨B,n',a8,a9,a10,(my (ds:=iR 0 1<|1+m) ?_).trans f1,by omega,hB⟩;refine Qi.uL (ds:=[.int (1+(m:Int))]) ?_ ?_
 ·refine bw (cA (x:=.int 1) (y:=.int (m:Int)) rfl ?_ rfl) cL;exact Ev.af7 (x:=.lst [.int n]) (ds:=[.int 5]) (e1:=[A0,A1,Zf T,Zs x,Zf<|.tup [s,.tup Rs],Zl [.int n],(Zf<|.lst<|rows<|perms Rs.length Rs.length),(Zf<|bk<|[]),Zn,Zn,Zn,Zn]) rfl rfl rfl ht
 ·have:=Qi.wj (j:=1+m) (by omega);rw[<-this]
  congr 3
end
open jb (perms cP rows pick encP bk tells)
def Ky:bV:=aC (aW (ao gA (Zv 2 (Zv 4 (Zv 7 aj)))) (ak 11)) (aC (cZ (dg (ao eE (Zv 4 (Zv 7 aj)))) (aV (az gIs 11 (mX .non))) bH) (aC (cZ (iB (dW (dg (gh (jd "tuple") (aN 11)))) (iB (dg (aL tQ (ao cN (aa (bj 11) aj)) (Zi 2))) (dg (aL tQ (UT (az bZ 11 (Zi 0)) jD (tU (Zi 3))) (cY (aa (Zw [113,117,97,114,114,101,108]) (Zv 2 (Zv 4 aj)))))))) (aV (mX (.bl false))) bH) (aC (cZ (iB (dg (aL tQ (ao cN (aa (az bZ 11 (Zi 0)) aj)) (Zi 4))) (iB (dW (dg (ao iz (Zv 4 (Zv 7 (aa (aL bZ (az bZ 11 (Zi 0)) (Zi 3)) aj)))))) (dg (aL uF (ao sE (aa (az bZ 11 (Zi 0)) (aa (az bZ 11 (Zi 1)) aj))) (mX (.bl true)))))) (aV (mX (.bl false))) bH) (aV (ao gF (Zv 2 (Zv 4 (aa (aL bZ (az bZ 11 (Zi 0)) (Zi 3)) (aa (az bZ 11 (Zi 1)) aj)))))))))
section
variable{x:List Nat}{T s:D}{Rs:List D}(h:akk x T s Rs)(hT:okN 59 T=true){B:List jb.Pr}(hB:Jl x B)
include h hT hB
theorem adR(A0 A1 a8 a9 a10:OD)(q):∃e,Ky [A0,A1,Zf T,Zs x,Zf (.tup [s,.tup Rs]),Zl [.int q],(Zf (.lst (rows (perms Rs.length Rs.length)))),Zf (bk B),a8,a9,a10,Zn] = .rt false (.bl true) e:=by
 have ht:=vJ h.ok hB;by_cases ha:(perms Rs.length Rs.length).any (tells s Rs B)=true
 ·have hp:=Rt h.ok hB T ha;rw[ha] at ht;have hi:gIs .non .non=some (.bl true):=rfl;refine⟨[A0,A1,Zf T,Zs x,Zf<|.tup [s,.tup Rs],Zl [.int q],(Zf<|.lst<|rows<|perms Rs.length Rs.length),Zf<|bk B,a8,a9,a10,Zf<|.non],?_⟩;unfold Ky;generalize rows (perms Rs.length Rs.length)=RR at *;generalize D.tup [s,.tup Rs]=OO at *;generalize bk B=BB at *;clear h hB ha hT
  ac_rfl
 ·have ha':(perms Rs.length Rs.length).any (tells s Rs B)=false:=by simpa using ha
  have hf:(perms Rs.length Rs.length).filter (tells s Rs B)=[]:=by
   cases e:(perms Rs.length Rs.length).filter (tells s Rs B) with
   | nil=>rfl
   | cons a l=>rw[jb.any_filter,e] at ha';cases ha'
  have hp:=Rr h.ok hB T hf;rw[ha'] at ht;have hsub:=J6 hf;have hP:=hB.sub (λp hp=>hsub.subset hp)<|Qqj hsub.length_le hB.few;have hpos:=T5 hf;have hpr:=Nb h.ok hB hf;have hno:=λr hr=>J7 hf (r:=r) hr;have hnr:=FT h hP hpos hno;have hho:=N8 h hP hpos (paper:=.tup<|nums s Rs<|prs s Rs B) Uc;have hsh:sh s Rs (prs s Rs B) (.tup<|nums s Rs<|prs s Rs B)=true:=by
   have hl:(nums s Rs<|prs s Rs B).length=(perms Rs.length Rs.length).length:=by unfold nums;rw[Qqz]
   rw[JL,Qw8 hl,Bool.true_and];refine Qw0.mpr λp hp=>?_;obtain⟨k,hk,rfl⟩:=List.mem_iff_getElem.mp hp;rw[Qz9] at hk;have hk':k<(perms Rs.length Rs.length).length:=by omega
   rw[List.getElem_zip];have e:(nums s Rs<|prs s Rs B)[k]'(by omega) = .int (uH s Rs (prs s Rs B) (perms Rs.length Rs.length)[k]:Int):=by unfold nums;rw[List.getElem_map]
   rw[e];have hf2:=(KR h.ok<|hno _<|Qw9 hk').2;generalize uH s Rs (prs s Rs B) (perms Rs.length Rs.length)[k]=j at *;have hjl:j<(prs s Rs B).length:=by
    have:=(Qwz.mp hf2).1;unfold jb.tell at this
    rwa [Qqz] at this
   unfold jb.tell at hf2;rw[Qw1,Qqy hjl] at hf2;have hf3:(fin s (pick Rs (perms Rs.length Rs.length)[k]) (prs s Rs B)[j].1 == (prs s Rs B)[j].2)=false:=Qw6 hf2;unfold pd;rw[show num (prs s Rs B).length (.int (j:Int))=some j from by
    unfold num;simp only;rw[if_pos ⟨by omega,by omega⟩,Qzy]]
   show(fin s (pick Rs (perms Rs.length Rs.length)[k]) ((prs s Rs B).getD j ([],[])).1 != ((prs s Rs B).getD j ([],[])).2)=true;rw[Qq8,Qqy hjl];show(fin s (pick Rs (perms Rs.length Rs.length)[k]) (prs s Rs B)[j].1 != (prs s Rs B)[j].2)=true;rw[bne,hf3]
   rfl
  rw[hsh] at hho;have hO:=ahK h.sd h.ok.hR;have hq:okN 60 (.tup [.str [113,117,97,114,114,101,108],T,.tup [s,.tup Rs]])=true:=by
   show(true&&(okN 59 T&&(okN 59 (.tup [s,.tup Rs])&&true)))=true;rw[hT,hO]
   rfl
  have hne:=vG.xQ hq;generalize prs s Rs B=P at *;generalize nums s Rs P=NN at *;have s3:W6 (D.tup [.str [113,117,97,114,114,101,108],T,.tup [s,.tup Rs],bk P]) none (some 3)=some (.tup [.str [113,117,97,114,114,101,108],T,.tup [s,.tup Rs]]):=rfl;have i0:bZ (.tup [(D.tup [.str [113,117,97,114,114,101,108],T,.tup [s,.tup Rs],bk P]),.tup NN]) (.int 0)=some (D.tup [.str [113,117,97,114,114,101,108],T,.tup [s,.tup Rs],bk P]):=rfl;have i1:bZ (.tup [(D.tup [.str [113,117,97,114,114,101,108],T,.tup [s,.tup Rs],bk P]),.tup NN]) (.int 1)=some (.tup NN):=rfl;have i3:bZ (D.tup [.str [113,117,97,114,114,101,108],T,.tup [s,.tup Rs],bk P]) (.int 3)=some (bk P):=rfl;have l4:cN [(D.tup [.str [113,117,97,114,114,101,108],T,.tup [s,.tup Rs],bk P])]=some (.int 4):=rfl;have l2:cN [.tup [(D.tup [.str [113,117,97,114,114,101,108],T,.tup [s,.tup Rs],bk P]),.tup NN]]=some (.int 2):=rfl;have n4:tQ (.int 4) (.int 4)=some (.bl false):=rfl;have n2:tQ (.int 2) (.int 2)=some (.bl false):=rfl;have t1:jP (.tup [(D.tup [.str [113,117,97,114,114,101,108],T,.tup [s,.tup Rs],bk P]),.tup NN]) "tuple" = true:=rfl;have t1':jd "tuple" (.tup [(D.tup [.str [113,117,97,114,114,101,108],T,.tup [s,.tup Rs],bk P]),.tup NN])=some (.bl true):=rfl;have gn:uF (.bl true) (.bl true)=some (.bl false):=rfl;refine⟨[A0,A1,Zf T,Zs x,Zf<|.tup [s,.tup Rs],Zl [.int q],(Zf<|.lst<|rows<|perms Rs.length Rs.length),Zf<|bk B,a8,a9,a10,(Zf<|.tup [(D.tup [.str [113,117,97,114,114,101,108],T,.tup [s,.tup Rs],bk P]),.tup NN])],?_⟩;unfold Ky;generalize D.tup NN=TN at *;generalize bk P=PB at *;generalize rows (perms Rs.length Rs.length)=RR at *;generalize D.tup [s,.tup Rs]=OO at *;generalize bk B=BB at *;generalize hC:D.tup [.str [113,117,97,114,114,101,108],T,OO,PB]=CC at *;generalize hF:D.tup [CC,TN]=FF at *;clear h hB ha hT ha' hf hsub hP hpos hno hO hq hsh hC hF
  ac_rfl
end
theorem ah9:agc=aC (eY 1 (ao jx (Zv 0 (aa (Zi 0) aj)))) (aC (aW (fW ql 1 aj) (ak 2)) (aC (aW (ao ju (Zv 2 aj)) (ak 3)) (aC (aW (fW qm 1 (Zv 3 (aa (Zi 3) aj))) (ak 4)) (aC (aW (cY (aa (az bZ 4 (Zi 0)) (aa (aL cj (az bZ 4 (Zi 1)) (cY (aa (fW nH 1 (Zv 3 aj)) aj))) aj))) (ak 4)) (aC (eY 5 (ao jx (Zv 0 (aa (Zi 2) aj)))) (aC (aW (ao fj (Zv 4 aj)) (ak 6)) (aC (aW (cY aj) (ak 7)) (aC (gC (eF (aa (aL cj (Zi 1) (fW bz 5 (aa (Zi 5) aj))) aj)) (ak 8) (qY)) Ky)))))))):=rfl
theorem Yt(ns:List Int)(hl:ns.length<=63)(hb:XF ns):UL [.arr (ns.map .int)]=some (.bl true):=by
 obtain⟨p,hp⟩:=K14.pack ns hl hb 0 (by decide) (by decide);rw[<-Ua] at hp;obtain⟨x,rs,n,hx,hst,hr⟩:=stock p;obtain⟨s,Rs0,n1,hor,hs,hRs,hRl⟩:=order n x hx 3 (by decide);obtain⟨wy,ch,l,r,n2,hru,hr1,hr2⟩:=rule n1 x (vD x hx);obtain⟨q,hq⟩:=K14.pack ns hl hb 2 (by decide) (by decide);rw[<-Ua] at hq;have hsn:=lQ.RP (vD x hx) hr.rows;rw[<-VV] at hsn;have hsd:=lQ.sounds_of (vD x hx) hr.rows;rw[<-xm] at hsd;have hR:∀R∈Rs0++[D.tup [wy,ch,l,r]],Vm x R:=λR h=>by
  rcases Qw5.mp h with h|h
  ·exact hRs R h
  ·cases Qq9.mp h;exact⟨⟨_,_,_,_,rfl,hr1⟩,λT hT=>is_rule hx hT hr1 hr2⟩
 have h4:(Rs0++[D.tup [wy,ch,l,r]]).length<=4:=by rw[Qq1];show _+1<=4;omega
 have ga:cj (.tup Rs0) (.tup [.tup [wy,ch,l,r]])=some (.tup (Rs0++[.tup [wy,ch,l,r]])):=rY (Qqj (show _<=4 by show _+1<=4;omega) (by decide));generalize hQ:Rs0++[D.tup [wy,ch,l,r]]=Rs at *;have hok:jb.Ok x s Rs:=⟨vD x hx,hs,λR h=>(hR R h).ok,by omega⟩;have F:akk x (.tup rs) s Rs:=⟨hx,hsd,is_stock hx hr,hs,hok,is_order hsd hs h4 hR,h4⟩;have ho:=orderings s Rs (by omega);generalize hA:((Zf (.arr (ns.map .int))):OD)=A0;obtain⟨B,q',b8,b9,b10,hbk,hB⟩:=book (vD x hx) hok h4 A0 (Zl [.int n2]) (.tup rs) q;obtain⟨e,he⟩:=adR F (adH hr) hB A0 (Zl [.int n2]) b8 b9 b10 q';refine fH (env:=e) ?_;rw[ah9];show _=Out.rt false (.bl true) e;have e0:envOf 12 [D.arr (ns.map .int)]=[A0,Zn,Zn,Zn,Zn,Zn,Zn,Zn,Zn,Zn,Zn,Zn]:=by rw[<-hA];rfl
 rw[e0];refine(aR (e:=[A0,Zl [.int p],Zn,Zn,Zn,Zn,Zn,Zn,Zn,Zn,Zn,Zn]) ?_).trans ?_
 ·rw[<-hA];exact(BR (bC (by rfl) hp)).trans rfl
 refine(aR (e:=[A0,Zl [.int n],Zf (.tup rs),Zn,Zn,Zn,Zn,Zn,Zn,Zn,Zn,Zn]) ?_).trans ?_
 ·exact cC (d:=.tup rs) (e:=[A0,Zl [.int n],Zn,Zn,Zn,Zn,Zn,Zn,Zn,Zn,Zn,Zn]) (iC (x:=.lst [.int p]) (x0:=.lst [.int p]) (ds:=[]) (e1:=[A0,Zl [.int p],Zn,Zn,Zn,Zn,Zn,Zn,Zn,Zn,Zn,Zn]) (by rfl) (by rfl) (by rfl) hst) (by rfl)
 refine(aR (e:=[A0,Zl [.int n],Zf (.tup rs),Zs x,Zn,Zn,Zn,Zn,Zn,Zn,Zn,Zn]) ?_).trans ?_
 ·exact cC (bC (ds:=[.tup rs]) (by rfl) hsn) (by rfl)
 refine(aR (e:=[A0,Zl [.int n1],Zf (.tup rs),Zs x,Zf (.tup [s,.tup Rs0]),Zn,Zn,Zn,Zn,Zn,Zn,Zn]) ?_).trans ?_
 ·exact cC (iC (by rfl) (by rfl) (by rfl) hor) (by rfl)
 refine(aR (e:=[A0,Zl [.int n2],Zf (.tup rs),Zs x,Zf (.tup [s,.tup Rs]),Zn,Zn,Zn,Zn,Zn,Zn,Zn]) ?_).trans ?_
 ·refine cC (d:=.tup [s,.tup Rs]) (e:=[A0,Zl [.int n2],Zf (.tup rs),Zs x,Zf (.tup [s,.tup Rs0]),Zn,Zn,Zn,Zn,Zn,Zn,Zn]) (p7 (bw (d:=s) (by rfl) (bw ?_ cL)) Ev.zz2) (by rfl);refine cA (x:=.tup Rs0) (y:=.tup [.tup [wy,ch,l,r]]) (by rfl) (p7 (bw (e1:=[A0,Zl [.int n2],Zf (.tup rs),Zs x,Zf (.tup [s,.tup Rs0]),Zn,Zn,Zn,Zn,Zn,Zn,Zn]) ?_ cL) Ev.zz1) ga;exact iC (e1:=[A0,Zl [.int n1],Zf (.tup rs),Zs x,Zf (.tup [s,.tup Rs0]),Zn,Zn,Zn,Zn,Zn,Zn,Zn]) (by rfl) (by rfl) (by rfl) hru
 refine(aR (e:=[A0,Zl [.int n2],Zf (.tup rs),Zs x,Zf (.tup [s,.tup Rs]),Zl [.int q],Zn,Zn,Zn,Zn,Zn,Zn]) ?_).trans ?_
 ·rw[<-hA];exact(BR (bC (by rfl) hq)).trans rfl
 refine(aR (e:=[A0,Zl [.int n2],Zf (.tup rs),Zs x,Zf (.tup [s,.tup Rs]),Zl [.int q],(Zf (.lst (rows (perms Rs.length Rs.length)))),Zn,Zn,Zn,Zn,Zn]) ?_).trans ?_
 ·exact cC (bC (ds:=[.tup [s,.tup Rs]]) (by rfl) ho) (by rfl)
 refine(aR (e:=[A0,Zl [.int n2],Zf (.tup rs),Zs x,Zf (.tup [s,.tup Rs]),Zl [.int q],(Zf (.lst (rows (perms Rs.length Rs.length)))),Zf (bk []),Zn,Zn,Zn,Zn]) (by rfl)).trans ?_;exact(aR hbk).trans he
end mj
end
namespace mj
open PySem PySem.Spec PyProof.Rows L2 Ev
theorem all_mk{P:Program}{w:World}{K:Fg}{h:Heap}{mg:Str->Option Value}{fa:Addr}(X:K.In h)(G:h.Ns mainGlobals mg)(hfa:mg "law" = some (.ref fa))
  {agI:Tok} {VN:Tok} {BK:Tok} {JB:Tok} {Jz:Tok} {Jy:Tok} {Fl:Tok} {Og:Addr} {aa8:Nat} {W5:Array (Option Value)} {W4 W3:Tok} {Uw:Addr} {aej:Nat} {aa5:Array (Option Value)} {aa4 aa3:Tok} {xP:Addr} {Oe:Nat} {Io Il Ij Ih Ie HX HS HQ HJ HF DX DR DP DK:Tok} {HB Hx Hv Ht Hr Ho Hm Hk Hi Hg Dz Dw Du wF:Value} {RX:Nat} {N7:Array (Option Value)} {Ds:Addr} {xK xJ:Tok} {xO:Addr} {Od:Nat} {Im Ik Ii Ig HY HW HR HN HH HD DW DQ DN DG:Tok} {Hy Hw Hu Hs Hq Hn Hl Hj Hh Hf Dy Dv Dt wD:Value}
  (apY:PySem.W.nsIn K mainGlobals "all" = some none) (apW:PySem.W.nsIn K mainGlobals "any" = some none) (aoo:PySem.W.nsIn K mainGlobals "bool" = some none) (aon:PySem.W.nsIn K mainGlobals "dict" = some none) (akM:PySem.W.nsIn K mainGlobals "divmod" = some none) (afz:PySem.W.nsIn K mainGlobals "enumerate" = some none) (apV:PySem.W.nsIn K mainGlobals "int" = some none) (acn:PySem.W.nsIn K mainGlobals "isinstance" = some none) (apU:PySem.W.nsIn K mainGlobals "len" = some none) (aom:PySem.W.nsIn K mainGlobals "list" = some none) (anO:PySem.W.nsIn K mainGlobals "range" = some none) (akL:PySem.W.nsIn K mainGlobals "sorted" = some none) (apT:PySem.W.nsIn K mainGlobals "str" = some none) (anN:PySem.W.nsIn K mainGlobals "tuple" = some none) (apS:PySem.W.nsIn K mainGlobals "zip" = some none) (Dn:∀d:D,PySem.W.kitOne K (.type (Vp d)) (.type "bool")=some (jP d "bool")) (KH:∀d:D,PySem.W.kitOne K (.type (Vp d)) (.type "int")=some (jP d "int")) (Be:∀d:D,PySem.W.kitOne K (.type (Vp d)) (.type "str")=some (jP d "str")) (fO:∀d:D,PySem.W.kitOne K (.type (Vp d)) (.type "tuple")=some (jP d "tuple")) (apt:PySem.W.nsIn K mainGlobals "EDGE" = some (some (.str "#" agI))) (akt:PySem.W.nsIn K mainGlobals "LETTERS" = some (some (.str "abcdefghijklmnopqrstuvwxyz" VN))) (aba:PySem.W.nsIn K mainGlobals "MOST_LETTERS" = some (some (.int 8 BK))) (aeq:PySem.W.nsIn K mainGlobals "MOST_MARKS" = some (some (.int 4 JB))) (aep:PySem.W.nsIn K mainGlobals "MOST_PAIRS" = some (some (.int 6 Jz))) (aeo:PySem.W.nsIn K mainGlobals "MOST_RULES" = some (some (.int 4 Jy))) (ab3:PySem.W.nsIn K mainGlobals "MOST_SOUNDS" = some (some (.int 4 Fl))) (an9:PySem.W.nsIn K mainGlobals "SIDES" = some (some (.ref Og))) (jX:K.lookup Og=some ⟨.type "tuple",none,.seq #[.str "left" W4,.str "right" W3] aa8,W5⟩) (aps:PySem.W.nsIn K mainGlobals "WAYS" = some (some (.ref Uw))) (uV:K.lookup Uw=some ⟨.type "tuple",none,.seq #[.str "once" aa4,.str "along" aa3] aej,aa5⟩) (aen:PySem.W.nsIn K mainGlobals "PARTS" = some (some (.ref xP))) (aa7:(xP == sysModules)=false) (xM:K.lookup xP=some ⟨.type "dict",none,.dict #[⟨PyData.keyHash w.params (strOf [109,97,107,101,115]),.str (strOf [109,97,107,101,115]) Io,HB⟩,⟨PyData.keyHash w.params (strOf [109,97,99,104,105,110,101]),.str (strOf [109,97,99,104,105,110,101]) Il,Hx⟩,⟨PyData.keyHash w.params (strOf [97,108,105,107,101]),.str (strOf [97,108,105,107,101]) Ij,Hv⟩,⟨PyData.keyHash w.params (strOf [112,97,114,116,101,100]),.str (strOf [112,97,114,116,101,100]) Ih,Ht⟩,⟨PyData.keyHash w.params (strOf [110,111,32,115,111,117,114,99,101]),.str (strOf [110,111,32,115,111,117,114,99,101]) Ie,Hr⟩,⟨PyData.keyHash w.params (strOf [101,110,100,108,101,115,115]),.str (strOf [101,110,100,108,101,115,115]) HX,Ho⟩,⟨PyData.keyHash w.params (strOf [110,111,32,99,111,109,109,111,110]),.str (strOf [110,111,32,99,111,109,109,111,110]) HS,Hm⟩,⟨PyData.keyHash w.params (strOf [97,99,116,115]),.str (strOf [97,99,116,115]) HQ,Hk⟩,⟨PyData.keyHash w.params (strOf [110,101,118,101,114]),.str (strOf [110,101,118,101,114]) HJ,Hi⟩,⟨PyData.keyHash w.params (strOf [109,97,107,101,115,32,119,97,121]),.str (strOf [109,97,107,101,115,32,119,97,121]) HF,Hg⟩,⟨PyData.keyHash w.params (strOf [116,97,107,101,115]),.str (strOf [116,97,107,101,115]) DX,Dz⟩,⟨PyData.keyHash w.params (strOf [110,111,32,119,97,121]),.str (strOf [110,111,32,119,97,121]) DR,Dw⟩,⟨PyData.keyHash w.params (strOf [110,111,32,116,97,107,105,110,103]),.str (strOf [110,111,32,116,97,107,105,110,103]) DP,Du⟩,⟨PyData.keyHash w.params (strOf [113,117,97,114,114,101,108]),.str (strOf [113,117,97,114,114,101,108]) DK,wF⟩] Oe, #[]⟩) (R4:wF = .ref Ds) (R0:K.lookup Ds=some ⟨.type "tuple",none,.seq #[.str (strOf [111,114,100,101,114]) xK,.str (strOf [98,111,111,107]) xJ] RX,N7⟩) (aem:PySem.W.nsIn K mainGlobals "SHOWN" = some (some (.ref xO))) (aa6:(xO == sysModules)=false) (DY:K.lookup xO=some ⟨.type "dict",none,.dict #[⟨PyData.keyHash w.params (strOf [109,97,107,101,115]),.str (strOf [109,97,107,101,115]) Im,Hy⟩,⟨PyData.keyHash w.params (strOf [109,97,99,104,105,110,101]),.str (strOf [109,97,99,104,105,110,101]) Ik,Hw⟩,⟨PyData.keyHash w.params (strOf [97,108,105,107,101]),.str (strOf [97,108,105,107,101]) Ii,Hu⟩,⟨PyData.keyHash w.params (strOf [112,97,114,116,101,100]),.str (strOf [112,97,114,116,101,100]) Ig,Hs⟩,⟨PyData.keyHash w.params (strOf [110,111,32,115,111,117,114,99,101]),.str (strOf [110,111,32,115,111,117,114,99,101]) HY,Hq⟩,⟨PyData.keyHash w.params (strOf [101,110,100,108,101,115,115]),.str (strOf [101,110,100,108,101,115,115]) HW,Hn⟩,⟨PyData.keyHash w.params (strOf [110,111,32,99,111,109,109,111,110]),.str (strOf [110,111,32,99,111,109,109,111,110]) HR,Hl⟩,⟨PyData.keyHash w.params (strOf [97,99,116,115]),.str (strOf [97,99,116,115]) HN,Hj⟩,⟨PyData.keyHash w.params (strOf [110,101,118,101,114]),.str (strOf [110,101,118,101,114]) HH,Hh⟩,⟨PyData.keyHash w.params (strOf [109,97,107,101,115,32,119,97,121]),.str (strOf [109,97,107,101,115,32,119,97,121]) HD,Hf⟩,⟨PyData.keyHash w.params (strOf [116,97,107,101,115]),.str (strOf [116,97,107,101,115]) DW,Dy⟩,⟨PyData.keyHash w.params (strOf [110,111,32,119,97,121]),.str (strOf [110,111,32,119,97,121]) DQ,Dv⟩,⟨PyData.keyHash w.params (strOf [110,111,32,116,97,107,105,110,103]),.str (strOf [110,111,32,116,97,107,105,110,103]) DN,Dt⟩,⟨PyData.keyHash w.params (strOf [113,117,97,114,114,101,108]),.str (strOf [113,117,97,114,114,101,108]) DG,wD⟩] Od, #[]⟩) (R5:PySem.W.nsIn K mainGlobals "quarrel_shown" = some (some wD)) (akH:FA K "is_name" yP) (aj4:FA K "is_sound" v8) (aoc:FA K "rises" J0) (akG:FA K "is_pair" yO) (ago:FA K "are_marks" ur) (Vi:FA K "is_marked_sound" mG) (agf:FA K "sounds_of" tZ) (aj2:FA K "is_stock" vZ) (akC:FA K "is_word" yK) (X3:FA K "changes_sound" oO) (ab6:FA K "puts_one_in" qy) (aca:FA K "are_changes" qF) (agm:FA K "are_signs" uo) (akE:FA K "is_rule" yM) (aj5:FA K "is_order" v9) (apH:FA K "fits" Rh) (anw:FA K "turned" Ck) (akA:FA K "puts_in" yH) (ab5:FA K "with_put_in" qx) (abL:FA K "with_changes" pP) (agl:FA K "from_left" um) (akJ:FA K "changed" yR) (apE:FA K "walk" Rc) (apF:FA K "made" Rf) (aj1:FA K "is_whole" vY) (Vh:FA K "is_number_below" mF) (anz:FA K "is_row" Cp) (akD:FA K "is_step" yL) (aj3:FA K "is_state" v7) (afe:FA K "is_machine" rM) (abM:FA K "is_told_pair" pQ) (akI:FA K "is_book" yQ) (X4:FA K "all_orderings" oR) (apG:FA K "laid" Rg) (ae9:FA K "pairs_told" rE) (afd:FA K "is_quarrel" rK) (akz:FA K "quarrel" yG) (aky:FA K "told_by" yF) (XR:FA K "paper_quarrel" oM) (akF:FA K "is_part" yN) (agn:FA K "are_parts" uq) (akB:FA K "layings" yJ) (tH:FA K "quarrel_shown" oK) (aod:FA K "holds" J1) (agk:FA K "_law_mixed" uh) (ajX:FA K "_law_pack" vU) (ajV:FA K "_law_take" vQ) (agh:FA K "_law_stock" ue) (afb:FA K "_law_sounds" rH) (agi:FA K "_law_signs" uf) (ab7:FA K "_law_changes" qz) (ajW:FA K "_law_rule" vR) (agj:FA K "_law_order" ug) (ajT:FA K "_law_word" vO) (aj0:FA K "_law_fits" vX) (afc:FA K "_law_put_in" rJ) (ab8:FA K "_law_changed" qC) (afa:FA K "_law_turned" rG) (ab9:FA K "_law_by_side" qD) (ajU:FA K "_law_walk" vP) (ajY:FA K "_law_made" vV) (XX:FA K "_law_orderings" oN) (ajZ:FA K "_law_laid" vW) (agg:FA K "_law_tells" t6) (Xx:FA K "_law_some_tells" m9) (Vg:FA K "_law_pairs_right" mD) (Qg:FA K "_law_numbers_right" lg) (anx:FA K "law" YX) :
  ∃fd:FuncData,(∀(s:Shared) (v:Value),BindsTo s fd ⟨[v],[]⟩ [("_law_script",v)])/\∀base:Heap,K.In base->base.Ns mainGlobals mg->qd P w K mg base Jk 10 fa fd ["_law_script"] (jQ K 1 UL):=
 anx.law X G hfa (λs v=>.of_eq rfl) λbase F=>ajv (by constructor<;>first|exact aoU X G (by assumption)|assumption|exact aek X G (by assumption) (by decide +kernel) (by decide)|exact ael X G (by assumption)|exact aa9 X G (by assumption) (by assumption) (.str (by decide +kernel) (by decide)) (.str (by decide +kernel) (by decide))|exact FA.a1 X G (by assumption)|exact FA.a2 X G (by assumption)|exact FA.a3 X G (by assumption)|exact FA.a4 X G (by assumption)|exact tH.val X G|exact⟨xP,_,Oe,Qj2 X G aen,aa7,xM,⟨Io,HB,_,rfl,(λ_ h=>nomatch h),⟨Il,Hx,_,rfl,(λ_ h=>nomatch h),⟨Ij,Hv,_,rfl,(λ_ h=>nomatch h),⟨Ih,Ht,_,rfl,(λ_ h=>nomatch h),⟨Ie,Hr,_,rfl,(λ_ h=>nomatch h),⟨HX,Ho,_,rfl,(λ_ h=>nomatch h),⟨HS,Hm,_,rfl,(λ_ h=>nomatch h),⟨HQ,Hk,_,rfl,(λ_ h=>nomatch h),⟨HJ,Hi,_,rfl,(λ_ h=>nomatch h),⟨HF,Hg,_,rfl,(λ_ h=>nomatch h),⟨DX,Dz,_,rfl,(λ_ h=>nomatch h),⟨DR,Dw,_,rfl,(λ_ h=>nomatch h),⟨DP,Du,_,rfl,(λ_ h=>nomatch h),⟨DK,wF,_,rfl,(λ_ h=>by cases h;subst R4;exact Ys (zs:=[[111,114,100,101,114],[98,111,111,107]]) (ts:=[xK,xJ]) R0 rfl rfl (by decide)),rfl⟩⟩⟩⟩⟩⟩⟩⟩⟩⟩⟩⟩⟩⟩,by decide +kernel⟩|exact⟨xO,_,Od,Qj2 X G aem,aa6,DY,⟨Im,Hy,_,rfl,(λ_ h=>nomatch h),⟨Ik,Hw,_,rfl,(λ_ h=>nomatch h),⟨Ii,Hu,_,rfl,(λ_ h=>nomatch h),⟨Ig,Hs,_,rfl,(λ_ h=>nomatch h),⟨HY,Hq,_,rfl,(λ_ h=>nomatch h),⟨HW,Hn,_,rfl,(λ_ h=>nomatch h),⟨HR,Hl,_,rfl,(λ_ h=>nomatch h),⟨HN,Hj,_,rfl,(λ_ h=>nomatch h),⟨HH,Hh,_,rfl,(λ_ h=>nomatch h),⟨HD,Hf,_,rfl,(λ_ h=>nomatch h),⟨DW,Dy,_,rfl,(λ_ h=>nomatch h),⟨DQ,Dv,_,rfl,(λ_ h=>nomatch h),⟨DN,Dt,_,rfl,(λ_ h=>nomatch h),⟨DG,wD,_,rfl,(λ_ h=>by cases h;exact tH.valAt R5),rfl⟩⟩⟩⟩⟩⟩⟩⟩⟩⟩⟩⟩⟩⟩,by decide +kernel⟩) F
end mj
theorem PySem.W.Fast.tw11641720936157660303:True:=trivial
theorem PySem.W.Fast.tw5316062130308511926:True:=trivial
theorem PySem.W.Fast.tw12502444547423242337:True:=trivial
theorem PySem.W.Fast.tw3071414129488479899:True:=trivial
theorem PySem.W.Fast.tw7835062273038647047:True:=trivial
theorem PySem.W.Fast.tw15629456522298634310:True:=trivial
theorem PySem.W.Fast.tw9949049045637864656:True:=trivial
theorem PySem.W.Fast.tw10779035288014470763:True:=trivial
theorem PySem.W.Fast.tw12559148306784763346:True:=trivial
theorem PySem.W.Fast.tw1974283497085164824:True:=trivial
theorem PySem.W.Fast.tw11273486061096391482:True:=trivial
theorem PySem.W.Fast.tw3450580305059409843:True:=trivial
theorem PySem.W.Fast.tw15154977120697786062:True:=trivial
theorem PySem.W.Fast.tw1379508821344469596:True:=trivial
theorem PySem.W.Fast.tw15092664165798965473:True:=trivial
theorem PySem.W.Fast.tw8787729492251170477:True:=trivial
theorem PySem.W.Fast.tw5634488887772235597:True:=trivial
theorem PySem.W.Fast.tw8582769654590627762:True:=trivial
theorem PySem.W.Fast.tw2272778877977158462:True:=trivial
theorem PySem.W.Fast.tw2562833707512936043:True:=trivial
theorem PySem.W.Fast.tw13728302123539042397:True:=trivial
theorem PySem.W.Fast.tw6625386058197794259:True:=trivial
theorem PySem.W.Fast.tw18401191664245396622:True:=trivial
theorem PySem.W.Fast.tw13995051516225140586:True:=trivial
theorem PySem.W.Fast.tw7092341819615700154:True:=trivial
theorem PySem.W.Fast.tw3812173498180164555:True:=trivial
theorem PySem.W.Fast.tw8314333696396176517:True:=trivial
theorem PySem.W.Fast.tw13050216152893886825:True:=trivial
theorem PySem.W.Fast.tw4937126158075487479:True:=trivial
theorem PySem.W.Fast.tw16842509623382415485:True:=trivial
theorem PySem.W.Fast.tw435957452127084599:True:=trivial
theorem PySem.W.Fast.tw1185257257365736578:True:=trivial
theorem PySem.W.Fast.tw2392281099636372216:True:=trivial
theorem PySem.W.Fast.tw7638384230320133403:True:=trivial
theorem PySem.W.Fast.tw6495694385378941192:True:=trivial
theorem PySem.W.Fast.tw3800778402349992559:True:=trivial
theorem PySem.W.Fast.tw4019864629371567544:True:=trivial
theorem PySem.W.Fast.tw5980840102488080573:True:=trivial
theorem PySem.W.Fast.tw10334718128810948747:True:=trivial
theorem PySem.W.Fast.tw9465400982049062488:True:=trivial
theorem PySem.W.Fast.tw4197921149957403737:True:=trivial
theorem PySem.W.Fast.tw11045358549034513354:True:=trivial
theorem PySem.W.Fast.tw10992924224846057564:True:=trivial
theorem PySem.W.Fast.tw14697002760575022803:True:=trivial
theorem PySem.W.Fast.tw9165478981158157907:True:=trivial
theorem PySem.W.Fast.tw12871355463747382928:True:=trivial
theorem PySem.W.Fast.tw14716137627049177892:True:=trivial
theorem PySem.W.Fast.tw8477494018420585209:True:=trivial
theorem PySem.W.Fast.tw10802906451272877159:True:=trivial
theorem PySem.W.Fast.tw15050239382064290820:True:=trivial
theorem PySem.W.Fast.tw3377263853703483950:True:=trivial
theorem PySem.W.Fast.tw3584708580450223561:True:=trivial
theorem PySem.W.Fast.tw9901466475816375423:True:=trivial
theorem PySem.W.Fast.tw15622195195952186385:True:=trivial
theorem PySem.W.Fast.tw2945709000693687228:True:=trivial
theorem PySem.W.Fast.tw14590326040921693002:True:=trivial
theorem PySem.W.Fast.tw18116589551566433419:True:=trivial
theorem PySem.W.Fast.tw6728593645526278855:True:=trivial
theorem PySem.W.Fast.tw11812743364065713408:True:=trivial
theorem PySem.W.Fast.tw9322813518923364147:True:=trivial
theorem PySem.W.Fast.tw15072168585763919699:True:=trivial
theorem PySem.W.Fast.tw10858788990809560210:True:=trivial
theorem PySem.W.Fast.tw3137076518981625037:True:=trivial
theorem PySem.W.Fast.tw15049801408701399092:True:=trivial
theorem PySem.W.Fast.tw4469806116651400659:True:=trivial
theorem PySem.W.Fast.tw11265008417559838770:True:=trivial
theorem PySem.W.Fast.tw16865772609250377966:True:=trivial
theorem PySem.W.Fast.tw11735865063761103220:True:=trivial
theorem PySem.W.Fast.tw2075564424306416386:True:=trivial
theorem PySem.W.Fast.tw14032579116182124000:True:=trivial
theorem PySem.W.Fast.tw1703483309516646383:True:=trivial
theorem PySem.W.Fast.tw1266723447084537775:True:=trivial
theorem PySem.W.Fast.tw12638272237595574101:True:=trivial
theorem PySem.W.Fast.tw1778282397989363539:True:=trivial
theorem PySem.W.Fast.tw14356824187186367806:True:=trivial
theorem PySem.W.Fast.tw10427681202648476073:True:=trivial
theorem PySem.W.Fast.tw13840831506057695060:True:=trivial
theorem PySem.W.Fast.tw1288245073421480988:True:=trivial
theorem PySem.W.Fast.tw11392126566107959468:True:=trivial
theorem PySem.W.Fast.tw15580029058115530961:True:=trivial
theorem PySem.W.Fast.tw3409660761755797775:True:=trivial
theorem PySem.W.Fast.tw3048387910335092610:True:=trivial
theorem PySem.W.Fast.tw6484846606414538411:True:=trivial
theorem PySem.W.Fast.tw1913142219369786675:True:=trivial
theorem PySem.W.Fast.tw15165387770416241282:True:=trivial
theorem PySem.W.Fast.tw9128532956889588656:True:=trivial
theorem PySem.W.Fast.tw9258001188315706853:True:=trivial
theorem PySem.W.Fast.tw5741605113711798752:True:=trivial
theorem PySem.W.Fast.tw3089920100523078545:True:=trivial
theorem PySem.W.Fast.tw12442963884367597428:True:=trivial
theorem PySem.W.Fast.tw3865138333220727607:True:=trivial
theorem PySem.W.Fast.tw15913516755876687513:True:=trivial
theorem PySem.W.Fast.tw14645054927882514895:True:=trivial
theorem PySem.W.Fast.tw17236471888378832452:True:=trivial
theorem PySem.W.Fast.tw13907908854994635369:True:=trivial
theorem PySem.W.Fast.tw8150804497984549270:True:=trivial
theorem PySem.W.Fast.tw8198478429815670051:True:=trivial
theorem PySem.W.Fast.tw7122941157274591448:True:=trivial
theorem PySem.W.Fast.tw10129647321832509472:True:=trivial
theorem PySem.W.Fast.tw16907832758859913622:True:=trivial
theorem PySem.W.Fast.tw17601658554942928083:True:=trivial
theorem PySem.W.Fast.tw1194275141146005472:True:=trivial
theorem PySem.W.Fast.tw10454023740182648615:True:=trivial
theorem PySem.W.Fast.tw6774997694275745827:True:=trivial
theorem PySem.W.Fast.tw9931982373445054759:True:=trivial
theorem PySem.W.Fast.tw18221714071081581909:True:=trivial
theorem PySem.W.Fast.tw6732353252510973178:True:=trivial
theorem PySem.W.Fast.tw15726726408894782584:True:=trivial
theorem PySem.W.Fast.tw810706348728661615:True:=trivial
theorem PySem.W.Fast.tw5140801710232413117:True:=trivial
theorem PySem.W.Fast.tw12516927628683544062:True:=trivial
theorem PySem.W.Fast.tw13137828436381046493:True:=trivial
theorem PySem.W.Fast.tw9980527298373583616:True:=trivial
theorem PySem.W.Fast.tw10563295393163736011:True:=trivial
theorem PySem.W.Fast.tw11818500310243284477:True:=trivial
theorem PySem.W.Fast.tw16990723211287887238:True:=trivial
theorem PySem.W.Fast.tw4536877611817745818:True:=trivial
open PySem PySem.W PyProof.Rows
set_option maxRecDepth 100000 in
set_option maxHeartbeats 0 in
theorem PySem.Challenge.cw_soundrules_k71_whole_papers_of_books_holds : PySem.Challenge.rw_soundrules_k71_whole_papers_of_books.Holds := by
 w_on;o_law;k_head;(case hw=>w_witness2)
 k_fill
 refine Ev.akN (l:=PySem.Challenge.rw_soundrules_k71_whole_papers_of_books) (k:=10) (x:="_law_script") (f:=mj.UL) rfl (by decide) rfl ⟨rfl,by decide,by decide⟩ (λw h Y=>PySem.W.km_in_of Y) mj.Yt ?F
 case F=>
  intro w mg fa h KX G hmg
  refine' mj.all_mk KX G hmg ..
  all_goals try first|(intro d;cases d<;>first|(show PySem.W.kitOne _ (.type "NoneType") _=_;kit_is)|(show PySem.W.kitOne _ (.type "bool") _=_;kit_is)|(show PySem.W.kitOne _ (.type "int") _=_;kit_is)|(show PySem.W.kitOne _ (.type "str") _=_;kit_is)|(show PySem.W.kitOne _ (.type "tuple") _=_;kit_is)|(show PySem.W.kitOne _ (.type "list") _=_;kit_is)|(show PySem.W.kitOne _ (.type "dict") _=_;kit_is))|(show(_ == sysModules)=false;rfl)|(show(_:Value)=_;rfl)|k_is|(refine' Ev.FA.mk ?a ?l ?c ?k;(case a=>k_is);(case l=>k_is);(case c=>k_is);(case k=>k_is))|(refine' Ev.FC.mk ?a ?l ?c ?k ?lc ?v;(case a=>k_is);(case l=>k_is);(case c=>k_is);(case k=>k_is);(case lc=>k_is);(case v=>exact rfl))
