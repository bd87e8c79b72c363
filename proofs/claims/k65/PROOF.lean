import PyProof.Rows.All
import Wide.All
import OpenK.AllK
import Wide.FinOn
import Lean
import PyProof.EqAt
import PyProof.EqKinds
import PyProof.TupleCall
import PyProof.TupleKey
import PyProof.DictRoadsH
import PyProof.FactsAll.bool_1
import PyProof.AttrMissHeap
import KE.KDictOf
import PyProof.ListMulRoad
import PyProof.FactsAll.tuple_2
import KE.KSortTup
import PyProof.TupleOfSeq
import PyProof.Rows.SortRuns
import PyProof.ListRange
import PyProof.DictTable
import PyProof.Rows.TupTab
import PyProof.FactsAll.range_1
import KE.KDictList
import PyProof.SetRoads
import PyProof.DictTruth
import PyProof.RulesTry
import KE.KIsAll
import KE.KTryDeep
import PyProof.ExcArgsOwn
import PyProof.ExcAttrAll.ValueError
import PyProof.InstStoreFacts
import PyProof.ExcInit
import PyProof.SumAnyB
import PyProof.ToksMono
import PyProof.StrReplace2
import PySem.Challenge.RW_soundrules_k65_quarrels_judged
noncomputable section
set_option Elab.async false
set_option linter.all false
set_option maxRecDepth 100000
set_option maxHeartbeats 4000000
theorem Qqq:type_of% @PySem.wpAny_bind:=@PySem.wpAny_bind
theorem Qqx:type_of% @PySem.Heap.get?_push_of_some:=@PySem.Heap.get?_push_of_some
theorem Qqz:type_of% @List.length_map:=@List.length_map
theorem Qqj:type_of% @Nat.le_trans:=@Nat.le_trans
theorem Qqk:type_of% @PySem.wpAny_pure:=@PySem.wpAny_pure
theorem Qqv:type_of% @Nat.le_refl:=@Nat.le_refl
theorem Qqw:type_of% @List.length_cons:=@List.length_cons
theorem Qqy:type_of% @List.mem_cons_of_mem:=@List.mem_cons_of_mem
theorem Qq0:type_of% @PySem.Heap.lt_size:=@PySem.Heap.lt_size
theorem Qq1:type_of% @List.length_append:=@List.length_append
theorem Qq2:type_of% @List.map_cons:=@List.map_cons
theorem Qq3:type_of% @List.mem_cons_self:=@List.mem_cons_self
theorem Qq4:type_of% @PySem.Heap.get?_push_size:=@PySem.Heap.get?_push_size
theorem Qq5:type_of% @List.size_toArray:=@List.size_toArray
theorem Qq6:type_of% @List.getElem?_eq_getElem:=@List.getElem?_eq_getElem
theorem Qq7:type_of% @List.mem_append_right:=@List.mem_append_right
theorem Qq8:type_of% @List.mem_cons:=@List.mem_cons
theorem Qq9:type_of% @List.mem_singleton:=@List.mem_singleton
theorem Qwq:type_of% @List.getElem?_set_ne:=@List.getElem?_set_ne
theorem Qwx:type_of% @Bool.false_ne_true:=@Bool.false_ne_true
theorem Qwz:type_of% @List.getElem?_eq_some_iff:=@List.getElem?_eq_some_iff
theorem Qwj:type_of% @decide_eq_false:=@decide_eq_false
theorem Qwk:type_of% @Nat.lt_of_lt_of_le:=@Nat.lt_of_lt_of_le
theorem Qwv:type_of% @Nat.ne_of_lt:=@Nat.ne_of_lt
theorem Qww:type_of% @Option.map_eq_some_iff:=@Option.map_eq_some_iff
theorem Qwy:type_of% @PySem.wpAny_mono:=@PySem.wpAny_mono
theorem Qw0:type_of% @Nat.lt_of_le_of_lt:=@Nat.lt_of_le_of_lt
theorem Qw1:type_of% @List.all_eq_true:=@List.all_eq_true
theorem Qw2:type_of% @decide_eq_true:=@decide_eq_true
theorem Qw3:type_of% @List.mem_map:=@List.mem_map
theorem Qw4:type_of% @Option.some.inj:=@Option.some.inj
theorem Qw5:type_of% @List.length_replicate:=@List.length_replicate
theorem Qw6:type_of% @List.getElem?_map:=@List.getElem?_map
theorem Qw7:type_of% @List.mem_append:=@List.mem_append
theorem Qw8:type_of% @Option.isSome_iff_exists:=@Option.isSome_iff_exists
theorem Qw9:type_of% @List.getD_eq_getElem?_getD:=@List.getD_eq_getElem?_getD
theorem Qxq:type_of% @List.getElem_mem:=@List.getElem_mem
theorem Qxx:type_of% @Nat.zero_le:=@Nat.zero_le
theorem Qxz:type_of% @PyProof.Rows.callWith_type1:=@PyProof.Rows.callWith_type1
theorem Qxj:type_of% @beq_eq_false_iff_ne:=@beq_eq_false_iff_ne
theorem Qxk:type_of% @List.map_append:=@List.map_append
theorem Qxv:type_of% @List.append_nil:=@List.append_nil
theorem Qxw:type_of% @Int.toNat_natCast:=@Int.toNat_natCast
theorem Qxy:type_of% @List.getElem?_set_self:=@List.getElem?_set_self
theorem Qx0:type_of% @List.mem_range:=@List.mem_range
theorem Qx1:type_of% @Option.bind_eq_some_iff:=@Option.bind_eq_some_iff
theorem Qx2:type_of% @PySem.wpAny_truthy_bool:=@PySem.wpAny_truthy_bool
theorem Qx3:type_of% @List.getElem?_append_left:=@List.getElem?_append_left
theorem Qx4:type_of% @List.drop_eq_getElem_cons:=@List.drop_eq_getElem_cons
theorem Qx5:type_of% @List.length_take:=@List.length_take
theorem Qx6:type_of% @Nat.lt_irrefl:=@Nat.lt_irrefl
theorem Qx7:type_of% @Array.length_toList:=@Array.length_toList
theorem Qx8:type_of% @of_decide_eq_true:=@of_decide_eq_true
theorem Qx9:type_of% @Nat.le_of_ble_eq_true:=@Nat.le_of_ble_eq_true
theorem Qzq:type_of% @PySem.Heap.size_push:=@PySem.Heap.size_push
theorem Qzx:type_of% @congrArg:=@congrArg
theorem Qzz:type_of% @PySem.wpAny_callSpecial?_slot:=@PySem.wpAny_callSpecial?_slot
theorem Qzj:type_of% @PySem.wpAny_field:=@PySem.wpAny_field
theorem Qzk:type_of% @List.getElem?_cons_succ:=@List.getElem?_cons_succ
theorem Qzv:type_of% @PySem.wpAny_call_entry:=@PySem.wpAny_call_entry
theorem Qzw:type_of% @PyProof.Rows.slot_tuple_getitem:=@PyProof.Rows.slot_tuple_getitem
theorem Qzy:type_of% @PySem.wpAny_newObj_type:=@PySem.wpAny_newObj_type
theorem Qz0:type_of% @PySem.wpAny_standAt:=@PySem.wpAny_standAt
theorem Qz1:type_of% @List.length_singleton:=@List.length_singleton
theorem Qz2:type_of% @List.map_map:=@List.map_map
theorem Qz3:type_of% @List.nodup_cons:=@List.nodup_cons
theorem Qz4:type_of% @List.length_set:=@List.length_set
theorem Qz5:type_of% @Nat.ne_of_gt:=@Nat.ne_of_gt
theorem Qz6:type_of% @List.pairwise_cons:=@List.pairwise_cons
theorem Qz7:type_of% @List.eq_nil_of_length_eq_zero:=@List.eq_nil_of_length_eq_zero
theorem Qz8:type_of% @PySem.wpAny_seqItems:=@PySem.wpAny_seqItems
theorem Qz9:type_of% @List.foldl_cons:=@List.foldl_cons
theorem Qjq:type_of% @List.take_of_length_le:=@List.take_of_length_le
theorem Qjx:type_of% @List.getElem?_append_right:=@List.getElem?_append_right
theorem Qjz:type_of% @List.length_drop:=@List.length_drop
theorem Qjj:type_of% @PySem.wpAny_holding:=@PySem.wpAny_holding
theorem Qjk:type_of% @PySem.wpAny_setField_rec:=@PySem.wpAny_setField_rec
theorem Qjv:type_of% @List.getElem?_eq_none:=@List.getElem?_eq_none
theorem Qjw:type_of% @Bool.and_eq_true_iff:=@Bool.and_eq_true_iff
theorem Qjy:type_of% @Option.some.injEq:=@Option.some.injEq
theorem Qj0:type_of% @PySem.mem_of_lookup:=@PySem.mem_of_lookup
theorem Qj1:type_of% @PySem.W.mg_of:=@PySem.W.mg_of
theorem Qj2:type_of% @List.lookup_cons:=@List.lookup_cons
theorem Qj3:type_of% @Bool.and_eq_true:=@Bool.and_eq_true
theorem Qj4:type_of% @List.find?_cons:=@List.find?_cons
theorem Qj5:type_of% @Bool.eq_iff_iff:=@Bool.eq_iff_iff
theorem Qj6:type_of% @List.of_mem_zip:=@List.of_mem_zip
theorem Qj7:type_of% @Option.map_some:=@Option.map_some
theorem Qj8:type_of% @Nat.le_of_succ_le:=@Nat.le_of_succ_le
theorem Qj9:type_of% @List.forIn_nil:=@List.forIn_nil
theorem Qkq:type_of% @Nat.le_of_lt:=@Nat.le_of_lt
abbrev oW(x:PySem.Str):Prop:=(x == ("__debug__" : PySem.Str))=false
abbrev yP(x:PySem.Str):Prop:=(x == ("__classdict__" : PySem.Str))=false
open PySem PySem.Spec PyProof.Rows in
abbrev O6(e:Expr)(E:PySem.Env):Prop:=starEach [e] E=(false,eval e E)::starEach [] E
namespace L2
open PySem PySem.Spec PyProof.Rows
inductive NK where
 | num (i:Int)
 | txt (x:Str)
 | tup (xs:List NK)
noncomputable instance:DecidableEq NK:=λ_ _=>Classical.propDecidable _
mutual
noncomputable def Rj(h:Heap):NK->Value->Prop
 | .num i,v=>(∃t,v = .int i t)\/∃b:Bool,v = .bool b/\i=if b then 1 else 0
 | .txt x,v=>∃t,v = .str x t
 | .tup ks,v=>∃a o items n,v = .ref a/\h.get? a=some o/\o.cls = .type "tuple"/\o.data = .seq items n/\rT h ks items.toList
noncomputable def rT(h:Heap):List NK->List Value->Prop
 | [],vs=>vs=[]
 | k::ks,vs=>∃v r,vs=v::r/\Rj h k v/\rT h ks r
end
mutual
noncomputable def NK.dep:NK->Nat
 | .num _=>0
 | .txt _=>0
 | .tup ks=>1+NK.My ks
noncomputable def NK.My:List NK->Nat
 | []=>0
 | k::ks=>max (NK.dep k) (NK.My ks)
end
mutual
noncomputable def NK.draws:NK->Nat
 | .num _=>1
 | .txt _=>1
 | .tup ks=>NK.zr ks+1
noncomputable def NK.zr:List NK->Nat
 | []=>0
 | k::ks=>NK.draws k+NK.zr ks
end
section
variable(P:Program)(w:World)
mutual
noncomputable def NK.hash:NK->Int
 | .num i=>hashInt i
 | .txt x=>(strKind P w).hash x
 | .tup ks=>reduceHash (Builtin.Tuple.tupleHashOf (NK.hashes ks))
noncomputable def NK.hashes:List NK->List Int
 | []=>[]
 | k::ks=>NK.hash k::NK.hashes ks
end
end
theorem rT.length:∀{ks} {vs},rT h ks vs->vs.length=ks.length
 | [],_,e=>by cases e;rfl
 | k::ks,_,e=>by obtain⟨v,r,rfl,_,q⟩:=e;rw[Qqw,Qqw,q.length]
theorem rT.get:∀{ks} {vs} {j:Nat} {v},rT h ks vs->vs[j]? = some v->∃k,ks[j]? = some k/\Rj h k v
 | [],_,_,_,e,g=>by cases e;simp at g
 | k::ks,_,j,v,e,g=>by
  obtain⟨u,r,rfl,h1,h2⟩:=e;cases j with
  | zero=>simp_all
  | succ j=>obtain⟨k',e1,e2⟩:=rT.get h2 (j:=j) (by simpa using g);exact⟨k',by simpa using e1,e2⟩
theorem NK.Fj:∀{ks} {j:Nat} {k},ks[j]? = some k->k.dep<=NK.My ks
 | [],_,_,e=>by simp at e
 | c::ks,j,k,e=>by
  unfold NK.My;cases j with
  | zero=>simp at e;subst e;exact Nat.le_max_left _ _
  | succ j=>exact Qqj (NK.Fj (j:=j) (by simpa using e)) (Nat.le_max_right _ _)
mutual
theorem Rj.inj{h:Heap}:∀{x y:NK} {v:Value},Rj h x v->Rj h y v->x=y
 | .num i,.num j,v,a,b=>by
  rcases a with ⟨t,rfl⟩|⟨c,rfl,rfl⟩
  ·rcases b with ⟨t',e⟩|⟨c,e,_⟩
   all_goals simp_all
  ·rcases b with ⟨t',e⟩|⟨c,e,rfl⟩
   all_goals simp_all
 | .num i,.txt x,v,a,b=>by obtain⟨t,rfl⟩:=b;rcases a with ⟨t',e⟩|⟨c,e,_⟩<;>cases e
 | .num i,.tup ks,v,a,b=>by obtain⟨_,_,_,_,rfl,_⟩:=b;rcases a with ⟨t',e⟩|⟨c,e,_⟩<;>cases e
 | .txt x,.num i,v,a,b=>by obtain⟨t,rfl⟩:=a;rcases b with ⟨t',e⟩|⟨c,e,_⟩<;>cases e
 | .txt x,.txt y,v,a,b=>by obtain⟨t,rfl⟩:=a;obtain⟨t',e⟩:=b;cases e;rfl
 | .txt x,.tup ks,v,a,b=>by obtain⟨t,rfl⟩:=a;obtain⟨_,_,_,_,e,_⟩:=b;cases e
 | .tup ks,.num i,v,a,b=>by obtain⟨_,_,_,_,rfl,_⟩:=a;rcases b with ⟨t',e⟩|⟨c,e,_⟩<;>cases e
 | .tup ks,.txt y,v,a,b=>by obtain⟨_,_,_,_,rfl,_⟩:=a;obtain⟨t',e⟩:=b;cases e
 | .tup ks,.tup ls,v,a,b=>by
  obtain⟨p,o,items,n,rfl,h1,_,h3,h4⟩:=a;obtain⟨p',o',items',n',e,h1',_,h3',h4'⟩:=b;cases e;rw[h1] at h1';cases h1';rw[h3] at h3';cases h3';rw[rT.inj h4 h4']
theorem rT.inj{h:Heap}:∀{x y:List NK} {v:List Value},rT h x v->rT h y v->x=y
 | [],[],_,_,_=>rfl
 | [],k::ks,_,a,b=>by cases a;obtain⟨_,_,e,_⟩:=b;cases e
 | k::ks,[],_,a,b=>by cases b;obtain⟨_,_,e,_⟩:=a;cases e
 | k::ks,l::ls,_,a,b=>by
  obtain⟨v,r,rfl,h1,h2⟩:=a;obtain⟨v',r',e,h1',h2'⟩:=b;cases e;rw[Rj.inj h1 h1',rT.inj h2 h2']
end
mutual
theorem Rj.keeps{h h':Heap}{d:Addr}{o:Obj}{es ep}(ho:h.get? d=some o)(hd:o.data = .dict es ep)(hs:Heap.SameBut d h h'):∀{k:NK} {v:Value},Rj h k v->Rj h' k v
 | .num _,_,e=>e
 | .txt _,_,e=>e
 | .tup ks,_,e=>by
  obtain⟨a,o',items,n,rfl,h1,h2,h3,h4⟩:=e;have hne:a≠d:=by grind
  exact⟨a,o',items,n,rfl,(hs.2 a hne).trans h1,h2,h3,rT.keeps ho hd hs h4⟩
theorem rT.keeps{h h':Heap}{d:Addr}{o:Obj}{es ep}(ho:h.get? d=some o)(hd:o.data = .dict es ep)(hs:Heap.SameBut d h h'):∀{ks:List NK} {vs:List Value},rT h ks vs->rT h' ks vs
 | [],_,e=>e
 | k::ks,_,e=>by obtain⟨v,r,rfl,h1,h2⟩:=e;exact⟨v,r,rfl,Rj.keeps ho hd hs h1,rT.keeps ho hd hs h2⟩
end
section
variable{P:Program}{w:World}
theorem X8(h:Q (hashInt (if b then 1 else 0)) { s with toks:=s.toks+1 }):wpAny (model P w) A (pyHash (.bool b)) Q E s:=by
 have hT:s.TypeIs (.bool b) "bool":=rfl;have hr:=rawHash_range (if b then 1 else 0);unfold pyHash;have hv:[Value.bool b].any Value.onHeap=false:=rfl;refine Qqq ?_;rw[cRoomFor,if_neg (by simp_all)];refine Qqk ?_;refine Qqq (wpAny_specialOf hT F.slot_bool_hash.lookup ?_);show wpAny _ _ (if (some (Value.builtin "int.__hash__") == some Value.none)=true then _ else _) Q E s;rw[if_neg (by simp_all)];refine Qqq (wpAny_specialOf hT F.slot_bool_hash.lookup ?_);show wpAny _ _ (callSpecialIfBoundUnlessNone? (.bool b) "__hash__" _ >>= _) Q E s;refine Qqq (wpAny_callSpecialIfBoundUnlessNone?_slot hT F.slot_bool_hash
  (Qzv F.slot_bool_hash hT entry_int_hash
   (show wpAny _ _ (do ret (<-mkInt (rawHash (if b then 1 else 0)))) _ _ s from wpAny_ret_mkInt ?_) (args_int_hash _)))
 show wpAny _ _ (if (decide (-(2:Int)^63<=rawHash (if b then 1 else 0))&&decide (rawHash (if b then 1 else 0)<2^63))=true then _ else _) Q E _;rw[if_pos (by simp_all)];exact Qqk h
mutual
theorem aa8:∀(k:NK) (v:Value) (A:Around) (E:Value->Shared->Prop) (s:Shared) (Q:Int->Shared->Prop),A.units+k.dep<cLine->Rj s.heap k v->Q (k.hash P w) { s with toks:=s.toks+k.draws }->wpAny (model P w) A (pyHash v) Q E s
 | .num i,v,A,E,s,Q,hu,e,h=>by
  rcases e with ⟨t,rfl⟩|⟨b,rfl,rfl⟩
  ·exact wpAny_pyHash_int h
  ·exact X8 h
 | .txt x,v,A,E,s,Q,hu,e,h=>by
  obtain⟨t,rfl⟩:=e;exact wpAny_pyHash_str h
 | .tup ks,v,A,E,s,Q,hu,e,h=>by
  obtain⟨a,o,items,n,rfl,ho,hc,hd,hi⟩:=e;have hT:s.TypeIs (.ref a) "tuple":=⟨o,ho,hc⟩;have ai6:(NK.tup ks).dep=1+NK.My ks:=by rw[NK.dep]
  rw[ai6] at hu;have hu0:A.units<cLine:=by omega
  have hin:A.in1.units+NK.My ks<cLine:=by grind
  unfold pyHash
  first|unfold pyHashByItsType|skip
  first|refine Qqq (wpAny_cRoomFor_or (.inr hu0) ?_)|skip
  refine Qqq (wpAny_specialOf hT F.slot_tuple_hash.lookup ?_);show wpAny _ _ (if (some (Value.builtin "tuple.__hash__") == some Value.none)=true then _ else _) Q E s;rw[if_neg (by simp_all)];refine Qqq (wpAny_specialOf hT F.slot_tuple_hash.lookup ?_);show wpAny _ _ (callSpecialIfBoundUnlessNone? (.ref a) "__hash__" _ >>= _) Q E s;refine Qqq (wpAny_callSpecialIfBoundUnlessNone?_slot hT F.slot_tuple_hash (Qzv F.slot_tuple_hash hT F.entry_tuple_hash ?_ (F.args_tuple_hash_1 _)));show wpAny _ _ (Builtin.Tuple.tupleItemsOf (.ref a) >>= _) _ _ s;refine Qqq (wpAny_tupleItemsOf ho hd ?_);refine Qqq ?_;rw[<-Array.forIn_toList];refine Qa ks items.toList A.in1 _ s _ _ #[] hin hi (λx b s' R q=>?_) ?_
  ·first
    | exact Qqq (Qwy q (λz s2 hz=>Qqk hz) λ_ _ z=>z)
    | exact Qqq (Qwy q (λz s2 hz=>Qqq (Qqk (Qqk hz))) λ_ _ z=>z)
  ·show wpAny _ _ (retInt (Builtin.Tuple.tupleHashOf ((#[]:Array Int).toList++NK.hashes P w ks))) _ _ _;have hh:(NK.tup ks).hash P w=reduceHash (Builtin.Tuple.tupleHashOf (NK.hashes P w ks)):=by rfl
   have hdr:(NK.tup ks).draws=NK.zr ks+1:=by rfl
   rw[hh,hdr] at h;rw[show(#[]:Array Int).toList++NK.hashes P w ks=NK.hashes P w ks from rfl];refine wpAny_ret_mkInt ?_;show wpAny _ _ (if (decide (-(2:Int)^63<=Builtin.Tuple.tupleHashOf (NK.hashes P w ks))&&decide (Builtin.Tuple.tupleHashOf (NK.hashes P w ks)<2^63))=true then _ else _) Q E _;unfold reduceHash at h;by_cases hr:(decide (-(2:Int)^63<=Builtin.Tuple.tupleHashOf (NK.hashes P w ks))&&decide (Builtin.Tuple.tupleHashOf (NK.hashes P w ks)<2^63))=true
   ·rw[if_pos hr];rw[if_pos hr] at h;exact Qqk (by assumption)
   ·rw[if_neg hr];rw[if_neg hr] at h;exact Qqq (wpAny_rule (Qqk (by assumption)))
theorem Qa:∀(ks:List NK) (vs:List Value) (A:Around) (E:Value->Shared->Prop) (s:Shared) (body:Value->Array Int->Sem (ForInStep (Array Int))) (Q:Array Int->Shared->Prop) (acc:Array Int),A.units+NK.My ks<cLine->rT s.heap ks vs->
  (∀x b s' (R:ForInStep (Array Int)->Shared->Prop),wpAny (model P w) A (pyHash x) (λz s2=>R (.yield (b.push z)) s2) E s'->wpAny (model P w) A (body x b) R E s')->
  Q (acc.toList++NK.hashes P w ks).toArray { s with toks:=s.toks+NK.zr ks }->wpAny (model P w) A (forIn vs acc body) Q E s
 | [],vs,A,E,s,body,Q,acc,hu,e,hb,q=>by
  cases e;rw[Qj9];refine Qqk ?_;have:(acc.toList++NK.hashes P w []).toArray=acc:=by rw[NK.hashes];simp
  rw[this] at q
  assumption
 | k::ks,vs,A,E,s,body,Q,acc,hu,e,hb,q=>by
  obtain⟨v,r,rfl,h1,h2⟩:=e;have ai6:NK.My (k::ks)=max k.dep (NK.My ks):=by rfl
  rw[ai6] at hu;rw[List.forIn_cons];refine Qqq (hb v acc s _ (aa8 k v A E s _ (by omega) h1 ?_));refine Qa ks r A E { s with toks:=s.toks+k.draws } body Q (acc.push (k.hash P w)) (by omega) h2 hb ?_;have e1:NK.hashes P w (k::ks)=k.hash P w::NK.hashes P w ks:=by rfl
  have e2:NK.zr (k::ks)=k.draws+NK.zr ks:=by rfl
  grind
end
theorem alL:∀n x y u v A s,x.dep<=n->A.units+n+1<cLine->Rj s.heap x u->Rj s.heap y v->SeqAt.EqAt A s u v (decide (x=y))
 | n,.num i,.num j,u,v,A,s,hn,hu,hx,hy=>by
  have e:decide (NK.num i=NK.num j)=(i == j):=by grind
  rw[e];rcases hx with ⟨t,rfl⟩|⟨b,rfl,rfl⟩
  ·rcases hy with ⟨t',rfl⟩|⟨c,rfl,rfl⟩
   ·exact SeqAt.EqAt.int_int i t j t'
   ·exact SeqAt.EqAt.int_bool i t c
  ·rcases hy with ⟨t',rfl⟩|⟨c,rfl,rfl⟩
   ·exact SeqAt.EqAt.bool_int b j t'
   ·have:((if b then (1:Int) else 0) == (if c then 1 else 0))=(b == c):=by grind
    rw[this];exact SeqAt.EqAt.bool_bool b c
 | n,.num i,.txt z,u,v,A,s,hn,hu,hx,hy=>by
  rw[Qwj (λe=>by cases e)];obtain⟨t,rfl⟩:=hy;rcases hx with ⟨t',rfl⟩|⟨b,rfl,rfl⟩
  ·exact SeqAt.EqAt.int_str i t' _ t
  ·exact SeqAt.EqAt.bool_str b _ t
 | n,.num i,.tup ks,u,v,A,s,hn,hu,hx,hy=>by
  rw[Qwj (λe=>by cases e)];obtain⟨a,o,items,m,rfl,h1,h2,h3,_⟩:=hy;have p:s.heap.IsTuple a items:=⟨o,h1,h2,m,h3⟩;rcases hx with ⟨t',rfl⟩|⟨b,rfl,rfl⟩
  ·exact SeqAt.EqAt.int_tuple i t' p (by omega)
  ·exact SeqAt.EqAt.bool_tuple b p (by omega)
 | n,.txt z,.num i,u,v,A,s,hn,hu,hx,hy=>by
  rw[Qwj (λe=>by cases e)];obtain⟨t,rfl⟩:=hx;rcases hy with ⟨t',rfl⟩|⟨b,rfl,rfl⟩
  ·exact SeqAt.EqAt.str_int _ t i t'
  ·exact SeqAt.EqAt.str_bool _ t b
 | n,.txt z,.txt z',u,v,A,s,hn,hu,hx,hy=>by
  have e:decide (NK.txt z=NK.txt z')=(z == z'):=by grind
  rw[e];obtain⟨t,rfl⟩:=hx;obtain⟨t',rfl⟩:=hy;exact SeqAt.EqAt.str_str _ t _ t'
 | n,.txt z,.tup ks,u,v,A,s,hn,hu,hx,hy=>by
  rw[Qwj (λe=>by cases e)];obtain⟨t,rfl⟩:=hx;obtain⟨a,o,items,m,rfl,h1,h2,h3,_⟩:=hy;have p:s.heap.IsTuple a items:=⟨o,h1,h2,m,h3⟩;exact SeqAt.EqAt.str_tuple _ t p (by omega)
 | n,.tup ks,.num i,u,v,A,s,hn,hu,hx,hy=>by
  rw[Qwj (λe=>by cases e)];obtain⟨a,o,items,m,rfl,h1,h2,h3,_⟩:=hx;have p:s.heap.IsTuple a items:=⟨o,h1,h2,m,h3⟩;rcases hy with ⟨t',rfl⟩|⟨b,rfl,rfl⟩
  ·exact SeqAt.EqAt.tuple_int i t' p (by omega)
  ·exact SeqAt.EqAt.tuple_bool b p (by omega)
 | n,.tup ks,.txt z,u,v,A,s,hn,hu,hx,hy=>by
  rw[Qwj (λe=>by cases e)];obtain⟨a,o,items,m,rfl,h1,h2,h3,_⟩:=hx;have p:s.heap.IsTuple a items:=⟨o,h1,h2,m,h3⟩;obtain⟨t,rfl⟩:=hy;exact SeqAt.EqAt.tuple_str _ t p (by omega)
 | 0,.tup ks,.tup ls,u,v,A,s,hn,hu,hx,hy=>by
  rw[NK.dep] at hn;omega
 | n+1,.tup ks,.tup ls,u,v,A,s,hn,hu,hx,hy=>by
  have hx0:=hx;have hy0:=hy;obtain⟨a,o,items,m,rfl,h1,h2,h3,h4⟩:=hx;obtain⟨a',o',items',m',rfl,h1',h2',h3',h4'⟩:=hy;have p:s.heap.IsTuple a items:=⟨o,h1,h2,m,h3⟩;have p':s.heap.IsTuple a' items':=⟨o',h1',h2',m',h3'⟩;rw[NK.dep] at hn;by_cases haa:a=a'
  ·subst haa;rw[Qw2 (Rj.inj hx0 hy0)];exact SeqAt.EqAt.same _
  ·refine SeqAt.EqAt.of_refs haa ?_;have l1:=h4.length;have l2:=h4'.length;rw[Qx7] at l1 l2;have hu0:A.units<cLine:=by omega
   have:=SeqAt.RcAt.tuples (e:=λj=>decide (ks[j]? = ls[j]?)) p p' hu0 λj q1 q2=>?_
   ·have e:((List.range (min items.size items'.size)).all (λj=>decide (ks[j]? = ls[j]?))&&items.size == items'.size)=decide (NK.tup ks=NK.tup ls):=by
     rw[Qj5];simp only[Qj3,Qw1,Qx0,decide_eq_true_eq,beq_iff_eq,NK.tup.injEq];constructor
     ·rintro⟨g1,g2⟩;apply List.ext_getElem?
      grind
     simp_all
    simp_all
   ·have g1:items.toList[j]? = some items[j]:=by simp
    have g2:items'.toList[j]? = some items'[j]:=by simp
    obtain⟨k,r1,r2⟩:=h4.get g1;obtain⟨l,r3,r4⟩:=h4'.get g2;have e:decide (ks[j]? = ls[j]?)=decide (k=l):=by simp_all
    rw[e];exact alL n k l _ _ A.in1 s (Qqj (NK.Fj r1) (by omega)) (by grind) r2 r4
theorem Vo:∀n k v A E s Q,k.dep<=n->Rj s.heap k v->Q true s->wpAny (model P w) A (eqIsQuiet n v) Q E s
 | n,.num i,v,A,E,s,Q,hn,e,h=>by
  rcases e with ⟨t,rfl⟩|⟨b,rfl,rfl⟩
  ·rw[eqIsQuiet_byValue n rfl];exact Qqk h
  ·rw[eqIsQuiet_byValue n rfl];exact Qqk h
 | n,.txt x,v,A,E,s,Q,hn,e,h=>by
  obtain⟨t,rfl⟩:=e;rw[eqIsQuiet_byValue n rfl];exact Qqk h
 | 0,.tup ks,v,A,E,s,Q,hn,e,h=>by
  rw[NK.dep] at hn;omega
 | n+1,.tup ks,v,A,E,s,Q,hn,e,h=>by
  obtain⟨a,o,items,m,rfl,ho,hc,hd,hi⟩:=e;rw[NK.dep] at hn;have hT:s.TypeIs (.ref a) "tuple":=⟨o,ho,hc⟩;unfold eqIsQuiet;refine Qqq (wpAny_specialOf hT F.slot_tuple_eq.lookup ?_);show wpAny _ _ (isInstance (.ref a) (.type "tuple") >>= _) _ _ s;refine Qqq (wpAny_isInstance hT isSubtype_tuple_tuple ?_);simp only[Bool.not_true,Bool.false_eq_true,if_false];refine Qqq (Qz8 ho hd ?_);refine Qqq ?_;show wpAny _ _ (forIn items _ _) _ _ s;rw[<-Array.forIn_toList];refine wpAny_forIn_list _ (λrest r s'=>r.1=none/\s'=s/\∀v∈rest,∃k:NK,k.dep<=n/\Rj s.heap k v) _ ?_ ?_ _ _ ⟨rfl,rfl,λv hv=>?_⟩
  ·rintro v rest r s' ⟨hr,rfl,hall⟩;obtain⟨k,hk1,hk2⟩:=hall v Qq3;refine Qqq (Vo n k v A E _ _ hk1 hk2 ?_);simp only[Bool.not_true,Bool.false_eq_true,if_false];exact Qqk ⟨rfl,rfl,λu hu'=>hall u (Qqy _ hu')⟩
  ·rintro⟨r1,r2⟩ s' ⟨hr,rfl,_⟩;simp only at hr;subst hr;exact Qqk h
  ·obtain⟨j,hj,rfl⟩:=List.mem_iff_getElem.mp hv;obtain⟨k,r1,r2⟩:=hi.get (Qq6 hj);exact⟨k,Qqj (NK.Fj r1) (by omega),r2⟩
noncomputable def aa6(P:Program)(w:World):HeapKind P w NK where
 is:=λh k a=>Rj h k (.ref a)/\k.dep<=8
 hash:=NK.hash P w
 draws:=NK.draws
 room:=λA=>A.units+10<cLine
 inj:=λhx hy=>hx.1.inj hy.1
 keeps:=λx ho hd hs=>⟨x.1.keeps ho hd hs,x.2⟩
 pyHash:=λhu hk h=>aa8 _ _ _ _ _ _ (by omega) hk.1 h
 eqBool:=λhu hx hy h=>alL 8 _ _ _ _ _ _ hx.2 (by omega) hx.1 hy.1 P w _ _ h
 quiet:=λhk h=>Vo 8 _ _ _ _ _ _ hk.2 hk.1 h
end
abbrev Key:=Sum Int Str
noncomputable def Dw:Key->Value->Bool
 | .inl k,v=>Value.isInt k v
 | .inr x,v=>Value.isStrOf x v
noncomputable def aov(w:World):Key->Int
 | .inl k=>hashInt k
 | .inr x=>hashStr w x
theorem gA:∀{k} {v},Dw k v=true->(∃i t,k=Sum.inl i/\v=Value.int i t)\/(∃x t,k=Sum.inr x/\v=Value.str x t)
 | .inl i,v,h=>by
  obtain⟨t,e⟩:=Value.isInt_shape (k:=i) (v:=v) h;exact .inl ⟨i,t,rfl,e⟩
 | .inr x,v,h=>by
  obtain⟨t,e⟩:=Value.isStrOf_shape (x:=x) (v:=v) h;exact .inr ⟨x,t,rfl,e⟩
theorem XR(i)(t):Dw (.inl i) (.int i t)=true:=by simp[Dw,Value.isInt]
theorem XQ(x)(t):Dw (.inr x) (.str x t)=true:=by simp[Dw,Value.isStrOf]
theorem ah9(a b):decide ((Sum.inl a:Key)=Sum.inl b)=(a == b):=by
 by_cases e:a=b
 ·subst e;simp
 ·have h:¬(Sum.inl a:Key)=Sum.inl b:=λq=>e (Sum.inl.inj q);rw[Qwj h];exact(Qxj.mpr e).symm
theorem ah6(a b):decide ((Sum.inr a:Key)=Sum.inr b)=decide (a=b):=by
 by_cases e:a=b
 ·subst e;simp
 ·have h:¬(Sum.inr a:Key)=Sum.inr b:=λq=>e (Sum.inr.inj q);rw[Qwj h,Qwj e]
theorem ah8(a)(b):decide ((Sum.inl a:Key)=Sum.inr b)=false:=Qwj (λq=>nomatch q)
theorem ah7(a)(b):decide ((Sum.inr a:Key)=Sum.inl b)=false:=Qwj (λq=>nomatch q)
def cH(prog:Program)(w:World):PySem.KeyKind prog w Key where
 is:=Dw
 hash:=aov w
 inj:=λv a b ha hb=>by
  rcases gA ha with ⟨i,t,rfl,rfl⟩|⟨x,t,rfl,rfl⟩
  ·rcases gA hb with ⟨j,u,rfl,e⟩|⟨y,u,rfl,e⟩
   ·injection e with e1 _;rw[e1]
   ·exact nomatch e
  ·rcases gA hb with ⟨j,u,rfl,e⟩|⟨y,u,rfl,e⟩
   ·exact nomatch e
   ·injection e with e1 _;rw[e1]
 byValue:=λk v h=>by
  rcases gA h with ⟨i,t,rfl,rfl⟩|⟨x,t,rfl,rfl⟩<;>rfl
 pyHash:=λhv h=>by
  rcases gA hv with ⟨i,t,rfl,rfl⟩|⟨x,t,rfl,rfl⟩
  ·exact wpAny_pyHash_int h
  ·exact wpAny_pyHash_str h
 eqBool:=λhu hv h=>by
  rcases gA hu with ⟨i,t,rfl,rfl⟩|⟨x,t,rfl,rfl⟩
  ·rcases gA hv with ⟨j,u,rfl,rfl⟩|⟨y,u,rfl,rfl⟩
   ·rw[ah9] at h;exact wpAny_eqBool_int h
   ·rw[ah8] at h;exact SeqAt.EqAt.int_str i t y u _ _ _ _ h
  ·rcases gA hv with ⟨j,u,rfl,rfl⟩|⟨y,u,rfl,rfl⟩
   ·rw[ah7] at h;exact SeqAt.EqAt.str_int x t j u _ _ _ _ h
   ·rw[ah6] at h;exact wpAny_eqBool_str h
 «strs»:=λk x t v h=>by
  rcases gA h with ⟨i,u,rfl,e⟩|⟨y,u,rfl,e⟩
  ·exact nomatch e
  ·injection e with e1 _
   subst e1;cases v<;>rfl
theorem Qd(prog)(w)(i)(t):(cH prog w).is (.inl i) (.int i t)=true:=XR i t
theorem Qc(prog)(w)(x)(t):(cH prog w).is (.inr x) (.str x t)=true:=XQ x t
inductive V where
 | non|bl (b:Bool)|int (i:Int)|str (x:Str)|byt (b:Array UInt8)|flt (b:UInt64)|ref (a:Addr)|ty (n:String)
 deriving DecidableEq
def RelV:V->Value->Prop
 | .non,u=>u=Value.none
 | .bl b,u=>u=Value.bool b
 | .int i,u=>∃t,u=Value.int i t
 | .str x,u=>∃t,u=Value.str x t
 | .byt b,u=>∃t,u=Value.bytes b t
 | .flt b,u=>∃t,u=Value.float b t
 | .ref a,u=>u=Value.ref a
 | .ty n,u=>u=Value.type n
abbrev Vals:List V->List Value->Prop:=Paired RelV
theorem Vals.length(r:Vals xs us):xs.length=us.length:=Paired.length r
theorem Vals.get:∀{xs} {us} {i:Nat} {x},Vals xs us->xs[i]? = some x->∃u,us[i]? = some u/\RelV x u
 | _,_,_,_,.nil,e=>by simp at e
 | _,_,0,_,.cons r _,e=>by simp at e;subst e;exact⟨_,rfl,r⟩
 | _,_,i+1,x,.cons _ t,e=>by
  obtain⟨u,h1,h2⟩:=Vals.get t (by simpa using e);exact⟨u,by simpa using h1,h2⟩
theorem Vals.set(r:RelV x u):∀{xs} {us} i,Vals xs us->Vals (xs.set i x) (us.set i u)
 | _,_,_,.nil=>.nil
 | _,_,0,.cons _ t=>.cons r t
 | _,_,i+1,.cons q t=>.cons q<|Vals.set r i t
theorem Vals.append:∀{xs ys} {us ws},Vals xs us->Vals ys ws->Vals (xs++ys) (us++ws)
 | _,_,_,_,.nil,s=>s
 | _,_,_,_,.cons r t,s=>.cons r<|Vals.append t s
theorem Vals.take:∀{xs} {us} n,Vals xs us->Vals (xs.take n) (us.take n)
 | _,_,0,_=>.nil
 | _,_,_+1,.nil=>.nil
 | _,_,n+1,.cons r t=>.cons r<|Vals.take n t
theorem Vals.drop:∀{xs} {us} n,Vals xs us->Vals (xs.drop n) (us.drop n)
 | _,_,0,r=>r
 | _,_,_+1,.nil=>.nil
 | _,_,n+1,.cons _ t=>Vals.drop n t
def Hn:Option V->Option Value->Prop
 | some v,some u=>RelV v u
 | none,none=>True
 | _,_=>False
def KV{κ:Type}:List (κ×V)->List (κ×Value)->Prop:=Paired λ(p:κ×V) (q:κ×Value)=>p.1=q.1/\RelV p.2 q.2
noncomputable def kV:Key->V
 | .inl i=>.int i
 | .inr x=>.str x
inductive HO where
 /-- a list -/
 | lst (xs:List V)
 /-- a tuple (never changes) -/
 | tup (xs:List V)
 /-- a dict whose keys are ints and texts;one whose keys are tuples of ints and texts (the empty one is both) -/
 | dK (kvs:List (Key×V))|dT (kvs:List (List Key×V))|dN (kvs:List (NK×V×V))
 /-- a set of ints: its members,its size -/
 | set (S:Int->Bool) (n:Nat)
 /-- an instance of the class at C,its dict at dx,its attributes -/
 | ins (C dx:Addr) (fs:List (Str×V))
 /-- the dict of the instance at x -/
 | own (x:Addr)
 /-- the dict of an exception -/
 | xd (fs:List (Str×V))
 /-- a bound method,f of x -/
 | met (f x:Addr)
 /-- a range object lo,lo+1,.. below hi -/
 | rng (lo hi:Int)
 /-- a thing that is known to the object (the script;a dict while a loop walks it): read,never written while it is so -/
 | Mw (o:Obj) (u:HO)
 /-- a code object's table -/
 | tbl (ps:Array Value)
 /-- a code object's table: whatever it holds,the codes made at these places are known and bear these names -/
 | tab (qs:List (Pos×Str))
 /-- any other thing,by what is true of its one object (a def of one's own: akb a S n:=HO.ext λh=>..) -/
 | ext (φ:Heap->Prop)
abbrev Hp:=Addr->Option HO
noncomputable def upd(H:Hp)(a:Addr)(o:HO):Hp:=λb=>if b=a then some o else H b
theorem bC:upd H a o a=some o:=by unfold upd;rw[if_pos rfl]
theorem cz(h:b≠a):upd H a o b=H b:=by unfold upd;rw[if_neg h]
theorem Ko:upd (upd H a o) a u=upd H a u:=by funext b;unfold upd;split<;>rfl
theorem alJ{H:Hp}(h:H a=some o)(h':H b=some u)(d:o≠u):a≠b:=by intro e;subst e;rw[h] at h';exact d<|Qw4 h'
theorem gq{H:Hp}(h:H a=some o)(h':H b=none):a≠b:=by intro e;subst e;rw[h] at h';cases h'
def Gk(h:Heap)(a:Addr)(items:Array Value):Prop:=∃o,h.get? a=some o/\o.cls = .type "tuple"/\(∃n,o.data = .seq items n)/\o.dict=none
theorem Gk.is(x:Gk h a items):IsTup h a items:=let ⟨o,h1,h2,h3,_⟩:=x;⟨o,h1,h2,h3⟩
theorem Gk.new(h:Heap)(items):Gk (h.push { cls:=.type "tuple",data:=.seq items }) h.objs.size items:=⟨_,Qq4 _ rfl,rfl,⟨_,rfl⟩,rfl⟩
section
variable(P:Program)(w:World)
def iV(H:Hp)(h:Heap)(a:Addr):HO->Prop
 | .lst xs=>xs.length<=sizeLine/\∃(its:List Value) (n:Nat),Vals xs its/\h.get? a=some { cls:=.type "list",data:=.seq its.toArray n }
 | .tup xs=>xs.length<=sizeLine/\∃its:List Value,Vals xs its/\Gk h a its.toArray
 | .dK kvs=>kvs.length<=sizeLine/\(a == sysModules)=false/\∃vs,KV kvs vs/\h.DictOf (cH P w) a vs
 | .dT kvs=>kvs.length<=sizeLine/\(a == sysModules)=false/\∃xs:List (List Key×Addr×Value),
   Paired (λ(p:List Key×V) (q:List Key×Addr×Value)=>p.1=q.1/\H q.2.1=some (.tup (p.1.map kV))/\RelV p.2 q.2.2) kvs xs/\
   ∃o es ep,h.get? a=some o/\o.ExactDict/\o.data = .dict es ep/\es.toList=xs.map (entryOfKey (tupleKind (cH P w)))/\(xs.map (·.1)).Nodup
 | .dN kvs=>kvs.length<=sizeLine/\(a == sysModules)=false/\∃xs:List (NK×Addr×Value),
   Paired (λ(p:NK×V×V) (q:NK×Addr×Value)=>p.1=q.1/\p.2.1 = .ref q.2.1/\RelV p.2.2 q.2.2) kvs xs/\
   ∃o es ep,h.get? a=some o/\o.ExactDict/\o.data = .dict es ep/\es.toList=xs.map (entryOfKey (aa6 P w))/\(xs.map (·.1)).Nodup
 | .set S n=>h.SetOf (intKind P w) a S n
 | .ins C dx fs=>H dx=some (.own a)/\fs.length<=1000/\dx≠a/\h.get? a=some (PySem.W.instObj C dx)/\
   ∃mA,h.Ns1 dx mA/\(∀f,Hn (fs.lookup f) (mA f))/\PySem.Within mA (fs.map (·.1))
 | .own _=>∃o,h.get? a=some o
 | .xd fs=>∃mA,h.Ns1 a mA/\∀f,Hn (fs.lookup f) (mA f)
 | .rng lo hi=>∃t u v,h.get? a=some { cls:=.type "range",data:=.fields #[.int lo t,.int hi u,.int 1 v] }
 | .Mw o u=>h.get? a=some o/\iV H h a u
 | .tbl ps=>h.get? a=some { cls:=.none,data:=.fields ps }
 | .tab qs=>∃ps:Array Value,h.get? a=some { cls:=.none,data:=.fields ps }/\TriplesOk ps.toList/\∀q∈qs,codeAmong q.1 ps.toList=none\/∃(c:Addr) (o:Obj) (u:HO) (vs:Array Value) (t:Tok),codeAmong q.1 ps.toList=some (.ref c)/\H c=some (.Mw o u)/\o.data = .fields vs/\vs[1]? = some (.str q.2 t)
 | .met f x=>h.get? a=some (PySem.W.methodObj (.ref f) (.ref x))
 | .ext φ=>φ h/\(∃o,h.get? a=some o)/\∀h1 h2:Heap,φ h1->(∀o,h1.get? a=some o->h2.get? a=some o)->φ h2
def xZ(H:Hp)(h:Heap):Prop:=∀a o,H a=some o->iV P w H h a o
end
section
variable{P:Program}{w:World}{H H':Hp}{h h':Heap}{a:Addr}{o:HO}
theorem iV.lt(x:iV P w H h a o):a<h.objs.size:=by
 cases o with
 | lst xs=>obtain⟨_,_,_,_,e⟩:=x;exact Qq0 e
 | tup xs=>obtain⟨_,_,_,p⟩:=x;exact p.is.lt
 | dK kvs=>obtain⟨_,_,_,_,o,_,_,e,_⟩:=x;exact Qq0 e
 | dT kvs=>obtain⟨_,_,_,_,o,_,_,e,_⟩:=x;exact Qq0 e
 | dN kvs=>obtain⟨_,_,_,_,o,_,_,e,_⟩:=x;exact Qq0 e
 | set S n=>obtain⟨o,_,_,_,e,_⟩:=x;exact Qq0 e
 | ins C dx fs=>obtain⟨_,_,_,e,_⟩:=x;exact Qq0 e
 | own y=>obtain⟨_,e⟩:=x;exact Qq0 e
 | xd fs=>obtain⟨_,⟨_,_,_,e,_⟩,_⟩:=x;exact Qq0 e
 | rng lo hi=>obtain⟨_,_,_,e⟩:=x;exact Qq0 e
 | Mw ob u=>obtain⟨e,_⟩:=x;exact Qq0 e
 | tbl ps=>exact Qq0<|show h.get? a=some _ from x
 | tab qs=>obtain⟨_,e,_⟩:=x;exact Qq0 e
 | met f y=>exact Qq0<|show h.get? a=some _ from x
 | ext φ=>obtain⟨_,⟨_,e⟩,_⟩:=x;exact Qq0 e
theorem Paired.ah0{α β:Type}{F G:α->β->Prop}:∀{l₁} {l₂},Paired F l₁ l₂->(∀a b,F a b->G a b)->Paired G l₁ l₂
 | _,_,.nil,_=>.nil
 | _,_,.cons r t,f=>.cons (f _ _ r)<|Paired.ah0 t f
theorem iV.stay(x:iV P w H h a o)(k:∀b u,(b=a\/H b=some (.own a))->h.get? b=some u->h'.get? b=some u)
  (ho:∀b,H b=some (.own a)->H' b=some (.own a)) (ht:∀b xs,H b=some (.tup xs)->H' b=some (.tup xs))
  (hz:∀b o u vs,o.data = .fields vs->H b=some (.Mw o u)->H' b=some (.Mw o u):=by intro _ _ _ _ _ q;exact q):iV P w H' h' a o:=by
 induction o with
 | lst xs=>obtain⟨z,its,n,r,e⟩:=x;exact⟨z,its,n,r,k _ _ (.inl rfl) e⟩
 | tup xs=>obtain⟨z,its,r,ob,e,c⟩:=x;exact⟨z,its,r,ob,k _ _ (.inl rfl) e,c⟩
 | dK kvs=>obtain⟨z,y,vs,r,ob,es,ep,e,c⟩:=x;exact⟨z,y,vs,r,ob,es,ep,k _ _ (.inl rfl) e,c⟩
 | dT kvs=>
  obtain⟨z,y,xs,r,ob,es,ep,e,c⟩:=x;exact⟨z,y,xs,Paired.ah0 r λp q z=>⟨z.1,ht _ _ z.2.1,z.2.2⟩,ob,es,ep,k _ _ (.inl rfl) e,c⟩
 | dN kvs=>obtain⟨z,y,xs,r,ob,es,ep,e,c⟩:=x;exact⟨z,y,xs,r,ob,es,ep,k _ _ (.inl rfl) e,c⟩
 | set S n=>obtain⟨ob,es,ep,t,e,c⟩:=x;exact⟨ob,es,ep,t,k _ _ (.inl rfl) e,c⟩
 | ins C dx fs=>
  obtain⟨d,z,ne,e,mA,⟨od,es,ep,e2,c⟩,r⟩:=x;exact⟨ho _ d,z,ne,k _ _ (.inl rfl) e,mA,⟨od,es,ep,k _ _ (.inr d) e2,c⟩,r⟩
 | own y=>obtain⟨ob,e⟩:=x;exact⟨ob,k _ _ (.inl rfl) e⟩
 | xd fs=>obtain⟨mA,⟨od,es,ep,e,c⟩,r⟩:=x;exact⟨mA,⟨od,es,ep,k _ _ (.inl rfl) e,c⟩,r⟩
 | rng lo hi=>obtain⟨t,u,v,e⟩:=x;exact⟨t,u,v,k _ _ (.inl rfl) e⟩
 | Mw ob u ih=>obtain⟨e,q⟩:=x;exact⟨k _ _ (.inl rfl) e,ih q⟩
 | tbl ps=>
  have e:=x;exact k a _ (.inl rfl) e
 | tab qs=>
  obtain⟨ps,e,t,r⟩:=x;refine⟨ps,k a _ (.inl rfl) e,t,λq hq=>?_⟩;rcases r q hq with z|⟨c,o,u,vs,t,h1,h2,h3,h4⟩
  ·exact .inl z
  ·exact .inr ⟨c,o,u,vs,t,h1,hz c o u vs h3 h2,h3,h4⟩
 | met f y=>
  have e:=x;show h'.get? a=some (PySem.W.methodObj (.ref f)<|.ref y);exact k a _ (.inl rfl) e
 | ext φ=>obtain⟨p,⟨o,e⟩,st⟩:=x;exact⟨st _ _ p λo q=>k _ _ (.inl rfl) q,⟨o,k _ _ (.inl rfl) e⟩,st⟩
theorem xZ.lt(x:xZ P w H h)(e:H a=some o):a<h.objs.size:=(x a o e).lt
theorem xZ.fresh(x:xZ P w H h)(e:h.objs.size<=a):H a=none:=by
 cases q:H a with
 | none=>rfl
 | some u=>exact absurd (Qwk (x.lt q) e)<|Qx6 _
theorem xZ.kept(x:xZ P w H h)(k:∀b u,h.get? b=some u->h'.get? b=some u):xZ P w H h':=λa o e=>
 (x a o e).stay (λb u _ q=>k b u q) (λ_ q=>q) λ_ _ q=>q
theorem xZ.laid(x:xZ P w H h)(k:∀b u,h.get? b=some u->h'.get? b=some u)(hp:h.objs.size<=a)(new:iV P w (upd H a o) h' a o):xZ P w (upd H a o) h':=λb u e=>by
 have hn:=x.fresh hp;by_cases hb:b=a
 ·subst hb;rw[bC] at e;cases e;exact new
 ·rw[cz hb] at e;exact(x b u e).stay (λc v _ q=>k c v q) (λc q=>by rw[cz (gq q hn)];exact q) (λc xs q=>by rw[cz (gq q hn)];exact q) λc _ _ _ _ q=>by rw[cz (gq q hn)];exact q
end
def Rd(H:Hp)(a:Addr)(u:HO):Prop:=H a=some u\/∃o,H a=some (.Mw o u)
theorem Rd.ok(r:Rd H a u)(x:xZ P w H h):iV P w H h a u:=by
 rcases r with r|⟨o,r⟩
 ·exact x a u r
 ·obtain⟨_,q⟩:=x a _ r;exact q
def Mut:Option HO->Prop
 | some (.lst _)=>True
 | some (.dK _)=>True
 | some (.dT _)=>True
 | some (.dN _)=>True
 | some (.set _ _)=>True
 | some (.ins _ _ _)=>True
 | some (.ext _)=>True
 | _=>False
section
variable{P:Program}{w:World}{H:Hp}{h h':Heap}{x e:Addr}{o':HO}
theorem xZ.write(ok:xZ P w H h)(mu:Mut (H x))(he:e=x\/H e=some (.own x))(k:∀b u,b≠e->h.get? b=some u->h'.get? b=some u)(heo:∃u,h'.get? e=some u)
  (new:iV P w (upd H x o') h' x o'):xZ P w (upd H x o') h':=λb u q=>by
 have alE:∀c y,H c=some (.own y)->c≠x:=λc y r z=>by subst z;rw[r] at mu;exact mu
 have aop:∀c xs,H c=some (.tup xs)->c≠x:=λc xs r z=>by subst z;rw[r] at mu;exact mu
 by_cases hb:b=x
 ·subst hb;rw[bC] at q;cases q;exact new
 ·rw[cz hb] at q;by_cases hbe:b=e
  ·have q':H b=some (.own x):=by
    rcases he with z|z
    ·exact absurd (hbe.trans z) hb
    ·rw[hbe];exact z
   rw[q] at q';cases q';obtain⟨v,hv⟩:=heo;exact⟨v,by rw[hbe];exact hv⟩
  ·refine(ok b u q).stay (λc v hc r=>k c v ?_ r) (λc r=>by rw[cz (alE c b r)];exact r) (λc xs r=>by rw[cz (aop c xs r)];exact r) λc _ _ _ _ r=>by rw[cz (λz=>by subst z;rw[r] at mu;exact mu)];exact r
   rcases hc with rfl|hc
   ·exact hbe
   ·rintro rfl;rcases he with z|z
    ·exact alE c b hc z
    ·rw[hc] at z;cases z;exact hb rfl
end
structure Un(fs ex:List Addr)(H H':Hp)(h h':Heap):Prop where
 keep:∀b o,h.get? b=some o->H b=none->b ∉ fs->b ∉ ex->h'.get? b=some o
 slot:∀b o,h.get? b=some o->H b=none->b∈fs->b ∉ ex->∃sl,h'.get? b=some { o with slots:=sl }
 free:∀b o,h.get? b=some o->H b=none->b ∉ ex->H' b=none
 there:∀b o,h.get? b=some o->b ∉ ex->∃o',h'.get? b=some o'
 tups:∀b xs,H b=some (.tup xs)->H' b=some (.tup xs)
 Ep:∀b o u,H b=some (.Mw o u)->H' b=some (.Mw o u)
 Nx:∀b ps,H b=some (.tbl ps)->∃more,H' b=some (.tbl (ps++more))
 tabs:∀b qs,H b=some (.tab qs)->H' b=some (.tab qs)
section
variable{fs fs' ex ex':List Addr}{H H1 H2:Hp}{h h1 h2 h':Heap}{a x e:Addr}{o:HO}
theorem Un.any(u:Un fs ex H H1 h h1)(q:h.get? b=some ob)(n:H b=none)(hx:b ∉ ex):∃sl,h1.get? b=some { ob with slots:=sl }:=by
 by_cases hb:b∈fs
 ·exact u.slot b ob q n hb hx
 ·exact⟨ob.slots,u.keep b ob q n hb hx⟩
theorem Un.kept(k:∀b u,h.get? b=some u->h'.get? b=some u):Un fs ex H H h h':=
 ⟨λb ob q _ _ _=>k b ob q,λb ob q _ _ _=>⟨ob.slots,k b ob q⟩,λ_ _ _ n _=>n,λb ob q _=>⟨ob,k b ob q⟩,λ_ _ q=>q,λ_ _ _ q=>q,λ_ ps q=>⟨#[],by rw[q];simp⟩,λ_ _ q=>q⟩
theorem Un.refl:Un fs ex H H h h:=Un.kept λ_ _ q=>q
theorem Un.laid(k:∀b u,h.get? b=some u->h'.get? b=some u)(hp:h.objs.size<=a)(hn:H a=none):Un fs ex H (upd H a o) h h' where
 keep:=λb u q _ _ _=>k b u q
 slot:=λb u q _ _ _=>⟨u.slots,k b u q⟩
 free:=λb u q n _=>by rw[cz (Qwv<|Qwk (Qq0 q) hp)];exact n
 there:=λb u q _=>⟨u,k b u q⟩
 tups:=λb xs q=>by rw[cz (gq q hn)];exact q
 Ep:=λb u xs q=>by rw[cz (gq q hn)];exact q
 Nx:=λb ps q=>⟨#[],by rw[cz (gq q hn),q];simp⟩
 tabs:=λb qs q=>by rw[cz (gq q hn)];exact q
theorem Un.write(mu:Mut (H x))(he:e=x\/H e=some (.own x))(k:∀b u,b≠e->h.get? b=some u->h'.get? b=some u)(heo:∃u,h'.get? e=some u):Un fs ex H (upd H x o) h h':=by
 have hx:∀b,H b=none->b≠x:=λb n z=>by subst z;rw[n] at mu;exact mu
 have hb:∀b,H b=none->b≠e:=λb n z=>by
  subst z;rcases he with r|r
  ·exact hx b n r
  ·rw[n] at r;cases r
 have hm:∀b u,H b=some u->¬Mut (some u)->b≠x:=λb u q nm z=>by subst z;rw[q] at mu;exact nm mu
 refine⟨λb u q n _ _=>k b u (hb b n) q,λb u q n _ _=>⟨u.slots,k b u (hb b n) q⟩,λb u q n _=>by rw[cz (hx b n)];exact n,λb u q _=>?_,
  λb xs q=>by rw[cz (hm b _ q λz=>z)];exact q,λb u xs q=>by rw[cz (hm b _ q λz=>z)];exact q,λb ps q=>⟨#[],by rw[cz (hm b _ q λz=>z),q];simp⟩,λb qs q=>by rw[cz (hm b _ q λz=>z)];exact q⟩
 by_cases hbe:b=e
 ·subst hbe;exact heo
 ·exact⟨u,k b u hbe q⟩
end
noncomputable def trk(h:Heap)(H:Hp):List Addr:=(List.range h.objs.size).filter λa=>(H a).isSome
def Mm(h:Heap)(H:Hp):Heap:=PySem.W.hideAll h (trk h H)
theorem X7(h)(H):(Mm h H).objs.size=h.objs.size:=PySem.W.hideAll_size _ _
theorem abM(e:h.get? b=some o)(n:H b=none):(Mm h H).get? b=some o:=
 PySem.W.hideAll_get _ e λhm=>by
  have q:=(List.mem_filter.mp hm).2;rw[n] at q;simp at q
theorem ad6(e:(Mm h H).get? b=some o):h.get? b=some o/\H b=none:=by
 have e':=PySem.W.of_hideAll (trk h H) e;refine⟨e',?_⟩;cases q:H b with
 | none=>rfl
 | some x=>
  have hm:b∈trk h H:=List.mem_filter.mpr ⟨Qx0.mpr<|Qq0 e',by simp[q]⟩;have z:(Mm h H).get? b=none:=PySem.W.hideAll_none (trk h H) hm;rw[z] at e;cases e
noncomputable def afk(g h:Heap)(L:Addr):List (Addr×Obj):=(List.range h.objs.size).filterMap λa=>if a=L\/(g.get? a).isSome=true then none else (h.get? a).map λo=>(a,o)
def rest(g h:Heap)(L d:Addr):List (Addr×Obj):=(afk g h L).filter λp=>decide (p.1≠d)
structure Mod(K:PySem.W.Frag)(mg:Str->Option Value)(base:Heap):Prop where
 Vt:K.In base
 glob:base.Ns mainGlobals mg
 blt:∃mb,base.Ns builtinsNs mb/\∀x:Str,x ≠ "__name__"->mb x=bootBuiltins x
 nolimit:base.NoLimit
structure Cx where
 prog:Program
 w:World
 K:PySem.W.Frag
 mg:Str->Option Value
 base:Heap
 A:Around
 N:List Str
 s₀:Shared
 H₀:Hp
 env:Env
 outer:List Env
 stack:List Env
 ex:List Addr
 fn:Str->Bool
 calm:Bool
 pn:List (Addr×Obj)
 xe:Value->Shared->Prop
noncomputable def frs(l:List Env):List Addr:=l.filterMap (·.frame)
abbrev Cx.fs(X:Cx):List Addr:=frs X.outer
def yd(sc:Scope)(x:Str):Prop:=sc.names.lookup x=some .local\/sc.names.lookup x=some .cell\/sc.names.lookup x=some .free
def Loc(sc:Scope)(x:Str):Prop:=sc.names.lookup x=some .local\/sc.names.lookup x=some .cell
def Look(env:Env)(h:Heap)(m:Str->Option Value)(x:Str)(u:Value):Prop:=
 (env.kindOf x=some .local/\m x=some u)\/((env.kindOf x=some .cell\/env.kindOf x=some .free)/\∃c,env.cells.lookup x=some c/\h.IsCell c (some u))
structure Cx.Ok(X:Cx):Prop where
 mod:Mod X.K X.mg X.base
 kind:X.env.scope.kind = .function
 glob:X.env.globals=mainGlobals
 blt:X.env.builtins=builtinsNs
 above:X.s₀.heap.objs.size<=X.env.locals
 inj:∀x y c,X.env.cells.lookup x=some c->X.env.cells.lookup y=some c->x=y
 has:∀x,(X.env.kindOf x=some .cell\/X.env.kindOf x=some .free)->∃c,X.env.cells.lookup x=some c
 cab:∀x c,X.fn x=true->X.env.cells.lookup x=some c->X.s₀.heap.objs.size<=c
 hd:X.calm=true->X.A.handled=none
 frames:X.A.frames=some X.stack
 WY:X.stack=X.outer\/(X.stack=X.env::X.outer/\X.env.frame=some X.env.locals)
 exf:∀b∈X.ex,b≠X.env.locals/\∀x c,X.env.cells.lookup x=some c->c≠b
 bs:∀b o,X.base.get? b=some o->X.s₀.heap.get? b=some o/\X.H₀ b=none
 bsz:X.base.objs.size<=X.s₀.heap.objs.size
 aa4:∀b o,X.base.get? b=some o->b ∉ X.ex
 Ug:∀b∈X.ex,b ∉ X.fs
 Eo:X.s₀.heap.FunFrames X.base X.outer
 frf:∀b∈X.fs,X.H₀ b=none
structure Inv(X:Cx)(pins:List (Addr×Obj))(σ:List (Option V))(H:Hp)(s:Shared):Prop where
 ok:X.Ok
 os:s.os=X.s₀.os
 bare:AllBare s.gens
 base:Un X.fs X.ex X.H₀ H X.s₀.heap s.heap
 loc:∃m,s.heap.Ns X.env.locals m/\∀(i:Nat) (x:Str) (v:V),X.N[i]? = some x->σ[i]? = some (some v)->yd X.env.scope x->∃u,RelV v u/\Look X.env s.heap m x u
 cell:∀x c,X.env.cells.lookup x=some c->∃v,s.heap.IsCell c v
 free:H X.env.locals=none
 xD:∀x c,X.env.cells.lookup x=some c->H c=none\/(X.fn x=false/\∃o u,H c=some (.Mw o u))
 pin:∀p∈X.pn++pins,s.heap.get? p.1=some p.2/\H p.1=none/\p.1≠X.env.locals/\p.1 ∉ X.fs/\∀v,p.2.data ≠ .cell v
 hok:xZ X.prog X.w H s.heap
 len:σ.length=X.N.length
section
variable{X:Cx}{pins:List (Addr×Obj)}{σ:List (Option V)}{H H':Hp}{s:Shared}{h':Heap}
theorem Cx.Ok.aor(ok:X.Ok)(e:X.base.get? b=some o):b ∉ X.fs:=λhb=>by
 have:=(ok.Eo.mem hb).1;rw[e] at this;cases this
theorem Inv.bs(I:Inv X pins σ H s):∀b o,X.base.get? b=some o->s.heap.get? b=some o/\H b=none:=λb o e=>
 ⟨I.base.keep b o (I.ok.bs b o e).1 (I.ok.bs b o e).2 (I.ok.aor e)<|I.ok.aa4 b o e,I.base.free b o (I.ok.bs b o e).1 (I.ok.bs b o e).2<|I.ok.aa4 b o e⟩
theorem Inv.bk(I:Inv X pins σ H s):∀b o,X.base.get? b=some o->s.heap.get? b=some o:=λb o e=>(I.bs b o e).1
theorem Inv.mod(I:Inv X pins σ H s):Mod X.K X.mg X.base:=I.ok.mod
theorem Inv.XX(I:Inv X pins σ H s):X.K.In s.heap:=I.ok.mod.Vt.keeps I.bk
theorem Inv.lt(I:Inv X pins σ H s):X.env.locals<s.heap.objs.size:=let ⟨_,hn,_⟩:=I.loc;hn.lt
theorem Inv.sz(I:Inv X pins σ H s):X.s₀.heap.objs.size<=s.heap.objs.size:=Qqj I.ok.above<|Qkq I.lt
theorem Inv.aoq(I:Inv X pins σ H s){a:Addr}(h:s.heap.objs.size<=a):a ∉ X.fs:=λhb=>by
 obtain⟨_,o,ho,_⟩:=I.ok.Eo.mem hb;exact absurd (Qwk (Qq0 ho)<|Qqj I.sz h)<|Qx6 _
theorem Inv.cne(I:Inv X pins σ H s):∀x c,X.env.cells.lookup x=some c->c≠X.env.locals:=λx c e z=>by
 obtain⟨v,o,ho,hd⟩:=I.cell x c e;obtain⟨m,⟨o',es,ep,ho',hd',_⟩,_⟩:=I.loc;rw[z,ho'] at ho;cases ho;rw[hd'] at hd;cases hd
theorem Inv.Eo(I:Inv X pins σ H s):s.heap.FunFrames X.base X.outer:=by
 have all:∀l,(∀b∈frs l,b∈X.fs)->X.s₀.heap.FunFrames X.base l->s.heap.FunFrames X.base l:=by
  intro l
  induction l with
  | nil=>intro _ _;trivial
  | cons env r ih=>
   intro hs hl;obtain⟨hk,⟨L,o,hf,hn,ho,hd⟩,hr⟩:=hl;have hL:=hs L (by unfold frs;rw[List.filterMap_cons,hf];exact Qq3);obtain⟨sl,e⟩:=I.base.slot L o ho (I.ok.frf L hL) hL λz=>I.ok.Ug L z hL;exact⟨hk,⟨L,_,hf,hn,e,hd⟩,ih (λb hb=>hs b (by unfold frs;rw[List.filterMap_cons,hf];exact Qqy _ hb)) hr⟩
 exact all X.outer (λ_ hb=>hb) I.ok.Eo
theorem Inv.stack(I:Inv X pins σ H s):s.heap.FunFrames X.base X.stack:=by
 rcases I.ok.WY with e|⟨e,hf⟩
 ·rw[e];exact I.Eo
 ·rw[e];obtain⟨m,hn,_⟩:=I.loc;refine .cons (by rw[I.ok.kind];decide) hf hn ?_ I.Eo;exact Heap.get?_none_of_le<|Qqj I.ok.bsz I.ok.above
theorem Inv.R6(I:Inv X pins σ H s):∀b∈frs X.stack,b∈X.env.locals::X.fs:=λb hb=>by
 rcases I.ok.WY with e|⟨e,hf⟩
 ·rw[e] at hb;exact Qqy _ hb
 ·rw[e] at hb;unfold frs at hb;rw[List.filterMap_cons,hf] at hb;exact hb
theorem Inv.Va(I:Inv X pins σ H s):∀b∈frs X.stack,H b=none:=λb hb=>by
 rcases Qq8.mp (I.R6 b hb) with e|hb
 ·rw[e];exact I.free
 ·obtain⟨_,o,ho,_⟩:=I.ok.Eo.mem hb;exact I.base.free b o ho (I.ok.frf b hb) λz=>I.ok.Ug b z hb
theorem Inv.step{ch:List Addr}(I:Inv X pins σ H s)
  (hch:∀b∈ch,(b∈X.ex\/X.s₀.heap.objs.size<=b)/\b≠X.env.locals/\(∀x c,X.env.cells.lookup x=some c->c≠b)/\∀p∈X.pn++pins,p.1≠b)
  (keep:∀b o,b≠X.env.locals->b ∉ X.fs->b ∉ ch->s.heap.get? b=some o->H b=none->h'.get? b=some o)
  (slot:∀b o,b≠X.env.locals->b∈X.fs->b ∉ ch->s.heap.get? b=some o->H b=none->∃sl,h'.get? b=some { o with slots:=sl }) (free:∀b o,b ∉ ch->s.heap.get? b=some o->H b=none->H' b=none)
  (there:∀b o,b ∉ ch->s.heap.get? b=some o->∃o',h'.get? b=some o')
  (tups:∀b xs,H b=some (.tup xs)->H' b=some (.tup xs)) (Ep:∀b o u,H b=some (.Mw o u)->H' b=some (.Mw o u)) (Nx:∀b ps,H b=some (.tbl ps)->∃more,H' b=some (.tbl (ps++more)))
  (ns:∀m,s.heap.Ns X.env.locals m->h'.Ns X.env.locals m) (hok:xZ X.prog X.w H' h') (hg:AllBare g')
  (tabs:∀b qs,H b=some (.tab qs)->H' b=some (.tab qs):=by intro _ _ q;exact q) :
  Inv X pins σ H' { s with heap:=h',gens:=g',drawn:=d',toks:=t' }:=by
 have neL:∀b o,X.s₀.heap.get? b=some o->b≠X.env.locals:=λb o e=>Qwv<|Qwk (Qq0 e) I.ok.above;have neC:∀b o,X.s₀.heap.get? b=some o->b ∉ X.ex->b ∉ ch:=λb o e hx hb=>by
  rcases(hch b hb).1 with z|z
  ·exact hx z
  ·exact absurd (Qwk (Qq0 e) z)<|Qx6 _
 have cellK:∀x c,X.env.cells.lookup x=some c->∀v,s.heap.IsCell c v->h'.IsCell c v:=λx c e v ⟨o,ho,hd⟩=>by
  have nch:=λz=>(hch c z).2.2.1 x c e rfl;rcases I.xD x c e with hn|⟨_,fo,fu,hz⟩
  ·by_cases hc:c∈X.fs
   ·obtain⟨sl,q⟩:=slot c o (I.cne x c e) hc nch ho hn;exact⟨_,q,hd⟩
   ·exact⟨o,keep c o (I.cne x c e) hc nch ho hn,hd⟩
  ·have e1:=(I.hok c _ hz).1;rw[ho] at e1;cases e1;exact⟨o,(hok c _<|Ep c o fu hz).1,hd⟩
 refine⟨I.ok,I.os,hg,⟨λb o e n hb hx=>?_,λb o e n hb hx=>?_,λb o e n hx=>?_,λb o e hx=>?_,λb xs e=>tups b xs<|I.base.tups b xs e,λb o xs e=>Ep b o xs<|I.base.Ep b o xs e,λb ps e=>?_,λb qs e=>tabs b qs<|I.base.tabs b qs e⟩,?_,λx c e=>?_,?_,λx c e=>?_,λp hp=>?_,hok,I.len⟩
 ·exact keep b o (neL b o e) hb (neC b o e hx) (I.base.keep b o e n hb hx)<|I.base.free b o e n hx
 ·obtain⟨sl,e1⟩:=I.base.slot b o e n hb hx;obtain⟨sl',e2⟩:=slot b _ (neL b o e) hb (neC b o e hx) e1<|I.base.free b o e n hx;exact⟨sl',e2⟩
 ·obtain⟨o',e1⟩:=I.base.there b o e hx;exact free b o' (neC b o e hx) e1<|I.base.free b o e n hx
 ·obtain⟨o',e1⟩:=I.base.there b o e hx;exact there b o' (neC b o e hx) e1
 ·obtain⟨m1,e1⟩:=I.base.Nx b ps e;obtain⟨m2,e2⟩:=Nx b _ e1;exact⟨m1++m2,by rw[e2,Array.append_assoc]⟩
 ·obtain⟨m,hn,hl⟩:=I.loc;refine⟨m,ns m hn,λi x v e1 e2 e3=>?_⟩;obtain⟨u,r,l⟩:=hl i x v e1 e2 e3;refine⟨u,r,?_⟩;rcases l with l|⟨k,c,e,z⟩
  ·exact .inl l
  ·exact .inr ⟨k,c,e,cellK x c e _ z⟩
 ·obtain⟨v,z⟩:=I.cell x c e;exact⟨v,cellK x c e v z⟩
 ·obtain⟨m,⟨o,_,_,ho,_⟩,_⟩:=I.loc;exact free _ o (λz=>(hch _ z).2.1 rfl) ho I.free
 ·rcases I.xD x c e with hn|⟨h1,fo,fu,hz⟩
  ·obtain⟨v,o,ho,hd⟩:=I.cell x c e;exact .inl<|free c o (λz=>(hch c z).2.2.1 x c e rfl) ho hn
  ·exact .inr ⟨h1,fo,fu,Ep c fo fu hz⟩
 ·obtain⟨e,n,ne,nf,d⟩:=I.pin p hp;have nch:=λz=>(hch p.1 z).2.2.2 p hp rfl;exact⟨keep p.1 p.2 ne nf nch e n,free p.1 p.2 nch e n,ne,nf,d⟩
theorem Inv.un(I:Inv X pins σ H s)(u:Un X.fs [] H H' s.heap h')(hok:xZ X.prog X.w H' h'):Inv X pins σ H' { s with heap:=h',toks:=t' }:=by
 obtain⟨m,⟨o,es,ep,ho,r⟩,_⟩:=id I.loc;obtain⟨sl,hL⟩:=u.any ho I.free (by simp);exact I.step (ch:=[]) (λ_ z=>nomatch z) (λb o _ hb _ e n=>u.keep b o e n hb (by simp)) (λb o _ hb _ e n=>u.slot b o e n hb (by simp)) (λb o _ e n=>u.free b o e n (by simp)) (λb o _ e=>u.there b o e (by simp)) u.tups u.Ep u.Nx (λm' hm=>by
  obtain⟨o',es',ep',ho',r'⟩:=hm;rw[ho] at ho';cases ho';exact⟨_,es',ep',hL,r'⟩) hok I.bare u.tabs
theorem Inv.call(I:Inv X pins σ H s)(u:Un (frs X.stack) ch H H' s.heap h')(hok:xZ X.prog X.w H' h')(hg:AllBare g')
  (hch:∀b∈ch,(b∈X.ex\/X.s₀.heap.objs.size<=b)/\b≠X.env.locals/\(∀x c,X.env.cells.lookup x=some c->c≠b)/\∀p∈X.pn++pins,p.1≠b) :
  Inv X pins σ H' { s with heap:=h',gens:=g',drawn:=d',toks:=t' }:=by
 obtain⟨m,⟨o,es,ep,ho,r⟩,_⟩:=id I.loc;obtain⟨sl,hL⟩:=u.any ho I.free λz=>(hch _ z).2.1 rfl;exact I.step hch (λb o hL hb hc e n=>u.keep b o e n (λz=>(Qq8.mp<|I.R6 b z).elim hL hb) hc) (λb o _ _ hc e n=>u.any e n hc) (λb o hc e n=>u.free b o e n hc) (λb o hc e=>u.there b o e hc) u.tups u.Ep u.Nx (λm' hm=>by
  obtain⟨o',es',ep',ho',r'⟩:=hm;rw[ho] at ho';cases ho';exact⟨_,es',ep',hL,r'⟩) hok hg u.tabs
theorem Inv.turned(I:Inv X pins σ H s)(k:∀b o,b≠it->s.heap.get? b=some o->h'.get? b=some o)(hn:H it=none)(hL:it≠X.env.locals)
  (h1:it∈X.ex\/X.s₀.heap.objs.size<=it) (h2:∀x c,X.env.cells.lookup x=some c->c≠it) (h3:∀p∈X.pn++pins,p.1≠it):Inv X pins σ H { s with heap:=h',toks:=t' }:=by
 have nit:∀b u,H b=some u->b≠it:=λb u e z=>by rw[z,hn] at e;cases e
 refine I.step (ch:=[it]) (λb hb=>?_) (λb o _ _ hc e _=>k b o (λz=>hc (by simp[z])) e) (λb o _ _ hc e _=>⟨o.slots,k b o (λz=>hc (by simp[z])) e⟩) (λ_ _ _ _ n=>n)
  (λb o hc e=>⟨o,k b o (λz=>hc (by simp[z])) e⟩) (λ_ _ e=>e) (λ_ _ _ e=>e) (λb ps e=>⟨#[],by rw[e];simp⟩) (λm hm=>?_) (λb u e=>?_) I.bare
 ·have e:b=it:=by simpa using hb
  subst e;exact⟨h1,hL,h2,h3⟩
 ·obtain⟨o,es,ep,ho,r⟩:=hm;exact⟨o,es,ep,k _ o (Ne.symm hL) ho,r⟩
 ·refine(I.hok b u e).stay (λc v hc q=>k c v ?_ q) (λ_ q=>q) λ_ _ q=>q;rcases hc with z|z
  ·rw[z];exact nit b u e
  ·exact nit c _ z
theorem Inv.tok(I:Inv X pins σ H s)(t):Inv X pins σ H { s with toks:=t }:=I.un Un.refl I.hok
theorem Inv.kept(I:Inv X pins σ H s)(k:∀b u,s.heap.get? b=some u->h'.get? b=some u):Inv X pins σ H { s with heap:=h',toks:=t' }:=I.un (Un.kept k)<|I.hok.kept k
theorem Inv.laid{a:Addr}(I:Inv X pins σ H s)(k:∀b u,s.heap.get? b=some u->h'.get? b=some u)(hp:s.heap.objs.size<=a)(new:iV X.prog X.w (upd H a o) h' a o) :
  Inv X pins σ (upd H a o) { s with heap:=h',toks:=t' }:=I.un (Un.laid k hp<|I.hok.fresh hp)<|I.hok.laid k hp new
theorem Inv.write(I:Inv X pins σ H s)(mu:Mut (H x))(he:e=x\/H e=some (.own x))(k:∀b u,b≠e->s.heap.get? b=some u->h'.get? b=some u)(heo:∃u,h'.get? e=some u)
  (new:iV X.prog X.w (upd H x o) h' x o):Inv X pins σ (upd H x o) { s with heap:=h',toks:=t' }:=I.un (Un.write mu he k heo)<|I.hok.write mu he k heo new
theorem Inv.Vj(I:Inv X pins σ H s)(h:∀p∈afV,s.heap.get? p.1=some p.2/\H p.1=none/\p.1≠X.env.locals/\p.1 ∉ X.fs/\∀v,p.2.data ≠ .cell v):Inv X afV σ H s:=
 ⟨I.ok,I.os,I.bare,I.base,I.loc,I.cell,I.free,I.xD,λp hp=>(Qw7.mp hp).elim (λz=>I.pin p<|List.mem_append_left _ z)<|h p,I.hok,I.len⟩
theorem PN{N:List Str}(hN:N.Nodup){i j:Nat}(a:N[i]? = some x)(b:N[j]? = some x):i=j:=by obtain⟨h1,e1⟩:=Qwz.mp a;obtain⟨h2,e2⟩:=Qwz.mp b;exact(List.getElem_inj hN).mp<|e1.trans e2.symm
theorem yl(I:Inv X pins σ H s)(hN:X.N.Nodup)(hi:X.N[i]? = some x)(hx:Loc X.env.scope x)(r:RelV v u)
  (h:∀s',Inv X pins (σ.set i (some v)) H s'->(∃a,Heap.SameBut a s.heap s'.heap/\(a=X.env.locals\/X.env.cells.lookup x=some a))->Q () s') (hf:X.fn x=true\/X.env.scope.names.lookup x=some .local:=by first|exact .inl rfl|exact .inr rfl|assumption):wpAny M A (storeName X.env x u) Q E s:=by
 obtain⟨m,hn,hl⟩:=id I.loc;have hcls:(X.env.scope.kind == .class||(X.env.scope.kind == .module&&X.env.locals != X.env.globals))=false:=by rw[I.ok.kind];rfl
 have hiσ:i<σ.length:=by rw[I.len];exact(Qwz.mp hi).1
 have cne:=I.cne;have tracked:∀{a} {h'},(∃o,s.heap.get? a=some o/\H a=none)->Heap.SameBut a s.heap h'->xZ X.prog X.w H h':=λ{a h'} ha hs b ob e=>by
  obtain⟨_,_,hfree⟩:=ha;refine(I.hok b ob e).stay (λc w' hc q=>(hs.2 c ?_).trans q) (λ_ q=>q) λ_ _ q=>q;rintro rfl;rcases hc with rfl|hc
  ·rw[hfree] at e;cases e
  ·rw[hfree] at hc;cases hc
 rcases hx with hk|hk
 ·refine wpAny_storeName_local hk hn (λh' hn' hs=>?_) hcls;obtain⟨oL,_,_,hoL,_⟩:=id hn;refine h _ ⟨I.ok,I.os,I.bare,⟨λb o e n hb hx=>?_,λb o e n hb hx=>?_,I.base.free,λb o e hx=>?_,I.base.tups,I.base.Ep,I.base.Nx,I.base.tabs⟩,⟨_,hn',λj y v' e1 e2 e3=>?_⟩,λy c e=>?_,I.free,I.xD,λp hp=>?_,tracked ⟨oL,hoL,I.free⟩ hs,by simpa using I.len⟩ ⟨_,hs,.inl rfl⟩
  ·exact(hs.2 b<|Qwv<|Qwk (Qq0 e) I.ok.above).trans<|I.base.keep b o e n hb hx
  ·obtain⟨sl,e1⟩:=I.base.slot b o e n hb hx;exact⟨sl,(hs.2 b<|Qwv<|Qwk (Qq0 e) I.ok.above).trans e1⟩
  ·obtain⟨o',e1⟩:=I.base.there b o e hx;exact⟨o',(hs.2 b<|Qwv<|Qwk (Qq0 e) I.ok.above).trans e1⟩
  ·by_cases hj:j=i
   ·subst hj;rw[hi] at e1;cases e1;rw[Qxy hiσ] at e2;cases e2;exact⟨u,r,.inl ⟨hk,by simp⟩⟩
   ·rw[Qwq (Ne.symm hj)] at e2;obtain⟨u',r',q⟩:=hl j y v' e1 e2 e3;refine⟨u',r',?_⟩;rcases q with ⟨k,e⟩|⟨k,c,e,z⟩
    ·refine .inl ⟨k,?_⟩;have:y≠x:=λe=>hj<|PN hN e1<|e ▸ hi;simp[this,e]
    ·exact .inr ⟨k,c,e,z.sameBut hs<|cne y c e⟩
  ·obtain⟨w',z⟩:=I.cell y c e;exact⟨w',z.sameBut hs<|cne y c e⟩
  ·obtain⟨e,n,ne,nf,d⟩:=I.pin p hp;exact⟨(hs.2 p.1 ne).trans e,n,ne,nf,d⟩
 ·have hfn:X.fn x=true:=by
   rcases hf with z|z
   ·exact z
   ·rw[z] at hk;cases hk
  obtain⟨c,hc⟩:=I.ok.has x<|.inl hk;obtain⟨w',z⟩:=I.cell x c hc;refine wpAny_storeName_cell I.ok.kind hk hc z<|λh' hc' hs=>?_;obtain⟨oc,hoc,aoN⟩:=id z;refine h { s with heap:=h' } ⟨I.ok,I.os,I.bare,⟨λb o e n hb hx=>?_,λb o e n hb hx=>?_,I.base.free,λb o e hx=>?_,I.base.tups,I.base.Ep,I.base.Nx,I.base.tabs⟩,⟨m,hn.sameBut hs<|Ne.symm<|cne x c hc,λj y v' e1 e2 e3=>?_⟩,λy c' e=>?_,I.free,I.xD,λp hp=>?_,tracked ⟨oc,hoc,(I.xD x c hc).resolve_right λz=>by rw[hfn] at z;cases z.1⟩ hs,by simpa using I.len⟩ ⟨c,hs,.inr hc⟩
  ·exact(hs.2 b<|Qwv<|Qwk (Qq0 e)<|I.ok.cab x c hfn hc).trans<|I.base.keep b o e n hb hx
  ·obtain⟨sl,e1⟩:=I.base.slot b o e n hb hx;exact⟨sl,(hs.2 b<|Qwv<|Qwk (Qq0 e)<|I.ok.cab x c hfn hc).trans e1⟩
  ·obtain⟨o',e1⟩:=I.base.there b o e hx;exact⟨o',(hs.2 b<|Qwv<|Qwk (Qq0 e)<|I.ok.cab x c hfn hc).trans e1⟩
  ·by_cases hj:j=i
   ·subst hj;rw[hi] at e1;cases e1;rw[Qxy hiσ] at e2;cases e2;exact⟨u,r,.inr ⟨.inl hk,c,hc,hc'⟩⟩
   ·rw[Qwq (Ne.symm hj)] at e2;obtain⟨u',r',q⟩:=hl j y v' e1 e2 e3;refine⟨u',r',?_⟩;rcases q with q|⟨k,c',e,z'⟩
    ·exact .inl q
    ·refine .inr ⟨k,c',e,z'.sameBut hs ?_⟩;rintro rfl;exact hj<|PN hN e1<|I.ok.inj _ _ _ e hc ▸ hi
  ·by_cases hcc:c'=c
   ·subst hcc;exact⟨_,hc'⟩
   ·obtain⟨w2,z2⟩:=I.cell y c' e;exact⟨w2,z2.sameBut hs hcc⟩
  ·obtain⟨e,n,ne,nf,d⟩:=I.pin p hp;refine⟨(hs.2 p.1 ?_).trans e,n,ne,nf,d⟩;intro q;rw[q,hoc] at e;have q':=Qw4 e;exact d w' (by rw[<-q'];exact aoN)
theorem Oe(I:Inv X pins σ H s)(hN:X.N.Nodup)(hi:X.N[i]? = some x)(hx:Loc X.env.scope x)(r:RelV v u)
  (h:∀s',Inv X pins (σ.set i (some v)) H s'->Q () s') (hf:X.fn x=true\/X.env.scope.names.lookup x=some .local:=by first|exact .inl rfl|exact .inr rfl|assumption):wpAny M A (storeName X.env x u) Q E s:=
 yl I hN hi hx r (λs' I' _=>h s' I') hf
theorem Inv.call'(I:Inv X pins σ H s)(ho:s'.os=s.os)(u:Un (frs X.stack) ch H H' s.heap s'.heap)(hok:xZ X.prog X.w H' s'.heap)(hg:AllBare s'.gens)
  (hch:∀b∈ch,(b∈X.ex\/X.s₀.heap.objs.size<=b)/\b≠X.env.locals/\(∀x c,X.env.cells.lookup x=some c->c≠b)/\∀p∈X.pn++pins,p.1≠b):Inv X pins σ H' s':=by
 obtain⟨h',g',d',t',o'⟩:=s';have e:=ho;subst e;exact I.call u hok hg hch
end
abbrev XK:=Value->Option Addr->Hp->Prop
abbrev St:=List (Option V)
abbrev VK:=V->Hp->Prop
abbrev TE:=St->Hp->VK->Prop
abbrev TT:=St->Hp->(Bool->Hp->Prop)->Prop
abbrev TA:=St->Hp->(List V->Hp->Prop)->Prop
structure Ends where
 nx:St->Hp->Prop
 rt:VK
 bk:St->Hp->Prop:=λ_ _=>False
 ct:St->Hp->Prop:=λ_ _=>False
abbrev TS:=Ends->St->Hp->Prop
inductive EP (X:Cx) (pins:List (Addr×Obj)) (σ:St) (Q:VK) (u:Value) (s':Shared):Prop
 | mk (v:V) (H':Hp) (_:Inv X pins σ H' s') (_:RelV v u) (_:Q v H'):EP X pins σ Q u s'
inductive TP (X:Cx) (pins:List (Addr×Obj)) (σ:St) (Q:Bool->Hp->Prop) (b:Bool) (s':Shared):Prop
 | mk (H':Hp) (_:Inv X pins σ H' s') (_:Q b H'):TP X pins σ Q b s'
inductive AP (X:Cx) (pins:List (Addr×Obj)) (σ:St) (Q:List V->Hp->Prop) (us:List Value) (s':Shared):Prop
 | mk (vs:List V) (H':Hp) (_:Inv X pins σ H' s') (_:Vals vs us) (_:Q vs H'):AP X pins σ Q us s'
def SP(X:Cx)(pins:List (Addr×Obj))(D:Ends)(f:Flow)(s':Shared):Prop:=
 match f with
 | .next=>∃σ' H',Inv X pins σ' H' s'/\D.nx σ' H'
 | .brk=>∃σ' H',Inv X pins σ' H' s'/\D.bk σ' H'
 | .cont=>∃σ' H',Inv X pins σ' H' s'/\D.ct σ' H'
 | .ret u=>∃v σ' H',Inv X pins σ' H' s'/\RelV v u/\D.rt v H'
def PE(X:Cx)(e:Expr)(t:TE):Prop:=
 ∀(pins:List (Addr×Obj)) (s:Shared) (σ:St) (H:Hp) (Q:VK),Inv X pins σ H s->t σ H Q->wpAny (model X.prog X.w) X.A (eval e X.env) (EP X pins σ Q) X.xe s
def PT(X:Cx)(e:Expr)(t:TT):Prop:=
 ∀(pins:List (Addr×Obj)) (s:Shared) (σ:St) (H:Hp) (Q:Bool->Hp->Prop),Inv X pins σ H s->t σ H Q->wpAny (model X.prog X.w) X.A (isTrue e X.env (eval e X.env)) (TP X pins σ Q) X.xe s
def PW(X:Cx)(e:Expr)(t:TT):Prop:=
 ∀(whole:Sem Value) (pins:List (Addr×Obj)) (s:Shared) (σ:St) (H:Hp) (Q:Bool->Hp->Prop),Inv X pins σ H s->t σ H Q->wpAny (model X.prog X.w) X.A (isTrue e X.env whole) (TP X pins σ Q) X.xe s
theorem PW.pt(h:PW X e t):PT X e t:=h _
def PA(X:Cx)(es:List Expr)(t:TA):Prop:=
 ∀(pos:Pos) (pins:List (Addr×Obj)) (s:Shared) (σ:St) (H:Hp) (Q:List V->Hp->Prop),Inv X pins σ H s->t σ H Q->wpAny (model X.prog X.w) X.A (spliced (backTo pos (starEach es X.env))) (AP X pins σ Q) X.xe s
def PS(X:Cx)(st:Stmt)(t:TS):Prop:=
 ∀(pins:List (Addr×Obj)) (s:Shared) (σ:St) (H:Hp) (D:Ends),Inv X pins σ H s->t D σ H->wpAny (model X.prog X.w) X.A (exec st X.env) (SP X pins D) X.xe s
def Rq(X:Cx)(st:List Stmt)(t:TS):Prop:=
 ∀(pins:List (Addr×Obj)) (s:Shared) (σ:St) (H:Hp) (D:Ends),Inv X pins σ H s->t D σ H->wpAny (model X.prog X.w) X.A (execs st X.env) (SP X pins D) X.xe s
theorem fC{α:Type}{t:Sem α}{Q Q':α->Shared->Prop}(h:wpAny M A t Q E s)(hQ:∀a s,Q a s->Q' a s):wpAny M A t Q' E s:=Qwy h hQ λ_ _ x=>x
section
variable{X:Cx}
def aky(i:Nat):TE:=λσ H Q=>∃v,σ[i]? = some (some v)/\Q v H
def tC(v:V):TE:=λ_ H Q=>Q v H
theorem kj{pos:Pos}(hN:X.N[i]? = some x)(hv:yd X.env.scope x)(hd:oW x:=by decide)(hcd:yP x:=by decide):PE X (.Name x pos) (aky i):=by
 intro pins s σ H Q I h;obtain⟨v,e,h⟩:=h;obtain⟨m,hn,hl⟩:=I.loc;obtain⟨u,r,l⟩:=hl i x v hN e hv;have fin:EP X pins σ Q u s:=⟨v,H,I,r,h⟩;rcases l with ⟨hk,hm⟩|⟨hk,c,hc,hcell⟩
 ·exact wpAny_Name (wpAny_loadName_local I.ok.kind hk hn hm fin) hd
 ·rcases hk with hk|hk
  ·exact wpAny_Name (wpAny_loadName_cell I.ok.kind hk hc hcell fin) hd
  ·exact wpAny_Name (wpAny_loadName_free I.ok.kind hk hc hcell fin hcd) hd
theorem aaM{i j pos}:PE X (.Constant (.int i) j pos) (tC (.int i)):=λ_ _ _ H _ I h=>wpAny_Constant_int ⟨.int i,H,I.tok _,⟨_,rfl⟩,h⟩
theorem aln{b j pos}:PE X (.Constant (.bool b) j pos) (tC (.bl b)):=λ_ _ _ H _ I h=>Constant_bool ⟨.bl b,H,I,rfl,h⟩
theorem ahm{j pos}:PE X (.Constant .none j pos) (tC .non):=λ_ _ _ H _ I h=>Constant_none ⟨.non,H,I,rfl,h⟩
theorem ahi{x j pos}:PE X (.Constant (.str x) j pos) (tC (.str x)):=λ_ _ _ H _ I h=>Calls.Constant_str ⟨.str x,H,I.tok _,⟨_,rfl⟩,h⟩
def Gl(X:Cx)(x:Str):Prop:=X.env.kindOf x=some .globalImplicit
theorem Vr{σ:St}(I:Inv X pins σ H s)(hg:Gl X x)(hm:X.mg x=some u)(h:Q u s)
  (hd:oW x:=by decide):wpAny (model X.prog X.w) X.A (eval (.Name x pos) X.env) Q E s:=
 Calls.Name_function_global I.ok.kind hg (Calls.loadGlobal_global (by rw[I.ok.glob];exact I.mod.glob.keeps I.bk) hm h) hd
theorem qT{E:Value->Shared->Prop}{σ:St}{pos:Pos}(I:Inv X pins σ H s)(hg:Gl X x)(hm:X.mg x=none)(hv:bootBuiltins x=some u)(h:Q u s)
  (hn:x ≠ "__name__":=by decide) (hd:oW x:=by decide):wpAny (model X.prog X.w) X.A (eval (.Name x pos) X.env) Q E s:=by
 obtain⟨mb,h1,h2⟩:=I.mod.blt;exact Calls.Name_function_global I.ok.kind hg (Calls.loadGlobal_builtin (by rw[I.ok.glob];exact I.mod.glob.keeps I.bk) hm (by rw[I.ok.blt];exact h1.keeps I.bk) ((h2 x hn).trans hv) h) hd
theorem Ln(hg:Gl X x)(hm:X.mg x=some u)(r:RelV v u)(hd:oW x:=by decide):PE X (.Name x pos) (tC v):=
 λ_ _ _ H _ I h=>Vr I hg hm ⟨v,H,I,r,h⟩ hd
theorem adY{pos:Pos}(hg:Gl X x)(hm:X.mg x=none)(hv:bootBuiltins x=some u)(r:RelV v u)(hn:x ≠ "__name__":=by decide)(hd:oW x:=by decide):PE X (.Name x pos) (tC v):=
 λ_ _ _ H _ I h=>qT I hg hm hv ⟨v,H,I,r,h⟩ hn hd
variable{a b:Expr}{ta tb:TE}{pos:Pos}
def PC(X:Cx)(op:CmpOp)(a b:Expr)(t:TE):Prop:=
 ∀(pins:List (Addr×Obj)) (s:Shared) (σ:St) (H:Hp) (Q:VK),Inv X pins σ H s->t σ H Q->
  wpAny (model X.prog X.w) X.A (eval a X.env) (λv s₁=>wpAny (model X.prog X.w) X.A (eval b X.env) (λu s₂=>wpAny (model X.prog X.w) X.A (compareOp op v u) (EP X pins σ Q) X.xe s₂) X.xe s₁) X.xe s
def tB(t:TE):TT:=λσ H Q=>t σ H λx H1=>∃c,x = .bl c/\Q c H1
theorem aha(h:PC X op a b t)(h1:behindInMarks op b=false:=by first|exact alG _ (by decide) (by decide)|rfl):PT X (.Compare a [op] [b] pos) (tB t):=by intro pins s σ H Q I hw;refine wpAny_isTrue_Compare1 (fC (h pins s σ H _ I hw) λv s1 h1=>fC h1 λu s2 h2=>fC h2 λc s3 ⟨x,H1,I1,r1,q1⟩=>?_) h1;obtain⟨d,rfl,q⟩:=q1;cases r1;exact Qx2 ⟨H1,I1,q⟩
theorem ag8(h:PE X e t)(he:∀whole,isTrue e X.env whole=(do let v <-whole;standAt e.pos;holding [v] (truthy v)):=by intro _;rfl):PT X e (tB t):=by intro pins s σ H Q I hw;refine isTrue_plain (fC (h pins s σ H _ I hw) λv s1 ⟨x,H1,I1,r1,q1⟩=>?_)<|he _;obtain⟨d,rfl,q⟩:=q1;cases r1;exact Qx2 ⟨H1,I1,q⟩
variable{tA tB':TT}{rest:List Expr}
def aoa(t u:TT):TT:=λσ H Q=>t σ H λc H1=>if c=true then u σ H1 Q else Q false H1
def tOr(t u:TT):TT:=λσ H Q=>t σ H λc H1=>if c=true then Q true H1 else u σ H1 Q
def an3(t:TT):TT:=λσ H Q=>t σ H λc H1=>Q (!c) H1
theorem pw_and1(ha:PT X a tA):PW X (.BoolOp .And [a] pos) tA:=by
 intro wh pins s σ H Q I h;refine isTrue_and<|fC (ha pins s σ H Q I h) λc s1 e=>?_;cases c with
 | true=>exact isTrue_and_nil e
 | false=>exact e
theorem pw_or1(ha:PT X a tA):PW X (.BoolOp .Or [a] pos) tA:=by
 intro wh pins s σ H Q I h;refine isTrue_or<|fC (ha pins s σ H Q I h) λc s1 e=>?_;cases c with
 | false=>exact isTrue_or_nil e
 | true=>exact e
theorem pw_and(ha:PT X a tA)(hb:PW X (.BoolOp .And (b::rest) pos) tB'):PW X (.BoolOp .And (a::b::rest) pos) (aoa tA tB'):=by
 intro wh pins s σ H Q I h;refine isTrue_and<|fC (ha pins s σ H _ I h) λc s1 ⟨H1,I1,q1⟩=>?_;cases c with
 | true=>exact hb wh pins s1 σ H1 Q I1 q1
 | false=>exact⟨H1,I1,q1⟩
theorem pw_or(ha:PT X a tA)(hb:PW X (.BoolOp .Or (b::rest) pos) tB'):PW X (.BoolOp .Or (a::b::rest) pos) (tOr tA tB'):=by
 intro wh pins s σ H Q I h;refine isTrue_or<|fC (ha pins s σ H _ I h) λc s1 ⟨H1,I1,q1⟩=>?_;cases c with
 | true=>exact⟨H1,I1,q1⟩
 | false=>exact hb wh pins s1 σ H1 Q I1 q1
theorem ag9(ha:PT X a tA):PT X (.UnaryOp .Not a pos) (an3 tA):=by intro pins s σ H Q I h;exact isTrue_not<|fC (ha pins s σ H (λc H1=>Q (!c) H1) I h) λc s1 ⟨H1,I1,q1⟩=>⟨H1,I1,q1⟩
def akG(ta tb:TE):TE:=λσ H Q=>ta σ H λx H1=>∃c,x = .bl c/\if c=true then tb σ H1 Q else Q (.bl false) H1
def an2(ta tb:TE):TE:=λσ H Q=>ta σ H λx H1=>∃c,x = .bl c/\if c=true then Q (.bl true) H1 else tb σ H1 Q
def akA(ta:TE):TE:=λσ H Q=>ta σ H λx H1=>∃c,x = .bl c/\Q (.bl (!c)) H1
theorem ahk{op}(h:PE X a t):PE X (.BoolOp op [a] pos) t:=λpins s σ H Q I hw=>BoolOp_one<|h pins s σ H Q I hw
theorem aho(ha:PE X a ta)(hb:PE X (.BoolOp .And (b::rest) pos) tb):PE X (.BoolOp .And (a::b::rest) pos) (akG ta tb):=by
 intro pins s σ H Q I h;refine BoolOp_and<|fC (ha pins s σ H _ I h) λv s1 ⟨x,H1,I1,r1,q1⟩=>?_;obtain⟨c,rfl,q1⟩:=q1;cases r1;refine Qx2 ?_;cases c with
 | true=>exact hb pins s1 σ H1 Q I1 q1
 | false=>exact⟨.bl false,H1,I1,rfl,q1⟩
theorem alk(ha:PE X a ta)(hb:PE X (.BoolOp .Or (b::rest) pos) tb):PE X (.BoolOp .Or (a::b::rest) pos) (an2 ta tb):=by
 intro pins s σ H Q I h;refine BoolOp_or<|fC (ha pins s σ H _ I h) λv s1 ⟨x,H1,I1,r1,q1⟩=>?_;obtain⟨c,rfl,q1⟩:=q1;cases r1;refine Qx2 ?_;cases c with
 | false=>exact hb pins s1 σ H1 Q I1 q1
 | true=>exact⟨.bl true,H1,I1,rfl,q1⟩
theorem ahl(ha:PE X a ta):PE X (.UnaryOp .Not a pos) (akA ta):=by intro pins s σ H Q I h;refine UnaryOp_<|fC (ha pins s σ H _ I h) λv s1 ⟨x,H1,I1,r1,q1⟩=>?_;obtain⟨c,rfl,q1⟩:=q1;cases r1;exact not_of<|Qx2 ⟨.bl<|!c,H1,I1,rfl,q1⟩
end
def nq(K:PySem.W.Frag)(H:Hp)(a:Addr)(xs:List V):Prop:=
 Rd H a (.lst xs)\/
  ∃(o:Obj) (its:Array Value) (n:Nat),K.lookup a=some o/\o.cls = .type "list"/\o.dict=none/\o.data = .seq its n/\its.size<=sizeLine/\Vals xs its.toList
def mQ(K:PySem.W.Frag)(H:Hp)(a:Addr)(xs:List V):Prop:=
 Rd H a (.tup xs)\/
  ∃(o:Obj) (its:Array Value) (n:Nat),K.lookup a=some o/\o.cls = .type "tuple"/\o.dict=none/\o.data = .seq its n/\its.size<=sizeLine/\Vals xs its.toList
noncomputable def apc:Value->Option V
 | .none=>some .non
 | .bool b=>some (.bl b)
 | .int i _=>some (.int i)
 | .str x _=>some (.str x)
 | .bytes b _=>some (.byt b)
 | .float b _=>some (.flt b)
 | .ref a=>some (.ref a)
 | .type n=>some (.ty n)
 | _=>none
theorem RelV.abs(r:RelV x u):apc u=some x:=by
 cases x with
 | non=>cases r;rfl
 | bl _=>cases r;rfl
 | int _=>obtain⟨t,rfl⟩:=r;rfl
 | str _=>obtain⟨t,rfl⟩:=r;rfl
 | byt _=>obtain⟨t,rfl⟩:=r;rfl
 | flt _=>obtain⟨t,rfl⟩:=r;rfl
 | ref _=>cases r;rfl
 | ty _=>cases r;rfl
theorem RelV.inj(r:RelV x u)(q:RelV y u):x=y:=Qw4<|r.abs.symm.trans q.abs
theorem Vals.inj:∀{xs ys} {us},Vals xs us->Vals ys us->xs=ys
 | _,_,_,.nil,.nil=>rfl
 | _,_,_,.cons r t,.cons r' t'=>by rw[r.inj r',Vals.inj t t']
section
variable{X:Cx}{pins:List (Addr×Obj)}{σ:St}{H:Hp}{s:Shared}{a:Addr}{xs ys:List V}
theorem nq.of{K:PySem.W.Frag}(h:H a=some (.lst xs)):nq K H a xs:=.inl<|.inl h
theorem mQ.of{K:PySem.W.Frag}(h:H a=some (.tup xs)):mQ K H a xs:=.inl<|.inl h
theorem Inv.list(I:Inv X pins σ H s)(h:nq X.K H a xs):∃its,Vals xs its/\PlainL s.heap a its.toArray/\xs.length<=sizeLine:=by
 rcases h with h|⟨o,its,n,hk,hc,hd,hs,hz,r⟩
 ·obtain⟨z,its,n,r,e⟩:=h.ok I.hok;exact⟨its,r,⟨_,n,e,rfl,rfl,rfl⟩,z⟩
 ·refine⟨its.toList,r,⟨o,n,I.XX a o hk,hc,hd,by simpa using hs⟩,?_⟩;have e:=r.length;simp[Qx7] at e;omega
theorem Inv.tuple(I:Inv X pins σ H s)(h:mQ X.K H a xs):∃its,Vals xs its/\IsTup s.heap a its.toArray/\xs.length<=sizeLine:=by
 rcases h with h|⟨o,its,n,hk,hc,hdn,hs,hz,r⟩
 ·obtain⟨z,its,r,p⟩:=h.ok I.hok;exact⟨its,r,p.is,z⟩
 ·refine⟨its.toList,r,⟨o,I.XX a o hk,hc,n,by simpa using hs⟩,?_⟩;have e:=r.length;simp[Qx7] at e;omega
theorem Inv.Qe(I:Inv X pins σ H s)(h:nq X.K H a xs)(h':nq X.K H a ys):xs=ys:=by
 obtain⟨its,r,⟨o,n,e,_,_,d⟩,_⟩:=I.list h;obtain⟨its',r',⟨o',n',e',_,_,d'⟩,_⟩:=I.list h';rw[e] at e';cases e';rw[d] at d';injection d' with d1 _
 have:its=its':=by simpa using Qzx Array.toList d1
 subst this;exact r.inj r'
theorem Inv.uo(I:Inv X pins σ H s)(h:mQ X.K H a xs)(h':mQ X.K H a ys):xs=ys:=by
 obtain⟨its,r,⟨o,e,_,n,d⟩,_⟩:=I.tuple h;obtain⟨its',r',⟨o',e',_,n',d'⟩,_⟩:=I.tuple h';rw[e] at e';cases e';rw[d] at d';injection d' with d1 _
 have:its=its':=by simpa using Qzx Array.toList d1
 subst this;exact r.inj r'
end
abbrev Cx.wish(X:Cx)(E:Value->Shared->Prop):Cx:={ X with xe:=E }
abbrev Cx.nox(X:Cx):Cx:=X.wish λ_ _=>False
theorem Cx.Ok.wish{X:Cx}(ok:X.Ok)(E):(X.wish E).Ok:=
 ⟨ok.mod,ok.kind,ok.glob,ok.blt,ok.above,ok.inj,ok.has,ok.cab,ok.hd,ok.frames,ok.WY,ok.exf,ok.bs,ok.bsz,ok.aa4,ok.Ug,ok.Eo,ok.frf⟩
theorem Cx.Ok.rW{X:Cx}(ok:(X.wish E).Ok):X.Ok:=
 ⟨ok.mod,ok.kind,ok.glob,ok.blt,ok.above,ok.inj,ok.has,ok.cab,ok.hd,ok.frames,ok.WY,ok.exf,ok.bs,ok.bsz,ok.aa4,ok.Ug,ok.Eo,ok.frf⟩
section
variable{X:Cx}{pins:List (Addr×Obj)}{σ:St}{H:Hp}{s:Shared}{E:Value->Shared->Prop}
theorem Inv.wish(I:Inv X pins σ H s)(E):Inv (X.wish E) pins σ H s:=⟨I.ok.wish E,I.os,I.bare,I.base,I.loc,I.cell,I.free,I.xD,I.pin,I.hok,I.len⟩
theorem Inv.rW(I:Inv (X.wish E) pins σ H s):Inv X pins σ H s:=⟨I.ok.rW,I.os,I.bare,I.base,I.loc,I.cell,I.free,I.xD,I.pin,I.hok,I.len⟩
theorem SP.rW(h:SP (X.wish E) pins D f s'):SP X pins D f s':=by
 cases f with
 | next=>obtain⟨σ',H',I,q⟩:=h;exact⟨σ',H',I.rW,q⟩
 | brk=>obtain⟨σ',H',I,q⟩:=h;exact⟨σ',H',I.rW,q⟩
 | cont=>obtain⟨σ',H',I,q⟩:=h;exact⟨σ',H',I.rW,q⟩
 | ret u=>obtain⟨v,σ',H',I,r,q⟩:=h;exact⟨v,σ',H',I.rW,r,q⟩
theorem Rq.nox{st:List Stmt}(h:Rq X.nox st t):Rq X st t:=λpins s σ H D I hw=>
 Qwy (h pins s σ H D (I.wish _) hw) (λ_ _ q=>q.rW) λ_ _ z=>False.elim z
end
section
variable{X:Cx}{st:Stmt}{rest:List Stmt}{t u:TS}{e:Expr}{te:TE}{pos:Pos}
def akB:TS:=λD σ H=>D.nx σ H
def anY(t u:TS):TS:=λD σ H=>t { D with nx:=u D } σ H
theorem adK:Rq X [] akB:=λ_ _ σ H _ I h=>wpAny_execs_nil ⟨σ,H,I,h⟩
theorem aaB(h1:PS X st t)(h2:Rq X rest u):Rq X (st::rest) (anY t u):=by
 intro pins s σ H D I h;refine wpAny_execs_cons<|fC (h1 pins s σ H { D with nx:=u D } I h) λf s1 q=>?_;cases f with
 | next=>
  obtain⟨σ',H',I',q⟩:=q;exact h2 pins s1 σ' H' D I' q
 | ret v=>exact q
 | brk=>exact q
 | cont=>exact q
theorem adJ(h1:PS X st t):Rq X [st] t:=by
 intro pins s σ H D I h;refine wpAny_execs_cons<|fC (h1 pins s σ H D I h) λf s1 q=>?_;cases f with
 | next=>exact wpAny_execs_nil q
 | ret v=>exact q
 | brk=>exact q
 | cont=>exact q
theorem Inv.quiet{σ:St}(I:Inv X pins σ H s):interactive X.env=false:=by simp[interactive,I.ok.kind]
def akD(te:TE):TS:=λD σ H=>te σ H λ_ H1=>D.nx σ H1
theorem Lk(he:PE X e te)(hs:swapsWith e none pos.line X.env=pure false:=by rfl):PS X (.Expr e pos) (akD te):=by intro pins s σ H D I h;exact wpAny_Expr_any (fC (he pins s σ H _ I h) λv s1 ⟨x,H1,I1,r1,q1⟩=>⟨σ,H1,I1,q1⟩) I.quiet hs
def an1(te:TE):TS:=λD σ H=>te σ H D.rt
theorem aaE(he:PE X e te):PS X (.Return (some e) pos) (an1 te):=by intro pins s σ H D I h;exact wpAny_Return_some<|fC (he pins s σ H _ I h) λv s1 ⟨x,H1,I1,r1,q1⟩=>⟨x,σ,H1,I1,r1,q1⟩
def an7(c:TT)(t u:TS):TS:=λD σ H=>c σ H λb H1=>if b=true then t D σ H1 else u D σ H1
theorem ali(hc:PT X c tc)(ha:Rq X a t)(hb:Rq X b u):PS X (.If c a b pos) (an7 tc t u):=by
 intro pins s σ H D I h;refine wpAny_If<|fC (hc pins s σ H _ I h) λd s1 ⟨H1,I1,q1⟩=>?_;cases d with
 | true=>exact ha pins s1 σ H1 D I1 q1
 | false=>exact hb pins s1 σ H1 D I1 q1
end
abbrev TG:=V->St->Hp->(St->Hp->Prop)->Prop
abbrev TGs:=List V->St->Hp->(St->Hp->Prop)->Prop
def PG(X:Cx)(target:Expr)(t:TG):Prop:=
 ∀(pins:List (Addr×Obj)) (s:Shared) (σ:St) (H:Hp) (v:V) (u:Value) (Q:St->Hp->Prop),Inv X pins σ H s->RelV v u->t v σ H Q->
  wpAny (model X.prog X.w) X.A (assign target X.env u) (λ_ s'=>∃σ' H',Inv X pins σ' H' s'/\Q σ' H') X.xe s
def PGs(X:Cx)(ts:List Expr)(t:TGs):Prop:=
 ∀(pins:List (Addr×Obj)) (s:Shared) (σ:St) (H:Hp) (vs:List V) (us:List Value) (Q:St->Hp->Prop),Inv X pins σ H s->Vals vs us->t vs σ H Q->
  wpAny (model X.prog X.w) X.A (assignInOrder ((assignEach ts X.env).map (·.2)) us) (λ_ s'=>∃σ' H',Inv X pins σ' H' s'/\Q σ' H') X.xe s
abbrev Ng:=V->V->V->Hp->(Hp->Prop)->Prop
def ane(X:Cx)(t:Ng):Prop:=
 ∀(pins:List (Addr×Obj)) (s:Shared) (σ:St) (H:Hp) (o i v:V) (ov iv u:Value) (Q:Hp->Prop),Inv X pins σ H s->RelV o ov->RelV i iv->RelV v u->t o i v H Q->
  wpAny (model X.prog X.w) X.A (setItem ov iv u) (λ_ s'=>∃H',Inv X pins σ H' s'/\Q H') X.xe s
section
variable{X:Cx}{pos:Pos}
def zV(i:Nat):TG:=λv σ H Q=>Q (σ.set i (some v)) H
theorem adV(hN:X.N.Nodup)(hi:X.N[i]? = some x)(hx:Loc X.env.scope x)(hf:X.fn x=true\/X.env.scope.names.lookup x=some .local:=by first|exact .inl rfl|exact .inr rfl|assumption):PG X (.Name x pos) (zV i):=by intro pins s σ H v u Q I r h;exact wpAny_assign_Name<|Oe I hN hi hx r (λs' I'=>⟨_,H,I',h⟩) hf
def ao3:TGs:=λvs σ H Q=>vs=[]/\Q σ H
def amJ(t:TG)(u:TGs):TGs:=λvs σ H Q=>∃v r,vs=v::r/\t v σ H λσ' H'=>u r σ' H' Q
theorem adU:PGs X [] ao3:=by intro pins s σ H vs us Q I r h;obtain⟨e,h⟩:=h;subst e;cases r;exact assignInOrder_nil ⟨σ,H,I,h⟩
theorem aaL(h1:PG X e t)(h2:PGs X es u)
  (hs:(assignEach (e::es) X.env).map (·.2)=assign e X.env::(assignEach es X.env).map (·.2):=by rfl):PGs X (e::es) (amJ t u):=by
 intro pins s σ H vs us Q I r h;obtain⟨v,vr,e1,h⟩:=h;subst e1;cases r with
 | cons r rr=>
  rw[hs];refine assignInOrder_cons<|fC (h1 pins s σ H _ _ _ I r h) λ_ s1 ⟨σ1,H1,I1,q1⟩=>?_;exact h2 pins s1 σ1 H1 _ _ Q I1 rr q1
def ao2(K:PySem.W.Frag)(n:Nat)(t:TGs):TG:=λv σ H Q=>∃a xs,v = .ref a/\mQ K H a xs/\xs.length=n/\t xs σ H Q
theorem ahf{k:Nat}(hc:X.calm=true)(h:PGs X es t)
  (hn:(assignEach es X.env).length=n:=by rfl) (hst:(assignEach es X.env).findIdx? (·.1)=none:=by rfl):PG X (.Tuple es k pos) (ao2 X.K n t):=by
 intro pins s σ H v u Q I r hw;obtain⟨a,xs,e1,hq,hl,hw⟩:=hw;subst e1;cases r;obtain⟨its,rv,ht,hz⟩:=I.tuple hq;refine assign_Tuple_tuple (I.ok.hd hc) ht (by simp[hn,<-hl,rv.length]) hst λh' hx=>?_;have I1:Inv X pins σ H { s with heap:=h' }:=I.kept λb o e=>hx b o (Qwv<|Qq0 e) e;exact h pins _ σ H xs _ Q I1 (by simpa using rv) hw
def m7(to ti:TE)(t:Ng):TG:=λv σ H Q=>to σ H λo H1=>ti σ H1 λi H2=>t o i v H2 λH3=>Q σ H3
theorem ahg(ho:PE X o to)(hi:PE X i ti)(hs:ane X t)
  (ha:∀v,assign (.Subscript o i pos) X.env v=(do
   let ov <-holding [v] (eval o X.env)
   let iv <-holding [v,ov] (eval i X.env)
   standAt pos
   holding [v,ov,iv] (setItem ov iv v)
   release [v,ov,iv] []):=by intro _;rfl):PG X (.Subscript o i pos) (m7 to ti t):=by
 intro pins s σ H v u Q I r h;rw[ha];refine Qqq<|Qjj<|fC (ho pins s σ H _ I h) λov s1 ⟨x,H1,I1,r1,q1⟩=>?_;refine Qqq<|Qjj<|fC (hi pins s1 σ H1 _ I1 q1) λiv s2 ⟨y,H2,I2,r2,q2⟩=>?_;refine Qqq<|Qz0<|Qqq<|Qjj<|fC (hs pins s2 σ H2 x y v ov iv u _ I2 r1 r2 r q2) λ_ s3 ⟨H3,I3,q3⟩=>?_;exact wpAny_release ⟨σ,H3,I3,q3⟩
def ZR(te:TE)(g:TG):TS:=λD σ H=>te σ H λx H1=>g x σ H1 D.nx
theorem ahc(he:PE X e te)(hg:PG X tg g)(hs:swapsWithSole [tg] e pos.line X.env=pure false:=by rfl)(hw:swappedStores [tg] e X.env=pure none:=by rfl)
  (h1:(assignEach [tg] X.env).map (·.2)=[assign tg X.env]:=by rfl):PS X (.Assign [tg] e pos) (ZR te g):=by
 intro pins s σ H D I h;refine wpAny_Assign_stores (fC (he pins s σ H _ I h) λv s1 ⟨x,H1,I1,r1,q1⟩=>?_) hs hw;rw[h1];exact fC (hg pins s1 σ H1 x v _ I1 r1 q1) λ_ s2 q=>q
theorem aaD(hN:X.N.Nodup)(hi:X.N[i]? = some x)(hx:Loc X.env.scope x)(he:PE X e te)(hs:swapsWith e (some (.Name x pos')) pos.line X.env=pure false:=by rfl)(hf:X.fn x=true\/X.env.scope.names.lookup x=some .local:=by first|exact .inl rfl|exact .inr rfl|assumption) :
  PS X (.Assign [.Name x pos'] e pos) (ZR te (zV i)):=by
 intro pins s σ H D I h;refine wpAny_Assign_Name (fC (he pins s σ H _ I h) λv s1 ⟨y,H1,I1,r1,q1⟩=>?_) hs;exact Oe I1 hN hi hx r1 (λs2 I2=>⟨_,H1,I2,q1⟩) hf
end
structure It where
 go:Nat->Hp->Prop
 Zh:Nat->Hp->V->Hp->Prop
 stop:Nat->Hp->Prop
def o8(X:Cx)(pins:List (Addr×Obj))(H:Hp)(b:Addr):Prop:=
 H b=none/\b≠X.env.locals/\b ∉ X.fs/\(b∈X.ex\/X.s₀.heap.objs.size<=b)/\(∀x c,X.env.cells.lookup x=some c->c≠b)/\∀p∈X.pn++pins,p.1≠b
theorem Inv.Ue{σ:St}{b:Addr}(I:Inv X pins σ H s)(hb:s.heap.objs.size<=b)(hn:H' b=none):o8 X pins H' b:=by
 refine⟨hn,Qz5<|Qwk I.lt hb,I.aoq hb,.inr<|Qqj I.sz hb,λx c e z=>?_,λp hp z=>?_⟩
 ·obtain⟨v,q⟩:=I.cell x c e;exact absurd (Qwk q.lt (by rw[z];exact hb))<|Qx6 _
 ·exact absurd (Qwk (Qq0 (I.pin p hp).1) (by rw[z];exact hb))<|Qx6 _
structure Turn(P:Program)(w:World)(K:PySem.W.Frag)(tg:Expr)(J:It)(fp:List Addr)(it:Addr)(tn:Nat->Heap->Prop):Prop where
 mem:it∈fp
 obj:∀i h,tn i h->∀b∈fp,∃o,h.get? b=some o/\∀v,o.data ≠ .cell v
 keep:∀i h h',tn i h->(∀b∈fp,∀o,h.get? b=some o->h'.get? b=some o)->tn i h'
 item:∀(X:Cx),X.prog=P->X.w=w->X.K=K->X.calm=true->∀(i:Nat) (pins:List (Addr×Obj)) (s:Shared) (σ:St) (H:Hp) (E:Value->Shared->Prop),Inv X pins σ H s->(∀b∈fp,o8 X pins H b)->tn i s.heap->J.go i H->
  wpAny (model P w) X.A (pyNext (.ref it)) (λr s1=>∃u,r=some u/\
   wpAny (model P w) X.A (letOwnedTupleGo tg (.ref it) u) (λ_ s2=>∃x H',Inv X pins σ H' s2/\RelV x u/\J.Zh i H x H'/\tn (i+1) s2.heap/\∀b∈fp,H' b=none) E s1) E s
 done:∀(X:Cx),X.prog=P->X.w=w->X.K=K->X.calm=true->∀(i:Nat) (pins:List (Addr×Obj)) (s:Shared) (σ:St) (H:Hp) (E:Value->Shared->Prop),Inv X pins σ H s->(∀b∈fp,o8 X pins H b)->tn i s.heap->J.stop i H->
  wpAny (model P w) X.A (pyNext (.ref it)) (λr s1=>r=none/\Inv X pins σ H s1) E s
 self:∀(A:Around) (i:Nat) (s:Shared) (Q:Value->Shared->Prop) (E:Value->Shared->Prop),tn i s.heap->Q (.ref it) s->wpAny (model P w) A (pyIter (.ref it)) Q E s
abbrev TI:=St->Hp->(It->Hp->Prop)->Prop
def PIE(X:Cx)(pins:List (Addr×Obj))(σ:St)(tg:Expr)(R:It->Hp->Prop)(itv:Value)(s2:Shared):Prop:=
 ∃(it:Addr) (fp:List Addr) (tn:Nat->Heap->Prop) (J:It) (H':Hp),itv = .ref it/\Inv X pins σ H' s2/\Turn X.prog X.w X.K tg J fp it tn/\tn 0 s2.heap/\(∀b∈fp,o8 X pins H' b)/\R J H'
def PI(X:Cx)(tg iter:Expr)(wi:TI):Prop:=
 ∀(pins:List (Addr×Obj)) (s:Shared) (σ:St) (H:Hp) (R:It->Hp->Prop),Inv X pins σ H s->wi σ H R->
  wpAny (model X.prog X.w) X.A (eval iter X.env) (λv s1=>wpAny (model X.prog X.w) X.A (pyIter v) (PIE X pins σ tg R) X.xe s1) X.xe s
theorem JD(ho : s.heap.get? it = some o)(hc : o.cls = .type n)(hd : o.data = .fields vs)
    (hn : ["enumerate", "zip", "dict_itemiterator", "dict_reverseitemiterator", "odict_iterator", "itertools.zip_longest", "itertools.pairwise"].contains n = false) (hQ : Q () s) : wpAny M A (letOwnedTupleGo tg (.ref it) u) Q E s := by
  unfold letOwnedTupleGo;cases tg <;> first
    | exact Qqk hQ
    | (cases u <;> first
        | exact Qqk hQ
        | (refine Qqq<|wpAny_load ho ?_
           rw [hc, hd];show wpAny M A (if (["enumerate", "zip", "dict_itemiterator", "dict_reverseitemiterator", "odict_iterator", "itertools.zip_longest", "itertools.pairwise"].contains n && vs[0]? == some (rawInt _)) = true then _ else _) Q E s;rw [if_neg (by intro h; rw [hn, Bool.false_and] at h; cases h)];exact Qqk hQ))
noncomputable def Itl(K:PySem.W.Frag)(a:Addr):It:=
 ⟨λi H=>∃xs x,nq K H a xs/\xs[i]? = some x,λi H x H'=>H'=H/\∀xs,nq K H a xs->xs[i]? = some x,λi H=>∃xs,nq K H a xs/\xs.length<=i⟩
noncomputable def Itt(K:PySem.W.Frag)(a:Addr):It:=
 ⟨λi H=>∃xs x,mQ K H a xs/\xs[i]? = some x,λi H x H'=>H'=H/\∀xs,mQ K H a xs->xs[i]? = some x,λi H=>∃xs,mQ K H a xs/\xs.length<=i⟩
noncomputable def Itr(lo:Int)(n:Nat):It:=⟨λi _=>i<n,λi H x H'=>H'=H/\x = .int (lo+i),λi _=>n<=i⟩
theorem Ww{P:Program}{w:World}{K:PySem.W.Frag}{tg:Expr}(a it:Addr):Turn P w K tg (Itl K a) [it] it (λi h=>h.IsListIter it a i) where
 mem:=by simp
 obj:=λi h st b hb=>by
  have e:b=it:=by simpa using hb
  subst e;obtain⟨o,e,c,d⟩:=st;exact⟨o,e,λv z=>by rw[d] at z;cases z⟩
 keep:=λi h h' st k=>st.at λo e=>k it (by simp) o e
 item:=by intro X hP hw hK hc i pins s σ H E I hf st hg;subst hP hw hK;obtain⟨xs,x,hq,hx⟩:=hg;obtain⟨its,rv,p,hz⟩:=I.list hq;obtain⟨u,hu,ru⟩:=rv.get hx;obtain⟨f0,f1,f2,f3,f4,f5⟩:=hf it (by simp);refine wpAny_pyNext_list_item st p.isList (by simpa using hu) λh' st' sb=>?_;have I1:Inv X pins σ H { s with heap:=h' }:=I.turned (λb o hb e=>(sb.2 b hb).trans e) f0 f1 f3 f4 f5;obtain⟨o,e,c,d⟩:=id st';exact⟨u,rfl,JD e c d (by decide) ⟨x,H,I1,ru,⟨rfl,λys hy=>by rw[I.Qe hy hq];exact hx⟩,st',λb hb=>(hf b hb).1⟩⟩
 done:=by intro X hP hw hK hc i pins s σ H E I hf st hg;subst hP hw hK;obtain⟨xs,hq,hx⟩:=hg;obtain⟨its,rv,p,hz⟩:=I.list hq;obtain⟨f0,f1,f2,f3,f4,f5⟩:=hf it (by simp);have hl:=rv.length;exact wpAny_pyNext_list_end (I.ok.hd hc) st p.isList (by simp;omega) λh' eb=>⟨rfl,I.turned (λb o hb e=>eb b o hb e) f0 f1 f3 f4 f5⟩
 self:=λ_ _ _ _ _ st h=>wpAny_pyIter_listiter st h
theorem Rw{P:Program}{w:World}{K:PySem.W.Frag}{tg:Expr}(a it:Addr):Turn P w K tg (Itt K a) [it] it (λi h=>h.IsTupleIter it a i) where
 mem:=by simp
 obj:=λi h st b hb=>by
  have e:b=it:=by simpa using hb
  subst e;obtain⟨o,e,c,d⟩:=st;exact⟨o,e,λv z=>by rw[d] at z;cases z⟩
 keep:=λi h h' st k=>st.at λo e=>k it (by simp) o e
 item:=by intro X hP hw hK hc i pins s σ H E I hf st hg;subst hP hw hK;obtain⟨xs,x,hq,hx⟩:=hg;obtain⟨its,rv,p,hz⟩:=I.tuple hq;obtain⟨u,hu,ru⟩:=rv.get hx;obtain⟨f0,f1,f2,f3,f4,f5⟩:=hf it (by simp);refine wpAny_pyNext_tuple_item st p (by simpa using hu) λh' st' sb=>?_;have I1:Inv X pins σ H { s with heap:=h' }:=I.turned (λb o hb e=>(sb.2 b hb).trans e) f0 f1 f3 f4 f5;obtain⟨o,e,c,d⟩:=id st';exact⟨u,rfl,JD e c d (by decide) ⟨x,H,I1,ru,⟨rfl,λys hy=>by rw[I.uo hy hq];exact hx⟩,st',λb hb=>(hf b hb).1⟩⟩
 done:=by intro X hP hw hK hc i pins s σ H E I hf st hg;subst hP hw hK;obtain⟨xs,hq,hx⟩:=hg;obtain⟨its,rv,p,hz⟩:=I.tuple hq;obtain⟨f0,f1,f2,f3,f4,f5⟩:=hf it (by simp);have hl:=rv.length;exact wpAny_pyNext_tuple_end (I.ok.hd hc) st p (by simp;omega) λh' eb=>⟨rfl,I.turned (λb o hb e=>eb b o hb e) f0 f1 f3 f4 f5⟩
 self:=λ_ _ _ _ _ st h=>wpAny_pyIter_tupleiter st h
theorem Rx{P:Program}{w:World}{K:PySem.W.Frag}{tg:Expr}(it:Addr)(lo:Int)(n:Nat):Turn P w K tg (Itr lo n) [it] it (λi h=>IsRangeIter h it (lo+(i:Nat)*1) ((n:Int) - (i:Nat)) 1) where
 mem:=by simp
 obj:=λi h st b hb=>by
  have e:b=it:=by simpa using hb
  subst e;exact⟨_,st,λv z=>by
   have z':=z;cases z'⟩
 keep:=λi h h' st k=>k it (by simp) _ st
 item:=by intro X hP hw hK hc i pins s σ H E I hf st hg;subst hP hw hK;obtain⟨f0,f1,f2,f3,f4,f5⟩:=hf it (by simp);have W:=Walks.range (prog:=X.prog) (w:=X.w) (I.ok.hd hc) it lo 1 n;refine W.item i s _ _ hg st λv h' tk hv st' kk=>?_;obtain⟨t,rfl⟩:=hv;have I1:Inv X pins σ H { s with heap:=h',toks:=tk }:=I.turned (λb o hb e=>kk b o (by simpa using hb) e) f0 f1 f3 f4 f5;refine⟨_,rfl,JD st' rfl rfl (by decide) ⟨.int<|lo+i,H,I1,⟨t,?_⟩,⟨rfl,rfl⟩,st',λb hb=>(hf b hb).1⟩⟩;rw[Int.mul_one]
 done:=by intro X hP hw hK hc i pins s σ H E I hf st hg;subst hP hw hK;obtain⟨f0,f1,f2,f3,f4,f5⟩:=hf it (by simp);exact wpAny_pyNext_range_end (I.ok.hd hc) st (by have:n<=i:=hg;omega) λh' eb=>⟨rfl,I.turned (λb o hb e=>eb b o hb e) f0 f1 f3 f4 f5⟩
 self:=λ_ _ _ _ _ st h=>wpAny_pyIter_rangeiter st h
section
variable{X:Cx}{tg:Expr}
theorem O9{σ:St}{lo hi:Int}(I:Inv X pins σ H s)(h1 : -(2^62)<=lo)(h2:lo<2^62)(h3 : -(2^62)<=hi)(h4:hi<2^62)
  (q:R (Itr lo (hi - lo).toNat) H):wpAny (model X.prog X.w) X.A (pyIter (.ref s.heap.objs.size)) (PIE X pins σ tg R) E { s with heap:=s.heap.push { cls:=.type "range",data:=.fields #[.int lo t,.int hi u,.int 1 v] },toks:=tk }:=by
 refine wpAny_pyIter_range (IsRange.new ..) (small_one h1 h2 h3 h4) ?_;have I1:Inv X pins σ H { s with heap:=s.heap.push { cls:=.type "range",data:=.fields #[.int lo t,.int hi u,.int 1 v] },toks:=tk }:=I.kept λb o e=>Qqx _ e;refine⟨(s.heap.push { cls:=.type "range",data:=.fields #[.int lo t,.int hi u,.int 1 v] }).objs.size,[(s.heap.push { cls:=.type "range",data:=.fields #[.int lo t,.int hi u,.int 1 v] }).objs.size],_,_,H,rfl,
  I1.kept λb o e=>Qqx _ e,Rx _ lo (hi - lo).toNat,?_,λb hb=>?_,q⟩
 ·have e1:lo+(0:Nat)*1=lo:=by simp
  have e2:((hi - lo).toNat) - (0:Nat)=Builtin.Range.rangeSize lo hi 1:=by rw[rangeSize_one];split<;>omega
  show IsRangeIter _ _ (lo+(0:Nat)*1) (((hi - lo).toNat) - (0:Nat)) 1;rw[e1,e2];exact Qq4 _ rfl
 ·have e:b=(s.heap.push { cls:=.type "range",data:=.fields #[.int lo t,.int hi u,.int 1 v] }).objs.size:=by simpa using hb
  subst e;exact I1.Ue (Qqv _)<|I1.hok.fresh<|Qqv _
def amt(ta:TA):TI:=λσ H R=>ta σ H λvs H1=>∃j:Int,vs=[.int j]/\-(2^62)<=j/\j<2^62/\R (Itr 0 j.toNat) H1
def ams(ta:TA):TI:=λσ H R=>ta σ H λvs H1=>∃i j:Int,vs=[.int i,.int j]/\(-(2^62)<=i/\i<2^62/\-(2^62)<=j/\j<2^62)/\R (Itr i (j - i).toNat) H1
theorem Xi(hg:Gl X "range")(hm:X.mg "range" = none)(ha:PA X [a] ta)(hs:starEach [a] X.env=[(false,eval a X.env)]:=by rfl):PI X tg (.Call (.Name "range" p) [a] [] pos) (amt ta):=by
 intro pins s σ H R I h;refine Call_<|qT I hg hm boot_range<|Qxz (fC (ha pos pins s σ H _ I h) λus s1 ⟨vs,H1,I1,r1,q1⟩=>?_) hs rfl;obtain⟨j,e,q1,q2,q⟩:=q1;subst e;cases r1 with
 | cons r rr=>
  cases rr;obtain⟨t,rfl⟩:=r;exact call_range_1<|O9 I1 (by omega) (by omega) q1 q2 (by simpa using q)
theorem Xh{p pos:Pos}(hg:Gl X "range")(hm:X.mg "range" = none)(ha:PA X [a,b] ta)(hs:starEach [a,b] X.env=[(false,eval a X.env),(false,eval b X.env)]:=by rfl)(hs2:starEach [b] X.env=[(false,eval b X.env)]:=by rfl) :
  PI X tg (.Call (.Name "range" p) [a,b] [] pos) (ams ta):=by
 intro pins s σ H R I h;refine Call_<|qT I hg hm boot_range<|Qxz (fC (ha pos pins s σ H _ I h) λus s1 ⟨vs,H1,I1,r1,q1⟩=>?_) (by rw[hs,hs2]) (by rw[hs2];rfl);obtain⟨i,j,e,⟨q1,q2,q3,q4⟩,q⟩:=q1;subst e;cases r1 with
 | cons r rr=>
  cases rr with
  | cons r' rr=>
   cases rr;obtain⟨t,rfl⟩:=r;obtain⟨t',rfl⟩:=r';exact call_range_2<|O9 I1 q1 q2 q3 q4 q
def an8(wi:TI)(g:TG)(tb:TS):TS:=λD σ H=>wi σ H λJ H1=>∃W:Nat->Nat->St->Hp->Prop,(∃m,W 0 m σ H1)/\∀i m σ H,W i m σ H->
 (J.stop i H/\D.nx σ H)\/(J.go i H/\∃N:St->Hp->Prop,(∀σ' H',N σ' H'->∃m',m'<m/\W (i+1) m' σ' H')/\∀x H',J.Zh i H x H'->g x σ H' λσ2 H2=>tb { D with nx:=N,ct:=N,bk:=D.nx } σ2 H2)
noncomputable def nH(fp:List Addr)(h:Heap):List (Addr×Obj):=fp.filterMap λb=>(h.get? b).map λo=>(b,o)
theorem iw(hb:b∈fp)(e:h.get? b=some o):(b,o)∈nH fp h:=List.mem_filterMap.mpr ⟨b,hb,by rw[e];rfl⟩
theorem Xu(hp:p∈nH fp h):p.1∈fp/\h.get? p.1=some p.2:=by
 obtain⟨b,hb,e⟩:=List.mem_filterMap.mp hp;cases q:h.get? b with
 | none=>rw[q] at e;cases e
 | some o=>
  rw[q] at e;have e':=Qw4 e;subst e';exact⟨hb,q⟩
theorem Inv.pinned{σ:St}(I:Inv X pins σ H s)(hf:∀b∈fp,o8 X pins H b)(ho:∀b∈fp,∃o,s.heap.get? b=some o/\∀v,o.data ≠ .cell v):Inv X (pins++nH fp s.heap) σ H s:=
 I.Vj λp hp=>(Qw7.mp hp).elim (λz=>I.pin p<|Qq7 _ z) λz=>by
  obtain⟨hb,e⟩:=Xu z;obtain⟨f0,f1,f2,_⟩:=hf p.1 hb;obtain⟨o,e',d⟩:=ho p.1 hb;rw[e] at e';cases e';exact⟨e,f0,f1,f2,d⟩
theorem Inv.oK{σ:St}(I:Inv X (pins++pl) σ H s):Inv X pins σ H s:=I.Vj λp hp=>I.pin p<|Qq7 _<|List.mem_append_left _ hp
theorem ahb(hp:PassesOwn (model X.prog X.w) X.A X.env X.xe)(hc:X.calm=true)(hi:PI X tg iter wi)(hg:PG X tg g)(hb:Rq X body tb)
  (hs:∀x,foldedSetIterable iter X.env x=pure x:=by intro _;rfl):PS X (.For tg iter body [] pos) (an8 wi g tb):=by
 intro pins s σ H D I h;refine wpAny_For (fC (hi pins s σ H _ I h) λv s1 h1=>fC h1 λitv s2 h2=>?_) hs;obtain⟨it,fp,tn,J,H2,e,I2,T,st2,f2,W,⟨m0,w0⟩,turn⟩:=h2;subst e
 -- what stays true of the iterator's objects through the loop
 have stat:∀{H'},(∀b∈fp,H' b=none)->∀b∈fp,o8 X pins H' b:=λhn b hb=>⟨hn b hb,(f2 b hb).2⟩;refine codeAny_forLoop_any (λn s'=>∃i σ' H',Inv X pins σ' H' s'/\tn i s'.heap/\(∀b∈fp,H' b=none)/\W i n σ' H') ?_ m0 ⟨0,σ,H2,I2,st2,λb hb=>(f2 b hb).1,w0⟩;rintro n s3 ⟨i,σ3,H3,I3,st3,fr3,w3⟩;rcases turn i n σ3 H3 w3 with ⟨stop,qn⟩|⟨go,N,hN,step⟩
 ·refine wpAny_passesOwn hp<|fC (T.done X rfl rfl rfl hc i pins s3 σ3 H3 X.xe I3 (stat fr3) st3 stop) λr s4 ⟨hr,I4⟩=>?_;subst hr;exact wpAny_execs_nil ⟨σ3,H3,I4,qn⟩
 ·refine wpAny_passesOwn hp<|fC (T.item X rfl rfl rfl hc i pins s3 σ3 H3 X.xe I3 (stat fr3) st3 go) λr s4 ⟨u,hr,h4⟩=>?_;subst hr;refine wpAny_passesOwn hp<|fC h4 λ_ s5 ⟨x,H5,I5,r5,y5,Y4,fr5⟩=>?_;have I5':=I5.pinned (stat fr5)<|T.obj _ _ Y4;refine wpAny_passesOwn hp<|fC (hg _ s5 σ3 H5 x u _ I5' r5<|step x H5 y5) λ_ s6 ⟨σ6,H6,I6,q6⟩=>?_;refine wpAny_passesOwn hp<|fC (hb _ s6 σ6 H6 _ I6 q6) λf s7 q7=>?_;have again:∀{σ7} {H7},Inv X (pins++nH fp s5.heap) σ7 H7 s7->N σ7 H7->∃m,m<n/\∃i σ' H',Inv X pins σ' H' s7/\tn i s7.heap/\(∀b∈fp,H' b=none)/\W i m σ' H':=λ{σ7 H7} I7 n7=>by
   obtain⟨m',hm,w7⟩:=hN σ7 H7 n7;refine⟨m',hm,i+1,σ7,H7,I7.oK,T.keep _ _ _ Y4 λb hb o e=>(I7.pin (b,o)<|Qq7 _<|Qq7 _<|iw hb e).1,λb hb=>?_,w7⟩;obtain⟨o,e,d⟩:=T.obj _ _ Y4 b hb;exact(I7.pin (b,o)<|Qq7 _<|Qq7 _<|iw hb e).2.1
  cases f with
  | next=>obtain⟨σ7,H7,I7,n7⟩:=q7;exact again I7 n7
  | cont=>obtain⟨σ7,H7,I7,n7⟩:=q7;exact again I7 n7
  | brk=>obtain⟨σ7,H7,I7,q7⟩:=q7;exact⟨σ7,H7,I7.oK,q7⟩
  | ret v=>obtain⟨x7,σ7,H7,I7,r7,q7⟩:=q7;exact⟨x7,σ7,H7,I7.oK,r7,q7⟩
end
abbrev R2:=V->V->Hp->VK->Prop
def nu(X:Cx)(f:Value->Value->Sem Value)(r:R2):Prop:=
 ∀(pins:List (Addr×Obj)) (s:Shared) (σ:St) (H:Hp) (x y:V) (v u:Value) (Q:VK),Inv X pins σ H s->RelV x v->RelV y u->r x y H Q->
  wpAny (model X.prog X.w) X.A (f v u) (EP X pins σ Q) X.xe s
def UnR(X:Cx)(f:Value->Sem Value)(r:V->Hp->VK->Prop):Prop:=
 ∀(pins:List (Addr×Obj)) (s:Shared) (σ:St) (H:Hp) (x:V) (v:Value) (Q:VK),Inv X pins σ H s->RelV x v->r x H Q->
  wpAny (model X.prog X.w) X.A (f v) (EP X pins σ Q) X.xe s
def jL(X:Cx)(f:Value)(r:List V->Hp->VK->Prop):Prop:=
 ∀(pins:List (Addr×Obj)) (s:Shared) (σ:St) (H:Hp) (xs:List V) (us:List Value) (Q:VK),Inv X pins σ H s->Vals xs us->r xs H Q->
  wpAny (model X.prog X.w) X.A (call f us) (EP X pins σ Q) X.xe s
def tOp(r:R2)(ta tb:TE):TE:=λσ H Q=>ta σ H λx H1=>tb σ H1 λy H2=>r x y H2 Q
def tUn(r:V->Hp->VK->Prop)(ta:TE):TE:=λσ H Q=>ta σ H λx H1=>r x H1 Q
def rI(C:Int->Int->Prop)(g:Int->Int->V):R2:=λx y H Q=>∃i j,x = .int i/\y = .int j/\C i j/\Q (g i j) H
def Rp(g:Int->Int->V):R2:=λx y H Q=>∃i j,x = .int i/\y = .int j/\Q (g i j) H
def rU(g:Int->V):V->Hp->VK->Prop:=λx H Q=>∃i,x = .int i/\Q (g i) H
section
variable{X:Cx}{a b c:Expr}{ta tb tc:TE}{pos:Pos}
theorem ajQ(ha:PE X a ta)(hb:PE X b tb){σ:St}{R:V->V->Hp->Prop}(I:Inv X pins σ H s)
  (h:ta σ H λx H1=>tb σ H1 λy H2=>R x y H2) {f:Value->Value->Sem Value}
  (hf:∀v u s2 x y H2,Inv X pins σ H2 s2->RelV x v->RelV y u->R x y H2->wpAny (model X.prog X.w) X.A (f v u) Q X.xe s2) :
  wpAny (model X.prog X.w) X.A (eval a X.env) (λv s₁=>wpAny (model X.prog X.w) X.A (eval b X.env) (λu s₂=>wpAny (model X.prog X.w) X.A (f v u) Q X.xe s₂) X.xe s₁) X.xe s:=by
 refine fC (ha pins s σ H _ I h) λv s1 ⟨x,H1,I1,r1,q1⟩=>?_;refine fC (hb pins s1 σ H1 _ I1 q1) λu s2 ⟨y,H2,I2,r2,q2⟩=>?_;exact hf v u s2 x y H2 I2 r1 r2 q2
theorem afX(ho:nu X (binaryOp op) r)(ha:PE X a ta)(hb:PE X b tb):PE X (.BinOp a op b pos) (tOp r ta tb):=by intro pins s σ H Q I h;exact wpAny_BinOp<|ajQ ha hb I h λv u s2 x y H2 I2 rx ry q=>ho pins s2 σ H2 x y v u Q I2 rx ry q
theorem afW(ho:UnR X (unaryOp op) r)(ha:PE X a ta):PE X (.UnaryOp op a pos) (tUn r ta):=by intro pins s σ H Q I h;exact UnaryOp_<|fC (ha pins s σ H _ I h) λv s1 ⟨x,H1,I1,r1,q1⟩=>ho pins s1 σ H1 x v Q I1 r1 q1
theorem opI{g:Int->Int->Int}
  (rule:∀i j t u s Q E,C i j->Q (.int (g i j) s.toks) { s with toks:=s.toks+1 }->wpAny (model X.prog X.w) X.A (f (.int i t) (.int j u)) Q E s) :
  nu X f (rI C λi j=>.int (g i j)):=by
 intro pins s σ H x y v u Q I rx ry h;obtain⟨i,j,rfl,rfl,hc,q⟩:=h;obtain⟨t,rfl⟩:=rx;obtain⟨t',rfl⟩:=ry;exact rule i j t t' s _ _ hc ⟨.int<|g i j,H,I.tok _,⟨_,rfl⟩,q⟩
theorem ahF{g:Int->Int->Int}
  (rule:∀i j t u s Q E,Q (.int (g i j) s.toks) { s with toks:=s.toks+1 }->wpAny (model X.prog X.w) X.A (f (.int i t) (.int j u)) Q E s) :
  nu X f (Rp λi j=>.int (g i j)):=by
 intro pins s σ H x y v u Q I rx ry h;obtain⟨i,j,rfl,rfl,q⟩:=h;obtain⟨t,rfl⟩:=rx;obtain⟨t',rfl⟩:=ry;exact rule i j t t' s _ _ ⟨.int<|g i j,H,I.tok _,⟨_,rfl⟩,q⟩
theorem ahG{g:Int->Int->Bool}
  (rule:∀i j t u s Q E,Q (.bool (g i j)) s->wpAny (model X.prog X.w) X.A (f (.int i t) (.int j u)) Q E s) :
  nu X f (Rp λi j=>.bl (g i j)):=by
 intro pins s σ H x y v u Q I rx ry h;obtain⟨i,j,rfl,rfl,q⟩:=h;obtain⟨t,rfl⟩:=rx;obtain⟨t',rfl⟩:=ry;exact rule i j t t' s _ _ ⟨.bl<|g i j,H,I,rfl,q⟩
def ano(i j:Int):Prop:=0<j/\j<1073741824
def afA(i j:Int):Prop:=0<=j/\j<=1000000/\i.natAbs<2^64
theorem Rv(k):(0:Int)<=2^k:=by rw[two_pow_cast];exact Int.natCast_nonneg _
theorem ahE:nu X (binaryOp .Add) (Rp λi j=>.int (i+j)):=ahF λ_ _ _ _ _ _ _ q=>add_int q
theorem ahq:nu X (binaryOp .Sub) (Rp λi j=>.int (i - j)):=ahF λ_ _ _ _ _ _ _ q=>sub_int q
theorem ahv:nu X (binaryOp .Mod) (rI (λ_ j=>0<j) λi j=>.int (i % j)):=opI λi j _ _ _ _ _ hc q=>by
 have h1:=hc;exact mod_int' (by omega) (by rw[Int.fmod_eq_emod_of_nonneg i (by omega)];exact q)
theorem aht:nu X (binaryOp .Pow) (rI afA λi j=>.int (i^j.toNat)):=opI λ_ _ _ _ _ _ _ hc q=>pow_int_small hc.1 hc.2.1 hc.2.2 q
theorem ahs:nu X (binaryOp .LShift) (rI afA λi j=>.int (i*2^j.toNat)):=opI λ_ _ _ _ _ _ _ hc q=>lshift_int_small hc.1 hc.2.1 hc.2.2 q
theorem ahr:nu X (binaryOp .RShift) (rI (λ_ j=>0<=j) λi j=>.int (i / 2^j.toNat)):=opI λi j _ _ _ _ _ hc q=>
 rshift_int hc (by rw[Int.fdiv_eq_ediv_of_nonneg i (Rv _)];exact q)
theorem ahD:nu X (binaryOp .BitAnd) (Rp λi j=>.int (Builtin.bitAnd i j)):=ahF λ_ _ _ _ _ _ _ q=>and_int q
theorem unI{g:Int->Int}
  (rule:∀i t s Q E,Q (.int (g i) s.toks) { s with toks:=s.toks+1 }->wpAny (model X.prog X.w) X.A (f (.int i t)) Q E s) :
  UnR X f (rU λi=>.int (g i)):=by
 intro pins s σ H x v Q I rx h;obtain⟨i,rfl,q⟩:=h;obtain⟨t,rfl⟩:=rx;exact rule i t s _ _ ⟨.int<|g i,H,I.tok _,⟨_,rfl⟩,q⟩
theorem ZC:UnR X (unaryOp .USub) (rU λi=>.int (-i)):=unI λ_ _ _ _ _ q=>neg_int q
end
theorem ajG:decide (V.bl i=V.bl j)=(i == j):=by rw[Qj5];simp
section
variable{X:Cx}{a b c:Expr}{ta tb tc:TE}{pos:Pos}
theorem Et{σ:St}(I:Inv X pins σ H s)(q:Q (.bl k) H)(e:k=k'):EP X pins σ Q (.bool k') s:=by subst e;exact⟨.bl k,H,I,rfl,q⟩
theorem alo:nu X (compareOp .Lt) (Rp λi j=>.bl (decide (i<j))):=ahG λ_ _ _ _ _ _ _ q=>lt_int q
theorem alp:nu X (compareOp .LtE) (Rp λi j=>.bl (decide (i<=j))):=ahG λ_ _ _ _ _ _ _ q=>le_int q
theorem alq:nu X (compareOp .Gt) (Rp λi j=>.bl (decide (j<i))):=ahG λ_ _ _ _ _ _ _ q=>gt_int q
theorem Xq:nu X (compareOp .Lt) (λx y H Q=>∃i j,x = .str i/\y = .str j/\Q (.bl (decide (i.cps.toList<j.cps.toList))) H):=by intro pins s σ H x y v u Q I rx ry h;obtain⟨i,j,rfl,rfl,q⟩:=h;obtain⟨t,rfl⟩:=rx;obtain⟨t',rfl⟩:=ry;exact lt_str<|Et I q rfl
theorem Xr:nu X (compareOp .In) (λx y H Q=>∃i j,x = .str i/\y = .str j/\Q (.bl (!(Builtin.Str.occurrences j i 0 j.length 1).isEmpty)) H):=by intro pins s σ H x y v u Q I rx ry h;obtain⟨i,j,rfl,rfl,q⟩:=h;obtain⟨t,rfl⟩:=rx;obtain⟨t',rfl⟩:=ry;exact in_str<|Et I q rfl
theorem ahx:nu X (compareOp .Is) (λx y H Q=>y = .non/\Q (.bl (decide (x = .non))) H):=by
 intro pins s σ H x y v u Q I rx ry h;obtain⟨rfl,q⟩:=h;cases ry;refine is_none_gen<|Et I q ?_;cases x<;>first
  | (cases rx;rfl)
  | (obtain⟨t,rfl⟩:=rx;rfl)
theorem Lq:nu X (compareOp .NotIn) (λx y H Q=>∃i j,x = .str i/\y = .str j/\Q (.bl (!(!(Builtin.Str.occurrences j i 0 j.length 1).isEmpty))) H):=by intro pins s σ H x y v u Q I rx ry h;obtain⟨i,j,rfl,rfl,q⟩:=h;obtain⟨t,rfl⟩:=rx;obtain⟨t',rfl⟩:=ry;exact notIn_str<|Et I q rfl
theorem nu.or(h:nu X f r)(h':nu X f r'):nu X f (λx y H Q=>r x y H Q\/r' x y H Q):=by
 intro pins s σ H x y v u Q I rx ry q;rcases q with q|q
 ·exact h pins s σ H x y v u Q I rx ry q
 ·exact h' pins s σ H x y v u Q I rx ry q
theorem Vk(ho:nu X (compareOp op) r)(ha:PE X a ta)(hb:PE X b tb)(hm:behindInMarks op b=false):PE X (.Compare a [op] [b] pos) (tOp r ta tb):=by intro pins s σ H Q I h;exact wpAny_Compare1 (ajQ ha hb I h λv u s2 x y H2 I2 rx ry q=>ho pins s2 σ H2 x y v u Q I2 rx ry q) hm
def afK(t:TE):TT:=λσ H Q=>t σ H λx H'=>∃k,x = .bl k/\Q k H'
theorem Vi(ho:nu X (compareOp op) r)(ha:PE X a ta)(hb:PE X b tb)(hm:behindInMarks op b=false):PT X (.Compare a [op] [b] pos) (afK (tOp r ta tb)):=by
 intro pins s σ H Q I h;refine wpAny_isTrue_Compare1 (fC (ha pins s σ H _ I h) λv s1 ⟨x,H1,I1,r1,q1⟩=>fC (hb pins s1 σ H1 _ I1 q1) λu s2 ⟨y,H2,I2,r2,q2⟩=>
  fC (ho pins s2 σ H2 x y v u _ I2 r1 r2 q2) λc s3 ⟨z,H3,I3,r3,k,e,q3⟩=>?_) hm
 subst e;cases r3;exact Qx2 ⟨H3,I3,q3⟩
def R0(r r':R2)(ta tb tc:TE):TE:=λσ H Q=>ta σ H λx H1=>tb σ H1 λy H2=>r x y H2 λz H3=>∃k,z = .bl k/\
 (if k=true then tc σ H3 λw' H4=>r' y w' H4 Q else Q (.bl false) H3)
theorem aaO(ho:nu X (compareOp op) r)(ho':nu X (compareOp op') r')(ha:PE X a ta)(hb:PE X b tb)(hc:PE X c tc)
  (hm:lastMarks [op,op'] [b,c]=false:=by with_unfolding_all rfl):PE X (.Compare a [op,op'] [b,c] pos) (R0 r r' ta tb tc):=by
 intro pins s σ H Q I h;refine Compare_chain (fC (ha pins s σ H _ I h) λv s1 ⟨x,H1,I1,r1,q1⟩=>chain_link (fC (hb pins s1 σ H1 _ I1 q1) λu s2 ⟨y,H2,I2,r2,q2⟩=>
  fC (ho pins s2 σ H2 x y v u _ I2 r1 r2 q2) λd s3 ⟨z,H3,I3,r3,k,e,q3⟩=>?_)) hm
 subst e;cases r3;refine Qx2 ?_;cases k with
 | false=>exact ite_ff ⟨.bl false,H3,I3,rfl,q3⟩
 | true=>exact ite_tt<|chain_last<|fC (hc pins s3 σ H3 _ I3 q3) λw' s4 ⟨z',H4,I4,r4,q4⟩=>ho' pins s4 σ H4 y z' u w' Q I4 r2 r4 q4
theorem aaA(ho:nu X (compareOp op) r)(ho':nu X (compareOp op') r')(ha:PE X a ta)(hb:PE X b tb)(hc:PE X c tc)
  (hm:lastMarks [op,op'] [b,c]=false:=by with_unfolding_all rfl):PT X (.Compare a [op,op'] [b,c] pos) (afK (R0 r r' ta tb tc)):=by
 intro pins s σ H Q I h;refine isTrue_chain (fC (ha pins s σ H _ I h) λv s1 ⟨x,H1,I1,r1,q1⟩=>test_link (fC (hb pins s1 σ H1 _ I1 q1) λu s2 ⟨y,H2,I2,r2,q2⟩=>
  fC (ho pins s2 σ H2 x y v u _ I2 r1 r2 q2) λd s3 ⟨z,H3,I3,r3,k,e,q3⟩=>?_)) hm
 subst e;cases r3;refine Qx2 ?_;cases k with
 | false=>
  obtain⟨k',e',q'⟩:=q3;cases e';exact ite_ff ⟨H3,I3,q'⟩
 | true=>
  refine ite_tt<|test_last<|fC (hc pins s3 σ H3 _ I3 q3) λw' s4 ⟨z',H4,I4,r4,q4⟩=>fC (ho' pins s4 σ H4 y z' u w' _ I4 r2 r4 q4) λd' s5 ⟨z2,H5,I5,r5,k2,e2,q5⟩=>?_;subst e2;cases r5;exact Qx2 ⟨H5,I5,q5⟩
theorem ai2{κ:Type}{kvs:List (κ×V)}{vs:List (κ×Value)}(r:KV kvs vs):(!vs.isEmpty) = !kvs.isEmpty:=by cases r<;>rfl
theorem ai1(r:Vals xs its):(!its.toArray.isEmpty) = !xs.isEmpty:=by cases r<;>simp
theorem vV:sizeLine<2^63:=by rw[sizeLine_eq];decide
theorem Tj:nu X (binaryOp .Add) (λx y H Q=>∃i j,x = .str i/\y = .str j/\i.length+j.length<=sizeLine/\Q (.str (i++j)) H):=by intro pins s σ H x y v u Q I rx ry h;obtain⟨i,j,rfl,rfl,hz,q⟩:=h;obtain⟨t,rfl⟩:=rx;obtain⟨t',rfl⟩:=ry;exact add_str (λt' tk=>⟨.str<|i++j,H,I.tok _,⟨_,rfl⟩,q⟩) hz
theorem vals1(r:Vals [x] us):∃u,us=[u]/\RelV x u:=by
 cases r with
 | cons r1 r2=>cases r2;exact⟨_,rfl,r1⟩
theorem vals2(r:Vals [x,y] us):∃u w',us=[u,w']/\RelV x u/\RelV y w':=by
 cases r with
 | cons r1 r2=>
  cases r2 with
  | cons r3 r4=>cases r4;exact⟨_,_,rfl,r1,r3⟩
theorem Yv(hc:X.calm=true):jL X (.builtin "max") (λxs H Q=>∃i j,xs=[.int i,.int j]/\Q (.int (if j > i then j else i)) H):=by
 intro pins s σ H xs us Q I r h;obtain⟨i,j,rfl,q⟩:=h;obtain⟨u,w',rfl,⟨t,rfl⟩,⟨t',rfl⟩⟩:=vals2 r;refine max_two_ints (I.ok.hd hc) λh' tk k=>⟨_,H,I.kept k,?_,q⟩;by_cases hj:j > i
 ·rw[if_pos hj,if_pos hj];exact⟨_,rfl⟩
 ·rw[if_neg hj,if_neg hj];exact⟨_,rfl⟩
theorem Yu(hc:X.calm=true):jL X (.builtin "min") (λxs H Q=>∃i j,xs=[.int i,.int j]/\Q (.int (if j<i then j else i)) H):=by
 intro pins s σ H xs us Q I r h;obtain⟨i,j,rfl,q⟩:=h;obtain⟨u,w',rfl,⟨t,rfl⟩,⟨t',rfl⟩⟩:=vals2 r;refine min_two_ints (I.ok.hd hc) λh' tk k=>⟨_,H,I.kept k,?_,q⟩;by_cases hj:j<i
 ·rw[if_pos hj,if_pos hj];exact⟨_,rfl⟩
 ·rw[if_neg hj,if_neg hj];exact⟨_,rfl⟩
theorem MN:jL X (.type "str") (λxs H Q=>∃i,xs=[.int i]/\i.natAbs.log2<1920/\Q (.str (toString i)) H):=by intro pins s σ H xs us Q I r h;obtain⟨i,rfl,hz,q⟩:=h;obtain⟨u,rfl,t,rfl⟩:=vals1 r;exact PySem.P.str_of_int hz ⟨.str _,H,I.tok _,⟨_,rfl⟩,q⟩
def ang(K:PySem.W.Frag)(x:V)(H:Hp)(n:Nat):Prop:=
 match x with
 | .str y=>y.length<=sizeLine/\n=y.length
 | .byt y=>y.size<=sizeLine/\n=y.size
 | .ref p=>(∃xs,nq K H p xs/\n=xs.length)\/∃xs,mQ K H p xs/\n=xs.length
 | _=>False
theorem acp:jL X (.builtin "len") (λxs H Q=>∃x n,xs=[x]/\ang X.K x H n/\Q (.int n) H):=by
 intro pins s σ H xs us Q I r h;obtain⟨x,n,rfl,e,q⟩:=h;obtain⟨u,rfl,rx⟩:=vals1 r;have hl:=vV;have hs:=sizeLine_eq;cases x with
 | str y=>
  obtain⟨t,rfl⟩:=rx;obtain⟨hy,e'⟩:y.length<=sizeLine/\n=y.length:=e;subst e';exact len_str (by omega) ⟨.int _,H,I.tok _,⟨_,rfl⟩,q⟩
 | byt y=>
  obtain⟨t,rfl⟩:=rx;obtain⟨hy,e'⟩:y.size<=sizeLine/\n=y.size:=e;subst e';exact PySem.W.len_bytes (by omega) ⟨.int _,H,I.tok _,⟨_,rfl⟩,q⟩
 | ref p=>
  cases rx;have e':=e;rcases e' with ⟨xs,hx,e'⟩|⟨xs,hx,e'⟩
  ·subst e';obtain⟨its,r',pl,hz⟩:=I.list hx;have hlen:=r'.length;exact Calls.call_len_list pl.isList (by simp[Qq5];omega) ⟨.int xs.length,H,I.tok _,⟨_,by simp only[Qq5];rw[hlen]⟩,q⟩
  ·subst e';obtain⟨its,r',pl,hz⟩:=I.tuple hx;have hlen:=r'.length;exact len_tuple pl (by simp[Qq5];omega) ⟨.int xs.length,H,I.tok _,⟨_,by simp only[Qq5];rw[hlen]⟩,q⟩
 | _=>exact e.elim
theorem Q6:jL X (.builtin "divmod") (λxs H Q=>∃i j,xs=[.int i,.int j]/\ano i j/\∀p,H p=none->Q (.ref p) (upd H p (.tup [.int (i / j),.int (i % j)]))):=by intro pins s σ H xs us Q I r h;obtain⟨i,j,rfl,⟨h1,h2⟩,q⟩:=h;obtain⟨u,w',rfl,⟨t,rfl⟩,⟨t',rfl⟩⟩:=vals2 r;refine divmod_int (by omega) ?_<|.inl<|PyProof.noPylong_small (by omega);rw[Int.fdiv_eq_ediv_of_nonneg i (by omega),Int.fmod_eq_emod_of_nonneg i (by omega)];have hn:=I.hok.fresh<|Qqv _;refine⟨.ref s.heap.objs.size,_,?_,rfl,q _ hn⟩;refine I.laid (λb o e=>Qqx _ e) (Qqv _) ⟨by simp[Qqw,List.length_nil];rw[sizeLine_eq];decide,[.int (i / j) s.toks,.int (i % j)<|s.toks+1],.cons ⟨_,rfl⟩<|.cons ⟨_,rfl⟩ .nil,?_⟩;exact⟨_,Qq4 s.heap rfl,rfl,⟨0,rfl⟩,rfl⟩
end
theorem Hn.some_of(r:Hn (some v) o):∃u,o=some u/\RelV v u:=by
 cases o with
 | none=>exact r.elim
 | some u=>exact⟨u,rfl,r⟩
structure jK(k:Nat)(A:Around):Prop where
 hd:A.handled=none
 dp:A.depth+3*k+5<recursionLimit
 un:A.units+16*k+200<cLine
theorem jK.mono(r:jK k A)(h:j<=k):jK j A:=⟨r.hd,by have:=r.dp;omega,by have:=r.un;omega⟩
theorem jK.deeper(r:jK (k+1) A)(env):jK k (A.deeper env):=
 ⟨r.hd,by have:=r.dp;show A.depth+1+3*k+5<_;omega,by have:=r.un;show A.units+3+16*k+200<_;omega⟩
theorem jK.depth(r:jK k A):A.depth<recursionLimit:=by have:=r.dp;omega
theorem jK.units(r:jK k A):A.units+64<cLine:=by have:=r.un;omega
def an4:TA:=λ_ H Q=>Q [] H
def akF(ta:TE)(tr:TA):TA:=λσ H Q=>ta σ H λx H1=>tr σ H1 λxs H2=>Q (x::xs) H2
section
variable{X:Cx}{e:Expr}{es:List Expr}{te:TE}{t:TA}{pos:Pos}
theorem pW:PA X [] an4:=λ_ _ _ _ H Q I h=>Calls.spliced_nil ⟨[],H,I,.nil,h⟩
theorem iK(ha:PE X e te)(hr:PA X es t)(hs:starEach (e::es) X.env=(false,eval e X.env)::starEach es X.env:=by rfl):PA X (e::es) (akF te t):=by intro pos pins s σ H Q I h;rw[hs];show wpAny _ _ (spliced ((false,eval e X.env)::backTo pos (starEach es X.env))) _ _ s;refine Calls.spliced_cons<|fC (ha pins s σ H _ I h) λu s1 ⟨x,H1,I1,r1,q1⟩=>?_;exact fC (hr pos pins s1 σ H1 _ I1 q1) λus s2 ⟨xs,H2,I2,r2,q2⟩=>⟨x::xs,H2,I2,.cons r1 r2,q2⟩
def anW(t:TA):TE:=λσ H Q=>t σ H λxs H1=>xs.length<=sizeLine/\∀p,H1 p=none->Q (.ref p) (upd H1 p (.tup xs))
def an5(t:TA):TE:=λσ H Q=>t σ H λxs H1=>xs.length<=sizeLine/\∀p,H1 p=none->Q (.ref p) (upd H1 p (.lst xs))
theorem ahh{x1}(h:PA X es t):PE X (.Tuple es x1 pos) (anW t):=by intro pins s σ H Q I hq;refine wpAny_Tuple_spliced<|fC (h pos pins s σ H _ I hq) λus s1 ⟨xs,H1,I1,r,z,q⟩=>⟨by rw[<-r.length];exact z,?_⟩;have hf:=I1.hok.fresh<|Qqv _;refine⟨.ref s1.heap.objs.size,upd H1 s1.heap.objs.size<|.tup xs,I1.laid (λb u e=>Qqx _ e) (Qqv _) ?_,rfl,q _ hf⟩;exact⟨z,us,r,Gk.new _ _⟩
theorem ahn(h:PA X es t):PE X (.List es pos) (an5 t):=by intro pins s σ H Q I hq;refine wpAny_List_spliced<|fC (h pos pins s σ H _ I hq) λus s1 ⟨xs,H1,I1,r,z,q⟩=>⟨by rw[<-r.length];exact z,?_⟩;have hf:=I1.hok.fresh<|Qqv _;refine⟨.ref s1.heap.objs.size,upd H1 s1.heap.objs.size<|.lst xs,I1.laid (λb u e=>Qqx _ e) (Qqv _) ?_,rfl,q _ hf⟩;exact⟨z,us,0,r,Qq4 _ rfl⟩
end
abbrev Sp:=List V->Hp->VK->XK->Prop
abbrev CXT:=List Env->Hp->Shared->XK->Value->Shared->Prop
structure afz(P:Program)(w:World)(K:PySem.W.Frag)(mg:Str->Option Value)(base:Heap)(A:Around)(outer:List Env)(s:Shared)(H:Hp):Prop where
 frames:A.frames=some outer
 mod:Mod K mg base
 bs:∀b o,base.get? b=some o->s.heap.get? b=some o/\H b=none
 bsz:base.objs.size<=s.heap.objs.size
 Eo:s.heap.FunFrames base outer
 frf:∀b∈frs outer,H b=none
 hok:xZ P w H s.heap
 bare:AllBare s.gens
def CE(outer:List Env)(P:Program)(w:World)(H:Hp)(s:Shared)(Q:VK)(u:Value)(s':Shared):Prop:=
 ∃v H',s'.os=s.os/\AllBare s'.gens/\Un (frs outer) [] H H' s.heap s'.heap/\xZ P w H' s'.heap/\RelV v u/\Q v H'
def CR(CX:CXT)(outer:List Env)(P:Program)(w:World)(H:Hp)(s:Shared)(Q:VK)(E:XK)(r:Result)(s':Shared):Prop:=
 match r with
 | .ok (.ret u)=>CE outer P w H s Q u s'
 | .ok _=>False
 | .error e=>CX outer H s E e s'
structure oE(P:Program)(w:World)(K:PySem.W.Frag)(mg:Str->Option Value)(base:Heap)(CX:CXT)(k:Nat)(f:Addr)(fd:FuncData)(ps:List Str)(sp:Sp):Prop where
 len:∀vs H Q E,sp vs H Q E->vs.length=ps.length
 run:∀(A:Around) (outer:List Env) (s:Shared) (H:Hp) (args:Args) (us:List Value) (vs:List V) (Q:VK) (E:XK),jK k A->afz P w K mg base A outer s H->BindsTo s fd args (ps.zip us)->Vals vs us->sp vs H Q E->
  codeAny (model P w) A (.call (.ref f) args) (CR CX outer P w H s Q E) s
section
variable{X:Cx}{pins:List (Addr×Obj)}{σ:St}{H:Hp}{s s':Shared}
theorem Inv.env0(I:Inv X pins σ H s):afz X.prog X.w X.K X.mg X.base X.A X.stack s H:=
 ⟨I.ok.frames,I.ok.mod,I.bs,Qqj I.ok.bsz I.sz,I.stack,I.Va,I.hok,I.bare⟩
theorem Inv.after(I:Inv X pins σ H s)(h:CE X.stack X.prog X.w H s Q u s'):EP X pins σ Q u s':=by obtain⟨v,H',os,bare,un,hok,r,q⟩:=h;obtain⟨hh,g,d,t,os'⟩:=s';obtain rfl:os'=s.os:=os;exact⟨v,H',I.call un hok bare<|λb z=>absurd z (by simp),r,q⟩
end
def afL(sp:Sp)(dvs:List V)(E:XK)(t:TA):TE:=λσ H Q=>t σ H λvs H1=>sp (vs++dvs) H1 Q E
def Binds(K:PySem.W.Frag)(fd:FuncData)(ps:List Str)(ds:List Value):Prop:=
 ∀(s:Shared) (us:List Value),K.In s.heap->(us++ds).length=ps.length->BindsTo s fd ⟨us,[]⟩ (ps.zip (us++ds))
theorem Binds.all{K:PySem.W.Frag}(h:∀us,us.length=ps.length->bindArgs fd ⟨us,[]⟩=pure (ps.zip us)):Binds K fd ps []:=λs us _ hl=>by
 rw[Qxv] at hl ⊢;exact .of_eq<|h us hl
def Passes(CX:CXT)(X:Cx)(E:XK):Prop:=∀(pins:List (Addr×Obj)) (σ:St) (H:Hp) (s:Shared) (e:Value) (s':Shared),Inv X pins σ H s->CX X.stack H s E e s'->X.xe e s'
section
variable{X:Cx}{CX:CXT}{k:Nat}{f C:Addr}{fd:FuncData}{ps:List Str}{sp:Sp}{dvs:List V}{ds:List Value}{E:XK}{x m:Str}{p pos apos:Pos}{e o:Expr}{es:List Expr}{ta:TE}{t:TA}
theorem aaf{σ:St}(F:oE X.prog X.w X.K X.mg X.base CX k f fd ps sp)(hr:jK k X.A)(hb:Binds X.K fd ps ds)(hd:Vals dvs ds)(hx:Passes CX X E)
  (I:Inv X pins σ H s) (r:Vals vs us) (h:sp (vs++dvs) H Q E):wpAny (model X.prog X.w) X.A (call (.ref f) us) (EP X pins σ Q) X.xe s:=by
 have r2:=r.append hd;have hl:(us++ds).length=ps.length:=by rw[<-r2.length];exact F.len _ _ _ _ h
 refine wpAny_call<|codeAny_mono (F.run X.A X.stack s H ⟨us,[]⟩ (us++ds) (vs++dvs) Q E hr I.env0 (hb s us I.XX hl) r2 h) λr s' hq=>?_;cases r with
 | error e=>exact hx pins σ H s e s' I hq
 | ok fl=>
  cases fl with
  | ret u=>exact I.after hq
  | next=>exact False.elim hq
  | brk=>exact False.elim hq
  | cont=>exact False.elim hq
theorem Bk(F:oE X.prog X.w X.K X.mg X.base CX k f fd ps sp)(hr:jK k X.A)(hg:Gl X x)(hm:X.mg x=some (.ref f))(hk:PySem.W.keepIn X.K (.ref f)=true)(hb:Binds X.K fd ps ds)(hd:Vals dvs ds)(hx:Passes CX X E)
  (ha:PA X (e::es) t) (hdb:oW x:=by decide) (he:starEach (e::es) X.env=(false,eval e X.env)::starEach es X.env:=by rfl) (hpl:(backTo pos (starEach es X.env)).any (·.1)=false:=by rfl) :
  PE X (.Call (.Name x p) (e::es) [] pos) (afL sp dvs E t):=by
 intro pins s σ H Q I h;refine wpAny_Call_Name_kw<|Vr I hg hm ?_ hdb;refine PySem.W.callWith_K I.ok.mod.Vt hk (fC (ha pos pins s σ H _ I h) λus s1 ⟨vs,H1,I1,r,q⟩=>⟨I1.XX,?_⟩) he hpl;exact aaf F hr hb hd hx I1 r q
end
structure aZ(N P:List Str)(sc:Scope):Prop where
 kind:sc.kind = .function
 co:sc.isCoroutine=false
 gen:sc.isGenerator=false
 nd:N.Nodup
 pre:N.take P.length=P
 par:∀x∈P,sc.names.lookup x=some .local\/sc.names.lookup x=some .cell
 ahV:∀y∈sc.names,y.2 ≠ .free
theorem JT{kindOf:Str->Option NameKind}:∀{binds} {m},(∀v,(x,v) ∉ binds)->bindL kindOf binds m x=m x
 | [],_,_=>rfl
 | (n,v)::r,m,h=>by
  unfold bindL;rw[JT λw hw=>h w<|Qqy _ hw];split
  ·have:x≠n:=by rintro rfl;exact h v Qq3
   simp[this]
  ·rfl
theorem JW{kindOf:Str->Option NameKind}:∀{binds} {m},(∀v,(x,v) ∉ binds)->bindC kindOf binds m x=m x
 | [],_,_=>rfl
 | (n,v)::r,m,h=>by
  unfold bindC;rw[JW λw hw=>h w<|Qqy _ hw];split
  ·rfl
  ·have:x≠n:=by rintro rfl;exact h v Qq3
   simp[this]
theorem JV{kindOf:Str->Option NameKind}:∀{P:List Str} {vs} {i:Nat} {m},P.Nodup->P[i]? = some x->vs[i]? = some v->kindOf x=some .local->
  bindL kindOf (P.zip vs) m x=some v
 | [],_,_,_,_,h,_,_=>by simp at h
 | _::_,[],_,_,_,_,h,_=>by simp at h
 | p::P,w::vs,0,m,nd,h1,h2,hk=>by
  simp at h1 h2;subst h1;subst h2;show bindL kindOf ((p,w)::P.zip vs) m p=_;unfold bindL;rw[JT λv hv=>(Qz3.mp nd).1 (Qj6 hv).1,if_pos hk];simp
 | p::P,w::vs,i+1,m,nd,h1,h2,hk=>by
  show bindL kindOf ((p,w)::P.zip vs) m x=_;unfold bindL;exact JV (Qz3.mp nd).2 (by simpa using h1) (by simpa using h2) hk
theorem JX{kindOf:Str->Option NameKind}:∀{P:List Str} {vs} {i:Nat} {m},P.Nodup->P[i]? = some x->vs[i]? = some v->kindOf x≠some .local->
  bindC kindOf (P.zip vs) m x=some v
 | [],_,_,_,_,h,_,_=>by simp at h
 | _::_,[],_,_,_,_,h,_=>by simp at h
 | p::P,w::vs,0,m,nd,h1,h2,hk=>by
  simp at h1 h2;subst h1;subst h2;show bindC kindOf ((p,w)::P.zip vs) m p=_;unfold bindC;rw[JW λv hv=>(Qz3.mp nd).1 (Qj6 hv).1,if_neg hk];simp
 | p::P,w::vs,i+1,m,nd,h1,h2,hk=>by
  show bindC kindOf ((p,w)::P.zip vs) m x=_;unfold bindC;exact JX (Qz3.mp nd).2 (by simpa using h1) (by simpa using h2) hk
noncomputable def start(N:List Str)(vs:List V):St:=vs.map some++List.replicate (N.length - vs.length) none
noncomputable def Ul(CX:CXT)(P:Program)(w:World)(K:PySem.W.Frag)(mg:Str->Option Value)(base:Heap)(N:List Str)(qual:Str)(scope:Scope)(f:Addr)(cd:Value)(A:Around)(outer:List Env)(s:Shared)(H:Hp)(E:XK):Cx where
 prog:=P
 w:=w
 K:=K
 mg:=mg
 base:=base
 A:=A.deeper (envOfC qual scope s.heap.objs.size f cd)
 N:=N
 s₀:=s
 H₀:=H
 env:=envOfC qual scope s.heap.objs.size f cd
 outer:=outer
 stack:=envOfC qual scope s.heap.objs.size f cd::outer
 ex:=[]
 calm:=true
 fn:=λ_=>true
 pn:=[]
 xe:=λe s'=>wpAny (model P w) (A.deeper (envOfC qual scope s.heap.objs.size f cd)) (leaving (envOfC qual scope s.heap.objs.size f cd) e) (λ_ s''=>CX outer H s E e s'') (λe' s''=>CX outer H s E e' s'') s'
theorem Fo{sc:Scope}(h:sc.names.lookup x=some .cell):∃c,(cellsFrom n sc.names []).lookup x=some c:=by have q:=PySem.W.cellsFrom_some sc.names n []<|.inl h;exact Qw8.mp q
theorem X4{K:PySem.W.Frag}
  (S:aZ N ps scope) (hd:A.handled=none) (e0:afz P w K mg base A outer s H) (hl:vs.length=ps.length) (r:Vals vs us)
  (x:InCallC s s.heap.objs.size (bindL (envOfC qual scope s.heap.objs.size f cd).kindOf (ps.zip us) λ_=>none) (cellsFrom (s.heap.objs.size+1) scope.names []) (bindC (envOfC qual scope s.heap.objs.size f cd).kindOf (ps.zip us) λ_=>none) s1) :
  Inv (Ul CX P w K mg base N qual scope f cd A outer s H E) [] (start N vs) H s1:=by
 have hpl:ps.length<=N.length:=by have:=Qzx List.length S.pre;rw[Qx5] at this;omega
 obtain⟨h1,tk,rfl,hk⟩:=x.done;have noA:∀b,b ∉ (Ul CX P w K mg base N qual scope f cd A outer s H E).ex:=λb z=>absurd (show b∈[] from z) (by simp);refine⟨⟨e0.mod,S.kind,rfl,rfl,Qqv _,λy z c h1 h2=>?_,λy hy=>?_,λy c _ h=>?_,λ_=>hd,Around.frames_deeper e0.frames,.inr ⟨rfl,rfl⟩,λb z=>absurd z<|noA b,e0.bs,e0.bsz,λb _ _=>noA b,λb z=>absurd z<|noA b,e0.Eo,e0.frf⟩,
  rfl,e0.bare,Un.kept hk,⟨_,x.toInCall.ns,λi y v h1 h2 h3=>?_⟩,λy c h=>⟨_,x.cell y c h⟩,e0.hok.fresh<|Qqv _,λy c h=>?_,λp hp=>absurd (show p∈[] from hp) (by simp),e0.hok.kept hk,?_⟩
 ·exact name_of_addr x.apart (Qj0 h1)<|Qj0 h2
 ·have hy:=hy;rcases hy with hy|hy
  ·exact Fo hy
  ·exact absurd rfl (S.ahV _<|Qj0 hy)
 ·exact Qkq<|x.above y c<|Qj0 h
 ·have hi:i<vs.length:=by
   unfold start at h2;by_cases hi:i<vs.length
   ·exact hi
   ·rw[Qjx (by simpa using hi)] at h2;rw[List.getElem?_replicate] at h2;split at h2<;>cases h2
  have ha:vs[i]? = some v:=by
   unfold start at h2;rw[Qx3 (by simpa using hi),Qw6] at h2;cases e:vs[i]? with
   | none=>rw[e] at h2;cases h2
   | some a=>rw[e] at h2;cases h2;rfl
  obtain⟨u,hu,rv⟩:=r.get ha;have hp:ps[i]? = some y:=by rw[<-S.pre,List.getElem?_take_of_lt (by omega)];exact h1
  have ndP:ps.Nodup:=by rw[<-S.pre];exact S.nd.sublist<|List.take_sublist _ _
  refine⟨u,rv,?_⟩;rcases S.par y (List.mem_of_getElem? hp) with k|k
  ·exact .inl ⟨k,JV ndP hp hu k⟩
  ·obtain⟨c,e⟩:=Fo k;refine .inr ⟨.inl k,c,e,?_⟩;have q:=x.cell y c e;rw[JX ndP hp hu (by show scope.names.lookup y≠_;rw[k];decide)] at q;exact q
 ·exact .inl<|e0.hok.fresh<|Qkq<|x.above y c<|Qj0 h
 ·unfold start;show _=N.length;rw[Qq1,Qqz,Qw5];omega
theorem amN{K:PySem.W.Frag}{dV kV doc pm cdv ct oc:Value}
  (lk:K.lookup f=some ⟨oc,od,.func (PySem.W.fnOf name qual params body scope dV kV doc pm an cdv ct),osl⟩) (hcd:PySem.W.codeIn K cdv qual=true) (S:aZ N ps scope)
  (len:∀vs H Q E,sp vs H Q E->vs.length=ps.length)
  (hbody:∀A outer s H vs Q E,jK k (A.deeper (envOfC qual scope s.heap.objs.size f cdv))->sp vs H Q E->
   ∃t,Rq (Ul CX P w K mg base N qual scope f cdv A outer s H E) body t/\t { nx:=λ_ H'=>Q .non H',rt:=Q } (start N vs) H) :
  oE P w K mg base CX (k+1) f (PySem.W.fnOf name qual params body scope dV kV doc pm an cdv ct) ps sp:=by
 refine⟨len,λA outer s H args us vs Q E hr e0 hb r hsp=>?_⟩;have hl:=len _ _ _ _ hsp;have KX:=e0.mod.Vt.keeps λb o e=>(e0.bs b o e).1;have lim:=e0.mod.nolimit.keeps λb o e=>(e0.bs b o e).1;have hkind:∀y∈ps.zip us,scope.names.lookup y.1=some .local\/(scope.names.lookup y.1=some .cell/\((cellsFrom (s.heap.objs.size+1) scope.names []).lookup y.1).isSome=true):=λ⟨n,v⟩ hy=>by
  rcases S.par n (Qj6 hy).1 with q|q
  ·exact .inl q
  ·exact .inr ⟨q,PySem.W.cellsFrom_some _ _ _<|.inl q⟩
 refine codeAny_call_function hr.depth (KX _ _ lk) rfl S.co S.gen rfl (PySem.W.codeRec_of KX hcd) (hb _ _ _ _ ?_);refine wpAny_newFunctionEnv_cells S.kind hkind λenv he s1 x=>?_;subst he;refine⟨lim.keeps x.toInCall.keep,codeAny_func ?_⟩;obtain⟨t,ht,hq⟩:=hbody A outer s H vs Q E (hr.deeper _) hsp;have I:Inv (Ul CX P w K mg base N qual scope f cdv A outer s H E) [] (start N vs) H s1:=X4 S hr.hd e0 hl r x;refine Qwy (ht [] s1 (start N vs) H _ I hq) (λfl s' hs=>?_) λe s' hs=>hs;have fin:∀{σ'} {H'} {v} {u},Inv (Ul CX P w K mg base N qual scope f cdv A outer s H E) [] σ' H' s'->RelV v u->Q v H'->CE outer P w H s Q u s':=
  λ{σ' H' v u} J rv q=>⟨v,H',J.os,J.bare,J.base,J.hok,rv,q⟩
 cases fl with
 | ret u=>
  obtain⟨v,σ',H',J,rv,q⟩:=hs;exact fin J rv q
 | next=>
  obtain⟨σ',H',J,q⟩:=hs;exact fin (v:=V.non) J rfl q
 | brk=>
  obtain⟨_,_,_,q⟩:=hs;exact False.elim q
 | cont=>
  obtain⟨_,_,_,q⟩:=hs;exact False.elim q
section
variable{X:Cx}{x:Str}{p pos:Pos}{e:Expr}{es:List Expr}{t:TA}{id T:String}{r:List V->Hp->VK->Prop}
def tCB(r:List V->Hp->VK->Prop)(t:TA):TE:=λσ H Q=>t σ H λvs H1=>r vs H1 Q
theorem CQ(hc:jL X (.builtin id) r)(hg:Gl X x)(hm:X.mg x=none)(hv:bootBuiltins x=some (.builtin id))(ha:PA X (e::es) t)(hn:x ≠ "__name__":=by decide)(hdb:oW x:=by decide)
  (he:starEach (e::es) X.env=(false,eval e X.env)::starEach es X.env:=by rfl) (hpl:(backTo pos (starEach es X.env)).any (·.1)=false:=by rfl):PE X (.Call (.Name x p) (e::es) [] pos) (tCB r t):=by
 intro pins s σ H Q I h;refine wpAny_Call_Name_kw<|qT I hg hm hv ?_ hn hdb;exact PyProof.Rows.callWith_builtin1 (fC (ha pos pins s σ H _ I h) λus s1 ⟨vs,H1,I1,r1,q1⟩=>hc pins s1 σ H1 vs us Q I1 r1 q1) he hpl
theorem yM(hc:jL X (.type T) r)(hg:Gl X x)(hm:X.mg x=none)(hv:bootBuiltins x=some (.type T))(ha:PA X (e::es) t)(hn:x ≠ "__name__":=by decide)(hdb:oW x:=by decide)
  (he:starEach (e::es) X.env=(false,eval e X.env)::starEach es X.env:=by rfl) (hpl:(backTo pos (starEach es X.env)).any (·.1)=false:=by rfl):PE X (.Call (.Name x p) (e::es) [] pos) (tCB r t):=by
 intro pins s σ H Q I h;refine wpAny_Call_Name_kw<|qT I hg hm hv ?_ hn hdb;exact Qxz (fC (ha pos pins s σ H _ I h) λus s1 ⟨vs,H1,I1,r1,q1⟩=>hc pins s1 σ H1 vs us Q I1 r1 q1) he hpl
end
end L2
namespace HT
open PySem PyProof.Rows
section
variable{prog:Program}{w:World}{A:Around}{E:Value->Shared->Prop}{s:Shared}
theorem afe(ht:IsTup s.heap t vs.toArray)(hb:IsTup s.heap b ws.toArray)(hv:vs≠[])
  (h1:ws=[]->Q (.ref t) s) (h2:ws≠[]->Q (.ref s.heap.objs.size) { s with heap:=s.heap.push { cls:=.type "tuple",data:=.seq (vs++ws).toArray } })
  (hsz:vs.length+ws.length<=sizeLine):wpAny (model prog w) A (binaryOp .Add (.ref t) (.ref b)) Q E s:=by
 obtain⟨⟨cls,dd,data,sl⟩,ho,hc,n,hd⟩:=id ht;obtain⟨⟨cls2,dd2,data2,sl2⟩,ho2,hc2,n2,hd2⟩:=id hb;simp at hc hd hc2 hd2;subst hc hd hc2 hd2;have e:vs.toArray++ws.toArray=(vs++ws).toArray:=by simp
 by_cases hw:ws=[]
 ·exact concat_meets ⟨_,ho,rfl⟩ ⟨_,ho2,rfl⟩ noFill_tuple_add seq_tuple_add PySem.F.slot_tuple_add PySem.F.entry_tuple_add (PySem.F.args_tuple_add_2 _ _)
   (tuple_addW1 t b vs.toArray ws.toArray n n2 dd dd2 sl sl2 (by simpa using hv) (by simp[hw])) ⟨ho,ho2,h1 hw⟩
 ·refine concat_meets ⟨_,ho,rfl⟩ ⟨_,ho2,rfl⟩ noFill_tuple_add seq_tuple_add PySem.F.slot_tuple_add PySem.F.entry_tuple_add (PySem.F.args_tuple_add_2 _ _)
   (tuple_addW2 t b vs.toArray ws.toArray n n2 dd dd2 sl sl2 (by simpa using hv) (by simpa using hw) (by rw[Qq5,Qq5];exact hsz)) ⟨ho,ho2,?_⟩
  rw[e];exact h2 hw
noncomputable def gP(n d:Nat):Option Int->Nat
 | none=>d
 | some v=>if v<0 then (v+(n:Int)).toNat else min v.toNat n
theorem aad(n d):gP n d none=d:=rfl
theorem Vd(n d k:Nat):gP n d (some k)=min k n:=by show(if k<0 then (k+(n:Int)).toNat else min (k:Int).toNat n)=min k n;rw[if_neg (by omega),Qxw]
theorem Lf(n d)(hd:d<=n)(o):gP n d o<=n:=by
 cases o with
 | none=>exact hd
 | some v=>
  show(if v<0 then (v+n).toNat else min v.toNat n)<=n;by_cases hv:v<0
  ·rw[if_pos hv];omega
  ·rw[if_neg hv];exact Nat.min_le_right _ _
theorem Wa(v)(n d:Nat):(if v<0 then max (v+(n:Int)) 0 else min v n)=(gP n d (some v)):=by
 show(if v<0 then max (v+n) 0 else min v n)=(if v<0 then (v+n).toNat else min v.toNat n);by_cases hv:v<0
 ·simp only[if_pos hv];omega
 ·simp[if_neg hv];omega
theorem Uy(lo hi)(n:Nat):Builtin.Slice.sliceAdjust lo hi 1 n=(((gP n 0 lo):Int),((gP n n hi):Int)):=by
 have h1:¬(1<0):=by omega
 unfold Builtin.Slice.sliceAdjust;simp only[h1,if_false];refine Prod.ext ?_ ?_
 ·cases lo with
  | none=>rfl
  | some v=>exact Wa v n 0
 ·cases hi with
  | none=>rfl
  | some v=>exact Wa v n n
theorem Te(i j:Nat):Builtin.Slice.slicePlaces i j 1=j - i:=by
 unfold Builtin.Slice.slicePlaces;have h1:1 > 0:=by omega
 simp[h1,if_true,Int.ediv_one];split<;>omega
theorem Ca(p:IsPart v o)(h:Q o s):wpAny (model prog w) A (Builtin.Slice.slicePartIndex v) Q E s:=by
 cases p with
 | none=>exact slicePart_none h
 | int i t=>exact slicePart_int h
theorem qm{lo hi:Option Int}{Q:Int×Int×Nat->Shared->Prop}(hs:s.heap.IsSliceOf sl vl vu .none)(pl:IsPart vl lo)(pu:IsPart vu hi)
  (h:Q ((gP n 0 lo),1,gP n n hi - gP n 0 lo) s):wpAny (model prog w) A (Builtin.Slice.sliceApplied (.ref sl) (pure n)) Q E s:=by
 obtain⟨os,hos,hcs,hds⟩:=id hs;unfold Builtin.Slice.sliceApplied Builtin.Slice.sliceFields;refine Qqq<|Qqq<|Qzj hos hds rfl (Qqq<|Qzj hos hds rfl (Qqq<|Qzj hos hds rfl (Qqk ?_)));refine Qqq<|slicePart_none ?_;show wpAny _ _ (if (1 == 0)=true then _ else _) _ _ s;rw[if_neg (by decide)];refine Qqq<|Ca pl<|Qqq<|Ca pu<|Qqq<|Qqk ?_;show wpAny _ _ (match Builtin.Slice.sliceAdjust lo hi 1 n with|(lo,hi)=>pure (lo,(1:Int),Builtin.Slice.slicePlaces lo hi 1)) _ _ s;rw[Uy lo hi n];show wpAny _ _ (pure (((gP n 0 lo):Int),1,Builtin.Slice.slicePlaces (gP n 0 lo) (gP n n hi) 1)) _ _ s;rw[Te];exact Qqk h
theorem aaK(xs:Array Value)(i k:Nat):((List.range k).filterMap λ(m:Nat)=>xs[(i+(m:Int)*1).toNat]?).toArray=((xs.toList.drop i).take k).toArray:=by
 have e:(λ(m:Nat)=>xs[(i+(m:Int)*1).toNat]?)=λm=>xs[i+m]?:=by
  funext m
  have:(i+(m:Int)*1).toNat=i+m:=by omega
  rw[this]
 rw[e];have:=pick_run xs i k;rw[List.filterMap_map] at this;have e2:((λx=>xs[x]?) ∘ λx=>i+x)=λm=>xs[i+m]?:=rfl;rw[e2] at this;rw[this]
theorem xu{lo hi:Option Int}(ht:IsTup s.heap t items)(hs:s.heap.IsSliceOf sl vl vu .none)(pl:IsPart vl lo)(pu:IsPart vu hi)
  (hw:¬(gP items.size 0 lo=0/\gP items.size items.size hi=items.size))
  (h:Q (.ref s.heap.objs.size) { s with heap:=s.heap.push { cls:=.type "tuple",data:=.seq ((items.toList.drop (gP items.size 0 lo)).take (gP items.size items.size hi - gP items.size 0 lo)).toArray } })
  (hsz:items.size<=sizeLine):wpAny (model prog w) A (getItem (.ref t) (.ref sl)) Q E s:=by
 have VD:sizeOk (.seq ((items.toList.drop<|gP items.size 0 lo).take<|gP items.size items.size hi - gP items.size 0 lo).toArray):=by show((items.toList.drop<|gP items.size 0 lo).take<|gP items.size items.size hi - gP items.size 0 lo).toArray.size<=sizeLine;rw[Qq5,Qx5,Qjz,Qx7];omega
 have hj:gP items.size items.size hi<=items.size:=Lf _ _ (Qqv _) hi;obtain⟨os,hos,hcs,hds⟩:=id hs;have hTs:s.TypeIs (.ref sl) "slice":=⟨os,hos,hcs⟩;unfold getItem
 try with_reducible refine Qjj ?_
 first|refine Qqq (Qqk ?_)|skip
 refine Qqq<|wpAny_sequenceKey ht.typeIs (by decide) ?_;refine Qqq (Qzz ht.typeIs Qzw
  (Qzv Qzw ht.typeIs entry_tuple_getitem ?_<|args_tuple_getitem _ _))
 show wpAny _ _ (Builtin.Tuple.tupleItemsOf (.ref t) >>= _) _ _ s;refine Qqq<|tupleItemsOf_ ht ?_;refine Qqq<|wpAny_typeOf hTs ?_;rw[if_pos (by decide)];refine Qqq<|qm hs pl pu ?_;have hno:¬((((gP items.size 0 lo):Int) == 0&&(1:Int) == 1&&(gP items.size items.size hi - gP items.size 0 lo) == items.size)=true):=by intro q;rw[Qj3,Qj3] at q;have q1:=eq_of_beq q.1.1;have q2:=eq_of_beq q.2;exact hw ⟨by omega,by omega⟩
 show wpAny _ _ (if (((gP items.size 0 lo):Int) == 0&&1 == 1&&(gP items.size items.size hi - gP items.size 0 lo) == items.size)=true then _ else _) _ _ s;rw[if_neg hno,aaK]
 first
  | exact Qqq<|Qzy (Qqk ⟨_,rfl,Qqk h⟩) VD
  | exact Qqq<|Qzy (Qqq<|Qqk<|Qqk ⟨_,rfl,Qqk h⟩) VD
  | exact Qqq<|Qqq<|Qzy (Qqk<|Qqk ⟨_,rfl,Qqk h⟩) VD
  | exact Qqq<|Qqq<|Qzy (Qqk ⟨_,rfl,Qqk h⟩) VD
end
end HT
namespace L2
open PySem PySem.Spec PyProof.Rows
abbrev TO:=St->Hp->(Option Int->Hp->Prop)->Prop
def PO(X:Cx)(e:Option Expr)(t:TO):Prop:=
 ∀(pins:List (Addr×Obj)) (s:Shared) (σ:St) (H:Hp) (Q:Option Int->Hp->Prop),Inv X pins σ H s->t σ H Q->
  wpAny (model X.prog X.w) X.A (evalPart e X.env) (λu s'=>∃o H',Inv X pins σ H' s'/\IsPart u o/\Q o H') X.xe s
def ac9:TO:=λ_ H Q=>Q none H
def akz(t:TE):TO:=λσ H Q=>t σ H λx H1=>∃i,x = .int i/\Q (some i) H1
section
variable{X:Cx}{e:Expr}{te:TE}{lo hi:Option Expr}{tl th:TO}{pos p2:Pos}
theorem adN:PO X none ac9:=by intro pins s σ H Q I h;rw[evalPart_none];exact Qqk ⟨none,H,I,.none,h⟩
theorem adM(h:PE X e te):PO X (some e) (akz te):=by intro pins s σ H Q I hw;rw[evalPart_some];refine fC (h pins s σ H _ I hw) λu s1 ⟨x,H1,I1,r1,q1⟩=>?_;obtain⟨i,rfl,q⟩:=q1;obtain⟨t,rfl⟩:=r1;exact⟨some i,H1,I1,.int i t,q⟩
def UL(X:Cx)(r:V->Option Int->Option Int->Hp->VK->Prop):Prop:=
 ∀(pins:List (Addr×Obj)) (s:Shared) (σ:St) (H:Hp) (x:V) (v vl vu:Value) (lo hi:Option Int) (sl:Addr) (Q:VK),Inv X pins σ H s->RelV x v->s.heap.IsSliceOf sl vl vu .none->IsPart vl lo->IsPart vu hi->r x lo hi H Q->
  ∃T id,typeLookup (.type T) "__getitem__" = pure (some (.builtin id))/\s.TypeIs v T/\wpAny (model X.prog X.w) X.A (getItem v (.ref sl)) (EP X pins σ Q) X.xe s
theorem UL.or(h:UL X r)(h':UL X r'):UL X (λx lo hi H Q=>r x lo hi H Q\/r' x lo hi H Q):=by
 intro pins s σ H x v vl vu lo hi sl Q I rx hs pl pu q;rcases q with q|q
 ·exact h pins s σ H x v vl vu lo hi sl Q I rx hs pl pu q
 ·exact h' pins s σ H x v vl vu lo hi sl Q I rx hs pl pu q
def tSl(r:V->Option Int->Option Int->Hp->VK->Prop)(te:TE)(tl th:TO):TE:=λσ H Q=>te σ H λx H1=>tl σ H1 λl H2=>th σ H2 λu H3=>r x l u H3 Q
theorem wW(hr:UL X r)(he:PE X e te)(hl:PO X lo tl)(hu:PO X hi th):PE X (.Subscript e (.Slice lo hi none p2) pos) (tSl r te tl th):=by intro pins s σ H Q I h;refine Subscript_<|fC (he pins s σ H _ I h) λv s1 ⟨x,H1,I1,r1,q1⟩=>?_;refine wpAny_Slice<|fC (hl pins s1 σ H1 _ I1 q1) λvl s2 ⟨l,H2,I2,pl,q2⟩=>fC (hu pins s2 σ H2 _ I2 q2) λvu s3 ⟨u,H3,I3,pu,q3⟩=>?_;rw[evalPart_none];refine Qqk ?_;have I4:Inv X pins σ H3 { s3 with heap:=s3.heap.push { cls:=.type "slice",data:=.fields #[vl,vu,.none] } }:=I3.kept λb ob q=>Qqx _ q;obtain⟨T,id,hT,ht,hg⟩:=hr pins { s3 with heap:=s3.heap.push { cls:=.type "slice",data:=.fields #[vl,vu,.none] } } σ H3 x v vl vu l u s3.heap.objs.size Q I4 r1 (Heap.IsSliceOf.new ..) pl pu q3;show wpAny (model X.prog X.w) X.A (subscriptTail e (.Slice lo hi none p2) v<|.ref s3.heap.objs.size) (EP X pins σ Q) X.xe { s3 with heap:=s3.heap.push { cls:=.type "slice",data:=.fields #[vl,vu,.none] } };exact tail_any ht hT hg (by with_unfolding_all rfl)
def Bf(xs:List V)(lo hi:Option Int):List V:=(xs.drop (HT.gP xs.length 0 lo)).take (HT.gP xs.length xs.length hi - HT.gP xs.length 0 lo)
theorem z7(xs)(lo hi):(Bf xs lo hi).length<=xs.length:=by unfold Bf;rw[Qx5,Qjz];omega
def agX(K:PySem.W.Frag):V->Option Int->Option Int->Hp->VK->Prop:=λx lo hi H Q=>∃a xs,x = .ref a/\mQ K H a xs/\
 ¬(HT.gP xs.length 0 lo=0/\HT.gP xs.length xs.length hi=xs.length)/\∀p,H p=none->Q (.ref p) (upd H p (.tup (Bf xs lo hi)))
theorem KQ:UL X (agX X.K):=by
 intro pins s σ H x v vl vu lo hi sl Q I rx hs pl pu h;obtain⟨a,xs,rfl,hx,hw,q⟩:=h;cases rx;obtain⟨its,r,ht,hz⟩:=I.tuple hx;have hlen:its.toArray.size=xs.length:=by rw[Qq5];exact r.length.symm
 refine⟨"tuple",_,PyProof.Rows.slot_tuple_getitem.lookup,ht.typeIs,?_⟩;refine HT.xu ht hs pl pu (by rw[hlen];exact hw) ?_ (by rw[hlen];exact hz);rw[hlen];refine⟨.ref s.heap.objs.size,_,I.laid (λb ob q=>Qqx _ q) (Qqv _) ?_,rfl,q _<|I.hok.fresh<|Qqv _⟩;exact⟨Qqj (z7 xs lo hi) hz,_,(r.drop<|HT.gP xs.length 0 lo).take<|HT.gP xs.length xs.length hi - HT.gP xs.length 0 lo,Gk.new _ _⟩
def afU(K:PySem.W.Frag):R2:=λx y H Q=>∃a b xs ys,x = .ref a/\y = .ref b/\mQ K H a xs/\mQ K H b ys/\xs≠[]/\xs.length+ys.length<=sizeLine/\
 (ys=[]->Q (.ref a) H)/\(ys≠[]->∀p,H p=none->Q (.ref p) (upd H p (.tup (xs++ys))))
theorem Vals.Bm(r:Vals xs us):us=[]↔xs=[]:=by
 cases r with
 | nil=>simp
 | cons _ _=>simp
theorem ad4:nu X (binaryOp .Add) (afU X.K):=by intro pins s σ H x y v u Q I rx ry h;obtain⟨a,b,xs,ys,rfl,rfl,ha,hb,hx,hz,q1,q2⟩:=h;cases rx;cases ry;obtain⟨its,r1,p1,_⟩:=I.tuple ha;obtain⟨its2,r2,p2,_⟩:=I.tuple hb;refine HT.afe p1 p2 (λz=>hx<|r1.Bm.mp z) (λz=>⟨.ref a,H,I,rfl,q1<|r2.Bm.mp z⟩) (λz=>?_) (by rw[<-r1.length,<-r2.length];exact hz);refine⟨.ref s.heap.objs.size,_,I.laid (λb ob q=>Qqx _ q) (Qqv _) ?_,rfl,q2 (λw=>z<|r2.Bm.mpr w) _<|I.hok.fresh<|Qqv _⟩;exact⟨by rw[Qq1];exact hz,_,r1.append r2,Gk.new _ _⟩
end
noncomputable def Vw(n:Nat)(i:Int):Option Nat:=if 0<=i then (if i<n then some i.toNat else none) else if -(n:Int)<=i then some (i+n).toNat else none
def qF{α:Type}(xs:List α)(i:Int):Option α:=(Vw xs.length i).bind λj=>xs[j]?
theorem Vv(h:Vw n i=some j):seqIndex? i n=some j/\j<n/\-n<=i/\i<n:=by
 unfold Vw at h;by_cases h0:0<=i
 ·rw[if_pos h0] at h;by_cases h1:i<n
  ·rw[if_pos h1] at h;have e:=Qw4 h;exact⟨by rw[seqIndex_of h0 h1,e],by omega,by omega,h1⟩
  ·rw[if_neg h1] at h;cases h
 ·rw[if_neg h0] at h;by_cases h1 : -n<=i
  ·rw[if_pos h1] at h;have e:=Qw4 h;exact⟨by rw[seqIndex_neg (by omega) h1,e],by omega,h1,by omega⟩
  ·rw[if_neg h1] at h;cases h
theorem Nb{α:Type}{xs:List α}{v:α}(h:qF xs i=some v):∃j,seqIndex? i xs.length=some j/\xs[j]? = some v/\j<xs.length/\-xs.length<=i/\i<xs.length:=by
 unfold qF at h;cases e:Vw xs.length i with
 | none=>rw[e] at h;cases h
 | some j=>
  rw[e] at h;obtain⟨h1,h2,h3,h4⟩:=Vv e;exact⟨j,h1,h,h2,h3,h4⟩
theorem lY{α:Type}{xs:List α}{j:Nat}{v:α}(h:xs[j]? = some v):qF xs j=some v:=by
 have hj:=(Qwz.mp h).1;have e:Vw xs.length j=some j:=by unfold Vw;rw[if_pos (by omega),if_pos (by omega)];simp
 unfold qF;rw[e];exact h
def xY(b:Expr):Prop:=∀o i,subscripted b false o i=operate [o,i] (getItem o i)
def IxR(X:Cx)(r:R2):Prop:=
 ∀(value slice:Expr) (pins:List (Addr×Obj)) (s:Shared) (σ:St) (H:Hp) (x y:V) (v u:Value) (Q:VK),Inv X pins σ H s->RelV x v->RelV y u->r x y H Q->
  subscripted slice false v u=operate [v,u] (getItem v u)->wpAny (model X.prog X.w) X.A (subscriptTail value slice v u) (EP X pins σ Q) X.xe s
def MtR(X:Cx)(id:String)(r:V->List V->Hp->VK->Prop):Prop:=
 ∀(pins:List (Addr×Obj)) (s:Shared) (σ:St) (H:Hp) (x:V) (xs:List V) (v:Value) (us:List Value) (Q:VK),Inv X pins σ H s->RelV x v->Vals xs us->r x xs H Q->
  wpAny (model X.prog X.w) X.A (call (.builtin id) (v::us)) (EP X pins σ Q) X.xe s
section
variable{X:Cx}{a b:Expr}{ta tb:TE}{pos:Pos}
theorem IxR.or(h:IxR X r)(h':IxR X r'):IxR X (λx y H Q=>r x y H Q\/r' x y H Q):=by
 intro value slice pins s σ H x y v u Q I rx ry q hs;rcases q with q|q
 ·exact h value slice pins s σ H x y v u Q I rx ry q hs
 ·exact h' value slice pins s σ H x y v u Q I rx ry q hs
theorem afY(hr:IxR X r)(ha:PE X a ta)(hb:PE X b tb)(hs:xY b):PE X (.Subscript a b pos) (tOp r ta tb):=by intro pins s σ H Q I h;exact Subscript_<|ajQ ha hb I h λv u s2 x y H2 I2 rx ry q=>hr a b pins s2 σ H2 x y v u Q I2 rx ry q<|hs _ _
def ak5(K:PySem.W.Frag):R2:=λx y H Q=>∃p xs i v,x = .ref p/\y = .int i/\nq K H p xs/\qF xs i=some v/\Q v H
def ak3(K:PySem.W.Frag):R2:=λx y H Q=>∃p xs i v,x = .ref p/\y = .int i/\mQ K H p xs/\qF xs i=some v/\Q v H
def ak4:R2:=λx y H Q=>∃z i c,x = .str z/\y = .int i/\z.length<=sizeLine/\qF z.cps.toList i=some c/\Q (.str ⟨#[c]⟩) H
theorem aey:IxR X (ak5 X.K):=by
 intro value slice pins s σ H x y v u Q I rx ry h hs;obtain⟨p,xs,i,z,rfl,rfl,hq,he,q⟩:=h;cases rx;obtain⟨t,rfl⟩:=ry;obtain⟨its,r,pl,hz⟩:=I.list hq;obtain⟨j,h1,h2,h3,h4,h5⟩:=Nb he;obtain⟨w,ew,rw'⟩:=r.get h2;have hl:=r.length;have hn:=vV;have fin:EP X pins σ Q w s:=⟨z,H,I,rw',q⟩;by_cases h0:0<=i
 ·have hj:i.toNat=j:=by
   rw[seqIndex_of h0 h5] at h1;exact Qw4 h1
  exact item_listR pl.isList h0 (by omega) (by rw[hj];simpa using ew) fin hs
 ·have hj:(i+its.toArray.size).toNat=j:=by
   rw[seqIndex_neg (by omega) h4] at h1;rw[Qq5,<-hl];exact Qw4 h1
  exact subscriptTail_builtinR pl.isList.typeIs slot_list_getitem.lookup
   (wpAny_getItem_list_neg pl.isList (by omega) (by rw[Qq5]<;>omega) (by omega) (by rw[hj];simpa using ew) ⟨rfl,fin⟩) hs
theorem aiX:IxR X (ak3 X.K):=by
 intro value slice pins s σ H x y v u Q I rx ry h hs;obtain⟨p,xs,i,z,rfl,rfl,hq,he,q⟩:=h;cases rx;obtain⟨t,rfl⟩:=ry;obtain⟨its,r,pl,hz⟩:=I.tuple hq;obtain⟨j,h1,h2,h3,h4,h5⟩:=Nb he;obtain⟨w,ew,rw'⟩:=r.get h2;have hl:=r.length;have hn:=vV;have fin:EP X pins σ Q w s:=⟨z,H,I,rw',q⟩;exact subscriptTail_builtinR pl.typeIs slot_tuple_getitem.lookup
  (getItem_tuple pl (by omega) (by omega) (by rw[Qq5,<-hl];exact h1) (by simpa using ew) ⟨rfl,fin⟩) hs
theorem aiY:IxR X ak4:=by
 intro value slice pins s σ H x y v u Q I rx ry h hs;obtain⟨z,i,c,rfl,rfl,hz,he,q⟩:=h;obtain⟨t,rfl⟩:=rx;obtain⟨t',rfl⟩:=ry;obtain⟨j,h1,h2,h3,h4,h5⟩:=Nb he;have hl:z.cps.toList.length=z.length:=by simp[Str.length]
 rw[hl] at h1 h4 h5;have hn:=vV;exact tail_any (typeIs_str s z t) slot_str_getitem.lookup (getItem_str (by
  have e1:decide (i < -(2^63))=false:=Qwj (by omega);have e2:decide (i ≥ 2^63)=false:=Qwj (by omega);rw[e1,e2,Bool.or_false]) (by rw[h1];simpa using h2) ⟨.str ⟨#[c]⟩,H,I.tok _,⟨_,rfl⟩,q⟩) hs
def rIx(K:PySem.W.Frag):R2:=λx y H Q=>ak5 K x y H Q\/ak3 K x y H Q\/ak4 x y H Q
theorem abJ:IxR X (rIx X.K):=aey.or<|aiX.or aiY
theorem TJ(its:List Value)(n j)(u):Obj.mapSeq (·.setIfInBounds j u) { cls:=.type "list",data:=.seq its.toArray n } = { cls:=.type "list",data:=.seq (its.set j u).toArray n }:=by simp[Obj.mapSeq]
theorem Inv.lst{σ:St}(I:Inv X pins σ H s)(h:H p=some (.lst xs)) :
  ∃its n,Vals xs its/\s.heap.get? p=some { cls:=.type "list",data:=.seq its.toArray n }/\xs.length<=sizeLine:=by
 obtain⟨z,its,n,r,e⟩:=I.hok p _ h;exact⟨its,n,r,e,z⟩
theorem Inv.ah2{σ:St}{its its':List Value}(I:Inv X pins σ H s)(h:H p=some (.lst xs))
  (ho:s.heap.get? p=some { cls:=.type "list",data:=.seq its.toArray n }) (hf:f { cls:=.type "list",data:=.seq its.toArray n } = { cls:=.type "list",data:=.seq its'.toArray n' }) (r:Vals ys its') (hz:ys.length<=sizeLine) (t) :
  Inv X pins σ (upd H p (.lst ys)) { s with heap:=s.heap.update p f,toks:=t }:=by
 have e:(s.heap.update p f).get? p=some { cls:=.type "list",data:=.seq its'.toArray n' }:=by rw[Heap.get?_update_self f ho (by rw[hf]<;>rfl),hf]
 refine I.write (by rw[h];trivial) (.inl rfl) (λb u hb q=>(Heap.get?_update_other _ _<|Ne.symm hb).trans q) ⟨_,e⟩ ?_;exact⟨hz,its',n',r,e⟩
def akZ:V->V->V->Hp->(Hp->Prop)->Prop:=λo i v H Q=>∃p xs k j,o = .ref p/\i = .int k/\H p=some (.lst xs)/\Vw xs.length k=some j/\Q (upd H p (.lst (xs.set j v)))
theorem set_list:ane X akZ:=by
 intro pins s σ H o i v ov iv u Q I ro ri rv h;obtain⟨p,xs,k,j,rfl,rfl,hp,hj,q⟩:=h;cases ro;obtain⟨t,rfl⟩:=ri;obtain⟨its,n,r,ho,hz⟩:=I.lst hp;obtain⟨h1,h2,h3,h4⟩:=Vv hj;have hl:=r.length;have hn:=vV;have I':=
  I.ah2 hp ho (TJ its n j u) (r.set rv j) (by rw[Qz4];exact hz) s.toks
 by_cases h0:0<=k
 ·have hk:k.toNat=j:=by
   rw[seqIndex_of h0 h4] at h1;exact Qw4 h1
  exact PySem.W.ki_setAt ho h0 (by omega) (by rw[Qq5,<-hl];exact h4) (by rw[hk];exact⟨_,I',q⟩)
 ·have hk:(k+its.toArray.size).toNat=j:=by
   rw[seqIndex_neg (by omega) h3] at h1;rw[Qq5,<-hl];exact Qw4 h1
  exact PySem.W.ki_setBack ho (by omega) (by rw[Qq5,<-hl];exact h3) (by omega) (by rw[hk];exact⟨_,I',q⟩)
theorem KN(lo hi)(n):(sliceBounds lo hi none n).1=(HT.gP n 0 lo)/\(sliceBounds lo hi none n).2.1=(HT.gP n n hi)/\(sliceBounds lo hi none n).2.2=1:=by
 refine⟨?_,?_,rfl⟩
 ·cases lo with
  | none=>simp[sliceBounds,HT.gP]
  | some i=>
   simp[sliceBounds,HT.gP,Option.getD_none,show(1:Int) > 0 by decide,if_true];by_cases h:i<0
   ·simp[h,if_true]<;>omega
   ·simp[h,if_false]<;>omega
 ·cases hi with
  | none=>simp[sliceBounds,HT.gP]
  | some i=>
   simp[sliceBounds,HT.gP,Option.getD_none,show(1:Int) > 0 by decide,if_true];by_cases h:i<0
   ·simp[h,if_true]<;>omega
   ·simp[h,if_false]<;>omega
theorem GF(its:List Value)(lo hi):slicePick its.toArray lo hi none=((its.drop (HT.gP its.length 0 lo)).take (HT.gP its.length its.length hi - HT.gP its.length 0 lo)).toArray:=by obtain⟨h1,h2,h3⟩:=KN lo hi its.toArray.size;unfold slicePick;rw[h1,h2,h3];simp only[sliceRange_one,pick_run,Qq5]<;>rfl
def akY(K:PySem.W.Frag):V->Option Int->Option Int->Hp->VK->Prop:=λx lo hi H Q=>∃a xs,x = .ref a/\nq K H a xs/\∀p,H p=none->Q (.ref p) (upd H p (.lst (Bf xs lo hi)))
theorem Vc:UL X (akY X.K):=by intro pins s σ H x v vl vu lo hi sl Q I rx hs pl pu h;obtain⟨a,xs,rfl,hx,q⟩:=h;cases rx;obtain⟨its,r,ht,hz⟩:=I.list hx;have hlen:=r.length;refine⟨"list",_,slot_list_getitem.lookup,ht.isList.typeIs,?_⟩;refine wpAny_getItem_list_slice ht.isList hs pl pu .none (by simp) ?_ (by rw[Qq5]<;>omega);rw[GF,<-hlen];refine⟨.ref s.heap.objs.size,_,I.laid (λb ob q=>Qqx _ q) (Qqv _) ?_,rfl,q _<|I.hok.fresh<|Qqv _⟩;exact⟨Qqj (z7 xs lo hi) hz,_,0,(r.drop<|HT.gP xs.length 0 lo).take<|HT.gP xs.length xs.length hi - HT.gP xs.length 0 lo,Qq4 _ rfl⟩
theorem jL.or(h:jL X f r)(h':jL X f r'):jL X f (λxs H Q=>r xs H Q\/r' xs H Q):=by
 intro pins s σ H xs us Q I rs q;rcases q with q|q
 ·exact h pins s σ H xs us Q I rs q
 ·exact h' pins s σ H xs us Q I rs q
theorem MP:jL X (.type "list") (λxs H Q=>∃p ys,xs=[.ref p]/\(nq X.K H p ys\/mQ X.K H p ys)/\∀l,H l=none->Q (.ref l) (upd H l (.lst ys))):=by
 intro pins s σ H xs us Q I r h;obtain⟨p,ys,rfl,hq,q⟩:=h;obtain⟨u,rfl,rx⟩:=vals1 r;cases rx;have fin:∀its,Vals ys its->ys.length<=sizeLine->∀h' c',(∀b o',s.heap.get? b=some o'->h'.get? b=some o')->
   h'.get? s.heap.objs.size=some { cls:=.type "list",dict:=none,data:=.seq its.toArray c',slots:=#[] }->EP X pins σ Q (.ref s.heap.objs.size) { s with heap:=h' }:=λits r' hz h' c' kp e=>
  ⟨.ref s.heap.objs.size,_,I.laid kp (Qqv _)<|show iV X.prog X.w _ h' _ (.lst ys) from⟨hz,its,c',r',e⟩,rfl,q _<|I.hok.fresh<|Qqv _⟩
 rcases hq with hq|hq
 ·obtain⟨its,r',pl,hz⟩:=I.list hq;have hlen:=r'.length;obtain⟨o,ho,hc,n,hd⟩:=pl.isList;exact call_list_seq p (.inl rfl) ho hc hd (λh' c' kp e=>fin its r' hz h' c' kp e) (by simp[Qq5]<;>omega)
 ·obtain⟨its,r',pl,hz⟩:=I.tuple hq;have hlen:=r'.length;obtain⟨o,ho,hc,n,hd⟩:=pl;exact call_list_seq p (.inr rfl) ho hc hd (λh' c' kp e=>fin its r' hz h' c' kp e) (by simp[Qq5]<;>omega)
theorem Hh:jL X (.type "tuple") (λxs H Q=>∃p ys,xs=[.ref p]/\((nq X.K H p ys/\∀l,H l=none->Q (.ref l) (upd H l (.tup ys)))\/(mQ X.K H p ys/\Q (.ref p) H))):=by
 intro pins s σ H xs us Q I r h;obtain⟨p,ys,rfl,h⟩:=h;obtain⟨u,rfl,rx⟩:=vals1 r;cases rx;rcases h with ⟨hq,q⟩|⟨hq,q⟩
 ·obtain⟨its,r',pl,hz⟩:=I.list hq;have hlen:=r'.length;refine call_tuple_list pl.isList (λh' kp=>?_) (by simp[Qq5]<;>omega);have I1:Inv X pins σ H { s with heap:=h' }:=I.kept kp;have I2:Inv X pins σ (upd H h'.objs.size<|.tup ys) { s with heap:=h'.push { cls:=.type "tuple",data:=.seq its.toArray } }:=
   I1.laid (λb o e=>Qqx _ e) (Qqv _) (show iV X.prog X.w _ _ _ (.tup ys) from⟨hz,its,r',Gk.new _ _⟩)
  exact⟨.ref h'.objs.size,_,I2,rfl,q _<|I1.hok.fresh<|Qqv _⟩
 ·obtain⟨its,r',pl,hz⟩:=I.tuple hq;exact call_tuple_same pl ⟨.ref p,H,I,rfl,q⟩
def tyV(K:PySem.W.Frag)(T:String)(x:V)(H:Hp):Prop:=match x with
 | .str _=>T = "str"
 | .int _=>T = "int"
 | .ref p=>(T = "list"/\∃xs,nq K H p xs)\/(T = "tuple"/\∃o,K.lookup p=some o/\o.cls = .type "tuple"/\o.dict=none)\/
   (T = "dict"/\((∃kvs,H p=some (.dK kvs))\/∃kvs,H p=some (.dT kvs)))\/(T = "set"/\∃S n,H p=some (.set S n))
 | _=>False
theorem agy{σ:St}(I:Inv X pins σ H s)(r:RelV x v)(ty:tyV X.K T x H) :
  s.TypeIs v T/\∀a,v = .ref a->∃ob,s.heap.get? a=some ob/\ob.dict=none:=by
 cases x with
 | str z=>
  obtain⟨t,rfl⟩:=r;cases ty;exact⟨typeIs_str s z t,λ_ e=>nomatch e⟩
 | int i=>
  obtain⟨t,rfl⟩:=r;cases ty;exact⟨typeIs_int s i t,λ_ e=>nomatch e⟩
 | ref p=>
  cases r;rcases ty with ⟨rfl,xs,hq⟩|⟨rfl,o,hk,hc,hd⟩|⟨rfl,hk⟩|⟨rfl,S,n,hk⟩
  ·obtain⟨its,_,pl,_⟩:=I.list hq;refine⟨pl.isList.typeIs,λa e=>?_⟩;cases e;obtain⟨o,n,e,c,hd,_⟩:=pl;exact⟨o,e,hd⟩
  ·refine⟨⟨o,I.XX p o hk,hc⟩,λa e=>?_⟩;cases e;exact⟨o,I.XX _ o hk,hd⟩
  ·have z:∃o,s.heap.get? p=some o/\o.ExactDict:=by
    rcases hk with ⟨kvs,hk⟩|⟨kvs,hk⟩
    ·obtain⟨_,_,_,_,o,_,_,e,ex,_⟩:=I.hok p _ hk;exact⟨o,e,ex⟩
    ·obtain⟨_,_,_,_,o,_,_,e,ex,_⟩:=I.hok p _ hk;exact⟨o,e,ex⟩
   obtain⟨o,e,ex⟩:=z;refine⟨⟨o,e,ex.1⟩,λa e2=>?_⟩;cases e2;exact⟨o,e,ex.2.1⟩
  ·obtain⟨o,_,_,_,e,ex,_⟩:=I.hok p _ hk;refine⟨⟨o,e,ex.1⟩,λa e2=>?_⟩;cases e2;exact⟨o,e,ex.2.1⟩
 | _=>exact False.elim ty
def tBM(K:PySem.W.Frag)(T:String)(r:V->List V->Hp->VK->Prop)(to:TE)(t:TA):TE:=λσ H Q=>to σ H λx H1=>tyV K T x H1/\t σ H1 λxs H2=>r x xs H2 Q
variable{o e:Expr}{es:List Expr}{to:TE}{t:TA}{name:Str}{apos cpos:Pos}{T id:String}{r:V->List V->Hp->VK->Prop}
theorem Vl(pa:PlainAttrs T)(slot:Slot T name id)(hty:typeOf (.builtin id)=pure (.type "method_descriptor"))(hm:MtR X id r)(ho:PE X o to)(ha:PA X (e::es) t)
  (hbase:attributeBase o name X.env (eval o X.env)=eval o X.env:=by rfl)
  (hfew:((backTo cpos (starEach (e::es) X.env)).all (λx=>!x.1)&&(backToKw cpos (keywordEach [] X.env)).all (λx=>x.1.isSome)
   && decide ((e::es).length+([]:List Keyword).length+(if ([]:List Keyword).isEmpty then 0 else 1)<30))=true:=by rfl)
  (hline:(apos.endLine == cpos.line)=true:=by rfl) (hs:starEach (e::es) X.env=(false,eval e X.env)::starEach es X.env:=by rfl) (hplain:(backTo cpos (starEach es X.env)).any (·.1)=false:=by rfl) :
  PE X (.Call (.Attribute o name apos) (e::es) [] cpos) (tBM X.K T r to t):=by
 intro pins s σ H Q I h;refine wpAny_Call_method_late hbase hfew hline rfl (fC (ho pins s σ H _ I h) λv s1 ⟨x,H1,I1,r1,ty,q1⟩=>?_);obtain⟨h1,h2⟩:=agy I1 r1 ty;refine⟨T,id,pa,slot,hty,h1,h2,?_⟩;have hA:=ha cpos pins s1 σ H1 _ I1 q1;rw[hs] at hA ⊢;refine Calls.callWith_builtin (by show(false||(backTo cpos<|starEach es X.env).any (·.1))=false;rw[hplain]<;>rfl)<|Calls.evalArgs_plain ?_;exact fC hA λus s2 ⟨vs,H2,I2,r2,q2⟩=>hm pins s2 σ H2 x vs v us Q I2 r1 r2 q2
end
def MtM(X:Cx)(id:String)(r:V->List V->Hp->VK->Prop):Prop:=
 ∀(pins:List (Addr×Obj)) (s:Shared) (σ:St) (H:Hp) (x:V) (xs:List V) (v:Value) (us:List Value) (Q:VK),Inv X pins σ H s->RelV x v->Vals xs us->r x xs H Q->
  wpAny (model X.prog X.w) X.A (call (.builtin id) (v::us)) (EP X pins σ Q) X.xe s
theorem Vals.one:∀{x} {us},Vals [x] us->∃u,us=[u]/\RelV x u
 | _,_,.cons r .nil=>⟨_,rfl,r⟩
theorem Vals.two:∀{x y} {us},Vals [x,y] us->∃u v,us=[u,v]/\RelV x u/\RelV y v
 | _,_,_,.cons r (.cons q .nil)=>⟨_,_,rfl,r,q⟩
theorem Vals.eraseIdx:∀{xs} {us} i,Vals xs us->Vals (xs.eraseIdx i) (us.eraseIdx i)
 | _,_,_,.nil=>.nil
 | _,_,0,.cons _ t=>t
 | _,_,i+1,.cons r t=>.cons r<|Vals.eraseIdx i t
theorem yS{α:Type}:∀(l:List α) i,(l.eraseIdx i).length<=l.length
 | [],_=>Qqv _
 | _::_,0=>Nat.le_succ _
 | _::r,i+1=>Nat.succ_le_succ<|yS r i
section
variable{X:Cx}{pins:List (Addr×Obj)}{σ:St}{H:Hp}{s:Shared}{l b:Addr}{xs ys zs:List V}
theorem Inv.ah3{its its':List Value}(I:Inv X pins σ H s)(hH:H l=some (.lst xs))
  (e:s.heap.get? l=some { cls:=.type "list",data:=.seq its.toArray n }) (hf:f its.toArray=its'.toArray) (hv:Vals ys its') (hz:ys.length<=sizeLine) :
  Inv X pins σ (upd H l (.lst ys)) { s with heap:=s.heap.update l (Obj.mapSeq f),toks:=t' }:=by
 have q:=PySem.IsL.update e f;rw[hf] at q;refine I.write (by rw[hH];exact trivial) (.inl rfl) (λb' u hb hu=>(Heap.get?_update_other s.heap (Obj.mapSeq f)<|Ne.symm hb).trans hu) ⟨_,q⟩ ?_;exact⟨hz,its',_,hv,q⟩
theorem Inv.ah4(I:Inv X pins σ H s)(hv:Vals ys its)(hz:ys.length<=sizeLine) :
  Inv X pins σ (upd H s.heap.objs.size (.lst ys)) { s with heap:=s.heap.push { cls:=.type "list",data:=.seq its.toArray },toks:=t' }:=
 I.laid (λ_ _ q=>Qqx _ q) (Qqv _) ⟨hz,its,0,hv,Qq4 _ rfl⟩
theorem Inv.fresh(I:Inv X pins σ H s):H s.heap.objs.size=none:=I.hok.fresh<|Qqv _
theorem Inv.abd(I:Inv X pins σ H s)(hH:H l=some (.lst xs)):xs.length<=sizeLine/\∃its n,Vals xs its/\xs.length=its.length/\s.heap.get? l=some { cls:=.type "list",data:=.seq its.toArray n }:=by obtain⟨z,its,n,r,e⟩:=I.hok l _ hH;exact⟨z,its,n,r,r.length,e⟩
theorem alF(h:n<=sizeLine):Builtin.List.listTooLong n=false:=by unfold Builtin.List.listTooLong;exact Qwj (by omega)
end
section
variable{X:Cx}{prog:Program}{w:World}{A:Around}{E:Value->Shared->Prop}{s:Shared}
def adw:V->List V->Hp->VK->Prop:=λx vs H Q=>∃l xs y,x = .ref l/\vs=[y]/\H l=some (.lst xs)/\xs.length<sizeLine/\Q .non (upd H l (.lst (xs++[y])))
theorem yQ:MtM X "list.append" adw:=by intro pins s σ H x vs v us Q I rx rv h;obtain⟨l,xs,y,rfl,rfl,hH,hz,q⟩:=h;cases rx;obtain⟨u,rfl,ru⟩:=rv.one;obtain⟨z,its,n,r,hl,e⟩:=I.abd hH;refine call_meets F.slot_list_append ⟨_,e,rfl⟩ F.entry_list_append (F.args_list_append_2 _ _) (PySem.list_append l its.toArray n u (by rw[Qq5];omega)) ⟨e,?_⟩;refine⟨.non,_,I.ah3 hH e (by simp) (r.append<|.cons ru .nil) ?_,rfl,q⟩;rw[Qq1,Qz1];omega
def agY:V->List V->Hp->VK->Prop:=λx vs H Q=>∃l xs i k y,x = .ref l/\vs=[.int i]/\H l=some (.lst xs)/\-(2^63)<=i/\i<2^63/\seqIndex? i xs.length=some k/\xs[k]? = some y/\Q y (upd H l (.lst (xs.eraseIdx k)))
theorem aa9:MtM X "list.pop" agY:=by
 intro pins s σ H x vs v us Q I rx rv h;obtain⟨l,xs,i,k,y,rfl,rfl,hH,h1,h2,hk,hy,q⟩:=h;cases rx;obtain⟨u,rfl,ru⟩:=rv.one;obtain⟨t,rfl⟩:=ru;obtain⟨z,its,n,r,hl,e⟩:=I.abd hH;obtain⟨w,hw,rw'⟩:=r.get hy;refine call_meets F.slot_list_pop ⟨_,e,rfl⟩ F.entry_list_pop (F.args_list_pop_2 _ _)
  (MeetsSeq.list_pop_at l its.toArray n i t k w (fitsIndex_both h1 h2) (by rw[Qq5,<-hl];exact hk) (by rw[<-Array.getElem?_toList];exact hw) (by rw[Qq5];omega)) ⟨e,?_⟩
 refine⟨y,_,I.ah3 hH e ?_ (r.eraseIdx k) ?_,rw',q⟩
 ·show its.toArray.eraseIdxIfInBounds k=(its.eraseIdx k).toArray;rw[List.eraseIdxIfInBounds_toArray]
 ·have:=yS xs k;omega
def ak9:R2:=λx y H Q=>∃l b xs zs,x = .ref l/\y = .ref b/\H l=some (.lst xs)/\H b=some (.lst zs)/\xs.length+zs.length<=sizeLine/\∀p,H p=none->Q (.ref p) (upd H p (.lst (xs++zs)))
theorem ahC:nu X (binaryOp .Add) ak9:=by
 intro pins s σ H x y v u Q I rx ry h;obtain⟨l,b,xs,zs,rfl,rfl,hH,hB,hz,q⟩:=h;cases rx;cases ry;obtain⟨z,its,n,r,hl,e⟩:=I.abd hH;obtain⟨z2,its2,n2,r2,hl2,e2⟩:=I.abd hB;refine PySem.P.add_list e e2 ?_ (by rw[Qq5,Qq5];omega);have ea:its.toArray++its2.toArray=(its++its2).toArray:=by simp
 rw[ea];exact⟨.ref _,_,I.ah4 (r.append r2) (by rw[Qq1];omega),rfl,q _ I.fresh⟩
theorem len_rep{α:Type}(xs:List α)(k):(List.replicate k xs).flatten.length=k*xs.length:=by
 induction k with
 | zero=>simp
 | succ k ih=>rw[List.replicate_succ,List.flatten_cons,Qq1,ih,Nat.succ_mul,Nat.add_comm]
set_option maxRecDepth 100000 in
end
end L2
namespace Att
open PySem PySem.W PySem.Calls PyProof.Rows
theorem Be:∀ns vs,WellAll P h vs (ns.map WData.int)->IntsAre vs ns:=by
 intro ns
 induction ns with
 | nil=>
  intro vs w;rw[List.map_nil] at w;cases w;exact .nil
 | cons n ns ih=>
  intro vs w;rw[Qq2] at w;cases w with
  | cons a b=>
   cases a;exact .cons _ _<|ih _ b
theorem W6{l:OpenLaw}(hn:l.most=some n)
  (hpre:l.row.toRowW.claim.pre args=true) (hwl:WellAll P h vals args) :
  ∃a vs ns,vals=[Value.ref a]/\args=[WData.list (ns.map WData.int)]/\h.get? a=some { cls:=.type "list",data:=.seq vs.toArray }/\IntsAre vs ns/\ns.length<=n:=by
 have hsh:=(pre_splitW hpre).1;have hc:l.pre.holds [] { args:=args }=true:=(pre_splitW hpre).2;obtain⟨d,r,rfl,h1,h2⟩:=hasAllW_cons hsh;obtain rfl:=hasAllW_nil h2;obtain⟨xs,rfl,h3⟩:=hasW_list h1;obtain⟨ns,rfl⟩:=items_int h3;have hlen:ns.length<=n:=by
  unfold OpenLaw.pre at hc;have h4:(WTm.not<|.lt (.lit<|.int n)<|.len<|.arg 0).holds [] { args:=[.list (ns.map .int)] }=true:=by have h4:=(holds_andW hc).1;rw[hn] at h4;exact h4
  have h5:=condW_of h4<|w_not<|w_lt w_lit<|w_len_list<|w_arg rfl;rw[Qqz] at h5;refine Nat.le_of_not_lt λq=>?_;have q':n<ns.length:=by omega
  first
   | (rw[Qw2 q'] at h5;exact absurd h5 (by decide))
   | (simp at h5;omega)
 cases hwl with
 | cons w1 w2=>
  cases w2;cases w1 with
  | list ho hall=>exact⟨_,_,ns,rfl,rfl,ho,Be ns _ hall,hlen⟩
theorem Xf(l:OpenLaw)(args):l.row.toRowW.claim.post args (.bool true) args=true:=
 postW_of
  (show WShape.has [] (.bool true) .bool=true by first|rfl|decide|simp[WShape.has,WShape.arms,WShape.armsAll])
  (show(WTm.eq .res<|.lit<|.bool true).value [] { args:=args,res:=some<|.bool true,after:=args }=some (.bool<|true == true) from w_eq_bool (w_res rfl) w_lit) rfl
end Att
namespace L2
open PySem PySem.Spec PyProof.Rows
theorem Hq:∀{vs} {ns},IntsAre vs ns->Vals (ns.map V.int) vs
 | _,_,.nil=>.nil
 | _,_,.cons n t h=>.cons ⟨t,rfl⟩<|Hq h
def Only(H:Hp):Prop:=∀b,H b=none\/∃o xs,H b=some (.Mw o (.lst xs))
theorem abl{K:PySem.W.Frag}
  (KX:K.In s₁.heap) (hns:s₁.heap.Ns mainGlobals mg) (hb:s₁.heap.Ns builtinsNs mb) (hbb:∀x:Str,x ≠ "__name__"->mb x=bootBuiltins x) (hlim:s₁.heap.NoLimit) (hg:s₁.gens = #[])
  (ha:s₁.heap.get? a=some { cls:=.type "list",data:=.seq vs.toArray }) (hi:IntsAre vs ns) (hl:ns.length<=sizeLine) (hr:jK k callerA)
  (F:∀base,K.In base->base.Ns mainGlobals mg->oE P w K mg base CX k fa fd [x] sp) (hbind:∀s u,BindsTo s fd ⟨[u],[]⟩ [(x,u)])
  (hsp:∀H,Only H->nq K H a (ns.map V.int)->sp [.ref a] H (λv _=>v = .bl true) λ_ _ _=>False)
  (hCX:∀H e s',CX [] H s₁ (λ_ _ _=>False) e s'->False) :
  codeAny (model P w) callerA (.call (.ref fa) ⟨[.ref a],[]⟩) (λr s'=>r = .ok (.ret (.bool true))/\OldK s₁.heap s'.heap/\s'.os=s₁.os/\AllBare s'.gens) s₁:=by
 have rv:=Hq hi;have lenV:=hi.length
 -- from an abstract heap in which nothing but the script may be tracked
 have core:∀H,Only H->nq K H a (ns.map V.int)->xZ P w H s₁.heap->(∀b,H b≠none->b=a)->(H a≠none->K.lookup a=none)->
   codeAny (model P w) callerA (.call (.ref fa) ⟨[.ref a],[]⟩) (λr s'=>r = .ok (.ret<|.bool true)/\OldK s₁.heap s'.heap/\s'.os=s₁.os/\AllBare s'.gens) s₁:=by
  intro H hO hS hok hA hK;have Wg:∀{b} {o},s₁.heap.get? b=some o->H b=none->(Mm s₁.heap H).get? b=some o:=λe n=>abM e n;have noA:∀{b} {o} {es} {ep},s₁.heap.get? b=some o->o.data = .dict es ep->H b=none:=λ{b o es ep} e d=>by
   cases q:H b with
   | none=>rfl
   | some u=>
    have e':=hA b (by rw[q];simp);subst e';rw[ha] at e;cases e;have d':=d;cases d'
  have nsK:∀{b} {m},s₁.heap.Ns b m->(Mm s₁.heap H).Ns b m:=λ{b m} ⟨o,es,ep,e,d,r⟩=>⟨o,es,ep,Wg e<|noA e d,d,r⟩;have hKb:K.In (Mm s₁.heap H):=λb o e=>Wg (KX b o e) (by
   cases q:H b with
   | none=>rfl
   | some u=>
    have e':b=a:=hA b (by rw[q];simp);subst e';rw[hK (by rw[q];simp)] at e;cases e)
  have hM:Mod K mg (Mm s₁.heap H):=⟨hKb,nsK hns,⟨mb,nsK hb,hbb⟩,let ⟨mc,h1,h2⟩:=hlim;⟨mc,nsK h1,h2⟩⟩;have e0:afz P w K mg (Mm s₁.heap H) callerA [] s₁ H:=⟨rfl,hM,λb o e=>ad6 e,Nat.le_of_eq<|X7 _ _,trivial,λb hb=>absurd (show b∈([]:List Addr) from hb) (by simp),hok,.of_eq hg⟩;refine codeAny_mono ((F _ hKb<|nsK hns).run callerA [] s₁ H ⟨[.ref a],[]⟩ [.ref a] [.ref a] _ _ hr e0 (hbind s₁<|.ref a) (.cons rfl .nil)<|hsp H hO hS) λr s' h=>?_;cases r with
  | error e=>exact(hCX H e s' h).elim
  | ok fl=>
   cases fl with
   | next=>exact False.elim h
   | brk=>exact False.elim h
   | cont=>exact False.elim h
   | ret u=>
    obtain⟨v,H',os,bare,un,hok',r',q⟩:=h;have q':v = .bl true:=q;subst q';obtain rfl:u=Value.bool true:=r';refine⟨rfl,OldK.of_keep λb o e=>?_,os,bare⟩;cases q:H b with
    | none=>exact un.keep b o e q (by intro z;exact absurd (show b∈([]:List Addr) from z) (by simp)) (by simp)
    | some u=>
     rcases hO b with z|⟨ob,xs,z⟩
     ·rw[q] at z;cases z
     ·have z2:=un.Ep b ob _ z;obtain⟨e1,_⟩:=hok b _ z;obtain⟨e2,_⟩:=hok' b _ z2;rw[e] at e1;cases e1;exact e2
 cases hk:K.lookup a with
 | some o=>
  -- the script is one of the module's own objects
  have e:=KX a o hk;rw[ha] at e;cases e;refine core (λ_=>none) (λ_=>.inl rfl) (.inr ⟨_,vs.toArray,_,hk,rfl,rfl,rfl,by rw[Qq5,lenV];exact hl,by simpa using rv⟩) (λb u z=>by have z':(none:Option HO)=some u:=z;cases z') (λb z=>absurd rfl z) λz=>absurd rfl z
 | none=>
  refine core (λb=>if b=a then some (.Mw { cls:=.type "list",data:=.seq vs.toArray } (.lst<|ns.map V.int)) else none) (λb=>?_) (.inl<|.inr ⟨{ cls:=.type "list",data:=.seq vs.toArray },if_pos rfl⟩) (λb u z=>?_) (λb z=>?_) λ_=>hk
  ·by_cases hb:b=a
   ·exact .inr ⟨_,_,if_pos hb⟩
   ·exact .inl<|if_neg hb
  ·by_cases hb:b=a
   ·have z':=(if_pos hb).symm.trans z;cases z';subst hb;exact⟨ha,by rw[Qqz];exact hl,vs,_,rv,ha⟩
   ·have z':=(if_neg hb).symm.trans z;cases z'
  ·by_cases hb:b=a
   ·exact hb
   ·exact absurd (if_neg hb) z
noncomputable def j8(s:Stmt):Arguments:=match s with
 | .FunctionDef _ a _ _ _ _ _ _ _ _=>a
 | _=>{ posonlyargs:=[],args:=[],vararg:=none,kwonlyargs:=[],kw_defaults:=[],kwarg:=none,defaults:=[] }
noncomputable def fU(s:Stmt):List Stmt:=match s with
 | .FunctionDef _ _ b _ _ _ _ _ _ _=>b
 | _=>[]
noncomputable def aJ(s:Stmt):Scope:=match s with
 | .FunctionDef _ _ _ _ _ _ sc _ _ _=>sc
 | _=>{ kind:=.function,names:=[],isGenerator:=false,isCoroutine:=false }
abbrev Gs:CXT:=λ_ _ _ _ _ _=>False
abbrev E0:XK:=λ_ _ _=>False
theorem Pj:Passes Gs X E0:=λ_ _ _ _ _ _ _ h=>h.elim
structure Za(K:PySem.W.Frag)(x qual:Str)(st:Stmt)(f:Addr)(fd:FuncData):Prop where
 ex:∃(oc:Value) (od:Option Addr) (kV doc pm:Value) (an:Option Addr) (cdv ct:Value) (osl:Array (Option Value)),
  fd=PySem.W.fnOf x qual (j8 st) (fU st) (aJ st) .none kV doc pm an cdv ct/\K.lookup f=some ⟨oc,od,.func fd,osl⟩/\PySem.W.codeIn K cdv qual=true
 kp:PySem.W.keepIn K (.ref f)=true
section
variable{P:Program}{w:World}{K:PySem.W.Frag}{mg:Str->Option Value}{base:Heap}
theorem Za.ok{st:Stmt}(F:Za K x qual st f fd)(S:aZ N ps (aJ st))(len:∀vs H Q E,sp vs H Q E->vs.length=ps.length)
  (hbody:∀cdv A outer s H vs Q E,jK k (A.deeper (envOfC qual (aJ st) s.heap.objs.size f cdv))->sp vs H Q E->
   ∃t,Rq (Ul Gs P w K mg base N qual (aJ st) f cdv A outer s H E).nox (fU st) t/\t { nx:=λ_ H'=>Q .non H',rt:=Q } (start N vs) H):oE P w K mg base Gs (k+1) f fd ps sp:=by
 obtain⟨oc,od,kV,doc,pm,an,cdv,ct,osl,rfl,lk,hcd⟩:=F.ex;refine amN lk hcd S len λA outer s H vs Q E hr hsp=>?_;obtain⟨t,h,q⟩:=hbody cdv A outer s H vs Q E hr hsp;exact⟨t,h.nox,q⟩
theorem Za.binds{st:Stmt}(F:Za K x qual st f fd)
  (h:∀kV doc pm an cdv ct us,us.length=ps.length->bindArgs (PySem.W.fnOf x qual (j8 st) (fU st) (aJ st) .none kV doc pm an cdv ct) ⟨us,[]⟩=pure (ps.zip us)):Binds K fd ps []:=by
 obtain⟨oc,od,kV,doc,pm,an,cdv,ct,osl,rfl,lk,hcd⟩:=F.ex;exact .all<|h kV doc pm an cdv ct
theorem Ud{st:Stmt}{kV doc pm cdv ct:Value}(l:K.lookup f=some ⟨oc,od,.func (PySem.W.fnOf x qual (j8 st) (fU st) (aJ st) .none kV doc pm an cdv ct),osl⟩)
  (c:PySem.W.codeIn K cdv qual=true) (k:PySem.W.keepIn K (.ref f)=true):Za K x qual st f (PySem.W.fnOf x qual (j8 st) (fU st) (aJ st) .none kV doc pm an cdv ct):=⟨⟨oc,od,kV,doc,pm,an,cdv,ct,osl,rfl,l,c⟩,k⟩
end
theorem amh{A B:Prop}(h:B):if false=true then A else B:=by rw[if_neg Qwx];exact h
theorem amg{A B:Prop}(h:A):if true=true then A else B:=by rw[if_pos rfl];exact h
def aV(H H':Hp):Prop:=∀b o,H b=some o->H' b=some o
theorem aV.refl(H):aV H H:=λ_ _ h=>h
theorem aV.trans(a:aV H H1)(b:aV H1 H2):aV H H2:=λc o h=>b c o<|a c o h
theorem aV.free(e:aV H H')(h:H' l=Option.none):H l=Option.none:=by
 cases q:H l with
 | none=>rfl
 | some o=>
  rw[e l o q] at h;cases h
theorem aV.seq{K:PySem.W.Frag}(e:aV H H')(h:nq K H a xs):nq K H' a xs:=by
 rcases h with (h|⟨o,h⟩)|h
 ·exact .inl<|.inl<|e _ _ h
 ·exact .inl<|.inr ⟨o,e _ _ h⟩
 ·exact .inr h
section
variable{κ:Type}[DecidableEq κ]
noncomputable def wG(kvs:List (κ×V))(k:κ):Option V:=(kvs.find? λkv=>decide (kv.1=k)).map (·.2)
noncomputable def putK(kvs:List (κ×V))(k:κ)(v:V):List (κ×V):=
 if (kvs.any λkv=>decide (kv.1=k))=true then kvs.map (λkv=>if kv.1=k then (kv.1,v) else kv) else kvs++[(k,v)]
theorem wD{k:κ}(e:p.1=k):wG (p::r) k=some p.2:=by simp[wG,Qj4,e]
theorem wF{k:κ}(e:¬p.1=k):wG (p::r) k=wG r k:=by simp[wG,Qj4,e]
theorem BJ(k):∀kvs:List (κ×V),(kvs.any λkv=>decide (kv.1=k))=(wG kvs k).isSome
 | []=>rfl
 | p::r=>by
  rw[List.any_cons];by_cases e:p.1=k
  ·simp[wD e,Qw2 e,Bool.true_or,Option.isSome_some]
  ·rw[wF e,Qwj e,Bool.false_or];exact BJ k r
theorem tH(kvs)(k:κ)(v):(putK kvs k v).length<=kvs.length+1:=by
 unfold putK;split
 ·rw[Qqz];omega
 ·rw[Qq1,Qqw,List.length_nil];omega
theorem Hn.za(r:Hn o u):o.isSome=u.isSome:=by
 cases o with
 | none=>cases u with
  | none=>rfl
  | some _=>exact r.elim
 | some _=>cases u with
  | none=>exact r.elim
  | some _=>rfl
theorem KV.val(r:KV kvs vs)(k:κ):Hn (wG kvs k) (valueAt vs k):=by
 unfold KV at r
 induction r with
 | nil=>exact True.intro
 | @cons p q ps qs h t ih=>
  obtain⟨h1,h2⟩:=h;by_cases e:p.1=k
  ·have e':=h1.symm.trans e;have b:valueAt (q::qs) k=some q.2:=by simp[valueAt,Qj4,e']
   rw[wD e,b];exact h2
  ·have e':¬q.1=k:=λz=>e<|h1.trans z;have b:valueAt (q::qs) k=valueAt qs k:=by simp[valueAt,Qj4,e']
   rw[wF e,b];exact ih
theorem KV.any(r:KV kvs vs)(k:κ):(kvs.any λkv=>decide (kv.1=k))=vs.any λkv=>decide (kv.1=k):=by
 unfold KV at r
 induction r with
 | nil=>rfl
 | cons h t ih=>rw[List.any_cons,List.any_cons,ih,h.1]
theorem KV.repl(r:KV kvs vs)(k:κ)(ry:RelV y u) :
  KV (kvs.map λkv=>if kv.1=k then (kv.1,y) else kv) (vs.map λkv=>if kv.1=k then (kv.1,u) else kv):=by
 unfold KV at r ⊢
 induction r with
 | nil=>exact .nil
 | @cons p q ps qs h t ih=>
  rw[Qq2,Qq2];refine .cons ?_ ih;obtain⟨h1,h2⟩:=h;by_cases e:p.1=k
  ·rw[if_pos e,if_pos<|h1.symm.trans e];exact⟨h1,ry⟩
  ·rw[if_neg e,if_neg<|λz=>e<|h1.trans z];exact⟨h1,h2⟩
theorem KV.put(r:KV kvs vs)(k:κ)(ry:RelV y u):KV (putK kvs k y) (stored vs k u):=by
 unfold putK stored;rw[r.any k];by_cases e:(vs.any λkv=>decide (kv.1=k))=true
 ·rw[if_pos e,if_pos e];exact r.repl k ry
 ·rw[if_neg e,if_neg e];exact Paired.snoc r ⟨rfl,ry⟩
theorem KV.keys{vs:List (κ×Value)}(r:KV kvs vs):kvs.map (·.1)=vs.map (·.1):=by
 unfold KV at r
 induction r with
 | nil=>rfl
 | cons h t ih=>rw[Qq2,Qq2,ih,h.1]
theorem KV.length{vs:List (κ×Value)}(r:KV kvs vs):kvs.length=vs.length:=Paired.length r
end
theorem xg(r:RelV (kV k) u):(cH P w).is k u=true:=by
 cases k with
 | inl i=>obtain⟨t,e⟩:=(show ∃t,u=Value.int i t from r);subst e;exact Qd P w i t
 | inr x=>obtain⟨t,e⟩:=(show ∃t,u=Value.str x t from r);subst e;exact Qc P w x t
theorem Ih:∀{ks} {us},Vals (ks.map kV) us->ItemsAre (cH P w) ks us
 | [],_,r=>by rw[List.map_nil] at r;cases r;exact .nil
 | k::ks,_,r=>by
  rw[Qq2] at r;cases r with
  | cons h t=>exact .cons (xg h)<|Ih t
abbrev KT(H:Hp):List (List Key×V)->List (List Key×Addr×Value)->Prop:=Paired λp q=>p.1=q.1/\H q.2.1=some (.tup (p.1.map kV))/\RelV p.2 q.2.2
theorem KT.val(r:KT H kvs xs)(k):Hn (wG kvs k) ((atKey xs k).map (·.2)):=by
 induction r with
 | nil=>exact True.intro
 | @cons p q ps qs h t ih=>
  obtain⟨h1,_,h2⟩:=h;by_cases e:p.1=k
  ·have e':=h1.symm.trans e;have b:atKey (q::qs) k=some q.2:=by simp[atKey,Qj4,e']
   rw[wD e,b];exact h2
  ·have e':¬q.1=k:=λz=>e<|h1.trans z;have b:atKey (q::qs) k=atKey qs k:=by simp[atKey,Qj4,e']
   rw[wF e,b];exact ih
theorem KT.repl(r:KT H kvs xs)(k)(ry:RelV y u) :
  KT H (kvs.map λkv=>if kv.1=k then (kv.1,y) else kv) (xs.map (putAt k u)):=by
 induction r with
 | nil=>exact .nil
 | @cons p q ps qs h t ih=>
  rw[Qq2,Qq2];refine .cons ?_ ih;obtain⟨h1,h2,h3⟩:=h;unfold putAt;by_cases e:p.1=k
  ·rw[if_pos e,if_pos<|h1.symm.trans e];exact⟨h1,h2,ry⟩
  ·rw[if_neg e,if_neg<|λz=>e<|h1.trans z];exact⟨h1,h2,h3⟩
theorem KT.put(r:KT H kvs xs)(k)(hb:H b=some (.tup (k.map kV)))(ry:RelV y u) :
  KT H (putK kvs k y) (storedH xs k b u):=by
 have e:(kvs.any λkv=>decide (kv.1=k))=(atKey xs k).isSome:=by rw[BJ,(r.val k).za,Option.isSome_map]
 unfold putK storedH;rw[e];by_cases q:(atKey xs k).isSome=true
 ·rw[if_pos q,if_pos q];exact r.repl k ry
 ·rw[if_neg q,if_neg q];exact Paired.snoc r ⟨rfl,hb,ry⟩
theorem KT.keeps(r:KT H kvs xs)(ht:∀b ys,H b=some (.tup ys)->H' b=some (.tup ys)):KT H' kvs xs:=
 Paired.ah0 r λ_ _ z=>⟨z.1,ht _ _ z.2.1,z.2.2⟩
section
variable{P:Program}{w:World}{H:Hp}{h:Heap}{a:Addr}
theorem afP(ok:xZ P w H h)(e:Rd H a u):iV P w H h a u:=e.ok ok
theorem QT(ok:xZ P w H h)(e:Rd H a (.dK kvs)):kvs.length<=sizeLine/\(a == sysModules)=false/\∃vs,KV kvs vs/\h.DictOf (cH P w) a vs:=
 show iV P w H h a (.dK kvs) from afP ok e
theorem amY(ok:xZ P w H h)(e:H a=some (.dK kvs)):kvs.length<=sizeLine/\(a == sysModules)=false/\∃vs,KV kvs vs/\h.DictOf (cH P w) a vs:=QT ok<|.inl e
theorem Ml(ok:xZ P w H h)(e:H a=some (.tup (ks.map kV))):(tupleKind (cH P w)).is h ks a:=by obtain⟨_,its,r,o,h1,h2,⟨n,h3⟩,_⟩:=(show iV P w H h a (.tup<|ks.map kV) from ok a _ e);exact⟨o,its.toArray,n,h1,h2,h3,by simpa using Ih r⟩
theorem V7(ok:xZ P w H h)(e:Rd H a (.dT kvs)):kvs.length<=sizeLine/\(a == sysModules)=false/\
  ∃xs,KT H kvs xs/\h.DictOfH (tupleKind (cH P w)) a xs:=by
 obtain⟨z,y,xs,r,o,es,ep,h1,h2,h3,h4,h5⟩:=(show iV P w H h a (.dT kvs) from afP ok e);refine⟨z,y,xs,r,o,es,ep,h1,h2,h3,h4,λx hx=>?_,h5⟩;have all:∀{l} {m},KT H l m->∀x∈m,(tupleKind<|cH P w).is h x.1 x.2.1:=by
  intro l m q
  induction q with
  | nil=>intro x hx;exact nomatch hx
  | @cons p q ps qs hq t ih=>
   intro x hx;rcases Qq8.mp hx with e|hx
   ·subst e;exact Ml ok (by rw[<-hq.1];exact hq.2.1)
   ·exact ih x hx
 exact all r x hx
theorem amX(ok:xZ P w H h)(e:H a=some (.dT kvs)):kvs.length<=sizeLine/\(a == sysModules)=false/\
  ∃xs,KT H kvs xs/\h.DictOfH (tupleKind (cH P w)) a xs:=V7 ok<|.inl e
end
def YX(H:Hp)(a:Addr)(y:V)(r:Option V):Prop:=
 (∃kvs k,Rd H a (.dK kvs)/\y=kV k/\r=wG kvs k)\/∃kvs k b,Rd H a (.dT kvs)/\y = .ref b/\H b=some (.tup (k.map kV))/\r=wG kvs k
def acG(H:Hp)(a:Addr)(y v:V)(H':Hp):Prop:=
 (∃kvs k,H a=some (.dK kvs)/\y=kV k/\kvs.length<sizeLine/\H'=upd H a (.dK (putK kvs k v)))\/
 ∃kvs k b,H a=some (.dT kvs)/\y = .ref b/\H b=some (.tup (k.map kV))/\kvs.length<sizeLine/\H'=upd H a (.dT (putK kvs k v))
theorem acG.k{k:Key}(e:H a=some (.dK kvs))(hl:kvs.length<sizeLine):acG H a (kV k) v (upd H a (.dK (putK kvs k v))):=.inl ⟨kvs,k,e,rfl,hl,rfl⟩
section
variable{X:Cx}{pins:List (Addr×Obj)}{σ:St}{H:Hp}{s:Shared}{a:Addr}{y v:V}{u r:Value}{o:Option V}{A:Around}{E:Value->Shared->Prop}
theorem Inv.big(I:Inv X pins σ H s):sysModules<s.heap.objs.size:=by have h:=(I.mod.glob.keeps I.bk).lt;exact Nat.lt_trans (by decide) h
theorem Yq(hu:A.units+1<cLine)(I:Inv X pins σ H s)(g:YX H a y (some v))(ry:RelV y u)(h:∀w' s',Inv X pins σ H s'->RelV v w'->Q w' s') :
  wpAny (model X.prog X.w) A (getItem (.ref a) u) Q E s:=by
 rcases g with ⟨kvs,k,e,ey,l⟩|⟨kvs,k,b,e,ey,eb,l⟩
 ·subst ey;obtain⟨z,hd,vs,rel,dd⟩:=QT I.hok e;obtain⟨w',hw,rw'⟩:=Hn.some_of (by rw[l];exact rel.val k);exact wpAny_getItem_of (xg ry) dd.mapOf hw<|h w' _ (I.tok _) rw'
 ·subst ey;cases ry;obtain⟨z,hd,xs,rel,dd⟩:=V7 I.hok e;obtain⟨w',hw,rw'⟩:=Hn.some_of (by rw[l];exact rel.val k);obtain⟨p,hp,hp2⟩:=Qww.mp hw;refine wpAny_getItem_heap (tupleKind_room_in1 hu) (Ml I.hok eb) dd hp ?_;rw[hp2];exact h w' _ (I.tok _) rw'
theorem ao9(hu:A.units+1<cLine)(I:Inv X pins σ H s)(g:YX H a y o)(ry:RelV y u)(h:∀s',Inv X pins σ H s'->Q (.bool o.isSome) s') :
  wpAny (model X.prog X.w) A (compareOp .In u (.ref a)) Q E s:=by
 rcases g with ⟨kvs,k,e,ey,l⟩|⟨kvs,k,b,e,ey,eb,l⟩
 ·subst ey;obtain⟨z,hd,vs,rel,dd⟩:=QT I.hok e;refine wpAny_in_of (xg ry) hd dd.mapOf ?_;rw[<-(rel.val k).za,<-l];exact h _<|I.tok _
 ·subst ey;cases ry;obtain⟨z,hd,xs,rel,dd⟩:=V7 I.hok e;refine wpAny_in_heap (tupleKind_room_in1 hu) (Ml I.hok eb) hd dd ?_;have q:=(rel.val k).za;rw[Option.isSome_map] at q;rw[<-q,<-l];exact h _<|I.tok _
theorem V9(I:Inv X pins σ H s)(mu:Mut (H a))(hs:Heap.SameBut a s.heap h')(he:∃q,h'.get? a=some q)(new:iV X.prog X.w (upd H a ob) h' a ob) :
  Inv X pins σ (upd H a ob) { s with heap:=h',toks:=t' }:=
 I.write mu (.inl rfl) (λb q hb z=>(hs.2 b hb).trans z) he new
theorem ajC(z:kvs.length<=sizeLine)(hd:(a == sysModules)=false)(rel:KV kvs vs)(dd:h'.DictOf (cH P w) a vs) :
  iV P w H' h' a (.dK kvs):=⟨z,hd,vs,rel,dd⟩
theorem Yp(hu:A.units+1<cLine)(I:Inv X pins σ H s)(g:acG H a y v H')(ry:RelV y u)(rv:RelV v r)(h:∀s',Inv X pins σ H' s'->Q () s') :
  wpAny (model X.prog X.w) A (setItem (.ref a) u r) Q E s:=by
 rcases g with ⟨kvs,k,e,ey,l,eH⟩|⟨kvs,k,b,e,ey,eb,l,eH⟩
 ·subst ey eH;obtain⟨z,hd,vs,rel,dd⟩:=amY I.hok e;have hz:vs.length<=sizeLine:=by rw[<-rel.length];exact z
  have hl:(putK kvs k v).length<=sizeLine:=by have:=tH kvs k v;omega
  refine wpAny_setItem_pairs (xg ry) dd λh' dd' hs=>h _ ?_;have he:∃q,h'.get? a=some q:=let ⟨q,_,_,hq,_⟩:=dd';⟨q,hq⟩
  exact V9 I (by rw[e];exact True.intro) hs he<|ajC hl hd (rel.put k rv) dd'
 ·subst ey eH;cases ry;obtain⟨z,hd,xs,rel,dd⟩:=amX I.hok e;have hz:xs.length<=sizeLine:=by rw[<-Paired.length rel];exact z
  have hl:(putK kvs k v).length<=sizeLine:=by have:=tH kvs k v;omega
  refine wpAny_setItem_heap (tupleKind_room_in1 hu) (Ml I.hok eb) dd λh' dd' hs=>h _ ?_;obtain⟨q,es,ep,hq,h2,h3,h4,_,h5⟩:=dd';refine V9 I (by rw[e];exact True.intro) hs ⟨q,hq⟩ ⟨hl,hd,_,(rel.put k eb rv).keeps λc ys ec=>?_,q,es,ep,hq,h2,h3,h4,h5⟩;rw[cz (alJ ec e<|λz=>nomatch z)];exact ec
end
def acE(i:Expr):Prop:=∀ov iv,subscripted i false ov iv=operate [ov,iv] (getItem ov iv)
theorem U8{T id:String}
  (hl:typeLookup (.type T) "__getitem__" = pure (some (.builtin id))) (hs:acE slice)
  (h:wpAny (model prog w) A (eval value env) (λo s₁=>wpAny (model prog w) A (eval slice env) (λi s₂=>s₂.TypeIs o T/\wpAny (model prog w) A (getItem o i) Q E s₂) E s₁) E s) :
  wpAny (model prog w) A (eval (.Subscript value slice pos) env) Q E s:=by
 refine Subscript_<|Qwy h (λo s₁ h₁=>Qwy h₁ (λi s₂ h₂=>?_) λ_ _ x=>x) λ_ _ x=>x;obtain⟨hT,h₂⟩:=h₂;unfold subscriptTail;refine Qqq ?_;rw[getitemInPython_of_ne hT.not_modules];refine Qqq<|wpAny_specialOf hT hl ?_;have fin:wpAny (model prog w) A (subscripted slice false o i) (λr s₃=>wpAny (model prog w) A (letTemporaryGo value o r >>= λ_=>pure r) Q E s₃) E s₂:=by rw[hs o i];exact wpAny_operating<|Qwy h₂ (λr s₃ h₃=>Qqq<|wpAny_letTemporaryGo<|Qqk h₃) λ_ _ x=>x
 first
  | exact Qqk<|Qqq fin
  | exact Qqq<|Qqk<|Qqq fin
  | exact Qqq fin
theorem QV{σ:St}(I:Inv X pins σ H s)(g:YX H a y o):s.TypeIs (.ref a) "dict":=by
 rcases g with ⟨kvs,k,e,_,_⟩|⟨kvs,k,b,e,_,_,_⟩
 ·obtain⟨_,_,vs,_,dd⟩:=QT I.hok e;exact dd.typeIs
 ·obtain⟨_,_,xs,_,dd⟩:=V7 I.hok e;exact dd.typeIs
def akE(td ty:TE):TE:=λσ H Q=>td σ H λx H1=>ty σ H1 λy H2=>∃a v,x = .ref a/\YX H2 a y (some v)/\Q v H2
def akR(td ty tv:TE):TS:=λD σ H=>tv σ H λv H1=>td σ H1 λx H2=>ty σ H2 λy H3=>∃a H4,x = .ref a/\acG H3 a y v H4/\D.nx σ H4
section
variable{X:Cx}{o i e value:Expr}{pos pos' tpos:Pos}{td ty tv:TE}
theorem adX(hu:X.A.units+1<cLine)(ho:PE X o td)(hi:PE X i ty)(hs:acE i):PE X (.Subscript o i pos) (akE td ty):=by intro pins s σ H Q I h;refine U8 PySem.F.slot_dict_getitem.lookup hs<|fC (ho pins s σ H _ I h) λu s1 ⟨x,H1,I1,rx,q1⟩=>fC (hi pins s1 σ H1 _ I1 q1) λiv s2 ⟨y,H2,I2,ry,a,v,ex,g,q2⟩=>?_;subst ex;obtain rfl:u=Value.ref a:=rx;exact⟨QV I2 g,Yq hu I2 g ry λw' s3 I3 rw'=>⟨v,H2,I3,rw',q2⟩⟩
theorem adL(hu:X.A.units+1<cLine)(ho:PE X o td)(hi:PE X i ty)(hv:PE X value tv)(hs:swapsWith value (some (.Subscript o i pos')) pos.line X.env=pure false) :
  PS X (.Assign [.Subscript o i pos'] value pos) (akR td ty tv):=by
 intro pins s σ H D I h;refine wpAny_Assign_Subscript (fC (hv pins s σ H _ I h) λr s1 ⟨v,H1,I1,rv,q1⟩=>fC (ho pins s1 σ H1 _ I1 q1) λu s2 ⟨x,H2,I2,rx,q2⟩=>fC (hi pins s2 σ H2 _ I2 q2) λiv s3 ⟨y,H3,I3,ry,a,H4,ex,g,q3⟩=>?_) hs;subst ex;obtain rfl:u=Value.ref a:=rx;exact Yp hu I3 g ry rv λs4 I4=>⟨σ,H4,I4,q3⟩
end
theorem acf(h:Heap)(hb:sysModules<h.objs.size):iV P w H (h.push { cls:=.type "dict",data:=.dict #[] }) h.objs.size (.dK []):=
 ⟨Qxx _,Qxj.mpr<|Ne.symm<|Qwv hb,[],.nil,Heap.DictOf.new h⟩
def agG:TE:=λ_ H Q=>∀p,H p=none->Q (.ref p) (upd H p (.dK []))
section
variable{X:Cx}{pos:Pos}
theorem aaN:PE X (.Dict [] [] pos) agG:=λpins s σ H Q I h=>
 wpAny_Dict_empty ⟨.ref s.heap.objs.size,_,I.laid (λ_ _ q=>Qqx _ q) (Qqv _)<|acf s.heap I.big,rfl,h _<|I.hok.fresh<|Qqv _⟩
end
noncomputable def lz(env:Env):List (Str×NameKind)->List (Str×Addr)->List (Str×Addr)
 | [],acc=>acc
 | (n,k)::r,acc=>if k == .free then lz env r ((n,(env.cells.lookup n).getD 0)::acc) else lz env r acc
theorem Fl(f)
  (hf:∀n k cs,f (n,k) cs=if k == .free then (do let a <-cellOf env n;pure (.yield ((n,a)::cs))) else pure (.yield cs)) :
  ∀names acc,(∀n,(n,NameKind.free)∈names->∃c,env.cells.lookup n=some c)->forIn names acc f=pure (lz env names acc)
 | [],acc,_=>by rfl
 | (n,k)::r,acc,h=>by
  have ih:=Fl f hf r;have hr:=λm hm=>h m<|Qqy _ hm;rw[List.forIn_cons,hf];cases hk:k == NameKind.free with
  | true=>
   have hk':k = .free:=by simp_all
   obtain⟨c,hc⟩:=h n (by simp_all);rw[if_pos rfl];unfold cellOf;rw[hc];simp[pure_bind];rw[ih _ hr]
   conv=>rhs;unfold lz
   simp_all
  | false=>
   rw[if_neg (by simp)];simp[pure_bind];rw[ih _ hr]
   conv=>rhs;unfold lz
   simp_all
theorem rz(h:∀n,(n,NameKind.free)∈scope.names->∃c,env.cells.lookup n=some c):closureFor scope env=pure (lz env scope.names []):=by
 simp only[closureFor];rw[Fl _ (λn k cs=>by rfl) _ _ h]
 rfl
theorem xM:∀names acc x c,(∀n,(n,NameKind.free)∈names->∃c,env.cells.lookup n=some c)->
  (∀y d,acc.lookup y=some d->env.cells.lookup y=some d)->(lz env names acc).lookup x=some c->env.cells.lookup x=some c
 | [],acc,x,c,_,ha,h=>ha x c h
 | (n,k)::r,acc,x,c,hn,ha,h=>by
  have hr:=λm hm=>hn m<|Qqy _ hm;unfold lz at h;split at h
  ·rename_i hk;have hk':k = .free:=by simp_all
   obtain⟨d,hd⟩:=hn n (by simp_all);refine xM r _ x c hr (λy e he=>?_) h
   grind
  ·exact xM r acc x c hr ha h
theorem zx:∀names acc x,(acc.lookup x).isSome=true->((lz env names acc).lookup x).isSome=true
 | [],acc,x,h=>h
 | (n,k)::r,acc,x,h=>by
  unfold lz;split
  ·refine zx r _ x ?_
   simp_all
  ·exact zx r acc x h
theorem xK:∀names acc x,(x,NameKind.free)∈names->((lz env names acc).lookup x).isSome=true
 | [],acc,x,h=>nomatch h
 | (n,k)::r,acc,x,h=>by
  unfold lz;rcases Qq8.mp h with e|h
  ·obtain⟨e1,e2⟩:=Prod.mk.inj e;subst e1 e2;rw[if_pos (by rfl)];refine zx r _ x ?_
   simp_all
  ·split
   ·exact xK r _ x h
   ·exact xK r acc x h
theorem iG:∀names n acc,cellsFrom n names acc=cellsFrom n names []++acc
 | [],n,acc=>rfl
 | (x,k)::r,n,acc=>by
  unfold cellsFrom;split
  ·rw[iG r (n+1) ((x,n)::acc),iG r (n+1) [(x,n)],List.append_assoc]
   rfl
  ·exact iG r n acc
theorem pX:∀names n x c,(x,c)∈cellsFrom n names []->(x,NameKind.cell)∈names
 | [],n,x,c,h=>nomatch h
 | (y,k)::r,n,x,c,h=>by
  unfold cellsFrom at h;split at h
  ·rename_i hk;have hk':k = .cell:=by simp_all
   rw[iG] at h;rcases Qw7.mp h with h|h
   ·exact Qqy _<|pX r _ x c h
   simp_all
  ·exact Qqy _<|pX r _ x c h
theorem vU{α:Type}:∀(l m:List (Str×α)) x,(l++m).lookup x=match l.lookup x with|some v=>some v|none=>m.lookup x
 | [],m,x=>rfl
 | (k,v)::r,m,x=>by
  grind
theorem Di{α:Type}:∀(l:List (Str×α)) x,(∀v,(x,v) ∉ l)->l.lookup x=none
 | [],x,_=>rfl
 | (k,v)::r,x,h=>by
  grind
theorem lookup_mem{α:Type}:∀(l:List (Str×α)) x v,l.lookup x=some v->(x,v)∈l
 | [],x,v,h=>nomatch h
 | (k,w)::r,x,v,h=>by
  rw[Qj2] at h;cases e:x == k with
  | true=>
   simp_all
  | false=>
   rw[e] at h;exact Qqy _<|lookup_mem r x v h
theorem iy{α:Type}:∀(l:List (Str×α)) x v,(l.map (·.1)).Nodup->(x,v)∈l->l.lookup x=some v
 | [],x,v,_,h=>nomatch h
 | (k,w)::r,x,v,nd,h=>by
  rw[Qj2];have nd':=Qz3.mp nd;rcases Qq8.mp h with e|h
  ·simp_all
  ·have hne:¬x=k:=λe=>nd'.1 (by simp_all);have hb:(x == k)=false:=by simp_all
   rw[hb];exact iy r x v nd'.2 h
theorem tu
  (hQ:∀h',h'.Ns s.heap.objs.size (λ_=>none)->(∀b o,s.heap.get? b=some o->h'.get? b=some o)->CellsOk h' (s.heap.objs.size+1) (cellsFrom (s.heap.objs.size+1) scope.names [])->
   Q { scope,locals:=s.heap.objs.size,globals,cells:=cellsFrom (s.heap.objs.size+1) scope.names cl,qual,func:=none,code:=outer.code,frame:=outer.frame,builtins:=outer.builtins } { s with heap:=h' }) :
  wpAny M A (newFunctionEnv scope globals cl [] qual none .none (some outer)) Q E s:=by
 simp only[newFunctionEnv,Option.isSome_some,if_true];refine Qqq<|wpAny_alloc ?_;refine Qqq<|wpAny_layCells _ (λname kind cells=>by rfl) _ _ _ _ ?_;have ok:=cellsFrom_ok scope.names (s.heap.push { cls:=.type "dict",data:=.dict #[] }) (s.heap.objs.size+1) [] ⟨λ_ _ hm=>(nomatch hm),List.Pairwise.nil⟩ (by simp_all);rw[Qzq] at ok;rw[show({ s with heap:=s.heap.push { cls:=.type "dict",data:=.dict #[] } }:Shared).heap.objs.size=s.heap.objs.size+1 from Qzq ..];refine Qqq ?_;rw[Qj9];refine Qqk<|Qqk<|hQ _ ?_ ?_ ?_
 ·exact(Heap.Ns.new s.heap<|.type "dict").keeps<|pushCells_keeps _ _
 ·exact λb o e=>pushCells_keeps _ _ b o<|Qqx _ e
 ·exact ok
noncomputable def cxC(X:Cx)(scope:Scope)(N':List Str)(cells:List (Str×Addr))(C:Addr)(s0:Shared)(H0:Hp)(fp:List Addr):Cx:=
 { X with N:=N',s₀:=s0,H₀:=H0,env:=compEnvC scope cells C X.env,outer:=X.stack,stack:=X.stack,ex:=fp,fn:=λx=>decide (scope.names.lookup x=some .cell),pn:=[],xe:=λ_ _=>False }
theorem tD{env:Env}:∀(names:List (Str×NameKind)) x,
  (names.map λ(n,k)=>if (k == NameKind.free&&env.scope.kind == .function&&env.kindOf n == some .cell) then (n,NameKind.cell) else (n,k)).lookup x =
   (names.lookup x).map λk=>if (k == NameKind.free&&env.scope.kind == .function&&env.kindOf x == some .cell) then NameKind.cell else k
 | [],x=>rfl
 | (n,k)::r,x=>by
  show List.lookup x ((if (k == NameKind.free&&env.scope.kind == .function&&env.kindOf n == some .cell)=true then (n,NameKind.cell) else (n,k))::_)=_;cases hx:x == n with
  | true=>
   have e:x=n:=by simpa using hx
   subst e;simp[Qj2,hx,Qj7];split<;>simp[Qj2]
  | false=>
   simp only[Qj2,hx];rw[<-tD r x];split<;>simp[Qj2,hx]
noncomputable def ach(names:List (Str×NameKind)):List Str->List Str->Bool
 | _,[]=>true
 | [],_::_=>false
 | x'::N',x::N=>((names.lookup x').isNone||(x' == x&&names.lookup x' == some .free))&&ach names N' N
theorem Q4:∀{N' N},ach names N' N=true->∀i x,i<N.length->N'[i]? = some x->(names.lookup x).isSome=true->N[i]? = some x/\names.lookup x=some .free
 | _,[],_,i,x,h,_,_=>absurd h<|Nat.not_lt_zero _
 | [],_::_,h,_,_,_,_,_=>by cases h
 | x'::N',y::N,h,i,x,hi,e,hs=>by
  unfold ach at h;have h1:=(Qjw.mp h).1;have h2:=(Qjw.mp h).2;cases i with
  | zero=>
   have e':x'=x:=by simpa using e
   subst e';rcases Bool.or_eq_true_iff.mp h1 with q|q
   ·cases z:names.lookup x' with
    | none=>simp_all
    | some k=>simp_all
   grind
  | succ i=>exact Q4 h2 i x (by simp_all) (by simpa using e) hs
structure ji(X:Cx)(scope:Scope)(N':List Str):Prop where
 kind:scope.kind = .function
 nd:(scope.names.map (·.1)).Nodup
 free:∀x∈scope.names,x.2 = .free->X.env.kindOf x.1=some .cell\/X.env.kindOf x.1=some .free
 chk:ach scope.names N' X.N=true
 len:X.N.length<=N'.length
def PIf(X:Cx)(ifs:List Expr)(t:TT):Prop:=
 ∀(pins:List (Addr×Obj)) (s:Shared) (σ:St) (H:Hp) (Q:Bool->Hp->Prop),Inv X pins σ H s->t σ H Q->
  wpAny (model X.prog X.w) X.A (forIn ifs true λc r=>if r=true then do let ok <-isTrue c X.env (eval c X.env);pure (ForInStep.yield ok) else pure (ForInStep.yield r)) (TP X pins σ Q) X.xe s
theorem adR:PIf X [] (λ_ H Q=>Q true H):=λpins s σ H Q I h=>by
 rw[Qj9];exact Qqk ⟨H,I,h⟩
theorem adQ(h:PT X c t):PIf X [c] t:=λpins s σ H Q I hw=>by
 rw[List.forIn_cons,if_pos rfl];refine Qqq<|Qqq<|fC (h pins s σ H Q I hw) λb s' q=>?_;refine Qqk ?_;show wpAny _ _ (forIn [] b _) _ _ _;rw[Qj9];exact Qqk q
noncomputable def qx(n:Nat)(σ:St):St:=σ++List.replicate n none
def tLC(n:Nat)(wi:TI)(g:TG)(tc:TT)(te:TE):TE:=λσ H Q=>wi σ H λJ H1=>∀d,H1 d=none->∃W:Nat->Nat->St->Hp->Prop,(∃m,W 0 m (qx (n - σ.length) σ) (upd H1 d (.lst [])))/\∀i m σ' H',W i m σ' H'->
 (J.stop i H'/\Q (.ref d) H')\/(J.go i H'/\∃N:St->Hp->Prop,(∀σ2 H2,N σ2 H2->∃m',m'<m/\W (i+1) m' σ2 H2)/\∀x H2,J.Zh i H' x H2->g x σ' H2 λσ3 H3=>tc σ3 H3 λb H4=>
  if b=true then te σ3 H4 λy H5=>∃ys,H5 d=some (.lst ys)/\ys.length<sizeLine/\N σ3 (upd H5 d (.lst (ys++[y]))) else N σ3 H4)
section
variable{prog:Program}{w:World}{A:Around}{R:Result->Shared->Prop}{s:Shared}
theorem MF(I:Nat->Shared->Prop)
  (turn:∀n s,I n s->wpAny (model prog w) A (pyNext it) (λr s₁=>match r with
   | none=>R (.ok .next) s₁
   | some v=>wpAny (model prog w) A (letOwnedTupleGo target it v) (λ_ s₁'=>wpAny (model prog w) A (assign target env v) (λ_ s₂=>
     wpAny (model prog w) A (forIn ifs true λc r=>if r=true then do let ok <-isTrue c env (eval c env);pure (ForInStep.yield ok) else pure (ForInStep.yield r)) (λok s₃=>
      if ok=true then wpAny (model prog w) A (eval elt env) (λx s₄=>
       wpAny (model prog w) A (call (.builtin "list.append") [acc,x]) (λ_ s₅=>∃m,m<n/\I m s₅) (λ_ _=>False) s₄) (λ_ _=>False) s₃
      else ∃m,m<n/\I m s₃) (λ_ _=>False) s₂) (λ_ _=>False) s₁') (λ_ _=>False) s₁) (λ_ _=>False) s)
  (n) (h:I n s) :
  codeAny (model prog w) A (.compLoop (.ListComp elt [⟨target,iter,ifs,0⟩] scope pos) 0 it acc env) R s:=by
 refine codeAny_loop rfl I (λn s hI=>?_) n h;show wpAny _ A ((compTurn (.ListComp elt [⟨target,iter,ifs,0⟩] scope pos) 0 it acc env).onRaise<|λx=>do noteFrame x env;theTreesLotGoes x) _ _ s;refine wpAny_noted ?_;rw[compTurn_list];refine Qqq<|Qz0<|Qqq<|Qwy (turn n s hI) (λr s₁ h₁=>?_) λ_ _ h'=>h'.elim;cases r with
 | none=>exact Qqk h₁
 | some v=>
  refine Qqq<|Qwy h₁ (λ_ s₁' h₁'=>?_) λ_ _ h'=>h'.elim;refine Qqq<|Qwy h₁' (λ_ s₂ h₂=>Qqq<|Qwy h₂ (λok s₃ h₃=>?_) λ_ _ h'=>h'.elim) λ_ _ h'=>h'.elim;cases ok with
  | false=>exact Qqk ⟨rfl,h₃⟩
  | true=>
   exact Qqq<|Qqq<|Qwy h₃ (λx s₄ h₄=>Qqq<|Qwy h₄ (λ_ s₅ h₅=>Qqk<|Qqk ⟨rfl,h₅⟩) λ_ _ h'=>h'.elim) λ_ _ h'=>h'.elim
end
theorem Dz{σ:St}{fp:List Addr}(ok:ji X scope N')(I:Inv X pins σ H s)(hf:∀b∈fp,o8 X pins H b)(hlt:∀b∈fp,b<s.heap.objs.size)
  (hn:h'.Ns s.heap.objs.size (λ_=>none)) (hk:∀b o,s.heap.get? b=some o->h'.get? b=some o) (co:CellsOk h' (s.heap.objs.size+1) (cellsFrom (s.heap.objs.size+1) scope.names [])) :
  Inv (cxC X scope N' (cellsFrom (s.heap.objs.size+1) scope.names (lz X.env scope.names [])) s.heap.objs.size s H fp) [] (qx (N'.length - σ.length) σ) H { s with heap:=h' }:=by
 have hfree:∀n,(n,NameKind.free)∈scope.names->∃c,X.env.cells.lookup n=some c:=λn hm=>I.ok.has n<|ok.free _ hm rfl
 -- the cells by name
 have rA:∀x c,(cellsFrom (s.heap.objs.size+1) scope.names<|lz X.env scope.names []).lookup x=some c->
   ((x,c)∈cellsFrom (s.heap.objs.size+1) scope.names []/\(cellsFrom (s.heap.objs.size+1) scope.names []).lookup x=some c)\/((cellsFrom (s.heap.objs.size+1) scope.names []).lookup x=none/\X.env.cells.lookup x=some c):=λx c e=>by
  rw[iG,vU] at e;cases q:(cellsFrom (s.heap.objs.size+1) scope.names []).lookup x with
  | some d=>rw[q] at e;cases e;exact .inl ⟨lookup_mem _ _ _ q,rfl⟩
  | none=>rw[q] at e;exact .inr ⟨rfl,xM _ _ x c hfree (λy d h=>by simp at h) e⟩
 have CV:=λx c h=>(co.empty x c h).2;have aaS:=λx c h=>let ⟨v,q⟩:=I.cell x c h;q.lt
 have Mj:∀x,(relabel scope X.env).names.lookup x=(scope.names.lookup x).map λk=>if (k == NameKind.free&&X.env.scope.kind == .function&&X.env.kindOf x == some .cell) then NameKind.cell else k:=λx=>tD _ _
 have Qp:∀x,(x,NameKind.cell)∈scope.names->∃c,(cellsFrom (s.heap.objs.size+1) scope.names []).lookup x=some c:=λx hx=>by
  have q:=PySem.W.cellsFrom_some scope.names (s.heap.objs.size+1) []<|.inl<|iy _ _ _ ok.nd hx;exact Qw8.mp q
 have fpC:∀b∈fp,∀x c,(cellsFrom (s.heap.objs.size+1) scope.names<|lz X.env scope.names []).lookup x=some c->c≠b:=λb hb x c e=>by
  rcases rA x c e with ⟨h1,_⟩|⟨_,h2⟩
  ·have h3:=CV x c h1;have h4:=hlt b hb;rintro rfl;exact absurd (Qwk h4<|Qj8 h3)<|Qx6 _
  ·exact(hf b hb).2.2.2.2.1 x c h2
 refine⟨⟨I.ok.mod,ok.kind,I.ok.glob,I.ok.blt,Qqv _,λx y c h1 h2=>?_,λx hx=>?_,λx c hx e=>?_,I.ok.hd,I.ok.frames,.inl rfl,λb hb=>⟨Qwv<|hlt b hb,λx c e=>fpC b hb x c e⟩,I.bs,Qqj I.ok.bsz I.sz,λb o e hb=>?_,λb hb=>?_,I.stack,I.Va⟩,
  rfl,I.bare,Un.kept hk,⟨_,hn,λi x v e1 e2 e3=>?_⟩,λx c e=>?_,I.hok.fresh<|Qqv _,λx c e=>?_,λp hp=>absurd (show p∈([]:List (Addr×Obj)) from hp) (by simp),I.hok.kept hk,?_⟩
 ·-- one name a cell
  rcases rA x c h1 with ⟨p1,_⟩|⟨_,p2⟩
  ·rcases rA y c h2 with ⟨q1,_⟩|⟨_,q2⟩
   ·exact name_of_addr co.apart p1 q1
   ·exact absurd (Qwk (aaS y c q2)<|Qj8<|CV x c p1)<|Qx6 _
  ·rcases rA y c h2 with ⟨q1,_⟩|⟨_,q2⟩
   ·exact absurd (Qwk (aaS x c p2)<|Qj8<|CV y c q1)<|Qx6 _
   ·exact I.ok.inj x y c p2 q2
 ·-- each cell name has one
  show ∃c,(cellsFrom (s.heap.objs.size+1) scope.names<|lz X.env scope.names []).lookup x=some c;have hx:(relabel scope X.env).names.lookup x=some .cell\/(relabel scope X.env).names.lookup x=some .free:=hx;rw[Mj] at hx;cases q:scope.names.lookup x with
  | none=>rw[q] at hx;rcases hx with hx|hx<;>cases hx
  | some k=>
   rw[q] at hx;rw[iG,vU];cases z:(cellsFrom (s.heap.objs.size+1) scope.names []).lookup x with
   | some d=>exact⟨d,rfl⟩
   | none=>
    have hkf:k = .free:=by
     cases k with
     | free=>rfl
     | cell=>obtain⟨c,hc⟩:=Qp x<|lookup_mem _ _ _ q;rw[hc] at z;cases z
     | _=>rcases hx with hx|hx<;>simp at hx
    subst hkf;exact Qw8.mp<|xK _ _ x<|lookup_mem _ _ _ q
 ·-- its own cells are new
  have hx':=Qx8 hx;rcases rA x c e with ⟨p1,_⟩|⟨p1,_⟩
  ·exact Qj8<|CV x c p1
  ·obtain⟨d,hd⟩:=Qp x<|lookup_mem _ _ _ hx';rw[hd] at p1;cases p1
 ·rcases(hf b hb).2.2.2.1 with z|z
  ·exact I.ok.aa4 b o e z
  ·have h1:=Qq0 e;have h2:=I.ok.bsz;exact absurd (Qwk h1<|Qqj h2 z)<|Qx6 _
 ·intro hm;rcases Qq8.mp (I.R6 b hm) with z|z
  ·exact(hf b hb).2.1 z
  ·exact(hf b hb).2.2.1 z
 ·-- the names
  have hiσ:i<σ.length:=by
   by_cases hi:i<σ.length
   ·exact hi
   ·unfold qx at e2;rw[Qjx (by omega),List.getElem?_replicate] at e2;split at e2<;>cases e2
  have e2':σ[i]? = some (some v):=by
   unfold qx at e2
   rwa [Qx3 hiσ] at e2
  have vis:(scope.names.lookup x).isSome=true:=by
   have e3:(relabel scope X.env).names.lookup x=some .local\/(relabel scope X.env).names.lookup x=some .cell\/(relabel scope X.env).names.lookup x=some .free:=e3;rw[Mj] at e3;cases q:scope.names.lookup x with
   | none=>rw[q] at e3;rcases e3 with z|z|z<;>cases z
   | some k=>rfl
  obtain⟨hN,hfr⟩:=Q4 ok.chk i x (by rw[<-I.len];exact hiσ) e1 vis;have hm:=lookup_mem _ _ _ hfr;have hkk:=ok.free _ hm rfl;obtain⟨m,hns,hl⟩:=I.loc;obtain⟨u,ru,lk⟩:=hl i x v hN e2'<|hkk.elim (λz=>.inr<|.inl z) λz=>.inr<|.inr z;refine⟨u,ru,.inr ⟨?_,?_⟩⟩
  ·show(relabel scope X.env).names.lookup x=some .cell\/(relabel scope X.env).names.lookup x=some .free;rw[Mj,hfr];by_cases hc:(NameKind.free == NameKind.free&&X.env.scope.kind == .function&&X.env.kindOf x == some .cell)=true
   ·left;rw[Qj7,if_pos hc]
   ·right;rw[Qj7,if_neg hc]
  ·rcases lk with ⟨hl1,_⟩|⟨_,c,hc,hcell⟩
   ·rcases hkk with z|z<;>(rw[z] at hl1;cases hl1)
   ·refine⟨c,?_,hcell.keeps hk⟩;show(cellsFrom (s.heap.objs.size+1) scope.names<|lz X.env scope.names []).lookup x=some c;rw[iG,vU];have hno:(cellsFrom (s.heap.objs.size+1) scope.names []).lookup x=none:=Di _ _ λd hd=>by
     have h1:=iy _ _ _ ok.nd<|pX _ _ _ _ hd;rw[hfr] at h1;cases h1
    rw[hno];obtain⟨d,hd⟩:=Qw8.mp<|xK scope.names [] x hm;have h2:=xM _ _ x d hfree (λy d h=>by simp at h) hd;rw[hc] at h2;show(lz X.env scope.names []).lookup x=some c;rw[hd,h2]
 ·rcases rA x c e with ⟨p1,_⟩|⟨_,p2⟩
  ·exact⟨_,(co.empty x c p1).1⟩
  ·obtain⟨v,q⟩:=I.cell x c p2;exact⟨v,q.keeps hk⟩
 ·rcases rA x c e with ⟨p1,_⟩|⟨p0,p2⟩
  ·exact .inl<|I.hok.fresh<|Qj8<|CV x c p1
  ·rcases I.xD x c p2 with z|⟨_,z⟩
   ·exact .inl z
   ·refine .inr ⟨?_,z⟩;show decide (scope.names.lookup x=some .cell)=false;refine Qwj λq=>?_;obtain⟨d,hd⟩:=Fo q;rw[p0] at hd;cases hd
 ·show(qx (N'.length - σ.length) σ).length=N'.length;unfold qx;rw[Qq1,Qw5];have h1:=ok.len;have h2:=I.len;omega
abbrev dH(X:Cx)(scope:Scope)(N':List Str)(X':Cx):Prop:=
 ∃(cells:List (Str×Addr)) (C:Addr) (s0:Shared) (H0:{ H:Hp // ∀b qs,X.H₀ b=some (.tab qs)->H b=some (.tab qs) }) (fp:List Addr),X'=cxC X scope N' cells C s0 H0.1 fp
theorem JQ
  (ok:ji X scope N') (hc:X.calm=true)
  (bg:∀X',dH X scope N' X'->PG X' tg g) (bc:∀X',dH X scope N' X'->PIf X' ifs tc) (be:∀X',dH X scope N' X'->PE X' elt te)
  {σ:St} {Q:VK} (I2:Inv X pins σ H2 s2) (T:Turn X.prog X.w X.K tg J fp it tn) (st2:tn 0 s2.heap) (f2:∀b∈fp,o8 X pins H2 b)
  (q:∀d,H2 d=none->∃W:Nat->Nat->St->Hp->Prop,(∃m,W 0 m (qx (N'.length - σ.length) σ) (upd H2 d (.lst [])))/\∀i m σ' H',W i m σ' H'->
   (J.stop i H'/\Q (.ref d) H')\/(J.go i H'/\∃N:St->Hp->Prop,(∀σ2 H2,N σ2 H2->∃m',m'<m/\W (i+1) m' σ2 H2)/\∀x H2,J.Zh i H' x H2->g x σ' H2 λσ3 H3=>tc σ3 H3 λb H4=>
    if b=true then te σ3 H4 λy H5=>∃ys,H5 d=some (.lst ys)/\ys.length<sizeLine/\N σ3 (upd H5 d (.lst (ys++[y]))) else N σ3 H4))
  (fin:∀d C m s' H',Inv X pins σ H' s'->Q (.ref d) H'->s'.heap.Ns C m->H' C=none->C≠X.env.locals->X.s₀.heap.objs.size<=C->(∀x c,X.env.cells.lookup x=some c->c≠C)->(∀p∈X.pn++pins,p.1≠C)->
   compPost (model X.prog X.w) X.A X.xe use QQ (.ref d) C (.ok .next) s') :
  wpAny (model X.prog X.w) X.A (newList []) (λacc s₃=>wpAny (model X.prog X.w) X.A (newFunctionEnv scope X.env.globals (lz X.env scope.names []) [] X.env.qual none .none (some X.env)) (λcenv s₄=>
   codeAny (model X.prog X.w) X.A (.compStart (.ListComp elt [⟨tg,iter,ifs,0⟩] scope pos) 0 (.ref it) acc { cenv with scope:=relabel scope X.env }) (compPost (model X.prog X.w) X.A X.xe use QQ acc cenv.locals) s₄) X.xe s₃) X.xe s2:=by
 have hd2:=I2.fresh;refine Qzy<|tu λh' hns hkeep hco=>?_
 -- the state behind the list
 obtain⟨W,⟨m0,w0⟩,turn⟩:=q s2.heap.objs.size hd2;have I3:Inv X pins σ (upd H2 s2.heap.objs.size<|.lst []) { s2 with heap:=s2.heap.push { cls:=.type "list",data:=.seq ([]:List Value).toArray } }:=I2.ah4 .nil<|Qxx _;have Y5:∀b∈fp,b<s2.heap.objs.size:=λb hb=>by
  obtain⟨o,e,_⟩:=T.obj _ _ st2 b hb;exact Qq0 e
 have f3:∀b∈fp,o8 X pins (upd H2 s2.heap.objs.size<|.lst []) b:=λb hb=>by
  refine⟨?_,(f2 b hb).2⟩;rw[cz (Qwv<|Y5 b hb)];exact(f2 b hb).1
 have lt3:∀b∈fp,b<({ s2 with heap:=s2.heap.push { cls:=.type "list",data:=.seq ([]:List Value).toArray } }:Shared).heap.objs.size:=λb hb=>by
  show b<(s2.heap.push _).objs.size;rw[Qzq];exact Nat.lt_succ_of_lt<|Y5 b hb
 have st3:tn 0 h':=T.keep _ _ _ st2 λb hb o e=>hkeep b o<|Qqx _ e;have I4:=Dz ok I3 f3 lt3 hns hkeep hco;generalize hs3:({ s2 with heap:=s2.heap.push { cls:=.type "list",data:=.seq ([]:List Value).toArray } }:Shared)=s3 at *;have sz3:s3.heap.objs.size=s2.heap.objs.size+1:=by rw[<-hs3];exact Qzq ..
 generalize hX':cxC X scope N' (cellsFrom (s3.heap.objs.size+1) scope.names<|lz X.env scope.names []) s3.heap.objs.size s3 (upd H2 s2.heap.objs.size<|.lst []) fp=X' at I4;have at':dH X scope N' X':=⟨_,_,_,⟨_,I3.base.tabs⟩,_,hX'.symm⟩;have hg:=bg X' at';have hif:=bc X' at';have he:=be X' at';have eP:X'.prog=X.prog:=by rw[<-hX'];rfl
 have eW:X'.w=X.w:=by rw[<-hX'];rfl
 have eK:X'.K=X.K:=by rw[<-hX'];rfl
 have eA:X'.A=X.A:=by rw[<-hX'];rfl
 have eC:X'.calm=true:=by rw[<-hX'];exact hc
 have eX:X'.xe=λ_ _=>False:=by rw[<-hX'];rfl
 have ePn:X'.pn=[]:=by rw[<-hX'];rfl
 have V6:X'.ex=fp:=by rw[<-hX'];rfl
 have eL:X'.env.locals=s3.heap.objs.size:=by rw[<-hX'];rfl
 have eFs:X'.fs=frs X.stack:=by rw[<-hX'];rfl
 have acd:compEnvC scope (cellsFrom (s3.heap.objs.size+1) scope.names<|lz X.env scope.names []) s3.heap.objs.size X.env=X'.env:=by rw[<-hX'];rfl
 have eS0:X'.s₀=s3:=by rw[<-hX'];rfl
 have eH0:X'.H₀=upd H2 s2.heap.objs.size (.lst []):=by rw[<-hX'];rfl
 -- what is true of the iterator's objects in the block
 have stat:∀{H'},(∀b∈fp,H' b=none)->∀b∈fp,o8 X' [] H' b:=λ{H'} hn b hb=>by
  refine⟨hn b hb,?_,?_,.inl (by rw[V6];exact hb),λx c e=>?_,λp hp=>?_⟩
  ·rw[eL];exact Qwv<|lt3 b hb
  ·have:=I4.ok.Ug b (by rw[V6];exact hb);exact this
  ·exact(I4.ok.exf b (by rw[V6];exact hb)).2 x c e
  ·rw[ePn] at hp;exact absurd hp (by simp)
 -- the outer context again
 have back:∀σ' H' s',Inv X' [] σ' H' s'->Inv X pins σ H' s':=λσ' H' s' J'=>by
  have hb:=J'.base;rw[eFs,V6,eS0,eH0] at hb;have hos:=J'.os;rw[eS0] at hos;have hok:=J'.hok;rw[eP,eW] at hok;exact I3.call' hos hb hok J'.bare λb hbm=>⟨(f3 b hbm).2.2.2.1,(f3 b hbm).2.1,(f3 b hbm).2.2.2.2.1,(f3 b hbm).2.2.2.2.2⟩
 have loop:∀s4,s4 = { s3 with heap:=h' }->codeAny (model X.prog X.w) X.A (.compLoop (.ListComp elt [⟨tg,iter,ifs,0⟩] scope pos) 0 (.ref it) (.ref s2.heap.objs.size) X'.env) (compPost (model X.prog X.w) X.A X.xe use QQ (.ref s2.heap.objs.size) s3.heap.objs.size) s4:=by
  rintro s4 rfl;refine MF (λn s'=>∃i σ' H',Inv X' [] σ' H' s'/\tn i s'.heap/\(∀b∈fp,H' b=none)/\W i n σ' H') ?_ m0 ⟨0,_,_,I4,st3,λb hb=>(f3 b hb).1,w0⟩;rintro n s5 ⟨i,σ5,H5,I5,Y4,fr5,w5⟩;rcases turn i n σ5 H5 w5 with ⟨stop,qn⟩|⟨go,N,hN,step⟩
  ·have td:=T.done X' eP eW eK eC i [] s5 σ5 H5 (λ_ _=>False) I5 (stat fr5) Y4 stop;rw[eA] at td;refine fC td λr s6 ⟨hr,I6⟩=>?_;subst hr;obtain⟨mC,hnC,_⟩:=id I6.loc;rw[eL] at hnC;have lc:X.env.locals<s3.heap.objs.size:=by
    have:=I3.lt;exact this
   refine fin _ _ mC s6 H5 (back _ _ _ I6) qn hnC ?_ (Qz5 lc) I3.sz (λx c e=>?_)<|λp hp=>?_
   ·have:=I6.free;rw[eL] at this;exact this
   ·obtain⟨v,z⟩:=I3.cell x c e;exact Qwv z.lt
   ·exact Qwv<|Qq0 (I3.pin p hp).1
  ·have ti:=T.item X' eP eW eK eC i [] s5 σ5 H5 (λ_ _=>False) I5 (stat fr5) Y4 go;rw[eA] at ti;refine fC ti λr s6 ⟨u,hr,h6⟩=>?_;subst hr;refine fC h6 λ_ s7 ⟨x,H7,I7,r7,y7,ZX,fr7⟩=>?_;have I7':=I7.pinned (stat fr7)<|T.obj _ _ ZX;have hg':=hg _ s7 σ5 H7 x u _ I7' r7<|step x H7 y7;rw[eP,eW,eA,eX] at hg';refine fC hg' λ_ s8 ⟨σ8,H8,I8,q8⟩=>?_;have Qo:=hif _ s8 σ8 H8 _ I8 q8;rw[eP,eW,eA,eX] at Qo;refine fC Qo λb s9 ⟨H9,I9,q9⟩=>?_;have again:∀{σz} {Hz} {sz},Inv X' ([]++nH fp s7.heap) σz Hz sz->N σz Hz->∃m,m<n/\∃i σ' H',Inv X' [] σ' H' sz/\tn i sz.heap/\(∀b∈fp,H' b=none)/\W i m σ' H':=λ{σz Hz sz} Iz nz=>by
    obtain⟨m',hm,wz⟩:=hN σz Hz nz;refine⟨m',hm,i+1,σz,Hz,Iz.oK,T.keep _ _ _ ZX λb hb o e=>(Iz.pin (b,o)<|Qq7 _<|Qq7 _<|iw hb e).1,λb hb=>?_,wz⟩;obtain⟨o,e,d⟩:=T.obj _ _ ZX b hb;exact(Iz.pin (b,o)<|Qq7 _<|Qq7 _<|iw hb e).2.1
   cases b with
   | false=>
    rw[if_neg Qwx] at q9 ⊢;exact again I9 q9
   | true=>
    rw[if_pos rfl] at q9 ⊢;have he':=he _ s9 σ8 H9 _ I9 q9;rw[eP,eW,eA,eX] at he';refine fC he' λy sa ⟨yv,Ha,Ia,ra,ys,hys,hlen,qa⟩=>?_;have ap:=yQ _ sa σ8 Ha (.ref s2.heap.objs.size) [yv] (.ref s2.heap.objs.size) [y] (λv H'=>v = .non/\N σ8 H') Ia rfl (.cons ra .nil) ⟨_,ys,yv,rfl,rfl,hys,hlen,rfl,qa⟩;rw[eP,eW,eA,eX] at ap;refine fC ap λ_ sb ⟨vb,Hb,Ib,rb,_,nb⟩=>?_;exact again Ib nb
 show codeAny _ _ (.compStart _ 0 (.ref it) (.ref s2.heap.objs.size)<|compEnvC scope (cellsFrom (s3.heap.objs.size+1) scope.names<|lz X.env scope.names []) s3.heap.objs.size X.env) (compPost (model X.prog X.w) X.A X.xe use QQ (.ref s2.heap.objs.size) s3.heap.objs.size) _;rw[acd];exact codeAny_compStart_list (loop _ rfl)<|T.self X.A 0 _ _ _ st3<|loop _ rfl
theorem alm
  (ok:ji X scope N') (hc:X.calm=true) (hi:PI X tg iter wi)
  (bg:∀X',dH X scope N' X'->PG X' tg g) (bc:∀X',dH X scope N' X'->PIf X' ifs tc) (be:∀X',dH X scope N' X'->PE X' elt te)
  (hs:∀x,foldedSetIterable iter X.env x=pure x:=by intro _;rfl) :
  PE X (.ListComp elt [⟨tg,iter,ifs,0⟩] scope pos) (tLC N'.length wi g tc te):=by
 intro pins s σ H Q I h;rw[eval_ListComp];have hfree:∀n,(n,NameKind.free)∈scope.names->∃c,X.env.cells.lookup n=some c:=λn hm=>I.ok.has n<|ok.free _ hm rfl;refine wpAny_comprehension_free rfl hs (rz hfree) ok.kind (λx hx hl=>iy _ _ _ ok.nd (by grind)) ?_;refine fC (hi pins s σ H _ I h) λv s1 h1=>fC h1 λitv s2 h2=>?_;obtain⟨it,fp,tn,J,H2,e,I2,T,st2,f2,q⟩:=h2;subst e;refine JQ ok hc bg bc be I2 T st2 f2 q λd C m s' H' I' hq hn hC hL h0 hcell hpin=>?_;refine⟨m,hn,λh' hs'=>?_⟩;have I'':Inv X pins σ H' { s' with heap:=h',toks:=s'.toks }:=I'.turned (λb o hb e=>(hs'.2 b hb).trans e) hC hL (.inr h0) hcell hpin;exact⟨.ref d,H',I'',rfl,hq⟩
theorem aaC{pos spos py:Pos}
  (ok:ji X scope N') (hc:X.calm=true) (hi:PI X tg iter wi)
  (bg:∀X',dH X scope N' X'->PG X' tg g) (bc:∀X',dH X scope N' X'->PIf X' ifs tc) (be:∀X',dH X scope N' X'->PE X' elt te)
  (hN:X.N.Nodup) (hy:X.N[i]? = some y) (hx:Loc X.env.scope y)
  (hsw:swapsWith (.ListComp elt [⟨tg,iter,ifs,0⟩] scope pos) (some (.Name y py)) spos.line X.env=pure true)
  (hf:X.fn y=true\/X.env.scope.names.lookup y=some .local:=by first|exact .inl rfl|exact .inr rfl|assumption)
  (hs:∀x,foldedSetIterable iter X.env x=pure x:=by intro _;rfl) :
  PS X (.Assign [.Name y py] (.ListComp elt [⟨tg,iter,ifs,0⟩] scope pos) spos) (ZR (tLC N'.length wi g tc te) (zV i)):=by
 intro pins s σ H D I h;rw[exec_Assign_Name_used _ _ _ _ hsw];refine Qqq<|Qz0<|Qqq ?_;have hfree:∀n,(n,NameKind.free)∈scope.names->∃c,X.env.cells.lookup n=some c:=λn hm=>I.ok.has n<|ok.free _ hm rfl;show wpAny _ X.A (do let _ <-comprehension (.ListComp elt [⟨tg,iter,ifs,0⟩] scope pos) scope X.env _ (newList []) false (eval iter X.env) (some<|assign (.Name y py) X.env)) _ _ s;refine Qqq<|Qwy (wpAny_comprehension_free rfl hs (rz hfree) ok.kind (λx hx hl=>iy _ _ _ ok.nd (by rw[<-hl];exact hx)) ?_) (λ_ s' hq=>Qqk<|Qqk hq) λ_ _ e=>e;refine fC (hi pins s σ H _ I h) λv s1 h1=>fC h1 λitv s2 h2=>?_;obtain⟨it,fp,tn,J,H2,e,I2,T,st2,f2,q⟩:=h2;subst e;refine JQ (Q:=λx H1=>zV i x σ H1 D.nx) ok hc bg bc be I2 T st2 f2 q λd C m s' H' I' hq hn hC hL h0 hcell hpin=>?_;refine wpAny_assign_Name<|yl (v:=.ref d) I' hN hy hx rfl (λs'' I'' sb=>?_) hf;obtain⟨a,hsb,ha⟩:=sb;have haC:C≠a:=by
  rcases ha with z|z
  ·rw[z];exact hL
  ·exact(hcell y a z).symm
 refine⟨m,hn.sameBut hsb haC,λh' hs'=>?_⟩;have I3:Inv X pins (σ.set i<|some<|.ref d) H' { s'' with heap:=h',toks:=s''.toks }:=I''.turned (λb o hb e=>(hs'.2 b hb).trans e) hC hL (.inr h0) hcell hpin;exact⟨_,H',I3,hq⟩
def anj(J2:It)(g2:TG)(tc:TT)(te:TE)(d:Addr)(N:St->Hp->Prop)(σ3:St)(H4:Hp):Prop:=
 ∃W2:Nat->Nat->St->Hp->Prop,(∃m,W2 0 m σ3 H4)/\∀i2 m2 σ5 H5,W2 i2 m2 σ5 H5->(J2.stop i2 H5/\N σ5 H5)\/(J2.go i2 H5/\∃N2:St->Hp->Prop,(∀σ6 H6,N2 σ6 H6->∃m',m'<m2/\W2 (i2+1) m' σ6 H6)/\∀y H6,J2.Zh i2 H5 y H6->g2 y σ5 H6 λσ7 H7=>tc σ7 H7 λb H8=>
  if b=true then te σ7 H8 λv H9=>∃ys,H9 d=some (.lst ys)/\ys.length<sizeLine/\N2 σ7 (upd H9 d (.lst (ys++[v]))) else N2 σ7 H8)
def akC(n:Nat)(wi:TI)(g:TG)(wi2:TI)(g2:TG)(tc:TT)(te:TE):TE:=λσ H Q=>wi σ H λJ H1=>∀d,H1 d=none->∃W:Nat->Nat->St->Hp->Prop,(∃m,W 0 m (qx (n - σ.length) σ) (upd H1 d (.lst [])))/\∀i m σ' H',W i m σ' H'->
 (J.stop i H'/\Q (.ref d) H')\/(J.go i H'/\∃N:St->Hp->Prop,(∀σ2 H2,N σ2 H2->∃m',m'<m/\W (i+1) m' σ2 H2)/\∀x H2,J.Zh i H' x H2->g x σ' H2 λσ3 H3=>wi2 σ3 H3 λJ2 H4=>anj J2 g2 tc te d N σ3 H4)
section
variable{prog:Program}{w:World}{A:Around}{R:Result->Shared->Prop}{s:Shared}{elt tg iter qG dI:Expr}{ifs:List Expr}{scope:Scope}{pos:Pos}{it acc:Value}{env:Env}
theorem ac6:compTurn (.ListComp elt [⟨tg,iter,[],0⟩,⟨qG,dI,ifs,0⟩] scope pos) 0 it acc env=(do
   standAt iter.pos
   match <-pyNext it with
   | none=>pure (.done .next)
   | some v=>
    letOwnedTupleGo tg it v
    assign tg env v
    let x <-eval dI env
    standAt dI.pos
    let x <-foldedSetIterable dI env x
    let _ <-runOwn (.compStart (.ListComp elt [⟨tg,iter,[],0⟩,⟨qG,dI,ifs,0⟩] scope pos) 1 (<-holding [x] (pyIter x)) acc env) env
    again (.compLoop (.ListComp elt [⟨tg,iter,[],0⟩,⟨qG,dI,ifs,0⟩] scope pos) 0 it acc env)):=by rfl
theorem ac5:compTurn (.ListComp elt [⟨tg,iter,[],0⟩,⟨qG,dI,ifs,0⟩] scope pos) 1 it acc env=(do
   standAt dI.pos
   match <-pyNext it with
   | none=>pure (.done .next)
   | some v=>
    letOwnedTupleGo qG it v
    assign qG env v
    let mut ok:=true
    for c in ifs do
     if ok then ok <-isTrue c env (eval c env)
    if ok then
     (do let _ <-call (.builtin "list.append") [acc,<-eval elt env])
    again (.compLoop (.ListComp elt [⟨tg,iter,[],0⟩,⟨qG,dI,ifs,0⟩] scope pos) 1 it acc env)):=by rfl
theorem MJ(I:Nat->Shared->Prop)
  (turn:∀n s,I n s->wpAny (model prog w) A (pyNext it) (λr s₁=>match r with
   | none=>R (.ok .next) s₁
   | some v=>wpAny (model prog w) A (letOwnedTupleGo qG it v) (λ_ s₁'=>wpAny (model prog w) A (assign qG env v) (λ_ s₂=>
     wpAny (model prog w) A (forIn ifs true λc r=>if r=true then do let ok <-isTrue c env (eval c env);pure (ForInStep.yield ok) else pure (ForInStep.yield r)) (λok s₃=>
      if ok=true then wpAny (model prog w) A (eval elt env) (λx s₄=>
       wpAny (model prog w) A (call (.builtin "list.append") [acc,x]) (λ_ s₅=>∃m,m<n/\I m s₅) (λ_ _=>False) s₄) (λ_ _=>False) s₃
      else ∃m,m<n/\I m s₃) (λ_ _=>False) s₂) (λ_ _=>False) s₁') (λ_ _=>False) s₁) (λ_ _=>False) s)
  (n) (h:I n s) :
  codeAny (model prog w) A (.compLoop (.ListComp elt [⟨tg,iter,[],0⟩,⟨qG,dI,ifs,0⟩] scope pos) 1 it acc env) R s:=by
 refine codeAny_loop rfl I (λn s hI=>?_) n h;show wpAny _ A ((compTurn (.ListComp elt [⟨tg,iter,[],0⟩,⟨qG,dI,ifs,0⟩] scope pos) 1 it acc env).onRaise<|λx=>do noteFrame x env;theTreesLotGoes x) _ _ s;refine wpAny_noted ?_;rw[ac5];refine Qqq<|Qz0<|Qqq<|Qwy (turn n s hI) (λr s₁ h₁=>?_) λ_ _ h'=>h'.elim;cases r with
 | none=>exact Qqk h₁
 | some v=>
  refine Qqq<|Qwy h₁ (λ_ s₁' h₁'=>?_) λ_ _ h'=>h'.elim;refine Qqq<|Qwy h₁' (λ_ s₂ h₂=>Qqq<|Qwy h₂ (λok s₃ h₃=>?_) λ_ _ h'=>h'.elim) λ_ _ h'=>h'.elim;cases ok with
  | false=>exact Qqk ⟨rfl,h₃⟩
  | true=>
   exact Qqq<|Qqq<|Qwy h₃ (λx s₄ h₄=>Qqq<|Qwy h₄ (λ_ s₅ h₅=>Qqk<|Qqk ⟨rfl,h₅⟩) λ_ _ h'=>h'.elim) λ_ _ h'=>h'.elim
theorem Hg(hfs:∀x,foldedSetIterable dI env x=pure x)(I:Nat->Shared->Prop)
  (turn:∀n s,I n s->wpAny (model prog w) A (pyNext it) (λr s₁=>match r with
   | none=>R (.ok .next) s₁
   | some v=>wpAny (model prog w) A (letOwnedTupleGo tg it v) (λ_ s₁'=>wpAny (model prog w) A (assign tg env v) (λ_ s₂=>
     wpAny (model prog w) A (eval dI env) (λx s₃=>wpAny (model prog w) A (pyIter x) (λwk s₄=>
      codeAny (model prog w) A (.compStart (.ListComp elt [⟨tg,iter,[],0⟩,⟨qG,dI,ifs,0⟩] scope pos) 1 wk acc env) (λr s'=>match r with|.ok _=>∃m,m<n/\I m s'|.error _=>False) s₄) (λ_ _=>False) s₃) (λ_ _=>False) s₂) (λ_ _=>False) s₁') (λ_ _=>False) s₁) (λ_ _=>False) s)
  (n) (h:I n s) :
  codeAny (model prog w) A (.compLoop (.ListComp elt [⟨tg,iter,[],0⟩,⟨qG,dI,ifs,0⟩] scope pos) 0 it acc env) R s:=by
 refine codeAny_loop rfl I (λn s hI=>?_) n h;show wpAny _ A ((compTurn (.ListComp elt [⟨tg,iter,[],0⟩,⟨qG,dI,ifs,0⟩] scope pos) 0 it acc env).onRaise<|λx=>do noteFrame x env;theTreesLotGoes x) _ _ s;refine wpAny_noted ?_;rw[ac6];refine Qqq<|Qz0<|Qqq<|Qwy (turn n s hI) (λr s₁ h₁=>?_) λ_ _ h'=>h'.elim;cases r with
 | none=>exact Qqk h₁
 | some v=>
  refine Qqq<|Qwy h₁ (λ_ s₁' h₁'=>?_) λ_ _ h'=>h'.elim;refine Qqq<|Qwy h₁' (λ_ s₂ h₂=>Qqq<|Qwy h₂ (λx s₃ h₃=>?_) λ_ _ h'=>h'.elim) λ_ _ h'=>h'.elim;refine Qqq<|Qz0<|Qqq ?_;rw[hfs];refine Qqk<|Qqq<|Qjj<|Qwy h₃ (λwk s₄ h₄=>?_) λ_ _ h'=>h'.elim;refine Qqq<|wpAny_runOwn<|codeAny_mono h₄ λr s₅ h₅=>?_;cases r with
  | ok f=>exact Qqk ⟨rfl,h₅⟩
  | error e=>simp_all
theorem Uq(h0:codeAny (model prog w) A (.compLoop (.ListComp elt [⟨tg,iter,[],0⟩,⟨qG,dI,ifs,0⟩] scope pos) 1 it acc env) R s)
  (h:wpAny (model prog w) A (pyIter it) (λit' s'=>codeAny (model prog w) A (.compLoop (.ListComp elt [⟨tg,iter,[],0⟩,⟨qG,dI,ifs,0⟩] scope pos) 1 it' acc env) R s')
   (notedBy (model prog w) A env λx s'=>R (.error x) s') s) :
  codeAny (model prog w) A (.compStart (.ListComp elt [⟨tg,iter,[],0⟩,⟨qG,dI,ifs,0⟩] scope pos) 1 it acc env) R s:=by
 refine codeAny_of_tree ?_;show wpAny _ _ ((compStart (.ListComp elt [⟨tg,iter,[],0⟩,⟨qG,dI,ifs,0⟩] scope pos) 1 it acc env).onRaise<|λx=>do noteFrame x env;standAt theWindowsPlace) _ _ s;refine wpAny_notedAt ?_;unfold compStart;show wpAny _ _ (ask >>= _) _ _ s;refine Qqq<|wpAny_askSetting<|wpAny_ite ?_;split
 ·first|exact Qqq (Qqk<|Qqk<|And.intro rfl h0)|exact Qqk<|And.intro rfl h0
 ·refine Qqq<|wpAny_rule ?_;show wpAny _ _ (standAt dI.pos >>= _) _ _ s;exact Qqq<|Qz0<|Qqq<|Qwy h (λit' s' h'=>Qqk<|And.intro rfl h') λ_ _ x=>x
end
theorem Uo
  (ok:ji X scope N') (hc:X.calm=true)
  (bg:∀X',dH X scope N' X'->PG X' tg g) (bi:∀X',dH X scope N' X'->PI X' qG dI wi2) (bg2:∀X',dH X scope N' X'->PG X' qG g2) (hs2:∀X' x,dH X scope N' X'->foldedSetIterable dI X'.env x=pure x) (bc:∀X',dH X scope N' X'->PIf X' ifs tc) (be:∀X',dH X scope N' X'->PE X' elt te)
  {σ:St} {Q:VK} (I2:Inv X pins σ H2 s2) (T:Turn X.prog X.w X.K tg J fp it tn) (st2:tn 0 s2.heap) (f2:∀b∈fp,o8 X pins H2 b)
  (q:∀d,H2 d=none->∃W:Nat->Nat->St->Hp->Prop,(∃m,W 0 m (qx (N'.length - σ.length) σ) (upd H2 d (.lst [])))/\∀i m σ' H',W i m σ' H'->
   (J.stop i H'/\Q (.ref d) H')\/(J.go i H'/\∃N,(∀σ2 H2,N σ2 H2->∃m',m'<m/\W (i+1) m' σ2 H2)/\∀x H2,J.Zh i H' x H2->g x σ' H2 λσ3 H3=>wi2 σ3 H3 λJ2 H4=>anj J2 g2 tc te d N σ3 H4))
  (fin:∀d C m s' H',Inv X pins σ H' s'->Q (.ref d) H'->s'.heap.Ns C m->H' C=none->C≠X.env.locals->X.s₀.heap.objs.size<=C->(∀x c,X.env.cells.lookup x=some c->c≠C)->(∀p∈X.pn++pins,p.1≠C)->
   compPost (model X.prog X.w) X.A X.xe use QQ (.ref d) C (.ok .next) s') :
  wpAny (model X.prog X.w) X.A (newList []) (λacc s₃=>wpAny (model X.prog X.w) X.A (newFunctionEnv scope X.env.globals (lz X.env scope.names []) [] X.env.qual none .none (some X.env)) (λcenv s₄=>
   codeAny (model X.prog X.w) X.A (.compStart (.ListComp elt [⟨tg,iter,[],0⟩,⟨qG,dI,ifs,0⟩] scope pos) 0 (.ref it) acc { cenv with scope:=relabel scope X.env }) (compPost (model X.prog X.w) X.A X.xe use QQ acc cenv.locals) s₄) X.xe s₃) X.xe s2:=by
 have hd2:=I2.fresh;refine Qzy<|tu λh' hns hkeep hco=>?_
 -- the state behind the list
 obtain⟨W,⟨m0,w0⟩,turn⟩:=q s2.heap.objs.size hd2;have I3:Inv X pins σ (upd H2 s2.heap.objs.size<|.lst []) { s2 with heap:=s2.heap.push { cls:=.type "list",data:=.seq ([]:List Value).toArray } }:=I2.ah4 .nil<|Qxx _;have Y5:∀b∈fp,b<s2.heap.objs.size:=λb hb=>by
  obtain⟨o,e,_⟩:=T.obj _ _ st2 b hb;exact Qq0 e
 have f3:∀b∈fp,o8 X pins (upd H2 s2.heap.objs.size<|.lst []) b:=λb hb=>by
  refine⟨?_,(f2 b hb).2⟩;rw[cz (Qwv<|Y5 b hb)];exact(f2 b hb).1
 have lt3:∀b∈fp,b<({ s2 with heap:=s2.heap.push { cls:=.type "list",data:=.seq ([]:List Value).toArray } }:Shared).heap.objs.size:=λb hb=>by
  show b<(s2.heap.push _).objs.size;rw[Qzq];exact Nat.lt_succ_of_lt<|Y5 b hb
 have st3:=T.keep _ _ _ st2 λb hb o e=>hkeep b o<|Qqx _ e;have I4:=Dz ok I3 f3 lt3 hns hkeep hco;generalize hs3:({ s2 with heap:=s2.heap.push { cls:=.type "list",data:=.seq ([]:List Value).toArray } }:Shared)=s3 at *;have sz3:s3.heap.objs.size=s2.heap.objs.size+1:=by rw[<-hs3];exact Qzq ..
 generalize hX':cxC X scope N' (cellsFrom (s3.heap.objs.size+1) scope.names<|lz X.env scope.names []) s3.heap.objs.size s3 (upd H2 s2.heap.objs.size<|.lst []) fp=X' at I4;have at':dH X scope N' X':=⟨_,_,_,⟨_,I3.base.tabs⟩,_,hX'.symm⟩;have hg:=bg X' at';have hi2:=bi X' at';have hg2:=bg2 X' at';have hfs:∀x,foldedSetIterable dI X'.env x=pure x:=λx=>hs2 X' x at';have hif:=bc X' at';have he:=be X' at';have eP:X'.prog=X.prog:=by rw[<-hX'];rfl
 have eW:X'.w=X.w:=by rw[<-hX'];rfl
 have eK:X'.K=X.K:=by rw[<-hX'];rfl
 have eA:X'.A=X.A:=by rw[<-hX'];rfl
 have eC:X'.calm=true:=by rw[<-hX'];exact hc
 have eX:X'.xe=λ_ _=>False:=by rw[<-hX'];rfl
 have ePn:X'.pn=[]:=by rw[<-hX'];rfl
 have V6:X'.ex=fp:=by rw[<-hX'];rfl
 have eL:X'.env.locals=s3.heap.objs.size:=by rw[<-hX'];rfl
 have eFs:X'.fs=frs X.stack:=by rw[<-hX'];rfl
 have acd:compEnvC scope (cellsFrom (s3.heap.objs.size+1) scope.names<|lz X.env scope.names []) s3.heap.objs.size X.env=X'.env:=by rw[<-hX'];rfl
 have eS0:X'.s₀=s3:=by rw[<-hX'];rfl
 have eH0:X'.H₀=upd H2 s2.heap.objs.size (.lst []):=by rw[<-hX'];rfl
 -- what is true of the iterator's objects in the block
 have stat:∀{H'},(∀b∈fp,H' b=none)->∀b∈fp,o8 X' [] H' b:=λ{H'} hn b hb=>by
  refine⟨hn b hb,?_,?_,.inl (by rw[V6];exact hb),λx c e=>?_,λp hp=>?_⟩
  ·rw[eL];exact Qwv<|lt3 b hb
  ·have:=I4.ok.Ug b (by rw[V6];exact hb);exact this
  ·exact(I4.ok.exf b (by rw[V6];exact hb)).2 x c e
  ·rw[ePn] at hp;exact absurd hp (by simp)
 -- the outer context again
 have back:∀σ' H' s',Inv X' [] σ' H' s'->Inv X pins σ H' s':=λσ' H' s' J'=>by
  have hb:=J'.base;rw[eFs,V6,eS0,eH0] at hb;have hos:=J'.os;rw[eS0] at hos;have hok:=J'.hok;rw[eP,eW] at hok;exact I3.call' hos hb hok J'.bare λb hbm=>⟨(f3 b hbm).2.2.2.1,(f3 b hbm).2.1,(f3 b hbm).2.2.2.2.1,(f3 b hbm).2.2.2.2.2⟩
 have loop:∀s4,s4 = { s3 with heap:=h' }->codeAny (model X.prog X.w) X.A (.compLoop (.ListComp elt [⟨tg,iter,[],0⟩,⟨qG,dI,ifs,0⟩] scope pos) 0 (.ref it) (.ref s2.heap.objs.size) X'.env) (compPost (model X.prog X.w) X.A X.xe use QQ (.ref s2.heap.objs.size) s3.heap.objs.size) s4:=by
  rintro s4 rfl;refine Hg hfs (λn s'=>∃i σ' H',Inv X' [] σ' H' s'/\tn i s'.heap/\(∀b∈fp,H' b=none)/\W i n σ' H') ?_ m0 ⟨0,_,_,I4,st3,λb hb=>(f3 b hb).1,w0⟩;rintro n s5 ⟨i,σ5,H5,I5,Y4,fr5,w5⟩;rcases turn i n σ5 H5 w5 with ⟨stop,qn⟩|⟨go,N,hN,step⟩
  ·have td:=T.done X' eP eW eK eC i [] s5 σ5 H5 (λ_ _=>False) I5 (stat fr5) Y4 stop;rw[eA] at td;refine fC td λr s6 ⟨hr,I6⟩=>?_;subst hr;obtain⟨mC,hnC,_⟩:=id I6.loc;rw[eL] at hnC;have lc:X.env.locals<s3.heap.objs.size:=by
    have:=I3.lt;exact this
   refine fin _ _ mC s6 H5 (back _ _ _ I6) qn hnC ?_ (Qz5 lc) I3.sz (λx c e=>?_)<|λp hp=>?_
   ·have:=I6.free;rw[eL] at this;exact this
   ·obtain⟨v,z⟩:=I3.cell x c e;exact Qwv z.lt
   ·exact Qwv<|Qq0 (I3.pin p hp).1
  ·have ti:=T.item X' eP eW eK eC i [] s5 σ5 H5 (λ_ _=>False) I5 (stat fr5) Y4 go;rw[eA] at ti;refine fC ti λr s6 ⟨u,hr,h6⟩=>?_;subst hr;refine fC h6 λ_ s7 ⟨x,H7,I7,r7,y7,ZX,fr7⟩=>?_;have I7':=I7.pinned (stat fr7)<|T.obj _ _ ZX;have hg':=hg _ s7 σ5 H7 x u _ I7' r7<|step x H7 y7;rw[eP,eW,eA,eX] at hg';refine fC hg' λ_ s8 ⟨σ8,H8,I8,q8⟩=>?_;have again:∀{σz} {Hz} {sz},Inv X' ([]++nH fp s7.heap) σz Hz sz->N σz Hz->∃m,m<n/\∃i σ' H',Inv X' [] σ' H' sz/\tn i sz.heap/\(∀b∈fp,H' b=none)/\W i m σ' H':=λ{σz Hz sz} Iz nz=>by
    obtain⟨m',hm,wz⟩:=hN σz Hz nz;refine⟨m',hm,i+1,σz,Hz,Iz.oK,T.keep _ _ _ ZX λb hb o e=>(Iz.pin (b,o)<|Qq7 _<|Qq7 _<|iw hb e).1,λb hb=>?_,wz⟩;obtain⟨o,e,d⟩:=T.obj _ _ ZX b hb;exact(Iz.pin (b,o)<|Qq7 _<|Qq7 _<|iw hb e).2.1
   have hi2':=hi2 _ s8 σ8 H8 _ I8 q8;rw[eP,eW,eA,eX] at hi2';refine fC hi2' λv s9 h9=>fC h9 λitv s10 h10=>?_;obtain⟨wk,fp2,tn2,J2,H10,e10,I10,T2,akM,f10,q10⟩:=h10;subst e10;rw[eP,eW,eK] at T2;obtain⟨W2,⟨m2,w2⟩,akx⟩:=q10;have f2n:∀{H'},(∀b∈fp2,H' b=none)->∀b∈fp2,o8 X' ([]++nH fp s7.heap) H' b:=λ{H'} hn b hb=>⟨hn b hb,(f10 b hb).2⟩;have af2:codeAny (model X.prog X.w) X.A (.compLoop (.ListComp elt [⟨tg,iter,[],0⟩,⟨qG,dI,ifs,0⟩] scope pos) 1 (.ref wk) (.ref s2.heap.objs.size) X'.env) (λr s'=>match r with|.ok _=>∃m,m<n/\∃i σ' H',Inv X' [] σ' H' s'/\tn i s'.heap/\(∀b∈fp,H' b=none)/\W i m σ' H'|.error _=>False) s10:=by
    refine MJ (λn2 s'=>∃i σ' H',Inv X' ([]++nH fp s7.heap) σ' H' s'/\tn2 i s'.heap/\(∀b∈fp2,H' b=none)/\W2 i n2 σ' H') ?_ m2 ⟨0,_,_,I10,akM,λb hb=>(f10 b hb).1,w2⟩;rintro n2 s11 ⟨i2,σ11,H11,I11,akL,amL,w11⟩;rcases akx i2 n2 σ11 H11 w11 with ⟨akJ,qn2⟩|⟨go2,N2,hN2,akK⟩
    ·have td:=T2.done X' eP eW eK eC i2 _ s11 σ11 H11 (λ_ _=>False) I11 (f2n amL) akL akJ;rw[eA] at td;refine fC td λr s12 ⟨hr,I12⟩=>?_;subst hr;exact again I12 qn2
    ·have ti:=T2.item X' eP eW eK eC i2 _ s11 σ11 H11 (λ_ _=>False) I11 (f2n amL) akL go2;rw[eA] at ti;refine fC ti λr s12 ⟨u2,hr,h12⟩=>?_;subst hr;refine fC h12 λ_ s13 ⟨x2,H13,I13,r13,y13,agN,ao5⟩=>?_;have aph:=I13.pinned (f2n ao5)<|T2.obj _ _ agN;have hg2':=hg2 _ s13 σ11 H13 x2 u2 _ aph r13<|akK x2 H13 y13;rw[eP,eW,eA,eX] at hg2';refine fC hg2' λ_ s14 ⟨σ14,H14,I14,q14⟩=>?_;have Qo:=hif _ s14 σ14 H14 _ I14 q14;rw[eP,eW,eA,eX] at Qo;refine fC Qo λb s15 ⟨H15,I15,q15⟩=>?_;have acs:∀{σz} {Hz} {sz},Inv X' (([]++nH fp s7.heap)++nH fp2 s13.heap) σz Hz sz->N2 σz Hz->∃m,m<n2/\∃i σ' H',Inv X' ([]++nH fp s7.heap) σ' H' sz/\tn2 i sz.heap/\(∀b∈fp2,H' b=none)/\W2 i m σ' H':=λ{σz Hz sz} Iz nz=>by
      obtain⟨m',hm,wz⟩:=hN2 σz Hz nz;refine⟨m',hm,i2+1,σz,Hz,Iz.oK,T2.keep _ _ _ agN λb hb o e=>(Iz.pin (b,o)<|Qq7 _<|Qq7 _<|iw hb e).1,λb hb=>?_,wz⟩;obtain⟨o,e,d⟩:=T2.obj _ _ agN b hb;exact(Iz.pin (b,o)<|Qq7 _<|Qq7 _<|iw hb e).2.1
     cases b with
     | false=>
      rw[if_neg Qwx] at q15 ⊢;exact acs I15 q15
     | true=>
      rw[if_pos rfl] at q15 ⊢;have he':=he _ s15 σ14 H15 _ I15 q15;rw[eP,eW,eA,eX] at he';refine fC he' λy sa ⟨yv,Ha,Ia,ra,ys,hys,hlen,qa⟩=>?_;have ap:=yQ _ sa σ14 Ha (.ref s2.heap.objs.size) [yv] (.ref s2.heap.objs.size) [y] (λv H'=>v = .non/\N2 σ14 H') Ia rfl (.cons ra .nil) ⟨_,ys,yv,rfl,rfl,hys,hlen,rfl,qa⟩;rw[eP,eW,eA,eX] at ap;refine fC ap λ_ sb ⟨vb,Hb,Ib,rb,_,nb⟩=>?_;exact acs Ib nb
   exact Uq af2<|T2.self X.A 0 _ _ _ akM af2
 show codeAny _ _ (.compStart _ 0 (.ref it) (.ref s2.heap.objs.size)<|compEnvC scope (cellsFrom (s3.heap.objs.size+1) scope.names<|lz X.env scope.names []) s3.heap.objs.size X.env) (compPost (model X.prog X.w) X.A X.xe use QQ (.ref s2.heap.objs.size) s3.heap.objs.size) _;rw[acd];exact codeAny_compStart_list (loop _ rfl)<|T.self X.A 0 _ _ _ st3<|loop _ rfl
theorem Xe{pos spos py:Pos}
  (ok:ji X scope N') (hc:X.calm=true) (hi:PI X tg iter wi)
  (bg:∀X',dH X scope N' X'->PG X' tg g) (bi:∀X',dH X scope N' X'->PI X' qG dI wi2) (bg2:∀X',dH X scope N' X'->PG X' qG g2) (hs2:∀X' x,dH X scope N' X'->foldedSetIterable dI X'.env x=pure x) (bc:∀X',dH X scope N' X'->PIf X' ifs tc) (be:∀X',dH X scope N' X'->PE X' elt te)
  (hN:X.N.Nodup) (hy:X.N[i]? = some y) (hx:Loc X.env.scope y)
  (hsw:swapsWith (.ListComp elt [⟨tg,iter,[],0⟩,⟨qG,dI,ifs,0⟩] scope pos) (some (.Name y py)) spos.line X.env=pure true)
  (hf:X.fn y=true\/X.env.scope.names.lookup y=some .local:=by first|exact .inl rfl|exact .inr rfl|assumption)
  (hs:∀x,foldedSetIterable iter X.env x=pure x:=by intro _;rfl) :
  PS X (.Assign [.Name y py] (.ListComp elt [⟨tg,iter,[],0⟩,⟨qG,dI,ifs,0⟩] scope pos) spos) (ZR (akC N'.length wi g wi2 g2 tc te) (zV i)):=by
 intro pins s σ H D I h;rw[exec_Assign_Name_used _ _ _ _ hsw];refine Qqq<|Qz0<|Qqq ?_;have hfree:∀n,(n,NameKind.free)∈scope.names->∃c,X.env.cells.lookup n=some c:=λn hm=>I.ok.has n<|ok.free _ hm rfl;show wpAny _ X.A (do let _ <-comprehension (.ListComp elt [⟨tg,iter,[],0⟩,⟨qG,dI,ifs,0⟩] scope pos) scope X.env _ (newList []) false (eval iter X.env) (some<|assign (.Name y py) X.env)) _ _ s;refine Qqq<|Qwy (wpAny_comprehension_free rfl hs (rz hfree) ok.kind (λx hx hl=>iy _ _ _ ok.nd (by grind)) ?_) (λ_ s' hq=>Qqk<|Qqk hq) λ_ _ e=>e;refine fC (hi pins s σ H _ I h) λv s1 h1=>fC h1 λitv s2 h2=>?_;obtain⟨it,fp,tn,J,H2,e,I2,T,st2,f2,q⟩:=h2;subst e;refine Uo (Q:=λx H1=>zV i x σ H1 D.nx) ok hc bg bi bg2 hs2 bc be I2 T st2 f2 q λd C m s' H' I' hq hn hC hL h0 hcell hpin=>?_;refine wpAny_assign_Name<|yl (v:=.ref d) I' hN hy hx rfl (λs'' I'' sb=>?_) hf;obtain⟨a,hsb,ha⟩:=sb;have haC:C≠a:=by grind
 refine⟨m,hn.sameBut hsb haC,λh' hs'=>?_⟩;have I3:Inv X pins (σ.set i<|some<|.ref d) H' { s'' with heap:=h',toks:=s''.toks }:=I''.turned (λb o hb e=>(hs'.2 b hb).trans e) hC hL (.inr h0) hcell hpin;exact⟨_,H',I3,hq⟩
noncomputable def inS(ys:List Str):Key->Bool
 | .inr x=>decide (x∈ys)
 | .inl _=>false
def SetT(P:Program)(w:World)(a:Addr)(ys:List Str):HO:=.ext λh=>h.SetOf (cH P w) a (inS ys) ys.length
noncomputable def Uz(ys:List Str)(x:Str):List Str:=if x∈ys then ys else ys++[x]
theorem Z6(x:h.SetOf (cH P w) a (λ_=>false) 0):iV P w H h a (SetT P w a []):=by
 refine⟨(show(λ_=>false)=inS [] from funext λk=>by cases k<;>simp[inS]) ▸ x,?_,λh1 h2 y kk=>?_⟩
 ·obtain⟨o,_,_,_,e,_⟩:=x;exact⟨o,e⟩
 ·obtain⟨o,es,ep,t,e,r⟩:=y;exact⟨o,es,ep,t,kk o e,r⟩
theorem adk(x:h.SetOf (cH P w) a (inS ys) ys.length):iV P w H h a (SetT P w a ys):=by
 refine⟨x,?_,λh1 h2 y kk=>?_⟩
 ·obtain⟨o,_,_,_,e,_⟩:=x;exact⟨o,e⟩
 ·obtain⟨o,es,ep,t,e,r⟩:=y;exact⟨o,es,ep,t,kk o e,r⟩
theorem R9{h:Heap}(x:h.SetOf (cH P w) a S n)(e:∀k,S k=S' k)(hn:n=n'):h.SetOf (cH P w) a S' n':=by obtain rfl:S=S':=funext e;exact hn ▸ x
theorem Z7{σ:St}(hH:H a=some (SetT X.prog X.w a ys))(I:Inv X pins σ H s)(r:RelV (.str z) u)(hz:ys.length<64) :
  wpAny (model X.prog X.w) X.A (call (.builtin "set.add") [.ref a,u]) (λ_ s'=>Inv X pins σ (upd H a (SetT X.prog X.w a (Uz ys z))) s') E s:=by
 have x:=(I.hok a _ hH).1;obtain⟨t,rfl⟩:∃t,u = .str z t:=r;refine call_set_add (xg (k:=.inr z)<|show RelV (.str z) _ from⟨t,rfl⟩) rfl x (Qw0 (Nat.succ_le_of_lt hz) (by decide)) λh' hs so=>?_;refine I.write (by rw[hH];trivial) (.inl rfl) (λb q hb zz=>(hs.2 b hb).trans zz) ?_<|adk<|R9 so (λk=>?_) ?_
 ·obtain⟨o,_,_,_,e,_⟩:=so;exact⟨o,e⟩
 ·unfold Uz;cases k<;>by_cases hm:z∈ys<;>simp_all [inS]<;>grind
 ·unfold Uz;by_cases hm:z∈ys<;>simp[hm,inS]
def tSC(P:Program)(w:World)(n:Nat)(wi:TI)(g:TG)(tc:TT)(te:TE):TE:=λσ H Q=>wi σ H λJ H1=>∀d,H1 d=none->∃W:Nat->Nat->St->Hp->Prop,(∃m,W 0 m (qx (n - σ.length) σ) (upd H1 d (SetT P w d [])))/\∀i m σ' H',W i m σ' H'->
 (J.stop i H'/\Q (.ref d) H')\/(J.go i H'/\∃N:St->Hp->Prop,(∀σ2 H2,N σ2 H2->∃m',m'<m/\W (i+1) m' σ2 H2)/\∀x H2,J.Zh i H' x H2->g x σ' H2 λσ3 H3=>tc σ3 H3 λb H4=>
  if b=true then te σ3 H4 λy H5=>∃ys z,y = .str z/\H5 d=some (SetT P w d ys)/\ys.length<64/\N σ3 (upd H5 d (SetT P w d (Uz ys z))) else N σ3 H4)
section
variable{prog:Program}{w:World}{A:Around}{R:Result->Shared->Prop}{s:Shared}
theorem Mz :
  compTurn (.SetComp elt [⟨target,iter,ifs,0⟩] scope pos) 0 it acc env=(do
   standAt iter.pos
   match <-pyNext it with
   | none=>pure (Fin.done Flow.next)
   | some v=>do
    letOwnedTupleGo target it v
    assign target env v
    let mut ok:=true
    for c in ifs do
     if ok then ok <-PySem.isTrue c env (eval c env)
    if ok then
     (do
      let v <-eval elt env
      standAt elt.pos
      let _ <-call (.builtin "set.add") [acc,v]
      pure ())
    again (.compLoop (.SetComp elt [⟨target,iter,ifs,0⟩] scope pos) 0 it acc env)):=by rfl
theorem Hf(I:Nat->Shared->Prop)
  (turn:∀n s,I n s->wpAny (model prog w) A (pyNext it) (λr s₁=>match r with
   | none=>R (.ok .next) s₁
   | some v=>wpAny (model prog w) A (letOwnedTupleGo target it v) (λ_ s₁'=>wpAny (model prog w) A (assign target env v) (λ_ s₂=>
     wpAny (model prog w) A (forIn ifs true λc r=>if r=true then do let ok <-isTrue c env (eval c env);pure (ForInStep.yield ok) else pure (ForInStep.yield r)) (λok s₃=>
      if ok=true then wpAny (model prog w) A (eval elt env) (λx s₄=>
       wpAny (model prog w) A (call (.builtin "set.add") [acc,x]) (λ_ s₅=>∃m,m<n/\I m s₅) (λ_ _=>False) s₄) (λ_ _=>False) s₃
      else ∃m,m<n/\I m s₃) (λ_ _=>False) s₂) (λ_ _=>False) s₁') (λ_ _=>False) s₁) (λ_ _=>False) s)
  (n) (h:I n s) :
  codeAny (model prog w) A (.compLoop (.SetComp elt [⟨target,iter,ifs,0⟩] scope pos) 0 it acc env) R s:=by
 refine codeAny_loop rfl I (λn s hI=>?_) n h;show wpAny _ A ((compTurn (.SetComp elt [⟨target,iter,ifs,0⟩] scope pos) 0 it acc env).onRaise<|λx=>do noteFrame x env;theTreesLotGoes x) _ _ s;refine wpAny_noted ?_;rw[Mz];refine Qqq<|Qz0<|Qqq<|Qwy (turn n s hI) (λr s₁ h₁=>?_) λ_ _ h'=>h'.elim;cases r with
 | none=>exact Qqk h₁
 | some v=>
  refine Qqq<|Qwy h₁ (λ_ s₁' h₁'=>?_) λ_ _ h'=>h'.elim;refine Qqq<|Qwy h₁' (λ_ s₂ h₂=>Qqq<|Qwy h₂ (λok s₃ h₃=>?_) λ_ _ h'=>h'.elim) λ_ _ h'=>h'.elim;cases ok with
  | false=>exact Qqk ⟨rfl,h₃⟩
  | true=>
   exact Qqq<|Qqq<|Qwy h₃ (λx s₄ h₄=>Qqq<|Qz0<|Qqq<|Qwy h₄ (λ_ s₅ h₅=>Qqk<|Qqk ⟨rfl,h₅⟩) λ_ _ h'=>h'.elim) λ_ _ h'=>h'.elim
theorem Up(h0:codeAny (model prog w) A (.compLoop (.SetComp elt [⟨target,iter,ifs,0⟩] scope pos) 0 it acc env) R s)
  (h:wpAny (model prog w) A (pyIter it) (λit' s'=>codeAny (model prog w) A (.compLoop (.SetComp elt [⟨target,iter,ifs,0⟩] scope pos) 0 it' acc env) R s')
   (notedBy (model prog w) A env λx s'=>R (.error x) s') s) :
  codeAny (model prog w) A (.compStart (.SetComp elt [⟨target,iter,ifs,0⟩] scope pos) 0 it acc env) R s:=by
 refine codeAny_of_tree ?_;show wpAny _ _ ((compStart (.SetComp elt [⟨target,iter,ifs,0⟩] scope pos) 0 it acc env).onRaise<|λx=>do noteFrame x env;standAt theWindowsPlace) _ _ s;refine wpAny_notedAt ?_;unfold compStart;show wpAny _ _ (ask >>= _) _ _ s;refine Qqq<|wpAny_askSetting<|wpAny_ite ?_;split
 ·first|exact Qqq (Qqk<|Qqk<|And.intro rfl h0)|exact Qqk<|And.intro rfl h0
 ·refine Qqq<|wpAny_rule ?_;show wpAny _ _ (standAt iter.pos >>= _) _ _ s;exact Qqq<|Qz0<|Qqq<|Qwy h (λit' s' h'=>Qqk<|And.intro rfl h') λ_ _ x=>x
end
theorem Um
  (ok:ji X scope N') (hc:X.calm=true)
  (bg:∀X',dH X scope N' X'->PG X' tg g) (bc:∀X',dH X scope N' X'->PIf X' ifs tc) (be:∀X',dH X scope N' X'->PE X' elt te)
  {σ:St} {Q:VK} (I2:Inv X pins σ H2 s2) (T:Turn X.prog X.w X.K tg J fp it tn) (st2:tn 0 s2.heap) (f2:∀b∈fp,o8 X pins H2 b)
  (q:∀d,H2 d=none->∃W:Nat->Nat->St->Hp->Prop,(∃m,W 0 m (qx (N'.length - σ.length) σ) (upd H2 d (SetT X.prog X.w d [])))/\∀i m σ' H',W i m σ' H'->
   (J.stop i H'/\Q (.ref d) H')\/(J.go i H'/\∃N:St->Hp->Prop,(∀σ2 H2,N σ2 H2->∃m',m'<m/\W (i+1) m' σ2 H2)/\∀x H2,J.Zh i H' x H2->g x σ' H2 λσ3 H3=>tc σ3 H3 λb H4=>
    if b=true then te σ3 H4 λy H5=>∃ys z,y = .str z/\H5 d=some (SetT X.prog X.w d ys)/\ys.length<64/\N σ3 (upd H5 d (SetT X.prog X.w d (Uz ys z))) else N σ3 H4))
  (fin:∀d C m s' H',Inv X pins σ H' s'->Q (.ref d) H'->s'.heap.Ns C m->H' C=none->C≠X.env.locals->X.s₀.heap.objs.size<=C->(∀x c,X.env.cells.lookup x=some c->c≠C)->(∀p∈X.pn++pins,p.1≠C)->
   compPost (model X.prog X.w) X.A X.xe use QQ (.ref d) C (.ok .next) s') :
  wpAny (model X.prog X.w) X.A (newSet (.type "set")) (λacc s₃=>wpAny (model X.prog X.w) X.A (newFunctionEnv scope X.env.globals (lz X.env scope.names []) [] X.env.qual none .none (some X.env)) (λcenv s₄=>
   codeAny (model X.prog X.w) X.A (.compStart (.SetComp elt [⟨tg,iter,ifs,0⟩] scope pos) 0 (.ref it) acc { cenv with scope:=relabel scope X.env }) (compPost (model X.prog X.w) X.A X.xe use QQ acc cenv.locals) s₄) X.xe s₃) X.xe s2:=by
 have hd2:=I2.fresh;refine wpAny_newSet_of (knd:=cH X.prog X.w) λled aoM=>tu λh' hns hkeep hco=>?_
 -- the state behind the list
 obtain⟨W,⟨m0,w0⟩,turn⟩:=q s2.heap.objs.size hd2;have I3:Inv X pins σ (upd H2 s2.heap.objs.size<|SetT X.prog X.w s2.heap.objs.size []) { s2 with heap:=s2.heap.push { cls:=.type "set",data:=.set #[] 0 (.fresh 0 0 led) } }:=I2.laid (λ_ _ q=>Qqx _ q) (Qqv _)<|Z6 aoM;have Y5:∀b∈fp,b<s2.heap.objs.size:=λb hb=>by
  obtain⟨o,e,_⟩:=T.obj _ _ st2 b hb;exact Qq0 e
 have f3:∀b∈fp,o8 X pins (upd H2 s2.heap.objs.size<|SetT X.prog X.w s2.heap.objs.size []) b:=λb hb=>by
  refine⟨?_,(f2 b hb).2⟩;rw[cz (Qwv<|Y5 b hb)];exact(f2 b hb).1
 have lt3:∀b∈fp,b<({ s2 with heap:=s2.heap.push { cls:=.type "set",data:=.set #[] 0 (.fresh 0 0 led) } }:Shared).heap.objs.size:=λb hb=>by
  show b<(s2.heap.push _).objs.size;rw[Qzq];exact Nat.lt_succ_of_lt<|Y5 b hb
 have st3:tn 0 h':=T.keep _ _ _ st2 λb hb o e=>hkeep b o<|Qqx _ e;have I4:=Dz ok I3 f3 lt3 hns hkeep hco;generalize hs3:({ s2 with heap:=s2.heap.push { cls:=.type "set",data:=.set #[] 0 (.fresh 0 0 led) } }:Shared)=s3 at *;have sz3:s3.heap.objs.size=s2.heap.objs.size+1:=by rw[<-hs3];exact Qzq ..
 generalize hX':cxC X scope N' (cellsFrom (s3.heap.objs.size+1) scope.names<|lz X.env scope.names []) s3.heap.objs.size s3 (upd H2 s2.heap.objs.size<|SetT X.prog X.w s2.heap.objs.size []) fp=X' at I4;have at':dH X scope N' X':=⟨_,_,_,⟨_,I3.base.tabs⟩,_,hX'.symm⟩;have hg:=bg X' at';have hif:=bc X' at';have he:=be X' at';have eP:X'.prog=X.prog:=by rw[<-hX'];rfl
 have eW:X'.w=X.w:=by rw[<-hX'];rfl
 have eK:X'.K=X.K:=by rw[<-hX'];rfl
 have eA:X'.A=X.A:=by rw[<-hX'];rfl
 have eC:X'.calm=true:=by rw[<-hX'];exact hc
 have eX:X'.xe=λ_ _=>False:=by rw[<-hX'];rfl
 have ePn:X'.pn=[]:=by rw[<-hX'];rfl
 have V6:X'.ex=fp:=by rw[<-hX'];rfl
 have eL:X'.env.locals=s3.heap.objs.size:=by rw[<-hX'];rfl
 have eFs:X'.fs=frs X.stack:=by rw[<-hX'];rfl
 have acd:compEnvC scope (cellsFrom (s3.heap.objs.size+1) scope.names<|lz X.env scope.names []) s3.heap.objs.size X.env=X'.env:=by rw[<-hX'];rfl
 have eS0:X'.s₀=s3:=by rw[<-hX'];rfl
 have eH0:X'.H₀=upd H2 s2.heap.objs.size (SetT X.prog X.w s2.heap.objs.size []):=by rw[<-hX'];rfl
 -- what is true of the iterator's objects in the block
 have stat:∀{H'},(∀b∈fp,H' b=none)->∀b∈fp,o8 X' [] H' b:=λ{H'} hn b hb=>by
  refine⟨hn b hb,?_,?_,.inl (by rw[V6];exact hb),λx c e=>?_,λp hp=>?_⟩
  ·rw[eL];exact Qwv<|lt3 b hb
  ·have:=I4.ok.Ug b (by rw[V6];exact hb);exact this
  ·exact(I4.ok.exf b (by rw[V6];exact hb)).2 x c e
  ·rw[ePn] at hp;exact absurd hp (by simp)
 -- the outer context again
 have back:∀σ' H' s',Inv X' [] σ' H' s'->Inv X pins σ H' s':=λσ' H' s' J'=>by
  have hb:=J'.base;rw[eFs,V6,eS0,eH0] at hb;have hos:=J'.os;rw[eS0] at hos;have hok:=J'.hok;rw[eP,eW] at hok;exact I3.call' hos hb hok J'.bare λb hbm=>⟨(f3 b hbm).2.2.2.1,(f3 b hbm).2.1,(f3 b hbm).2.2.2.2.1,(f3 b hbm).2.2.2.2.2⟩
 have loop:∀s4,s4 = { s3 with heap:=h' }->codeAny (model X.prog X.w) X.A (.compLoop (.SetComp elt [⟨tg,iter,ifs,0⟩] scope pos) 0 (.ref it) (.ref s2.heap.objs.size) X'.env) (compPost (model X.prog X.w) X.A X.xe use QQ (.ref s2.heap.objs.size) s3.heap.objs.size) s4:=by
  rintro s4 rfl;refine Hf (λn s'=>∃i σ' H',Inv X' [] σ' H' s'/\tn i s'.heap/\(∀b∈fp,H' b=none)/\W i n σ' H') ?_ m0 ⟨0,_,_,I4,st3,λb hb=>(f3 b hb).1,w0⟩;rintro n s5 ⟨i,σ5,H5,I5,Y4,fr5,w5⟩;rcases turn i n σ5 H5 w5 with ⟨stop,qn⟩|⟨go,N,hN,step⟩
  ·have td:=T.done X' eP eW eK eC i [] s5 σ5 H5 (λ_ _=>False) I5 (stat fr5) Y4 stop;rw[eA] at td;refine fC td λr s6 ⟨hr,I6⟩=>?_;subst hr;obtain⟨mC,hnC,_⟩:=id I6.loc;rw[eL] at hnC;have lc:X.env.locals<s3.heap.objs.size:=by
    have:=I3.lt;exact this
   refine fin _ _ mC s6 H5 (back _ _ _ I6) qn hnC ?_ (Qz5 lc) I3.sz (λx c e=>?_)<|λp hp=>?_
   ·have:=I6.free;rw[eL] at this;exact this
   ·obtain⟨v,z⟩:=I3.cell x c e;exact Qwv z.lt
   ·exact Qwv<|Qq0 (I3.pin p hp).1
  ·have ti:=T.item X' eP eW eK eC i [] s5 σ5 H5 (λ_ _=>False) I5 (stat fr5) Y4 go;rw[eA] at ti;refine fC ti λr s6 ⟨u,hr,h6⟩=>?_;subst hr;refine fC h6 λ_ s7 ⟨x,H7,I7,r7,y7,ZX,fr7⟩=>?_;have I7':=I7.pinned (stat fr7)<|T.obj _ _ ZX;have hg':=hg _ s7 σ5 H7 x u _ I7' r7<|step x H7 y7;rw[eP,eW,eA,eX] at hg';refine fC hg' λ_ s8 ⟨σ8,H8,I8,q8⟩=>?_;have Qo:=hif _ s8 σ8 H8 _ I8 q8;rw[eP,eW,eA,eX] at Qo;refine fC Qo λb s9 ⟨H9,I9,q9⟩=>?_;have again:∀{σz} {Hz} {sz},Inv X' ([]++nH fp s7.heap) σz Hz sz->N σz Hz->∃m,m<n/\∃i σ' H',Inv X' [] σ' H' sz/\tn i sz.heap/\(∀b∈fp,H' b=none)/\W i m σ' H':=λ{σz Hz sz} Iz nz=>by
    obtain⟨m',hm,wz⟩:=hN σz Hz nz;refine⟨m',hm,i+1,σz,Hz,Iz.oK,T.keep _ _ _ ZX λb hb o e=>(Iz.pin (b,o)<|Qq7 _<|Qq7 _<|iw hb e).1,λb hb=>?_,wz⟩;obtain⟨o,e,d⟩:=T.obj _ _ ZX b hb;exact(Iz.pin (b,o)<|Qq7 _<|Qq7 _<|iw hb e).2.1
   cases b with
   | false=>
    rw[if_neg Qwx] at q9 ⊢;exact again I9 q9
   | true=>
    rw[if_pos rfl] at q9 ⊢;have he':=he _ s9 σ8 H9 _ I9 q9;rw[eP,eW,eA,eX] at he';refine fC he' λy sa ⟨yv,Ha,Ia,ra,ys,z,hyz,hys,hlen,qa⟩=>?_;subst hyz;have ap:=Z7 (E:=λ_ _=>False) (eP ▸ eW ▸ hys) Ia ra hlen;rw[eP,eW,eA] at ap;exact fC ap λ_ sb Ib=>again Ib qa
 show codeAny _ _ (.compStart _ 0 (.ref it) (.ref s2.heap.objs.size)<|compEnvC scope (cellsFrom (s3.heap.objs.size+1) scope.names<|lz X.env scope.names []) s3.heap.objs.size X.env) (compPost (model X.prog X.w) X.A X.xe use QQ (.ref s2.heap.objs.size) s3.heap.objs.size) _;rw[acd];exact Up (loop _ rfl)<|T.self X.A 0 _ _ _ st3<|loop _ rfl
theorem alj
  (ok:ji X scope N') (hc:X.calm=true) (hi:PI X tg iter wi)
  (bg:∀X',dH X scope N' X'->PG X' tg g) (bc:∀X',dH X scope N' X'->PIf X' ifs tc) (be:∀X',dH X scope N' X'->PE X' elt te)
  (hs:∀x,foldedSetIterable iter X.env x=pure x:=by intro _;rfl) :
  PE X (.SetComp elt [⟨tg,iter,ifs,0⟩] scope pos) (tSC X.prog X.w N'.length wi g tc te):=by
 intro pins s σ H Q I h;rw[arm_eval_SetComp];have hfree:∀n,(n,NameKind.free)∈scope.names->∃c,X.env.cells.lookup n=some c:=λn hm=>I.ok.has n<|ok.free _ hm rfl;refine wpAny_comprehension_free rfl hs (rz hfree) ok.kind (λx hx hl=>iy _ _ _ ok.nd (by grind)) ?_;refine fC (hi pins s σ H _ I h) λv s1 h1=>fC h1 λitv s2 h2=>?_;obtain⟨it,fp,tn,J,H2,e,I2,T,st2,f2,q⟩:=h2;subst e;refine Um ok hc bg bc be I2 T st2 f2 q λd C m s' H' I' hq hn hC hL h0 hcell hpin=>?_;refine⟨m,hn,λh' hs'=>?_⟩;have I'':Inv X pins σ H' { s' with heap:=h',toks:=s'.toks }:=I'.turned (λb o hb e=>(hs'.2 b hb).trans e) hC hL (.inr h0) hcell hpin;exact⟨.ref d,H',I'',rfl,hq⟩
end L2
namespace Ev
open PySem PySem.Spec PyProof.Rows L2
inductive D where
 | non
 | bl (b:Bool)
 | int (i:Int)
 | str (x:List Nat)
 | tup (xs:List D)
 | lst (xs:List D)
 | arr (xs:List D)
 | dct (kvs:List (D×D))
 | z6 (kvs:List (D×D))
 | clo (st:Stmt) (ds:List D)
 deriving Inhabited
abbrev Fg:=PySem.W.Frag
noncomputable def strOf(x:List Nat):Str:=⟨x.toArray⟩
def rQ:D->Option Key
 | .int i=>some (.inl i)
 | .str x=>some (.inr (strOf x))
 | _=>none
mutual
noncomputable def nkD:D->Option NK
 | .int i=>some (.num i)
 | .bl b=>some (.num (if b then 1 else 0))
 | .str x=>some (.txt (strOf x))
 | .tup xs=>(alI xs).map .tup
 | _=>none
noncomputable def alI:List D->Option (List NK)
 | []=>some []
 | d::ds=>match nkD d,alI ds with
  | some k,some ks=>some (k::ks)
  | _,_=>none
end
noncomputable def defName(s:Stmt):Str:=match s with
 | .FunctionDef n _ _ _ _ _ _ _ _ _=>n
 | _=>""
def freeOf(s:Stmt):List Str:=(((aJ s).names.filter (·.2 == .free)).map (·.1)).reverse
def aki(F:Hp)(c:Addr)(v:V):Prop:=∃(o:Obj) (u:HO) (w:Value),F c=some (.Mw o u)/\o.data = .cell (some w)/\RelV v w
def Bt(F:Hp):List (Str×Addr)->List V->Prop
 | [],vs=>vs=[]
 | (_,c)::r,vs=>∃v vs',vs=v::vs'/\aki F c v/\Bt F r vs'
def akh(F:Hp)(c:Addr)(q:Str):Prop:=∃(o:Obj) (u:HO) (vs:Array Value) (t:Tok),F c=some (.Mw o u)/\o.data = .fields vs/\vs[1]? = some (.str q t)
def apj(F:Hp)(st:Stmt)(a:Addr)(vs:List V):Prop:=∃(u:HO) (q:Str) (cl:List (Str×Addr)) (doc pm ctv:Value) (c:Addr),
 F a=some (.Mw (PySem.W.fnMade (defName st) q (j8 st) (fU st) (aJ st) cl doc pm c ctv) u)/\akh F c q/\cl.map (·.1)=freeOf st/\(cl.map (·.2)).Nodup/\Bt F cl vs
theorem aV.cells(e:aV F F'):∀{cl} {vs},Bt F cl vs->Bt F' cl vs
 | [],_,h=>h
 | (_,c)::r,_,⟨v,vs',h0,⟨o,u,w,h1,h2⟩,h3⟩=>⟨v,vs',h0,⟨o,u,w,e _ _ h1,h2⟩,aV.cells e h3⟩
def Mark(K:Fg)(st:Stmt)(a:Addr):Prop:=∃(n:Str) (p:Pos) (oc:Value) (od:Option Addr) (fd:FuncData) (sl:Array (Option Value)),st = .Global [n] p/\PySem.W.nsIn K mainGlobals n=some (some (.ref a))/\K.lookup a=some ⟨oc,od,.func fd,sl⟩
def ExcAt(K:Fg)(F:Hp)(st:Stmt)(a:Addr)(vs:List V):Prop:=∃(n:Str) (r:List Str) (p:Pos) (o:Obj) (u:HO) (c:Addr) (fs:Array Value),st = .Nonlocal (n::r) p/\PySem.W.nsIn K mainGlobals n=some (some (.ref c))/\F a=some (.Mw o u)/\o.cls = .ref c/\o.data = .fields fs/\
 (r=[]/\vs=[]\/∃(x:Str) (v:V) (w:Value) (dx:Addr) (od:Obj) (ud:HO) (m:Str->Option Value),r=[x]/\vs=[v]/\RelV v w/\o.dict=some dx/\F dx=some (.Mw od ud)/\(∀h:Heap,h.get? dx=some od->h.Ns dx m)/\m x=some w)
theorem aV.excAt{K:Fg}{st:Stmt}(e:aV F F')(h:ExcAt K F st a vs):ExcAt K F' st a vs:=by
 obtain⟨n,r,p,o,u,c,fs,h1,h2,h3,h4,h5,h6⟩:=h;refine⟨n,r,p,o,u,c,fs,h1,h2,e _ _ h3,h4,h5,?_⟩;rcases h6 with h6|⟨x,v,w,dx,od,ud,m,q1,q2,q3,q4,q5,q6⟩
 ·exact .inl h6
 ·exact .inr ⟨x,v,w,dx,od,ud,m,q1,q2,q3,q4,e _ _ q5,q6⟩
noncomputable def aoB(st:Stmt):Bool:=match st with
 | .Global _ _=>true
 | .Nonlocal _ _=>true
 | _=>false
def Clo(K:Fg)(F:Hp)(st:Stmt)(a:Addr)(vs:List V):Prop:=apj F st a vs/\aoB st=false\/Mark K st a\/ExcAt K F st a vs
theorem aV.clo{K:Fg}{st:Stmt}(e:aV F F')(h:Clo K F st a vs):Clo K F' st a vs:=by
 rcases h with ⟨h,hg⟩|h|h
 rotate_left
 ·exact .inr<|.inl h
 ·exact .inr<|.inr<|aV.excAt e h
 refine .inl ⟨?_,hg⟩;obtain⟨u,q,cl,doc,pm,ctv,c,h1,⟨o,u2,ws,t,h2,h3⟩,h4,h5,h6⟩:=h;exact⟨u,q,cl,doc,pm,ctv,c,e _ _ h1,⟨o,u2,ws,t,e _ _ h2,h3⟩,h4,h5,aV.cells e h6⟩
mutual
noncomputable def Rep(K:Fg)(F:Hp):D->V->Prop
 | .non,v=>v = .non
 | .bl b,v=>v = .bl b
 | .int i,v=>v = .int i
 | .str x,v=>v = .str (strOf x)/\x.length<=sizeLine
 | .tup xs,v=>xs.length<=sizeLine/\∃a vs,v = .ref a/\mQ K F a vs/\bT K F xs vs
 | .lst xs,v=>xs.length<=sizeLine/\∃a vs,v = .ref a/\F a=some (.lst vs)/\bT K F xs vs
 | .arr xs,v=>xs.length<=sizeLine/\∃a vs,v = .ref a/\nq K F a vs/\bT K F xs vs
 | .dct kvs,v=>kvs.length<=sizeLine/\∃a ks,v = .ref a/\Rd F a (.dK ks)/\fH K F kvs ks
 | .z6 kvs,v=>kvs.length<=sizeLine/\∃a ks,v = .ref a/\Rd F a (.dN ks)/\rP K F kvs ks
 | .clo st ds,v=>∃a vs,v = .ref a/\Clo K F st a vs/\bT K F ds vs
noncomputable def bT(K:Fg)(F:Hp):List D->List V->Prop
 | [],vs=>vs=[]
 | d::ds,vs=>∃v r,vs=v::r/\Rep K F d v/\bT K F ds r
noncomputable def fH(K:Fg)(F:Hp):List (D×D)->List (Key×V)->Prop
 | [],vs=>vs=[]
 | (k,d)::ds,vs=>∃q v r,vs=(q,v)::r/\rQ k=some q/\Rep K F d v/\fH K F ds r
noncomputable def rP(K:Fg)(F:Hp):List (D×D)->List (NK×V×V)->Prop
 | [],vs=>vs=[]
 | (k,d)::ds,vs=>∃q u v r,vs=(q,u,v)::r/\nkD k=some q/\q.dep<=8/\Rep K F k u/\Rep K F d v/\rP K F ds r
end
theorem aV.rd(e:aV F F')(h:Rd F a u):Rd F' a u:=by
 rcases h with h|⟨o,h⟩
 ·exact .inl<|e _ _ h
 ·exact .inr ⟨o,e _ _ h⟩
theorem aV.tupK{K:Fg}(e:aV F F')(h:mQ K F a xs):mQ K F' a xs:=by
 rcases h with h|h
 ·exact .inl<|aV.rd e h
 ·exact .inr h
mutual
theorem Rep.mono{K:Fg}{F F':Hp}(e:aV F F'):∀(d:D) (v:V),Rep K F d v->Rep K F' d v
 | .non,_,h=>h
 | .bl _,_,h=>h
 | .int _,_,h=>h
 | .str _,_,h=>h
 | .tup xs,v,h=>by
  obtain⟨z,a,vs,rfl,h1,h2⟩:=h;exact⟨z,a,vs,rfl,aV.tupK e h1,bT.mono e xs vs h2⟩
 | .lst xs,v,h=>by
  obtain⟨z,a,vs,rfl,h1,h2⟩:=h;exact⟨z,a,vs,rfl,e _ _ h1,bT.mono e xs vs h2⟩
 | .arr xs,v,h=>by
  obtain⟨z,a,vs,rfl,h1,h2⟩:=h;exact⟨z,a,vs,rfl,e.seq h1,bT.mono e xs vs h2⟩
 | .dct kvs,v,h=>by
  obtain⟨z,a,ks,rfl,h1,h2⟩:=h;exact⟨z,a,ks,rfl,aV.rd e h1,fH.mono e kvs ks h2⟩
 | .z6 kvs,v,h=>by
  obtain⟨z,a,ks,rfl,h1,h2⟩:=h;exact⟨z,a,ks,rfl,aV.rd e h1,rP.mono e kvs ks h2⟩
 | .clo st ds,v,h=>by
  obtain⟨a,vs,rfl,h1,h2⟩:=h;exact⟨a,vs,rfl,aV.clo e h1,bT.mono e ds vs h2⟩
theorem bT.mono{K:Fg}{F F':Hp}(e:aV F F'):∀(ds:List D) (vs:List V),bT K F ds vs->bT K F' ds vs
 | [],_,h=>h
 | d::ds,vs,h=>by
  obtain⟨v,r,rfl,h1,h2⟩:=h;exact⟨v,r,rfl,Rep.mono e d v h1,bT.mono e ds r h2⟩
theorem fH.mono{K:Fg}{F F':Hp}(e:aV F F'):∀(ds:List (D×D)) (vs:List (Key×V)),fH K F ds vs->fH K F' ds vs
 | [],_,h=>h
 | (k,d)::ds,vs,h=>by
  obtain⟨q,v,r,rfl,h0,h1,h2⟩:=h;exact⟨q,v,r,rfl,h0,Rep.mono e d v h1,fH.mono e ds r h2⟩
theorem rP.mono{K:Fg}{F F':Hp}(e:aV F F'):∀(ds:List (D×D)) (vs:List (NK×V×V)),rP K F ds vs->rP K F' ds vs
 | [],_,h=>h
 | (k,d)::ds,vs,h=>by
  obtain⟨q,u,v,r,rfl,h0,h3,h4,h1,h2⟩:=h;exact⟨q,u,v,r,rfl,h0,h3,Rep.mono e k u h4,Rep.mono e d v h1,rP.mono e ds r h2⟩
end
theorem bT.length{K:Fg}:∀{ds} {vs},bT K F ds vs->vs.length=ds.length
 | [],_,h=>by cases h;rfl
 | d::ds,vs,h=>by
  obtain⟨v,r,rfl,_,h2⟩:=h;rw[Qqw,Qqw,h2.length]
theorem bT.get{K:Fg}:∀{ds} {vs} {i:Nat} {d},bT K F ds vs->ds[i]? = some d->∃v,vs[i]? = some v/\Rep K F d v
 | [],_,_,_,_,e=>by simp at e
 | c::ds,vs,i,d,h,e=>by
  obtain⟨v,r,rfl,h1,h2⟩:=h;cases i with
  | zero=>simp_all
  | succ i=>obtain⟨u,e1,e2⟩:=bT.get h2 (by simpa using e);exact⟨u,by simpa using e1,e2⟩
theorem bT.append{K:Fg}:∀{ds es} {vs ws},bT K F ds vs->bT K F es ws->bT K F (ds++es) (vs++ws)
 | [],es,vs,ws,h,g=>by cases h;exact g
 | d::ds,es,vs,ws,h,g=>by
  obtain⟨v,r,rfl,h1,h2⟩:=h;exact⟨v,r++ws,rfl,h1,bT.append h2 g⟩
theorem bT.drop{K:Fg}:∀n {ds} {vs},bT K F ds vs->bT K F (ds.drop n) (vs.drop n)
 | 0,_,_,h=>h
 | _+1,[],_,h=>by cases h;exact rfl
 | n+1,d::ds,vs,h=>by
  obtain⟨v,r,rfl,_,h2⟩:=h;exact bT.drop n h2
theorem bT.take{K:Fg}:∀n {ds} {vs},bT K F ds vs->bT K F (ds.take n) (vs.take n)
 | 0,_,_,_=>rfl
 | _+1,[],_,h=>by cases h;exact rfl
 | n+1,d::ds,vs,h=>by
  obtain⟨v,r,rfl,h1,h2⟩:=h;exact⟨v,r.take n,rfl,h1,bT.take n h2⟩
theorem bT.set{K:Fg}(hd:Rep K F d v):∀i {ds} {vs},bT K F ds vs->bT K F (ds.set i d) (vs.set i v)
 | _,[],_,h=>by cases h;exact rfl
 | 0,c::ds,vs,h=>by
  obtain⟨u,r,rfl,_,h2⟩:=h;exact⟨v,r,rfl,hd,h2⟩
 | i+1,c::ds,vs,h=>by
  obtain⟨u,r,rfl,h1,h2⟩:=h;exact⟨u,r.set i v,rfl,h1,bT.set hd i h2⟩
theorem bT.one{K:Fg}(h:Rep K F d v):bT K F [d] [v]:=⟨v,[],rfl,h,rfl⟩
abbrev Env:=List (Option (Bool×D))
inductive R (α:Type) where
 | ok (a:α) (env:Env)
 | stuck
abbrev Ev:=Env->R D
abbrev fX:=Env->R Bool
abbrev dq:=Env->R (List D)
structure Cfg where
 K:Fg
 fx:Nat->Option Addr
def j4(K:Fg)(F H:Hp):D->Addr->Prop
 | .lst xs,a=>xs.length<=sizeLine/\∃vs,H a=some (.lst vs)/\bT K F xs vs
 | .dct kvs,a=>kvs.length<=sizeLine/\∃ks,H a=some (.dK ks)/\fH K F kvs ks
 | .z6 kvs,a=>kvs.length<=sizeLine/\∃ks,H a=some (.dN ks)/\rP K F kvs ks
 | _,_=>False
theorem j4.mono{K:Fg}(e:aV F F')(k:H' a=H a)(h:j4 K F H d a):j4 K F' H' d a:=by
 cases d with
 | lst xs=>obtain⟨z,vs,h1,h2⟩:=h;exact⟨z,vs,k.trans h1,bT.mono e _ _ h2⟩
 | dct kvs=>obtain⟨z,ks,h1,h2⟩:=h;exact⟨z,ks,k.trans h1,fH.mono e _ _ h2⟩
 | z6 kvs=>obtain⟨z,ks,h1,h2⟩:=h;exact⟨z,ks,k.trans h1,rP.mono e _ _ h2⟩
 | _=>exact h
theorem j4.some{K:Fg}(h:j4 K F H d a):∃o,H a=some o:=by
 cases d with
 | lst xs=>obtain⟨z,vs,h1,h2⟩:=h;exact⟨_,h1⟩
 | dct kvs=>obtain⟨z,ks,h1,h2⟩:=h;exact⟨_,h1⟩
 | z6 kvs=>obtain⟨z,ks,h1,h2⟩:=h;exact⟨_,h1⟩
 | _=>exact h.elim
def j5(K:Fg)(F H:Hp)(d:D)(v:V):Prop:=Rep K F d v\/∃a,v = .ref a/\j4 K F H d a
theorem j5.rep{K:Fg}(s:aV F H)(h:j5 K F H d v):Rep K H d v:=by
 rcases h with h|⟨a,rfl,h⟩
 ·exact Rep.mono s d v h
 ·cases d with
  | lst xs=>obtain⟨z,vs,h1,h2⟩:=h;exact⟨z,a,vs,rfl,h1,bT.mono s _ _ h2⟩
  | dct kvs=>obtain⟨z,ks,h1,h2⟩:=h;exact⟨z,a,ks,rfl,.inl h1,fH.mono s _ _ h2⟩
  | z6 kvs=>obtain⟨z,ks,h1,h2⟩:=h;exact⟨z,a,ks,rfl,.inl h1,rP.mono s _ _ h2⟩
  | _=>exact h.elim
theorem j5.lst{K:Fg}(s:aV F H)(h:j5 K F H (.lst xs) v):xs.length<=sizeLine/\∃a vs,v = .ref a/\H a=some (.lst vs)/\bT K F xs vs:=by
 rcases h with ⟨z,a,vs,rfl,h1,h2⟩|⟨a,rfl,z,vs,h1,h2⟩
 ·exact⟨z,a,vs,rfl,s _ _ h1,h2⟩
 ·exact⟨z,a,vs,rfl,h1,h2⟩
theorem j5.arr{K:Fg}(s:aV F H)(h:j5 K F H (.arr xs) v):xs.length<=sizeLine/\∃a vs,v = .ref a/\nq K H a vs/\bT K F xs vs:=by
 rcases h with ⟨z,a,vs,rfl,h1,h2⟩|⟨a,rfl,h⟩
 ·exact⟨z,a,vs,rfl,s.seq h1,h2⟩
 ·exact h.elim
theorem j5.tup{K:Fg}(s:aV F H)(h:j5 K F H (.tup xs) v):xs.length<=sizeLine/\∃a vs,v = .ref a/\mQ K H a vs/\mQ K F a vs/\bT K F xs vs:=by
 rcases h with ⟨z,a,vs,rfl,h1,h2⟩|⟨a,rfl,h⟩
 ·exact⟨z,a,vs,rfl,aV.tupK s h1,h1,h2⟩
 ·exact h.elim
theorem j5.int{K:Fg}(h:j5 K F H (.int i) v):v = .int i:=by
 rcases h with h|⟨a,rfl,h⟩
 ·exact h
 ·exact h.elim
theorem j5.bl{K:Fg}(h:j5 K F H (.bl i) v):v = .bl i:=by
 rcases h with h|⟨a,rfl,h⟩
 ·exact h
 ·exact h.elim
theorem j5.non{K:Fg}(h:j5 K F H .non v):v = .non:=by
 rcases h with h|⟨a,rfl,h⟩
 ·exact h
 ·exact h.elim
theorem j5.str{K:Fg}(h:j5 K F H (.str x) v):v = .str (strOf x)/\x.length<=sizeLine:=by
 rcases h with h|⟨a,rfl,h⟩
 ·exact h
 ·exact h.elim
structure Rel(C:Cfg)(Pr F:Hp)(env:Env)(σ:L2.St)(H:Hp):Prop where
 pr:aV Pr H
 fr:aV F H
 len:env.length=σ.length
 val:∀(i:Nat) (d:D),env[i]? = some (some (false,d))->∃v,σ[i]? = some (some v)/\Rep C.K F d v
 own:∀(i:Nat) (d:D),env[i]? = some (some (true,d))->∃a,σ[i]? = some (some (V.ref a))/\j4 C.K F H d a/\F a=none/\Pr a=none
 apart:∀(i j:Nat) (d e:D) (a:Addr),env[i]? = some (some (true,d))->env[j]? = some (some (true,e))->σ[i]? = some (some (V.ref a))->σ[j]? = some (some (V.ref a))->i=j
 dj:∀b o,F b=some o->Pr b=none
 fix:∀i a,C.fx i=some a->σ[i]? = some (some (V.ref a))
theorem lB(h:H a=none):aV H (upd H a o):=λb u e=>by
 rw[cz (gq e h)];exact e
theorem Rel.new(r:Rel C Pr F env σ H)(h:H a=none):Rel C Pr (upd F a o) env σ (upd H a o)/\aV F (upd F a o):=by
 have hF:=r.fr.free h;have s1:aV F (upd F a o):=lB hF;refine⟨⟨r.pr.trans<|lB h,λb u e=>?_,r.len,λi d e1=>?_,λi d e1=>?_,r.apart,λb u e=>?_,r.fix⟩,s1⟩
 ·by_cases hb:b=a
  ·subst hb;rw[bC] at e ⊢;exact e
  ·rw[cz hb] at e ⊢;exact r.fr b u e
 ·obtain⟨v,h1,h2⟩:=r.val i d e1;exact⟨v,h1,Rep.mono s1 d v h2⟩
 ·obtain⟨b,h1,h2,h3,h4⟩:=r.own i d e1;obtain⟨u,hu⟩:=h2.some;have hb:=gq hu h;exact⟨b,h1,h2.mono s1<|cz hb,by rw[cz hb];exact h3,h4⟩
 ·by_cases hb:b=a
  ·subst hb;exact r.pr.free h
  ·rw[cz hb] at e;exact r.dj b u e
theorem Rel.fresh(r:Rel C Pr F env σ H)(h:H a=none):Rel C Pr F env σ (upd H a o):=by refine⟨r.pr.trans<|lB h,r.fr.trans<|lB h,r.len,r.val,λi d e1=>?_,r.apart,r.dj,r.fix⟩;obtain⟨b,h1,h2,h3,h4⟩:=r.own i d e1;obtain⟨u,hu⟩:=h2.some;have hb:=gq hu h;exact⟨b,h1,h2.mono (aV.refl F)<|cz hb,h3,h4⟩
theorem Rel.aside(r:Rel C Pr F env σ H)(h:H a=none):Rel C (upd Pr a o) F env σ (upd H a o):=by
 have r':=r.fresh (o:=o) h;have hF:=r.fr.free h;refine⟨λb u e=>?_,r'.fr,r.len,r.val,λi d e1=>?_,r.apart,λb u e=>?_,r.fix⟩
 ·by_cases hb:b=a
  ·subst hb;rw[bC] at e ⊢;exact e
  ·rw[cz hb] at e ⊢;exact r.pr b u e
 ·obtain⟨b,h1,h2,h3,h4⟩:=r'.own i d e1;obtain⟨b',h1',h2',_⟩:=r.own i d e1;rw[h1] at h1';cases h1';obtain⟨u,hu⟩:=h2'.some;have hb:=gq hu h;exact⟨b,h1,h2,h3,by rw[cz hb];exact h4⟩
 ·have hb:b≠a:=λz=>by simp_all
  rw[cz hb];exact r.dj b u e
theorem Rel.turn(r:Rel C Pr F env σ H)(h:Pr a=some o):Rel C (upd Pr a u) F env σ (upd H a u):=by
 have hF:F a=none:=by
  cases e:F a with
  | none=>rfl
  | some w=>have:=r.dj a w e;rw[h] at this;cases this
 refine⟨λb w e=>?_,λb w e=>?_,r.len,r.val,λi d e1=>?_,r.apart,λb w e=>?_,r.fix⟩
 ·by_cases hb:b=a
  ·subst hb;rw[bC] at e ⊢;exact e
  ·rw[cz hb] at e ⊢;exact r.pr b w e
 ·have hb:b≠a:=λz=>by simp_all
  rw[cz hb];exact r.fr b w e
 ·obtain⟨b,h1,h2,h3,h4⟩:=r.own i d e1;have hb:b≠a:=λz=>by simp_all
  exact⟨b,h1,h2.mono (aV.refl F)<|cz hb,h3,by rw[cz hb];exact h4⟩
 ·have hb:b≠a:=λz=>by simp_all
  rw[cz hb];exact r.dj b w e
theorem Rel.less(r:Rel C Pr F env σ H)(s:aV Pr' Pr):Rel C Pr' F env σ H:=
 ⟨s.trans r.pr,r.fr,r.len,r.val,λi d e=>let ⟨b,h1,h2,h3,h4⟩:=r.own i d e;⟨b,h1,h2,h3,s.free h4⟩,r.apart,λb o e=>s.free<|r.dj b o e,r.fix⟩
theorem Rel.freeze(r:Rel C Pr F env σ H)(h:env[i]? = some (some (true,d))) :
  ∃F' v,Rel C Pr F' (env.set i (some (false,d))) σ H/\aV F F'/\σ[i]? = some (some v)/\Rep C.K F' d v:=by
 obtain⟨a,h1,h2,h3,h4⟩:=r.own i d h;obtain⟨o,ho⟩:=h2.some;have s1:aV F (upd F a o):=lB h3;have hi:=(Qwz.mp h).1;have rep:Rep C.K (upd F a o) d (.ref a):=by
  cases d with
  | lst xs=>obtain⟨z,vs,g1,g2⟩:=h2;rw[ho] at g1;cases g1;exact⟨z,a,vs,rfl,bC,bT.mono s1 _ _ g2⟩
  | dct kvs=>obtain⟨z,ks,g1,g2⟩:=h2;rw[ho] at g1;cases g1;exact⟨z,a,ks,rfl,.inl bC,fH.mono s1 _ _ g2⟩
  | z6 kvs=>obtain⟨z,ks,g1,g2⟩:=h2;rw[ho] at g1;cases g1;exact⟨z,a,ks,rfl,.inl bC,rP.mono s1 _ _ g2⟩
  | _=>exact h2.elim
 refine⟨upd F a o,.ref a,⟨r.pr,λb u e=>?_,by rw[Qz4];exact r.len,λj e he=>?_,λj e he=>?_,λj k e f b hj hk g1 g2=>?_,λb u e=>?_,r.fix⟩,s1,h1,rep⟩
 ·by_cases hb:b=a
  ·subst hb;rw[bC] at e;cases e;exact ho
  ·rw[cz hb] at e;exact r.fr b u e
 ·by_cases hj:j=i
  ·simp_all
  ·rw[Qwq (Ne.symm hj)] at he;obtain⟨v,g1,g2⟩:=r.val j e he;exact⟨v,g1,Rep.mono s1 e v g2⟩
 ·by_cases hj:j=i
  ·simp_all
  ·rw[Qwq (Ne.symm hj)] at he;obtain⟨b,g1,g2,g3,g4⟩:=r.own j e he;have hb:b≠a:=λz=>hj<|r.apart j i e d a he h (by simp_all) h1;exact⟨b,g1,g2.mono s1 rfl,by rw[cz hb];exact g3,g4⟩
 ·have nj:j≠i:=λz=>by simp_all
  have nk:k≠i:=λz=>by simp_all
  rw[Qwq (Ne.symm nj)] at hj;rw[Qwq (Ne.symm nk)] at hk;exact r.apart j k e f b hj hk g1 g2
 ·by_cases hb:b=a
  ·simp_all
  ·rw[cz hb] at e;exact r.dj b u e
inductive tE (C:Cfg) (ev:Ev) (σ:L2.St) (H:Hp) (Q:L2.VK):Prop
 | mk (Pr F:Hp) (env env':Env) (d:D) (_:Rel C Pr F env σ H) (_:ev env = .ok d env') (_:∀v H' F',Rel C Pr F' env' σ H'->aV F F'->Rep C.K F' d v->Q v H'):tE C ev σ H Q
inductive tRd (C:Cfg) (ev:Ev) (σ:L2.St) (H:Hp) (Q:L2.VK):Prop
 | mk (Pr F:Hp) (env env':Env) (d:D) (_:Rel C Pr F env σ H) (_:ev env = .ok d env') (_:∀v H' F',Rel C Pr F' env' σ H'->aV F F'->j5 C.K F' H' d v->Q v H'):tRd C ev σ H Q
inductive tT (C:Cfg) (ev:fX) (σ:L2.St) (H:Hp) (Q:Bool->Hp->Prop):Prop
 | mk (Pr F:Hp) (env env':Env) (b:Bool) (_:Rel C Pr F env σ H) (_:ev env = .ok b env') (_:∀H' F',Rel C Pr F' env' σ H'->aV F F'->Q b H'):tT C ev σ H Q
inductive tA (C:Cfg) (ev:dq) (σ:L2.St) (H:Hp) (Q:List L2.V->Hp->Prop):Prop
 | mk (Pr F:Hp) (env env':Env) (ds:List D) (_:Rel C Pr F env σ H) (_:ev env = .ok ds env') (_:∀vs H' F',Rel C Pr F' env' σ H'->aV F F'->bT C.K F' ds vs->Q vs H'):tA C ev σ H Q
def PX(X:Cx)(C:Cfg)(e:Expr)(ev:Ev):Prop:=PE X e (tE C ev)
def PXB(X:Cx)(C:Cfg)(e:Expr)(ev:Ev):Prop:=PE X e (tRd C ev)
def PXT(X:Cx)(C:Cfg)(e:Expr)(ev:fX):Prop:=PT X e (tT C ev)
def Y8(X:Cx)(C:Cfg)(es:List Expr)(ev:dq):Prop:=PA X es (tA C ev)
theorem _root_.L2.PE.imp{X:Cx}{e:Expr}{t t':TE}(h:PE X e t)(i:∀σ H Q,t' σ H Q->t σ H Q):PE X e t':=λpins s σ H Q I q=>h pins s σ H Q I<|i σ H Q q
theorem _root_.L2.PT.imp{X:Cx}{e:Expr}{t t':TT}(h:PT X e t)(i:∀σ H Q,t' σ H Q->t σ H Q):PT X e t':=λpins s σ H Q I q=>h pins s σ H Q I<|i σ H Q q
theorem _root_.L2.PW.imp{X:Cx}{e:Expr}{t t':TT}(h:PW X e t)(i:∀σ H Q,t' σ H Q->t σ H Q):PW X e t':=λwhole pins s σ H Q I q=>h whole pins s σ H Q I<|i σ H Q q
theorem _root_.L2.PA.imp{X:Cx}{e:List Expr}{t t':TA}(h:PA X e t)(i:∀σ H Q,t' σ H Q->t σ H Q):PA X e t':=λpos pins s σ H Q I q=>h pos pins s σ H Q I<|i σ H Q q
theorem _root_.L2.PS.imp{X:Cx}{e:Stmt}{t t':TS}(h:PS X e t)(i:∀D σ H,t' D σ H->t D σ H):PS X e t':=λpins s σ H D I q=>h pins s σ H D I<|i D σ H q
theorem _root_.L2.Rq.imp{X:Cx}{e:List Stmt}{t t':TS}(h:Rq X e t)(i:∀D σ H,t' D σ H->t D σ H):Rq X e t':=λpins s σ H D I q=>h pins s σ H D I<|i D σ H q
noncomputable def bindR{α β:Type}(x:R α)(f:α->Env->R β):R β:=match x with
 | .ok a env=>f a env
 | .stuck=>.stuck
noncomputable def fG{α:Type}(o:Option α)(env:Env):R α:=match o with
 | some a=>.ok a env
 | none=>.stuck
theorem aO{α β:Type}{x:R α}{f:α->Env->R β}{b:β}(h:bindR x f = .ok b env'):∃a aG,x = .ok a aG/\f a aG = .ok b env':=by
 cases x with
 | ok a aG=>exact⟨a,aG,rfl,h⟩
 | stuck=>cases h
theorem du{α:Type}{o:Option α}{a:α}(h:fG o env = .ok a env'):o=some a/\env'=env:=by
 cases o with
 | some b=>cases h;exact⟨rfl,rfl⟩
 | none=>cases h
section
variable{X:Cx}{C:Cfg}{pos:Pos}
noncomputable def aM(i:Nat):Ev:=λenv=>match env[i]? with
 | some (some (false,d))=>.ok d env
 | some (some (true,d))=>.ok d (env.set i (some (false,d)))
 | _=>.stuck
theorem ag1(i)(hN:X.N[i]? = some x)(hv:yd X.env.scope x)(hd:oW x:=by decide)(hcd:yP x:=by decide):PX X C (.Name x pos) (aM i):=by
 refine(kj hN hv hd hcd).imp λσ H Q h=>?_;obtain⟨Pr,F,env,env',d,r,e,q⟩:=h;unfold aM at e;split at e
 ·rename_i d' hd';cases e;obtain⟨v,h1,h2⟩:=r.val i d hd';exact⟨v,h1,q v H F r (aV.refl F) h2⟩
 ·rename_i d' hd';cases e;obtain⟨F',v,r',s',h1,h2⟩:=r.freeze hd';exact⟨v,h1,q v H F' r' s' h2⟩
 ·cases e
theorem PX.b(h:PX X C e ev):PXB X C e ev:=PE.imp h λσ H Q hq=>by
 obtain⟨Pr,F,env,env',d,r,e,q⟩:=hq;exact⟨Pr,F,env,env',d,r,e,λv H' F' r' s' p'=>q v H' F' r' s'<|.inl p'⟩
noncomputable def bh(i:Nat):Ev:=λenv=>match env[i]? with
 | some (some (_,d))=>.ok d env
 | _=>.stuck
theorem Rel.rd(r:Rel C Pr F env σ H){i:Nat}(h:env[i]? = some (some (o,d))):∃v,σ[i]? = some (some v)/\j5 C.K F H d v:=by
 cases o with
 | true=>obtain⟨a,h1,h2,_⟩:=r.own i d h;exact⟨_,h1,.inr ⟨a,rfl,h2⟩⟩
 | false=>obtain⟨v,h1,h2⟩:=r.val i d h;exact⟨v,h1,.inl h2⟩
theorem adG(i)(hN:X.N[i]? = some x)(hv:yd X.env.scope x)(hd:oW x:=by decide)(hcd:yP x:=by decide):PXB X C (.Name x pos) (bh i):=by
 refine(kj hN hv hd hcd).imp λσ H Q h=>?_;obtain⟨Pr,F,env,env',d,r,e,q⟩:=h;unfold bh at e;split at e
 ·rename_i o' d' hd';cases e;obtain⟨v,h1,h2⟩:=r.rd hd';exact⟨v,h1,q v H F r (aV.refl F) h2⟩
 ·cases e
noncomputable def j7(d:D):Ev:=λenv=>.ok d env
theorem ag6:PX X C (.Constant (.int i) j pos) (j7 (.int i)):=aaM.imp λσ H Q h=>by
 obtain⟨Pr,F,env,env',d,r,e,q⟩:=h;cases e;exact q _ _ F r (aV.refl F) rfl
theorem alh:PX X C (.Constant (.bool b) j pos) (j7 (.bl b)):=aln.imp λσ H Q h=>by
 obtain⟨Pr,F,env,env',d,r,e,q⟩:=h;cases e;exact q _ _ F r (aV.refl F) rfl
theorem ag4:PX X C (.Constant .none j pos) (j7 .non):=ahm.imp λσ H Q h=>by
 obtain⟨Pr,F,env,env',d,r,e,q⟩:=h;cases e;exact q _ _ F r (aV.refl F) rfl
noncomputable def aj:dq:=λenv=>.ok [] env
def aa(a:Ev)(r:dq):dq:=λenv=>bindR (a env) λd aG=>bindR (r aG) λds dD=>.ok (d::ds) dD
theorem Vh:Y8 X C [] aj:=pW.imp λσ H Q h=>by
 obtain⟨Pr,F,env,env',d,r,e,q⟩:=h;cases e;exact q _ _ F r (aV.refl F) rfl
theorem Pb(ha:PX X C e a)(hr:Y8 X C es r)(hs:starEach (e::es) X.env=(false,eval e X.env)::starEach es X.env:=by rfl):Y8 X C (e::es) (aa a r):=
 (iK ha hr hs).imp λσ H Q h=>by
  obtain⟨Pr,F,env,env',ds,rl,e,q⟩:=h;obtain⟨d1,aG,e1,e2⟩:=aO e;obtain⟨Fi,dD,e3,e4⟩:=aO e2;cases e4;refine⟨Pr,F,env,aG,d1,rl,e1,λv H1 F1 r1 s1 p1=>?_⟩;refine⟨Pr,F1,aG,env',Fi,r1,e3,λvs H2 F2 r2 s2 p2=>?_⟩;exact q _ H2 F2 r2 (s1.trans s2) ⟨v,vs,rfl,Rep.mono s2 d1 v p1,p2⟩
def cI(r:dq):Ev:=λenv=>bindR (r env) λds aG=>if ds.length<=sizeLine then .ok (.tup ds) aG else .stuck
def dF(r:dq):Ev:=λenv=>bindR (r env) λds aG=>if ds.length<=sizeLine then .ok (.lst ds) aG else .stuck
def aN(g:D->D->Option D)(a b:Ev):Ev:=λenv=>bindR (a env) λx aG=>bindR (b aG) λy dD=>fG (g x y) dD
def dY(g:D->Option D)(a:Ev):Ev:=λenv=>bindR (a env) λx aG=>fG (g x) aG
def qg(C:Cfg)(r:R2)(g:D->D->Option D):Prop:=∀(Pr F:Hp) (env:Env) (σ:L2.St) (H:Hp) (x y d:D) (vx vy:V) (Q:VK),Rel C Pr F env σ H->j5 C.K F H x vx->j5 C.K F H y vy->g x y=some d->
 (∀v H' F',Rel C Pr F' env σ H'->aV F F'->Rep C.K F' d v->Q v H')->r vx vy H Q
def UnD(C:Cfg)(r:V->Hp->VK->Prop)(g:D->Option D):Prop:=∀(Pr F:Hp) (env:Env) (σ:L2.St) (H:Hp) (x d:D) (vx:V) (Q:VK),Rel C Pr F env σ H->j5 C.K F H x vx->g x=some d->
 (∀v H' F',Rel C Pr F' env σ H'->aV F F'->Rep C.K F' d v->Q v H')->r vx H Q
theorem M4(o:qg C r g)(σ)(H)(Q)(h:tE C (aN g a b) σ H Q):tOp r (tE C a) (tRd C b) σ H Q:=by obtain⟨Pr,F,env,env',d,rl,e,q⟩:=h;obtain⟨x,aG,e1,e2⟩:=aO e;obtain⟨y,dD,e3,e4⟩:=aO e2;obtain⟨e5,rfl⟩:=du e4;refine⟨Pr,F,env,aG,x,rl,e1,λvx H1 F1 r1 s1 p1=>⟨Pr,F1,aG,env',y,r1,e3,λvy H2 F2 r2 s2 p2=>?_⟩⟩;exact o Pr F2 env' σ H2 x y d vx vy Q r2 (.inl<|Rep.mono s2 x vx p1) p2 e5 λv H3 F3 r3 s3 p3=>q v H3 F3 r3 ((s1.trans s2).trans s3) p3
def ao(g:D->D->Option D)(i:Nat)(b:Ev):Ev:=λenv=>match env[i]? with
 | some (some (_,_))=>bindR (b env) λy dD=>(match dD[i]? with
  | some (some (_,x))=>fG (g x y) dD
  | _=>.stuck)
 | _=>.stuck
theorem xQ(o:qg C r g)(σ)(H)(Q)(h:tE C (ao g i b) σ H Q):tOp r (aky i) (tRd C b) σ H Q:=by
 obtain⟨Pr,F,env,env',d,rl,e,q⟩:=h;unfold ao at e;split at e
 ·rename_i o0 d0 h0;obtain⟨v,hv,_⟩:=rl.rd h0;obtain⟨y,dD,e1,e2⟩:=aO e;split at e2
  ·rename_i o2 x h2;obtain⟨e5,rfl⟩:=du e2;refine⟨v,hv,Pr,F,env,env',y,rl,e1,λvy H2 F2 r2 s2 p2=>?_⟩;obtain⟨v',hv',p⟩:=r2.rd h2;rw[hv] at hv';cases hv';exact o Pr F2 env' σ H2 x y d v vy Q r2 p p2 e5 λv H3 F3 r3 s3 p3=>q v H3 F3 r3 (s2.trans s3) p3
  ·cases e2
 ·cases e
theorem ale(ho:nu X (binaryOp op) r)(o:qg C r g)(ha:PX X C x a)(hb:PXB X C y b):PX X C (.BinOp x op y pos) (aN g a b):=
 (afX ho ha hb).imp (M4 o)
theorem ag3{px:Pos}(i)(hN:X.N[i]? = some x)(hv:yd X.env.scope x)(ho:nu X (binaryOp op) r)(o:qg C r g)(hb:PXB X C y b)
  (hd:oW x:=by decide) (hcd:yP x:=by decide):PX X C (.BinOp (.Name x px) op y pos) (ao g i b):=
 (afX ho (kj hN hv hd hcd) hb).imp (xQ o)
theorem ag7(ho:nu X (compareOp op) r)(o:qg C r g)(ha:PX X C x a)(hb:PXB X C y b)(hm:behindInMarks op y=false):PX X C (.Compare x [op] [y] pos) (aN g a b):=
 (Vk ho ha hb hm).imp (M4 o)
theorem alc(ho:UnR X (unaryOp op) r)(o:UnD C r g)(ha:PX X C x a):PX X C (.UnaryOp op x pos) (dY g a):=
 (afW ho ha).imp λσ H Q h=>by
  obtain⟨Pr,F,env,env',d,rl,e,q⟩:=h;obtain⟨x,aG,e1,e2⟩:=aO e;obtain⟨e3,rfl⟩:=du e2;exact⟨Pr,F,env,env',x,rl,e1,λvx H1 F1 r1 s1 p1=>o Pr F1 env' σ H1 x d vx Q r1 (.inl p1) e3 λv H3 F3 r3 s3 p3=>q v H3 F3 r3 (s1.trans s3) p3⟩
def cX(a:Ev):fX:=λenv=>bindR (a env) λd aG=>match d with
 | .bl b=>.ok b aG
 | _=>.stuck
theorem Ob(h:tT C (cX a) σ H Q):tE C a σ H λx H'=>∃k,x = .bl k/\Q k H':=by
 obtain⟨Pr,F,env,env',b,rl,e,q⟩:=h;obtain⟨d,aG,e1,e2⟩:=aO e;refine⟨Pr,F,env,aG,d,rl,e1,λv H1 F1 r1 s1 p1=>?_⟩;cases d with
 | bl c=>cases e2;exact⟨_,p1,q H1 F1 r1 s1⟩
 | _=>cases e2
theorem adx(ho:nu X (compareOp op) r)(o:qg C r g)(ha:PX X C x a)(hb:PXB X C y b)(hm:behindInMarks op y=false):PXT X C (.Compare x [op] [y] pos) (cX (aN g a b)):=
 (Vi ho ha hb hm).imp λσ H Q h=>by
  have h1:=Ob h;exact M4 o σ H _ h1
def cZ(a:fX):fX:=λenv=>bindR (a env) λb aG=>.ok (!b) aG
def fZ(a b:fX):fX:=λenv=>bindR (a env) λc aG=>if c=true then b aG else .ok false aG
def iI(a b:fX):fX:=λenv=>bindR (a env) λc aG=>if c=true then .ok true aG else b aG
def PXW(X:Cx)(C:Cfg)(e:Expr)(ev:fX):Prop:=PW X e (tT C ev)
theorem PXW.pt(h:PXW X C e a):PXT X C e a:=PW.pt h
def gw(a b:Ev):Ev:=λenv=>bindR (a env) λc aG=>match c with
 | .bl true=>b aG
 | .bl false=>.ok (.bl false) aG
 | _=>.stuck
def Yl(a b:Ev):Ev:=λenv=>bindR (a env) λc aG=>match c with
 | .bl true=>.ok (.bl true) aG
 | .bl false=>b aG
 | _=>.stuck
def Ez(a:Ev):Ev:=λenv=>bindR (a env) λc aG=>match c with
 | .bl b=>.ok (.bl (!b)) aG
 | _=>.stuck
def ao7(t:fX)(a b:Ev):Ev:=λenv=>bindR (t env) λc aG=>if c=true then a aG else b aG
end
noncomputable def zZ(f:D->D->Option Bool):List D->List D->Option Bool
 | [],[]=>some true
 | x::xs,y::ys=>match f x y,zZ f xs ys with
  | some a,some b=>some (a&&b)
  | _,_=>none
 | [],_::_=>some false
 | _::_,[]=>some false
noncomputable def od:D->Option Bool
 | .dct _=>none
 | .z6 _=>none
 | .clo _ _=>none
 | .arr _=>none
 | _=>some false
noncomputable def jj:Nat->D->D->Option Bool
 | 0,_,_=>none
 | n+1,d,e=>match d with
  | .tup xs=>match e with|.tup ys=>zZ (jj n) xs ys|_=>od e
  | .lst xs=>match e with|.lst ys=>zZ (jj n) xs ys|_=>od e
  | .non=>match e with|.non=>some true|_=>od e
  | .bl a=>match e with|.bl b=>some (a == b)|.int b=>some ((if a then 1 else 0) == b)|_=>od e
  | .int a=>match e with|.bl b=>some (a == (if b then 1 else 0))|.int b=>some (a == b)|_=>od e
  | .str a=>match e with|.str b=>some (a == b)|_=>od e
  | _=>none
mutual
noncomputable def Sh(h:Heap):D->Value->Prop
 | .non,u=>u = .none
 | .bl b,u=>u = .bool b
 | .int i,u=>∃t,u = .int i t
 | .str x,u=>∃t,u = .str (strOf x) t
 | .tup xs,u=>∃a its,u = .ref a/\IsTup h a its.toArray/\Kf h xs its
 | .lst xs,u=>∃a its,u = .ref a/\PlainL h a its.toArray/\Kf h xs its
 | .arr xs,u=>∃a its,u = .ref a/\PlainL h a its.toArray/\Kf h xs its
 | .dct _,u=>∃a o,u = .ref a/\h.get? a=some o/\o.ExactDict
 | .z6 _,u=>∃a o,u = .ref a/\h.get? a=some o/\o.ExactDict
 | .clo _ _,u=>∃a,u = .ref a
noncomputable def Kf(h:Heap):List D->List Value->Prop
 | [],us=>us=[]
 | d::ds,us=>∃u r,us=u::r/\Sh h d u/\Kf h ds r
end
theorem Kf.length:∀{ds} {us},Kf h ds us->us.length=ds.length
 | [],_,e=>by cases e;rfl
 | d::ds,us,e=>by obtain⟨u,r,rfl,_,h2⟩:=e;rw[Qqw,Qqw,h2.length]
section
variable{X:Cx}{pins:List (Addr×Obj)}{σ:L2.St}{H:Hp}{s:Shared}
mutual
theorem Rep.sh(I:Inv X pins σ H s):∀(d:D) (v:V) (u:Value),Rep X.K H d v->RelV v u->Sh s.heap d u
 | .non,_,_,h,r=>by cases h;exact r
 | .bl _,_,_,h,r=>by cases h;exact r
 | .int _,_,_,h,r=>by cases h;exact r
 | .str _,_,_,h,r=>by obtain⟨h,_⟩:=h;cases h;exact r
 | .tup xs,v,u,h,r=>by
  obtain⟨z,a,vs,rfl,h1,h2⟩:=h;cases r;obtain⟨its,rv,p,_⟩:=I.tuple h1;exact⟨a,its,rfl,p,bT.sh I xs vs its h2 rv⟩
 | .lst xs,v,u,h,r=>by
  obtain⟨z,a,vs,rfl,h1,h2⟩:=h;cases r;obtain⟨its,rv,p,_⟩:=I.list (nq.of h1);exact⟨a,its,rfl,p,bT.sh I xs vs its h2 rv⟩
 | .arr xs,v,u,h,r=>by
  obtain⟨z,a,vs,rfl,h1,h2⟩:=h;cases r;obtain⟨its,rv,p,_⟩:=I.list h1;exact⟨a,its,rfl,p,bT.sh I xs vs its h2 rv⟩
 | .dct kvs,v,u,h,r=>by
  obtain⟨z,a,ks,rfl,h1,h2⟩:=h;cases r;obtain⟨_,_,vs,_,o,_,_,e,ex,_⟩:=h1.ok I.hok;exact⟨a,o,rfl,e,ex⟩
 | .z6 kvs,v,u,h,r=>by
  obtain⟨z,a,ks,rfl,h1,h2⟩:=h;cases r;obtain⟨_,_,vs,_,o,_,_,e,ex,_⟩:=h1.ok I.hok;exact⟨a,o,rfl,e,ex⟩
 | .clo st ds,v,u,h,r=>by
  obtain⟨a,vs,rfl,h1,h2⟩:=h;cases r;exact⟨a,rfl⟩
theorem bT.sh(I:Inv X pins σ H s):∀(ds:List D) (vs:List V) (us:List Value),bT X.K H ds vs->Vals vs us->Kf s.heap ds us
 | [],_,_,h,r=>by cases h;cases r;exact rfl
 | d::ds,vs,us,h,r=>by
  obtain⟨v,rr,rfl,h1,h2⟩:=h;cases r with
  | cons q qs=>exact⟨_,_,rfl,Rep.sh I d v _ h1 q,bT.sh I ds rr _ h2 qs⟩
end
end
theorem U6(p:IsTup h a xs)(q:IsTup h a ys):xs=ys:=by
 obtain⟨o,e,_,n,d⟩:=p;obtain⟨o',e',_,n',d'⟩:=q
 simp_all
theorem Vp(p:PlainL h a xs)(q:PlainL h a ys):xs=ys:=by
 obtain⟨o,e,_,n,d⟩:=p.isList;obtain⟨o',e',_,n',d'⟩:=q.isList
 simp_all
theorem Bh(p:IsTup h a xs)(q:PlainL h a ys):False:=by
 obtain⟨o,e,c,n,d⟩:=p;obtain⟨o',e',c',n',d'⟩:=q.isList
 simp_all
theorem QR:∀n d e u b,Sh h d u->Sh h e u->jj n d e=some b->b=true
 | 0,_,_,_,_,_,_,hb=>by simp[jj,od] at hb
 | n+1,d,e,u,b,hd,he,hb=>by
  have all:∀xs ys us b,Kf h xs us->Kf h ys us->zZ (jj n) xs ys=some b->b=true:=by
   intro xs
   induction xs with
   | nil=>
    intro ys us b h1 h2 hb;cases h1;cases ys with
    | nil=>simp[zZ] at hb;exact hb
    | cons y ys=>obtain⟨u,r,q,_⟩:=h2;cases q
   | cons x xs ih=>
    intro ys us b h1 h2 hb;obtain⟨u,r,rfl,h3,h4⟩:=h1;cases ys with
    | nil=>cases h2
    | cons y ys=>
     obtain⟨u',r',q,h5,h6⟩:=h2;cases q;unfold zZ at hb;cases q1:jj n x y with
     | none=>simp_all
     | some c=>
      cases q2:zZ (jj n) xs ys with
      | none=>simp_all
      | some c'=>
       rw[q1,q2] at hb;have e1:=QR n x y u c h3 h5 q1
       grind
  cases d with
  | non=>cases hd;cases e<;>simp[Sh] at he;simp[jj,od] at hb;exact hb
  | bl c=>cases hd;cases e<;>simp[Sh] at he;subst he;simp[jj,od] at hb;exact hb
  | int i=>obtain⟨t,rfl⟩:=hd;cases e<;>simp[Sh] at he;subst he;simp[jj,od] at hb;exact hb
  | str x=>
   obtain⟨t,rfl⟩:=hd;cases e with
   | str y=>
    obtain⟨t',q⟩:=he;injection q with q1 _
    unfold strOf at q1;injection q1 with q2
    have q3:=Qzx Array.toList q2;simp at q3;subst q3;simp[jj,od] at hb;exact hb
   | _=>simp[Sh] at he
  | tup xs=>
   obtain⟨a,its,rfl,p,hs⟩:=hd;cases e with
   | tup ys=>
    obtain⟨a',its',q,p',hs'⟩:=he;cases q;have e2:its=its':=by simpa using U6 p p'
    subst e2;exact all xs ys its b hs hs' (by assumption)
   | lst ys=>
    obtain⟨a',its',q,p',hs'⟩:=he;cases q;exact(Bh p p').elim
   | dct kvs=>simp[jj,od] at hb
   | z6 kvs=>simp[jj,od] at hb
   | clo _ _=>simp[jj,od] at hb
   | arr kvs=>simp[jj,od] at hb
   | _=>simp[Sh] at he
  | lst xs=>
   obtain⟨a,its,rfl,p,hs⟩:=hd;cases e with
   | lst ys=>
    obtain⟨a',its',q,p',hs'⟩:=he;cases q;have e2:its=its':=by simpa using Vp p p'
    subst e2;exact all xs ys its b hs hs' (by assumption)
   | tup ys=>
    obtain⟨a',its',q,p',hs'⟩:=he;cases q;exact(Bh p' p).elim
   | dct kvs=>simp[jj,od] at hb
   | z6 kvs=>simp[jj,od] at hb
   | clo _ _=>simp[jj,od] at hb
   | arr kvs=>simp[jj,od] at hb
   | _=>simp[Sh] at he
  | dct kvs=>cases e<;>simp[jj,od] at hb
  | z6 kvs=>cases e<;>simp[jj,od] at hb
  | clo _ _=>cases e<;>simp[jj,od] at hb
  | arr kvs=>cases e<;>simp[jj,od] at hb
theorem V4:∀n d d' e u b b',Sh h d u->Sh h d' u->jj n d e=some b->jj n d' e=some b'->b=b'
 | 0,_,_,_,_,_,_,_,_,hb,_=>by simp[jj,od] at hb
 | n+1,d,d',e,u,b,b',hd,hd',hb,hb'=>by
  have all:∀xs xs' ys us b b',Kf h xs us->Kf h xs' us->zZ (jj n) xs ys=some b->zZ (jj n) xs' ys=some b'->b=b':=by
   intro xs
   induction xs with
   | nil=>
    intro xs' ys us b b' h1 h2 hb hb';cases h1;cases xs' with
    | nil=>simp_all
    | cons y ys=>obtain⟨u,r,q,_⟩:=h2;cases q
   | cons x xs ih=>
    intro xs' ys us b b' h1 h2 hb hb';obtain⟨u,r,rfl,h3,h4⟩:=h1;cases xs' with
    | nil=>cases h2
    | cons x' xs'=>
     obtain⟨u',r',q,h5,h6⟩:=h2;cases q;cases ys with
     | nil=>simp[zZ] at hb hb';rw[hb,hb']
     | cons y ys=>
      unfold zZ at hb hb';cases q1:jj n x y with
      | none=>simp_all
      | some c=>
       cases q2:zZ (jj n) xs ys with
       | none=>simp_all
       | some c2=>
        cases q3:jj n x' y with
        | none=>simp_all
        | some c3=>
         cases q4:zZ (jj n) xs' ys with
         | none=>simp_all
         | some c4=>
          rw[q1,q2] at hb;rw[q3,q4] at hb';have e1:=V4 n x x' y u c c3 h3 h5 q1 q3
          grind
  cases d with
  | non=>cases hd;cases d'<;>simp[Sh] at hd';rw[hb] at hb';exact Qw4 hb'
  | bl c=>cases hd;cases d'<;>simp[Sh] at hd';subst hd';rw[hb] at hb';exact Qw4 hb'
  | int i=>obtain⟨t,rfl⟩:=hd;cases d'<;>simp[Sh] at hd';subst hd';rw[hb] at hb';exact Qw4 hb'
  | str x=>
   obtain⟨t,rfl⟩:=hd;cases d' with
   | str y=>
    obtain⟨t',q⟩:=hd';injection q with q1 _
    unfold strOf at q1
    simp_all
   | _=>simp[Sh] at hd'
  | tup xs=>
   obtain⟨a,its,rfl,p,hs⟩:=hd;cases d' with
   | tup xs'=>
    obtain⟨a',its',q,p',hs'⟩:=hd';cases q;have e2:its=its':=by simpa using U6 p p'
    subst e2;cases e with
    | tup ys=>exact all xs xs' ys its b b' hs hs' (by assumption) (by assumption)
    | _=>first|(simp[jj,od] at hb;done)|(simp only[jj,od,Qjy] at hb hb';rw[<-hb,<-hb'])
   | lst ys=>
    obtain⟨a',its',q,p',hs'⟩:=hd';cases q;exact(Bh p p').elim
   | dct kvs=>cases e<;>simp[jj,od] at hb'
   | z6 kvs=>cases e<;>simp[jj,od] at hb'
   | clo _ _=>cases e<;>simp[jj,od] at hb'
   | arr kvs=>cases e<;>simp[jj,od] at hb'
   | _=>simp[Sh] at hd'
  | lst xs=>
   obtain⟨a,its,rfl,p,hs⟩:=hd;cases d' with
   | lst xs'=>
    obtain⟨a',its',q,p',hs'⟩:=hd';cases q;have e2:its=its':=by simpa using Vp p p'
    subst e2;cases e with
    | lst ys=>exact all xs xs' ys its b b' hs hs' (by assumption) (by assumption)
    | _=>first|(simp[jj,od] at hb;done)|(simp only[jj,od,Qjy] at hb hb';rw[<-hb,<-hb'])
   | tup ys=>
    obtain⟨a',its',q,p',hs'⟩:=hd';cases q;exact(Bh p' p).elim
   | dct kvs=>cases e<;>simp[jj,od] at hb'
   | z6 kvs=>cases e<;>simp[jj,od] at hb'
   | clo _ _=>cases e<;>simp[jj,od] at hb'
   | arr kvs=>cases e<;>simp[jj,od] at hb'
   | _=>simp[Sh] at hd'
  | dct kvs=>cases e<;>simp[jj,od] at hb
  | z6 kvs=>cases e<;>simp[jj,od] at hb
  | clo _ _=>cases e<;>simp[jj,od] at hb
  | arr kvs=>cases e<;>simp[jj,od] at hb
theorem yj(x y):(strOf x == strOf y)=(x == y):=by
 rw[Qj5];simp[beq_iff_eq];constructor
 ·intro e;unfold strOf at e
  simp_all
 simp_all
theorem V5:∀{f} {xs ys},xs.length≠ys.length->∀b,zZ f xs ys=some b->b=false
 | f,[],[],h,b,e=>absurd rfl h
 | f,[],_::_,_,b,e=>by simp[zZ] at e;exact e
 | f,_::_,[],_,b,e=>by simp[zZ] at e;exact e
 | f,x::xs,y::ys,h,b,e=>by
  unfold zZ at e;cases h1:f x y with
  | none=>simp_all
  | some c=>
   cases h2:zZ f xs ys with
   | none=>simp_all
   | some d=>
    rw[h1,h2] at e;have:=V5 (by simpa using h) d h2
    simp_all
theorem Uk:∀{f} xs ys b,zZ f xs ys=some b->∃e,(∀j x y,xs[j]? = some x->ys[j]? = some y->f x y=some (e j))/\b=((List.range (min xs.length ys.length)).all e&&xs.length == ys.length)
 | f,[],ys,b,h=>by
  refine⟨λ_=>true,λj x y hx=>by simp at hx,?_⟩;cases ys with
  | nil=>simp[zZ] at h;simp[h.symm]
  | cons y ys=>simp[zZ] at h;simp[h.symm]
 | f,x::xs,[],b,h=>by
  refine⟨λ_=>true,λj x y _ hy=>by simp at hy,?_⟩;simp[zZ] at h;simp[h.symm]
 | f,x::xs,y::ys,b,h=>by
  unfold zZ at h;cases h1:f x y with
  | none=>simp_all
  | some c=>
   cases h2:zZ f xs ys with
   | none=>simp_all
   | some d=>
    rw[h1,h2] at h;obtain⟨e,he,hd⟩:=Uk xs ys d h2;refine⟨λj=>match j with|0=>c|j+1=>e j,λj x' y' hx hy=>?_,?_⟩
    ·grind
    ·have hb:b=(c&&d):=by simp_all
     have hm:min (x::xs).length (y::ys).length=min xs.length ys.length+1:=by simp_all
     rw[hb,hd,hm,List.range_succ_eq_map,List.all_cons,List.all_map,Bool.and_assoc]
     grind
theorem Bj:∀{ds} {us} {j:Nat} {u},Kf h ds us->us[j]? = some u->∃d,ds[j]? = some d/\Sh h d u
 | [],_,_,_,e,g=>by cases e;simp at g
 | d::ds,us,j,u,e,g=>by
  obtain⟨v,r,rfl,h1,h2⟩:=e;cases j with
  | zero=>simp_all
  | succ j=>obtain⟨c,e1,e2⟩:=Bj h2 (by simpa using g);exact⟨c,by simpa using e1,e2⟩
theorem xj{f:Nat->Bool}(H:∀x y u v b,Sh s.heap x u->Sh s.heap y v->jj n x y=some b->SeqAt.EqAt A s u v b)(hs:Kf s.heap xs its)(hs':Kf s.heap ys its')(hf:∀j x y,xs[j]? = some x->ys[j]? = some y->jj n x y=some (f j))
  (j) (h1:j<its.toArray.size) (h2:j<its'.toArray.size):SeqAt.EqAt A s its.toArray[j] its'.toArray[j] (f j):=by
 have g1:its[j]? = some its.toArray[j]:=by simp_all
 have g2:its'[j]? = some its'.toArray[j]:=by simp_all
 obtain⟨x,q1,q2⟩:=Bj hs g1;obtain⟨y,q3,q4⟩:=Bj hs' g2
 grind
theorem Kq(H:∀x y u v b,Sh s.heap x u->Sh s.heap y v->jj n x y=some b->SeqAt.EqAt A.in1 s u v b)(p:IsTup s.heap a its.toArray)(p':IsTup s.heap a' its'.toArray)(hs:Kf s.heap xs its)(hs':Kf s.heap ys its')(h:zZ (jj n) xs ys=some b)(hu0:A.units<cLine):SeqAt.RcAt A s (.ref a) (.ref a') b/\SeqAt.RcNeAt A s (.ref a) (.ref a') (!b):=by
 obtain⟨f,hf,hb⟩:=Uk xs ys b h;have l1:=hs.length;have l2:=hs'.length;have k1:=SeqAt.RcAt.tuples p p' hu0<|xj H hs hs' hf;have k2:=SeqAt.RcNeAt.tuples p p' hu0<|xj H hs hs' hf
 simp_all
theorem Mf(H:∀x y u v b,Sh s.heap x u->Sh s.heap y v->jj n x y=some b->SeqAt.EqAt A.in1 s u v b)(p:PlainL s.heap a its.toArray)(p':PlainL s.heap a' its'.toArray)(hs:Kf s.heap xs its)(hs':Kf s.heap ys its')(h:zZ (jj n) xs ys=some b)(hu0:A.units<cLine):SeqAt.RcAt A s (.ref a) (.ref a') b/\SeqAt.RcNeAt A s (.ref a) (.ref a') (!b):=by
 have l1:=hs.length;have l2:=hs'.length;by_cases hl:xs.length=ys.length
 ·obtain⟨f,hf,hb⟩:=Uk xs ys b h;have k1:=SeqAt.RcAt.lists p.isList p'.isList (by simp_all) hu0<|xj H hs hs' hf;have k2:=SeqAt.RcNeAt.lists p.isList p'.isList (by simp_all) hu0<|xj H hs hs' hf
  simp_all
 ·have:=V5 hl b h;subst this;have hz:(its.toArray.size != its'.toArray.size)=true:=by simp_all
  exact⟨SeqAt.RcAt.lists_lengths p.isList p'.isList hz hu0,SeqAt.RcNeAt.lists_lengths p.isList p'.isList hz hu0⟩
theorem Uj:∀n d e u v b A s,Sh s.heap d u->Sh s.heap e v->jj n d e=some b->A.units+n<cLine->SeqAt.EqAt A s u v b:=by
 intro n
 induction n with
 | zero=>intro _ _ _ _ _ _ _ _ _ h;simp[jj,od] at h
 | succ n ih=>
  intro d e u v b A s hd he h hu;have hu0:A.units<cLine:=by omega
  have hin:A.in1.units+n<cLine:=by grind
  have H:=λx y u v b q1 q2 q3=>ih x y u v b A.in1 s q1 q2 q3 hin;have same:∀a,u = .ref a->v = .ref a->SeqAt.EqAt A s u v b:=λa e1 e2=>by
   subst e1 e2;rw[QR _ _ _ _ b hd he h];exact SeqAt.EqAt.same _
  cases d<;>cases e
  case non.non=>cases hd;cases he;simp[jj,od] at h;subst h;exact SeqAt.EqAt.same _
  case tup.tup=>
   have h0:=same;obtain⟨a,r,rfl,p,hs⟩:=hd;obtain⟨a',r',rfl,p',hs'⟩:=he;by_cases haa:a=a'
   ·simp_all
   ·exact SeqAt.EqAt.of_refs haa (Kq H p p' hs hs' h hu0).1
  case lst.lst=>
   have h0:=same;obtain⟨a,r,rfl,p,hs⟩:=hd;obtain⟨a',r',rfl,p',hs'⟩:=he;by_cases haa:a=a'
   ·simp_all
   ·exact SeqAt.EqAt.of_refs haa (Mf H p p' hs hs' h hu0).1
  clear same
  all_goals first|(simp[jj,od] at h;done)|skip
  all_goals
   first|obtain⟨t,rfl⟩:=hd|obtain⟨a,r,rfl,p,hs⟩:=hd|cases hd
   first|obtain⟨t',rfl⟩:=he|obtain⟨a',r',rfl,p',hs'⟩:=he|cases he
   simp[jj,od,Qjy] at h;subst h
  exact SeqAt.EqAt.none_bool _;exact SeqAt.EqAt.none_int _ _;exact SeqAt.EqAt.none_str _ _;exact SeqAt.EqAt.none_tuple p' hu0;exact SeqAt.EqAt.none_list p'.isList hu0;exact SeqAt.EqAt.bool_none _;exact SeqAt.EqAt.bool_bool _ _;exact SeqAt.EqAt.bool_int _ _ _;exact SeqAt.EqAt.bool_str _ _ _;exact SeqAt.EqAt.bool_tuple _ p' hu0;exact SeqAt.EqAt.bool_list _ p'.isList hu0;exact SeqAt.EqAt.int_none _ _;exact SeqAt.EqAt.int_bool _ _ _;exact SeqAt.EqAt.int_int _ _ _ _;exact SeqAt.EqAt.int_str _ _ _ _;exact SeqAt.EqAt.int_tuple _ _ p' hu0;exact SeqAt.EqAt.int_list _ _ p'.isList hu0;exact SeqAt.EqAt.str_none _ _;exact SeqAt.EqAt.str_bool _ _ _;exact SeqAt.EqAt.str_int _ _ _ _;rw[<-yj];exact SeqAt.EqAt.str_str _ _ _ _;exact SeqAt.EqAt.str_tuple _ _ p' hu0;exact SeqAt.EqAt.str_list _ _ p'.isList hu0;exact SeqAt.EqAt.tuple_none p hu0;exact SeqAt.EqAt.tuple_bool _ p hu0;exact SeqAt.EqAt.tuple_int _ _ p hu0;exact SeqAt.EqAt.tuple_str _ _ p hu0;exact SeqAt.EqAt.tuple_list p p'.isList hu0;exact SeqAt.EqAt.list_none p.isList hu0;exact SeqAt.EqAt.list_bool _ p.isList hu0;exact SeqAt.EqAt.list_int _ _ p.isList hu0;exact SeqAt.EqAt.list_str _ _ p.isList hu0;exact SeqAt.EqAt.list_tuple p.isList p' hu0
theorem akW(n)(d e)(u v)(b)(A)(s)(hd:Sh s.heap d u)(he:Sh s.heap e v)(h:jj (n+1) d e=some b)(hu:A.units+(n+1)<cLine):SeqAt.RcAt A s u v b:=by
 have hu0:A.units<cLine:=by omega
 have hin:A.in1.units+n<cLine:=by show A.units+1+n<cLine;omega
 have H:=λx y u v b q1 q2 q3=>Uj n x y u v b A.in1 s q1 q2 q3 hin;cases d<;>cases e
 case tup.tup=>
  obtain⟨a,r,rfl,p,hs⟩:=hd;obtain⟨a',r',rfl,p',hs'⟩:=he;exact(Kq H p p' hs hs' h hu0).1
 case lst.lst=>
  obtain⟨a,r,rfl,p,hs⟩:=hd;obtain⟨a',r',rfl,p',hs'⟩:=he;exact(Mf H p p' hs hs' h hu0).1
 all_goals first|(simp[jj,od] at h;done)|skip
 all_goals
  first|obtain⟨t,rfl⟩:=hd|obtain⟨a,r,rfl,p,hs⟩:=hd|cases hd
  first|obtain⟨t',rfl⟩:=he|obtain⟨a',r',rfl,p',hs'⟩:=he|cases he
  simp[jj,od,Qjy] at h;subst h
 exact SeqAt.RcAt.none_none;exact SeqAt.RcAt.none_bool _;exact SeqAt.RcAt.none_int _ _;exact SeqAt.RcAt.none_str _ _;exact SeqAt.RcAt.none_tuple p' hu0;exact SeqAt.RcAt.none_list p'.isList hu0;exact SeqAt.RcAt.bool_none _;exact SeqAt.RcAt.bool_bool _ _;exact SeqAt.RcAt.bool_int _ _ _;exact SeqAt.RcAt.bool_str _ _ _;exact SeqAt.RcAt.bool_tuple _ p' hu0;exact SeqAt.RcAt.bool_list _ p'.isList hu0;exact SeqAt.RcAt.int_none _ _;exact SeqAt.RcAt.int_bool _ _ _;exact SeqAt.RcAt.int_int _ _ _ _;exact SeqAt.RcAt.int_str _ _ _ _;exact SeqAt.RcAt.int_tuple _ _ p' hu0;exact SeqAt.RcAt.int_list _ _ p'.isList hu0;exact SeqAt.RcAt.str_none _ _;exact SeqAt.RcAt.str_bool _ _ _;exact SeqAt.RcAt.str_int _ _ _ _;rw[<-yj];exact SeqAt.RcAt.str_str _ _ _ _;exact SeqAt.RcAt.str_tuple _ _ p' hu0;exact SeqAt.RcAt.str_list _ _ p'.isList hu0;exact SeqAt.RcAt.tuple_none p hu0;exact SeqAt.RcAt.tuple_bool _ p hu0;exact SeqAt.RcAt.tuple_int _ _ p hu0;exact SeqAt.RcAt.tuple_str _ _ p hu0;exact SeqAt.RcAt.tuple_list p p'.isList hu0;exact SeqAt.RcAt.list_none p.isList hu0;exact SeqAt.RcAt.list_bool _ p.isList hu0;exact SeqAt.RcAt.list_int _ _ p.isList hu0;exact SeqAt.RcAt.list_str _ _ p.isList hu0;exact SeqAt.RcAt.list_tuple p.isList p' hu0
theorem adu(n)(d e)(u v)(b)(A)(s)(hd:Sh s.heap d u)(he:Sh s.heap e v)(h:jj (n+1) d e=some b)(hu:A.units+(n+1)<cLine):SeqAt.RcNeAt A s u v (!b):=by
 have hu0:A.units<cLine:=by omega
 have hin:A.in1.units+n<cLine:=by show A.units+1+n<cLine;omega
 have H:=λx y u v b q1 q2 q3=>Uj n x y u v b A.in1 s q1 q2 q3 hin;cases d<;>cases e
 case tup.tup=>
  obtain⟨a,r,rfl,p,hs⟩:=hd;obtain⟨a',r',rfl,p',hs'⟩:=he;exact(Kq H p p' hs hs' h hu0).2
 case lst.lst=>
  obtain⟨a,r,rfl,p,hs⟩:=hd;obtain⟨a',r',rfl,p',hs'⟩:=he;exact(Mf H p p' hs hs' h hu0).2
 all_goals first|(simp[jj,od] at h;done)|skip
 all_goals
  first|obtain⟨t,rfl⟩:=hd|obtain⟨a,r,rfl,p,hs⟩:=hd|cases hd
  first|obtain⟨t',rfl⟩:=he|obtain⟨a',r',rfl,p',hs'⟩:=he|cases he
  simp[jj,od,Qjy] at h;subst h
 exact SeqAt.RcNeAt.none_none;exact SeqAt.RcNeAt.none_bool _;exact SeqAt.RcNeAt.none_int _ _;exact SeqAt.RcNeAt.none_str _ _;exact SeqAt.RcNeAt.none_tuple p' hu0;exact SeqAt.RcNeAt.none_list p'.isList hu0;exact SeqAt.RcNeAt.bool_none _;exact SeqAt.RcNeAt.bool_bool _ _;exact SeqAt.RcNeAt.bool_int _ _ _;exact SeqAt.RcNeAt.bool_str _ _ _;exact SeqAt.RcNeAt.bool_tuple _ p' hu0;exact SeqAt.RcNeAt.bool_list _ p'.isList hu0;exact SeqAt.RcNeAt.int_none _ _;exact SeqAt.RcNeAt.int_bool _ _ _;exact SeqAt.RcNeAt.int_int _ _ _ _;exact SeqAt.RcNeAt.int_str _ _ _ _;exact SeqAt.RcNeAt.int_tuple _ _ p' hu0;exact SeqAt.RcNeAt.int_list _ _ p'.isList hu0;exact SeqAt.RcNeAt.str_none _ _;exact SeqAt.RcNeAt.str_bool _ _ _;exact SeqAt.RcNeAt.str_int _ _ _ _;rw[<-yj];exact SeqAt.RcNeAt.str_str _ _ _ _;exact SeqAt.RcNeAt.str_tuple _ _ p' hu0;exact SeqAt.RcNeAt.str_list _ _ p'.isList hu0;exact SeqAt.RcNeAt.tuple_none p hu0;exact SeqAt.RcNeAt.tuple_bool _ p hu0;exact SeqAt.RcNeAt.tuple_int _ _ p hu0;exact SeqAt.RcNeAt.tuple_str _ _ p hu0;exact SeqAt.RcNeAt.tuple_list p p'.isList hu0;exact SeqAt.RcNeAt.list_none p.isList hu0;exact SeqAt.RcNeAt.list_bool _ p.isList hu0;exact SeqAt.RcNeAt.list_int _ _ p.isList hu0;exact SeqAt.RcNeAt.list_str _ _ p.isList hu0;exact SeqAt.RcNeAt.list_tuple p.isList p' hu0
section
variable{X:Cx}{C:Cfg}
def ak8(K:Fg):R2:=λx y H Q=>∃dx dy b,Rep K H dx x/\Rep K H dy y/\jj 60 dx dy=some b/\Q (.bl b) H
def ak0(K:Fg):R2:=λx y H Q=>∃dx dy b,Rep K H dx x/\Rep K H dy y/\jj 60 dx dy=some b/\Q (.bl (!b)) H
theorem ahB(hu:X.A.units+60<cLine):nu X (compareOp .Eq) (ak8 X.K):=by intro pins s σ H x y v u Q I rx ry h;obtain⟨dx,dy,b,h1,h2,h3,q⟩:=h;exact akW 59 dx dy v u b X.A s (Rep.sh I dx x v h1 rx) (Rep.sh I dy y u h2 ry) h3 hu X.prog X.w X.xe _ ⟨.bl b,H,I,rfl,q⟩
theorem ahu(hu:X.A.units+60<cLine):nu X (compareOp .NotEq) (ak0 X.K):=by intro pins s σ H x y v u Q I rx ry h;obtain⟨dx,dy,b,h1,h2,h3,q⟩:=h;exact adu 59 dx dy v u b X.A s (Rep.sh I dx x v h1 rx) (Rep.sh I dy y u h2 ry) h3 hu X.prog X.w X.xe _ ⟨.bl<|!b,H,I,rfl,q⟩
def gQ(x y:D):Option D:=(jj 60 x y).map .bl
def Gr(x y:D):Option D:=(jj 60 x y).map λb=>.bl (!b)
theorem alC:qg C (ak8 C.K) gQ:=by
 intro Pr F env σ H x y d vx vy Q r hx hy h q;unfold gQ at h;cases e:jj 60 x y with
 | none=>simp_all
 | some b=>
  rw[e] at h;cases h;exact⟨x,y,b,hx.rep r.fr,hy.rep r.fr,e,q _ H F r (aV.refl F) rfl⟩
theorem alw:qg C (ak0 C.K) Gr:=by
 intro Pr F env σ H x y d vx vy Q r hx hy h q;unfold Gr at h;cases e:jj 60 x y with
 | none=>simp_all
 | some b=>
  rw[e] at h;cases h;exact⟨x,y,b,hx.rep r.fr,hy.rep r.fr,e,q _ H F r (aV.refl F) rfl⟩
noncomputable def Ii(x:D):List D->Option Bool
 | []=>some false
 | y::ys=>match jj 59 y x,Ii x ys with
  | some a,some b=>some (a||b)
  | _,_=>none
theorem Vx(x):∀ys b,Ii x ys=some b->(∀y∈ys,∃c,jj 59 y x=some c)/\(b=true ↔ ∃y∈ys,jj 59 y x=some true)
 | [],b,h=>by simp[Ii] at h;subst h;simp
 | y::ys,b,h=>by
  unfold Ii at h;cases h1:jj 59 y x with
  | none=>simp_all
  | some c=>
   cases h2:Ii x ys with
   | none=>simp_all
   | some d=>
    rw[h1,h2] at h;obtain⟨i1,i2⟩:=Vx x ys d h2
    grind
open Classical in
noncomputable def Hj(h:Heap)(x:D)(u:Value):Bool:=decide (∃y,Sh h y u/\jj 59 y x=some true)
open Classical in
theorem Nf(hy:Sh h y u)(e:jj 59 y x=some c):Hj h x u=c:=by
 unfold Hj;cases c with
 | true=>exact Qw2 ⟨y,hy,e⟩
 | false=>
  refine Qwj ?_;rintro⟨z,hz,e'⟩;have:=V4 59 z y x u true false hz hy e' e;cases this
theorem zc(hx:Sh s.heap x v)(hs:Kf s.heap ys us)(h:Ii x ys=some b)(hu:A.units+59<cLine) :
  (∀w,w∈us.toArray->SeqAt.EqAt A s w v (Hj s.heap x w))/\us.toArray.any (Hj s.heap x)=b:=by
 obtain⟨h1,h2⟩:=Vx x ys b h;have item:∀w∈us,∃y∈ys,Sh s.heap y w:=λw hw=>by
  obtain⟨j,hj,e⟩:=List.mem_iff_getElem.mp hw;obtain⟨d,e1,e2⟩:=Bj hs (show us[j]? = some w by rw[Qq6 hj,e]);exact⟨d,List.mem_of_getElem? e1,e2⟩
 have back:∀{ys} {us},Kf s.heap ys us->∀y∈ys,∃w∈us,Sh s.heap y w:=by
  intro ys
  induction ys with
  | nil=>intro us _ y hy;cases hy
  | cons z zs ih=>
   intro us hs y hy;obtain⟨w,r,rfl,g1,g2⟩:=hs;rcases Qq8.mp hy with rfl|hy
   ·exact⟨w,Qq3,g1⟩
   ·obtain⟨w',m,g⟩:=ih g2 y hy;exact⟨w',Qqy _ m,g⟩
 refine⟨λw hw=>?_,?_⟩
 ·obtain⟨y,hy,sy⟩:=item w (by simpa using hw);obtain⟨c,hc⟩:=h1 y hy;rw[Nf sy hc];exact Uj 59 y x w v c A s sy hx hc hu
 ·rw[List.any_toArray,Qj5,h2,List.any_eq_true];constructor
  ·rintro⟨w,hw,e⟩;obtain⟨y,hy,sy⟩:=item w hw;obtain⟨c,hc⟩:=h1 y hy;rw[Nf sy hc] at e;subst e;exact⟨y,hy,hc⟩
  ·rintro⟨y,hy,e⟩;obtain⟨w,hw,sy⟩:=back hs y hy;exact⟨w,hw,Nf sy e⟩
noncomputable def Oj:D->Option (List D)
 | .tup xs=>some xs
 | .lst xs=>some xs
 | .arr xs=>some xs
 | _=>none
def Xb(K:Fg)(neg:Bool):R2:=λx y H Q=>∃dx dy ys b,Rep K H dx x/\Rep K H dy y/\Oj dy=some ys/\Ii dx ys=some b/\Q (.bl (if neg then !b else b)) H
theorem ahz(hu:X.A.units+61<cLine):nu X (compareOp .In) (Xb X.K false):=by
 intro pins s σ H x y v u Q I rx ry h;obtain⟨dx,dy,ys,b,h1,h2,h3,h4,q⟩:=h;have hx:=Rep.sh I dx x v h1 rx;have hy:=Rep.sh I dy y u h2 ry;have hin:X.A.in1.units+59<cLine:=by grind
 cases dy with
 | tup zs=>
  cases h3;obtain⟨a,its,rfl,p,hs⟩:=hy;obtain⟨g1,g2⟩:=zc hx hs h4 hin;refine SeqAt.in_tupleAt (Hj s.heap dx) p g1 ⟨.bl _,H,I,rfl,?_⟩
  simp_all
 | lst zs=>
  cases h3;obtain⟨a,its,rfl,p,hs⟩:=hy;obtain⟨g1,g2⟩:=zc hx hs h4 hin;refine SeqAt.in_listAt (Hj s.heap dx) p.isList g1 ⟨.bl _,H,I,rfl,?_⟩
  simp_all
 | arr zs=>
  cases h3;obtain⟨a,its,rfl,p,hs⟩:=hy;obtain⟨g1,g2⟩:=zc hx hs h4 hin;refine SeqAt.in_listAt (Hj s.heap dx) p.isList g1 ⟨.bl _,H,I,rfl,?_⟩
  simp_all
 | _=>cases h3
theorem Xo(hu:X.A.units+61<cLine):nu X (compareOp .NotIn) (Xb X.K true):=by
 intro pins s σ H x y v u Q I rx ry h;obtain⟨dx,dy,ys,b,h1,h2,h3,h4,q⟩:=h;have hx:=Rep.sh I dx x v h1 rx;have hy:=Rep.sh I dy y u h2 ry;have hin:X.A.in1.units+59<cLine:=by grind
 cases dy with
 | tup zs=>
  cases h3;obtain⟨a,its,rfl,p,hs⟩:=hy;obtain⟨g1,g2⟩:=zc hx hs h4 hin;refine SeqAt.notIn_tupleAt (Hj s.heap dx) p g1 ⟨.bl _,H,I,rfl,?_⟩
  simp_all
 | lst zs=>
  cases h3;obtain⟨a,its,rfl,p,hs⟩:=hy;obtain⟨g1,g2⟩:=zc hx hs h4 hin;refine SeqAt.notIn_listAt (Hj s.heap dx) p.isList g1 ⟨.bl _,H,I,rfl,?_⟩
  simp_all
 | arr zs=>
  cases h3;obtain⟨a,its,rfl,p,hs⟩:=hy;obtain⟨g1,g2⟩:=zc hx hs h4 hin;refine SeqAt.notIn_listAt (Hj s.heap dx) p.isList g1 ⟨.bl _,H,I,rfl,?_⟩
  simp_all
 | _=>cases h3
end
theorem qg.or(h:qg C r g)(h':qg C r' g'):qg C (λx y H Q=>r x y H Q\/r' x y H Q) (λx y=>(g x y).or (g' x y)):=by
 intro Pr F env σ H x y d vx vy Q rl hx hy e q;have e:(g x y).or (g' x y)=some d:=e;cases e1:g x y with
 | some c=>
  rw[e1] at e;cases e;exact .inl<|h Pr F env σ H x y d vx vy Q rl hx hy e1 q
 | none=>
  rw[e1] at e;exact .inr<|h' Pr F env σ H x y d vx vy Q rl hx hy e q
section
variable{X:Cx}{C:Cfg}
def abZ(x y:D):Option D:=match Oj y with
 | some ys=>(Ii x ys).map .bl
 | none=>none
def Bp(x y:D):Option D:=match Oj y with
 | some ys=>(Ii x ys).map λb=>.bl (!b)
 | none=>none
theorem ahQ:qg C (Xb C.K false) abZ:=by
 intro Pr F env σ H x y d vx vy Q r hx hy h q;unfold abZ at h;cases e1:Oj y with
 | none=>simp_all
 | some ys=>
  rw[e1] at h;cases e:Ii x ys with
  | none=>simp_all
  | some b=>
   simp[e,Qj7] at h;cases h;exact⟨x,y,ys,b,hx.rep r.fr,hy.rep r.fr,e1,e,q _ H F r (aV.refl F) rfl⟩
theorem Xw:qg C (Xb C.K true) Bp:=by
 intro Pr F env σ H x y d vx vy Q r hx hy h q;unfold Bp at h;cases e1:Oj y with
 | none=>simp_all
 | some ys=>
  rw[e1] at h;cases e:Ii x ys with
  | none=>simp_all
  | some b=>
   simp[e,Qj7] at h;cases h;exact⟨x,y,ys,b,hx.rep r.fr,hy.rep r.fr,e1,e,q _ H F r (aV.refl F) rfl⟩
noncomputable def ajq(x y:D):Option D:=match x,y with
 | .str [c],.str z=>some (.bl (decide (c∈z)))
 | _,_=>none
noncomputable def Ms(x y:D):Option D:=match x,y with
 | .str [c],.str z=>some (.bl (!decide (c∈z)))
 | _,_=>none
abbrev ak6:R2:=λx y H Q=>∃i j,x = .str i/\y = .str j/\Q (.bl (!(Builtin.Str.occurrences j i 0 j.length 1).isEmpty)) H
abbrev Ve:R2:=λx y H Q=>∃i j,x = .str i/\y = .str j/\Q (.bl (!(!(Builtin.Str.occurrences j i 0 j.length 1).isEmpty))) H
theorem one_sign(c)(z):(!(Builtin.Str.occurrences (strOf z) (strOf [c]) 0 (strOf z).length 1).isEmpty)=decide (c∈z):=by
 have:=StrLaws.found_one (strOf z) c
 assumption
theorem ahP:qg C ak6 ajq:=by
 intro Pr F env σ H x y d vx vy Q r hx hy h q;unfold ajq at h;split at h
 ·rename_i c z;cases h;obtain⟨rfl,_⟩:=hx.str;obtain⟨rfl,_⟩:=hy.str;refine⟨_,_,rfl,rfl,?_⟩;rw[one_sign];exact q _ H F r (aV.refl F) rfl
 ·cases h
theorem Xv:qg C Ve Ms:=by
 intro Pr F env σ H x y d vx vy Q r hx hy h q;unfold Ms at h;split at h
 ·rename_i c z;cases h;obtain⟨rfl,_⟩:=hx.str;obtain⟨rfl,_⟩:=hy.str;refine⟨_,_,rfl,rfl,?_⟩;rw[one_sign];exact q _ H F r (aV.refl F) rfl
 ·cases h
def En(x y:D):Option D:=(abZ x y).or (ajq x y)
def tR(x y:D):Option D:=(Bp x y).or (Ms x y)
abbrev ak7(K:Fg):R2:=λx y H Q=>Xb K false x y H Q\/ak6 x y H Q
abbrev Vf(K:Fg):R2:=λx y H Q=>Xb K true x y H Q\/Ve x y H Q
theorem ahA(hu:X.A.units+61<cLine):nu X (compareOp .In) (ak7 X.K):=(ahz hu).or Xr
theorem Xp(hu:X.A.units+61<cLine):nu X (compareOp .NotIn) (Vf X.K):=(Xo hu).or Lq
theorem alA:qg C (ak7 C.K) En:=ahQ.or ahP
theorem aaX:qg C (Vf C.K) tR:=Xw.or Xv
def isPlain(x:V):Prop:=x = .non\/∃b,x = .bl b
theorem ahy:nu X (compareOp .Is) (λx y H Q=>isPlain y/\Q (.bl (decide (x=y))) H):=by
 intro pins s σ H x y v u Q I rx ry h;obtain⟨hp,q⟩:=h;rcases hp with rfl|⟨b,rfl⟩
 ·exact ahx pins s σ H x .non v u Q I rx ry ⟨rfl,q⟩
 ·cases ry;refine wpAny_is_plain ?_<|Et I q ?_
  ·cases x<;>first|(cases rx;rfl)|(obtain⟨t,rfl⟩:=rx;rfl)
  ·cases x with
   | bl c=>cases rx;cases b<;>cases c<;>rfl
   | _=>first|(cases rx;rfl)|(obtain⟨t,rfl⟩:=rx;rfl)
noncomputable def isD:D->D->Option Bool
 | .non,.non=>some true
 | .bl a,.bl b=>some (a == b)
 | _,.non=>some false
 | _,.bl _=>some false
 | _,_=>none
def gIs(x y:D):Option D:=(isD x y).map .bl
theorem amn(hx:j5 C.K F H x vx)(hy:j5 C.K F H y vy)(h:isD x y=some b):isPlain vy/\decide (vx=vy)=b:=by
 have aok:∀a,¬(V.ref a=V.non):=λa e=>by cases e
 cases y with
 | non=>
  obtain rfl:=hy.non;refine⟨.inl rfl,?_⟩;cases x with
  | non=>obtain rfl:=hx.non;simp[isD] at h;simp[h]
  | bl c=>obtain rfl:=hx.bl;simp[isD] at h;simp[h]
  | int i=>obtain rfl:=hx.int;simp[isD] at h;simp[h]
  | str z=>obtain⟨rfl,_⟩:=hx.str;simp[isD] at h;simp[h]
  | tup xs=>rcases hx with ⟨_,a,_,rfl,_⟩|⟨a,rfl,_⟩<;>(simp[isD] at h;simp[h])
  | lst xs=>rcases hx with ⟨_,a,_,rfl,_⟩|⟨a,rfl,_⟩<;>(simp[isD] at h;simp[h])
  | arr xs=>rcases hx with ⟨_,a,_,rfl,_⟩|⟨a,rfl,_⟩<;>(simp[isD] at h;simp[h])
  | dct xs=>rcases hx with ⟨_,a,_,rfl,_⟩|⟨a,rfl,_⟩<;>(simp[isD] at h;simp[h])
  | z6 xs=>rcases hx with ⟨_,a,_,rfl,_⟩|⟨a,rfl,_⟩<;>(simp[isD] at h;simp[h])
  | clo st xs=>rcases hx with ⟨a,_,rfl,_⟩|⟨a,rfl,_⟩<;>(simp[isD] at h;simp[h])
 | bl k=>
  obtain rfl:=hy.bl;refine⟨.inr ⟨k,rfl⟩,?_⟩;cases x with
  | non=>obtain rfl:=hx.non;simp[isD] at h;simp[h]
  | bl c=>obtain rfl:=hx.bl;simp[isD,Qjy] at h;rw[<-h,ajG]
  | int i=>obtain rfl:=hx.int;simp[isD] at h;simp[h]
  | str z=>obtain⟨rfl,_⟩:=hx.str;simp[isD] at h;simp[h]
  | tup xs=>rcases hx with ⟨_,a,_,rfl,_⟩|⟨a,rfl,_⟩<;>(simp[isD] at h;simp[h])
  | lst xs=>rcases hx with ⟨_,a,_,rfl,_⟩|⟨a,rfl,_⟩<;>(simp[isD] at h;simp[h])
  | arr xs=>rcases hx with ⟨_,a,_,rfl,_⟩|⟨a,rfl,_⟩<;>(simp[isD] at h;simp[h])
  | dct xs=>rcases hx with ⟨_,a,_,rfl,_⟩|⟨a,rfl,_⟩<;>(simp[isD] at h;simp[h])
  | z6 xs=>rcases hx with ⟨_,a,_,rfl,_⟩|⟨a,rfl,_⟩<;>(simp[isD] at h;simp[h])
  | clo st xs=>rcases hx with ⟨a,_,rfl,_⟩|⟨a,rfl,_⟩<;>(simp[isD] at h;simp[h])
 | _=>cases x<;>simp[isD] at h
theorem alz:qg C (λx y H Q=>isPlain y/\Q (.bl (decide (x=y))) H) gIs:=by
 intro Pr F env σ H x y d vx vy Q r hx hy h q;unfold gIs at h;cases e:isD x y with
 | none=>simp_all
 | some b=>
  rw[e] at h;cases h;obtain⟨h1,h2⟩:=amn hx hy e;exact⟨h1,by rw[h2];exact q _ H F r (aV.refl F) rfl⟩
noncomputable def gI(c:Int->Int->Bool)(f:Int->Int->D)(x y:D):Option D:=match x,y with
 | .int i,.int j=>if c i j=true then some (f i j) else none
 | _,_=>none
theorem aa0(hc:∀i j,c i j=true->Cd i j)(hf:∀i j F,Rep C.K F (f i j) (g i j)):qg C (rI Cd g) (gI c f):=by
 intro Pr F env σ H x y d vx vy Q r hx hy h q;unfold gI at h;split at h
 ·rename_i i j;split at h
  ·rename_i hcc;cases h;obtain rfl:=hx.int;obtain rfl:=hy.int;exact⟨i,j,rfl,rfl,hc i j hcc,q _ H F r (aV.refl F)<|hf i j F⟩
  ·cases h
 ·cases h
theorem Pn(hf:∀i j F,Rep C.K F (f i j) (g i j)):qg C (Rp g) (gI (λ_ _=>true) f):=by
 intro Pr F env σ H x y d vx vy Q r hx hy h q;unfold gI at h;split at h
 ·rename_i i j;rw[if_pos rfl] at h;cases h;obtain rfl:=hx.int;obtain rfl:=hy.int;exact⟨i,j,rfl,rfl,q _ H F r (aV.refl F)<|hf i j F⟩
 ·cases h
noncomputable def mV(i j:Int):Bool:=decide (Builtin.Int.intBits i+Builtin.Int.intBits j<=134217728)
theorem ad3:nu X (binaryOp .Mult) (rI (λi j=>mV i j=true) λi j=>.int (i*j)):=
 opI λi j _ _ _ _ _ hc q=>mul_int q<|mulOk_of_bits (Qqv _) (Qqv _)<|Qx8 hc
def uF:D->D->Option D:=gI mV λi j=>.int (i*j)
def m7:D->D->Option D:=gI (λ_ _=>true) λi j=>.int (i - j)
def ajl:D->D->Option D:=gI (λ_ j=>decide (0<j)) λi j=>.int (i % j)
def Ub:D->D->Option D:=gI (λi j=>decide (0<=j/\j<=1000000/\i.natAbs<2^64)) λi j=>.int (i^j.toNat)
def Ye:D->D->Option D:=gI (λi j=>decide (0<=j/\j<=1000000/\i.natAbs<2^64)) λi j=>.int (i*2^j.toNat)
def Qy:D->D->Option D:=gI (λ_ j=>decide (0<=j)) λi j=>.int (i / 2^j.toNat)
def QF:D->D->Option D:=gI (λ_ _=>true) λi j=>.int (Builtin.bitAnd i j)
theorem ahL:qg C (rI (λi j=>mV i j=true) λi j=>.int (i*j)) uF:=aa0 (λ_ _ h=>h) λ_ _ _=>rfl
theorem ahH:qg C (Rp λi j=>.int (i - j)) m7:=Pn λ_ _ _=>rfl
theorem ahM:qg C (rI (λ_ j=>0<j) λi j=>.int (i % j)) ajl:=aa0 (λ_ _ h=>Qx8 h) λ_ _ _=>rfl
theorem ahK:qg C (rI afA λi j=>.int (i^j.toNat)) Ub:=aa0 (λi j h=>(show 0<=j/\j<=1000000/\i.natAbs<2^64 from Qx8 h)) λ_ _ _=>rfl
theorem ahJ:qg C (rI afA λi j=>.int (i*2^j.toNat)) Ye:=aa0 (λi j h=>(show 0<=j/\j<=1000000/\i.natAbs<2^64 from Qx8 h)) λ_ _ _=>rfl
theorem ahI:qg C (rI (λ_ j=>0<=j) λi j=>.int (i / 2^j.toNat)) Qy:=aa0 (λ_ _ h=>Qx8 h) λ_ _ _=>rfl
theorem ahR:qg C (Rp λi j=>.int (Builtin.bitAnd i j)) QF:=Pn λ_ _ _=>rfl
abbrev ak1:R2:=λx y H Q=>∃i j,x = .str i/\y = .str j/\Q (.bl (decide (i.cps.toList<j.cps.toList))) H
def amB:D->D->Option D:=gI (λ_ _=>true) λi j=>.bl (decide (i<j))
noncomputable def ajm(x y:D):Option D:=match x,y with
 | .str a,.str b=>some (.bl (decide (a<b)))
 | _,_=>none
def VP(x y:D):Option D:=(amB x y).or (ajm x y)
def QB:D->D->Option D:=gI (λ_ _=>true) λi j=>.bl (decide (i<=j))
def gGt:D->D->Option D:=gI (λ_ _=>true) λi j=>.bl (decide (j<i))
def gGe:D->D->Option D:=gI (λ_ _=>true) λi j=>.bl (decide (j<=i))
theorem ahN:qg C ak1 ajm:=by
 intro Pr F env σ H x y d vx vy Q r hx hy h q;unfold ajm at h;split at h
 ·cases h;obtain⟨rfl,_⟩:=hx.str;obtain⟨rfl,_⟩:=hy.str;exact⟨_,_,rfl,rfl,q _ H F r (aV.refl F) (by rfl)⟩
 ·cases h
abbrev ak2:R2:=λx y H Q=>Rp (λi j=>.bl (decide (i<j))) x y H Q\/ak1 x y H Q
theorem ahw:nu X (compareOp .Lt) ak2:=alo.or Xq
theorem ahO:qg C (Rp λi j=>.bl (decide (i<j))) amB:=Pn λ_ _ _=>rfl
theorem alx:qg C ak2 VP:=ahO.or ahN
theorem aly:qg C (Rp λi j=>.bl (decide (i<=j))) QB:=Pn λ_ _ _=>rfl
theorem alB:qg C (Rp λi j=>.bl (decide (j<i))) gGt:=Pn λ_ _ _=>rfl
def aaq(K:Fg):R2:=λx y H Q=>∃a b ys,x = .ref a/\y = .ref b/\mQ K H a []/\mQ K H b ys/\Q (.ref b) H
theorem aaV:nu X (binaryOp .Add) (aaq X.K):=by
 intro pins s σ H x y v u Q I rx ry h;obtain⟨a,b,ys,rfl,rfl,ha,hb,q⟩:=h;cases rx;cases ry;obtain⟨its,r1,p1,_⟩:=I.tuple ha;obtain⟨its2,r2,p2,_⟩:=I.tuple hb;cases r1;obtain⟨⟨cls,dd,data,sl⟩,ho,hc,n,hd⟩:=id p1;obtain⟨⟨cls2,dd2,data2,sl2⟩,ho2,hc2,n2,hd2⟩:=id p2;simp at hc hd hc2 hd2;subst hc hd hc2 hd2;exact concat_meets ⟨_,ho,rfl⟩ ⟨_,ho2,rfl⟩ noFill_tuple_add seq_tuple_add PySem.F.slot_tuple_add PySem.F.entry_tuple_add (PySem.F.args_tuple_add_2 _ _)
  (tuple_addW0 a b [].toArray its2.toArray n n2 dd dd2 sl sl2 (by simp)) ⟨ho,ho2,⟨.ref b,H,I,rfl,q⟩⟩
abbrev ala:R2:=λx y H Q=>∃i j,x = .str i/\y = .str j/\i.length+j.length<=sizeLine/\Q (.str (i++j)) H
abbrev alb(K:Fg):R2:=λx y H Q=>Rp (λi j=>.int (i+j)) x y H Q\/ala x y H Q\/ak9 x y H Q\/afU K x y H Q\/aaq K x y H Q
theorem ad5:nu X (binaryOp .Add) (alb X.K):=ahE.or<|Tj.or<|ahC.or<|ad4.or aaV
noncomputable def cA(x y:D):Option D:=match x,y with
 | .int i,.int j=>some (.int (i+j))
 | .str a,.str b=>if a.length+b.length<=sizeLine then some (.str (a++b)) else none
 | .lst a,.lst b=>if a.length+b.length<=sizeLine then some (.lst (a++b)) else none
 | .tup a,.tup b=>if a.length+b.length<=sizeLine then some (.tup (a++b)) else none
 | _,_=>none
theorem KC(a b):strOf a++strOf b=strOf (a++b):=by show(⟨(strOf a).cps++(strOf b).cps⟩:Str)=_;unfold strOf;simp
theorem nZ(a):(strOf a).length=a.length:=by rfl
theorem ahS:qg C (alb C.K) cA:=by
 intro Pr F env σ H x y d vx vy Q r hx hy h q;unfold cA at h;split at h
 ·cases h;obtain rfl:=hx.int;obtain rfl:=hy.int;exact .inl ⟨_,_,rfl,rfl,q _ H F r (aV.refl F) rfl⟩
 ·split at h
  ·rename_i hz;cases h;obtain⟨rfl,_⟩:=hx.str;obtain⟨rfl,_⟩:=hy.str;refine .inr<|.inl ⟨_,_,rfl,rfl,by assumption,?_⟩;rw[KC];exact q _ H F r (aV.refl F) ⟨rfl,by simp_all⟩
  ·cases h
 ·split at h
  ·rename_i hz;cases h;obtain⟨_,a,vs,rfl,h1,h2⟩:=hx.lst r.fr;obtain⟨_,b,ws,rfl,h3,h4⟩:=hy.lst r.fr;refine .inr<|.inr<|.inl ⟨a,b,vs,ws,rfl,rfl,h1,h3,by rw[h2.length,h4.length];exact hz,λp hp=>?_⟩;obtain⟨r2,s2⟩:=r.new hp;exact q _ _ _ r2 s2 ⟨by simp_all,p,_,rfl,bC,bT.mono s2 _ _<|h2.append h4⟩
  ·cases h
 ·split at h
  ·rename_i hz;cases h;obtain⟨z1,a,vs,rfl,h1,f1,h2⟩:=hx.tup r.fr;obtain⟨z2,b,ws,rfl,h3,f3,h4⟩:=hy.tup r.fr;by_cases hv:vs=[]
   ·subst hv;have e1:=h2.length.symm;have e2:=Qz7 e1;subst e2;refine .inr<|.inr<|.inr<|.inr ⟨a,b,ws,rfl,rfl,h1,h3,?_⟩;exact q _ H F r (aV.refl F) ⟨z2,b,ws,rfl,f3,h4⟩
   ·refine .inr<|.inr<|.inr<|.inl ⟨a,b,vs,ws,rfl,rfl,h1,h3,hv,by rw[h2.length,h4.length];exact hz,λhw=>?_,λhw p hp=>?_⟩
    ·subst hw;have e1:=h4.length.symm;have e2:=Qz7 e1;subst e2;rw[Qxv] at q;exact q _ H F r (aV.refl F) ⟨z1,a,vs,rfl,f1,h2⟩
    ·obtain⟨r2,s2⟩:=r.new hp;exact q _ _ _ r2 s2 ⟨by simp_all,p,_,rfl,mQ.of bC,bT.mono s2 _ _<|h2.append h4⟩
  ·cases h
 ·cases h
def Ro(K:Fg)(F H:Hp):List D->List V->Prop
 | [],vs=>vs=[]
 | d::ds,vs=>∃v r,vs=v::r/\j5 K F H d v/\Ro K F H ds r
inductive tAB (C:Cfg) (ev:dq) (σ:L2.St) (H:Hp) (Q:List L2.V->Hp->Prop):Prop
 | mk (Pr F:Hp) (env env':Env) (ds:List D) (_:Rel C Pr F env σ H) (_:ev env = .ok ds env') (_:∀vs H' F',Rel C Pr F' env' σ H'->aV F F'->Ro C.K F' H' ds vs->Q vs H'):tAB C ev σ H Q
def afx(X:Cx)(C:Cfg)(es:List Expr)(ev:dq):Prop:=PA X es (tAB C ev)
def CallD(C:Cfg)(r:List V->Hp->VK->Prop)(g:List D->Option D):Prop:=∀(Pr F:Hp) (env:Env) (σ:L2.St) (H:Hp) (ds:List D) (d:D) (vs:List V) (Q:VK),Rel C Pr F env σ H->Ro C.K F H ds vs->g ds=some d->
 (∀v H' F',Rel C Pr F' env σ H'->aV F F'->Rep C.K F' d v->Q v H')->r vs H Q
def az(g:List D->Option D)(a:dq):Ev:=λenv=>bindR (a env) λds aG=>fG (g ds) aG
theorem Wc(o:CallD C r g)(σ)(H)(Q)(h:tE C (az g a) σ H Q):tCB r (tAB C a) σ H Q:=by obtain⟨Pr,F,env,env',d,rl,e,q⟩:=h;obtain⟨ds,aG,e1,e2⟩:=aO e;obtain⟨e3,rfl⟩:=du e2;exact⟨Pr,F,env,env',ds,rl,e1,λvs H1 F1 r1 s1 p1=>o Pr F1 env' σ H1 ds d vs Q r1 p1 e3 λv H2 F2 r2 s2 p2=>q v H2 F2 r2 (s1.trans s2) p2⟩
theorem qu{p pos:Pos}{id:String}(hc:jL X (.builtin id) r)(o:CallD C r g)(hg:Gl X x)(hm:X.mg x=none)(hv:bootBuiltins x=some (.builtin id))(ha:afx X C (e::es) a)
  (hn:x ≠ "__name__":=by decide) (hdb:oW x:=by decide) (he:starEach (e::es) X.env=(false,eval e X.env)::starEach es X.env:=by rfl) (hpl:(backTo pos (starEach es X.env)).any (·.1)=false:=by rfl) :
  PX X C (.Call (.Name x p) (e::es) [] pos) (az g a):=(CQ hc hg hm hv ha hn hdb he hpl).imp<|Wc o
theorem ur{p pos:Pos}(hc:jL X (.type T) r)(o:CallD C r g)(hg:Gl X x)(hm:X.mg x=none)(hv:bootBuiltins x=some (.type T))(ha:afx X C (e::es) a)
  (hn:x ≠ "__name__":=by decide) (hdb:oW x:=by decide) (he:starEach (e::es) X.env=(false,eval e X.env)::starEach es X.env:=by rfl) (hpl:(backTo pos (starEach es X.env)).any (·.1)=false:=by rfl) :
  PX X C (.Call (.Name x p) (e::es) [] pos) (az g a):=(yM hc hg hm hv ha hn hdb he hpl).imp<|Wc o
theorem nR{K:Fg}(h:Ro K F H [d] vs):∃v,vs=[v]/\j5 K F H d v:=by
 obtain⟨v,r,rfl,h1,h2⟩:=h;cases h2
 simp_all
theorem Us{K:Fg}(h:Ro K F H [d,e] vs):∃v w,vs=[v,w]/\j5 K F H d v/\j5 K F H e w:=by obtain⟨v,r,rfl,h1,h2⟩:=h;obtain⟨w,rfl,h3⟩:=nR h2;exact⟨v,w,rfl,h1,h3⟩
noncomputable def cY:List D->Option D
 | [.str x]=>some (.int x.length)
 | [.tup xs]=>some (.int xs.length)
 | [.lst xs]=>some (.int xs.length)
 | [.arr xs]=>some (.int xs.length)
 | _=>none
theorem ajM:CallD C (λxs H Q=>∃x n,xs=[x]/\ang C.K x H n/\Q (.int n) H) cY:=by
 intro Pr F env σ H ds d vs Q r hs h q;unfold cY at h;split at h
 ·cases h;obtain⟨v,rfl,hv⟩:=nR hs;obtain⟨rfl,hz⟩:=hv.str;exact⟨_,_,rfl,⟨by assumption,(nZ _).symm⟩,q _ H F r (aV.refl F) rfl⟩
 ·cases h;obtain⟨v,rfl,hv⟩:=nR hs;obtain⟨_,a,ws,rfl,h1,_,h2⟩:=hv.tup r.fr;exact⟨_,_,rfl,.inr ⟨ws,h1,h2.length.symm⟩,q _ H F r (aV.refl F) rfl⟩
 ·cases h;obtain⟨v,rfl,hv⟩:=nR hs;obtain⟨_,a,ws,rfl,h1,h2⟩:=hv.lst r.fr;exact⟨_,_,rfl,.inl ⟨ws,nq.of h1,h2.length.symm⟩,q _ H F r (aV.refl F) rfl⟩
 ·cases h;obtain⟨v,rfl,hv⟩:=nR hs;obtain⟨_,a,ws,rfl,h1,h2⟩:=hv.arr r.fr;exact⟨_,_,rfl,.inl ⟨ws,h1,h2.length.symm⟩,q _ H F r (aV.refl F) rfl⟩
 ·cases h
noncomputable def dX:List D->Option D
 | [.tup xs]=>some (.tup xs)
 | [.lst xs]=>some (.tup xs)
 | _=>none
abbrev aaj(K:Fg):List V->Hp->VK->Prop:=λxs H Q=>∃p ys,xs=[.ref p]/\((nq K H p ys/\∀l,H l=none->Q (.ref l) (upd H l (.tup ys)))\/(mQ K H p ys/\Q (.ref p) H))
theorem aco:CallD C (aaj C.K) dX:=by
 intro Pr F env σ H ds d vs Q r hs h q;unfold dX at h;split at h
 ·cases h;obtain⟨v,rfl,hv⟩:=nR hs;obtain⟨z,a,ws,rfl,h1,f1,h2⟩:=hv.tup r.fr;exact⟨a,ws,rfl,.inr ⟨h1,q _ H F r (aV.refl F) ⟨z,a,ws,rfl,f1,h2⟩⟩⟩
 ·cases h;obtain⟨v,rfl,hv⟩:=nR hs;obtain⟨z,a,ws,rfl,h1,h2⟩:=hv.lst r.fr;refine⟨a,ws,rfl,.inl ⟨nq.of h1,λl hl=>?_⟩⟩;obtain⟨r2,s2⟩:=r.new hl;exact q _ _ _ r2 s2 ⟨z,l,ws,rfl,mQ.of bC,bT.mono s2 _ _ h2⟩
 ·cases h
noncomputable def signs(x:List Nat):List D:=x.map λc=>.str [c]
abbrev aal:List V->Hp->VK->Prop:=λxs H Q=>∃z,xs=[.str z]/\z.length<=sizeLine/\∀l,H l=none->Q (.ref l) (upd H l (.lst (z.cps.toList.map λc=>V.str ⟨#[c]⟩)))
theorem Ur(hh:X.calm=true):jL X (.type "list") aal:=by
 intro pins s σ H xs us Q I r h;obtain⟨z,rfl,hz,q⟩:=h;obtain⟨u,rfl,⟨t,rfl⟩⟩:=vals1 r;refine call_list_str (I.ok.hd hh) z t (λh' tk acc' c' kp e hacc=>?_) hz;refine⟨.ref s.heap.objs.size,_,I.laid kp (Qqv _)<|show iV X.prog X.w _ h' _ (.lst<|z.cps.toList.map λc=>V.str ⟨#[c]⟩) from⟨?_,acc'.toList,c',?_,by simpa using e⟩,rfl,q _<|I.hok.fresh<|Qqv _⟩
 ·simpa[Str.length] using hz
 ·obtain⟨hsz,hit⟩:=hacc;have go:∀(cs:List Nat) vs,vs.length=cs.length->(∀(j:Nat) v,vs[j]? = some v->∃c u,cs[j]? = some c/\v=Value.str ⟨#[c]⟩ u)->Vals (cs.map λc=>V.str ⟨#[c]⟩) vs:=by
   intro cs
   induction cs with
   | nil=>intro vs hl _;rw[Qz7 hl];exact .nil
   | cons c cs ih=>
    intro vs hl hv;cases vs with
    | nil=>simp at hl
    | cons v vs=>
     obtain⟨c',u,e1,e2⟩:=hv 0 v rfl;simp at e1;subst e1 e2;exact .cons ⟨u,rfl⟩<|ih vs (by simp_all) λj w hw=>by simpa using hv (j+1) w (by simpa using hw)
  refine go _ _ (by simpa using hsz) λj v hv=>?_;obtain⟨c,u,e1,e2⟩:=hit j v (by simp_all)
  simp_all
def qz:List D->Option D
 | [.tup xs]=>some (.lst xs)
 | [.lst xs]=>some (.lst xs)
 | [.str x]=>some (.lst (signs x))
 | _=>none
abbrev aam(K:Fg):List V->Hp->VK->Prop:=λxs H Q=>(∃p ys,xs=[.ref p]/\(nq K H p ys\/mQ K H p ys)/\∀l,H l=none->Q (.ref l) (upd H l (.lst ys)))\/aal xs H Q
theorem Fp(hh:X.calm=true):jL X (.type "list") (aam X.K):=MP.or<|Ur hh
theorem CJ{K:Fg}:∀x,bT K F (signs x) (x.map λc=>V.str ⟨#[c]⟩)
 | []=>rfl
 | c::x=>⟨_,_,rfl,⟨rfl,by rw[sizeLine_eq];simp⟩,CJ x⟩
theorem afb:CallD C (aam C.K) qz:=by
 intro Pr F env σ H ds d vs Q r hs h q;unfold qz at h;split at h
 ·cases h;obtain⟨v,rfl,hv⟩:=nR hs;obtain⟨z,a,ws,rfl,h1,f1,h2⟩:=hv.tup r.fr;refine .inl ⟨a,ws,rfl,.inr h1,λl hl=>?_⟩;obtain⟨r2,s2⟩:=r.new hl;exact q _ _ _ r2 s2 ⟨z,l,ws,rfl,bC,bT.mono s2 _ _ h2⟩
 ·cases h;obtain⟨v,rfl,hv⟩:=nR hs;obtain⟨z,a,ws,rfl,h1,h2⟩:=hv.lst r.fr;refine .inl ⟨a,ws,rfl,.inl<|nq.of h1,λl hl=>?_⟩;obtain⟨r2,s2⟩:=r.new hl;exact q _ _ _ r2 s2 ⟨z,l,ws,rfl,bC,bT.mono s2 _ _ h2⟩
 ·rename_i x;cases h;obtain⟨v,rfl,hv⟩:=nR hs;obtain⟨rfl,hz⟩:=hv.str;refine .inr ⟨_,rfl,by assumption,λl hl=>?_⟩;obtain⟨r2,s2⟩:=r.new hl;refine q _ _ _ r2 s2 ⟨by simpa[signs] using hz,l,_,rfl,bC,?_⟩;have e:(strOf x).cps.toList=x:=by rfl
  rw[e];exact CJ x
 ·cases h
noncomputable def Yi:List D->Option D
 | [.int i,.int j]=>some (.int (if j > i then j else i))
 | _=>none
noncomputable def Yh:List D->Option D
 | [.int i,.int j]=>some (.int (if j<i then j else i))
 | _=>none
theorem ajL:CallD C (λxs H Q=>∃i j,xs=[.int i,.int j]/\Q (.int (if j > i then j else i)) H) Yi:=by
 intro Pr F env σ H ds d vs Q r hs h q;unfold Yi at h;split at h
 ·cases h;obtain⟨v,w,rfl,hv,hw⟩:=Us hs;obtain rfl:=hv.int;obtain rfl:=hw.int;exact⟨_,_,rfl,q _ H F r (aV.refl F) rfl⟩
 ·cases h
theorem ajK:CallD C (λxs H Q=>∃i j,xs=[.int i,.int j]/\Q (.int (if j<i then j else i)) H) Yh:=by
 intro Pr F env σ H ds d vs Q r hs h q;unfold Yh at h;split at h
 ·cases h;obtain⟨v,w,rfl,hv,hw⟩:=Us hs;obtain rfl:=hv.int;obtain rfl:=hw.int;exact⟨_,_,rfl,q _ H F r (aV.refl F) rfl⟩
 ·cases h
noncomputable def xC:List D->Option D
 | [.int i,.int j]=>if 0<j/\j<1073741824 then some (.tup [.int (i / j),.int (i % j)]) else none
 | _=>none
theorem Yt:CallD C (λxs H Q=>∃i j,xs=[.int i,.int j]/\ano i j/\∀p,H p=none->Q (.ref p) (upd H p (.tup [.int (i / j),.int (i % j)]))) xC:=by
 intro Pr F env σ H ds d vs Q r hs h q;unfold xC at h;split at h
 ·split at h
  ·rename_i hj;cases h;obtain⟨v,w,rfl,hv,hw⟩:=Us hs;obtain rfl:=hv.int;obtain rfl:=hw.int;refine⟨_,_,rfl,hj,λp hp=>?_⟩;obtain⟨r2,s2⟩:=r.new hp;exact q _ _ _ r2 s2 ⟨by rw[sizeLine_eq];simp,p,_,rfl,mQ.of bC,⟨_,_,rfl,rfl,_,_,rfl,rfl,rfl⟩⟩
  ·cases h
 ·cases h
noncomputable def Ws:D->String
 | .non=>"NoneType"
 | .bl _=>"bool"
 | .int _=>"int"
 | .str _=>"str"
 | .tup _=>"tuple"
 | .lst _=>"list"
 | .arr _=>"list"
 | .dct _=>"dict"
 | .z6 _=>"dict"
 | .clo _ _=>"NoneType"
def eF(d:D)(T:String):Bool:=Ws d == T||(Ws d == "bool" && T == "int")
theorem aiZ(Vt:X.K.In s.heap)(nc:∀st ds,d ≠ .clo st ds)(h:Sh s.heap d u)(e:PySem.W.kitOne X.K (.type (Ws d)) c=some b)(q:∀tk,Q (.bool b) { s with toks:=tk }) :
  wpAny (model X.prog X.w) A (call (.builtin "isinstance") [u,c]) Q E s:=by
 cases d with
 | non=>cases h;exact PySem.W.kia_one PySem.W.kitx_none Vt True.intro e (λz=>nomatch z) q
 | bl y=>cases h;exact PySem.W.kia_one PySem.W.kitx_bool Vt True.intro e (λz=>nomatch z) q
 | int i=>obtain⟨t,rfl⟩:=h;exact PySem.W.kia_one PySem.W.kitx_int Vt True.intro e (λz=>nomatch z) q
 | str y=>obtain⟨t,rfl⟩:=h;exact PySem.W.kia_one PySem.W.kitx_str Vt True.intro e (λz=>nomatch z) q
 | tup xs=>
  obtain⟨a,its,rfl,p,_⟩:=h;obtain⟨o,h1,h2,_⟩:=p;exact PySem.W.kia_one PySem.W.kitx_tuple Vt ⟨o,h1,h2⟩ e (λz=>nomatch z) q
 | lst xs=>
  obtain⟨a,its,rfl,p,_⟩:=h;obtain⟨o,h1,h2,_⟩:=p.isList;exact PySem.W.kia_one PySem.W.kitx_list Vt ⟨o,h1,h2⟩ e (λz=>nomatch z) q
 | arr xs=>
  obtain⟨a,its,rfl,p,_⟩:=h;obtain⟨o,h1,h2,_⟩:=p.isList;exact PySem.W.kia_one PySem.W.kitx_list Vt ⟨o,h1,h2⟩ e (λz=>nomatch z) q
 | dct kvs=>
  obtain⟨a,o,rfl,h1,h2⟩:=h;exact PySem.W.kia_one PySem.W.kitx_dict Vt ⟨o,h1,h2.1⟩ e (λz=>nomatch z) q
 | z6 kvs=>
  obtain⟨a,o,rfl,h1,h2⟩:=h;exact PySem.W.kia_one PySem.W.kitx_dict Vt ⟨o,h1,h2.1⟩ e (λz=>nomatch z) q
 | clo st ds=>simp_all
def fL(T:String)(d:D):Option D:=match d with
 | .clo _ _=>none
 | _=>some (.bl (eF d T))
theorem aeI(h:fL T d=some e):(∀st ds,d ≠ .clo st ds)/\e = .bl (eF d T):=by cases d<;>simp[fL] at h<;>simp_all
theorem acq(hk:∀d,PySem.W.kitOne X.K (.type (Ws d)) (.type T)=some (eF d T)) :
  jL X (.builtin "isinstance") (λxs H Q=>∃d x,xs=[x,.ty T]/\(∀st ds,d ≠ .clo st ds)/\Rep X.K H d x/\Q (.bl (eF d T)) H):=by
 intro pins s σ H xs us Q I r h;obtain⟨d,x,rfl,nc,hr,q⟩:=h;obtain⟨u,w,rfl,r1,r2⟩:=vals2 r;cases r2;exact aiZ I.XX nc (Rep.sh I d x u hr r1) (hk d) λtk=>⟨.bl _,H,I.tok tk,rfl,q⟩
noncomputable def ue:List D->Option (List Bool)
 | []=>some []
 | .bl b::r=>(ue r).map (b :: ·)
 | _=>none
theorem O7{K:Fg}:∀{ds} {bs} {vs},ue ds=some bs->bT K F ds vs->vs=bs.map V.bl
 | [],bs,vs,h,hr=>by simp[ue] at h;subst h;cases hr;rfl
 | d::ds,bs,vs,h,hr=>by
  obtain⟨v,r,rfl,h1,h2⟩:=hr;cases d with
  | bl b=>
   simp only[ue] at h;cases e:ue ds with
   | none=>simp_all
   | some cs=>
    rw[e] at h;cases h;cases h1;rw[O7 e h2]
    rfl
  | _=>simp[ue] at h
theorem Nr:∀{bs:List Bool} {us},Vals (bs.map V.bl) us->us=bs.map Value.bool
 | [],_,.nil=>rfl
 | b::bs,_,.cons r t=>by
  cases r;rw[Nr t]
  rfl
theorem Hk(bs:List Bool):(List.range bs.length).all (λi=>bs.getD i true)=bs.all id:=by
 induction bs with
 | nil=>rfl
 | cons b bs ih=>
  rw[Qqw,List.range_succ_eq_map,List.all_cons,List.all_map,List.all_cons];simp[List.getD_cons_zero,id]
  congr 1
theorem Yz(hc:X.calm=true):jL X (.builtin "all") (λxs H Q=>∃(p:Addr) (bs:List Bool),xs=[.ref p]/\nq X.K H p (bs.map V.bl)/\Q (.bl (bs.all id)) H):=by
 intro pins s σ H xs us Q I r h;obtain⟨p,bs,rfl,hq,q⟩:=h;obtain⟨u,rfl,rx⟩:=vals1 r;cases rx;obtain⟨its,rv,pl,_⟩:=I.list hq;have e:=Nr rv;subst e;refine call_all_walk<|wpAny_pyIter_list pl.isList ?_;have hlt:p<s.heap.objs.size:=by obtain⟨o,e,_⟩:=pl.isList;exact Qq0 e
 refine⟨s.heap.objs.size,_,_,_,_,_,λi=>bs.getD i true,rfl,Walks.list (show X.A.in1.handled=none from I.ok.hd hc) s.heap.objs.size p (Qwv hlt) (bs.map Value.bool).toArray,⟨⟨_,Qq4 _ rfl,rfl,rfl⟩,by obtain⟨o,e,rr⟩:=pl.isList;exact⟨o,Qqx _ e,rr⟩⟩,?_,λh' tk hk=>?_⟩
 ·intro i v s' Q' E' hv hq';have hv:=hv;rw[List.getElem?_toArray,Qw6] at hv;cases hb:bs[i]? with
  | none=>simp_all
  | some b=>
   rw[hb] at hv;cases hv;refine Qx2 ?_
   simp_all
 ·have I1:Inv X pins σ H { s with heap:=h',toks:=tk }:=I.kept λb o e=>hk b o (by simp;exact Qwv<|Qq0 e)<|Qqx _ e;refine⟨.bl _,H,I1,rfl,?_⟩;have e2:(bs.map Value.bool).toArray.size=bs.length:=by simp
  rw[e2,Hk];exact q
def qC:List D->Option D
 | [.lst ds]=>(ue ds).map λbs=>.bl (bs.all id)
 | _=>none
theorem ajN:CallD C (λxs H Q=>∃(p:Addr) (bs:List Bool),xs=[.ref p]/\nq C.K H p (bs.map V.bl)/\Q (.bl (bs.all id)) H) qC:=by
 intro Pr F env σ H ds d vs Q r hs h q;unfold qC at h;split at h
 ·rename_i es;cases e:ue es with
  | none=>simp_all
  | some bs=>
   rw[e] at h;cases h;obtain⟨v,rfl,hv⟩:=nR hs;obtain⟨z,a,ws,rfl,h1,h2⟩:=hv.lst r.fr;have e2:=O7 e h2;subst e2;exact⟨a,bs,rfl,nq.of h1,q _ H F r (aV.refl F) rfl⟩
 ·cases h
noncomputable def jx:List D->Option (List (List Nat))
 | []=>some []
 | .str x::r=>(jx r).map (x :: ·)
 | _=>none
noncomputable def zQ(sep:List Nat):List (List Nat)->List Nat
 | []=>[]
 | x::r=>r.foldl (λacc y=>acc++sep++y) x
theorem abH(sep)(xs):Txt.join (strOf sep) (xs.map strOf)=strOf (zQ sep xs):=by
 unfold Txt.join;unfold Builtin.Str.glued;cases xs with
 | nil=>rfl
 | cons x r=>
  show⟨(r.map strOf).foldl (λacc p=>acc++(strOf sep).cps++p.cps) (strOf x).cps⟩=strOf (r.foldl (λacc y=>acc++sep++y) x);have go:∀(r:List (List Nat)) x,(r.map strOf).foldl (λacc p=>acc++(strOf sep).cps++p.cps) (strOf x).cps=(strOf<|r.foldl (λacc y=>acc++sep++y) x).cps:=by
   intro r
   induction r with
   | nil=>intro x;rfl
   | cons y r ih=>
    intro x;rw[Qq2,Qz9,Qz9];rw[<-ih (x++sep++y)]
    congr 1
    simp[strOf]
  rw[go]
theorem yL{K:Fg}:∀{ds} {xs} {vs},jx ds=some xs->bT K F ds vs->vs=xs.map λx=>V.str (strOf x)
 | [],bs,vs,h,hr=>by simp[jx] at h;subst h;cases hr;rfl
 | d::ds,bs,vs,h,hr=>by
  obtain⟨v,r,rfl,h1,h2⟩:=hr;cases d with
  | str b=>
   simp only[jx] at h;cases e:jx ds with
   | none=>simp_all
   | some cs=>
    rw[e] at h;cases h;cases h1.1;rw[yL e h2]
    rfl
  | _=>simp[jx] at h
theorem yf:∀{xs:List (List Nat)} {us},Vals (xs.map λx=>V.str (strOf x)) us->StrsAre us (xs.map strOf)
 | [],_,.nil=>.nil
 | x::xs,_,.cons r t=>by
  obtain⟨k,rfl⟩:=r;exact .cons _ k<|yf t
noncomputable def joinFits(sep:List Nat)(xs:List (List Nat)):Bool:=decide ((xs.map List.length).sum+xs.length*sep.length<=16777216)
def rJoin(K:Fg):V->List V->Hp->VK->Prop:=λx vs H Q=>∃sep xs p,x = .str (strOf sep)/\vs=[.ref p]/\nq K H p (xs.map λx=>V.str (strOf x))/\joinFits sep xs=true/\Q (.str (strOf (zQ sep xs))) H
theorem aec:MtR X "str.join" (rJoin X.K):=by
 intro pins s σ H x vs v us Q I rx rv h;obtain⟨sep,xs,p,rfl,rfl,hq,hf,q⟩:=h;obtain⟨t,rfl⟩:=rx;obtain⟨u,rfl,ru⟩:=vals1 rv;cases ru;obtain⟨its,r,pl,_⟩:=I.list hq;have hs:=yf r;refine join_list pl.isList (by simpa using hs) ?_ λt' k=>?_
 ·have hf':=Qx8 hf;have e:((xs.map strOf).map (·.length))=xs.map List.length:=by
   rw[Qz2]
   rfl
  rw[e,nZ,Qqz];exact hf'
 ·rw[abH];exact⟨.str _,H,I.tok k,⟨t',rfl⟩,q⟩
theorem Oc(sep):∀(r:List (List Nat)) x,(r.foldl (λacc y=>acc++sep++y) x).length=x.length+(r.map List.length).sum+r.length*sep.length
 | [],x=>by simp
 | y::r,x=>by
  rw[Qz9,Oc sep r,Qq1,Qq1,Qq2,List.sum_cons,Qqw,Nat.add_mul];omega
theorem abI(h:joinFits sep xs=true):(zQ sep xs).length<=sizeLine:=by
 have h':=Qx8 h;rw[sizeLine_eq];cases xs with
 | nil=>simp[zQ]
 | cons x r=>
  show(r.foldl (λacc y=>acc++sep++y) x).length<=_;rw[Oc];rw[Qq2,List.sum_cons,Qqw,Nat.add_mul] at h';omega
def pq(x y:D):Option D:=match x,y with
 | .str sep,.lst ds=>(match jx ds with
  | some xs=>if joinFits sep xs=true then some (.str (zQ sep xs)) else none
  | none=>none)
 | _,_=>none
theorem adH{apos cpos:Pos}(hK:X.K=C.K)(ho:PX X C o a)(he:PXB X C e b)(hbase:attributeBase o "join" X.env (eval o X.env)=eval o X.env:=by rfl)
  (hs:O6 e X.env:=by rfl)
  (hfew:((backTo cpos (starEach [e] X.env)).all (λx=>!x.1)&&(backToKw cpos (keywordEach [] X.env)).all (λx=>x.1.isSome)
   && decide ([e].length+([]:List Keyword).length+(if ([]:List Keyword).isEmpty then 0 else 1)<30))=true:=by rfl)
  (hline:(apos.endLine == cpos.line)=true:=by rfl) (hplain:(backTo cpos (starEach [] X.env)).any (·.1)=false:=by rfl) :
  PX X C (.Call (.Attribute o "join" apos) [e] [] cpos) (aN pq a b):=by
 refine(Vl PySem.F.plainAttrs_str PySem.F.slot_str_join PySem.F.type_str_join aec ho (iK he pW hs) hbase hfew hline hs hplain).imp λσ H Q h=>?_;obtain⟨Pr,F,env,env',d,rl,e0,q⟩:=h;obtain⟨x,aG,e1,e2⟩:=aO e0;obtain⟨y,dD,e3,e4⟩:=aO e2;obtain⟨e5,rfl⟩:=du e4;unfold pq at e5;split at e5
 ·rename_i sep ds;split at e5
  ·rename_i xs hxs;split at e5
   ·rename_i hf;cases e5;refine⟨Pr,F,env,aG,_,rl,e1,λvx H1 F1 r1 s1 p1=>?_⟩;obtain⟨rfl,_⟩:=p1;refine⟨rfl,Pr,F1,aG,env',_,r1,e3,λvy H2 F2 r2 s2 p2=>?_⟩;obtain⟨z,l,ws,rfl,h1,h2⟩:=p2.lst r2.fr;have e6:=yL hxs h2;subst e6;exact⟨sep,xs,l,rfl,rfl,nq.of h1,hf,q _ H2 F2 r2 (s1.trans s2) ⟨rfl,abI hf⟩⟩
   ·cases e5
  ·cases e5
 ·cases e5
end
theorem Rel.put(r:Rel C Pr F env σ H)(hfx:C.fx i=none)(p:Rep C.K F d v):Rel C Pr F (env.set i (some (false,d))) (σ.set i (some v)) H:=by
 refine⟨r.pr,r.fr,by rw[Qz4,Qz4];exact r.len,λj e he=>?_,λj e he=>?_,λj k e f b hj hk g1 g2=>?_,r.dj,λj a hj=>?_⟩
 ·by_cases hji:j=i
  ·subst hji;have hl:j<env.length:=by
    grind
   rw[Qxy hl] at he;cases he;exact⟨v,Qxy (by rw[<-r.len];exact hl),p⟩
  ·rw[Qwq (Ne.symm hji)] at he ⊢;exact r.val j e he
 ·by_cases hji:j=i
  ·grind
  ·rw[Qwq (Ne.symm hji)] at he ⊢;exact r.own j e he
 ·have nn:∀j e,(env.set i<|some (false,d))[j]? = some (some (true,e))->j≠i:=λj e he z=>by
   grind
  have nj:=nn j e hj;have nk:=nn k f hk;rw[Qwq (Ne.symm nj)] at hj g1;rw[Qwq (Ne.symm nk)] at hk g2;exact r.apart j k e f b hj hk g1 g2
 ·have hji:j≠i:=λz=>by simp_all
  rw[Qwq (Ne.symm hji)];exact r.fix j a hj
structure New(K:Fg)(Pr F:Hp)(env:Env)(σ:L2.St)(H:Hp)(d:D)(a:Addr):Prop where
 own:j4 K F H d a
 nF:F a=none
 nP:Pr a=none
 ap:∀(j:Nat) (e:D),env[j]? = some (some (true,e))->σ[j]? = some (some (V.ref a))->False
theorem New.of(r:Rel C Pr F env σ H)(h:H a=none)(ho:j4 C.K F (upd H a o) d a):New C.K Pr F env σ (upd H a o) d a:=
 ⟨ho,r.fr.free h,r.pr.free h,λj e he hs=>by
  obtain⟨b,h1,h2,_⟩:=r.own j e he;rw[hs] at h1;cases h1;obtain⟨u,hu⟩:=h2.some
  simp_all⟩
theorem Rel.Td(r:Rel C Pr F env σ H)(hfx:C.fx i=none)(n:New C.K Pr F env σ H d a):Rel C Pr F (env.set i (some (true,d))) (σ.set i (some (.ref a))) H:=by
 have same:∀j x,(env.set i<|some (true,d))[j]? = some (some x)->j=i->x=(true,d)/\j<env.length:=λj x he z=>by
  subst z;have hl:j<env.length:=by
   have:=(Qwz.mp he).1
   rwa [Qz4] at this
  rw[Qxy hl] at he;cases he;exact⟨rfl,hl⟩
 refine⟨r.pr,r.fr,by rw[Qz4,Qz4];exact r.len,λj e he=>?_,λj e he=>?_,λj k e f b hj hk g1 g2=>?_,r.dj,λj a hj=>?_⟩
 ·by_cases hji:j=i
  ·have:=(same j _ he hji).1;cases this
  ·rw[Qwq (Ne.symm hji)] at he ⊢;exact r.val j e he
 ·by_cases hji:j=i
  ·obtain⟨z,hl⟩:=same j _ he hji;cases z;subst hji;exact⟨a,Qxy (by rw[<-r.len];exact hl),n.own,n.nF,n.nP⟩
  ·rw[Qwq (Ne.symm hji)] at he ⊢;exact r.own j e he
 ·by_cases nj:j=i
  ·by_cases nk:k=i
   ·rw[nj,nk]
   ·obtain⟨z,hl⟩:=same j _ hj nj;subst nj;rw[Qxy (by rw[<-r.len];exact hl)] at g1;cases g1;rw[Qwq (Ne.symm nk)] at hk g2;exact(n.ap k f hk g2).elim
  ·rw[Qwq (Ne.symm nj)] at hj g1;by_cases nk:k=i
   ·obtain⟨z,hl⟩:=same k _ hk nk;subst nk;rw[Qxy (by rw[<-r.len];exact hl)] at g2;cases g2;exact(n.ap j e hj g1).elim
   ·rw[Qwq (Ne.symm nk)] at hk g2;exact r.apart j k e f b hj hk g1 g2
 ·have hji:j≠i:=λz=>by rw[z,hfx] at hj;cases hj
  rw[Qwq (Ne.symm hji)];exact r.fix j a hj
theorem Rel.keep(r:Rel C Pr F env σ H)(n:New C.K Pr F env σ H d a):∃F',Rel C Pr F' env σ H/\aV F F'/\Rep C.K F' d (.ref a):=by
 obtain⟨o,ho⟩:=n.own.some;have s1:aV F (upd F a o):=lB n.nF;have rep:Rep C.K (upd F a o) d (.ref a):=by
  have h2:=n.own;cases d with
  | lst xs=>obtain⟨z,vs,g1,g2⟩:=h2;rw[ho] at g1;cases g1;exact⟨z,a,vs,rfl,bC,bT.mono s1 _ _ g2⟩
  | dct kvs=>obtain⟨z,ks,g1,g2⟩:=h2;rw[ho] at g1;cases g1;exact⟨z,a,ks,rfl,.inl bC,fH.mono s1 _ _ g2⟩
  | z6 kvs=>obtain⟨z,ks,g1,g2⟩:=h2;rw[ho] at g1;cases g1;exact⟨z,a,ks,rfl,.inl bC,rP.mono s1 _ _ g2⟩
  | _=>exact h2.elim
 refine⟨upd F a o,⟨r.pr,λb u e=>?_,r.len,λj e he=>?_,λj e he=>?_,r.apart,λb u e=>?_,r.fix⟩,s1,rep⟩
 ·by_cases hb:b=a
  ·subst hb;rw[bC] at e;cases e;exact ho
  ·rw[cz hb] at e;exact r.fr b u e
 ·obtain⟨v,g1,g2⟩:=r.val j e he;exact⟨v,g1,Rep.mono s1 e v g2⟩
 ·obtain⟨b,g1,g2,g3,g4⟩:=r.own j e he;have hb:b≠a:=λz=>by subst z;exact n.ap j e he g1
  exact⟨b,g1,g2.mono s1 rfl,by rw[cz hb];exact g3,g4⟩
 ·by_cases hb:b=a
  ·subst hb;exact n.nP
  ·rw[cz hb] at e;exact r.dj b u e
theorem Rel.write(r:Rel C Pr F env σ H)(h:env[i]? = some (some (true,d)))(hs:σ[i]? = some (some (V.ref a)))(ho:j4 C.K F (upd H a u) d' a) :
  Rel C Pr F (env.set i (some (true,d'))) σ (upd H a u):=by
 obtain⟨a',h1,h2,h3,h4⟩:=r.own i d h;rw[hs] at h1;cases h1;have hi:=(Qwz.mp h).1;have ne:∀j e b,j≠i->env[j]? = some (some (true,e))->σ[j]? = some (some<|V.ref b)->b≠a:=λj e b hj he g z=>hj<|r.apart j i e d a he h (by simp_all) hs;refine⟨λb w e=>?_,λb w e=>?_,by rw[Qz4];exact r.len,λj e he=>?_,λj e he=>?_,λj k e f b hj hk g1 g2=>?_,r.dj,r.fix⟩
 ·have hb:b≠a:=λz=>by simp_all
  rw[cz hb];exact r.pr b w e
 ·have hb:b≠a:=λz=>by simp_all
  rw[cz hb];exact r.fr b w e
 ·by_cases hj:j=i
  ·simp_all
  ·rw[Qwq (Ne.symm hj)] at he;exact r.val j e he
 ·by_cases hj:j=i
  ·simp_all
  ·rw[Qwq (Ne.symm hj)] at he;obtain⟨b,g1,g2,g3,g4⟩:=r.own j e he;exact⟨b,g1,g2.mono (aV.refl F)<|cz<|ne j e b hj he g1,g3,g4⟩
 ·have un:∀(j:Nat) e,(env.set i<|some (true,d'))[j]? = some (some (true,e))->∃e',env[j]? = some (some (true,e')):=λj e he=>by
   grind
  obtain⟨e',hj'⟩:=un j e hj;obtain⟨f',hk'⟩:=un k f hk;exact r.apart j k e' f' b hj' hk' g1 g2
inductive tN (C:Cfg) (ev:Ev) (σ:L2.St) (H:Hp) (Q:L2.VK):Prop
 | mk (Pr F:Hp) (env env':Env) (d:D) (_:Rel C Pr F env σ H) (_:ev env = .ok d env') (_:∀a H' F',Rel C Pr F' env' σ H'->aV F F'->New C.K Pr F' env' σ H' d a->Q (.ref a) H'):tN C ev σ H Q
def PXN(X:Cx)(C:Cfg)(e:Expr)(ev:Ev):Prop:=PE X e (tN C ev)
section
variable{X:Cx}{C:Cfg}{pos:Pos}
theorem PXN.px(h:PXN X C e ev):PX X C e ev:=PE.imp h λσ H Q hq=>by
 obtain⟨Pr,F,env,env',d,r,e,q⟩:=hq;refine⟨Pr,F,env,env',d,r,e,λa H' F' r' s' n'=>?_⟩;obtain⟨F2,r2,s2,p2⟩:=r'.keep n';exact q _ _ F2 r2 (s'.trans s2) p2
theorem Vg(h:Y8 X C es r):PXN X C (.List es pos) (dF r):=(ahn h).imp λσ H Q hq=>by
 obtain⟨Pr,F,env,env',d,rl,e,q⟩:=hq;obtain⟨ds,aG,e1,e2⟩:=aO e;split at e2
 ·rename_i hz;cases e2;refine⟨Pr,F,env,env',ds,rl,e1,λvs H1 F1 r1 s1 p1=>⟨by rw[p1.length];exact hz,λp hp=>?_⟩⟩;exact q _ _ F1 (r1.fresh hp) s1<|New.of r1 hp ⟨hz,vs,bC,p1⟩
 ·cases e2
abbrev GV:=D->Env->Option Env
abbrev Y9:=List D->Env->Option Env
inductive tG (C:Cfg) (lo:Nat) (gv:GV) (v:L2.V) (σ:L2.St) (H:Hp) (Q:L2.St->Hp->Prop):Prop
 | mk (Pr F:Hp) (env env':Env) (d:D) (_:Rel C Pr F env σ H) (_:Rep C.K F d v) (_:gv d env=some env') (_:∀σ' H' F',Rel C Pr F' env' σ' H'->aV F F'->σ'.take lo=σ.take lo->Q σ' H'):tG C lo gv v σ H Q
inductive tGs (C:Cfg) (lo:Nat) (gv:Y9) (vs:List L2.V) (σ:L2.St) (H:Hp) (Q:L2.St->Hp->Prop):Prop
 | mk (Pr F:Hp) (env env':Env) (ds:List D) (_:Rel C Pr F env σ H) (_:bT C.K F ds vs) (_:gv ds env=some env') (_:∀σ' H' F',Rel C Pr F' env' σ' H'->aV F F'->σ'.take lo=σ.take lo->Q σ' H'):tGs C lo gv vs σ H Q
def Y7(X:Cx)(C:Cfg)(lo:Nat)(e:Expr)(gv:GV):Prop:=PG X e (tG C lo gv)
def akd(X:Cx)(C:Cfg)(lo:Nat)(es:List Expr)(gv:Y9):Prop:=PGs X es (tGs C lo gv)
theorem _root_.L2.PG.imp{X:Cx}{e:Expr}{t t':TG}(h:PG X e t)(i:∀v σ H Q,t' v σ H Q->t v σ H Q):PG X e t':=λpins s σ H v u Q I r q=>h pins s σ H v u Q I r<|i v σ H Q q
theorem _root_.L2.PGs.imp{X:Cx}{e:List Expr}{t t':TGs}(h:PGs X e t)(i:∀v σ H Q,t' v σ H Q->t v σ H Q):PGs X e t':=λpins s σ H v u Q I r q=>h pins s σ H v u Q I r<|i v σ H Q q
noncomputable def au(i:Nat):GV:=λd env=>some (env.set i (some (false,d)))
theorem aax{lo i:Nat}(hN:X.N.Nodup)(hi:X.N[i]? = some x)(hx:Loc X.env.scope x)(hlo:lo<=i)(hfx:C.fx i=none)(hf:X.fn x=true\/X.env.scope.names.lookup x=some .local:=by first|exact .inl rfl|exact .inr rfl|assumption):Y7 X C lo (.Name x pos) (au i):=
 (adV hN hi hx hf).imp λv σ H Q h=>by
  obtain⟨Pr,F,env,env',d,r,p,e,q⟩:=h;cases e;exact q _ _ F (r.put hfx p) (aV.refl F) (by rw[List.take_set_of_le hlo])
noncomputable def eG:Y9:=λds env=>if ds.isEmpty then some env else none
noncomputable def bu(g:GV)(gs:Y9):Y9:=λds env=>match ds with
 | d::r=>(g d env).bind λe1=>gs r e1
 | []=>none
theorem aaw{lo:Nat}:akd X C lo [] eG:=adU.imp λv σ H Q h=>by
 obtain⟨Pr,F,env,env',ds,r,p,e,q⟩:=h;cases ds with
 | nil=>cases e;cases p;exact⟨rfl,q _ _ F r (aV.refl F) rfl⟩
 | cons d ds=>cases e
noncomputable def d8(n:Nat)(gs:Y9):GV:=λd env=>match d with
 | .tup ds=>if ds.length=n then gs ds env else none
 | _=>none
theorem adF{lo:Nat}{k:Nat}(hc:X.calm=true)(hK:X.K=C.K)(h:akd X C lo es gs)
  (hn:(assignEach es X.env).length=n:=by rfl) (hst:(assignEach es X.env).findIdx? (·.1)=none:=by rfl):Y7 X C lo (.Tuple es k pos) (d8 n gs):=(ahf hc h hn hst).imp λv σ H Q h=>by
 obtain⟨Pr,F,env,env',d,r,p,e,q⟩:=h;cases d with
 | tup ds=>
  obtain⟨z,a,vs,rfl,h1,h2⟩:=p;unfold d8 at e;simp only at e;split at e
  ·rename_i hl;rw[hK];exact⟨a,vs,rfl,aV.tupK r.fr h1,by rw[h2.length];exact hl,Pr,F,env,env',ds,r,h2,e,q⟩
  ·cases e
 | _=>cases e
def T6(i:Nat)(ix:Ev):GV:=λd env=>match env[i]? with
 | some (some (_,_))=>(match ix env with
  | .ok (.int k) aG=>(match aG[i]? with
   | some (some (true,.lst xs))=>(Vw xs.length k).map λj=>aG.set i (some (true,.lst (xs.set j d)))
   | _=>none)
  | _=>none)
 | _=>none
theorem ag0{lo i:Nat}(hN:X.N[i]? = some x)(hv:yd X.env.scope x)(h:PX X C ix ev)
  (ha:∀v,assign (.Subscript (.Name x px) ix pos) X.env v=(do
   let ov <-holding [v] (eval (.Name x px) X.env)
   let iv <-holding [v,ov] (eval ix X.env)
   standAt pos
   holding [v,ov,iv] (setItem ov iv v)
   release [v,ov,iv] []):=by intro _;rfl)
  (hd:oW x:=by decide) (hcd:yP x:=by decide):Y7 X C lo (.Subscript (.Name x px) ix pos) (T6 i ev):=
 (ahg (kj hN hv hd hcd) h set_list ha).imp λv σ H Q hq=>by
  obtain⟨Pr,F,env,env',d,r,p,e,q⟩:=hq;unfold T6 at e;split at e
  ·rename_i o0 d0 h0;obtain⟨v0,hv0,_⟩:=r.rd h0;split at e
   ·rename_i k aG e1;split at e
    ·rename_i xs h2;obtain⟨j,hj,e3⟩:=Qww.mp e;subst e3;refine⟨v0,hv0,Pr,F,env,aG,.int k,r,e1,λvi H1 F1 r1 s1 p1=>?_⟩;cases p1;obtain⟨a,g1,⟨z,vs,g2,g3⟩,g4,g5⟩:=r1.own i _ h2;rw[hv0] at g1;cases g1;refine⟨a,vs,k,j,rfl,rfl,g2,by rw[g3.length];exact hj,?_⟩;refine q σ _ F1 (r1.write h2 hv0 ⟨by simp_all,vs.set j v,bC,bT.set (Rep.mono s1 d v p) j g3⟩) s1 rfl
    ·cases e
   ·cases e
  ·cases e
end
inductive Out where
 | nx (env:Env)
 | rt (o:Bool) (d:D) (env:Env)
 | bk (env:Env)
 | ct (env:Env)
 | stuck
abbrev bU:=Env->Out
def Fin(C:Cfg)(Pr F:Hp)(D:Ends):Out->Prop
 | .nx env'=>∀σ' H' F',Rel C Pr F' env' σ' H'->aV F F'->D.nx σ' H'
 | .rt false d env'=>∀v σ' H' F',Rel C Pr F' env' σ' H'->aV F F'->Rep C.K F' d v->D.rt v H'
 | .rt true d env'=>∀a σ' H' F',Rel C Pr F' env' σ' H'->aV F F'->New C.K Pr F' env' σ' H' d a->D.rt (.ref a) H'
 | .bk env'=>∀σ' H' F',Rel C Pr F' env' σ' H'->aV F F'->D.bk σ' H'
 | .ct env'=>∀σ' H' F',Rel C Pr F' env' σ' H'->aV F F'->D.ct σ' H'
 | .stuck=>False
theorem Fin.mono{D:Ends}(s:aV F F1):∀{o},Fin C Pr F D o->Fin C Pr F1 D o
 | .nx _,h=>λσ' H' F' r t=>h σ' H' F' r<|s.trans t
 | .rt false _ _,h=>λv σ' H' F' r t=>h v σ' H' F' r<|s.trans t
 | .rt true _ _,h=>λv σ' H' F' r t=>h v σ' H' F' r<|s.trans t
 | .bk _,h=>λσ' H' F' r t=>h σ' H' F' r<|s.trans t
 | .ct _,h=>λσ' H' F' r t=>h σ' H' F' r<|s.trans t
 | .stuck,h=>h
inductive tS (C:Cfg) (ev:bU) (D:L2.Ends) (σ:L2.St) (H:Hp):Prop
 | mk (Pr F:Hp) (env:Env) (_:Rel C Pr F env σ H) (_:Fin C Pr F D (ev env)):tS C ev D σ H
def PXS(X:Cx)(C:Cfg)(st:Stmt)(ev:bU):Prop:=PS X st (tS C ev)
def Gn(X:Cx)(C:Cfg)(st:List Stmt)(ev:bU):Prop:=Rq X st (tS C ev)
noncomputable def eY{α:Type}(x:R α)(f:α->Env->Out):Out:=match x with
 | .ok a env=>f a env
 | .stuck=>.stuck
theorem fO{D:Ends}{α:Type}{x:R α}{f:α->Env->Out}(h:Fin C Pr F D (eY x f)):∃a aG,x = .ok a aG/\Fin C Pr F D (f a aG):=by
 cases x with
 | ok a aG=>exact⟨a,aG,rfl,h⟩
 | stuck=>exact h.elim
section
variable{X:Cx}{C:Cfg}{pos:Pos}
noncomputable def bJ:bU:=λenv=>.nx env
noncomputable def aF(a b:bU):bU:=λenv=>match a env with
 | .nx e=>b e
 | .rt o d e=>.rt o d e
 | .bk e=>.bk e
 | .ct e=>.ct e
 | .stuck=>.stuck
theorem aar:Gn X C [] bJ:=adK.imp λD σ H h=>by
 obtain⟨Pr,F,env,r,f⟩:=h;exact f σ H F r<|aV.refl F
def cJ(t:fX)(a b:bU):bU:=λenv=>eY (t env) λc aG=>if c=true then a aG else b aG
def aY(a:Ev):bU:=λenv=>eY (a env) λd aG=>.rt false d aG
def wL(a:Ev):bU:=λenv=>eY (a env) λd aG=>.rt true d aG
noncomputable def agL:bU:=λenv=>.rt false .non env
def KH(a:Ev):bU:=λenv=>eY (a env) λ_ aG=>.nx aG
noncomputable def HY(o:Option Env):Out:=match o with
 | some e=>.nx e
 | none=>.stuck
def aX(a:Ev)(g:GV):bU:=λenv=>eY (a env) λd aG=>HY (g d aG)
theorem ajX{D:Ends}(h:tS C (aX a g) D σ H):ZR (tE C a) (tG C 0 g) D σ H:=by
 obtain⟨Pr,F,env,r,f⟩:=h;obtain⟨d,aG,e1,f1⟩:=fO f;refine⟨Pr,F,env,aG,d,r,e1,λv H1 F1 r1 s1 p1=>?_⟩;cases e2:g d aG with
 | none=>rw[e2] at f1;exact f1.elim
 | some dD=>rw[e2] at f1;exact⟨Pr,F1,aG,dD,d,r1,p1,e2,λσ2 H2 F2 r2 s2 _=>f1 σ2 H2 F2 r2<|s1.trans s2⟩
theorem ady(hN:X.N.Nodup)(hi:X.N[i]? = some x)(hx:Loc X.env.scope x)(hfx:C.fx i=none)(he:PX X C e a)(hs:swapsWith e (some (.Name x pos')) pos.line X.env=pure false:=by rfl)(hf:X.fn x=true\/X.env.scope.names.lookup x=some .local:=by first|exact .inl rfl|exact .inr rfl|assumption) :
  PXS X C (.Assign [.Name x pos'] e pos) (aX a (au i)):=(aaD hN hi hx he hs hf).imp λD σ H h=>by
 obtain⟨Pr,F,env,r,f⟩:=h;obtain⟨d,aG,e1,f1⟩:=fO f;exact⟨Pr,F,env,aG,d,r,e1,λv H1 F1 r1 s1 p1=>f1 _ H1 F1 (r1.put hfx p1) s1⟩
def gr(i:Nat)(a:Ev):bU:=λenv=>eY (a env) λd aG=>.nx (aG.set i (some (true,d)))
theorem adz(hN:X.N.Nodup)(hi:X.N[i]? = some x)(hx:Loc X.env.scope x)(hfx:C.fx i=none)(he:PXN X C e a)(hs:swapsWith e (some (.Name x pos')) pos.line X.env=pure false:=by rfl)(hf:X.fn x=true\/X.env.scope.names.lookup x=some .local:=by first|exact .inl rfl|exact .inr rfl|assumption) :
  PXS X C (.Assign [.Name x pos'] e pos) (gr i a):=(aaD hN hi hx he hs hf).imp λD σ H h=>by
 obtain⟨Pr,F,env,r,f⟩:=h;obtain⟨d,aG,e1,f1⟩:=fO f;exact⟨Pr,F,env,aG,d,r,e1,λv H1 F1 r1 s1 p1=>f1 _ H1 F1 (r1.Td hfx p1) s1⟩
def iH(i:Nat)(a:Ev):bU:=λenv=>match env[i]? with
 | some (some (true,.lst _))=>eY (a env) λd aG=>(match aG[i]? with
  | some (some (true,.lst xs))=>if xs.length<sizeLine then .nx (aG.set i (some (true,.lst (xs++[d])))) else .stuck
  | _=>.stuck)
 | _=>.stuck
theorem adB(hN:X.N[i]? = some x)(hv:yd X.env.scope x)(he:PX X C e a)(hK:X.K=C.K)
  (hs:swapsWith (.Call (.Attribute (.Name x px) "append" apos) [e] [] cpos) none pos.line X.env=pure false:=by rfl)
  (hfew:((backTo cpos (starEach [e] X.env)).all (λx=>!x.1)&&(backToKw cpos (keywordEach [] X.env)).all (λx=>x.1.isSome)
   && decide ([e].length+([]:List Keyword).length+(if ([]:List Keyword).isEmpty then 0 else 1)<30))=true:=by rfl)
  (hbase:attributeBase (.Name x px) "append" X.env (eval (.Name x px) X.env)=eval (.Name x px) X.env:=by rfl)
  (hline:(apos.endLine == cpos.line)=true:=by rfl) (hst:O6 e X.env:=by rfl) (hplain:(backTo cpos (starEach [] X.env)).any (·.1)=false:=by rfl)
  (hd:oW x:=by decide) (hcd:yP x:=by decide):PXS X C (.Expr (.Call (.Attribute (.Name x px) "append" apos) [e] [] cpos) pos) (iH i a):=by
 refine PS.imp (Lk (Vl PySem.F.plainAttrs_list PySem.F.slot_list_append PySem.F.type_list_append yQ (kj hN hv hd hcd) (iK he pW hst) hbase hfew hline hst hplain) hs) λD σ H h=>?_;obtain⟨Pr,F,env,r,f⟩:=h;unfold iH at f;split at f
 ·rename_i xs0 h0;obtain⟨d,aG,e1,f1⟩:=fO f;obtain⟨a0,hv0,⟨z0,vs0,g0,_⟩,_⟩:=r.own i _ h0;refine⟨_,hv0,.inl ⟨rfl,vs0,nq.of g0⟩,Pr,F,env,aG,d,r,e1,λv H1 F1 r1 s1 p1=>?_⟩;split at f1
  ·rename_i xs h1;split at f1
   ·rename_i hz;obtain⟨a,g1,⟨z,vs,g2,g3⟩,g4,g5⟩:=r1.own i _ h1;rw[hv0] at g1;cases g1;refine⟨a0,vs,v,rfl,rfl,g2,by rw[g3.length];exact hz,?_⟩;exact f1 σ _ F1 (r1.write h1 hv0 ⟨by rw[Qq1];exact hz,vs++[v],bC,g3.append<|bT.one p1⟩) s1
   ·exact f1.elim
  ·exact f1.elim
 ·exact f.elim
def nW(K:Fg)(F:Hp)(ds:List D)(J:It):Prop:=∀(i:Nat) (H:Hp),aV F H->(ds[i]? = none->i=ds.length->J.stop i H)/\∀d,ds[i]? = some d->J.go i H/\∀x H',J.Zh i H x H'->
 (H'=H/\Rep K F d x)\/∃p vs es,H p=none/\H'=upd H p (.tup vs)/\x = .ref p/\d = .tup es/\es.length<=sizeLine/\bT K F es vs
inductive tI (C:Cfg) (ev:dq) (σ:L2.St) (H:Hp) (R:L2.It->Hp->Prop):Prop
 | mk (Pr F:Hp) (env env':Env) (ds:List D) (_:Rel C Pr F env σ H) (_:ev env = .ok ds env') (_:∀J H' F',Rel C Pr F' env' σ H'->aV F F'->nW C.K F' ds J->R J H'):tI C ev σ H R
def YW(X:Cx)(C:Cfg)(tg iter:Expr)(ev:dq):Prop:=PI X tg iter (tI C ev)
theorem _root_.L2.PI.imp{X:Cx}{tg e:Expr}{t t':TI}(h:PI X tg e t)(i:∀σ H R,t' σ H R->t σ H R):PI X tg e t':=λpins s σ H R I q=>h pins s σ H R I<|i σ H R q
theorem nW.item(r:Rel C Pr F1 env σ H)(s:aV F F1)(y:nW C.K F ds J)(hd:ds[i]? = some d)(hy:J.Zh i H x H') :
  ∃F2,Rel C Pr F2 env σ H'/\aV F1 F2/\Rep C.K F2 d x:=by
 rcases((y i H<|s.trans r.fr).2 d hd).2 x H' hy with ⟨rfl,p⟩|⟨p,vs,es,hp,rfl,rfl,rfl,hz,q⟩
 ·exact⟨F1,r,aV.refl F1,Rep.mono s _ _ p⟩
 ·obtain⟨r2,s2⟩:=r.new hp;exact⟨_,r2,s2,hz,p,vs,rfl,mQ.of bC,bT.mono (s.trans s2) _ _ q⟩
noncomputable def lV(g:GV)(b:bU):List D->bU
 | [],env=>.nx env
 | d::ds,env=>(match g d env with
  | none=>.stuck
  | some e1=>(match b e1 with
   | .nx e2=>lV g b ds e2
   | .ct e2=>lV g b ds e2
   | .bk e2=>.nx e2
   | .rt o d e2=>.rt o d e2
   | .stuck=>.stuck))
def gU(it:dq)(g:GV)(b:bU):bU:=λenv=>eY (it env) λds aG=>lV g b ds aG
theorem adA(hp:PassesOwn (model X.prog X.w) X.A X.env X.xe)(hc:X.calm=true)(hi:YW X C tg iter it)(hg:Y7 X C 0 tg g)(hb:Gn X C body b)
  (hs:∀x,foldedSetIterable iter X.env x=pure x:=by intro _;rfl):PXS X C (.For tg iter body [] pos) (gU it g b):=(ahb hp hc hi hg hb hs).imp λD σ H h=>by
 obtain⟨Pr,F,env,r,f⟩:=h;obtain⟨ds,aG,e1,f1⟩:=fO f;refine⟨Pr,F,env,aG,ds,r,e1,λJ H1 F1 r1 s1 y1=>?_⟩;refine⟨λi m σ' H'=>m=ds.length - i/\i<=ds.length/\∃F' env',Rel C Pr F' env' σ' H'/\aV F1 F'/\Fin C Pr F' D (lV g b (ds.drop i) env'),⟨ds.length,rfl,Qxx _,F1,aG,r1,aV.refl _,f1.mono s1⟩,?_⟩;rintro i m σ' H' ⟨rfl,hi,F',env',r',s',f'⟩;by_cases hl:i<ds.length
 ·have hd:=Qq6 hl;have hdr:=Qx4 hl;have yy:=y1 i H'<|s'.trans r'.fr;refine .inr ⟨(yy.2 _ hd).1,λσ2 H2=>∃F' env',Rel C Pr F' env' σ2 H2/\aV F1 F'/\Fin C Pr F' D (lV g b (ds.drop<|i+1) env'),λσ2 H2 h2=>⟨ds.length - (i+1),by omega,rfl,hl,h2⟩,λx H2 hy=>?_⟩;obtain⟨F2,r2,s2,p2⟩:=nW.item r' s' y1 hd hy;rw[hdr] at f';have f2:=f'.mono s2;unfold lV at f2;cases eg:g ds[i] env' with
  | none=>rw[eg] at f2;exact f2.elim
  | some e2=>
   rw[eg] at f2;refine⟨Pr,F2,env',e2,ds[i],r2,p2,eg,λσ3 H3 F3 r3 s3 _=>⟨Pr,F3,e2,r3,?_⟩⟩;simp at f2;have s13:=(s'.trans s2).trans s3;cases eb:b e2 with
   | nx e3=>rw[eb] at f2;exact λσ4 H4 F4 r4 s4=>⟨F4,e3,r4,s13.trans s4,f2.mono<|s3.trans s4⟩
   | ct e3=>rw[eb] at f2;exact λσ4 H4 F4 r4 s4=>⟨F4,e3,r4,s13.trans s4,f2.mono<|s3.trans s4⟩
   | bk e3=>rw[eb] at f2;exact λσ4 H4 F4 r4 s4=>f2 σ4 H4 F4 r4<|s3.trans s4
   | rt o d e3=>rw[eb] at f2;cases o<;>exact λv σ4 H4 F4 r4 s4 p4=>f2 v σ4 H4 F4 r4 (s3.trans s4) p4
   | stuck=>rw[eb] at f2;exact f2.elim
 ·have e:i=ds.length:=by omega
  subst e;rw[List.drop_length] at f';exact .inl ⟨(y1 _ H'<|s'.trans r'.fr).1 (Qjv<|Qqv _) rfl,f' σ' H' F' r'<|aV.refl F'⟩
noncomputable def Kl(t:fX)(b:bU):Nat->bU
 | 0,_=>.stuck
 | n+1,env=>eY (t env) λc e1=>if c=true then (match b e1 with
   | .nx e2=>Kl t b n e2
   | .ct e2=>Kl t b n e2
   | .bk e2=>.nx e2
   | .rt o d e2=>.rt o d e2
   | .stuck=>.stuck) else .nx e1
end
end Ev
namespace L2
open PySem PySem.Spec PyProof.Rows
noncomputable def Its(z:Str):It:=⟨λi _=>i<z.cps.size,λi H x H'=>H'=H/\∃c,z.cps[i]? = some c/\x = .str ⟨#[c]⟩,λi _=>z.cps.size<=i⟩
theorem Wv{P:Program}{w:World}{K:PySem.W.Frag}{tg:Expr}(it:Addr)(z:Str)(t:Tok):Turn P w K tg (Its z) [it] it (λi h=>h.IsStrIter it "str_ascii_iterator" z t i/\i<=z.cps.size) where
 mem:=by simp
 obj:=λi h st b hb=>by
  have e:b=it:=by simp_all
  subst e;obtain⟨⟨o,ho,hc,hd⟩,_⟩:=st
  simp_all
 keep:=λi h h' st k=>let ⟨⟨o,ho,r⟩,l⟩:=st;⟨⟨o,k it (by simp) o ho,r⟩,l⟩
 item:=by intro X hP hw hK hc i pins s σ H E I hf st hg;subst hP hw hK;obtain⟨f0,f1,f2,f3,f4,f5⟩:=hf it (by simp);have hg':i<z.cps.size:=hg;refine wpAny_pyNext_ascii_item st.1 (c:=z.cps[i]) (by simp[hg']) λh' hit' hs'=>?_;have I1:Inv X pins σ H { s with heap:=h',toks:=s.toks+1 }:=I.turned (λb o hb e=>hs'.extBut b o hb e) f0 f1 f3 f4 f5;obtain⟨o,ho,hcl,hda⟩:=hit';refine⟨_,rfl,JD ho hcl hda (by decide) ⟨.str ⟨#[z.cps[i]]⟩,H,I1,⟨_,rfl⟩,⟨rfl,_,by simp[hg'],rfl⟩,⟨⟨o,ho,hcl,hda⟩,hg'⟩,λb hb=>(hf b hb).1⟩⟩
 done:=by intro X hP hw hK hc i pins s σ H E I hf st hg;subst hP hw hK;obtain⟨f0,f1,f2,f3,f4,f5⟩:=hf it (by simp);have hg':z.cps.size<=i:=hg;exact wpAny_pyNext_ascii_end (I.ok.hd hc) st.1 (by simp;omega) λh' eb=>⟨rfl,I.turned (λb o hb e=>eb b o hb e) f0 f1 f3 f4 f5⟩
 self:=λ_ _ _ _ _ st h=>wpAny_pyIter_striter_ascii st.1 h
theorem Wu{P:Program}{w:World}{K:PySem.W.Frag}{tg:Expr}(it:Addr)(z:Str)(t:Tok):Turn P w K tg (Its z) [it] it (λi h=>h.IsStrIter it "str_iterator" z t i/\i<=z.cps.size) where
 mem:=by simp
 obj:=λi h st b hb=>by
  have e:b=it:=by simp_all
  subst e;obtain⟨⟨o,ho,hc,hd⟩,_⟩:=st
  simp_all
 keep:=λi h h' st k=>let ⟨⟨o,ho,r⟩,l⟩:=st;⟨⟨o,k it (by simp) o ho,r⟩,l⟩
 item:=by intro X hP hw hK hc i pins s σ H E I hf st hg;subst hP hw hK;obtain⟨f0,f1,f2,f3,f4,f5⟩:=hf it (by simp);have hg':i<z.cps.size:=hg;refine wpAny_pyNext_wide_item st.1 (c:=z.cps[i]) (by simp[hg']) λh' hit' hs'=>?_;have I1:Inv X pins σ H { s with heap:=h',toks:=s.toks+1 }:=I.turned (λb o hb e=>hs'.extBut b o hb e) f0 f1 f3 f4 f5;obtain⟨o,ho,hcl,hda⟩:=hit';refine⟨_,rfl,JD ho hcl hda (by decide) ⟨.str ⟨#[z.cps[i]]⟩,H,I1,⟨_,rfl⟩,⟨rfl,_,by simp[hg'],rfl⟩,⟨⟨o,ho,hcl,hda⟩,hg'⟩,λb hb=>(hf b hb).1⟩⟩
 done:=by intro X hP hw hK hc i pins s σ H E I hf st hg;subst hP hw hK;obtain⟨f0,f1,f2,f3,f4,f5⟩:=hf it (by simp);have hg':z.cps.size<=i:=hg;exact wpAny_pyNext_wide_end (I.ok.hd hc) st.1 (by simp;omega) λh' eb=>⟨rfl,I.turned (λb o hb e=>eb b o hb e) f0 f1 f3 f4 f5⟩
 self:=λ_ _ _ _ _ st h=>wpAny_pyIter_striter_wide st.1 h
section
variable{X:Cx}{tg:Expr}
def aoI(K:PySem.W.Frag)(tl:TE):TI:=λσ H R=>tl σ H λx H1=>(∃a,x = .ref a/\(∃xs,nq K H1 a xs)/\R (Itl K a) H1)\/(∃a,x = .ref a/\(∃xs,mQ K H1 a xs)/\R (Itt K a) H1)\/∃z,x = .str z/\R (Its z) H1
theorem ahe(hl:PE X l tl):PI X tg l (aoI X.K tl):=by
 intro pins s σ H R I h;refine fC (hl pins s σ H _ I h) λv s1 ⟨x,H1,I1,r1,q1⟩=>?_;have own:∀b ∈ [s1.heap.objs.size],o8 X pins H1 b:=λb hb=>by
  have e:b=s1.heap.objs.size:=by simp_all
  subst e;exact I1.Ue (Qqv _)<|I1.hok.fresh<|Qqv _
 rcases q1 with ⟨a,e,⟨xs,hq⟩,q⟩|⟨a,e,⟨xs,hq⟩,q⟩|⟨z,e,q⟩
 ·subst e;cases r1;obtain⟨its,rv,p,hz⟩:=I1.list hq;refine wpAny_pyIter_list p.isList ?_;exact⟨s1.heap.objs.size,[s1.heap.objs.size],_,_,H1,rfl,I1.kept λb o e=>Qqx _ e,Ww a _,⟨_,Qq4 _ rfl,rfl,rfl⟩,own,q⟩
 ·subst e;cases r1;obtain⟨its,rv,p,hz⟩:=I1.tuple hq;refine wpAny_pyIter_tuple p ?_;exact⟨s1.heap.objs.size,[s1.heap.objs.size],_,_,H1,rfl,I1.kept λb o e=>Qqx _ e,Rw a _,⟨_,Qq4 _ rfl,rfl,rfl⟩,own,q⟩
 ·subst e;obtain⟨t,rfl⟩:=r1;cases ha:z.cps.all (·< 128)
  ·exact wpAny_pyIter_wide ha ⟨s1.heap.objs.size,[s1.heap.objs.size],_,_,H1,rfl,I1.kept λb o e=>Qqx _ e,Wu _ z t,⟨⟨_,Qq4 _ rfl,rfl,rfl⟩,Qxx _⟩,own,q⟩
  ·exact wpAny_pyIter_ascii ha ⟨s1.heap.objs.size,[s1.heap.objs.size],_,_,H1,rfl,I1.kept λb o e=>Qqx _ e,Wv _ z t,⟨⟨_,Qq4 _ rfl,rfl,rfl⟩,Qxx _⟩,own,q⟩
noncomputable def akf(lo c:Int)(n:Nat):It:=⟨λi _=>i<n,λi H x H'=>H'=H/\x = .int (lo+i*c),λi _=>n<=i⟩
theorem Nv{P:Program}{w:World}{K:PySem.W.Frag}{tg:Expr}(it:Addr)(lo c:Int)(n:Nat):Turn P w K tg (akf lo c n) [it] it (λi h=>IsRangeIter h it (lo+(i:Nat)*c) ((n:Int) - (i:Nat)) c) where
 mem:=by simp
 obj:=λi h st b hb=>by
  simp_all
 keep:=λi h h' st k=>k it (by simp) _ st
 item:=by intro X hP hw hK hc i pins s σ H E I hf st hg;subst hP hw hK;obtain⟨f0,f1,f2,f3,f4,f5⟩:=hf it (by simp);have W:=Walks.range (prog:=X.prog) (w:=X.w) (I.ok.hd hc) it lo c n;refine W.item i s _ _ hg st λv h' tk hv st' kk=>?_;obtain⟨t,rfl⟩:=hv;have I1:Inv X pins σ H { s with heap:=h',toks:=tk }:=I.turned (λb o hb e=>kk b o (by simp_all) e) f0 f1 f3 f4 f5;exact⟨_,rfl,JD st' rfl rfl (by decide) ⟨.int<|lo+i*c,H,I1,⟨t,rfl⟩,⟨rfl,rfl⟩,st',λb hb=>(hf b hb).1⟩⟩
 done:=by intro X hP hw hK hc i pins s σ H E I hf st hg;subst hP hw hK;obtain⟨f0,f1,f2,f3,f4,f5⟩:=hf it (by simp);exact wpAny_pyNext_range_end (I.ok.hd hc) st (by have:n<=i:=hg;omega) λh' eb=>⟨rfl,I.turned (λb o hb e=>eb b o hb e) f0 f1 f3 f4 f5⟩
 self:=λ_ _ _ _ _ st h=>wpAny_pyIter_rangeiter st h
def amr(ta:TA):TI:=λσ H R=>ta σ H λvs H1=>∃i j c:Int,vs=[.int i,.int j,.int c]/\c≠0/\c.natAbs<1073741824/\Builtin.Range.small i j c=true/\R (akf i c (Builtin.Range.rangeSize i j c).toNat) H1
theorem Xg{p pos:Pos}(hg:Gl X "range")(hm:X.mg "range" = none)(ha:PA X [a,b,c] ta)(hs:starEach [a,b,c] X.env=[(false,eval a X.env),(false,eval b X.env),(false,eval c X.env)]:=by rfl)(hs2:starEach [b,c] X.env=[(false,eval b X.env),(false,eval c X.env)]:=by rfl) :
  PI X tg (.Call (.Name "range" p) [a,b,c] [] pos) (amr ta):=by
 intro pins s σ H R I h;refine Call_<|qT I hg hm boot_range<|Qxz (fC (ha pos pins s σ H _ I h) λus s1 ⟨vs,H1,I1,r1,q1⟩=>?_) (by rw[hs,hs2]) (by rw[hs2];rfl);obtain⟨i,j,c,e,hc,hcs,hsm,q⟩:=q1;subst e;cases r1 with
 | cons r rr=>
  cases rr with
  | cons r' rr=>
   cases rr with
   | cons r'' rr=>
    cases rr;obtain⟨t,rfl⟩:=r;obtain⟨t',rfl⟩:=r';obtain⟨t'',rfl⟩:=r'';refine call_range_3 hc ?_<|.inl<|PyProof.noPylong_small hcs;refine wpAny_pyIter_range (IsRange.new ..) hsm ?_;generalize ho:({ cls:=.type "range",data:=.fields #[.int i t,.int j t',.int c t''] }:Obj)=o;have I2:Inv X pins σ H1 { s1 with heap:=s1.heap.push o,toks:=s1.toks }:=I1.kept λb o e=>Qqx _ e;refine⟨(s1.heap.push o).objs.size,[(s1.heap.push o).objs.size],_,_,H1,rfl,I2.kept λb o e=>Qqx _ e,Nv _ i c (Builtin.Range.rangeSize i j c).toNat,?_,λb hb=>?_,q⟩
    ·have e1:i+(0:Nat)*c=i:=by simp
     have e2:((Builtin.Range.rangeSize i j c).toNat) - (0:Nat)=Builtin.Range.rangeSize i j c:=by have:=PyProof.Rows.rangeSize_toNat i j c;omega
     show IsRangeIter _ _ (i+(0:Nat)*c) (((Builtin.Range.rangeSize i j c).toNat) - (0:Nat)) c;rw[e1,e2];exact Qq4 _ rfl
    ·have e:b=(s1.heap.push o).objs.size:=by simp_all
     subst e;exact I2.Ue (Qqv _)<|I2.hok.fresh<|Qqv _
end
end L2
namespace Ev
open PySem PySem.Spec PyProof.Rows L2
section
variable{X:Cx}{C:Cfg}{pos:Pos}{tg:Expr}
noncomputable def gW(x:List Nat):List D:=x.map λc=>.str [c]
theorem Rr(h:mQ C.K F a vs)(p:bT C.K F ds vs):nW C.K F ds (Itt C.K a):=λi H s=>by
 refine⟨λ_ e=>⟨vs,aV.tupK s h,by rw[p.length,e];exact Qqv _⟩,λd hd=>?_⟩;obtain⟨v,h1,h2⟩:=p.get hd;refine⟨⟨vs,v,aV.tupK s h,h1⟩,λx H' hy=>.inl ⟨hy.1,?_⟩⟩;have:=hy.2 vs<|aV.tupK s h
 simp_all
theorem Rt:nW C.K F (gW x) (Its (strOf x)):=λi H s=>by
 refine⟨λ_ e=>?_,λd hd=>?_⟩
 ·show x.toArray.size<=i;rw[e];simp[gW]
 ·unfold gW at hd;rw[Qw6] at hd;obtain⟨c,hc,rfl⟩:=Qww.mp hd;refine⟨?_,λv H' hy=>.inl ⟨hy.1,?_⟩⟩
  ·show i<x.toArray.size;have:=(Qwz.mp hc).1
   simpa using this
  ·obtain⟨c',h1,rfl⟩:=hy.2;have h2:x[i]? = some c':=by simpa[strOf] using h1
   rw[hc] at h2;cases h2;exact⟨rfl,by show 1<=sizeLine;decide⟩
def itD:D->Option (List D)
 | .lst xs=>some xs
 | .arr xs=>some xs
 | .tup xs=>some xs
 | .str x=>some (gW x)
 | _=>none
def iD(a:Ev):dq:=λenv=>bindR (a env) λd aG=>fG (itD d) aG
theorem adE(hK:X.K=C.K)(h:PX X C l a):YW X C tg l (iD a):=(ahe h).imp λσ H R hq=>by
 obtain⟨Pr,F,env,env',ds,r,e,q⟩:=hq;obtain⟨d,aG,e1,e2⟩:=aO e;obtain⟨e3,rfl⟩:=du e2;refine⟨Pr,F,env,env',d,r,e1,λv H1 F1 r1 s1 p1=>?_⟩;rw[hK];cases d with
 | lst xs=>
  cases e3;obtain⟨z,a,vs,rfl,g1,g2⟩:=p1;refine .inl ⟨a,rfl,⟨vs,nq.of<|r1.fr _ _ g1⟩,q _ H1 F1 r1 s1 λi H s=>?_⟩;refine⟨λ_ e=>⟨vs,nq.of<|s _ _ g1,by rw[g2.length,e];exact Qqv _⟩,λd hd=>?_⟩;obtain⟨v,h1,h2⟩:=g2.get hd;refine⟨⟨vs,v,nq.of<|s _ _ g1,h1⟩,λx H' hy=>.inl ⟨hy.1,?_⟩⟩;have:=hy.2 vs<|nq.of<|s _ _ g1;rw[h1] at this;cases this;exact h2
 | arr xs=>
  cases e3;obtain⟨z,a,vs,rfl,g1,g2⟩:=p1;refine .inl ⟨a,rfl,⟨vs,r1.fr.seq g1⟩,q _ H1 F1 r1 s1 λi H s=>?_⟩;refine⟨λ_ e=>⟨vs,s.seq g1,by rw[g2.length,e];exact Qqv _⟩,λd hd=>?_⟩;obtain⟨v,h1,h2⟩:=g2.get hd;refine⟨⟨vs,v,s.seq g1,h1⟩,λx H' hy=>.inl ⟨hy.1,?_⟩⟩;have:=hy.2 vs<|s.seq g1;rw[h1] at this;cases this;exact h2
 | tup xs=>
  cases e3;obtain⟨z,a,vs,rfl,g1,g2⟩:=p1;exact .inr<|.inl ⟨a,rfl,⟨vs,aV.tupK r1.fr g1⟩,q _ H1 F1 r1 s1<|Rr g1 g2⟩
 | str x=>
  cases e3;obtain⟨rfl,z⟩:=p1;exact .inr<|.inr ⟨_,rfl,q _ H1 F1 r1 s1 Rt⟩
 | _=>cases e3
noncomputable def fJ(lo c:Int)(n:Nat):List D:=(List.range n).map λ(i:Nat)=>.int (lo+i*c)
theorem iu(lo c)(n):(fJ lo c n).length=n:=by simp[fJ]
theorem u0{lo c:Int}(h:(fJ lo c n)[i]? = some d):i<n/\d = .int (lo+i*c):=by
 have hi:i<n:=by
  have:=(Qwz.mp h).1
  rwa [iu] at this
 refine⟨hi,?_⟩;unfold fJ at h
 simp_all
theorem Bu{lo:Int}:nW C.K F (fJ lo 1 n) (Itr lo n):=λi H s=>by
 refine⟨λ_ e=>by rw[e,iu];exact Qqv _,λd hd=>?_⟩;obtain⟨hi,rfl⟩:=u0 hd;refine⟨hi,λx H' hy=>.inl ⟨hy.1,?_⟩⟩;rw[Int.mul_one];exact hy.2
theorem Nm{lo c:Int}:nW C.K F (fJ lo c n) (akf lo c n):=λi H s=>by
 refine⟨λ_ e=>by rw[e,iu];exact Qqv _,λd hd=>?_⟩;obtain⟨hi,rfl⟩:=u0 hd;exact⟨hi,λx H' hy=>.inl ⟨hy.1,hy.2⟩⟩
noncomputable def j6(j:Int):Bool:=decide (-(2^62)<=j)&&decide (j<2^62)
theorem vN(h:j6 j=true) : -(2^62)<=j/\j<2^62:=by
 unfold j6 at h
 simp_all
def qO:List D->Option (List D)
 | [.int j]=>if j6 j=true then some (fJ 0 1 j.toNat) else none
 | [.int i,.int j]=>if j6 i=true/\j6 j=true then some (fJ i 1 (j - i).toNat) else none
 | [.int i,.int j,.int c]=>if c≠0/\c.natAbs<1073741824/\Builtin.Range.small i j c=true then some (fJ i c (Builtin.Range.rangeSize i j c).toNat) else none
 | _=>none
def fc(a:dq):dq:=λenv=>bindR (a env) λds aG=>fG (qO ds) aG
theorem bT.aoG(h:bT C.K F [.int i] vs):vs=[.int i]:=by obtain⟨v,r,rfl,h1,h2⟩:=h;cases h1;cases h2;rfl
theorem bT.aoF(h:bT C.K F [.int i,.int j] vs):vs=[.int i,.int j]:=by obtain⟨v,r,rfl,h1,v',r',rfl,h2,h3⟩:=h;cases h1;cases h2;cases h3;rfl
theorem bT.aoE(h:bT C.K F [.int i,.int j,.int k] vs):vs=[.int i,.int j,.int k]:=by obtain⟨v,r,rfl,h1,v',r',rfl,h2,v'',r'',rfl,h3,h4⟩:=h;cases h1;cases h2;cases h3;cases h4;rfl
theorem Tc(hg:Gl X "range")(hm:X.mg "range" = none)(ha:Y8 X C [a] ea)(hl:∀env ds env',ea env = .ok ds env'->ds.length=1)(hs:starEach [a] X.env=[(false,eval a X.env)]:=by rfl):YW X C tg (.Call (.Name "range" p) [a] [] pos) (fc ea):=
 (Xi hg hm ha hs).imp λσ H R hq=>by
  obtain⟨Pr,F,env,env',ds,r,e,q⟩:=hq;obtain⟨as,aG,e1,e2⟩:=aO e;obtain⟨e3,rfl⟩:=du e2;refine⟨Pr,F,env,env',as,r,e1,λvs H1 F1 r1 s1 p1=>?_⟩;have:=hl _ _ _ e1;unfold qO at e3;split at e3
  ·split at e3
   ·rename_i hf;cases e3;have hb:=vN hf;exact⟨_,p1.aoG,hb.1,hb.2,q _ H1 F1 r1 s1 Bu⟩
   ·cases e3
  all_goals simp_all
theorem S9{p pos:Pos}(hg:Gl X "range")(hm:X.mg "range" = none)(ha:Y8 X C [a,b] ea)(hl:∀env ds env',ea env = .ok ds env'->ds.length=2)(hs:starEach [a,b] X.env=[(false,eval a X.env),(false,eval b X.env)]:=by rfl)(hs2:starEach [b] X.env=[(false,eval b X.env)]:=by rfl):YW X C tg (.Call (.Name "range" p) [a,b] [] pos) (fc ea):=
 (Xh hg hm ha hs hs2).imp λσ H R hq=>by
  obtain⟨Pr,F,env,env',ds,r,e,q⟩:=hq;obtain⟨as,aG,e1,e2⟩:=aO e;obtain⟨e3,rfl⟩:=du e2;refine⟨Pr,F,env,env',as,r,e1,λvs H1 F1 r1 s1 p1=>?_⟩;have:=hl _ _ _ e1;unfold qO at e3;split at e3
  ·simp at this
  ·split at e3
   ·rename_i hf;cases e3;have hb:=vN hf.1;have hb2:=vN hf.2;exact⟨_,_,p1.aoF,⟨hb.1,hb.2,hb2.1,hb2.2⟩,q _ H1 F1 r1 s1 Bu⟩
   ·cases e3
  all_goals simp_all
theorem S8{p pos:Pos}(hg:Gl X "range")(hm:X.mg "range" = none)(ha:Y8 X C [a,b,c] ea)(hl:∀env ds env',ea env = .ok ds env'->ds.length=3)(hs:starEach [a,b,c] X.env=[(false,eval a X.env),(false,eval b X.env),(false,eval c X.env)]:=by rfl)(hs2:starEach [b,c] X.env=[(false,eval b X.env),(false,eval c X.env)]:=by rfl):YW X C tg (.Call (.Name "range" p) [a,b,c] [] pos) (fc ea):=
 (Xg hg hm ha hs hs2).imp λσ H R hq=>by
  obtain⟨Pr,F,env,env',ds,r,e,q⟩:=hq;obtain⟨as,aG,e1,e2⟩:=aO e;obtain⟨e3,rfl⟩:=du e2;refine⟨Pr,F,env,env',as,r,e1,λvs H1 F1 r1 s1 p1=>?_⟩;have:=hl _ _ _ e1;unfold qO at e3;split at e3
  ·simp at this
  ·simp at this
  ·split at e3
   ·rename_i hf;cases e3;exact⟨_,_,_,p1.aoE,hf.1,hf.2.1,hf.2.2,q _ H1 F1 r1 s1 Nm⟩
   ·cases e3
  ·cases e3
theorem Ym(env)(ds)(env')(h:aj env = .ok ds env'):ds.length=0:=by cases h;rfl
theorem Ui(hr:∀env ds env',r env = .ok ds env'->ds.length=n)(env)(ds)(env')(h:aa a r env = .ok ds env'):ds.length=n+1:=by
 obtain⟨d,aG,e1,e2⟩:=aO h;obtain⟨Fi,dD,e3,e4⟩:=aO e2
 grind
theorem bT.qF{K:Fg}(h:bT K F ds vs)(e:L2.qF ds k=some d):∃v,L2.qF vs k=some v/\Rep K F d v:=by
 unfold L2.qF at e ⊢;rw[h.length];obtain⟨j,h1,h2⟩:=Qx1.mp e;obtain⟨v,h3,h4⟩:=h.get h2
 simp_all
def bZ:D->D->Option D
 | .lst xs,.int k=>qF xs k
 | .arr xs,.int k=>qF xs k
 | .tup xs,.int k=>qF xs k
 | .str x,.int k=>(qF x k).map λc=>.str [c]
 | _,_=>none
theorem af0:qg C (rIx C.K) bZ:=by
 intro Pr F env σ H x y d vx vy Q r px py e q;unfold bZ at e;split at e
 ·obtain⟨z,a,vs,rfl,h1,h2⟩:=px.lst r.fr;cases py.int;obtain⟨v,e1,p1⟩:=h2.qF e;exact .inl ⟨a,vs,_,v,rfl,rfl,nq.of h1,e1,q _ _ F r (aV.refl F) p1⟩
 ·obtain⟨z,a,vs,rfl,h1,h2⟩:=px.arr r.fr;cases py.int;obtain⟨v,e1,p1⟩:=h2.qF e;exact .inl ⟨a,vs,_,v,rfl,rfl,h1,e1,q _ _ F r (aV.refl F) p1⟩
 ·obtain⟨z,a,vs,rfl,h1,_,h2⟩:=px.tup r.fr;cases py.int;obtain⟨v,e1,p1⟩:=h2.qF e;exact .inr<|.inl ⟨a,vs,_,v,rfl,rfl,h1,e1,q _ _ F r (aV.refl F) p1⟩
 ·obtain⟨rfl,z⟩:=px.str;cases py.int;obtain⟨c,e1,rfl⟩:=Qww.mp e;exact .inr<|.inr ⟨_,_,c,rfl,rfl,by assumption,by assumption,q _ _ F r (aV.refl F) ⟨rfl,by show 1<=sizeLine;decide⟩⟩
 ·cases e
theorem alf(hK:X.K=C.K)(ha:PX X C x a)(hb:PXB X C y b)(hs:xY y:=by intro _ _;rfl):PX X C (.Subscript x y pos) (aN bZ a b):=by have h:=(afY (pos:=pos) abJ ha hb hs);rw[hK] at h;exact h.imp<|M4 af0
theorem ag5{px:Pos}(i)(hK:X.K=C.K)(hN:X.N[i]? = some x)(hv:yd X.env.scope x)(hb:PXB X C y b)(hs:xY y:=by intro _ _;rfl)
  (hd:oW x:=by decide) (hcd:yP x:=by decide):PX X C (.Subscript (.Name x px) y pos) (ao bZ i b):=by
 have h:=(afY (pos:=pos) abJ (kj (pos:=px) hN hv hd hcd) hb hs);rw[hK] at h;exact h.imp<|xQ af0
def cutD{α:Type}(xs:List α)(lo hi:Option Int):List α:=(xs.drop (HT.gP xs.length 0 lo)).take (HT.gP xs.length xs.length hi - HT.gP xs.length 0 lo)
theorem t6{α:Type}(xs:List α)(lo hi):(cutD xs lo hi).length<=xs.length:=by unfold cutD;rw[Qx5,Qjz];omega
theorem bT.cut{K:Fg}(h:bT K F ds vs)(lo hi):bT K F (cutD ds lo hi) (Bf vs lo hi):=by unfold cutD Bf;rw[h.length];exact bT.take _<|bT.drop _ h
abbrev Gq:=Env->R (Option Int)
inductive tP (C:Cfg) (ev:Gq) (σ:L2.St) (H:Hp) (Q:Option Int->Hp->Prop):Prop
 | mk (Pr F:Hp) (env env':Env) (o:Option Int) (_:Rel C Pr F env σ H) (_:ev env = .ok o env') (_:∀H' F',Rel C Pr F' env' σ H'->aV F F'->Q o H'):tP C ev σ H Q
def PXP(X:Cx)(C:Cfg)(e:Option Expr)(ev:Gq):Prop:=PO X e (tP C ev)
theorem _root_.L2.PO.imp{X:Cx}{e:Option Expr}{t t':TO}(h:PO X e t)(i:∀σ H Q,t' σ H Q->t σ H Q):PO X e t':=λpins s σ H Q I q=>h pins s σ H Q I<|i σ H Q q
noncomputable def mq:Gq:=λenv=>.ok none env
def xG(a:Ev):Gq:=λenv=>bindR (a env) λd aG=>match d with
 | .int i=>.ok (some i) aG
 | _=>.stuck
theorem aat:PXP X C none mq:=adN.imp λσ H Q h=>by
 obtain⟨Pr,F,env,env',d,r,e,q⟩:=h;cases e;exact q H F r<|aV.refl F
def gSl:D->Option Int->Option Int->Option D
 | .lst xs,lo,hi=>some (.lst (cutD xs lo hi))
 | .arr xs,lo,hi=>some (.lst (cutD xs lo hi))
 | .tup xs,lo,hi=>if HT.gP xs.length 0 lo=0/\HT.gP xs.length xs.length hi=xs.length then none else some (.tup (cutD xs lo hi))
 | _,_,_=>none
def zm(a:Ev)(lo hi:Gq):Ev:=λenv=>bindR (a env) λd aG=>bindR (lo aG) λl dD=>bindR (hi dD) λu zq=>fG (gSl d l u) zq
theorem Z3{lo hi:Option Int}(r:Rel C Pr F env σ H)(p:j5 C.K F H x v)(e:gSl x lo hi=some d)(q:∀v H' F',Rel C Pr F' env σ H'->aV F F'->Rep C.K F' d v->Q v H') :
  akY C.K v lo hi H Q\/agX C.K v lo hi H Q:=by
 unfold gSl at e;split at e
 ·cases e;obtain⟨z,a,vs,rfl,h1,h2⟩:=p.lst r.fr;refine .inl ⟨a,vs,rfl,nq.of h1,λb hb=>?_⟩;obtain⟨r2,s2⟩:=r.new hb;exact q _ _ _ r2 s2 ⟨Qqj (t6 _ _ _) z,b,_,rfl,bC,bT.mono s2 _ _<|h2.cut lo hi⟩
 ·cases e;obtain⟨z,a,vs,rfl,h1,h2⟩:=p.arr r.fr;refine .inl ⟨a,vs,rfl,h1,λb hb=>?_⟩;obtain⟨r2,s2⟩:=r.new hb;exact q _ _ _ r2 s2 ⟨Qqj (t6 _ _ _) z,b,_,rfl,bC,bT.mono s2 _ _<|h2.cut lo hi⟩
 ·obtain⟨z,a,vs,rfl,h1,_,h2⟩:=p.tup r.fr;split at e
  ·cases e
  ·rename_i hn;cases e;refine .inr ⟨a,vs,rfl,h1,by rw[h2.length];exact hn,λb hb=>?_⟩;obtain⟨r2,s2⟩:=r.new hb;exact q _ _ _ r2 s2 ⟨Qqj (t6 _ _ _) z,b,_,rfl,mQ.of bC,bT.mono s2 _ _<|h2.cut lo hi⟩
 ·cases e
theorem ald{lo hi:Option Expr}(hK:X.K=C.K)(ha:PX X C x a)(hl:PXP X C lo el)(hh:PXP X C hi eh):PX X C (.Subscript x (.Slice lo hi none p2) pos) (zm a el eh):=by have h:=wW (pos:=pos) (p2:=p2) (UL.or Vc KQ) ha hl hh;rw[hK] at h;refine h.imp λσ H Q hq=>?_;obtain⟨Pr,F,env,env',d,r,e,q⟩:=hq;obtain⟨x,aG,e1,e2⟩:=aO e;obtain⟨l,dD,e3,e4⟩:=aO e2;obtain⟨u,zq,e5,e6⟩:=aO e4;obtain⟨e7,rfl⟩:=du e6;refine⟨Pr,F,env,aG,x,r,e1,λv H1 F1 r1 s1 p1=>⟨Pr,F1,aG,dD,l,r1,e3,λH2 F2 r2 s2=>⟨Pr,F2,dD,env',u,r2,e5,λH3 F3 r3 s3=>?_⟩⟩⟩;exact Z3 r3 (.inl<|Rep.mono (s2.trans s3) _ _ p1) e7 λv H' F' r' s' p'=>q v H' F' r' (((s1.trans s2).trans s3).trans s') p'
noncomputable def qI(kvs:List (D×D))(q:Key):Option D:=match kvs with
 | []=>none
 | (k,d)::r=>if rQ k=some q then some d else qI r q
noncomputable def Ax(kvs:List (D×D))(q:Key)(d:D):List (D×D):=match kvs with
 | []=>[]
 | (k,e)::r=>(if rQ k=some q then (k,d) else (k,e))::Ax r q d
def putD(kvs:List (D×D))(k:D)(q:Key)(d:D):List (D×D):=if (qI kvs q).isSome then Ax kvs q d else kvs++[(k,d)]
theorem fH.length{K:Fg}:∀{ds} {vs},fH K F ds vs->vs.length=ds.length
 | [],_,h=>by cases h;rfl
 | (k,d)::ds,vs,h=>by
  obtain⟨q,v,r,rfl,_,_,h2⟩:=h;rw[Qqw,Qqw,h2.length]
theorem fH.val{K:Fg}(q):∀{ds} {vs},fH K F ds vs->(qI ds q=none/\wG vs q=none)\/∃d v,qI ds q=some d/\wG vs q=some v/\Rep K F d v
 | [],_,h=>by cases h;exact .inl ⟨rfl,rfl⟩
 | (k,d)::ds,vs,h=>by
  obtain⟨q',v,r,rfl,hk,h1,h2⟩:=h;unfold qI;by_cases e:q'=q
  ·subst e;rw[if_pos hk];exact .inr ⟨d,v,rfl,wD rfl,h1⟩
  ·rw[if_neg (λz=>e<|Qw4<|hk.symm.trans z),wF e];exact fH.val q h2
theorem fH.set{K:Fg}(q)(hd:Rep K F d v):∀{ds} {vs},fH K F ds vs->fH K F (Ax ds q d) (vs.map λkv=>if kv.1=q then (kv.1,v) else kv)
 | [],_,h=>by cases h;exact rfl
 | (k,e)::ds,vs,h=>by
  obtain⟨q',u,r,rfl,hk,h1,h2⟩:=h;unfold Ax;by_cases e':q'=q
  ·subst e';rw[if_pos hk];refine⟨q',v,_,?_,hk,hd,fH.set q' hd h2⟩
   simp_all
  ·rw[if_neg (λz=>e'<|Qw4<|hk.symm.trans z)];refine⟨q',u,_,?_,hk,h1,fH.set q hd h2⟩
   simp_all
theorem fH.append{K:Fg}:∀{ds es} {vs ws},fH K F ds vs->fH K F es ws->fH K F (ds++es) (vs++ws)
 | [],es,vs,ws,h,g=>by cases h;exact g
 | (k,d)::ds,es,vs,ws,h,g=>by
  obtain⟨q,v,r,rfl,h0,h1,h2⟩:=h;exact⟨q,v,r++ws,rfl,h0,h1,fH.append h2 g⟩
theorem Oi(q)(d):∀kvs,(Ax kvs q d).length=kvs.length
 | []=>rfl
 | (k,e)::r=>by unfold Ax;rw[Qqw,Qqw,Oi q d r]
theorem Pg(kvs)(k)(q)(d):(putD kvs k q d).length<=kvs.length+1:=by
 unfold putD;split
 ·rw[Oi];omega
 simp_all
theorem fH.put{K:Fg}(h:fH K F ds vs)(hk:rQ k=some q)(hd:Rep K F d v):fH K F (putD ds k q d) (putK vs q v):=by
 unfold putD putK;rw[BJ];rcases h.val q with ⟨e1,e2⟩|⟨d',v',e1,e2,_⟩
 ·rw[e1,e2];exact h.append ⟨q,v,[],rfl,hk,hd,rfl⟩
 ·rw[e1,e2];exact fH.set q hd h
theorem abo{K:Fg}(h:rQ k=some q)(p:Rep K F k v):v=kV q:=by
 cases k with
 | int i=>cases h;exact p
 | str x=>cases h;exact p.1
 | _=>cases h
theorem abp{K:Fg}(h:rQ k=some q)(p:j5 K F H k v):v=kV q:=by
 cases k with
 | int i=>cases h;exact p.int
 | str x=>cases h;exact p.str.1
 | _=>cases h
theorem j5.dct{K:Fg}(s:aV F H)(h:j5 K F H (.dct kvs) v):kvs.length<=sizeLine/\∃a ks,v = .ref a/\Rd H a (.dK ks)/\fH K F kvs ks:=by
 rcases h with ⟨z,a,vs,rfl,h1,h2⟩|⟨a,rfl,z,vs,h1,h2⟩
 ·exact⟨z,a,vs,rfl,aV.rd s h1,h2⟩
 ·exact⟨z,a,vs,rfl,.inl h1,h2⟩
def afT:R2:=λx y H Q=>∃a v,x = .ref a/\YX H a y (some v)/\Q v H
def kZ:D->D->Option D
 | .dct kvs,k=>(rQ k).bind λq=>qI kvs q
 | _,_=>none
theorem aea:qg C afT kZ:=by
 intro Pr F env σ H x y d vx vy Q r px py e q;unfold kZ at e;split at e
 ·obtain⟨z,a,ks,rfl,h1,h2⟩:=px.dct r.fr;obtain⟨k,hk,hv⟩:=Qx1.mp e;cases abp hk py;rcases h2.val k with ⟨e1,_⟩|⟨d',v',e1,e2,p2⟩
  ·simp_all
  ·rw[e1] at hv;cases hv;exact⟨a,v',rfl,.inl ⟨ks,k,h1,rfl,e2.symm⟩,q _ _ F r (aV.refl F) p2⟩
 ·cases e
theorem aay{px:Pos}(i)(hu:X.A.units+1<cLine)(hN:X.N[i]? = some x)(hv:yd X.env.scope x)(hb:PXB X C y b)(hs:acE y:=by intro _ _;rfl)
  (hd:oW x:=by decide) (hcd:yP x:=by decide):PX X C (.Subscript (.Name x px) y pos) (ao kZ i b):=by
 have h:PE X (.Subscript (.Name x px) y pos) (tOp afT _ _):=adX hu (kj hN hv hd hcd) hb hs;exact h.imp<|xQ aea
noncomputable def Fd:Ev:=λenv=>.ok (.dct []) env
theorem aau:PXN X C (.Dict [] [] pos) Fd:=aaN.imp λσ H Q hq=>by
 obtain⟨Pr,F,env,env',d,r,e,q⟩:=hq;cases e;exact λp hp=>q _ _ F (r.fresh hp) (aV.refl F)<|New.of r hp ⟨Qxx _,[],bC,rfl⟩
def rY(i:Nat)(k a:Ev):bU:=λenv=>eY (a env) λd aG=>match aG[i]? with
 | some (some (_,_))=>eY (k aG) λkd dD=>(match dD[i]?,rQ kd with
  | some (some (true,.dct kvs)),some q=>if kvs.length<sizeLine then .nx (dD.set i (some (true,.dct (putD kvs kd q d)))) else .stuck
  | _,_=>.stuck)
 | _=>.stuck
theorem aas(hu:X.A.units+1<cLine)(hN:X.N[i]? = some x)(hv:yd X.env.scope x)(hk:PX X C k ek)(he:PX X C e a)
  (hs:swapsWith e (some (.Subscript (.Name x px) k pos')) pos.line X.env=pure false:=by rfl)
  (hd:oW x:=by decide) (hcd:yP x:=by decide):PXS X C (.Assign [.Subscript (.Name x px) k pos'] e pos) (rY i ek a):=
 (adL hu (kj hN hv hd hcd) hk he hs).imp λD σ H h=>by
  obtain⟨Pr,F,env,r,f⟩:=h;obtain⟨d,aG,e1,f1⟩:=fO f;refine⟨Pr,F,env,aG,d,r,e1,λv H1 F1 r1 s1 p1=>?_⟩;split at f1
  ·rename_i o0 d0 h0;obtain⟨v0,hv0,_⟩:=r1.rd h0;obtain⟨kd,dD,e2,f2⟩:=fO f1;refine⟨v0,hv0,Pr,F1,aG,dD,kd,r1,e2,λvk H2 F2 r2 s2 p2=>?_⟩;split at f2
   ·rename_i kvs q h2 hq;split at f2
    ·rename_i hz;obtain⟨b,g1,⟨z,ks,g2,g3⟩,g4,g5⟩:=r2.own i _ h2;rw[hv0] at g1;cases g1;have hz':ks.length<sizeLine:=by rw[g3.length];exact hz
     cases abo hq p2;refine⟨b,_,rfl,acG.k g2 hz',?_⟩;refine f2 σ _ F2 (r2.write h2 hv0 ⟨Qqj (Pg _ _ _ _) hz,_,bC,g3.put hq<|Rep.mono s2 _ _ p1⟩)<|s1.trans s2
    ·exact f2.elim
   ·exact f2.elim
  ·exact f1.elim
noncomputable def X6(x:List Nat):List (List Nat)->List (List Nat)
 | []=>[x]
 | y::r=>if y<x then y::X6 x r else x::y::r
noncomputable def jy:List (List Nat)->List (List Nat)
 | []=>[]
 | x::r=>X6 x (jy r)
theorem zb(x):∀l,(X6 x l).Perm (x::l)
 | []=>.refl _
 | y::r=>by
  unfold X6;split
  ·exact((zb x r).cons y).trans<|.swap x y r
  rfl
theorem iY:∀l,(jy l).Perm l
 | []=>.refl _
 | x::r=>(zb x<|jy r).trans<|(iY r).cons x
theorem zT(x):∀l,l.Pairwise (λa b=>a<=b)->(X6 x l).Pairwise (λa b=>a<=b)
 | [],_=>List.pairwise_singleton _ _
 | y::r,h=>by
  unfold X6;have h1:=Qz6.mp h;split
  ·rename_i hyx;refine Qz6.mpr ⟨λz hz=>?_,zT x r h1.2⟩;rcases Qq8.mp ((zb x r).mem_iff.mp hz) with rfl|hz
   all_goals grind
  ·rename_i hyx;have hxy:=List.not_lt.mp hyx;refine Qz6.mpr ⟨λz hz=>?_,h⟩
   grind
theorem qJ:∀l,(jy l).Pairwise (λa b=>a<=b)
 | []=>.nil
 | x::r=>zT x _<|qJ r
theorem Hv:∀p l,risingS p l=true->(p::l).Pairwise (λa b=>a.cps.toList<=b.cps.toList)
 | p,[],_=>List.pairwise_singleton _ _
 | p,x::r,h=>by
  have h':(!Spec.ltCps x.cps.toList p.cps.toList&&risingS x r)=true:=h;rw[Qj3,PyProof.Rows.ltCps_eq] at h';have hxp:¬x.cps.toList<p.cps.toList:=by simp_all
  have ih:=Hv x r h'.2;refine Qz6.mpr ⟨λz hz=>?_,ih⟩;have hpx:=List.not_lt.mp hxp;rcases Qq8.mp hz with rfl|hz
  ·exact hpx
  ·exact List.le_trans hpx<|(Qz6.mp ih).1 z hz
theorem W4:∀l,sortedS l=true->l.Pairwise (λa b=>a.cps.toList<=b.cps.toList)
 | [],_=>.nil
 | x::r,h=>Hv x r h
theorem WX(s):strOf s.cps.toList=s:=by rfl
theorem KJ(e:ss=xs.map strOf)(hp:ss'.Perm ss)(hs:sortedS ss'=true):ss'=(jy xs).map strOf:=by
 subst e;have h1:(ss'.map λs=>s.cps.toList).Perm xs:=by
  have:=hp.map (λs:Str=>s.cps.toList);rw[Qz2] at this;have e2:xs.map ((λs:Str=>s.cps.toList) ∘ strOf)=xs:=by rw[List.map_congr_left (g:=id) (λx _=>by simp[strOf])];simp
  rwa [e2] at this
 have h2:(ss'.map λs=>s.cps.toList)=jy xs:=by refine List.Perm.eq_of_pairwise (λa b _ _=>List.le_antisymm) ?_ (qJ xs)<|h1.trans (iY xs).symm;exact List.pairwise_map.mpr<|W4 ss' hs
 rw[<-h2,Qz2];have e3:∀l:List Str,l.map (strOf ∘ λs=>s.cps.toList)=l:=λl=>by
  induction l with
  | nil=>rfl
  | cons a r ih=>rw[Qq2,ih];show strOf a.cps.toList::r=a::r;rw[WX]
 exact(e3 ss').symm
theorem wC:∀{us} {ss},StrsAre us ss->Vals (ss.map V.str) us
 | _,_,.nil=>.nil
 | _,_,.cons y t h=>.cons ⟨t,rfl⟩<|wC h
theorem wQ{K:Fg}:∀(xs:List (List Nat)),(∀x∈xs,x.length<=sizeLine)->bT K F (xs.map D.str) (xs.map λz=>V.str (strOf z))
 | [],_=>rfl
 | x::xs,h=>⟨_,_,rfl,⟨rfl,h x<|Qq3 ..⟩,wQ xs λy hy=>h y<|Qqy _ hy⟩
def Li(K:Fg):List V->Hp->VK->Prop:=λxs H Q=>∃p zs,xs=[.ref p]/\(nq K H p (zs.map λz=>V.str (strOf z))\/∃ks,Rd H p (.dK ks)/\ks.map (·.1)=zs.map λz=>Sum.inr (strOf z))/\zs.length<64/\∀l,H l=none->Q (.ref l) (upd H l (.lst ((jy zs).map λz=>V.str (strOf z))))
theorem Og{σ:L2.St}{a:Addr}(I:Inv X pins σ H s)(hz:zs.length<64)(q:∀l,H l=none->Q (.ref l) (upd H l (.lst ((jy zs).map λz=>V.str (strOf z)))))
  (a1:StrsAre out.toList ss') (a2:ss'.Perm (zs.map strOf)) (a3:sortedS ss'=true) (hk:∀b o,s.heap.get? b=some o->h'.get? b=some o) (ha:s.heap.objs.size<=a) (ho:h'.get? a=some (seqObj "list" out e)):EP X pins σ Q (.ref a) { s with heap:=h',toks:=tk }:=by
 have e1:=KJ rfl a2 a3;subst e1;have rv:=wC a1;rw[Qz2] at rv;have hl:((jy zs).map λz=>V.str<|strOf z).length<=sizeLine:=by rw[Qqz,(iY zs).length_eq];exact Qqj (Qkq hz) (by decide)
 exact⟨.ref a,_,I.laid hk ha<|show iV X.prog X.w _ h' a (.lst<|(jy zs).map λz=>V.str<|strOf z) from⟨hl,out.toList,e,rv,by assumption⟩,rfl,q a<|I.hok.fresh ha⟩
theorem Q5(hc:X.calm=true):jL X (.builtin "sorted") (Li X.K):=by
 intro pins s σ H xs us Q I r h;obtain⟨p,zs,rfl,hq,hz,q⟩:=h;obtain⟨u,rfl,rx⟩:=vals1 r;cases rx;rcases hq with hq|⟨ks,hq,hks⟩
 ·obtain⟨its,r',pl,hzz⟩:=I.list hq;have hS:StrsAre its (zs.map strOf):=yf r';refine sorted_strs pl.isList hS (by rw[<-r'.length,Qqz];exact hz) λout ss' a1 a2 a3=>?_;obtain⟨e,he⟩:=sortedAll_at s.heap its out;exact Og (tk:=s.toks) I hz q a1 a2 a3 (λb o e=>sortedAll_old e) (Nat.le_succ _) he
 ·obtain⟨hz2,hsys,vs,rkv,hD⟩:=QT I.hok hq;obtain⟨ep,hat⟩:=hD.dictAt;have hlen:vs.length=zs.length:=by
   have e1:=rkv.length;have e2:=Qzx List.length hks;rw[Qqz,Qqz] at e2;omega
  refine Calls.call_function_entry kind_sorted plain_sorted entry_sorted (args_sorted1 _) ?_;unfold Builtin.«sorted»;refine Qqq (m:=checkCount "sorted" 1 1 _)<|Qqk ?_;refine Qqq<|PySem.W.kdu_collect (A:=X.A.in1) (PySem.W.kdl_dict (knd:=cH X.prog X.w) (kvs:=vs) (ep:=ep) hsys) (I.ok.hd hc) hat (by rw[hlen];exact Qqj (Qkq hz) (by decide)) λh' tk acc hk hacc=>?_;have hl:acc.toList.length=vs.length:=by rw[Qx7];exact hacc.1
  have hS:StrsAre acc.toList (zs.map strOf):=by
   have keys:∀j,j<vs.length->∃v t,acc.toList[j]? = some v/\v=Value.str (strOf<|zs.getD j []) t:=λj hj=>by
    have hja:j<acc.size:=by rw[hacc.1];exact hj
    have e1:acc[j]? = some acc[j]:=by simp[hja]
    obtain⟨k,x,hx,hkx⟩:=hacc.2 j _ e1;have e2:(vs.map (·.1))[j]? = some k:=by rw[Qw6,hx];rfl
    rw[<-rkv.keys,hks,Qw6] at e2;obtain⟨z,hzj,rfl⟩:=Qww.mp e2;rcases gA (k:=Sum.inr<|strOf z) (v:=acc[j]) hkx with ⟨i,t,z1,_⟩|⟨y,t,z1,z2⟩
    ·cases z1
    ·cases z1;exact⟨_,t,by rw[Array.getElem?_toList];exact e1,by rw[z2,Qw9,hzj];rfl⟩
   have build:∀us (ys:List (List Nat)),us.length=ys.length->(∀j,j<us.length->∃v t,us[j]? = some v/\v=Value.str (strOf<|ys.getD j []) t)->StrsAre us (ys.map strOf):=λus=>by
    induction us with
    | nil=>intro ys hl _;cases ys with
     | nil=>exact .nil
     | cons _ _=>cases hl
    | cons u us ih=>intro ys hl hk;cases ys with
     | nil=>cases hl
     | cons y ys=>
      obtain⟨v,t,e1,e2⟩:=hk 0<|Nat.succ_pos _;cases e1;rw[e2];exact .cons _ t (ih ys (by simpa using hl) λj hj=>by
       obtain⟨v,t,e1,e2⟩:=hk (j+1) (by simpa using hj);exact⟨v,t,by simpa using e1,by simpa using e2⟩)
   exact build _ _ (by rw[hl,hlen]) λj hj=>keys j (by rw[<-hl];exact hj)
  refine Qqq<|wpAny_newList ?_ (by rw[hl,hlen];exact Qqj (Qkq hz) (by decide));have hoL:(h'.push<|seqObj "list" acc.toList.toArray 0).get? h'.objs.size=some (seqObj "list" acc.toList.toArray 0):=Qq4 _ rfl;show wpAny _ _ _ _ _ { s with heap:=h'.push<|seqObj "list" acc.toList.toArray 0,toks:=tk };refine Qqq<|Qjj (Qzv slot_list_sort ⟨_,hoL,rfl⟩ entry_list_sort (list_sort_treeK strKind_oneLt hoL hS.keysOf (λv₁ v₂ rest e=>keyKind_strs (by rw[<-e];exact hS)) (by rw[hl,hlen];exact hz) λst' b1 b2=>⟨_,rfl,?_⟩) (args_list_sort _));obtain⟨ss',a1,a2,a3⟩:=sorted_out_str hS b1 b2;obtain⟨e,he⟩:=sortedHeap_at (out:=(arrOf st').map (·.2)) hoL;refine Qqk ⟨_,rfl,?_⟩;have I1:L2.Inv X pins σ H { s with heap:=h',toks:=tk }:=I.kept hk;refine Og (s:={ s with heap:=h',toks:=tk }) (tk:=tk) I1 hz q a1 a2 a3 (λb o e=>?_) (Qqv _) he;have lt':=Qq0 e;rw[sortedHeap_old (Qwv lt') (by rw[size_push'];exact Nat.lt_succ_of_lt lt')];exact Qqx _ e
def lU:List D->Option D
 | [.lst ds]=>(jx ds).bind λzs=>if zs.length<64/\(∀z∈zs,z.length<=sizeLine) then some (.lst ((jy zs).map .str)) else none
 | [.dct kvs]=>(jx (kvs.map (·.1))).bind λzs=>if zs.length<64/\(∀z∈zs,z.length<=sizeLine) then some (.lst ((jy zs).map .str)) else none
 | _=>none
theorem fH.keys{K:Fg}:∀{kvs} {ks} {zs},fH K F kvs ks->jx (kvs.map (·.1))=some zs->ks.map (·.1)=zs.map λz=>Sum.inr (strOf z)
 | [],ks,zs,h,e=>by cases h;simp[jx] at e;subst e;rfl
 | (k,d)::kvs,ks,zs,h,e=>by
  obtain⟨q,v,r,rfl,h0,h1,h2⟩:=h;cases k with
  | str x=>
   cases h0;have e':(jx<|kvs.map (·.1)).map (x :: ·)=some zs:=by assumption
   obtain⟨zs',e1,rfl⟩:=Qww.mp e';rw[Qq2,Qq2,fH.keys h2 e1]
  | _=>simp[jx] at e
theorem R8(r:Rel C Pr F env σ H)(hl:H l=none)(hz:zs.length<64/\∀z∈zs,z.length<=sizeLine) :
  j4 C.K F (upd H l (.lst ((jy zs).map λz=>V.str (strOf z)))) (.lst ((jy zs).map .str)) l:=by
 refine⟨by rw[Qqz,(iY zs).length_eq];exact Qqj (Qkq hz.1) (by decide),_,bC,wQ _ λz h=>hz.2 z<|(iY zs).mem_iff.mp h⟩
theorem Ys:CallD C (Li C.K) lU:=by
 intro Pr F env σ H ds d vs Q r p e q;have fin:∀zs l,(zs.length<64/\∀z∈zs,z.length<=sizeLine)->d = .lst ((jy zs).map .str)->H l=none->Q (.ref l) (upd H l<|.lst<|(jy zs).map λz=>V.str<|strOf z):=λzs l hz hd hl=>by
  subst hd;obtain⟨F2,r2,s2,p2⟩:=(r.fresh hl).keep<|New.of r hl<|R8 r hl hz;exact q _ _ F2 r2 s2 p2
 unfold lU at e;split at e
 ·obtain⟨v,w,rfl,p1,p2⟩:=p;cases p2;obtain⟨zs,e1,e2⟩:=Qx1.mp e;split at e2
  ·rename_i hz;cases e2;obtain⟨z,a,ws,rfl,h1,h2⟩:=p1.lst r.fr;have e6:=yL e1 h2;subst e6;exact⟨a,zs,rfl,.inl<|nq.of h1,hz.1,λl hl=>fin zs l hz rfl hl⟩
  ·cases e2
 ·obtain⟨v,w,rfl,p1,p2⟩:=p;cases p2;obtain⟨zs,e1,e2⟩:=Qx1.mp e;split at e2
  ·rename_i hz;cases e2;obtain⟨z,a,ks,rfl,h1,h2⟩:=p1.dct r.fr;exact⟨a,zs,rfl,.inr ⟨ks,h1,h2.keys e1⟩,hz.1,λl hl=>fin zs l hz rfl hl⟩
  ·cases e2
 ·cases e
theorem Xd{p:Pos}(hK:X.K=C.K)(hc:X.calm=true)(hg:Gl X "sorted")(hm:X.mg "sorted" = none)(ha:afx X C [e] a)(he:O6 e X.env:=by rfl)(hpl:(backTo pos (starEach [] X.env)).any (·.1)=false:=by rfl) :
  PX X C (.Call (.Name "sorted" p) [e] [] pos) (az lU a):=
 qu (by rw[<-hK];exact Q5 hc) Ys hg hm PyProof.Rows.boot_sorted ha (by decide) (by decide) he hpl
end
theorem Rel.pad(m)(r:Rel C Pr F env σ H):Rel C Pr F (env++List.replicate m none) (qx m σ) H:=by
 have un:∀(j:Nat) x,(env++List.replicate m none)[j]? = some (some x)->env[j]? = some (some x):=λj x he=>by
  grind
 have up:∀(j:Nat) v,σ[j]? = some (some v)->(qx m σ)[j]? = some (some v):=λj v h=>by
  unfold qx
  grind
 have dn:∀(j:Nat) v,(qx m σ)[j]? = some (some v)->σ[j]? = some (some v):=λj v he=>by
  unfold qx at he
  grind
 refine⟨r.pr,r.fr,by unfold qx;rw[Qq1,Qq1,Qw5,Qw5,r.len],λj e he=>?_,λj e he=>?_,λj k e f b hj hk g1 g2=>r.apart j k e f b (un _ _ hj) (un _ _ hk) (dn _ _ g1)<|dn _ _ g2,r.dj,λj a h=>up _ _<|r.fix j a h⟩
 ·obtain⟨v,h1,h2⟩:=r.val j e<|un _ _ he
  simp_all
 ·obtain⟨a,h1,h2⟩:=r.own j e<|un _ _ he
  simp_all
theorem Rel.cut{σ σ0:L2.St}(r:Rel C Pr F env σ H)(h:σ.take σ0.length=σ0)(fix:∀i a,C.fx i=some a->σ0[i]? = some (some (V.ref a))):Rel C Pr F (env.take σ0.length) σ0 H:=by
 have hl:σ0.length<=σ.length:=by grind
 have un:∀j x,(env.take σ0.length)[j]? = some (some x)->env[j]? = some (some x)/\j<σ0.length:=λj x he=>by
  grind
 have dn:∀j,j<σ0.length->σ[j]? = σ0[j]?:=λj hj=>by
  grind
 refine⟨r.pr,r.fr,by rw[Qx5,r.len];omega,λj e he=>?_,λj e he=>?_,λj k e f b hj hk g1 g2=>r.apart j k e f b (un _ _ hj).1 (un _ _ hk).1 (by simp_all) (by simp_all),r.dj,fix⟩
 ·obtain⟨e1,e2⟩:=un _ _ he;rw[<-dn j e2];exact r.val j e e1
 ·obtain⟨e1,e2⟩:=un _ _ he;rw[<-dn j e2];exact r.own j e e1
noncomputable def uJ(g:GV)(c:fX)(e:Ev):List D->Env->R (List D)
 | [],env=>.ok [] env
 | d::ds,env=>(match g d env with
  | none=>.stuck
  | some e1=>bindR (c e1) λb e2=>if b=true then bindR (e e2) λy e3=>bindR (uJ g c e ds e3) λys e4=>.ok (y::ys) e4 else uJ g c e ds e2)
def fM(lo n:Nat)(it:dq)(g:GV)(c:fX)(e:Ev):Ev:=λenv=>bindR (it env) λds aG=>if aG.length=lo then bindR (uJ g c e ds (aG++List.replicate (n - lo) none)) λys dD=>(if ys.length<=sizeLine then .ok (.lst ys) (dD.take lo) else .stuck) else .stuck
def Ri(X:Cx)(C:Cfg)(ifs:List Expr)(ev:fX):Prop:=PIf X ifs (tT C ev)
noncomputable def cR:fX:=λenv=>.ok true env
theorem aav:Ri X C [] cR:=λpins s σ H Q I h=>by
 obtain⟨Pr,F,env,env',b,r,e,q⟩:=h;cases e;exact adR pins s σ H Q I<|q H F r<|aV.refl F
theorem af3{lo n:Nat}(h:tN C (fM lo n it g c e) σ H Q):tLC n (tI C it) (tG C lo g) (tT C c) (tE C e) σ H Q:=by
 obtain⟨Pr,F,env,env',d,r,ev,q⟩:=h;obtain⟨ds,aG,e1,e2⟩:=aO ev;split at e2
 ·rename_i hlo;obtain⟨ys,dD,e3,e4⟩:=aO e2;split at e4
  ·rename_i hz;cases e4;refine⟨Pr,F,env,aG,ds,r,e1,λJ H1 F1 r1 s1 y1 a ha=>?_⟩;have hσ:=r1.len.symm.trans hlo;have hPa:=r1.pr.free ha;refine⟨λi m σ' H'=>m=ds.length - i/\i<=ds.length/\∃F' jZ acc ws rest,Rel C (upd Pr a<|.lst ws) F' jZ σ' H'/\aV F1 F'/\bT C.K F' acc ws/\σ'.take lo=σ/\uJ g c e (ds.drop i) jZ = .ok rest dD/\acc++rest=ys,
    ⟨ds.length,rfl,Qxx _,F1,aG++List.replicate (n - lo) none,[],[],ys,?_,aV.refl _,rfl,?_,e3,rfl⟩,?_⟩
   ·rw[hσ];exact(r1.aside ha).pad _
   ·unfold qx
    simp_all
   rintro i m σ' H' ⟨rfl,hi,F',jZ,acc,ws,rest,r',s',p',t',l',hacc⟩;have hFa:F' a=none:=by
    cases ez:F' a with
    | none=>rfl
    | some w=>have:=r'.dj a w ez;rw[bC] at this;cases this
   by_cases hl:i<ds.length
   ·have hd:=Qq6 hl;have hdr:=Qx4 hl;have yy:=y1 i H'<|s'.trans r'.fr;refine .inr ⟨(yy.2 _ hd).1,λσ2 H2=>∃F' jZ acc ws rest,Rel C (upd Pr a<|.lst ws) F' jZ σ2 H2/\aV F1 F'/\bT C.K F' acc ws/\σ2.take lo=σ/\uJ g c e (ds.drop<|i+1) jZ = .ok rest dD/\acc++rest=ys,
     λσ2 H2 h2=>⟨ds.length - (i+1),by omega,rfl,hl,h2⟩,λx H2 hy=>?_⟩
    obtain⟨F2,r2,s2,p2⟩:=nW.item r' s' y1 hd hy;rw[hdr] at l';unfold uJ at l';cases eg:g ds[i] jZ with
    | none=>simp_all
    | some e5=>
     rw[eg] at l';obtain⟨b,e6,c1,l2⟩:=aO l';refine⟨_,F2,jZ,e5,ds[i],r2,p2,eg,λσ3 H3 F3 r3 s3 t3=>⟨_,F3,e5,e6,b,r3,c1,λH4 F4 r4 s4=>?_⟩⟩;have t3':=t3.trans t';have s24:=(s2.trans s3).trans s4;cases b with
     | false=>
      rw[if_neg Qwx];rw[if_neg Qwx] at l2;exact⟨F4,e6,acc,ws,rest,r4,s'.trans s24,bT.mono s24 _ _ p',t3',l2,hacc⟩
     | true=>
      rw[if_pos rfl];rw[if_pos rfl] at l2;obtain⟨y,e7,c2,l3⟩:=aO l2;obtain⟨ys2,e8,c3,l4⟩:=aO l3;cases l4;refine⟨_,F4,e6,e7,y,r4,c2,λv H5 F5 r5 s5 p5=>?_⟩;have hlen:acc.length+(ys2.length+1)=ys.length:=by grind
      refine⟨ws,r5.pr _ _ bC,by rw[p'.length];omega,F5,e7,acc++[y],ws++[v],ys2,?_,s'.trans<|s24.trans s5,(bT.mono (s24.trans s5) _ _ p').append<|bT.one p5,t3',c3,by simp_all⟩;have r6:=r5.turn (u:=.lst<|ws++[v]) bC
      rwa [Ko] at r6
   ·have ei:i=ds.length:=by omega
    subst ei;rw[List.drop_length] at l';cases l';rw[Qxv] at hacc;subst hacc;refine .inl ⟨(y1 _ H'<|s'.trans r'.fr).1 (Qjv<|Qqv _) rfl,?_⟩;have sP:aV Pr (upd Pr a<|.lst ws):=lB hPa;have r7:Rel C Pr F' (dD.take lo) σ H':=by
     have:=(r'.less sP).cut (by simp_all) r1.fix
     simp_all
    refine q a H' F' r7 (s1.trans s') ⟨⟨hz,ws,r'.pr _ _ bC,p'⟩,hFa,hPa,λj e he hs=>?_⟩;have hj:=(Qwz.mp hs).1;have he':dD[j]? = some (some (true,e)):=by simp_all
    obtain⟨b,g1,_,_,g4⟩:=r'.own j e he';have:σ'[j]? = some (some<|V.ref a):=by grind
    rw[this] at g1;cases g1;rw[bC] at g4;cases g4
  ·cases e4
 ·cases e2
section
variable{X:Cx}{C:Cfg}{pos:Pos}
theorem agZ(N')(lo)(ok:ji X scope N')(hc:X.calm=true)(hi:YW X C tg iter it)
  (bg:∀X',dH X scope N' X'->Y7 X' C lo tg g) (bc:∀X',dH X scope N' X'->Ri X' C ifs c) (be:∀X',dH X scope N' X'->PX X' C elt e)
  (hs:∀x,foldedSetIterable iter X.env x=pure x:=by intro _;rfl):PXN X C (.ListComp elt [⟨tg,iter,ifs,0⟩] scope pos) (fM lo N'.length it g c e):=
 (alm ok hc hi bg bc be hs).imp λσ H Q h=>af3 h
theorem Xc(N'){spos py:Pos}(lo)(ok:ji X scope N')(hc:X.calm=true)(hi:YW X C tg iter it)
  (bg:∀X',dH X scope N' X'->Y7 X' C lo tg g) (bc:∀X',dH X scope N' X'->Ri X' C ifs c) (be:∀X',dH X scope N' X'->PX X' C elt e)
  (hN:X.N.Nodup) (hy:X.N[i]? = some y) (hx:Loc X.env.scope y) (hfx:C.fx i=none)
  (hsw:swapsWith (.ListComp elt [⟨tg,iter,ifs,0⟩] scope pos) (some (.Name y py)) spos.line X.env=pure true)
  (hf:X.fn y=true\/X.env.scope.names.lookup y=some .local:=by first|exact .inl rfl|exact .inr rfl|assumption)
  (hs:∀x,foldedSetIterable iter X.env x=pure x:=by intro _;rfl):PXS X C (.Assign [.Name y py] (.ListComp elt [⟨tg,iter,ifs,0⟩] scope pos) spos) (gr i (fM lo N'.length it g c e)):=
 (aaC ok hc hi bg bc be hN hy hx hsw hf hs).imp λD σ H h=>by
  obtain⟨Pr,F,env,r,f⟩:=h;obtain⟨d,aG,e1,f1⟩:=fO f;have:tN C (fM lo N'.length it g c e) σ H λv H1=>zV i v σ H1 D.nx:=⟨Pr,F,env,aG,d,r,e1,λv H1 F1 r1 s1 p1=>f1 _ H1 F1 (r1.Td hfx p1) s1⟩;exact af3 this
end
def jV(K:Fg)(n:Nat)(f:List D->Option D):Sp:=λvs H Q _=>∃(F:Hp) (ds:List D) (d:D),ds.length=n/\aV F H/\bT K F ds vs/\f ds=some d/\
 ∀v H' F',aV H H'->aV F' H'->aV F F'->(∀b o,F' b=some o->F b=some o\/H b=none)->Rep K F' d v->Q v H'
def spN(K:Fg)(n:Nat)(f:List D->Option D):Sp:=λvs H Q _=>∃(F:Hp) (ds:List D) (d:D),ds.length=n/\aV F H/\bT K F ds vs/\f ds=some d/\
 ∀a H' F',aV H H'->aV F' H'->aV F F'->(∀b o,F' b=some o->F b=some o\/H b=none)->j4 K F' H' d a->F' a=none->H a=none->Q (.ref a) H'
def vd(K:Fg)(n:Nat)(f:List D->Option (D×D)):Sp:=λvs H Q _=>∃(F:Hp) (a:Addr) (r:List V) (x:D) (ds:List D) (d x':D),vs = .ref a::r/\ds.length+1=n/\aV F H/\F a=none/\j4 K F H x a/\bT K F ds r/\f (x::ds)=some (d,x')/\
 ∀v H' F',(∀b o,b≠a->H b=some o->H' b=some o)->aV F' H'->aV F F'->(∀b o,F' b=some o->F b=some o\/H b=none)->j4 K F' H' x' a->Rep K F' d v->Q v H'
theorem Rel.after(r:Rel C Pr F env σ H)(s:aV H H')(sF:aV F' H')(sF':aV F F')(nw:∀b o,F' b=some o->F b=some o\/H b=none):Rel C Pr F' env σ H':=by
 refine⟨r.pr.trans s,sF,r.len,λj e he=>?_,λj e he=>?_,r.apart,λb o e=>?_,r.fix⟩
 ·obtain⟨v,h1,h2⟩:=r.val j e he;exact⟨v,h1,Rep.mono sF' _ _ h2⟩
 ·obtain⟨a,h1,h2,h3,h4⟩:=r.own j e he;obtain⟨o,ho⟩:=h2.some;refine⟨a,h1,h2.mono sF' (by rw[ho,s _ _ ho]),?_,h4⟩;cases e:F' a with
  | none=>rfl
  | some u=>
   grind
 ·rcases nw b o e with z|z
  ·exact r.dj b o z
  ·exact r.pr.free z
theorem Rel.Wk(r:Rel C Pr F env σ H)(h:env[i]? = some (some (true,d)))(hs:σ[i]? = some (some (V.ref a)))(s:∀b o,b≠a->H b=some o->H' b=some o)(sF:aV F' H')(sF':aV F F')(nw:∀b o,F' b=some o->F b=some o\/H b=none)(ho:j4 C.K F' H' d' a):Rel C Pr F' (env.set i (some (true,d'))) σ H':=by
 obtain⟨a',h1,h2,h3,h4⟩:=r.own i d h;rw[hs] at h1;cases h1;have hi:=(Qwz.mp h).1;obtain⟨oa,hoa⟩:=h2.some;have ne:∀j e b,j≠i->env[j]? = some (some (true,e))->σ[j]? = some (some<|V.ref b)->b≠a:=λj e b hj he g z=>hj<|r.apart j i e d a he h (by simp_all) hs;have nF:∀b u,F b=none->H b=some u->F' b=none:=λb u e1 e2=>by
  cases e:F' b with
  | none=>rfl
  | some w=>
   grind
 refine⟨λb w e=>?_,sF,by rw[Qz4];exact r.len,λj e he=>?_,λj e he=>?_,λj k e f b hj hk g1 g2=>?_,λb o e=>?_,r.fix⟩
 ·have hb:b≠a:=λz=>by simp_all
  exact s b w hb<|r.pr b w e
 ·by_cases hj:j=i
  ·simp_all
  ·rw[Qwq (Ne.symm hj)] at he;obtain⟨v,g1,g2⟩:=r.val j e he;exact⟨v,g1,Rep.mono sF' _ _ g2⟩
 ·by_cases hj:j=i
  ·simp_all
  ·rw[Qwq (Ne.symm hj)] at he;obtain⟨b,g1,g2,g3,g4⟩:=r.own j e he;obtain⟨ob,hob⟩:=g2.some;exact⟨b,g1,g2.mono sF' (by grind),nF b ob g3 hob,g4⟩
 ·have un:∀(j:Nat) e,(env.set i<|some (true,d'))[j]? = some (some (true,e))->∃e',env[j]? = some (some (true,e')):=λj e he=>by
   grind
  obtain⟨e',hj'⟩:=un j e hj;obtain⟨f',hk'⟩:=un k f hk;exact r.apart j k e' f' b hj' hk' g1 g2
 ·rcases nw b o e with z|z
  ·exact r.dj b o z
  ·exact r.pr.free z
section
variable{X:Cx}{C:Cfg}{pos p:Pos}{k n:Nat}{f:Addr}{fd:FuncData}{ps:List Str}{x:Str}{e:Expr}{es:List Expr}
theorem Fe(h:az g a env = .ok d env'):∃ds,a env = .ok ds env'/\g ds=some d:=by
 obtain⟨ds,aG,e1,e2⟩:=aO h;obtain⟨e3,rfl⟩:=du e2
 simp_all
theorem ag2(G:oE X.prog X.w X.K X.mg X.base Gs k f fd ps (jV C.K n g))(hr:jK k X.A)(hg:Gl X x)(hm:X.mg x=some (.ref f))(hk:PySem.W.keepIn X.K (.ref f)=true)(hb:Binds X.K fd ps [])
  (ha:Y8 X C (e::es) a) (hn:∀env ds env',a env = .ok ds env'->ds.length=n) (hdb:oW x:=by decide) (he:starEach (e::es) X.env=(false,eval e X.env)::starEach es X.env:=by rfl) (hpl:(backTo pos (starEach es X.env)).any (·.1)=false:=by rfl) :
  PX X C (.Call (.Name x p) (e::es) [] pos) (az g a):=(Bk G hr hg hm hk hb .nil Pj ha hdb he hpl).imp λσ H Q hq=>by
 obtain⟨Pr,F,env,env',d,r,e,q⟩:=hq;obtain⟨ds,e1,e2⟩:=Fe e;refine⟨Pr,F,env,env',ds,r,e1,λvs H1 F1 r1 s1 p1=>?_⟩;show jV C.K n g (vs++[]) H1 Q E0;rw[Qxv];exact⟨F1,ds,d,hn _ _ _ e1,r1.fr,p1,e2,λv H2 F2 t1 t2 t3 t4 p2=>q v H2 F2 (r1.after t1 t2 t3 t4) (s1.trans t3) p2⟩
theorem adC(G:oE X.prog X.w X.K X.mg X.base Gs k f fd ps (spN C.K n g))(hr:jK k X.A)(hg:Gl X x)(hm:X.mg x=some (.ref f))(hk:PySem.W.keepIn X.K (.ref f)=true)(hb:Binds X.K fd ps [])
  (ha:Y8 X C (e::es) a) (hn:∀env ds env',a env = .ok ds env'->ds.length=n) (hdb:oW x:=by decide) (he:starEach (e::es) X.env=(false,eval e X.env)::starEach es X.env:=by rfl) (hpl:(backTo pos (starEach es X.env)).any (·.1)=false:=by rfl) :
  PXN X C (.Call (.Name x p) (e::es) [] pos) (az g a):=(Bk G hr hg hm hk hb .nil Pj ha hdb he hpl).imp λσ H Q hq=>by
 obtain⟨Pr,F,env,env',d,r,e,q⟩:=hq;obtain⟨ds,e1,e2⟩:=Fe e;refine⟨Pr,F,env,env',ds,r,e1,λvs H1 F1 r1 s1 p1=>?_⟩;show spN C.K n g (vs++[]) H1 Q E0;rw[Qxv];refine⟨F1,ds,d,hn _ _ _ e1,r1.fr,p1,e2,λb H2 F2 t1 t2 t3 t4 ho hF hH=>q b H2 F2 (r1.after t1 t2 t3 t4) (s1.trans t3) ⟨ho,hF,r1.pr.free hH,λj e he hs=>?_⟩⟩;obtain⟨c,h1,h2,_⟩:=r1.own j e he;rw[hs] at h1;cases h1;obtain⟨u,hu⟩:=h2.some
 simp_all
def dM(f:List D->Option (D×D))(i:Nat)(a:dq):Ev:=λenv=>match env[i]? with
 | some (some (true,_))=>bindR (a env) λds aG=>(match aG[i]? with
  | some (some (true,x))=>(match f (x::ds) with
   | some (d,x')=>.ok d (aG.set i (some (true,x')))
   | none=>.stuck)
  | _=>.stuck)
 | _=>.stuck
theorem alg{py:Pos}(hN:X.N[i]? = some y)(hv:yd X.env.scope y)(G:oE X.prog X.w X.K X.mg X.base Gs k f fd ps (vd C.K n g))(hr:jK k X.A)(hg:Gl X x)(hm:X.mg x=some (.ref f))(hk:PySem.W.keepIn X.K (.ref f)=true)(hb:Binds X.K fd ps [])
  (ha:Y8 X C es a) (hn:∀env ds env',a env = .ok ds env'->ds.length+1=n) (hdb:oW x:=by decide) (he:starEach (.Name y py::es) X.env=(false,eval (.Name y py) X.env)::starEach es X.env:=by rfl) (hpl:(backTo pos (starEach es X.env)).any (·.1)=false:=by rfl)
  (hd:oW y:=by decide) (hcd:yP y:=by decide) :
  PX X C (.Call (.Name x p) (.Name y py::es) [] pos) (dM g i a):=(Bk G hr hg hm hk hb .nil Pj (iK (kj hN hv hd hcd) ha he) hdb he hpl).imp λσ H Q hq=>by
 obtain⟨Pr,F,env,env',d,r,e,q⟩:=hq;unfold dM at e;split at e
 ·rename_i d0 h0;obtain⟨ds,aG,e1,e2⟩:=aO e;split at e2
  ·rename_i z hz;split at e2
   ·rename_i d1 z' hg;cases e2;obtain⟨a0,hs0,_⟩:=r.own i _ h0;refine⟨_,hs0,Pr,F,env,aG,ds,r,e1,λvs H1 F1 r1 s1 p1=>?_⟩;obtain⟨a1,hs1,ho1,hF1,hP1⟩:=r1.own i _ hz;rw[hs0] at hs1;cases hs1;show vd C.K n g (_::vs++[]) H1 Q E0;rw[Qxv];exact⟨F1,a0,vs,z,ds,d,z',rfl,hn _ _ _ e1,r1.fr,hF1,ho1,p1,hg,λv H2 F2 t1 t2 t3 t4 t5 p2=>q v H2 F2 (r1.Wk hz hs0 t1 t2 t3 t4 t5) (s1.trans t3) p2⟩
   ·cases e2
  ·cases e2
 ·cases e
end
noncomputable def envOf(n:Nat)(ds:List D):Env:=ds.map (λd=>some (false,d))++List.replicate (n - ds.length) none
noncomputable def xH(n:Nat)(x:D)(ds:List D):Env:=some (true,x)::(ds.map (λd=>some (false,d))++List.replicate (n - (ds.length+1)) none)
def cj(n:Nat)(ev:bU)(ds:List D):Option D:=match ev (envOf n ds) with
 | .rt false d _=>some d
 | .nx _=>some .non
 | _=>none
def runN(n:Nat)(ev:bU)(ds:List D):Option D:=match ev (envOf n ds) with
 | .rt true d _=>some d
 | _=>none
def lE(n:Nat)(ev:bU)(ds:List D):Option (D×D):=match ds with
 | []=>none
 | x::r=>(match ev (xH n x r) with
  | .rt false d env=>(match env[0]? with
   | some (some (true,x'))=>some (d,x')
   | _=>none)
  | .nx env=>(match env[0]? with
   | some (some (true,x'))=>some (.non,x')
   | _=>none)
  | _=>none)
noncomputable def C0(K:Fg):Cfg:=⟨K,λ_=>none⟩
noncomputable def C1(K:Fg)(a:Addr):Cfg:=⟨K,λi=>if i=0 then some a else none⟩
noncomputable def yR(H F:Hp):Hp:=λb=>if (F b).isSome then none else H b
theorem Dh(h:yR H F b=some o):H b=some o/\F b=none:=by
 unfold yR at h
 simp_all
theorem wZ(h:yR H F b=none):H b=none\/∃o,F b=some o:=by
 unfold yR at h;split at h
 ·rename_i z;exact .inr<|Qw8.mp z
 simp_all
theorem Hw{K:Fg}(s:aV F H)(p:bT K F ds vs):Rel (C0 K) (yR H F) F (envOf N.length ds) (start N vs) H:=by
 have un:∀(j:Nat) x,(envOf N.length ds)[j]? = some (some x)->∃d,x=(false,d)/\ds[j]? = some d:=λj x he=>by
  unfold envOf at he
  grind
 refine⟨λb o e=>(Dh e).1,s,?_,λj d he=>?_,λj d he=>?_,λj k d e a hj hk=>?_,λb o e=>?_,λi a h=>by cases h⟩
 ·unfold envOf L2.start;rw[Qq1,Qq1,Qqz,Qqz,Qw5,Qw5,p.length]
 ·obtain⟨d',z,hd⟩:=un j _ he;cases z;obtain⟨v,h1,h2⟩:=p.get hd;refine⟨v,?_,h2⟩;unfold L2.start
  grind
 ·simp_all
 ·simp_all
 ·unfold yR;rw[e];rfl
theorem aV.Tn(s1:aV (yR H F) H')(s2:aV F F')(s3:aV F' H')(sF:aV F H):aV H H':=λb o e=>by
 cases z:F b with
 | none=>exact s1 b o (by unfold yR;rw[z];exact e)
 | some w=>
  have:=sF b w z;rw[e] at this;cases this;exact s3 b o<|s2 b o z
theorem TF(s2:aV F F')(dj:∀b o,F' b=some o->yR H F b=none)(b)(o)(h:F' b=some o):F b=some o\/H b=none:=by
 rcases wZ (dj b o h) with z|⟨w,z⟩
 ·exact .inr z
 ·have:=s2 b w z
  simp_all
section
variable{P:Program}{w:World}{K:Fg}{mg:Str->Option Value}{base:Heap}{x qual:Str}{st:Stmt}{f:Addr}{fd:FuncData}{N ps:List Str}{k:Nat}{ev:bU}
abbrev bx(P:Program)(w:World)(K:Fg)(mg:Str->Option Value)(base:Heap)(N:List Str)(qual:Str)(st:Stmt)(f:Addr)(cdv:Value)(A:Around)(outer:List PySem.Env)(s:Shared)(H:Hp)(E:XK):Cx:=(Ul Gs P w K mg base N qual (aJ st) f cdv A outer s H E).nox
theorem QX(F:Za K x qual st f fd)(S:aZ N ps (aJ st))
  (hb:∀cdv A outer s H E,jK k (A.deeper (envOfC qual (aJ st) s.heap.objs.size f cdv))->Gn (bx P w K mg base N qual st f cdv A outer s H E) (C0 K) (fU st) ev) :
  oE P w K mg base Gs (k+1) f fd ps (jV K ps.length (cj N.length ev)):=by
 refine F.ok S (λvs H Q E h=>?_)<|λcdv A outer s H vs Q E hr h=>?_
 ·obtain⟨F0,ds,d,hl,_,p,_⟩:=h;rw[p.length,hl]
 ·obtain⟨F0,ds,d,hl,sF,p,e,q⟩:=h;refine⟨_,hb cdv A outer s H E hr,yR H F0,F0,envOf N.length ds,Hw sF p,?_⟩;unfold cj at e;split at e
  ·rename_i d' env' h1;cases e;rw[h1];exact λv σ' H' F' r' s' p'=>q v H' F' (aV.Tn r'.pr s' r'.fr sF) r'.fr s' (TF s' r'.dj) p'
  ·rename_i env' h1;cases e;rw[h1];exact λσ' H' F' r' s'=>q .non H' F' (aV.Tn r'.pr s' r'.fr sF) r'.fr s' (TF s' r'.dj) rfl
  ·cases e
theorem ae8(F:Za K x qual st f fd)(S:aZ N ps (aJ st))
  (hb:∀cdv A outer s H E,jK k (A.deeper (envOfC qual (aJ st) s.heap.objs.size f cdv))->Gn (bx P w K mg base N qual st f cdv A outer s H E) (C0 K) (fU st) ev) :
  oE P w K mg base Gs (k+1) f fd ps (spN K ps.length (runN N.length ev)):=by
 refine F.ok S (λvs H Q E h=>?_)<|λcdv A outer s H vs Q E hr h=>?_
 ·obtain⟨F0,ds,d,hl,_,p,_⟩:=h;rw[p.length,hl]
 ·obtain⟨F0,ds,d,hl,sF,p,e,q⟩:=h;refine⟨_,hb cdv A outer s H E hr,yR H F0,F0,envOf N.length ds,Hw sF p,?_⟩;unfold runN at e;split at e
  ·rename_i d' env' h1;cases e;rw[h1];refine λa σ' H' F' r' s' n'=>q a H' F' (aV.Tn r'.pr s' r'.fr sF) r'.fr s' (TF s' r'.dj) n'.own n'.nF ?_;rcases wZ n'.nP with z|⟨u,z⟩
   ·exact z
   ·have:=s' a u z;rw[n'.nF] at this;cases this
  ·cases e
theorem O8(s:aV F H)(hF:F a=none)(ho:j4 K F H y a)(p:bT K F ds vs):Rel (C1 K a) (λb=>if b=a then none else yR H F b) F (xH N.length y ds) (start N (.ref a::vs)) H:=by
 have un:∀j x,(xH N.length y ds)[j]? = some (some x)->(j=0/\x=(true,y))\/∃i d,j=i+1/\x=(false,d)/\ds[i]? = some d:=λj x he=>by
  unfold xH at he;cases j with
  | zero=>cases he;exact .inl ⟨rfl,rfl⟩
  | succ i=>
   rw[Qzk] at he;by_cases hj:i<(ds.map λd=>some (false,d)).length
   ·rw[Qx3 hj,Qw6] at he;obtain⟨d,h1,h2⟩:=Qww.mp he;cases h2;exact .inr ⟨i,d,rfl,rfl,h1⟩
   ·rw[Qjx (by omega),List.getElem?_replicate] at he;split at he<;>cases he
 have z0:(start N (.ref a::vs))[0]? = some (some<|V.ref a):=rfl;refine⟨λb o e=>?_,s,?_,λj d he=>?_,λj d he=>?_,λj k d e b hj hk _ _=>?_,λb o e=>?_,λi b h=>?_⟩
 ·have e':=e;split at e'
  ·cases e'
  ·exact(Dh e').1
 ·unfold xH L2.start;simp only[Qqw,Qq1,Qqz,Qw5,p.length,Qq2];omega
 ·rcases un j _ he with ⟨_,z⟩|⟨i,d',rfl,z,hd⟩
  ·cases z
  ·cases z;obtain⟨v,h1,h2⟩:=p.get hd;refine⟨v,?_,h2⟩;unfold L2.start;rw[Qq2,List.cons_append,Qzk,Qx3 (by rw[Qqz];exact(Qwz.mp h1).1),Qw6,h1]
   rfl
 ·rcases un j _ he with ⟨rfl,z⟩|⟨i,d',rfl,z,hd⟩
  ·cases z;exact⟨a,z0,ho,hF,if_pos rfl⟩
  ·cases z
 ·rcases un j _ hj with ⟨rfl,_⟩|⟨i,d',rfl,z,_⟩
  ·rcases un k _ hk with ⟨rfl,_⟩|⟨i,d',rfl,z,_⟩
   ·rfl
   ·cases z
  ·cases z
 ·show(if b=a then none else yR H F b)=none;split
  ·rfl
  ·unfold yR;rw[e];rfl
 ·have h':(if i=0 then some a else none)=some b:=h;split at h'
  ·rename_i hi;cases h';rw[hi];exact z0
  ·cases h'
theorem ajF(F:Za K x qual st f fd)(S:aZ N (y::qs) (aJ st))
  (hb:∀cdv A outer s H E a,jK k (A.deeper (envOfC qual (aJ st) s.heap.objs.size f cdv))->Gn (bx P w K mg base N qual st f cdv A outer s H E) (C1 K a) (fU st) ev) :
  oE P w K mg base Gs (k+1) f fd (y::qs) (vd K (qs.length+1) (lE N.length ev)):=by
 refine F.ok S (λvs H Q E h=>?_)<|λcdv A outer s H vs Q E hr h=>?_
 ·obtain⟨F0,a,r,z,ds,d,z',rfl,hl,_,_,_,p,_⟩:=h;rw[Qqw,Qqw,p.length];exact hl
 ·obtain⟨F0,a,r,z,ds,d,z',rfl,hl,sF,hFa,ho,p,e,q⟩:=h;refine⟨_,hb cdv A outer s H E a hr,_,F0,xH N.length z ds,O8 sF hFa ho p,?_⟩;have fin:∀env' σ' H' F' v d z',env'[0]? = some (some (true,z'))->Rel (C1 K a) (λb=>if b=a then none else yR H F0 b) F' env' σ' H'->aV F0 F'->Rep K F' d v->(∀v H' F',(∀b o,b≠a->H b=some o->H' b=some o)->aV F' H'->aV F0 F'->(∀b o,F' b=some o->F0 b=some o\/H b=none)->j4 K F' H' z' a->Rep K F' d v->Q v H')->Q v H':=λenv' σ' H' F' v d z' h0 r' s' p' q=>by
   obtain⟨b,g1,g2,g3,g4⟩:=r'.own 0 z' h0;have g5:=r'.fix 0 a rfl;rw[g1] at g5;cases g5;refine q v H' F' (λc o hc e=>?_) r'.fr s' (λc o e=>?_) g2 p'
   ·cases u:F0 c with
    | none=>exact r'.pr c o (by show(if c=a then none else yR H F0 c)=some o;rw[if_neg hc];unfold yR;rw[u];exact e)
    | some w=>
     have:=sF c w u;rw[e] at this;cases this;exact r'.fr c o<|s' c o u
   ·by_cases hc:c=a
    ·simp_all
    ·have h1:=r'.dj c o e;have h1':=h1;rw[if_neg hc] at h1';rcases wZ h1' with u|⟨w,u⟩
     ·exact .inr u
     ·have:=s' c w u
      simp_all
  unfold lE at e;simp at e;split at e
  ·rename_i d' env' h1;split at e
   ·rename_i z1 h0;cases e;rw[h1];exact λv σ' H' F' r' s' p'=>fin env' σ' H' F' v _ _ h0 r' s' p' q
   ·cases e
  ·rename_i env' h1;split at e
   ·rename_i z1 h0;cases e;rw[h1];exact λσ' H' F' r' s'=>fin env' σ' H' F' .non .non _ h0 r' s' rfl q
   ·cases e
  ·cases e
end
structure Good(X:Cx)(C:Cfg):Prop where
 K:X.K=C.K
 calm:X.calm=true
 un:X.A.units+64<cLine
theorem Good.u1(G:Good X C):X.A.units+1<cLine:=Qw0 (Nat.add_le_add_left (by decide:1<=64) _) G.un
theorem Good.u60(G:Good X C):X.A.units+60<cLine:=Qw0 (Nat.add_le_add_left (by decide:60<=64) _) G.un
theorem Good.u61(G:Good X C):X.A.units+61<cLine:=Qw0 (Nat.add_le_add_left (by decide:61<=64) _) G.un
theorem Good.at(G:Good X C)(h:dH X scope N' X'):Good X' C:=by obtain⟨_,_,_,_,_,rfl⟩:=h;exact⟨G.K,G.calm,G.un⟩
def Own(P:Program)(w:World)(K:Fg)(mg:Str->Option Value)(base:Heap)(x:Str)(k:Nat)(ps:List Str)(sp:Sp):Prop:=
 ∃f fd,oE P w K mg base Gs k f fd ps sp/\mg x=some (.ref f)/\PySem.W.keepIn K (.ref f)=true/\Binds K fd ps []
def Rk(K:Fg)(mg:Str->Option Value)(x:Str)(d:D):Prop:=∃v u,mg x=some u/\RelV v u/\∀F,Rep K F d v
def bW(K:Fg)(mg:Str->Option Value)(x:Str)(st:Stmt)(ps:List Str):Prop:=∃f fd,Za K x x st f fd/\mg x=some (.ref f)/\Binds K fd ps []
noncomputable def nM:List Str->Bool
 | []=>true
 | x::r=>!(r.contains x)&&nM r
theorem kY:∀{l},nM l=true->l.Nodup
 | [],_=>.nil
 | x::r,h=>by
  have h':(!(r.contains x)&&nM r)=true:=h;rw[Qj3] at h';refine Qz3.mpr ⟨λhm=>?_,kY h'.2⟩
  simp_all
noncomputable def VV(outer:List (Str×NameKind)):List (Str×NameKind)->Bool
 | []=>true
 | (n,k)::r=>(!decide (k = .free)||decide (outer.lookup n=some .cell)||decide (outer.lookup n=some .free))&&VV outer r
theorem QH:∀{l},VV outer l=true->∀x∈l,x.2 = .free->outer.lookup x.1=some .cell\/outer.lookup x.1=some .free
 | [],_,x,hx,_=>by simp at hx
 | (n,k)::r,h,x,hx,hf=>by
  have h':((!decide (k = .free)||decide (outer.lookup n=some .cell)||decide (outer.lookup n=some .free))&&VV outer r)=true:=h;rw[Qj3,Bool.or_eq_true,Bool.or_eq_true] at h';rcases Qq8.mp hx with rfl|hx
  ·simp_all
  ·exact QH h'.2 x hx hf
theorem dZ{X:Cx}{scope:Scope}{N':List Str}(h1:scope.kind = .function:=by rfl)(h2:nM (scope.names.map (·.1))=true:=by rfl)(h3:VV X.env.scope.names scope.names=true:=by rfl)(h4:ach scope.names N' X.N=true:=by rfl)(h5:Nat.ble X.N.length N'.length=true:=by rfl):ji X scope N':=
 ⟨h1,kY h2,QH h3,h4,Qx9 h5⟩
section
variable{X:Cx}{C:Cfg}{pos p px:Pos}{x y z:Expr}{a b c:Ev}{t u:fX}{i:Nat}{n:Str}
structure Bi(X:Cx)(C:Cfg)(op:Operator)(g:D->D->Option D):Prop where
 ex:∃r,nu X (binaryOp op) r/\qg C r g
structure Cm(X:Cx)(C:Cfg)(op:CmpOp)(g:D->D->Option D):Prop where
 ex:∃r,nu X (compareOp op) r/\qg C r g
theorem f9(G:Good X C):Bi X C .Add cA:=⟨_,ad5,by rw[G.K];exact ahS⟩
theorem z8:Bi X C .Sub m7:=⟨_,ahq,ahH⟩
theorem Wi:Bi X C .Mult uF:=⟨_,ad3,ahL⟩
theorem am8:Bi X C .Mod ajl:=⟨_,ahv,ahM⟩
theorem agi:Bi X C .Pow Ub:=⟨_,aht,ahK⟩
theorem am7:Bi X C .LShift Ye:=⟨_,ahs,ahJ⟩
theorem agh:Bi X C .RShift Qy:=⟨_,ahr,ahI⟩
theorem agk:Bi X C .BitAnd QF:=⟨_,ahD,ahR⟩
theorem ir(G:Good X C):Cm X C .Eq gQ:=⟨_,ahB G.u60,by rw[G.K];exact alC⟩
theorem Q7(G:Good X C):Cm X C .NotEq Gr:=⟨_,ahu G.u60,by rw[G.K];exact alw⟩
theorem Hi(G:Good X C):Cm X C .In En:=⟨_,ahA G.u61,by rw[G.K];exact alA⟩
theorem MT(G:Good X C):Cm X C .NotIn tR:=⟨_,Xp G.u61,by rw[G.K];exact aaX⟩
theorem ajO:Cm X C .Is gIs:=⟨_,ahy,alz⟩
theorem afi:Cm X C .Lt VP:=⟨_,ahw,alx⟩
theorem M3:Cm X C .LtE QB:=⟨_,alp,aly⟩
theorem am1:Cm X C .Gt gGt:=⟨_,alq,alB⟩
variable{e:Expr}{es:List Expr}{ea:dq}
theorem len0:∀env ds env',aj env = .ok ds env'->ds.length=0:=Ym
theorem aP(hr:∀env ds env',r env = .ok ds env'->ds.length=m):∀env ds env',aa a r env = .ok ds env'->ds.length=m+1:=Ui hr
theorem gh{r:dq}(hr:∀env ds env',r env = .ok ds env'->ds.length=m):∀env ds env',r env = .ok ds env'->ds.length+1=m+1:=λenv ds env' h=>by grind
theorem aos(N')(lo)(ok:ji X scope N')(G:Good X C)(hi:YW X C tg iter it)
  (bg:∀X',dH X scope N' X'->Y7 X' C lo tg g) (bc:∀X',dH X scope N' X'->Ri X' C ifs cc) (be:∀X',dH X scope N' X'->PX X' C elt ee)
  (hs:∀x,foldedSetIterable iter X.env x=pure x:=by intro _;rfl):PXN X C (.ListComp elt [⟨tg,iter,ifs,0⟩] scope pos) (fM lo N'.length it g cc ee):=agZ N' lo ok G.calm hi bg bc be hs
theorem aod(N'){spos py:Pos}(lo)(i)(ok:ji X scope N')(G:Good X C)(hi:YW X C tg iter it)
  (bg:∀X',dH X scope N' X'->Y7 X' C lo tg g) (bc:∀X',dH X scope N' X'->Ri X' C ifs cc) (be:∀X',dH X scope N' X'->PX X' C elt ee)
  (hnd:nM X.N=true:=by rfl) (hfx:C.fx i=none:=by rfl) (hy:X.N[i]? = some n:=by rfl) (hx:Loc X.env.scope n:=by first|exact Or.inl rfl|exact Or.inr rfl)
  (hsw:swapsWith (.ListComp elt [⟨tg,iter,ifs,0⟩] scope pos) (some (.Name n py)) spos.line X.env=pure true:=by rfl)
  (hf:X.fn n=true\/X.env.scope.names.lookup n=some .local:=by first|exact .inl rfl|exact .inr rfl)
  (hs:∀x,foldedSetIterable iter X.env x=pure x:=by intro _;rfl):PXS X C (.Assign [.Name n py] (.ListComp elt [⟨tg,iter,ifs,0⟩] scope pos) spos) (gr i (fM lo N'.length it g cc ee)):=Xc N' lo ok G.calm hi bg bc be (kY hnd) hy hx hfx hsw hf hs
end
section
variable{P:Program}{w:World}{K:Fg}{mg:Str->Option Value}{base:Heap}{x:Str}{st:Stmt}{N ps:List Str}{k:Nat}{ev:bU}
theorem xq(hC:C.K=K)(hr:jK k (A.deeper (envOfC x (aJ st) s.heap.objs.size f cdv))):Good (bx P w K mg base N x st f cdv A outer s H E) C:=⟨hC.symm,rfl,hr.units⟩
theorem bG(F:bW K mg x st ps)(S:aZ N ps (aJ st))
  (hb:∀f cdv A outer s H E,jK k (A.deeper (envOfC x (aJ st) s.heap.objs.size f cdv))->Good (bx P w K mg base N x st f cdv A outer s H E) (C0 K)->Gn (bx P w K mg base N x st f cdv A outer s H E) (C0 K) (fU st) ev) :
  Own P w K mg base x (k+1) ps (jV K ps.length (cj N.length ev)):=by
 obtain⟨f,fd,h1,h2,h3⟩:=F;exact⟨f,fd,QX h1 S λcdv A outer s H E hr=>hb f cdv A outer s H E hr<|xq rfl hr,h2,h1.kp,h3⟩
theorem adZ(F:bW K mg x st ps)(S:aZ N ps (aJ st))
  (hb:∀f cdv A outer s H E,jK k (A.deeper (envOfC x (aJ st) s.heap.objs.size f cdv))->Good (bx P w K mg base N x st f cdv A outer s H E) (C0 K)->Gn (bx P w K mg base N x st f cdv A outer s H E) (C0 K) (fU st) ev) :
  Own P w K mg base x (k+1) ps (spN K ps.length (runN N.length ev)):=by
 obtain⟨f,fd,h1,h2,h3⟩:=F;exact⟨f,fd,ae8 h1 S λcdv A outer s H E hr=>hb f cdv A outer s H E hr<|xq rfl hr,h2,h1.kp,h3⟩
theorem qQ(F:bW K mg x st (y::qs))(S:aZ N (y::qs) (aJ st))
  (hb:∀f cdv A outer s H E a,jK k (A.deeper (envOfC x (aJ st) s.heap.objs.size f cdv))->Good (bx P w K mg base N x st f cdv A outer s H E) (C1 K a)->Gn (bx P w K mg base N x st f cdv A outer s H E) (C1 K a) (fU st) ev) :
  Own P w K mg base x (k+1) (y::qs) (vd K (qs.length+1) (lE N.length ev)):=by
 obtain⟨f,fd,h1,h2,h3⟩:=F;exact⟨f,fd,ajF h1 S λcdv A outer s H E a hr=>hb f cdv A outer s H E a hr<|xq rfl hr,h2,h1.kp,h3⟩
theorem dJ{sc:Scope}(h1:sc.kind = .function:=by rfl)(h2:sc.isCoroutine=false:=by rfl)(h3:sc.isGenerator=false:=by rfl)(h4:nM N=true:=by rfl)(h5:N.take ps.length=ps:=by rfl)
  (h6:(ps.all λx=>decide (sc.names.lookup x=some .local)||decide (sc.names.lookup x=some .cell))=true:=by rfl) (h7:(sc.names.all λy=>!decide (y.2 = .free))=true:=by rfl):aZ N ps sc:=by
 refine⟨h1,h2,h3,kY h4,h5,λx hx=>?_,λy hy z=>?_⟩
 all_goals grind
end
open PySem PySem.Spec PySem.W PySem.Calls PyProof.Rows L2
theorem zJ:∀(ns:List Int) i,i∈ns->Builtin.Int.intBits i<=WData.weightAll (ns.map WData.int)
 | [],_,h=>by simp at h
 | n::ns,i,h=>by
  rw[Qq2,WData.weightAll];rcases Qq8.mp h with rfl|h
  ·have e:WData.weight (.int i)=Builtin.Int.intBits i:=by rfl
   omega
  ·have:=zJ ns i h;omega
def UW(ns:List Int):Prop:=∀i∈ns,Builtin.Int.intBits i<=2^20
theorem M6{l:OpenLaw}
  (hn:l.most=some n) (hdf:d.params.defaults=[])
  (call:∀w s₀ s₁ mg mb fa o pm cd doc a vs ns,
   Ground q loose [] XP w s₀ mg mb s₁.heap->YP w s₁.heap->
   s₁.heap.get? fa=some o->o.data = .func (docDef d.name d.params d.body d.scope pm cd doc)->s₁.heap.CodeRec cd d.name->mg d.name=some (.ref fa)->
   s₁.heap.get? a=some { cls:=.type "list",data:=.seq vs.toArray }->IntsAre vs ns->ns.length<=n->UW ns->s₁.gens = #[]->
   codeAny (model l.prog w) callerA (.call (.ref fa) ⟨[.ref a],[]⟩) (λr s'=>r = .ok (.ret (.bool true))/\OldK s₁.heap s'.heap/\s'.os=s₁.os/\AllBare s'.gens) s₁) :
  WalkO q loose XP YP l.row.toRowW d [] (λf vs=>PySem.call f vs):=by
 intro w s₀ s₁ mg mb G Y fa o pm cd doc dV kV ho hd hcd hD hmg hg args vals as hpre hlay hrd hwl hlo;obtain rfl:dV = .none:=Dflts.none hD hdf;obtain rfl:kV = .none:=Dflts.noKw hD;obtain⟨a,vs,ns,rfl,rfl,hobj,hints,hlen⟩:=Att.W6 hn hpre hwl;have VF:=λi hi=>by
  have h1:=(layableW_iff.mp<|layableW_arg hlay _<|Qq9.mpr rfl).2.2;rw[WData.weight] at h1;exact Qqj (zJ ns i hi) h1
 refine enter_call<|codeAny_mono (call w s₀ s₁ mg mb fa o pm cd doc a vs ns G Y ho (fd_plain hd) hcd hmg hobj hints hlen VF hg) λr s' hq=>?_;obtain⟨rfl,h2,h3,h4⟩:=hq;exact⟨.inl ⟨.bool true,.bool true,[],rfl,λ_=>rfl,.bool true,Att.Xf l _,λ_=>⟨List.Pairwise.nil,λ_ hm=>(nomatch hm)⟩⟩,h2,h3,h4⟩
theorem akv{l:PySem.W.OpenLaw}{K:Params->PySem.W.Frag}
  (hn:l.most=some n) (hn2:n<=sizeLine) (hdf:d.params.defaults=[]) (hr:jK k callerA)
  (hY:∀w h,YP w h->(K w.params).In h)
  (hf:∀ns,ns.length<=n->UW ns->f [.arr (ns.map .int)]=some (.bl true))
  (F:∀w mg fa h,(K w.params).In h->h.Ns mainGlobals mg->mg d.name=some (.ref fa)->
   ∃fd,(∀s u,BindsTo s fd ⟨[u],[]⟩ [(x,u)])/\
    ∀base,(K w.params).In base->base.Ns mainGlobals mg->oE l.prog w (K w.params) mg base Gs k fa fd [x] (jV (K w.params) 1 f)) :
  PySem.W.WalkO q loose XP YP l.row.toRowW d [] (λf vs=>PySem.call f vs):=by
 refine M6 hn hdf λw s₀ s₁ mg mb fa o pm cd doc a vs ns G Y ho hd hcd hmg hobj hints hlen VF hg=>?_;have KX:=hY w _ Y;obtain⟨fd,hb,hF⟩:=F w mg fa _ KX G.T.g hmg;refine abl KX G.T.g G.T.b G.T.builtins G.T.nolimit hg hobj hints (Qqj hlen hn2) hr hF hb (λH hO hS=>?_) λH e s' z=>z;refine⟨H,[.arr (ns.map .int)],.bl true,rfl,aV.refl H,⟨_,_,rfl,⟨by grind,a,_,rfl,hS,?_⟩,rfl⟩,hf ns hlen VF,λv H' F' _ _ _ _ p=>p⟩;clear hints hlen VF hS
 induction ns with
 | nil=>exact rfl
 | cons m ns ih=>exact⟨_,_,rfl,rfl,ih⟩
section
variable{K:Fg}{h:Heap}{mg:Str->Option Value}
theorem funAt{st:Stmt}{od an:Option Addr}{kV doc pm cdv ct:Value}(X:K.In h)(G:h.Ns mainGlobals mg)
  (a:PySem.W.nsIn K mainGlobals x=some (some (.ref f))) (l:K.lookup f=some ⟨oc,od,.func (PySem.W.fnOf x x (j8 st) (fU st) (aJ st) .none kV doc pm an cdv ct),osl⟩)
  (c:PySem.W.codeIn K cdv x=true) (k:PySem.W.keepIn K (.ref f)=true)
  (b:∀kV doc pm an cdv ct us,us.length=ps.length->bindArgs (PySem.W.fnOf x x (j8 st) (fU st) (aJ st) .none kV doc pm an cdv ct) ⟨us,[]⟩=pure (ps.zip us)):bW K mg x st ps:=
 ⟨f,_,Ud l c k,Qj1 X G a,(Ud l c k).binds b⟩
theorem VG(X:K.In h)(G:h.Ns mainGlobals mg)(a:PySem.W.nsIn K mainGlobals x=some (some (.str s t)))(hs:s=strOf z)(hz:z.length<=sizeLine):Rk K mg x (.str z):=
 ⟨.str s,_,Qj1 X G a,⟨t,rfl⟩,λF=>⟨by rw[hs],hz⟩⟩
inductive Cst (K:Fg):D->V->Value->Prop where
 | str {s:Str} {z:List Nat} {t:Tok} (hs:s=strOf z) (hz:z.length<=sizeLine):Cst K (.str z) (.str s) (.str s t)
 | int {i:Int} {t:Tok}:Cst K (.int i) (.int i) (.int i t)
theorem Cst.rel(c:Cst K d v u):RelV v u:=by cases c<;>exact⟨_,rfl⟩
theorem Cst.rep(c:Cst K d v u)(F):Rep K F d v:=by
 cases c with
 | str hs hz=>exact⟨by rw[hs],hz⟩
 | int=>exact rfl
theorem Qu(X:K.In h)(G:h.Ns mainGlobals mg)(e:PySem.W.nsIn K mainGlobals x=some (some (.ref a)))
  (l:K.lookup a=some ⟨.type "tuple",none,.seq #[u1,u2] n,sl⟩) (c1:Cst K d1 v1 u1) (c2:Cst K d2 v2 u2):Rk K mg x (.tup [d1,d2]):=
 ⟨.ref a,_,Qj1 X G e,rfl,λF=>⟨by show 2<=sizeLine;decide,a,[v1,v2],rfl,.inr ⟨_,_,_,l,rfl,rfl,rfl,by show 2<=sizeLine;decide,.cons c1.rel<|.cons c2.rel .nil⟩,_,_,rfl,c1.rep F,_,_,rfl,c2.rep F,rfl⟩⟩
theorem uD(X:K.In h)(G:h.Ns mainGlobals mg)(e:PySem.W.nsIn K mainGlobals x=some none):mg x=none:=PySem.W.mg_none_of X G e
end
open PySem L2
theorem xE(P:Env->Prop):∀ds,(∀d∈ds,∀env,P env->∃e1 e2,g d env=some e1/\b e1 = .nx e2/\P e2)->∀env,P env->∃e',lV g b ds env = .nx e'/\P e'
 | [],_,env,hp=>⟨env,rfl,hp⟩
 | d::ds,h,env,hp=>by
  obtain⟨e1,e2,h1,h2,h3⟩:=h d (Qq3 ..) env hp;obtain⟨e',h4,h5⟩:=xE P ds (λd' hd=>h d'<|Qqy _ hd) e2 h3;refine⟨e',?_,h5⟩;unfold lV
  simp_all
theorem V0(P:List D->Env->Prop)(h:∀done d rest,all=done++d::rest->∀env,P done env->∃e1 e2,g d env=some e1/\b e1 = .nx e2/\P (done++[d]) e2):∀ds done,all=done++ds->∀env,P done env->∃e',lV g b ds env = .nx e'/\P all e'
 | [],done,ha,env,hp=>⟨env,rfl,by simp_all⟩
 | d::ds,done,ha,env,hp=>by
  obtain⟨e1,e2,h1,h2,h3⟩:=h done d ds ha env hp;obtain⟨e',h4,h5⟩:=V0 P h ds (done++[d]) (by simp_all) e2 h3;refine⟨e',?_,h5⟩;unfold lV
  simp_all
theorem jR(all)(P:List D->Env->Prop)(h:∀done d rest,all=done++d::rest->∀env,P done env->∃e1 e2,g d env=some e1/\b e1 = .nx e2/\P (done++[d]) e2)(env)(h0:P [] env):∃e',lV g b all env = .nx e'/\P all e':=V0 P h all [] rfl env h0
theorem aL(h:a env = .nx e):aF a b env=b e:=by unfold aF;rw[h]
theorem jU(h:a env = .rt o d e):aF a b env = .rt o d e:=by unfold aF;rw[h]
theorem jl(h:it env = .ok ds e):gU it g b env=lV g b ds e:=by unfold gU;rw[h];rfl
theorem bY(h:a env = .ok d e)(h':g d e=some e'):aX a g env = .nx e':=by unfold aX;rw[h];show HY (g d e)=_;rw[h'];rfl
theorem iQ(h:t env = .ok true e):cJ t a b env=a e:=by unfold cJ;rw[h];rfl
theorem fK(h:t env = .ok false e):cJ t a b env=b e:=by unfold cJ;rw[h];rfl
theorem cP(h:a env = .ok d e):aY a env = .rt false d e:=by unfold aY;rw[h];rfl
theorem bz(h:a env = .ok ds e)(h':g ds=some d):az g a env = .ok d e:=by unfold az;rw[h];show fG (g ds) e=_;rw[h'];rfl
theorem cD(h1:a env = .ok x e1)(h2:b e1 = .ok y e2)(h3:g x y=some d):aN g a b env = .ok d e2:=by
 unfold aN;rw[h1];show bindR (b e1) _=_;rw[h2];show fG (g x y) e2=_;rw[h3]
 rfl
theorem bM(h1:env[i]? = some (some (o',x0)))(h2:b env = .ok y e2)(h4:e2[i]? = some (some (o,x)))(h3:g x y=some d):ao g i b env = .ok d e2:=by
 unfold ao;rw[h1];show bindR (b env) _=_;rw[h2];show(match e2[i]? with|some (some (_,x))=>fG (g x y) e2|_=>.stuck)=_;rw[h4];show fG (g x y) e2=_;rw[h3]
 rfl
theorem aR(h1:a env = .ok d e1)(h2:r e1 = .ok ds e2):aa a r env = .ok (d::ds) e2:=by
 unfold aa;rw[h1];show bindR (r e1) _=_;rw[h2]
 rfl
theorem cu:aj env = .ok [] env:=rfl
theorem ab5(h:r env = .ok ds e)(hz:ds.length<=sizeLine):dF r env = .ok (.lst ds) e:=by
 unfold dF;rw[h];show(if ds.length<=sizeLine then _ else _)=_
 simp_all
theorem o5(h:r env = .ok ds e)(hz:ds.length<=sizeLine):cI r env = .ok (.tup ds) e:=by
 unfold cI;rw[h];show(if ds.length<=sizeLine then _ else _)=_
 simp_all
theorem gm(h0:env[i]? = some (some (true,x0)))(h1:a env = .ok ds e1)(h2:e1[i]? = some (some (true,x)))(h3:f (x::ds)=some (d,x')):dM f i a env = .ok d (e1.set i (some (true,x'))):=by
 unfold dM;rw[h0];show bindR (a env) _=_;rw[h1];show(match e1[i]? with|some (some (true,x))=>(match f (x::ds) with|some (d,x')=>R.ok d (e1.set i<|some (true,x'))|none=>R.stuck)|_=>R.stuck)=_
 simp_all
theorem VL(h:mV i j=true):uF (.int i) (.int j)=some (.int (i*j)):=by
 show gI mV (λi j=>D.int<|i*j) (.int i) (.int j)=_;unfold gI
 simp_all
theorem QG(h:a.length+b.length<=sizeLine):cA (.lst a) (.lst b)=some (.lst (a++b)):=by show(if a.length+b.length<=sizeLine then _ else _)=_;rw[if_pos h]
theorem jw(h:a env = .ok (.bl b) e):cX a env = .ok b e:=by unfold cX;rw[h];rfl
theorem BX(h:a env = .ok d e):gr i a env = .nx (e.set i (some (true,d))):=by unfold gr;rw[h];rfl
theorem Mx(h:a env = .ok d e)(h':itD d=some ds):iD a env = .ok ds e:=by unfold iD;rw[h];show fG (itD d) e=_;rw[h'];rfl
theorem jB(h:ev (xH n x r) = .rt false d env)(h0:env[0]? = some (some (true,x'))):lE n ev (x::r)=some (d,x'):=by
 unfold lE
 simp_all
theorem fD(h:ev (envOf n ds) = .rt false d env):cj n ev ds=some d:=by unfold cj;rw[h]
theorem ae4(h:a env = .ok (.bl true) e):gw a b env=b e:=by unfold gw;rw[h];rfl
theorem JP(h:a env = .ok b e):cZ a env = .ok (!b) e:=by unfold cZ;rw[h];rfl
theorem Vs(P:Env->Prop)(f):∀ds env,P env->(∀d∈ds,∀env,P env->∃e1 e2,g d env=some e1/\e e1 = .ok (f d) e2/\P e2)->∃env',uJ g cR e ds env = .ok (ds.map f) env'/\P env'
 | [],env,hp,_=>⟨env,rfl,hp⟩
 | d::ds,env,hp,h=>by
  obtain⟨e1,e2,h1,h2,h3⟩:=h d (Qq3 ..) env hp;obtain⟨e3,h4,h5⟩:=Vs P f ds e2 h3 λd' hd=>h d'<|Qqy _ hd;refine⟨e3,?_,h5⟩;unfold uJ;rw[h1];show bindR (e e1) _=_;rw[h2];show bindR (uJ g cR e ds e2) _=_;rw[h4]
  rfl
theorem uy{lo n:Nat}(h1:it env = .ok ds aG)(hl:aG.length=lo)(h2:uJ g c e ds (aG++List.replicate (n - lo) none) = .ok ys dD)(hz:ys.length<=sizeLine):fM lo n it g c e env = .ok (.lst ys) (dD.take lo):=by
 unfold fM;rw[h1];show(if aG.length=lo then _ else _)=_;rw[if_pos hl,h2];show(if ys.length<=sizeLine then _ else _)=_
 simp_all
theorem dig(n)(m)(hm:0<m):∃d:Nat,d<m/\n % m=(d:Int):=by have h1:0<=n % m:=Int.emod_nonneg n (by omega);have h2:n % m<m:=Int.emod_lt_of_pos n (by omega);exact⟨(n % m).toNat,by omega,by omega⟩
theorem M9{α:Type}{xs:List α}(h:d<xs.length):qF xs d=some xs[d]:=lY<|Qq6 h
end Ev
namespace L2
open PySem PySem.Spec PyProof.Rows
section
variable{X:Cx}{pins:List (Addr×Obj)}{σ:St}{H:Hp}{s:Shared}{h':Heap}
theorem Inv.drawn{ch:List Addr}{T:Addr}(I:Inv X pins σ H s)(hch:∀b∈ch,o8 X pins H b)(k:∀b u,b ∉ ch->s.heap.get? b=some u->h'.get? b=some u)(hT:s.heap.objs.size<=T)
  (new:iV X.prog X.w (upd H T o) h' T o):Inv X pins σ (upd H T o) { s with heap:=h',toks:=t' }:=by
 have nT:=I.hok.fresh hT;have nit:∀b u,H b=some u->b ∉ ch:=λb u e z=>by rw[(hch b z).1] at e;cases e
 have up:∀b u,H b=some u->upd H T o b=some u:=λb u e=>by rw[cz (gq e nT)];exact e
 refine I.step (λb hb=>?_) (λb u _ _ hc e _=>k b u hc e) (λb u _ _ hc e _=>⟨u.slots,k b u hc e⟩) (λb u hc e n=>?_)
  (λb u hc e=>⟨u,k b u hc e⟩) (λb xs e=>up b _ e) (λb u v e=>up b _ e) (λb ps e=>⟨#[],by simp_all⟩) (λm hm=>?_) (λb u e=>?_) I.bare (λb qs e=>up b _ e)
 ·obtain⟨h0,h1,h2,h3,h4,h5⟩:=hch b hb
  grind
 ·have hb:b≠T:=λz=>by
   subst z;exact absurd (Qq0 e)<|Nat.not_lt.mpr hT
  rw[cz hb];exact n
 ·obtain⟨u,es,ep,ho,r⟩:=hm;have hL:=λz=>(hch _ z).2.1 rfl;exact⟨u,es,ep,k _ u hL ho,r⟩
 ·by_cases hb:b=T
  ·subst hb;rw[bC] at e
   simp_all
  ·rw[cz hb] at e;refine(I.hok b u e).stay (λc v hc q=>k c v ?_ q) (λc q=>up _ _ q) (λc xs q=>up _ _ q) λc _ _ _ _ q=>up _ _ q
   grind
theorem Inv.Kp{ch:List Addr}(I:Inv X pins σ H s)(hch:∀b∈ch,o8 X pins H b)(k:∀b u,b ∉ ch->s.heap.get? b=some u->h'.get? b=some u):Inv X pins σ H { s with heap:=h',toks:=t' }:=by
 have nit:∀b u,H b=some u->b ∉ ch:=λb u e z=>by rw[(hch b z).1] at e;cases e
 refine I.step (λb hb=>?_) (λb u _ _ hc e _=>k b u hc e) (λb u _ _ hc e _=>⟨u.slots,k b u hc e⟩) (λb u hc e n=>n)
  (λb u hc e=>⟨u,k b u hc e⟩) (λb xs e=>e) (λb u v e=>e) (λb ps e=>⟨#[],by rw[e];simp⟩) (λm hm=>?_) (λb u e=>?_) I.bare
 ·obtain⟨h0,h1,h2,h3,h4,h5⟩:=hch b hb
  grind
 ·obtain⟨u,es,ep,ho,r⟩:=hm;have hL:=λz=>(hch _ z).2.1 rfl;exact⟨u,es,ep,k _ u hL ho,r⟩
 ·refine(I.hok b u e).stay (λc v hc q=>k c v ?_ q) (λ_ q=>q) λ_ _ q=>q
  grind
end
def Ite(z:Str):It:=⟨λi _=>i<z.cps.size,λi H x H'=>∃p c,z.cps[i]? = some c/\H p=none/\H'=upd H p (.tup [.int i,.str ⟨#[c]⟩])/\x = .ref p,λi _=>i=z.cps.size⟩
theorem Ht{P:Program}{w:World}{K:PySem.W.Frag}{elts:List Expr}{k:Nat}{pos:Pos}(e it:Addr)(z:Str)(t:Tok)(ty:String)(hei:e≠it)
  (D:∀A:Around,A.handled=none->Draws P w A it [it] z.cps.size (λi v=>∃c u,z.cps[i]? = some c/\v = .str ⟨#[c]⟩ u) (λi h=>h.IsStrIter it ty z t i)) :
  Turn P w K (.Tuple elts k pos) (Ite z) [e,it] e (λi h=>(∃old,IsEnum h e it i old)/\h.IsStrIter it ty z t i) where
 mem:=by simp
 obj:=λi h st b hb=>by
  obtain⟨⟨old,he⟩,o,ho,hc,hd⟩:=st
  grind
 keep:=λi h h' st kk=>by
  obtain⟨⟨old,he⟩,o,ho,r⟩:=st;exact⟨⟨old,kk e (by simp) _ he⟩,o,kk it (by simp) o ho,r⟩
 item:=by
  intro X hP hw hK hc i pins s σ H E I hf st hg;subst hP hw hK;obtain⟨⟨old,he⟩,hit⟩:=st;refine wpAny_pyNext_enum_itemD (A:=X.A) (D X.A.in1<|I.ok.hd hc) he hit hg hei (by simp[hei]) λx h' tk hv ho hSt aoT hsz hk=>?_;obtain⟨c,u,hcz,rfl⟩:=hv;have hT:s.heap.objs.size<=s.heap.objs.size:=Qqv _;have helt:e<s.heap.objs.size:=Qq0 he;have hilt:it<s.heap.objs.size:=by obtain⟨_,x,_⟩:=hit;exact Qq0 x
  have nT:H s.heap.objs.size=none:=I.hok.fresh hT;refine⟨_,rfl,?_⟩;refine wpAny_letOwnedTupleGo_enum (s:={ s with heap:=h',toks:=tk+1 }) ho λh'' aq3 hs''=>?_;have oX:∀b o,b≠e->h'.get? b=some o->h''.get? b=some o:=λb o hb q=>(hs''.2 b hb).trans q;have hnT:s.heap.objs.size ∉ [e,it]:=λhb=>by
   grind
  refine⟨.ref s.heap.objs.size,upd H s.heap.objs.size<|.tup [.int i,.str ⟨#[c]⟩],I.drawn (t':=tk+1) (ch:=[e,it]) hf (λb o hb q=>oX b o (λz=>hb (by simp[z]))<|hk b o (λz=>hb (by simp[z])) (λz=>hb (by simp[z])) q) hT ?_,rfl,⟨_,c,hcz,nT,rfl,rfl⟩,⟨⟨_,by assumption⟩,?_⟩,λb hb=>?_⟩
  ·exact⟨by show 2<=sizeLine;decide,[.int i tk,.str ⟨#[c]⟩ u],.cons ⟨_,rfl⟩<|.cons ⟨_,rfl⟩ .nil,_,oX _ _ (Qz5 helt) aoT,rfl,⟨_,rfl⟩,rfl⟩
  ·obtain⟨o,q,r⟩:=hSt;exact⟨o,oX it o hei.symm q,r⟩
  ·have hne:b≠s.heap.objs.size:=λz=>by
    simp_all
   rw[cz hne];exact(hf b hb).1
 done:=by intro X hP hw hK hc i pins s σ H E I hf st hg;subst hP hw hK;have W:=WalksT.enumerateD (A:=X.A) (D X.A.in1<|I.ok.hd hc) e hei (by simp[hei]) (by simp);have hg':i=z.cps.size:=hg;subst hg';exact W.done s _ _ st λh' tk hk=>⟨rfl,I.Kp (t':=tk) (ch:=[e,it]) hf λb o hb e=>hk b o hb e⟩
 self:=λA i s Q E st h=>by
  obtain⟨⟨old,he⟩,_⟩:=st;exact wpAny_pyIter_enum he h
section
variable{X:Cx}{tg:Expr}
def amu(ta:TA):TI:=λσ H R=>ta σ H λvs H1=>∃z,vs=[.str z]/\R (Ite z) H1
theorem adT(hg:Gl X "enumerate")(hm:X.mg "enumerate" = none)(ha:PA X [a] ta)(hs:starEach [a] X.env=[(false,eval a X.env)]:=by rfl):PI X (.Tuple elts k tp) (.Call (.Name "enumerate" p) [a] [] pos) (amu ta):=by
 intro pins s σ H R I h;refine Call_<|qT I hg hm PyProof.Rows.boot_enumerate<|Qxz (fC (ha pos pins s σ H _ I h) λus s1 ⟨vs,H1,I1,r1,q1⟩=>?_) hs rfl;obtain⟨z,e,q⟩:=q1;subst e;cases r1 with
 | cons r rr=>
  cases rr;obtain⟨t,rfl⟩:=r;refine call_enumerate_str λh' he hit hsz hk=>?_;refine wpAny_pyIter_enum he ?_;have I2:Inv X pins σ H1 { s1 with heap:=h' }:=I1.kept hk;have own:∀b ∈ [s1.heap.objs.size+1,s1.heap.objs.size],o8 X pins H1 b:=λb hb=>by
   rcases Qq8.mp hb with rfl|hb
   ·exact I1.Ue (Nat.le_succ _)<|I1.hok.fresh<|Nat.le_succ _
   ·rw[Qq9.mp hb];exact I1.Ue (Qqv _)<|I1.hok.fresh<|Qqv _
  cases hz:z.cps.all (·< 128)
  ·have hit':h'.IsStrIter s1.heap.objs.size "str_iterator" z t 0:=by simpa[strIterType,hz] using hit
   exact⟨s1.heap.objs.size+1,[s1.heap.objs.size+1,s1.heap.objs.size],_,_,H1,rfl,I2,Ht _ _ z t "str_iterator" (Nat.succ_ne_self _) (λA hA=>Draws.strWide hA _ z t),⟨⟨_,he⟩,hit'⟩,own,q⟩
  ·have hit':h'.IsStrIter s1.heap.objs.size "str_ascii_iterator" z t 0:=by simpa[strIterType,hz] using hit
   exact⟨s1.heap.objs.size+1,[s1.heap.objs.size+1,s1.heap.objs.size],_,_,H1,rfl,I2,Ht _ _ z t "str_ascii_iterator" (Nat.succ_ne_self _) (λA hA=>Draws.strAscii hA _ z t),⟨⟨_,he⟩,hit'⟩,own,q⟩
end
open PySem PySem.Spec PyProof.Rows PySem.Builtin PySem.Builtin.Str
section
variable{X:Cx}{pins:List (Addr×Obj)}{σ:St}{H:Hp}{s:Shared}{a:Addr}{xs:List V}
theorem Inv.agz(I:Inv X pins σ H s)(h:mQ X.K H a xs):∃its,Vals xs its/\Gk s.heap a its.toArray:=by
 rcases h with h|⟨o,its,n,hk,hc,hdn,hs,hz,r⟩
 ·obtain⟨z,its,r,p⟩:=h.ok I.hok;exact⟨its,r,p⟩
 ·exact⟨its.toList,r,⟨o,I.XX a o hk,hc,⟨n,by simpa using hs⟩,hdn⟩⟩
end
section
variable{X:Cx}{o e:Expr}{to te:TE}{name:Str}{apos cpos:Pos}{id:String}{r:V->List V->Hp->VK->Prop}{t:TA}
def afR:R2:=λx y H Q=>∃z k,x = .str z/\y = .int (k:Nat)/\2<=k/\0<z.length/\z.length*k<=sizeLine/\Q (.str ⟨(List.replicate k z.cps.toList).flatten.toArray⟩) H
theorem QJ(c):∀k (acc:Array Nat),(List.replicate k c).foldl (·++ ·) acc=⟨acc.toList++(List.replicate k c.toList).flatten⟩
 | 0,acc=>by simp
 | k+1,acc=>by
  rw[List.replicate_succ,Qz9,QJ c k,List.replicate_succ];simp
theorem ad2:nu X (binaryOp .Mult) afR:=by
 intro pins s σ H x y v u Q I rx ry h;obtain⟨z,k,rfl,rfl,hk2,hz0,hz,q⟩:=h;obtain⟨t,rfl⟩:=rx;obtain⟨t',rfl⟩:=ry;have hn:=vV;have aq0:=Qqj (Nat.le_mul_of_pos_left k hz0) hz;have c1:¬((k:Int)<1):=by omega
 have c2:((k:Int) == 1||z.length == 0)=false:=by grind
 have arn:(⟨(List.replicate k z.cps.toList).flatten.toArray⟩:Str).length=z.length*k:=by show(List.replicate k z.cps.toList).flatten.toArray.size=_;rw[Qq5,len_rep,Qx7];exact Nat.mul_comm _ _
 refine PySem.P.mul_str ?_ (λ_ _=>?_) (λ_ _=>?_) ?_
 ·grind
 ·intro hgt;have:z.length<=(2^63 - 1) / (k:Int):=by
   refine Int.le_ediv_of_mul_le (by omega) ?_;omega
  omega
 ·rw[Qxw];show decide (_ > _)=false
  simp_all
 ·rw[if_neg c1,if_neg (by simp_all),Qxw,QJ];have e0:⟨(#[]).toList++(List.replicate k z.cps.toList).flatten⟩=(List.replicate k z.cps.toList).flatten.toArray:=by simp
  rw[e0];exact⟨by omega,⟨.str ⟨(List.replicate k z.cps.toList).flatten.toArray⟩,H,I.tok _,⟨_,rfl⟩,q⟩⟩
def an0(te ts:TE):TE:=λσ H Q=>te σ H λx H1=>ts σ H1 λy H2=>∃z,x = .str z/\z.length<=sizeLine/\y = .int (-1)/\Q (.str ⟨z.cps.toList.reverse.toArray⟩) H2
theorem S7(z)(u):(⟨((slicePicked z none none (some (-1,u))).filterMap (z.cps[·]?)).toArray⟩:Str)=⟨z.cps.toList.reverse.toArray⟩:=by
 have h:=PyProof.Rows.step_rev_list z u;unfold Txt.sliceBy at h;have h1:¬(((((some ((-1),u)).map (·.1)).getD 1 == 1)&&((slicePicked z none none<|some (-1,u)).length == z.length))=true):=by have:((((some ((-1),u)).map (·.1)).getD 1 == 1))=false:=rfl;rw[this];simp
 rw[if_neg h1] at h;have h2:((slicePicked z none none<|some (-1,u)).filterMap (z.cps[·]?))=z.cps.toList.reverse:=by
  have h3:((slicePicked z none none<|some (-1,u)).filterMap (z.cps[·]?))=(List.range z.length).map λk=>z.cps.getD (z.length - 1 - k) 0:=by simpa using h
  rw[h3];apply List.ext_getElem
  ·simp[Str.length]
  ·intro i h4 h5;have hi:i<z.cps.size:=by simpa[Str.length] using h4
   simp[Str.length,Array.getD,List.getElem_reverse];rw[dif_pos (by omega)]
 rw[h2]
theorem ahj{st:Expr}(he:PE X e te)(hst:PE X st ts):PE X (.Subscript e (.Slice none none (some st) p2) pos) (an0 te ts):=by
 intro pins s σ H Q I h;refine Subscript_<|fC (he pins s σ H _ I h) λv s1 ⟨x,H1,I1,r1,q1⟩=>?_;refine wpAny_Slice ?_;rw[evalPart_none,evalPart_some];refine Qqk<|Qqk<|fC (hst pins s1 σ H1 _ I1 q1) λw s2 ⟨y,H2,I2,r2,q2⟩=>?_;obtain⟨z,ex,hz,ey,q⟩:=q2;subst ex;subst ey;obtain⟨t,rfl⟩:=r1;obtain⟨t',rfl⟩:=r2;have I4:Inv X pins σ H2 { s2 with heap:=s2.heap.push { cls:=.type "slice",data:=.fields #[.none,.none,.int (-1) t'] } }:=I2.kept λb ob q=>Qqx _ q;show wpAny (model X.prog X.w) X.A (subscriptTail e (.Slice none none (some st) p2) (.str z t)<|.ref s2.heap.objs.size) (EP X pins σ Q) X.xe { s2 with heap:=s2.heap.push { cls:=.type "slice",data:=.fields #[.none,.none,.int (-1) t'] } };refine tail_any (typeIs_str _ z t) PySem.F.slot_str_getitem.lookup ?_ (by with_unfolding_all rfl);refine wpAny_getItem_str_slice (l:=none) (u:=none) (st:=some (-1,t')) ⟨_,Qq4 _ rfl,rfl,rfl⟩ rfl ?_;unfold sliceMade;have h1:¬(((((some ((-1:Int),t')).map (·.1)).getD 1 == 1)&&((slicePicked z none none<|some (-1,t')).length == z.length))=true):=by have:((((some ((-1:Int),t')).map (·.1)).getD 1 == 1))=false:=rfl;rw[this];simp
 rw[if_neg h1,S7];refine⟨?_,⟨.str ⟨z.cps.toList.reverse.toArray⟩,H2,I4.tok _,⟨_,rfl⟩,q⟩⟩;show z.cps.toList.reverse.toArray.size<=sizeLine
 simpa[Str.length] using hz
end
end L2
namespace Ev
open PySem PySem.Spec PyProof.Rows L2 PySem.Builtin
section
variable{X:Cx}{C:Cfg}{pos:Pos}{e x y:Expr}{a b:Ev}
noncomputable def rR:D->Option D
 | .int i=>some (.int (-i))
 | _=>none
theorem agx:UnD C (rU λi=>.int (-i)) rR:=by
 intro Pr F env σ H x d vx Q r px e q;cases x with
 | int i=>cases e;exact⟨i,px.int,q _ H F r (aV.refl F) rfl⟩
 | _=>cases e
noncomputable def VM:D->D->Option D
 | .str z,.int i=>if 2<=i/\0<z.length/\z.length*i.toNat<=sizeLine then some (.str (List.replicate i.toNat z).flatten) else none
 | _,_=>none
theorem ad9:qg C afR VM:=by
 intro Pr F env σ H x y d vx vy Q r px py e q;unfold VM at e;split at e
 ·rename_i z i;split at e
  ·rename_i hc;cases e;obtain⟨rfl,_⟩:=px.str;cases py.int;have hl:=nZ z;refine⟨strOf z,i.toNat,rfl,by rw[Int.toNat_of_nonneg (by omega)],by omega,by rw[hl];exact hc.2.1,by rw[hl];exact hc.2.2,?_⟩;refine q _ H F r (aV.refl F) ⟨by simp[strOf],?_⟩;have:=len_rep z i.toNat;rw[this,Nat.mul_comm];exact hc.2.2
  ·cases e
 ·cases e
theorem ajT:Bi X C .Mult VM:=⟨_,ad2,ad9⟩
noncomputable def ajj:D->Option D
 | .str z=>some (.str z.reverse)
 | _=>none
def rJ(a:Ev):Ev:=λenv=>bindR (a env) λd aG=>fG (ajj d) aG
noncomputable def uO(x:List Nat):List D:=x.zipIdx.map λp=>.tup [.int (p.2:Nat),.str [p.1]]
def Uh(a:dq):dq:=λenv=>bindR (a env) λds aG=>match ds with
 | [.str x]=>.ok (uO x) aG
 | _=>.stuck
end
theorem XN
  (hx:s.heap.get? a=some o) (hc:o.cls = .type "tuple") (hdat:o.data = .seq xs k) (hd:o.dict=none) (hA:A.handled=none)
  (h:∀h' tk,(∀b u,s.heap.get? b=some u->h'.get? b=some u)->Q none { s with heap:=h',toks:=tk }):wpAny (model prog w) A (getAttr? (.ref a) "keys") Q E s:=by
 obtain⟨hp,g,d,tk,os⟩:=s;obtain⟨oc,od,dt,sl⟩:=o;cases hc;cases hdat;cases hd;have hT:∀tk',(⟨hp,g,d,tk',os⟩:Shared).TypeIs (.ref a) "tuple":=λ_=>⟨_,hx,rfl⟩;have f1:=sub_AttributeError;have f3:=F.slot_tuple_getattribute.lookup;have f4:=F.slot_tuple_getattribute.bind<|.ref a;have f5:=am_tuple_getattr_none;have hmiss:typeLookup (.type "tuple") "keys" = pure none:=by rfl
 unfold getAttr? getAttrBy? getAttrBy
 repeat (any_goals (first|assumption|exact hT _|((with_reducible show wpAny _ _ (call (Value.builtin "tuple.__getattribute__") _ _) _ _ _);refine call_meets F.slot_tuple_getattribute (hT _) am_entry_tuple_getattribute (F.args_tuple_getattribute_2 _ _) (meets_getattribute_miss_tuple a xs k sl "keys" _ hmiss (by rfl) (by decide +kernel)) ⟨hx,hA,λh' tk' e hx'=>?_⟩)|wp_step))
 obtain⟨t',u',he⟩:=hx'.there;show wpAny _ _ (getattributeRaised _ _ _ _ _ _ _) _ _ _;unfold getattributeRaised
 repeat (any_goals (first|assumption|wp_step))
 exact h _ _ hx'.keeps
structure Pr where
 p:Addr
 k:Key
 kv:Value
 v:Value
def acC(h:Heap)(r:Pr):Prop:=h.IsTuple r.p #[r.kv,r.v]/\Dw r.k r.kv=true
theorem acC.keep(x:acC h r)(n1:r.p≠c)(n2:r.p≠d)(k:∀b o,b≠c->b≠d->h.get? b=some o->h'.get? b=some o):acC h' r:=
 let ⟨⟨o,ho,q⟩,y⟩:=x;⟨⟨o,k _ o n1 n2 ho,q⟩,y⟩
noncomputable def putAll(kvs:List (Key×Value))(rs:List Pr):List (Key×Value):=rs.foldl (λacc r=>stored acc r.k r.v) kvs
theorem lG:plainId "dict.update.loop" = true:=by decide +kernel
theorem tZ:entryFor table "dict.update.loop" = some Builtin.«dict.update.loop»:=entryFor_of_tree (by kernel_rfl)
theorem Nt{its:List Value}(hdi:d≠it)(hda:d≠a)(hia:it≠a):∀rs i kvs A R s,
  A.handled=none->its.drop i=rs.map (λr=>Value.ref r.p)->s.heap.IsTuple a its.toArray->s.heap.IsTupleIter it a i->s.heap.DictOf (cH prog w) d kvs->(∀r∈rs,acC s.heap r/\r.p≠d/\r.p≠it)->kvs.length+rs.length<=sizeLine->
  (∀h' tk,h'.DictOf (cH prog w) d (putAll kvs rs)->(∀b o,b≠d->b≠it->s.heap.get? b=some o->h'.get? b=some o)->R (.ok (.ret .none)) { s with heap:=h',toks:=tk })->
  wpAny (model prog w) A.in1 (Builtin.«dict.update.loop» ⟨[.ref d,.ref it,rawInt i,.none],[]⟩) (λfin s'=>match fin with|.done f=>R (.ok f) s'|.again c'=>c'.quiet=true/\codeAny (model prog w) A c' R s') (λe s'=>R (.error e) s') s
 | [],i,kvs,A,R,s,hh,hdr,ht,hit,hD,_,_,h=>by
  unfold Builtin.«dict.update.loop»;have hx:its.toArray[i]? = none:=by simp_all
  refine Qqq<|wpAny_pyNext_tuple_end hh hit ht hx λh' hex=>?_;show wpAny _ _ (Builtin.Dict.addKeywords d [] >>= _) _ _ _;refine Qqq<|Qqk<|Qqk ?_;exact h h' s.toks (hD.extBut hex hdi) λb o _ h2 e=>hex b o h2 e
 | r::rs,i,kvs,A,R,s,hh,hdr,ht,hit,hD,hrs,hz,h=>by
  unfold Builtin.«dict.update.loop»;obtain⟨⟨hpt,hkey⟩,n1,n2⟩:=hrs r<|Qq3 ..;have hlt:i<its.length:=by
   have:=Qzx List.length hdr
   grind
  have hx0:its[i]? = some (.ref r.p):=by
   have:=Qzx (λl=>l[0]?) hdr
   grind
  have hx:its.toArray[i]? = some (.ref r.p):=by simp_all
  have aoP:its.drop (i+1)=rs.map (λr=>Value.ref r.p):=by
   have:=Qzx List.tail hdr;rw[List.tail_drop] at this
   assumption
  refine Qqq<|wpAny_pyNext_tuple_item hit ht hx λh' hit' hs'=>?_;have k1:∀b o,b≠it->s.heap.get? b=some o->h'.get? b=some o:=λb o hb e=>(hs'.2 b hb).trans e;obtain⟨op,hop,hcp,np,hdp⟩:=hpt;have hop':=k1 _ _ n2 hop;dsimp only;refine Qqq<|Qjj<|Qqq<|wpAny_tryCatch ?_;unfold Builtin.Dict.pairItems;refine Qqq<|wpAny_typeOf ⟨op,hop',hcp⟩ ?_;rw[if_pos (by decide)];unfold seqItems?;refine Qqq<|Qqq<|wpAny_load hop' ?_;rw[hdp];refine Qqk<|Qqk ?_;show wpAny _ _ (holding [r.kv,r.v]<|dictSet d r.kv r.v) _ _ _;have hzk:kvs.length<=sizeLine:=by omega
  refine Qjj<|wpAny_dictSet_pairs hkey (hD.sameBut hs' hdi) λh'' aoX hs''=>?_;have k2:=λb o hb1 hb2 e=>(hs''.2 b hb1).trans<|k1 b o hb2 e;have hc:(i+1)=((i+1):Int):=by rfl
  rw[hc];refine Qqk ⟨plainId_quiet lG _,codeAny_builtin tZ ?_⟩;rw[Around.under_plainId lG _];have hln:(stored kvs r.k r.v).length<=kvs.length+1:=by have:=stored_length_le kvs r.k r.v;exact this
  refine Nt hdi hda hia rs (i+1) (stored kvs r.k r.v) A R _ hh aoP ?_ ?_ aoX (λq hq=>?_) (by grind) λh3 tk hD3 k3=>?_
  ·obtain⟨o,ho,q⟩:=ht;exact⟨o,k2 a o hda.symm hia.symm ho,q⟩
  ·obtain⟨o,ho,q⟩:=hit';exact⟨o,(hs''.2 it hdi.symm).trans ho,q⟩
  ·obtain⟨p1,p2,p3⟩:=hrs q<|Qqy _ hq;exact⟨p1.keep p2 p3 k2,p2,p3⟩
  ·exact h h3 tk hD3 λb o hb1 hb2 e=>k3 b o hb1 hb2<|k2 b o hb1 hb2 e
section
variable{X:Cx}{C:Cfg}{pos:Pos}
abbrev Pv:=Addr×Key×V
def o9(kvs:List (Key×V))(rs:List Pv):List (Key×V):=rs.foldl (λacc r=>putK acc r.2.1 r.2.2) kvs
def aap(K:Fg):List V->Hp->VK->Prop:=λxs H Q=>∃(a:Addr) (rs:List Pv),xs=[.ref a]/\mQ K H a (rs.map λr=>V.ref r.1)/\(∀r∈rs,mQ K H r.1 [kV r.2.1,r.2.2])/\rs.length<=sizeLine/\∀l,H l=none->Q (.ref l) (upd H l (.dK (o9 [] rs)))
theorem Pk{σ:L2.St}(I:L2.Inv X pins σ H s):∀rs us,Vals (rs.map λr=>V.ref r.1) us->(∀r∈rs,mQ X.K H r.1 [kV r.2.1,r.2.2])->∃ps,us=ps.map (λr=>Value.ref r.p)/\(∀r∈ps,acC s.heap r)/\Paired (λ(r:Pv) q=>r.2.1=q.k/\RelV r.2.2 q.v) rs ps
 | [],us,h,_=>by cases h;exact⟨[],rfl,λr hr=>by simp at hr,.nil⟩
 | r::rs,us,h,hp=>by
  cases h with
  | cons h1 h2=>
   cases h1;obtain⟨ps,rfl,q1,q2⟩:=Pk I rs _ h2 λr' hr=>hp r'<|Qqy _ hr;obtain⟨its,rv,ht,_⟩:=I.tuple<|hp r<|Qq3 ..;obtain⟨u1,u2,rfl,r1,r2⟩:=rv.two;refine⟨⟨r.1,r.2.1,u1,u2⟩::ps,rfl,λq hq=>?_,.cons ⟨rfl,r2⟩ q2⟩;rcases Qq8.mp hq with rfl|hq
   ·exact⟨ht,xg (P:=X.prog) (w:=X.w) r1⟩
   simp_all
theorem HD:∀{rs} {ps} {kvs} {vs},Paired (λr q=>r.2.1=q.k/\RelV r.2.2 q.v) rs ps->KV kvs vs->KV (o9 kvs rs) (putAll vs ps)
 | _,_,_,_,.nil,h=>h
 | _,_,kvs,vs,.cons (a:=r) (b:=q) ⟨h1,h2⟩ hr,h=>by
  show KV (o9 (putK kvs r.2.1 r.2.2) _) (putAll (stored vs q.k q.v) _);refine HD hr ?_;rw[h1];exact h.put q.k h2
theorem zK:∀rs kvs,(o9 kvs rs).length<=kvs.length+rs.length
 | [],kvs=>Qqv _
 | r::rs,kvs=>by
  have h1:=zK rs<|putK kvs r.2.1 r.2.2;have h2:=tH kvs r.2.1 r.2.2;show(o9 (putK kvs r.2.1 r.2.2) rs).length<=_
  grind
theorem Yy(hc:X.calm=true):jL X (.type "dict") (aap X.K):=by
 intro pins s σ H xs us Q I r h;obtain⟨a,rs,rfl,hq,hp,hz,q⟩:=h;obtain⟨u,rfl,rx⟩:=vals1 r;cases rx;obtain⟨its,rv,ob,h1,h2,⟨n,h3⟩,h4⟩:=I.agz hq;obtain⟨ps,rfl,hps,hpr⟩:=Pk I rs its rv hp;have hA:=I.ok.hd hc;have hlt:=Qq0 h1;refine callType_codes (Q₁:=λobj s₁=>obj = .ref s.heap.objs.size/\s₁ = { s with heap:=s.heap.push { cls:=.type "dict",data:=.dict #[] } }) F.kt_called_dict (F.kt_typeCall_dict_1 _) F.entry_dict_init (kt_code_dict_new _ ⟨rfl,rfl⟩) ?_;rintro obj s₁ ⟨rfl,rfl⟩;have hnew:(s.heap.push { cls:=.type "dict",data:=.dict #[] }).DictOf (cH X.prog X.w) s.heap.objs.size []:=Heap.DictOf.new s.heap;have k0:∀b o,s.heap.get? b=some o->(s.heap.push { cls:=.type "dict",data:=.dict #[] }).get? b=some o:=λb o e=>Qqx _ e;refine⟨hnew.typeIs,F.args_dict_init_2 _ _,?_⟩;unfold Builtin.«dict.__init__»;refine Qqq ?_;unfold Builtin.Dict.selfAndRest;refine Qqq<|wpAny_notOrdered_dict hnew.typeIs ?_;show wpAny _ _ (pure (s.heap.objs.size,[Value.ref a])) _ _ _;refine Qqk ?_;show wpAny _ _ (Builtin.Dict.updateFrom "dict.__init__" s.heap.objs.size (.ref a) [] .none) _ _ _;unfold Builtin.Dict.updateFrom;refine Qqq<|wpAny_typeOf ⟨ob,k0 _ _ h1,h2⟩ ?_;rw[if_pos (by decide)];refine Qqq<|XN (k0 _ _ h1) h2 h3 h4 hA λh' tk hk=>?_;simp only[Option.isNone_none,if_true];refine Qqq<|wpAny_rule<|Qqq ?_;have hT:h'.IsTuple a (ps.map λr=>Value.ref r.p).toArray:=⟨ob,hk _ _<|k0 _ _ h1,h2,n,h3⟩;refine wpAny_pyIter_tuple hT ?_;refine Qqk ⟨plainId_quiet lG _,codeAny_builtin tZ ?_⟩;rw[Around.under_plainId lG _];have hD0:=hnew.keep hk;have ai5:s.heap.objs.size<h'.objs.size:=by obtain⟨o,_,_,ho,_⟩:=hD0;exact Qq0 ho
 have halt:=Qq0<|hk _ _<|k0 _ _ h1;have hda:=Qz5 hlt;refine Nt (Qwv ai5) hda (Qz5 halt) ps 0 [] X.A.in1 _ _ hA rfl ?_ ⟨_,Qq4 _ rfl,rfl,rfl⟩ (hD0.push _) (λq hq=>?_) ?_ λh3 tk' hD3 k3=>?_
 ·obtain⟨o,ho,r⟩:=hT;exact⟨o,Qqx _ ho,r⟩
 ·obtain⟨⟨o,ho,r⟩,y⟩:=hps q hq;have amw:=Qq0 ho;refine⟨⟨⟨o,Qqx _<|hk _ _<|k0 _ _ ho,r⟩,y⟩,Qwv amw,Qwv<|Nat.lt_trans amw ai5⟩
 ·rw[<-Paired.length hpr]
  simp_all
 ·refine⟨rfl,?_⟩;have kk:∀b u,s.heap.get? b=some u->h3.get? b=some u:=λb u e=>by
   have hb:b<s.heap.objs.size:=Qq0 e;exact k3 b u (Qwv hb) (Qwv<|Nat.lt_trans hb ai5)<|Qqx _<|hk _ _<|k0 _ _ e
  have hsys:(s.heap.objs.size == sysModules)=false:=by rw[Qxj];exact Qz5 I.big
  refine⟨.ref s.heap.objs.size,upd H s.heap.objs.size<|.dK<|o9 [] rs,I.laid kk (Qqv _) ⟨?_,hsys,_,HD hpr .nil,hD3⟩,rfl,q _<|I.hok.fresh<|Qqv _⟩;have:=zK rs []
  grind
def Vu:D->Option (D×D)
 | .tup [k,v]=>(rQ k).map λ_=>(k,v)
 | _=>none
noncomputable def qP:List D->Option (List (D×D))
 | []=>some []
 | d::ds=>match Vu d,qP ds with
  | some p,some r=>some (p::r)
  | _,_=>none
noncomputable def mU(kvs : List (D × D)) : List (D × D) → List (D × D)
  | [] => kvs
  | (k, v) :: r => (match rQ k with
    | some q => mU (putD kvs k q v) r
    | none => mU kvs r)
def uM:List D->Option D
 | [.tup ds]=>(qP ds).map λps=>.dct (mU [] ps)
 | _=>none
theorem sY:∀ps kvs,(mU kvs ps).length<=kvs.length+ps.length
 | [],kvs=>Qqv _
 | (k,v)::r,kvs=>by
  unfold mU;split
  ·rename_i q hq;have h1:=sY r<|putD kvs k q v;have h2:=Pg kvs k q v
   grind
  ·have h1:=sY r kvs
   grind
theorem CT:∀{ds} {ps},qP ds=some ps->ps.length=ds.length
 | [],ps,h=>by cases h;rfl
 | d::ds,ps,h=>by
  unfold qP at h;split at h
  ·rename_i p r h1 h2;cases h;rw[Qqw,Qqw,CT h2]
  ·cases h
theorem HJ{K:Fg}:∀{ds} {ps} {vs} {kvs} {ks},qP ds=some ps->bT K F ds vs->fH K F kvs ks->
  ∃rs,vs=rs.map (λr=>V.ref r.1)/\(∀r∈rs,mQ K F r.1 [kV r.2.1,r.2.2])/\fH K F (mU kvs ps) (o9 ks rs)
 | [],ps,vs,kvs,ks,h,hr,hk=>by cases h;cases hr;exact⟨[],rfl,λr hr=>by simp at hr,hk⟩
 | d::ds,ps,vs,kvs,ks,h,hr,hk=>by
  unfold qP at h;split at h
  ·rename_i p r h1 h2;cases h;obtain⟨v,w,rfl,p1,p2⟩:=hr;unfold Vu at h1;split at h1
   ·rename_i k x;obtain⟨q,hq,rfl⟩:=Qww.mp h1;obtain⟨_,a,us,rfl,h3,h4⟩:=p1;obtain⟨u1,w1,rfl,q1,u2,w2,rfl,q2,q3⟩:=h4;cases q3;cases abo hq q1;obtain⟨rs,rfl,g1,g2⟩:=HJ h2 p2<|hk.put hq q2;refine⟨(a,q,u2)::rs,rfl,λr hr=>?_,?_⟩
    ·grind
    ·unfold mU;rw[hq];exact g2
   ·cases h1
  ·cases h
theorem afd:CallD C (aap C.K) uM:=by
 intro Pr F env σ H ds d vs Q r p e q;unfold uM at e;split at e
 ·rename_i ds;obtain⟨v,w,rfl,p1,p2⟩:=p;cases p2;obtain⟨ps,e1,rfl⟩:=Qww.mp e;obtain⟨z,a,us,rfl,h1,h1F,h2⟩:=p1.tup r.fr;obtain⟨rs,rfl,g1,g2⟩:=HJ (kvs:=[]) e1 h2 rfl;have hl:rs.length=ds.length:=by
   have:=h2.length
   rwa [Qqz] at this
  refine⟨a,rs,rfl,h1,λr' hr=>aV.tupK r.fr<|g1 r' hr,by rw[hl];exact z,λl hlf=>?_⟩;obtain⟨F2,r2,s2,p2⟩:=(r.fresh hlf).keep (New.of (d:=.dct<|mU [] ps) r hlf ⟨by
   have h5:=sY ps [];rw[CT e1] at h5;exact Qqj h5 (by simpa using z),_,bC,g2⟩)
  exact q _ _ F2 r2 s2 p2
 ·cases e
end
end Ev
namespace L2
open PySem PySem.Spec PyProof.Rows PySem.Builtin PySem.Builtin.Str
section
variable{X:Cx}
def aao:R2:=λx y H Q=>∃a o,y = .ref a/\YX H a x o/\Q (.bl o.isSome) H
theorem aaU(hu:X.A.units+1<cLine):nu X (compareOp .In) aao:=by intro pins s σ H x y v u Q I rx ry h;obtain⟨a,o,rfl,g,q⟩:=h;cases ry;exact ao9 hu I g rx λs' I'=>⟨.bl o.isSome,H,I',rfl,q⟩
theorem Q3(v)(n d:Nat):max 0 (min (if v<0 then v+(n:Int) else v) n)=(HT.gP n d (some v)):=by
 show _=(((if v<0 then (v+n).toNat else min v.toNat n):Nat):Int)
 grind
theorem range_one(a b:Nat):sliceRange a b 1=List.range' a (b - a):=by
 unfold sliceRange;have h1:(1:Int) > 0:=by decide
 simp only[if_pos h1];have hc:(if a<(b:Int) then (b - (a:Int)+1 - 1) / 1 else 0).toNat=b - a:=by omega
 rw[hc,List.range'_eq_map_range]
 grind
theorem aaJ(lo hi)(n):strSliceIndices lo hi 1 n=List.range' (HT.gP n 0 lo) (HT.gP n n hi - HT.gP n 0 lo):=by
 have h1:1 > 0:=by decide
 unfold strSliceIndices;simp[if_pos h1];rw[<-range_one]
 congr 1
 ·cases lo with
  | none=>rfl
  | some v=>exact Q3 v n 0
 ·cases hi with
  | none=>rfl
  | some v=>exact Q3 v n n
theorem QK(c:List Nat):∀m a,a+m<=c.length->(List.range' a m).filterMap (c.toArray[·]?)=(c.drop a).take m
 | 0,a,_=>by simp
 | m+1,a,h=>by
  rw[List.range'_succ,List.filterMap_cons];have e:c.toArray[a]? = some c[a]:=by simp
  rw[e,QK c m (a+1) (by omega),Qx4 (i:=a) (by omega),List.take_succ_cons]
def xJ(z:List Nat)(lo hi:Option Int):List Nat:=(z.drop (HT.gP z.length 0 lo)).take (HT.gP z.length z.length hi - HT.gP z.length 0 lo)
def aol:V->Option Int->Option Int->Hp->VK->Prop:=λx lo hi H Q=>∃z:List Nat,x = .str ⟨z.toArray⟩/\z.length<=sizeLine/\Q (.str ⟨(xJ z lo hi).toArray⟩) H
theorem part_of(p:IsPart v o):∃l,v=partValue l/\l.map (·.1)=o:=by
 cases p with
 | none=>exact⟨none,rfl,rfl⟩
 | int i t=>exact⟨some (i,t),rfl,rfl⟩
theorem Z0:UL X aol:=by
 intro pins s σ H x v vl vu lo hi sl Q I rx hs pl pu h;obtain⟨z,rfl,hz,q⟩:=h;obtain⟨t,rfl⟩:=rx;obtain⟨l,rfl,el⟩:=part_of pl;obtain⟨u,rfl,eu⟩:=part_of pu;refine⟨"str",_,PySem.F.slot_str_getitem.lookup,typeIs_str s _ t,?_⟩;obtain⟨o,h1,h2,h3⟩:=hs;refine wpAny_getItem_str_slice (st:=none) ⟨o,h1,h2,h3⟩ rfl ?_;have hp:slicePicked ⟨z.toArray⟩ l u none=List.range' (HT.gP z.length 0 lo) (HT.gP z.length z.length hi - HT.gP z.length 0 lo):=by unfold slicePicked;rw[el,eu];show strSliceIndices lo hi 1 z.toArray.size=_;rw[Qq5,aaJ]
 have hle:HT.gP z.length 0 lo+(HT.gP z.length z.length hi - HT.gP z.length 0 lo)<=z.length\/HT.gP z.length z.length hi - HT.gP z.length 0 lo=0:=by have a1:=HT.Lf z.length 0 (Qxx _) lo;have a2:=HT.Lf z.length z.length (Qqv _) hi;omega
 have aoR:((slicePicked ⟨z.toArray⟩ l u none).filterMap ((⟨z.toArray⟩:Str).cps[·]?))=xJ z lo hi:=by
  rw[hp];unfold xJ;rcases hle with hle|hle
  ·exact QK z _ _ hle
  simp_all
 unfold sliceMade;split
 ·rename_i hc;have hlen:(slicePicked ⟨z.toArray⟩ l u none).length=z.length:=by
   have:=(Qjw.mp hc).2;have:=eq_of_beq this
   assumption
  have hw:xJ z lo hi=z:=by
   rw[hp,List.length_range'] at hlen;unfold xJ;have a2:=HT.Lf z.length z.length (Qqv _) hi;have a0:HT.gP z.length 0 lo=0\/z.length=0:=by omega
   grind
  rw[hw] at q;exact⟨.str ⟨z.toArray⟩,H,I,⟨t,rfl⟩,q⟩
 ·rw[aoR];refine⟨?_,⟨.str ⟨(xJ z lo hi).toArray⟩,H,I.tok _,⟨_,rfl⟩,q⟩⟩;show(xJ z lo hi).toArray.size<=sizeLine
  grind
end
end L2
namespace Ev
open PySem PySem.Spec PyProof.Rows L2 PySem.Builtin
section
variable{X:Cx}{C:Cfg}{pos:Pos}{x y:Expr}{a b:Ev}
def p7(k y:D):Option D:=match y with
 | .dct kvs=>(rQ k).map λq=>.bl (qI kvs q).isSome
 | _=>none
theorem aaZ:qg C aao p7:=by
 intro Pr F env σ H x y d vx vy Q r px py e q;cases y with
 | dct kvs=>
  obtain⟨k,hk,rfl⟩:=Qww.mp<|show(rQ x).map (λq=>D.bl (qI kvs q).isSome)=some d from e;obtain⟨z,p,ks,rfl,h1,h2⟩:=py.dct r.fr;cases abp hk px;refine⟨p,wG ks k,rfl,.inl ⟨ks,k,h1,rfl,rfl⟩,?_⟩;have e2:(wG ks k).isSome=(qI kvs k).isSome:=by rcases h2.val k with ⟨g1,g2⟩|⟨d',v',g1,g2,_⟩<;>rw[g1,g2]<;>rfl
  rw[e2];exact q _ H F r (aV.refl F) rfl
 | _=>cases e
theorem Wd(G:Good X C):Cm X C .In p7:=⟨_,aaU G.u1,aaZ⟩
def ajd:D->Option Int->Option Int->Option D
 | .str z,lo,hi=>some (.str (xJ z lo hi))
 | _,_,_=>none
def zY(a:Ev)(lo hi:Gq):Ev:=λenv=>bindR (a env) λd aG=>bindR (lo aG) λl dD=>bindR (hi dD) λu zq=>fG (ajd d l u) zq
theorem Q0(z)(lo hi):(xJ z lo hi).length<=z.length:=by unfold xJ;rw[Qx5,Qjz];omega
noncomputable def ao4:D->D->Option D
 | .lst a,.lst b=>if a.length+b.length<=sizeLine then some (.lst (a++b)) else none
 | _,_=>none
end
end Ev
namespace HT
open PySem PySem.Spec PyProof PyProof.Rows PySem.Builtin
section
variable{prog:Program}{w:World}{A:Around}{E:Value->Shared->Prop}{s:Shared}
theorem uE{lo hi:Option Int}(ht:IsTup s.heap t items)(hs:s.heap.IsSliceOf sl vl vu .none)(pl:IsPart vl lo)(pu:IsPart vu hi)
  (hw:gP items.size 0 lo=0/\gP items.size items.size hi=items.size)
  (h:Q (.ref t) s):wpAny (model prog w) A (getItem (.ref t) (.ref sl)) Q E s:=by
 obtain⟨os,hos,hcs,hds⟩:=id hs;have hTs:s.TypeIs (.ref sl) "slice":=⟨os,hos,hcs⟩;unfold getItem
 try with_reducible refine Qjj ?_
 first|refine Qqq (Qqk ?_)|skip
 refine Qqq<|wpAny_sequenceKey ht.typeIs (by decide) ?_;refine Qqq (Qzz ht.typeIs Qzw
  (Qzv Qzw ht.typeIs entry_tuple_getitem ?_<|args_tuple_getitem _ _))
 show wpAny _ _ (Builtin.Tuple.tupleItemsOf (.ref t) >>= _) _ _ s;refine Qqq<|tupleItemsOf_ ht ?_;refine Qqq<|wpAny_typeOf hTs ?_;rw[if_pos (by decide)];refine Qqq<|qm hs pl pu ?_;have aoL:(((gP items.size 0 lo):Int) == 0&&(1:Int) == 1&&(gP items.size items.size hi - gP items.size 0 lo) == items.size)=true:=by simp_all
 show wpAny _ _ (if (((gP items.size 0 lo):Int) == 0&&1 == 1&&(gP items.size items.size hi - gP items.size 0 lo) == items.size)=true then _ else _) _ _ s;rw[if_pos aoL];refine Qqq ?_;unfold Builtin.Tuple.tupleIsExact;refine Qqq<|wpAny_typeOf ht.typeIs ?_;refine Qqk ?_;rw[if_pos (by decide)];exact Qqq<|wpAny_rule<|Qqk ⟨_,rfl,Qqk h⟩
end
end HT
namespace L2
open PySem PySem.Spec PyProof.Rows
section
variable{X:Cx}
def akX(K:PySem.W.Frag):V->Option Int->Option Int->Hp->VK->Prop:=λx lo hi H Q=>∃a xs,x = .ref a/\mQ K H a xs/\(HT.gP xs.length 0 lo=0/\HT.gP xs.length xs.length hi=xs.length)/\Q (.ref a) H
theorem Oh:UL X (akX X.K):=by
 intro pins s σ H x v vl vu lo hi sl Q I rx hs pl pu h;obtain⟨a,xs,rfl,hx,hw,q⟩:=h;cases rx;obtain⟨its,r,ht,hz⟩:=I.tuple hx;have hlen:its.toArray.size=xs.length:=by rw[Qq5];exact r.length.symm
 refine⟨"tuple",_,PyProof.Rows.slot_tuple_getitem.lookup,ht.typeIs,?_⟩;refine HT.uE ht hs pl pu (by simp_all) ?_;exact⟨.ref a,H,I,rfl,q⟩
end
end L2
namespace Ev
open PySem PySem.Spec PyProof.Rows L2
section
variable{X:Cx}{C:Cfg}{pos:Pos}{x:Expr}{a:Ev}{y z:Expr}{b c:Ev}
def T9:D->Option Int->Option Int->Option D
 | .tup xs,lo,hi=>if HT.gP xs.length 0 lo=0/\HT.gP xs.length xs.length hi=xs.length then some (.tup xs) else some (.tup (cutD xs lo hi))
 | _,_,_=>none
def JM(a:Ev)(lo hi:Gq):Ev:=λenv=>bindR (a env) λd aG=>bindR (lo aG) λl dD=>bindR (hi dD) λu zq=>fG (T9 d l u) zq
theorem Z4{Pr F:Hp}{x d:D}{lo hi:Option Int}(r:Rel C Pr F env σ H)(p:Rep C.K F x v)(e:T9 x lo hi=some d)(q:∀v H' F',Rel C Pr F' env σ H'->aV F F'->Rep C.K F' d v->Q v H') :
  agX C.K v lo hi H Q\/akX C.K v lo hi H Q:=by
 unfold T9 at e;split at e
 ·obtain⟨z,a,vs,rfl,h1,_,h2⟩:=j5.tup r.fr<|.inl p;split at e
  ·rename_i hn;cases e;exact .inr ⟨a,vs,rfl,h1,by rw[h2.length];exact hn,q _ H F r (aV.refl F) p⟩
  ·rename_i hn;cases e;refine .inl ⟨a,vs,rfl,h1,by rw[h2.length];exact hn,λb hb=>?_⟩;obtain⟨r2,s2⟩:=r.new hb;exact q _ _ _ r2 s2 ⟨Qqj (t6 _ _ _) z,b,_,rfl,mQ.of bC,bT.mono s2 _ _<|h2.cut lo hi⟩
 ·cases e
def pH(g g':D->D->Option D)(a b c:Ev):Ev:=λenv=>bindR (a env) λu e1=>bindR (b e1) λv e2=>match g u v with
 | some (.bl k)=>if k=true then bindR (c e2) λt e3=>fG (g' v t) e3 else .ok (.bl false) e2
 | _=>.stuck
end
end Ev
namespace ZT
open PySem PySem.Spec PyProof.Rows L2 PySem.Builtin
section
variable{prog:Program}{w:World}{A:Around}{E:Value->Shared->Prop}{s:Shared}
theorem aa5(hj:s.heap.IsTupleIter j t n)(ht:s.heap.IsTuple t its)(hx:its[n]? = some x)
  (q:∀g,g.IsTupleIter j t (n+1)->Heap.SameBut j s.heap g->Q x { s with heap:=g }):wpAny (model prog w) A (Builtin.SmallTypes.nextOf (.ref j)) Q E s:=by
 obtain⟨u,hu,uc,ud⟩:=id hj;obtain⟨ut,hut,_,m,mt⟩:=ht;unfold Builtin.SmallTypes.nextOf;refine Qqq<|Qzz hj.typeIs F.slot_tuple_iterator_next<|Qzv F.slot_tuple_iterator_next hj.typeIs F.entry_tuple_iterator_next ?_<|F.args_tuple_iterator_next_1 _;show wpAny _ _ (field (.ref j) 0 >>= _) _ _ s;refine Qqq<|Qzj hu ud rfl ?_;show wpAny _ _ (if (Value.ref t == Value.none)=true then _ else _) _ _ s;rw[if_neg (show ¬((Value.ref t == Value.none)=true) from Qwx)];show wpAny _ _ (field (.ref j) 1 >>= _) _ _ s;refine Qqq<|Qzj hu ud rfl ?_;show wpAny _ _ (seqItems? (.ref t) >>= _) _ _ s;refine Qqq<|Qz8 hut mt ?_;simp[Qxw,hx];refine Qqq<|wpAny_setField hu ud (by simp)<|Qqk ⟨x,rfl,Qqk<|q _ ?_<|Heap.SameBut.update ..⟩;exact⟨_,Heap.get?_update_self _ hu<|Obj.isFreed_of_fields<|Obj.data_mapFields ud _,(Obj.cls_mapFields ..).trans uc,by rw[Obj.data_mapFields ud];simp[rawInt]⟩
theorem Lz(hh:A.handled=none)(hj:s.heap.IsTupleIter j t n)(ht:s.heap.IsTuple t its)(hx:its[n]? = none)
  (q:∀g e,Heap.ExtBut j s.heap g->(∃o,g.get? e=some o/\o.cls = .type "StopIteration")->E (.ref e) { s with heap:=g }):wpAny (model prog w) A (Builtin.SmallTypes.nextOf (.ref j)) Q E s:=by
 obtain⟨u,hu,uc,ud⟩:=id hj;obtain⟨ut,hut,_,m,mt⟩:=ht;unfold Builtin.SmallTypes.nextOf;refine Qqq<|Qzz (name:=Str.ofString "__next__") hj.typeIs F.slot_tuple_iterator_next<|Qzv F.slot_tuple_iterator_next hj.typeIs F.entry_tuple_iterator_next ?_<|F.args_tuple_iterator_next_1 _;show wpAny _ _ (field (.ref j) 0 >>= _) _ _ s;refine Qqq<|Qzj hu ud (x:=.ref t) rfl ?_;show wpAny _ _ (if (Value.ref t == Value.none)=true then _ else _) _ _ s;rw[if_neg (show ¬((Value.ref t == Value.none)=true) from Qwx)];show wpAny _ _ (field (.ref j) 1 >>= _) _ _ s;refine Qqq<|Qzj hu ud (x:=.int n 0) rfl ?_;show wpAny _ _ (seqItems? (.ref t) >>= _) _ _ s;refine Qqq<|Qz8 hut mt ?_;simp only[Qxw,hx];refine Qqq<|wpAny_rule<|Qqq (wpAny_setField hu ud (by simp) ?_);show wpAny _ _ (newExc (.type "StopIteration") [] >>= _) _ _ _;refine Qqq ?_;simp only[newExc,newTuple];refine Qqq (Qzy ?_ (by size_fits));refine Qqq (m:=firstArgMember _ _) (wpAny_of_eq (a:=Value.none) (by rfl) ?_);refine Qzy ?_ (by size_fits);simp only[raiseNew];refine Qqq (wpAny_handled ?_)
 first|rw[show A.in1.handled=none from hh]|rw[hh]
 refine Qqq (Qqk (wpAny_throw ?_));exact q _ _ (((Heap.SameBut.update ..).extBut.push _).push _) ⟨_,Qq4 _ rfl,rfl⟩
end
theorem oJ{prog:Program}{w:World}{A:Around}(hh:A.handled=none)(j t:Addr)(hne:t≠j)(its:Array Value) :
  Draws prog w A j [j,t] its.size (λi v=>its[i]? = some v) (λi h=>h.IsTupleIter j t i/\h.IsTuple t its) where
 live:=λ_ _ st=>let ⟨o,ho,_⟩:=st.1;⟨o,ho⟩
 frame:=λ_ _ _ st hk=>by
  obtain⟨⟨o,ho,r⟩,o2,ho2,r2⟩:=st;exact⟨⟨o,hk j (by simp) o ho,r⟩,o2,hk t (by simp) o2 ho2,r2⟩
 item:=λi s Q E hi st hQ=>by
  refine aa5 st.1 st.2 (x:=its[i]) (by simp[hi]) λh' hit' hs'=>?_;exact hQ _ h' s.toks (by simp[hi]) ⟨hit',st.2.extBut hs'.extBut hne⟩ hs'
 done:=λs Q E st hE=>Lz hh st.1 st.2 (by simp) hE
structure Ap(z TI TO j1 j2:Addr)(f1 f2:List Addr):Prop where
 a1:TI≠z
 a2:TO≠z
 a3:TI≠TO
 a4:j1≠j2
 b1:j1∈f1
 b2:j2∈f2
 c1:z ∉ f1
 c2:z ∉ f2
 c3:TO ∉ f1
 c4:TO ∉ f2
 c5:TI ∉ f1
 c6:TI ∉ f2
 c7:j2 ∉ f1
 c8:j1 ∉ f2
section
variable{prog:Program}{w:World}{A:Around}{E:Value->Shared->Prop}{s:Shared}{z TI TO j1 j2:Addr}{f1 f2:List Addr}{n1 n2 k:Nat}{P1 P2:Nat->Value->Prop}{S1 S2:Nat->Heap->Prop}{a b:Value}
theorem gV{f:List Addr}(h:c∈f)(h':d ∉ f):c≠d:=λe=>h'<|e ▸ h
theorem Zc{Q:Value->Shared->Prop}(D:Ap z TI TO j1 j2 f1 f2)(D1:Draws prog w A j1 f1 n1 P1 S1)(D2:Draws prog w A j2 f2 n2 P2 S2)(k1:k<n1)(k2:k<n2)
  (hz:IsZip s.heap z TI TO .none) (hTI:IsPair s.heap TI (.ref j1) (.ref j2)) (hTO:IsPair s.heap TO a b) (s1:S1 k s.heap) (s2:S2 k s.heap)
  (q:∀x y g tk,P1 k x->P2 k y->IsZip g z TI TO (rawInt s.heap.objs.size)->IsPair g TO x y->S1 (k+1) g->S2 (k+1) g->IsPair g s.heap.objs.size x y->g.objs.size=s.heap.objs.size+1->
   (∀c o,c≠z->c≠TO->c≠j1->c≠j2->s.heap.get? c=some o->g.get? c=some o)->Q (.ref s.heap.objs.size) { s with heap:=g,toks:=tk }) :
  wpAny (model prog w) A (Builtin.«zip.__next__» ⟨[.ref z],[]⟩) (λfin s'=>∃v,fin = .done (.ret v)/\Q v s') E s:=by
 have ae7:=gV D.b1 D.c1;have ajD:=gV D.b2 D.c2;have ajE:=gV D.b1 D.c3;have amZ:=gV D.b2 D.c4;show wpAny _ _ (field (.ref z) 2 >>= _) _ _ _;refine Qqq<|Qzj hz rfl rfl ?_;show wpAny _ _ (field (.ref z) 3 >>= _) _ _ _;refine Qqq<|Qzj hz rfl rfl ?_;refine Qqq<|Qz8 hTI rfl ?_;show wpAny _ _ (Builtin.SmallTypes.ownedTupleIsFree (.ref z) >>= _) _ _ _;refine Qqq ?_;unfold Builtin.SmallTypes.ownedTupleIsFree;refine Qqq<|Qzj hz rfl rfl (Qqk ?_);simp only[if_true];refine Qqq<|wpAny_rule ?_;refine Qqq<|Qzj hz rfl rfl ?_;refine Qqq<|Qjk hz (by simp) λg1 hz1 e1=>?_
 replace hz1:IsZip g1 z TI TO .ellipsis:=hz1
 refine Qqq ?_;simp only[List.zipIdx_cons,List.zipIdx_nil,List.forIn_cons,Qj9];refine Qqq<|Qqq<|wpAny_onRaise ?_;show wpAny _ _ (Builtin.SmallTypes.nextOf (.ref j1) >>= _) _ _ _;have s1':=D1.frame k _ _ s1 λc hc o e=>e1.extBut _ _ (gV hc D.c1) e;refine Qqq<|D1.item k { s with heap:=g1 } _ _ k1 s1' λx g2 tk2 px sx e2=>Qqk ?_;have t2:=e2.extBut _ _ ajE.symm<|e1.extBut _ _ D.a2 hTO;refine Qqq<|Qz8 t2 rfl ?_;refine Qqq<|wpAny_updateSeq_pair t2 λg3 t3 e3=>?_
 replace t3:IsPair g3 TO x b:=t3
 refine Qqq<|wpAny_letGo<|Qqk ?_;refine Qqq<|Qqq<|wpAny_onRaise ?_;show wpAny _ _ (Builtin.SmallTypes.nextOf (.ref j2) >>= _) _ _ _;have s2':=D2.frame k _ _ s2 λc hc o e=>e3.extBut _ _ (gV hc D.c4)<|e2.extBut _ _ (gV hc D.c8)<|e1.extBut _ _ (gV hc D.c2) e;refine Qqq<|D2.item k { s with heap:=g3,toks:=tk2 } _ _ k2 s2' λy g4 tk4 py sy e4=>Qqk ?_;have t4:=e4.extBut _ _ amZ.symm t3;refine Qqq<|Qz8 t4 rfl ?_;refine Qqq<|wpAny_updateSeq_pair t4 λg5 t5 e5=>?_
 replace t5:IsPair g5 TO x y:=t5
 refine Qqq<|wpAny_letGo<|Qqk<|Qqk ?_;refine Qqq<|Qz8 t5 rfl ?_;refine Qqq<|wpAny_newTuple ?_;have hsz:g5.objs.size=s.heap.objs.size:=by rw[e5.1,e4.1,e3.1,e2.1,e1.1]
 have hz5:=e5.extBut _ _ D.a2.symm<|e4.extBut _ _ ajD.symm<|e3.extBut _ _ D.a2.symm<|e2.extBut _ _ ae7.symm hz1;have alQ:∀c o,c≠z->c≠TO->c≠j1->c≠j2->s.heap.get? c=some o->g5.get? c=some o:=λc o c1 c2 c3 c4 e=>
  e5.extBut _ _ c2 (e4.extBut _ _ c4<|e3.extBut _ _ c2<|e2.extBut _ _ c3<|e1.extBut _ _ c1 e)
 have s15:=D1.frame _ _ _ sx λc hc o e=>e5.extBut _ _ (gV hc D.c3)<|e4.extBut _ _ (gV hc D.c7)<|e3.extBut _ _ (gV hc D.c3) e;have s25:=D2.frame _ _ _ sy λc hc o e=>e5.extBut _ _ (gV hc D.c4) e;have zlt:=Qq0 hz5;show wpAny _ _ (Builtin.SmallTypes.ownedTupleHandOut (.ref z) (.ref g5.objs.size) >>= _) _ _ _;refine Qqq ?_;unfold Builtin.SmallTypes.ownedTupleHandOut;have hz6:IsZip (g5.push { cls:=.type "tuple",data:=.seq #[x,y] }) z TI TO .ellipsis:=Qqx _ hz5;refine Qqq<|Qjk hz6 (by simp) λg7 hz7 e7=>?_
 replace hz7:IsZip g7 z TI TO (rawInt g5.objs.size):=hz7
 refine Qjk hz7 (by simp) λg8 hz8 e8=>?_
 replace hz8:IsZip g8 z TI TO (rawInt g5.objs.size):=hz8
 have up:∀c o,c≠z->g5.get? c=some o->g8.get? c=some o:=λc o c1 e=>e8.extBut _ _ c1<|e7.extBut _ _ c1<|Qqx _ e;have t8:=e8.extBut _ _ (Qz5 zlt)<|e7.extBut _ _ (Qz5 zlt)<|Qq4 _ rfl;have l8:g8.objs.size=g5.objs.size+1:=by rw[e8.1,e7.1,Qzq]
 rw[hsz] at hz8 t8 l8;refine Qqk ⟨_,rfl,?_⟩;show Q (.ref g5.objs.size) _;rw[hsz];exact q x y g8 _ px py hz8 (up _ _ D.a2 t5) (D1.frame _ _ _ s15 λc hc o e=>up c o (gV hc D.c1) e) (D2.frame _ _ _ s25 λc hc o e=>up c o (gV hc D.c2) e) t8 l8 λc o c1 c2 c3 c4 e=>up c o c1<|alQ c o c1 c2 c3 c4 e
theorem acR(D:Ap z TI TO j1 j2 f1 f2)(D1:Draws prog w A j1 f1 n1 P1 S1)(D2:Draws prog w A j2 f2 n2 P2 S2)(hk:k=n1\/(k<n1/\k=n2))
  (hz:IsZip s.heap z TI TO .none) (hTI:IsPair s.heap TI (.ref j1) (.ref j2)) (hTO:IsPair s.heap TO a b) (s1:S1 k s.heap) (s2:S2 k s.heap)
  (q:∀g e tk,(∀c o,c≠z->c≠TO->c≠j1->c≠j2->s.heap.get? c=some o->g.get? c=some o)->(∃o,g.get? e=some o/\o.cls = .type "StopIteration")->E (.ref e) { s with heap:=g,toks:=tk }) :
  wpAny (model prog w) A (Builtin.«zip.__next__» ⟨[.ref z],[]⟩) Q E s:=by
 have ae7:=gV D.b1 D.c1;have ajD:=gV D.b2 D.c2;have ajE:=gV D.b1 D.c3;have amZ:=gV D.b2 D.c4;show wpAny _ _ (field (.ref z) 2 >>= _) _ _ _;refine Qqq<|Qzj hz rfl rfl ?_;show wpAny _ _ (field (.ref z) 3 >>= _) _ _ _;refine Qqq<|Qzj hz rfl rfl ?_;refine Qqq<|Qz8 hTI rfl ?_;show wpAny _ _ (Builtin.SmallTypes.ownedTupleIsFree (.ref z) >>= _) _ _ _;refine Qqq ?_;unfold Builtin.SmallTypes.ownedTupleIsFree;refine Qqq<|Qzj hz rfl rfl (Qqk ?_);simp only[if_true];refine Qqq<|wpAny_rule ?_;refine Qqq<|Qzj hz rfl rfl ?_;refine Qqq<|Qjk hz (by simp) λg1 hz1 e1=>?_
 replace hz1:IsZip g1 z TI TO .ellipsis:=hz1
 refine Qqq ?_;simp only[List.zipIdx_cons,List.zipIdx_nil,List.forIn_cons,Qj9];refine Qqq<|Qqq<|wpAny_onRaise ?_;show wpAny _ _ (Builtin.SmallTypes.nextOf (.ref j1) >>= _) _ _ _;have s1':=D1.frame k _ _ s1 λc hc o e=>e1.extBut _ _ (gV hc D.c1) e;rcases hk with rfl|⟨k1,rfl⟩
 ·refine Qqq<|D1.done { s with heap:=g1 } _ _ s1' λg2 e x2 he=>?_;obtain⟨oe,hoe,hce⟩:=he;have hz2:=x2 _ _ ae7.symm hz1;have hez:e≠z:=λx=>by grind
  exact Qjk hz2 (by simp) λg3 _ e3=>q g3 e s.toks (λc o c1 _ c3 _ x=>e3.extBut _ _ c1<|x2 _ _ c3<|e1.extBut _ _ c1 x) ⟨oe,e3.extBut _ _ hez hoe,hce⟩
 ·refine Qqq<|D1.item k { s with heap:=g1 } _ _ k1 s1' λx g2 tk2 px sx e2=>Qqk ?_;have t2:=e2.extBut _ _ ajE.symm<|e1.extBut _ _ D.a2 hTO;refine Qqq<|Qz8 t2 rfl ?_;refine Qqq<|wpAny_updateSeq_pair t2 λg3 t3 e3=>?_;refine Qqq<|wpAny_letGo<|Qqk ?_;refine Qqq<|Qqq<|wpAny_onRaise ?_;show wpAny _ _ (Builtin.SmallTypes.nextOf (.ref j2) >>= _) _ _ _;have s2':S2 k g3:=D2.frame k _ _ s2 λc hc o e=>e3.extBut _ _ (gV hc D.c4)<|e2.extBut _ _ (gV hc D.c8)<|e1.extBut _ _ (gV hc D.c2) e;refine Qqq<|D2.done { s with heap:=g3,toks:=tk2 } _ _ s2' λg4 e x4 he=>?_;obtain⟨oe,hoe,hce⟩:=he;have hz4:IsZip g4 z TI TO .ellipsis:=x4 _ _ ajD.symm<|e3.extBut _ _ D.a2.symm<|e2.extBut _ _ ae7.symm hz1;have hez:e≠z:=λx=>by grind
  exact Qjk hz4 (by simp) λg5 _ e5=>q g5 e tk2 (λc o c1 c2 c3 c4 x=>e5.extBut _ _ c1<|x4 _ _ c4<|e3.extBut _ _ c2<|e2.extBut _ _ c3<|e1.extBut _ _ c1 x) ⟨oe,e5.extBut _ _ hez hoe,hce⟩
theorem rG(D:Ap z TI TO j1 j2 f1 f2)(D1:Draws prog w A.in1 j1 f1 n1 P1 S1)(D2:Draws prog w A.in1 j2 f2 n2 P2 S2)(k1:k<n1)(k2:k<n2)
  (hz:IsZip s.heap z TI TO .none) (hTI:IsPair s.heap TI (.ref j1) (.ref j2)) (hTO:IsPair s.heap TO a b) (s1:S1 k s.heap) (s2:S2 k s.heap)
  (q:∀x y g tk,P1 k x->P2 k y->IsZip g z TI TO (rawInt s.heap.objs.size)->IsPair g TO x y->S1 (k+1) g->S2 (k+1) g->IsPair g s.heap.objs.size x y->g.objs.size=s.heap.objs.size+1->
   (∀c o,c≠z->c≠TO->c≠j1->c≠j2->s.heap.get? c=some o->g.get? c=some o)->Q (some (.ref s.heap.objs.size)) { s with heap:=g,toks:=tk }) :
  wpAny (model prog w) A (pyNext (.ref z)) Q E s:=by
 have hT:s.TypeIs (.ref z) "zip":=⟨_,hz,rfl⟩;unfold pyNext;exact Qqq (wpAny_attempt (Qzz hT F.slot_zip_next (Qzv F.slot_zip_next hT F.entry_zip_next
  (Zc D D1 D2 k1 k2 hz hTI hTO s1 s2 λx y g tk u1 u2 u3 u4 u5 u6 u7 u8 u9=>Qqk<|q x y g tk u1 u2 u3 u4 u5 u6 u7 u8 u9) (F.args_zip_next_1 _))))
theorem sX(D:Ap z TI TO j1 j2 f1 f2)(D1:Draws prog w A.in1 j1 f1 n1 P1 S1)(D2:Draws prog w A.in1 j2 f2 n2 P2 S2)(hk:k=n1\/(k<n1/\k=n2))
  (hz:IsZip s.heap z TI TO .none) (hTI:IsPair s.heap TI (.ref j1) (.ref j2)) (hTO:IsPair s.heap TO a b) (s1:S1 k s.heap) (s2:S2 k s.heap)
  (q:∀g tk,(∀c o,c≠z->c≠TO->c≠j1->c≠j2->s.heap.get? c=some o->g.get? c=some o)->Q none { s with heap:=g,toks:=tk }):wpAny (model prog w) A (pyNext (.ref z)) Q E s:=by
 have hT:s.TypeIs (.ref z) "zip":=⟨_,hz,rfl⟩;unfold pyNext;refine Qqq (wpAny_attempt (Qzz hT F.slot_zip_next (Qzv F.slot_zip_next hT F.entry_zip_next
  (acR D D1 D2 hk hz hTI hTO s1 s2 λg e tk hkp he=>?_) (F.args_zip_next_1 _))))
 obtain⟨o,ho,hc⟩:=he;refine Qqq<|wpAny_isInstance ⟨o,ho,hc⟩ isSubtype_stop ?_;exact Qqk<|q _ _ hkp
end
end ZT
namespace L2
open PySem PySem.Spec PyProof.Rows PySem.Builtin ZT
def Itz(K:PySem.W.Frag)(a1 a2:Addr):It:=
 ⟨λi H=>∃xs ys x y,mQ K H a1 xs/\mQ K H a2 ys/\xs[i]? = some x/\ys[i]? = some y,
 λi H v H'=>∃p x y,(∀xs,mQ K H a1 xs->xs[i]? = some x)/\(∀ys,mQ K H a2 ys->ys[i]? = some y)/\H p=none/\H'=upd H p (.tup [x,y])/\v = .ref p,
 λi H=>∃xs ys,mQ K H a1 xs/\mQ K H a2 ys/\(i=xs.length\/(i<xs.length/\i=ys.length))⟩
structure Apz(z TI TO j1 j2 a1 a2:Addr):Prop where
 t1:TI≠z
 t2:TO≠z
 t3:TI≠TO
 t4:j1≠j2
 b1:z ∉ [j1,a1]
 b2:z ∉ [j2,a2]
 b3:TO ∉ [j1,a1]
 b4:TO ∉ [j2,a2]
 b5:TI ∉ [j1,a1]
 b6:TI ∉ [j2,a2]
 b7:j2 ∉ [j1,a1]
 b8:j1 ∉ [j2,a2]
 c1:a1≠j1
 c2:a2≠j2
theorem Apz.ap{z TI TO j1 j2 a1 a2:Addr}(D:Apz z TI TO j1 j2 a1 a2):Ap z TI TO j1 j2 [j1,a1] [j2,a2]:=⟨D.t1,D.t2,D.t3,D.t4,by simp,by simp,D.b1,D.b2,D.b3,D.b4,D.b5,D.b6,D.b7,D.b8⟩
theorem ZG{P:Program}{w:World}{K:PySem.W.Frag}{elts:List Expr}{kk:Nat}{pos:Pos}(z TI TO j1 j2 a1 a2:Addr)(D:Apz z TI TO j1 j2 a1 a2) :
  Turn P w K (.Tuple elts kk pos) (Itz K a1 a2) [z,TI,TO,j1,j2] z (λi h=>IsZip h z TI TO .none/\IsPair h TI (.ref j1) (.ref j2)/\(∃a b,IsPair h TO a b)/\h.IsTupleIter j1 a1 i/\h.IsTupleIter j2 a2 i) where
 mem:=by simp
 obj:=λi h st b hb=>by
  obtain⟨hz,hTI,⟨a,c,hTO⟩,⟨o1,e1,_,d1⟩,o2,e2,_,d2⟩:=st
  grind
 keep:=λi h h' st k=>by
  obtain⟨hz,hTI,⟨a,c,hTO⟩,⟨o1,e1,r1⟩,o2,e2,r2⟩:=st;exact⟨k z (by simp) _ hz,k TI (by simp) _ hTI,⟨a,c,k TO (by simp) _ hTO⟩,⟨o1,k j1 (by simp) _ e1,r1⟩,o2,k j2 (by simp) _ e2,r2⟩
 item:=by
  intro X hP hw hK hc i pins s σ H E I hf st hg;subst hP hw hK;obtain⟨hz,hTI,⟨a,b,hTO⟩,i1,i2⟩:=st;obtain⟨xs,ys,x,y,hx,hy,gx,gy⟩:=hg;obtain⟨us,ru,pu,zu⟩:=I.tuple hx;obtain⟨vs,rv,pv,zv⟩:=I.tuple hy;obtain⟨u,hu,rxu⟩:=ru.get gx;obtain⟨v,hv,ryv⟩:=rv.get gy;have lu:i<us.toArray.size:=by grind
  have lv:i<vs.toArray.size:=by grind
  have D1:Draws X.prog X.w X.A.in1 j1 [j1,a1] _ _ _:=oJ (A:=X.A.in1) (show X.A.in1.handled=none from I.ok.hd hc) j1 a1 D.c1 us.toArray;have D2:Draws X.prog X.w X.A.in1 j2 [j2,a2] _ _ _:=oJ (A:=X.A.in1) (show X.A.in1.handled=none from I.ok.hd hc) j2 a2 D.c2 vs.toArray;refine rG (A:=X.A) D.ap D1 D2 lu lv hz hTI hTO ⟨i1,pu⟩ ⟨i2,pv⟩ λx' y' g tk px py hz' ai7 s1 s2 hT hsz hk=>?_;have ex:x'=u:=by simp_all
  have ey:y'=v:=by simp_all
  subst ex ey;refine⟨_,rfl,?_⟩;refine wpAny_letOwnedTupleGo_zip (s:={ s with heap:=g,toks:=tk }) hz' λg' hz'' e'=>?_;have oX:∀b o,b≠z->g.get? b=some o->g'.get? b=some o:=λb o hb q=>(e'.2 b hb).trans q;have lts:∀b ∈ [z,TI,TO,j1,j2],b<s.heap.objs.size:=λb hb=>by
   simp only[Qq8,List.not_mem_nil,or_false] at hb;rcases hb with rfl|rfl|rfl|rfl|rfl
   ·exact Qq0 hz
   ·exact Qq0 hTI
   ·exact Qq0 hTO
   ·obtain⟨_,q,_⟩:=i1;exact Qq0 q
   ·obtain⟨_,q,_⟩:=i2;exact Qq0 q
  have nT:H s.heap.objs.size=none:=I.hok.fresh<|Qqv _;refine⟨.ref s.heap.objs.size,upd H s.heap.objs.size<|.tup [x,y],I.drawn (t':=tk) (ch:=[z,TI,TO,j1,j2]) hf (λb o hb q=>?_) (Qqv _) ?_,rfl,⟨_,x,y,λzs hq=>by rw[I.uo hq hx];exact gx,λzs hq=>by rw[I.uo hq hy];exact gy,nT,rfl,rfl⟩,⟨hz'',?_,⟨_,_,oX TO _ D.t2 ai7⟩,?_,?_⟩,λb hb=>?_⟩
  ·simp_all
  ·exact⟨by show 2<=sizeLine;decide,[x',y'],.cons rxu<|.cons ryv .nil,_,oX _ _ (Qz5 (lts z (by simp))) hT,rfl,⟨_,rfl⟩,rfl⟩
  ·exact oX TI _ D.t1 (hk TI _ D.t1 D.t3 (λq=>D.b5 (by simp[q])) (λq=>D.b6 (by simp[q])) hTI)
  ·obtain⟨o,q,r⟩:=s1.1;exact⟨o,oX j1 o (λq=>D.b1 (by simp[q])) q,r⟩
  ·obtain⟨o,q,r⟩:=s2.1;exact⟨o,oX j2 o (λq=>D.b2 (by simp[q])) q,r⟩
  ·rw[cz (Qwv (lts b hb))];exact(hf b hb).1
 done:=by
  intro X hP hw hK hc i pins s σ H E I hf st hg;subst hP hw hK;obtain⟨hz,hTI,⟨a,b,hTO⟩,i1,i2⟩:=st;obtain⟨xs,ys,hx,hy,hi⟩:=hg;obtain⟨us,ru,pu,zu⟩:=I.tuple hx;obtain⟨vs,rv,pv,zv⟩:=I.tuple hy;have l1:=ru.length;have l2:=rv.length;have D1:Draws X.prog X.w X.A.in1 j1 [j1,a1] _ _ _:=oJ (A:=X.A.in1) (show X.A.in1.handled=none from I.ok.hd hc) j1 a1 D.c1 us.toArray;have D2:Draws X.prog X.w X.A.in1 j2 [j2,a2] _ _ _:=oJ (A:=X.A.in1) (show X.A.in1.handled=none from I.ok.hd hc) j2 a2 D.c2 vs.toArray;refine sX (A:=X.A) (k:=i) D.ap D1 D2 (by simp_all) hz hTI hTO ⟨i1,pu⟩ ⟨i2,pv⟩ λg tk hk=>⟨rfl,I.Kp (t':=tk) (ch:=[z,TI,TO,j1,j2]) hf λb o hb e=>?_⟩
  simp_all
 self:=λA i s Q E st h=>wpAny_pyIter_zip st.1 h
end L2
namespace ZT
open PySem PySem.Spec PyProof.Rows L2 PySem.Builtin
noncomputable abbrev h1T(h:Heap)(l1:Addr):Heap:=h.push { cls:=.type "tuple_iterator",data:=.fields #[.ref l1,.int 0 0] }
abbrev h2T(h:Heap)(l1 l2:Addr):Heap:=(h1T h l1).push { cls:=.type "tuple_iterator",data:=.fields #[.ref l2,.int 0 0] }
abbrev h3T(h:Heap)(l1 l2:Addr):Heap:=(h2T h l1 l2).push { cls:=.type "tuple",data:=.seq #[.ref h.objs.size,.ref (h1T h l1).objs.size] }
abbrev h4T(h:Heap)(l1 l2:Addr):Heap:=(h3T h l1 l2).push { cls:=.type "tuple",data:=.seq #[.none,.none] }
abbrev h5T(h:Heap)(l1 l2:Addr):Heap:=(h4T h l1 l2).push { cls:=.type "zip",data:=.fields #[.none,.bool false,.bool false,.ref (h2T h l1 l2).objs.size,.ref (h3T h l1 l2).objs.size] }
theorem ahW(l1 l2)(xs ys):Meets (Builtin.«zip.__new__» ⟨[.type "zip",.ref l1,.ref l2],[]⟩) (λ_ R s=>s.heap.IsTuple l1 xs/\s.heap.IsTuple l2 ys/\
   R (.ok (.ret (.ref (h4T s.heap l1 l2).objs.size))) { s with heap:=h5T s.heap l1 l2 }):=
 .of_wp λprog w A R s h=>by
  obtain⟨hp,g,d,tk,os⟩:=s;obtain⟨hl1,hl2,h⟩:=h;have hsub:=sub_zip;have hL1:=hl1;have hL2:Heap.IsTuple (Shared.heap ⟨hp.push { cls:=.type "tuple_iterator",data:=.fields #[.ref l1,.int 0 0] },g,d,tk,os⟩) l2 ys:=Heap.IsTuple.push hl2 _
  wp_walk using wpAny_pyIter_tuple hL1,wpAny_pyIter_tuple hL2
  exact⟨_,rfl,h⟩
section
variable{prog:Program}{w:World}{A:Around}{E:Value->Shared->Prop}{s:Shared}
theorem afg(hl1:s.heap.IsTuple l1 xs)(hl2:s.heap.IsTuple l2 ys)
  (h:∀g,IsZip g (s.heap.objs.size+4) (s.heap.objs.size+2) (s.heap.objs.size+3) .none->IsPair g (s.heap.objs.size+2) (.ref s.heap.objs.size) (.ref (s.heap.objs.size+1))->
   IsPair g (s.heap.objs.size+3) .none .none->g.IsTupleIter s.heap.objs.size l1 0->g.IsTupleIter (s.heap.objs.size+1) l2 0->g.objs.size=s.heap.objs.size+5->
   (∀c o,s.heap.get? c=some o->g.get? c=some o)->Q (.ref (s.heap.objs.size+4)) { s with heap:=g }) :
  wpAny (model prog w) A (call (.type "zip") [.ref l1,.ref l2]) Q E s:=by
 refine callType_new F.called_zip (by decide) (F.typeCall_zip_2 _ _) (F.newCall_zip_2 _ _) (λobj=>F.args_object_init_3 obj _ _) F.entry_zip_new (ahW l1 l2 xs ys) ⟨hl1,hl2,?_⟩;have z1:(h1T s.heap l1).objs.size=s.heap.objs.size+1:=Qzq ..;have z2:(h2T s.heap l1 l2).objs.size=s.heap.objs.size+2:=by simp_all
 have z3:(h3T s.heap l1 l2).objs.size=s.heap.objs.size+3:=by simp_all
 have z4:(h4T s.heap l1 l2).objs.size=s.heap.objs.size+4:=by simp_all
 have z5:(h5T s.heap l1 l2).objs.size=s.heap.objs.size+5:=by simp_all
 have g5:(h5T s.heap l1 l2).get? (h4T s.heap l1 l2).objs.size=some _:=Qq4 _ rfl;have g4:(h5T s.heap l1 l2).get? (h3T s.heap l1 l2).objs.size=some _:=Qqx _<|Qq4 _ rfl;have g3:(h5T s.heap l1 l2).get? (h2T s.heap l1 l2).objs.size=some _:=Qqx _<|Qqx _<|Qq4 _ rfl;have g2:(h5T s.heap l1 l2).get? (h1T s.heap l1).objs.size=some _:=Qqx _<|Qqx _<|Qqx _<|Qq4 _ rfl;have g1:(h5T s.heap l1 l2).get? s.heap.objs.size=some _:=Qqx _<|Qqx _<|Qqx _<|Qqx _<|Qq4 _ rfl;show _/\_;rw[z2,z3,z4] at g5;rw[z1,z2] at g3;rw[z3] at g4;rw[z1] at g2;rw[z4];exact⟨⟨_,g5,rfl⟩,h _ g5 g3 g4 ⟨_,g1,rfl,rfl⟩ ⟨_,g2,rfl,rfl⟩ z5 λc o x=>Qqx _<|Qqx _<|Qqx _<|Qqx _<|Qqx _ x⟩
end
end ZT
namespace L2
open PySem PySem.Spec PyProof.Rows PySem.Builtin ZT
section
variable{X:Cx}
def aoH(K:PySem.W.Frag)(ta:TA):TI:=λσ H R=>ta σ H λvs H1=>∃a1 a2,vs=[.ref a1,.ref a2]/\(∃xs,mQ K H1 a1 xs)/\(∃ys,mQ K H1 a2 ys)/\R (Itz K a1 a2) H1
theorem ahd{elts:List Expr}{k:Nat}{tp:Pos}{p pos:Pos}(hg:Gl X "zip")(hm:X.mg "zip" = none)(ha:PA X [a,b] ta)(hs:starEach [a,b] X.env=(false,eval a X.env)::starEach [b] X.env:=by rfl)(hs2:starEach [b] X.env=[(false,eval b X.env)]:=by rfl):PI X (.Tuple elts k tp) (.Call (.Name "zip" p) [a,b] [] pos) (aoH X.K ta):=by
 intro pins s σ H R I h;refine Call_<|qT I hg hm PyProof.Rows.boot_zip (Qxz (fC (ha pos pins s σ H _ I h) λus s1 ⟨vs,H1,I1,r1,q1⟩=>?_) hs (by rw[hs2];rfl));obtain⟨a1,a2,e,⟨xs,hx⟩,⟨ys,hy⟩,q⟩:=q1;subst e;cases r1 with
 | cons r rr=>
  cases rr with
  | cons r' rr'=>
   cases rr';cases r;cases r';obtain⟨u1,ru1,p1,z1⟩:=I1.tuple hx;obtain⟨u2,ru2,p2,z2⟩:=I1.tuple hy;have lt1:a1<s1.heap.objs.size:=by obtain⟨_,e,_⟩:=p1;exact Qq0 e
   have Y5:a2<s1.heap.objs.size:=by obtain⟨_,e,_⟩:=p2;exact Qq0 e
   refine afg p1 p2 λg hz hTI hTO i1 i2 hsz hk=>?_;refine wpAny_pyIter_zip hz ?_;have I2:Inv X pins σ H1 { s1 with heap:=g }:=I1.kept (t':=s1.toks) hk;have own:∀b,s1.heap.objs.size<=b->o8 X pins H1 b:=λb hb=>I1.Ue hb (I1.hok.fresh hb);generalize hn:s1.heap.objs.size=n at *;have ne:∀{c d:Nat},c<d->(c:Addr)≠d:=λh e=>Qx6 _ (by subst e;exact h);have ne':∀{c d},d<c->(c:Addr)≠d:=λh e=>Qx6 _ (by subst e;exact h);have D:Apz (n+4) (n+2) (n+3) n (n+1) a1 a2:={
    t1:=ne (by omega),t2:=ne (by omega),t3:=ne (by omega),t4:=ne (by omega)
    b1:=by grind
    b2:=by grind
    b3:=by grind
    b4:=by grind
    b5:=by grind
    b6:=by grind
    b7:=by grind
    b8:=by simp_all
    c1:=ne lt1,c2:=ne (Qwk Y5 (by omega)) }
   refine⟨n+4,[n+4,n+2,n+3,n,n+1],_,_,H1,rfl,I2,ZG _ _ _ _ _ a1 a2 D,⟨hz,hTI,⟨_,_,hTO⟩,i1,i2⟩,λb hb=>own b ?_,q⟩
   grind
end
end L2
namespace Ev
open PySem PySem.Spec PyProof.Rows L2 PySem.Builtin
section
variable{X:Cx}{C:Cfg}{pos:Pos}{e e2:Expr}
noncomputable def uB(x y:List D):List D:=(x.zip y).map λp=>.tup [p.1,p.2]
def QL(a:dq):dq:=λenv=>bindR (a env) λds aG=>match ds with
 | [.tup x,.tup y]=>.ok (uB x y) aG
 | _=>.stuck
theorem wR{K:Fg}:∀{ds} {vs},bT K F ds vs->∀{i:Nat} {d},ds[i]? = some d->∃v,vs[i]? = some v/\Rep K F d v
 | [],vs,_,i,d,h=>by simp at h
 | x::ds,vs,r,i,d,h=>by
  obtain⟨v,w,rfl,p,q⟩:=r;cases i with
  | zero=>simp_all
  | succ i=>obtain⟨u,h1,h2⟩:=wR q (by simpa using h);exact⟨u,by simpa using h1,h2⟩
end
end Ev
namespace L2
open PySem PySem.Spec PyProof.Rows PySem.Builtin ZT
def anh(K:PySem.W.Frag)(a1 a2:Addr):It:=
 ⟨λi H=>∃xs ys x y,nq K H a1 xs/\mQ K H a2 ys/\xs[i]? = some x/\ys[i]? = some y,
 λi H v H'=>∃p x y,(∀xs,nq K H a1 xs->xs[i]? = some x)/\(∀ys,mQ K H a2 ys->ys[i]? = some y)/\H p=none/\H'=upd H p (.tup [x,y])/\v = .ref p,
 λi H=>∃xs ys,nq K H a1 xs/\mQ K H a2 ys/\(i=xs.length\/(i<xs.length/\i=ys.length))⟩
theorem Wt{P:Program}{w:World}{K:PySem.W.Frag}{elts:List Expr}{kk:Nat}{pos:Pos}(z TI TO j1 j2 a1 a2:Addr)(D:Apz z TI TO j1 j2 a1 a2) :
  Turn P w K (.Tuple elts kk pos) (anh K a1 a2) [z,TI,TO,j1,j2] z (λi h=>IsZip h z TI TO .none/\IsPair h TI (.ref j1) (.ref j2)/\(∃a b,IsPair h TO a b)/\h.IsListIter j1 a1 i/\h.IsTupleIter j2 a2 i) where
 mem:=by simp
 obj:=λi h st b hb=>by
  obtain⟨hz,hTI,⟨a,c,hTO⟩,⟨o1,e1,_,d1⟩,o2,e2,_,d2⟩:=st
  grind
 keep:=λi h h' st k=>by
  obtain⟨hz,hTI,⟨a,c,hTO⟩,⟨o1,e1,r1⟩,o2,e2,r2⟩:=st;exact⟨k z (by simp) _ hz,k TI (by simp) _ hTI,⟨a,c,k TO (by simp) _ hTO⟩,⟨o1,k j1 (by simp) _ e1,r1⟩,o2,k j2 (by simp) _ e2,r2⟩
 item:=by
  intro X hP hw hK hc i pins s σ H E I hf st hg;subst hP hw hK;obtain⟨hz,hTI,⟨a,b,hTO⟩,i1,i2⟩:=st;obtain⟨xs,ys,x,y,hx,hy,gx,gy⟩:=hg;obtain⟨us,ru,pu,zu⟩:=I.list hx;obtain⟨vs,rv,pv,zv⟩:=I.tuple hy;obtain⟨u,hu,rxu⟩:=ru.get gx;obtain⟨v,hv,ryv⟩:=rv.get gy;have lu:i<us.toArray.size:=by grind
  have lv:i<vs.toArray.size:=by grind
  have D1:Draws X.prog X.w X.A.in1 j1 [j1,a1] _ _ _:=Draws.list (A:=X.A.in1) (show X.A.in1.handled=none from I.ok.hd hc) j1 a1 D.c1 us.toArray;have D2:Draws X.prog X.w X.A.in1 j2 [j2,a2] _ _ _:=oJ (A:=X.A.in1) (show X.A.in1.handled=none from I.ok.hd hc) j2 a2 D.c2 vs.toArray;refine rG (A:=X.A) D.ap D1 D2 lu lv hz hTI hTO ⟨i1,pu.isList⟩ ⟨i2,pv⟩ λx' y' g tk px py hz' ai7 s1 s2 hT hsz hk=>?_;have ex:x'=u:=by simp_all
  have ey:y'=v:=by simp_all
  subst ex ey;refine⟨_,rfl,?_⟩;refine wpAny_letOwnedTupleGo_zip (s:={ s with heap:=g,toks:=tk }) hz' λg' hz'' e'=>?_;have oX:∀b o,b≠z->g.get? b=some o->g'.get? b=some o:=λb o hb q=>(e'.2 b hb).trans q;have lts:∀b ∈ [z,TI,TO,j1,j2],b<s.heap.objs.size:=λb hb=>by
   simp only[Qq8,List.not_mem_nil,or_false] at hb;rcases hb with rfl|rfl|rfl|rfl|rfl
   ·exact Qq0 hz
   ·exact Qq0 hTI
   ·exact Qq0 hTO
   ·obtain⟨_,q,_⟩:=i1;exact Qq0 q
   ·obtain⟨_,q,_⟩:=i2;exact Qq0 q
  have nT:H s.heap.objs.size=none:=I.hok.fresh<|Qqv _;refine⟨.ref s.heap.objs.size,upd H s.heap.objs.size<|.tup [x,y],I.drawn (t':=tk) (ch:=[z,TI,TO,j1,j2]) hf (λb o hb q=>?_) (Qqv _) ?_,rfl,⟨_,x,y,λzs hq=>by rw[I.Qe hq hx];exact gx,λzs hq=>by rw[I.uo hq hy];exact gy,nT,rfl,rfl⟩,⟨hz'',?_,⟨_,_,oX TO _ D.t2 ai7⟩,?_,?_⟩,λb hb=>?_⟩
  ·simp_all
  ·exact⟨by show 2<=sizeLine;decide,[x',y'],.cons rxu<|.cons ryv .nil,_,oX _ _ (Qz5 (lts z (by simp))) hT,rfl,⟨_,rfl⟩,rfl⟩
  ·exact oX TI _ D.t1 (hk TI _ D.t1 D.t3 (λq=>D.b5 (by simp[q])) (λq=>D.b6 (by simp[q])) hTI)
  ·obtain⟨o,q,r⟩:=s1.1;exact⟨o,oX j1 o (λq=>D.b1 (by simp[q])) q,r⟩
  ·obtain⟨o,q,r⟩:=s2.1;exact⟨o,oX j2 o (λq=>D.b2 (by simp[q])) q,r⟩
  ·rw[cz (Qwv (lts b hb))];exact(hf b hb).1
 done:=by
  intro X hP hw hK hc i pins s σ H E I hf st hg;subst hP hw hK;obtain⟨hz,hTI,⟨a,b,hTO⟩,i1,i2⟩:=st;obtain⟨xs,ys,hx,hy,hi⟩:=hg;obtain⟨us,ru,pu,zu⟩:=I.list hx;obtain⟨vs,rv,pv,zv⟩:=I.tuple hy;have l1:=ru.length;have l2:=rv.length;have D1:Draws X.prog X.w X.A.in1 j1 [j1,a1] _ _ _:=Draws.list (A:=X.A.in1) (show X.A.in1.handled=none from I.ok.hd hc) j1 a1 D.c1 us.toArray;have D2:Draws X.prog X.w X.A.in1 j2 [j2,a2] _ _ _:=oJ (A:=X.A.in1) (show X.A.in1.handled=none from I.ok.hd hc) j2 a2 D.c2 vs.toArray;refine sX (A:=X.A) (k:=i) D.ap D1 D2 (by simp_all) hz hTI hTO ⟨i1,pu.isList⟩ ⟨i2,pv⟩ λg tk hk=>⟨rfl,I.Kp (t':=tk) (ch:=[z,TI,TO,j1,j2]) hf λb o hb e=>?_⟩
  simp_all
 self:=λA i s Q E st h=>wpAny_pyIter_zip st.1 h
end L2
namespace ZT
open PySem PySem.Spec PyProof.Rows L2 PySem.Builtin
noncomputable abbrev h1L(h:Heap)(l1:Addr):Heap:=h.push { cls:=.type "list_iterator",data:=.fields #[.ref l1,.int 0 0] }
abbrev h2L(h:Heap)(l1 l2:Addr):Heap:=(h1L h l1).push { cls:=.type "tuple_iterator",data:=.fields #[.ref l2,.int 0 0] }
abbrev h3L(h:Heap)(l1 l2:Addr):Heap:=(h2L h l1 l2).push { cls:=.type "tuple",data:=.seq #[.ref h.objs.size,.ref (h1L h l1).objs.size] }
abbrev h4L(h:Heap)(l1 l2:Addr):Heap:=(h3L h l1 l2).push { cls:=.type "tuple",data:=.seq #[.none,.none] }
abbrev h5L(h:Heap)(l1 l2:Addr):Heap:=(h4L h l1 l2).push { cls:=.type "zip",data:=.fields #[.none,.bool false,.bool false,.ref (h2L h l1 l2).objs.size,.ref (h3L h l1 l2).objs.size] }
theorem ahX(l1 l2)(xs ys):Meets (Builtin.«zip.__new__» ⟨[.type "zip",.ref l1,.ref l2],[]⟩) (λ_ R s=>s.heap.IsList l1 xs/\s.heap.IsTuple l2 ys/\
   R (.ok (.ret (.ref (h4L s.heap l1 l2).objs.size))) { s with heap:=h5L s.heap l1 l2 }):=
 .of_wp λprog w A R s h=>by
  obtain⟨hp,g,d,tk,os⟩:=s;obtain⟨hl1,hl2,h⟩:=h;have hsub:=sub_zip;have hL1:=hl1;have hL2:Heap.IsTuple (Shared.heap ⟨hp.push { cls:=.type "list_iterator",data:=.fields #[.ref l1,.int 0 0] },g,d,tk,os⟩) l2 ys:=Heap.IsTuple.push hl2 _
  wp_walk using wpAny_pyIter_list hL1,wpAny_pyIter_tuple hL2
  exact⟨_,rfl,h⟩
section
variable{prog:Program}{w:World}{A:Around}{E:Value->Shared->Prop}{s:Shared}
theorem afh(hl1:s.heap.IsList l1 xs)(hl2:s.heap.IsTuple l2 ys)
  (h:∀g,IsZip g (s.heap.objs.size+4) (s.heap.objs.size+2) (s.heap.objs.size+3) .none->IsPair g (s.heap.objs.size+2) (.ref s.heap.objs.size) (.ref (s.heap.objs.size+1))->
   IsPair g (s.heap.objs.size+3) .none .none->g.IsListIter s.heap.objs.size l1 0->g.IsTupleIter (s.heap.objs.size+1) l2 0->g.objs.size=s.heap.objs.size+5->
   (∀c o,s.heap.get? c=some o->g.get? c=some o)->Q (.ref (s.heap.objs.size+4)) { s with heap:=g }) :
  wpAny (model prog w) A (call (.type "zip") [.ref l1,.ref l2]) Q E s:=by
 refine callType_new F.called_zip (by decide) (F.typeCall_zip_2 _ _) (F.newCall_zip_2 _ _) (λobj=>F.args_object_init_3 obj _ _) F.entry_zip_new (ahX l1 l2 xs ys) ⟨hl1,hl2,?_⟩;have z1:(h1L s.heap l1).objs.size=s.heap.objs.size+1:=Qzq ..;have z2:(h2L s.heap l1 l2).objs.size=s.heap.objs.size+2:=by simp_all
 have z3:(h3L s.heap l1 l2).objs.size=s.heap.objs.size+3:=by simp_all
 have z4:(h4L s.heap l1 l2).objs.size=s.heap.objs.size+4:=by simp_all
 have z5:(h5L s.heap l1 l2).objs.size=s.heap.objs.size+5:=by simp_all
 have g5:(h5L s.heap l1 l2).get? (h4L s.heap l1 l2).objs.size=some _:=Qq4 _ rfl;have g4:(h5L s.heap l1 l2).get? (h3L s.heap l1 l2).objs.size=some _:=Qqx _<|Qq4 _ rfl;have g3:(h5L s.heap l1 l2).get? (h2L s.heap l1 l2).objs.size=some _:=Qqx _<|Qqx _<|Qq4 _ rfl;have g2:(h5L s.heap l1 l2).get? (h1L s.heap l1).objs.size=some _:=Qqx _<|Qqx _<|Qqx _<|Qq4 _ rfl;have g1:(h5L s.heap l1 l2).get? s.heap.objs.size=some _:=Qqx _<|Qqx _<|Qqx _<|Qqx _<|Qq4 _ rfl;rw[z2,z3,z4] at g5;rw[z1,z2] at g3;rw[z3] at g4;rw[z1] at g2;rw[z4];exact⟨⟨_,g5,rfl⟩,h _ g5 g3 g4 ⟨_,g1,rfl,rfl⟩ ⟨_,g2,rfl,rfl⟩ z5 λc o x=>Qqx _<|Qqx _<|Qqx _<|Qqx _<|Qqx _ x⟩
end
end ZT
namespace L2
open PySem PySem.Spec PyProof.Rows PySem.Builtin ZT
section
variable{X:Cx}
def amq(K:PySem.W.Frag)(ta:TA):TI:=λσ H R=>ta σ H λvs H1=>∃a1 a2,vs=[.ref a1,.ref a2]/\(∃xs,nq K H1 a1 xs)/\(∃ys,mQ K H1 a2 ys)/\R (anh K a1 a2) H1
theorem adS{elts:List Expr}{k:Nat}{tp:Pos}{p pos:Pos}(hg:Gl X "zip")(hm:X.mg "zip" = none)(ha:PA X [a,b] ta)(hs:starEach [a,b] X.env=(false,eval a X.env)::starEach [b] X.env:=by rfl)(hs2:starEach [b] X.env=[(false,eval b X.env)]:=by rfl):PI X (.Tuple elts k tp) (.Call (.Name "zip" p) [a,b] [] pos) (amq X.K ta):=by
 intro pins s σ H R I h;refine Call_<|qT I hg hm PyProof.Rows.boot_zip<|Qxz (fC (ha pos pins s σ H _ I h) λus s1 ⟨vs,H1,I1,r1,q1⟩=>?_) hs (by rw[hs2];rfl);obtain⟨a1,a2,e,⟨xs,hx⟩,⟨ys,hy⟩,q⟩:=q1;subst e;cases r1 with
 | cons r rr=>
  cases rr with
  | cons r' rr'=>
   cases rr';cases r;cases r';obtain⟨u1,ru1,p1,z1⟩:=I1.list hx;obtain⟨u2,ru2,p2,z2⟩:=I1.tuple hy;have lt1:a1<s1.heap.objs.size:=by obtain⟨_,e,_⟩:=p1.isList;exact Qq0 e
   have Y5:a2<s1.heap.objs.size:=by obtain⟨_,e,_⟩:=p2;exact Qq0 e
   refine afh p1.isList p2 λg hz hTI hTO i1 i2 hsz hk=>?_;refine wpAny_pyIter_zip hz ?_;have I2:Inv X pins σ H1 { s1 with heap:=g }:=I1.kept (t':=s1.toks) hk;have own:∀b,s1.heap.objs.size<=b->o8 X pins H1 b:=λb hb=>I1.Ue hb<|I1.hok.fresh hb;generalize hn:s1.heap.objs.size=n at *;have ne:∀{c d:Nat},c<d->(c:Addr)≠d:=λh e=>Qx6 _ (by subst e;exact h);have ne':∀{c d},d<c->(c:Addr)≠d:=λh e=>Qx6 _ (by subst e;exact h);have D:Apz (n+4) (n+2) (n+3) n (n+1) a1 a2:={
    t1:=ne (by omega),t2:=ne (by omega),t3:=ne (by omega),t4:=ne (by omega)
    b1:=by grind
    b2:=by grind
    b3:=by grind
    b4:=by grind
    b5:=by grind
    b6:=by grind
    b7:=by grind
    b8:=by simp_all
    c1:=ne lt1,c2:=ne (Qwk Y5 (by omega)) }
   refine⟨n+4,[n+4,n+2,n+3,n,n+1],_,_,H1,rfl,I2,Wt _ _ _ _ _ a1 a2 D,⟨hz,hTI,⟨_,_,hTO⟩,i1,i2⟩,λb hb=>own b ?_,q⟩
   grind
end
end L2
namespace Ev
open PySem PySem.Spec PyProof.Rows L2 PySem.Builtin
section
variable{X:Cx}{C:Cfg}{pos:Pos}{e e2:Expr}
def Ey(a:dq):dq:=λenv=>bindR (a env) λds aG=>match ds with
 | [.lst x,.tup y]=>.ok (uB x y) aG
 | _=>.stuck
end
end Ev
namespace L2
open PySem PySem.Spec PyProof.Rows PySem.Builtin
section
variable{X:Cx}
def aan:List V->Hp->VK->Prop:=λxs H Q=>∃b:Bool,xs=[.bl b]/\Q (.int (if b then 1 else 0)) H
theorem Yx:jL X (.type "int") aan:=by
 intro pins s σ H vs us Q I r h;obtain⟨b,rfl,q⟩:=h;cases r with
 | cons r rr=>
  cases rr;cases r;exact call_int_bool ⟨.int<|if b then 1 else 0,H,I.tok _,⟨_,rfl⟩,q⟩
end
end L2
namespace Ev
open PySem PySem.Spec PyProof.Rows L2 PySem.Builtin
section
variable{X:Cx}{C:Cfg}{pos p:Pos}{e:Expr}{ea:dq}
noncomputable def VR:List D->Option D
 | [.bl b]=>some (.int (if b then 1 else 0))
 | _=>none
theorem afc:CallD C aan VR:=by
 intro Pr F env σ H ds d vs Q r hs h q;unfold VR at h;split at h
 ·rename_i b;cases h;obtain⟨v,rfl,hv⟩:=nR hs;exact⟨b,by rw[hv.bl],q _ H F r (aV.refl F) rfl⟩
 ·cases h
end
end Ev
namespace L2
open PySem PySem.Spec PyProof.Rows PySem.Builtin
section
variable{X:Cx}
def aak:R2:=λx y H Q=>∃(z:Str) (b:Bool),x = .str z/\y = .int (if b then 1 else 0)/\z.length<=sizeLine/\Q (.str (if b then z else ⟨#[]⟩)) H
theorem aaT:nu X (binaryOp .Mult) aak:=by
 intro pins s σ H x y v u Q I rx ry h;obtain⟨z,b,rfl,rfl,hz,q⟩:=h;obtain⟨t,rfl⟩:=rx;obtain⟨t',rfl⟩:=ry;have hn:=vV;cases b with
 | false=>
  refine PySem.P.mul_str (by decide) (λh _=>absurd (by decide) h) (λh _=>absurd (by decide) h) ?_;exact⟨by decide,⟨.str ⟨#[]⟩,H,I.tok _,⟨_,rfl⟩,q⟩⟩
 | true=>
  refine PySem.P.mul_str (by decide) (λ_ h=>absurd h (by simp)) (λ_ h=>absurd h (by simp)) ?_;exact⟨.str z,H,I,⟨_,rfl⟩,q⟩
end
end L2
namespace Ev
open PySem PySem.Spec PyProof.Rows L2 PySem.Builtin
section
variable{X:Cx}{C:Cfg}
noncomputable def Mt:D->D->Option D
 | .str z,.int i=>if i=0 then some (.str []) else if i=1 then some (.str z) else none
 | _,_=>none
theorem aaY:qg C aak Mt:=by
 intro Pr F env σ H x y d vx vy Q r px py e q;unfold Mt at e;split at e
 ·rename_i z i;obtain⟨rfl,hz⟩:=px.str;cases py.int;split at e
  ·rename_i h0;cases e;subst h0;exact⟨strOf z,false,rfl,rfl,by assumption,q _ H F r (aV.refl F) ⟨rfl,Qxx _⟩⟩
  ·split at e
   ·rename_i h1;cases e;subst h1;exact⟨strOf z,true,rfl,rfl,by assumption,q _ H F r (aV.refl F) ⟨rfl,hz⟩⟩
   ·cases e
 ·cases e
theorem afj:Bi X C .Mult Mt:=⟨_,aaT,aaY⟩
end
open PySem PySem.Spec PyProof.Rows L2
def amQ(f:List D->Option (D×D))(c:Ev)(a:dq):Ev:=λenv=>bindR (c env) λx aG=>bindR (a aG) λds dD=>match f (x::ds) with
 | some (d,_)=>.ok d dD
 | none=>.stuck
section
variable{X:Cx}{C:Cfg}{pos:Pos}{x y z:Expr}{a b c:Ev}
theorem xr{K:Fg}{x:Str}(X:K.In h)(G:h.Ns mainGlobals mg)(a:PySem.W.nsIn K mainGlobals x=some (some (.int i t))):Rk K mg x (.int i):=
 ⟨.int i,_,Qj1 X G a,⟨t,rfl⟩,λF=>rfl⟩
end
noncomputable def TQ(g:GV)(wk:dq)(g2:GV)(c:fX)(e:Ev):List D->Env->R (List D)
 | [],env=>.ok [] env
 | d::ds,env=>(match g d env with
  | none=>.stuck
  | some e1=>bindR (wk e1) λFi e2=>bindR (uJ g2 c e Fi e2) λys e3=>bindR (TQ g wk g2 c e ds e3) λzs e4=>.ok (ys++zs) e4)
def EY(lo n:Nat)(it:dq)(g:GV)(wk:dq)(g2:GV)(c:fX)(e:Ev):Ev:=λenv=>bindR (it env) λds aG=>if aG.length=lo then bindR (TQ g wk g2 c e ds (aG++List.replicate (n - lo) none)) λys dD=>(if ys.length<=sizeLine then .ok (.lst ys) (dD.take lo) else .stuck) else .stuck
theorem ah5{lo n:Nat}(h:tN C (EY lo n it g wk g2 c e) σ H Q):akC n (tI C it) (tG C lo g) (tI C wk) (tG C lo g2) (tT C c) (tE C e) σ H Q:=by
 obtain⟨Pr,F,env,env',d,r,ev,q⟩:=h;obtain⟨ds,aG,e1,e2⟩:=aO ev;split at e2
 ·rename_i hlo;obtain⟨ys,dD,e3,e4⟩:=aO e2;split at e4
  ·rename_i hz;cases e4;refine⟨Pr,F,env,aG,ds,r,e1,λJ H1 F1 r1 s1 y1 a ha=>?_⟩;have hσ:=r1.len.symm.trans hlo;have hPa:=r1.pr.free ha;refine⟨λi m σ' H'=>m=ds.length - i/\i<=ds.length/\∃F' jZ acc ws rest,Rel C (upd Pr a<|.lst ws) F' jZ σ' H'/\aV F1 F'/\bT C.K F' acc ws/\σ'.take lo=σ/\TQ g wk g2 c e (ds.drop i) jZ = .ok rest dD/\acc++rest=ys,
    ⟨ds.length,rfl,Qxx _,F1,aG++List.replicate (n - lo) none,[],[],ys,?_,aV.refl _,rfl,?_,e3,rfl⟩,?_⟩
   ·rw[hσ];exact(r1.aside ha).pad _
   ·unfold qx
    simp_all
   rintro i m σ' H' ⟨rfl,hi,F',jZ,acc,ws,rest,r',s',p',t',l',hacc⟩;have hFa:F' a=none:=by
    cases ez:F' a with
    | none=>rfl
    | some w=>have:=r'.dj a w ez;rw[bC] at this;cases this
   by_cases hl:i<ds.length
   ·have hd:=Qq6 hl;have hdr:=Qx4 hl;have yy:=y1 i H'<|s'.trans r'.fr;refine .inr ⟨(yy.2 _ hd).1,λσ2 H2=>∃F' jZ acc ws rest,Rel C (upd Pr a<|.lst ws) F' jZ σ2 H2/\aV F1 F'/\bT C.K F' acc ws/\σ2.take lo=σ/\TQ g wk g2 c e (ds.drop<|i+1) jZ = .ok rest dD/\acc++rest=ys,
     λσ2 H2 h2=>⟨ds.length - (i+1),by omega,rfl,hl,h2⟩,λx H2 hy=>?_⟩
    obtain⟨F2,r2,s2,p2⟩:=nW.item r' s' y1 hd hy;rw[hdr] at l';unfold TQ at l';cases eg:g ds[i] jZ with
    | none=>simp_all
    | some e5=>
     rw[eg] at l';obtain⟨Fi,e6,c1,l2⟩:=aO l';obtain⟨yI,e7,c2,l3⟩:=aO l2;obtain⟨zs,e8,c3,l4⟩:=aO l3;cases l4;refine⟨_,F2,jZ,e5,ds[i],r2,p2,eg,λσ3 H3 F3 r3 s3 t3=>⟨_,F3,e5,e6,Fi,r3,c1,λJ2 H4 F4 r4 s4 y4=>?_⟩⟩;have t3':=t3.trans t';have s24:=(s2.trans s3).trans s4
     -- the second loop
     refine⟨λi2 m2 σ5 H5=>m2=Fi.length - i2/\i2<=Fi.length/\∃F5 jZ Hl Zo CG,Rel C (upd Pr a<|.lst Zo) F5 jZ σ5 H5/\aV F4 F5/\bT C.K F5 Hl Zo/\σ5.take lo=σ/\uJ g2 c e (Fi.drop i2) jZ = .ok CG e7/\Hl++CG=acc++yI,
      ⟨Fi.length,rfl,Qxx _,F4,e6,acc,ws,yI,r4,aV.refl _,bT.mono s24 _ _ p',t3',c2,rfl⟩,?_⟩
     rintro i2 m2 σ5 H5 ⟨rfl,hi2,F5,amT,Hl,Zo,CG,r5,s5,p5,t5,l5,agc⟩;by_cases hl2:i2<Fi.length
     ·have hd2:=Qq6 hl2;have aoO:=Qx4 hl2;have yy2:=y4 i2 H5<|s5.trans r5.fr;refine .inr ⟨(yy2.2 _ hd2).1,λσ6 H6=>∃F5 jZ Hl Zo CG,Rel C (upd Pr a<|.lst Zo) F5 jZ σ6 H6/\aV F4 F5/\bT C.K F5 Hl Zo/\σ6.take lo=σ/\uJ g2 c e (Fi.drop<|i2+1) jZ = .ok CG e7/\Hl++CG=acc++yI,
       λσ6 H6 h6=>⟨Fi.length - (i2+1),by omega,rfl,hl2,h6⟩,λy H6 hy2=>?_⟩
      obtain⟨F6,r6,s6,p6⟩:=nW.item r5 s5 y4 hd2 hy2;rw[aoO] at l5;unfold uJ at l5;cases eg2:g2 Fi[i2] amT with
      | none=>simp_all
      | some e9=>
       rw[eg2] at l5;obtain⟨b,e10,c4,l6⟩:=aO l5;refine⟨_,F6,amT,e9,Fi[i2],r6,p6,eg2,λσ7 H7 F7 r7 s7 t7=>⟨_,F7,e9,e10,b,r7,c4,λH8 F8 r8 s8=>?_⟩⟩;have t7':=t7.trans t5;have s58:=(s6.trans s7).trans s8;cases b with
       | false=>
        rw[if_neg Qwx];rw[if_neg Qwx] at l6;exact⟨F8,e10,Hl,Zo,CG,r8,s5.trans s58,bT.mono s58 _ _ p5,t7',l6,agc⟩
       | true=>
        rw[if_pos rfl];rw[if_pos rfl] at l6;obtain⟨v,e11,c5,l7⟩:=aO l6;obtain⟨rs3,e12,c6,l8⟩:=aO l7;cases l8;refine⟨_,F8,e10,e11,v,r8,c5,λu H9 F9 r9 s9 p9=>?_⟩;have hlen:Hl.length+(rs3.length+1)=acc.length+yI.length:=by grind
        have hlen2:acc.length+(yI.length+zs.length)=ys.length:=by grind
        refine⟨Zo,r9.pr _ _ bC,by rw[p5.length];omega,F9,e11,Hl++[v],Zo++[u],rs3,?_,s5.trans<|s58.trans s9,(bT.mono (s58.trans s9) _ _ p5).append<|bT.one p9,t7',c6,by simp_all⟩;have r10:=r9.turn (u:=.lst<|Zo++[u]) bC
        rwa [Ko] at r10
     ·have ei2:i2=Fi.length:=by omega
      subst ei2;rw[List.drop_length] at l5;cases l5;rw[Qxv] at agc;refine .inl ⟨(y4 _ H5<|s5.trans r5.fr).1 (Qjv<|Qqv _) rfl,?_⟩;exact⟨F5,e7,Hl,Zo,zs,r5,s'.trans<|s24.trans s5,p5,t5,c3,by simp_all⟩
   ·have ei:i=ds.length:=by omega
    subst ei;rw[List.drop_length] at l';cases l';rw[Qxv] at hacc;subst hacc;refine .inl ⟨(y1 _ H'<|s'.trans r'.fr).1 (Qjv<|Qqv _) rfl,?_⟩;have sP:aV Pr (upd Pr a<|.lst ws):=lB hPa;have r7:Rel C Pr F' (dD.take lo) σ H':=by
     have:=(r'.less sP).cut (by simp_all) r1.fix
     simp_all
    refine q a H' F' r7 (s1.trans s') ⟨⟨hz,ws,r'.pr _ _ bC,p'⟩,hFa,hPa,λj e he hs=>?_⟩;have hj:=(Qwz.mp hs).1;have he':dD[j]? = some (some (true,e)):=by simp_all
    obtain⟨b,g1,_,_,g4⟩:=r'.own j e he';have:σ'[j]? = some (some<|V.ref a):=by grind
    rw[this] at g1;cases g1;rw[bC] at g4;cases g4
  ·cases e4
 ·cases e2
section
variable{X:Cx}{C:Cfg}{pos:Pos}{n:Str}
theorem akP{elt tg iter qG dI:Expr}(N'){spos py:Pos}(lo)(i)(ok:ji X scope N')(G:Good X C)(hi:YW X C tg iter it)
  (bg:∀X',dH X scope N' X'->Y7 X' C lo tg g) (bi:∀X',dH X scope N' X'->YW X' C qG dI wk) (bg2:∀X',dH X scope N' X'->Y7 X' C lo qG g2) (bc:∀X',dH X scope N' X'->Ri X' C ifs c) (be:∀X',dH X scope N' X'->PX X' C elt e)
  (hnd:nM X.N=true:=by rfl) (hfx:C.fx i=none:=by rfl) (hy:X.N[i]? = some n:=by rfl) (hx:Loc X.env.scope n:=by first|exact Or.inl rfl|exact Or.inr rfl)
  (hsw:swapsWith (.ListComp elt [⟨tg,iter,[],0⟩,⟨qG,dI,ifs,0⟩] scope pos) (some (.Name n py)) spos.line X.env=pure true:=by rfl)
  (hf:X.fn n=true\/X.env.scope.names.lookup n=some .local:=by first|exact .inl rfl|exact .inr rfl)
  (hs2:∀X' x,dH X scope N' X'->foldedSetIterable dI X'.env x=pure x:=by intro _ _ _;rfl) (hs:∀x,foldedSetIterable iter X.env x=pure x:=by intro _;rfl):PXS X C (.Assign [.Name n py] (.ListComp elt [⟨tg,iter,[],0⟩,⟨qG,dI,ifs,0⟩] scope pos) spos) (gr i (EY lo N'.length it g wk g2 c e)):=
 (Xe ok G.calm hi bg bi bg2 hs2 bc be (kY hnd) hy hx hsw hf hs).imp λD σ H h=>by
  obtain⟨Pr,F,env,r,f⟩:=h;obtain⟨d,aG,e1,f1⟩:=fO f;have:tN C (EY lo N'.length it g wk g2 c e) σ H λv H1=>zV i v σ H1 D.nx:=⟨Pr,F,env,aG,d,r,e1,λv H1 F1 r1 s1 p1=>f1 _ H1 F1 (r1.Td hfx p1) s1⟩;exact ah5 this
def afM(i:Nat)(a:Ev):bU:=λenv=>match env[i]? with
 | some (some (true,.lst _))=>eY (a env) λd aG=>(match aG[i]?,d with
  | some (some (true,.lst xs)),.lst zs=>if xs.length+zs.length<=sizeLine then .nx (aG.set i (some (true,.lst (xs++zs)))) else .stuck
  | _,_=>.stuck)
 | _=>.stuck
end
end Ev
namespace SX
open PySem PySem.Spec PyProof.Rows L2 PySem.Builtin
noncomputable def Rc(ys:List Str)(x:Str):List Str:=if x∈ys then ys else ys++[x]
def afJ(zs:List Str):List Str:=zs.foldl Rc []
theorem acu(ys)(x):(Rc ys x).length<=ys.length+1:=by
 unfold Rc;split
 ·omega
 ·simp
theorem Zz(zs:List Str):∀ys,(zs.foldl Rc ys).length<=ys.length+zs.length:=by
 induction zs with
 | nil=>simp_all
 | cons z zs ih=>intro ys;rw[Qz9,Qqw];have:=ih<|Rc ys z;have:=acu ys z;omega
noncomputable def led(w:World):Bool:=!(w.params.followText "set-order")
structure TOk(P:Program)(w:World)(es:Array (Int×Value))(t:SetTable)(ys:List Str):Prop where
 el:ElemsOf (strKind P w) es.toList
 tx:∃ss:List Str,StrsAre (es.toList.map (·.2)) ss/\ss.Perm ys
 fit:t.fits es.size=true
 ld:t.led=led w
 pl:es.size≠0->t.plain=false
def Ng(P:Program)(w:World)(h:Heap)(a:Addr)(ys:List Str):Prop:=
 ∃o es ep t,h.get? a=some o/\o.ExactSet/\o.data = .set es ep t/\TOk P w es t ys
open PySem PySem.Spec PyProof.Rows L2 PySem.Builtin Ev
noncomputable def akb(P:Program)(w:World)(a:Addr)(ys:List Str):HO:=.ext λh=>Ng P w h a ys
noncomputable def afl(ys:List (List Nat))(x:List Nat):List (List Nat):=if x∈ys then ys else ys++[x]
def rF(zs:List (List Nat)):List (List Nat):=zs.foldl afl []
theorem mz(h:Ev.strOf x=Ev.strOf y):x=y:=by
 have:=Qzx (λs:Str=>s.cps.toList) h
 assumption
theorem Rf(ys)(x):(afl ys x).map Ev.strOf=Rc (ys.map Ev.strOf) (Ev.strOf x):=by
 unfold afl Rc;by_cases h:x∈ys
 ·grind
 ·rw[if_neg h,if_neg<|λz=>h (by obtain⟨y,hy,e⟩:=Qw3.mp z;rw[<-mz e];exact hy),Qxk]
  rfl
theorem Nu:∀(zs ys:List (List Nat)),(zs.foldl afl ys).map Ev.strOf=(zs.map Ev.strOf).foldl Rc (ys.map Ev.strOf)
 | [],ys=>rfl
 | z::zs,ys=>by rw[Qz9,Nu zs,Rf,Qq2,Qz9]
theorem Wr(zs):(rF zs).map Ev.strOf=afJ (zs.map Ev.strOf):=Nu zs []
theorem Hs(zs):(rF zs).length<=zs.length:=by
 have h:=Zz (zs.map Ev.strOf) [];have e:=Qzx List.length<|Wr zs;rw[Qqz] at e;rw[e]
 simpa[afJ] using h
end SX
namespace Ev
open PySem PySem.Spec PyProof.Rows L2 PySem.Builtin
section
variable{X:Cx}{C:Cfg}{pos:Pos}{x:Expr}{a:Ev}
structure PXL(X:Cx)(C:Cfg)(es:List Expr)(ev:dq):Prop where
 go:Y8 X C es ev
theorem adD:PXL X C [] aj:=⟨Vh⟩
noncomputable def amz:D->Option D
 | .tup xs=>some (.tup xs.reverse)
 | _=>none
end
open PySem L2
theorem nr{α:Type}{a b:α}(h:a=b):a=b:=h
theorem bR{α β:Type}(a)(e)(f:α->Env->R β):bindR (.ok a e) f=f a e:=nr rfl
theorem bO{α:Type}(a)(e)(f:α->Env->Out):eY (.ok a e) f=f a e:=nr rfl
theorem lR{α:Type}(a:α)(e):fG (some a) e = .ok a e:=nr rfl
theorem lO(e):HY (some e) = .nx e:=nr rfl
noncomputable def WY{α:Type}(_:Env):R α:=.stuck
noncomputable def Z8(o:Out)(b:bU):Out:=match o with
 | .nx e=>b e
 | .rt o d e=>.rt o d e
 | .bk e=>.bk e
 | .ct e=>.ct e
 | .stuck=>.stuck
theorem ada(a b)(env):aF a b env=Z8 (a env) b:=nr rfl
theorem sNx(e)(b):Z8 (.nx e) b=b e:=nr rfl
theorem sRt(o)(d)(e)(b):Z8 (.rt o d e) b = .rt o d e:=nr rfl
theorem sBk(e)(b):Z8 (.bk e) b = .bk e:=nr rfl
theorem sCt(e)(b):Z8 (.ct e) b = .ct e:=nr rfl
noncomputable def Vy{α:Type}(c:Bool)(a b:Env->α)(env:Env):α:=if c=true then a env else b env
theorem iT{α:Type}(a b:Env->α)(env):Vy true a b env=a env:=nr rfl
theorem iF{α:Type}(a b:Env->α)(env):Vy false a b env=b env:=nr rfl
def kIf{α:Type}(a b:Env->α)(c:Bool)(e:Env):α:=Vy c a b e
theorem al6{α:Type}(a b:Env->α)(c)(e):kIf a b c e=Vy c a b e:=nr rfl
theorem agM(t)(a b)(env):cJ t a b env=eY (t env) (kIf a b):=nr rfl
theorem ajA(t)(a b)(env):ao7 t a b env=bindR (t env) (kIf a b):=nr rfl
noncomputable def okT(b:Bool):fX:=λe=>.ok b e
theorem als(b)(e):okT b e = .ok b e:=nr rfl
theorem aca(a b)(env):fZ a b env=bindR (a env) (kIf b (okT false)):=nr rfl
theorem aeV(a b)(env):iI a b env=bindR (a env) (kIf (okT true) b):=nr rfl
noncomputable def blR{α:Type}(d:D)(f:Bool->R α):R α:=match d with
 | .bl b=>f b
 | _=>.stuck
theorem bB{α:Type}(b)(f:Bool->R α):blR (.bl b) f=f b:=nr rfl
noncomputable def okB(b:Bool):Ev:=λe=>.ok (.bl b) e
theorem alu(b)(e):okB b e = .ok (.bl b) e:=nr rfl
def Ql(a b:Ev)(d:D)(e:Env):R D:=blR d (TY a b e)
where TY (a b:Ev) (e:Env) (c:Bool):R D:=Vy c a b e
theorem aet(a b)(d)(e):Ql a b d e=blR d (Ql.TY a b e):=nr rfl
theorem abB(a b)(e)(c):Ql.TY a b e c=Vy c a b e:=nr rfl
theorem ae5(a b)(env):gw a b env=bindR (a env) (Ql b (okB false)):=by
 unfold gw
 congr 1
 funext d e
 cases d with
 | bl b=>cases b<;>rfl
 | _=>rfl
theorem ajy(a b)(env):Yl a b env=bindR (a env) (Ql (okB true) b):=by
 unfold Yl
 congr 1
 funext d e
 cases d with
 | bl b=>cases b<;>rfl
 | _=>rfl
noncomputable def abq(e:Env)(c:Bool):R D:=.ok (.bl (!c)) e
def al2(d:D)(e:Env):R D:=blR d (abq e)
theorem aek(e)(c):abq e c = .ok (.bl (!c)) e:=nr rfl
theorem ail(d)(e):al2 d e=blR d (abq e):=nr rfl
theorem aeW(a)(env):Ez a env=bindR (a env) al2:=by rfl
noncomputable def kB2(e:Env)(c:Bool):R Bool:=.ok c e
def kB(d:D)(e:Env):R Bool:=blR d (kB2 e)
theorem amd(e)(c):kB2 e c = .ok c e:=nr rfl
theorem aoz(d)(e):kB d e=blR d (kB2 e):=nr rfl
theorem amS(a)(env):cX a env=bindR (a env) kB:=by rfl
noncomputable def Xa{α:Type}(o:Option (Option (Bool×D)))(f:Bool->D->R α):R α:=match o with
 | some (some (o,d))=>f o d
 | _=>.stuck
theorem rS{α:Type}(o)(d)(f:Bool->D->R α):Xa (some (some (o,d))) f=f o d:=nr rfl
noncomputable def kRd(env:Env)(_:Bool)(d:D):R D:=.ok d env
theorem al0(env)(o)(d):kRd env o d = .ok d env:=nr rfl
theorem ajx(i)(env):bh i env=Xa env[i]? (kRd env):=by rfl
noncomputable def alT(i:Nat)(env:Env)(o:Bool)(d:D):R D:=.ok d (bif o then env.set i (some (false,d)) else env)
theorem aib(i)(env)(o)(d):alT i env o d = .ok d (bif o then env.set i (some (false,d)) else env):=nr rfl
theorem aeN(i)(env):aM i env=Xa env[i]? (alT i env):=by
 unfold aM Xa;cases env[i]? with
 | none=>rfl
 | some o=>
  cases o with
  | none=>rfl
  | some p=>obtain⟨b,d⟩:=p;cases b<;>rfl
def T3(g:D->D->Option D)(y:D)(e:Env)(_:Bool)(x:D):R D:=fG (g x y) e
def T4(g:D->D->Option D)(i:Nat)(y:D)(e:Env):R D:=Xa e[i]? (T3 g y e)
def af7(g:D->D->Option D)(i:Nat)(b:Ev)(env:Env)(_:Bool)(_:D):R D:=bindR (b env) (T4 g i)
theorem abC(g)(y)(e)(o)(x):T3 g y e o x=fG (g x y) e:=nr rfl
theorem abD(g)(i)(y)(e):T4 g i y e=Xa e[i]? (T3 g y e):=nr rfl
theorem aeu(g)(i)(b)(env)(o)(d):af7 g i b env o d=bindR (b env) (T4 g i):=nr rfl
theorem ab9(g)(i)(b)(env):ao g i b env=Xa env[i]? (af7 g i b env):=by rfl
noncomputable def ioR{α:Type}(o:Option (D×D))(f:D->D->R α):R α:=match o with
 | some (d,x)=>f d x
 | none=>.stuck
theorem oS{α:Type}(d x)(f:D->D->R α):ioR (some (d,x)) f=f d x:=nr rfl
noncomputable def aiw(i:Nat)(e:Env)(d x':D):R D:=.ok d (e.set i (some (true,x')))
def aiy(f:List D->Option (D×D))(i:Nat)(x:D)(ds:List D)(e:Env):R D:=ioR (f (x::ds)) (aiw i e)
def abu(f:List D->Option (D×D))(i:Nat)(ds:List D)(e:Env)(o:Bool)(x:D):R D:=Vy o (aiy f i x ds) WY e
def aiB(f:List D->Option (D×D))(i:Nat)(ds:List D)(e:Env):R D:=Xa e[i]? (abu f i ds e)
def aiD(f:List D->Option (D×D))(i:Nat)(a:dq)(env:Env):R D:=bindR (a env) (aiB f i)
def kIO(f:List D->Option (D×D))(i:Nat)(a:dq)(env:Env)(o:Bool)(_:D):R D:=Vy o (aiD f i a) WY env
theorem aiv(i)(e)(d x'):aiw i e d x' = .ok d (e.set i (some (true,x'))):=nr rfl
theorem aix(f)(i)(x)(ds)(e):aiy f i x ds e=ioR (f (x::ds)) (aiw i e):=nr rfl
theorem aiz(f)(i)(ds)(e)(o)(x):abu f i ds e o x=Vy o (aiy f i x ds) WY e:=nr rfl
theorem aiA(f)(i)(ds)(e):aiB f i ds e=Xa e[i]? (abu f i ds e):=nr rfl
theorem aiC(f)(i)(a)(env):aiD f i a env=bindR (a env) (aiB f i):=nr rfl
theorem al8(f)(i)(a)(env)(o)(d):kIO f i a env o d=Vy o (aiD f i a) WY env:=nr rfl
theorem ajB(f)(i)(a)(env):dM f i a env=Xa env[i]? (kIO f i a env):=by
 unfold dM Xa kIO Vy;cases env[i]? with
 | none=>rfl
 | some o=>
  cases o with
  | none=>rfl
  | some p=>
   obtain⟨b,d⟩:=p;cases b with
   | false=>rfl
   | true=>
    show bindR (a env) _=bindR (a env) _
    congr 1
    funext ds e
    show _=Xa e[i]? (abu f i ds e);unfold Xa abu Vy;cases e[i]? with
    | none=>rfl
    | some o=>
     cases o with
     | none=>rfl
     | some p=>obtain⟨b,d⟩:=p;cases b<;>rfl
noncomputable def abr(e:Env)(d _:D):R D:=.ok d e
def abt(f:List D->Option (D×D))(x:D)(ds:List D)(e:Env):R D:=ioR (f (x::ds)) (abr e)
def al7(f:List D->Option (D×D))(a:dq)(x:D)(e:Env):R D:=bindR (a e) (abt f x)
theorem ael(e)(d x):abr e d x = .ok d e:=nr rfl
theorem aem(f)(x)(ds)(e):abt f x ds e=ioR (f (x::ds)) (abr e):=nr rfl
theorem aiu(f)(a)(x)(e):al7 f a x e=bindR (a e) (abt f x):=nr rfl
theorem ae1(f)(c)(a)(env):amQ f c a env=bindR (c env) (al7 f a):=nr rfl
noncomputable def ai3{α:Type}(d:D)(f:Int->R α):R α:=match d with
 | .int i=>f i
 | _=>.stuck
theorem nS{α:Type}(i)(f:Int->R α):ai3 (.int i) f=f i:=nr rfl
noncomputable def kP2(e:Env)(i:Int):R (Option Int):=.ok (some i) e
def kP(d:D)(e:Env):R (Option Int):=ai3 d (kP2 e)
theorem al1(e)(i):kP2 e i = .ok (some i) e:=nr rfl
theorem aow(d)(e):kP d e=ai3 d (kP2 e):=nr rfl
theorem amP(a)(env):xG a env=bindR (a env) kP:=nr rfl
noncomputable def obR{α:Type}(o:Option D)(f:Bool->R α):R α:=match o with
 | some (.bl k)=>f k
 | _=>.stuck
theorem obS{α:Type}(k)(f:Bool->R α):obR (some (.bl k)) f=f k:=nr rfl
def aiP(g':D->D->Option D)(v t:D)(e:Env):R D:=fG (g' v t) e
def aiR(g':D->D->Option D)(c:Ev)(v:D)(e:Env):R D:=bindR (c e) (aiP g' v)
def abA(g':D->D->Option D)(c:Ev)(v:D)(e:Env)(k:Bool):R D:=Vy k (aiR g' c v) (okB false) e
def aiT(g g':D->D->Option D)(c:Ev)(u v:D)(e:Env):R D:=obR (g u v) (abA g' c v e)
def kCh(g g':D->D->Option D)(b c:Ev)(u:D)(e:Env):R D:=bindR (b e) (aiT g g' c u)
theorem aiO(g')(v t)(e):aiP g' v t e=fG (g' v t) e:=nr rfl
theorem aiQ(g')(c)(v)(e):aiR g' c v e=bindR (c e) (aiP g' v):=nr rfl
theorem aes(g')(c)(v)(e)(k):abA g' c v e k=Vy k (aiR g' c v) (okB false) e:=nr rfl
theorem aiS(g g')(c)(u v)(e):aiT g g' c u v e=obR (g u v) (abA g' c v e):=nr rfl
theorem amb(g g')(b c)(u)(e):kCh g g' b c u e=bindR (b e) (aiT g g' c u):=nr rfl
theorem Yo(g g')(a b c)(env):pH g g' a b c env=bindR (a env) (kCh g g' b c):=by rfl
noncomputable def uI(o:Out)(k:bU):Out:=match o with
 | .nx e=>k e
 | .ct e=>k e
 | .bk e=>.nx e
 | .rt o d e=>.rt o d e
 | .stuck=>.stuck
theorem kNx(e)(b):uI (.nx e) b=b e:=nr rfl
theorem kRt(o)(d)(e)(b):uI (.rt o d e) b = .rt o d e:=nr rfl
theorem kBk(e)(b):uI (.bk e) b = .nx e:=nr rfl
theorem kCt(e)(b):uI (.ct e) b=b e:=nr rfl
noncomputable def gvK(o:Option Env)(b:bU):Out:=match o with
 | none=>.stuck
 | some e=>b e
theorem vS(e)(b):gvK (some e) b=b e:=nr rfl
def kFor(g:GV)(b:bU)(ds:List D)(e:Env):Out:=uI (b e) (lV g b ds)
theorem Dy(g)(b)(ds)(e):kFor g b ds e=uI (b e) (lV g b ds):=nr rfl
theorem ajt(g)(b)(env):lV g b [] env = .nx env:=nr rfl
theorem v9(g)(b)(d)(ds)(env):lV g b (d::ds) env=gvK (g d env) (kFor g b ds):=by rfl
def kWh(t:fX)(b:bU)(n:Nat):bU:=λe=>uI (b e) (Kl t b n)
theorem alS(t)(b)(n)(e):kWh t b n e=uI (b e) (Kl t b n):=nr rfl
noncomputable def gvR{α:Type}(o:Option Env)(b:Env->R α):R α:=match o with
 | none=>.stuck
 | some e=>b e
theorem wS{α:Type}(e)(b:Env->R α):gvR (some e) b=b e:=nr rfl
noncomputable def aio(y:D)(ys:List D)(e:Env):R (List D):=.ok (y::ys) e
def aiq(g:GV)(c:fX)(el:Ev)(ds:List D)(y:D)(e:Env):R (List D):=bindR (uJ g c el ds e) (aio y)
def ais(g:GV)(c:fX)(el:Ev)(ds:List D)(e:Env):R (List D):=bindR (el e) (aiq g c el ds)
def kLc(g:GV)(c:fX)(el:Ev)(ds:List D)(e:Env):R (List D):=bindR (c e) (kIf (ais g c el ds) (uJ g c el ds))
theorem ain(y)(ys)(e):aio y ys e = .ok (y::ys) e:=nr rfl
theorem aip(g)(c)(el)(ds)(y)(e):aiq g c el ds y e=bindR (uJ g c el ds e) (aio y):=nr rfl
theorem air(g)(c)(el)(ds)(e):ais g c el ds e=bindR (el e) (aiq g c el ds):=nr rfl
theorem al4(g)(c)(el)(ds)(e):kLc g c el ds e=bindR (c e) (kIf (ais g c el ds) (uJ g c el ds)):=nr rfl
theorem alO(g)(c)(e)(env):uJ g c e [] env = .ok [] env:=nr rfl
theorem alP(g)(c)(e)(d)(ds)(env):uJ g c e (d::ds) env=gvR (g d env) (kLc g c e ds):=by rfl
noncomputable def agW(o:Out):Option D:=match o with
 | .rt false d _=>some d
 | .nx _=>some .non
 | _=>none
theorem agU(n)(ev)(ds):cj n ev ds=agW (ev (envOf n ds)):=nr rfl
theorem dRt(d)(e):agW (.rt false d e)=some d:=nr rfl
theorem dNx(e):agW (.nx e)=some .non:=nr rfl
noncomputable def szR{α:Type}(n:Nat)(x:R α):R α:=if n<=sizeLine then x else .stuck
theorem zR{α:Type}{x:R α}(h:n<=sizeLine):szR n x=x:=if_pos h
def alV(ds:List D)(e:Env):R D:=szR ds.length (.ok (.tup ds) e)
theorem aic(ds)(e):alV ds e=szR ds.length (.ok (.tup ds) e):=nr rfl
theorem aeO(r)(env):cI r env=bindR (r env) alV:=nr rfl
def al3(ds:List D)(e:Env):R D:=szR ds.length (.ok (.lst ds) e)
theorem aim(ds)(e):al3 ds e=szR ds.length (.ok (.lst ds) e):=nr rfl
theorem aeZ(r)(env):dF r env=bindR (r env) al3:=nr rfl
noncomputable def lsO(o:Option (Option (Bool×D)))(f:List D->Out):Out:=match o with
 | some (some (true,.lst xs))=>f xs
 | _=>.stuck
theorem lS(xs)(f):lsO (some (some (true,.lst xs))) f=f xs:=nr rfl
noncomputable def szO(n:Nat)(x:Out):Out:=if n<=sizeLine then x else .stuck
theorem zO(h:n<=sizeLine):szO n x=x:=if_pos h
def abF(i:Nat)(d:D)(e:Env)(xs:List D):Out:=szO (xs.length+1) (.nx (e.set i (some (true,.lst (xs++[d])))))
def abG(i:Nat)(d:D)(e:Env):Out:=lsO e[i]? (abF i d e)
def amf(i:Nat)(a:Ev)(env:Env)(_:List D):Out:=eY (a env) (abG i)
theorem aew(i)(d)(e)(xs):abF i d e xs=szO (xs.length+1) (.nx (e.set i (some (true,.lst (xs++[d]))))):=nr rfl
theorem aex(i)(d)(e):abG i d e=lsO e[i]? (abF i d e):=nr rfl
theorem aiW(i)(a)(env)(xs):amf i a env xs=eY (a env) (abG i):=nr rfl
theorem adh(i)(a)(env):iH i a env=lsO env[i]? (amf i a env):=nr rfl
noncomputable def ldO(d:D)(f:List D->Out):Out:=match d with
 | .lst xs=>f xs
 | _=>.stuck
theorem eS(xs)(f):ldO (.lst xs) f=f xs:=nr rfl
def abv(i:Nat)(e:Env)(xs zs:List D):Out:=szO (xs.length+zs.length) (.nx (e.set i (some (true,.lst (xs++zs)))))
def Qk(i:Nat)(d:D)(e:Env)(xs:List D):Out:=ldO d (abv i e xs)
def abw(i:Nat)(d:D)(e:Env):Out:=lsO e[i]? (Qk i d e)
def aiF(i:Nat)(a:Ev)(env:Env)(_:List D):Out:=eY (a env) (abw i)
theorem aen(i)(e)(xs zs):abv i e xs zs=szO (xs.length+zs.length) (.nx (e.set i (some (true,.lst (xs++zs))))):=nr rfl
theorem aeo(i)(d)(e)(xs):Qk i d e xs=ldO d (abv i e xs):=nr rfl
theorem aep(i)(d)(e):abw i d e=lsO e[i]? (Qk i d e):=nr rfl
theorem aiE(i)(a)(env)(xs):aiF i a env xs=eY (a env) (abw i):=nr rfl
theorem adf(i)(a)(env):afM i a env=lsO env[i]? (aiF i a env):=by
 unfold afM lsO aiF;cases env[i]? with
 | none=>rfl
 | some o=>
  cases o with
  | none=>rfl
  | some p=>
   obtain⟨b,d⟩:=p;cases b with
   | false=>rfl
   | true=>
    cases d with
    | lst xs=>
     show eY (a env) _=eY (a env) _
     congr 1
     funext d e
     show _=lsO e[i]? (Qk i d e);unfold lsO Qk;cases e[i]? with
     | none=>rfl
     | some o=>
      cases o with
      | none=>rfl
      | some p=>
       obtain⟨b,u⟩:=p;cases b with
       | false=>rfl
       | true=>
        cases u with
        | lst ys=>cases d<;>rfl
        | _=>rfl
    | _=>rfl
theorem aeK(h:a.length+b.length<=sizeLine):cA (.str a) (.str b)=some (.str (a++b)):=if_pos h
theorem Mu(h:a.length+b.length<=sizeLine):cA (.tup a) (.tup b)=some (.tup (a++b)):=if_pos h
theorem Mv(h:a.length+b.length<=sizeLine):cA (.lst a) (.lst b)=some (.lst (a++b)):=if_pos h
theorem aeJ(h:a.length+b.length<=sizeLine):ao4 (.lst a) (.lst b)=some (.lst (a++b)):=if_pos h
theorem amx(xs)(lo hi):gSl (.lst xs) lo hi=some (.lst (cutD xs lo hi)):=nr rfl
theorem amy(xs)(lo hi):gSl (.arr xs) lo hi=some (.lst (cutD xs lo hi)):=nr rfl
theorem ajc(x)(lo hi):ajd (.str x) lo hi=some (.str (cutD x lo hi)):=nr rfl
theorem aji(x):ajj (.str x)=some (.str x.reverse):=nr rfl
theorem aeE(x):amz (.tup x)=some (.tup x.reverse):=nr rfl
theorem amk(xs):itD (.lst xs)=some xs:=nr rfl
theorem aml(xs):itD (.arr xs)=some xs:=nr rfl
theorem ami(xs):itD (.tup xs)=some xs:=nr rfl
theorem amj(x):itD (.str x)=some (gW x):=nr rfl
theorem Qx(xs)(lo hi):T9 (.tup xs) lo hi=some (.tup (cutD xs lo hi)):=by
 show(if HT.gP xs.length 0 lo=0/\HT.gP xs.length xs.length hi=xs.length then some (D.tup xs) else some (D.tup<|cutD xs lo hi))=_;split
 ·rename_i h;unfold cutD
  simp_all
 ·rfl
theorem uL(xs)(k):bZ (.tup xs) (.int k)=qF xs k:=nr rfl
theorem QC(xs)(k):bZ (.lst xs) (.int k)=qF xs k:=nr rfl
theorem amC(x)(k):bZ (.str x) (.int k)=(qF x k).map λc=>.str [c]:=nr rfl
theorem at0{α:Type}(x)(r:List α):qF (x::r) 0=some x:=lY rfl
theorem at1{α:Type}(x y)(r:List α):qF (x::y::r) 1=some y:=lY rfl
theorem at2{α:Type}(x y z)(r:List α):qF (x::y::z::r) 2=some z:=lY rfl
theorem at3{α:Type}(x y z u)(r:List α):qF (x::y::z::u::r) 3=some u:=lY rfl
theorem atN{α:Type}(xs:List α)(k:Nat):qF xs k=xs[k]?:=by
 cases h:xs[k]? with
 | some x=>exact lY h
 | none=>
  have hl:=List.getElem?_eq_none_iff.mp h;unfold qF Vw
  simp_all
theorem ajr(i j):cA (.int i) (.int j)=some (.int (i+j)):=nr rfl
theorem ajn(x):cY [.str x]=some (.int x.length):=nr rfl
theorem El(x):cY [.tup x]=some (.int x.length):=nr rfl
theorem Uc(x):cY [.lst x]=some (.int x.length):=nr rfl
theorem ajo(x):cY [.arr x]=some (.int x.length):=nr rfl
theorem abV(x):dX [.lst x]=some (.tup x):=nr rfl
theorem abU(x):dX [.tup x]=some (.tup x):=nr rfl
theorem aeF(x):qz [.tup x]=some (.lst x):=nr rfl
theorem aeH(x):qz [.lst x]=some (.lst x):=nr rfl
theorem aeG(x):qz [.str x]=some (.lst (signs x)):=nr rfl
theorem agd(a b):gQ (.str a) (.str b)=some (.bl (a == b)):=nr rfl
theorem VJ(a b):Gr (.str a) (.str b)=some (.bl (!(a == b))):=nr rfl
theorem xB(a b):gQ (.int a) (.int b)=some (.bl (a == b)):=nr rfl
theorem abW(a b):Gr (.int a) (.int b)=some (.bl (!(a == b))):=nr rfl
theorem JK(a b):QB (.int a) (.int b)=some (.bl (decide (a<=b))):=nr rfl
theorem Qz(a b):VP (.int a) (.int b)=some (.bl (decide (a<b))):=nr rfl
theorem amG(a b):gGt (.int a) (.int b)=some (.bl (decide (b<a))):=nr rfl
theorem amI(a b):gGe (.int a) (.int b)=some (.bl (decide (b<=a))):=nr rfl
theorem amA(a b):VP (.str a) (.str b)=some (.bl (decide (a<b))):=nr rfl
theorem ajb(a b):m7 (.int a) (.int b)=some (.int (a - b)):=nr rfl
theorem amE(c)(z):En (.str [c]) (.str z)=some (.bl (decide (c∈z))):=nr rfl
theorem am5{α:Type}(p):∀l:List α,ue (l.map λa=>D.bl (p a))=some (l.map p)
 | []=>rfl
 | a::l=>by
  rw[Qq2];unfold ue;rw[am5 p l]
  rfl
theorem zW{α:Type}(p)(l:List α):qC [.lst (l.map λa=>D.bl (p a))]=some (.bl (l.all p)):=by
 show(ue _).map _=_;rw[am5]
 simp_all
noncomputable def uC:D->Bool
 | .clo _ _=>false
 | _=>true
theorem ajp(T)(d)(h:uC d=true):fL T d=some (.bl (eF d T)):=by cases d<;>first|rfl|cases h
theorem agK(n):fJ 0 1 n=(List.range n).map λ(i:Nat)=>D.int i:=by
 unfold fJ
 simp_all
theorem Cz{n:Nat}(h:n<2^62):qO [.int n]=some ((List.range n).map λ(i:Nat)=>D.int i):=by
 have hf:j6 n=true:=by
  unfold j6
  grind
 show(if j6 n=true then some (fJ 0 1 (n:Int).toNat) else none)=_;rw[if_pos hf,Qxw,agK]
theorem ao1(n)(gs)(xs)(env)(h:xs.length=n):d8 n gs (.tup xs) env=gs xs env:=if_pos h
noncomputable def gvB(o:Option Env)(f:Env->Option Env):Option Env:=o.bind f
theorem gB(e)(f):gvB (some e) f=f e:=nr rfl
theorem abO(g)(gs)(d)(ds)(env):bu g gs (d::ds) env=gvB (g d env) (gs ds):=nr rfl
theorem aeC(env):eG [] env=some env:=nr rfl
noncomputable def alZ(d:D)(e:Env):Out:=.rt false d e
theorem aii(d)(e):alZ d e = .rt false d e:=nr rfl
theorem adb(a)(env):aY a env=eY (a env) alZ:=nr rfl
theorem ZS(env):agL env = .rt false .non env:=nr rfl
def ame(g:GV)(d:D)(e:Env):Out:=HY (g d e)
theorem aiV(g)(d)(e):ame g d e=HY (g d e):=nr rfl
theorem adg(a)(g)(env):aX a g env=eY (a env) (ame g):=nr rfl
noncomputable def kOwn(i:Nat)(d:D)(e:Env):Out:=.nx (e.set i (some (true,d)))
theorem aij(i)(d)(e):kOwn i d e = .nx (e.set i (some (true,d))):=nr rfl
theorem Vb(i)(a)(env):gr i a env=eY (a env) (kOwn i):=nr rfl
theorem ZV(env):bJ env = .nx env:=nr rfl
theorem ade(it)(g)(b)(env):gU it g b env=eY (it env) (lV g b):=nr rfl
theorem amR(d)(env):j7 d env = .ok d env:=nr rfl
theorem ab6(env):Fd env = .ok (.dct []) env:=nr rfl
theorem aeY(env):aj env = .ok [] env:=nr rfl
theorem ab2(env):cR env = .ok true env:=nr rfl
theorem aeX(env):mq env = .ok none env:=nr rfl
noncomputable def TX(d:D)(ds:List D)(e:Env):R (List D):=.ok (d::ds) e
def af6(r:dq)(d:D)(e:Env):R (List D):=bindR (r e) (TX d)
theorem abz(d)(ds)(e):TX d ds e = .ok (d::ds) e:=nr rfl
theorem aer(r)(d)(e):af6 r d e=bindR (r e) (TX d):=nr rfl
theorem ab7(a)(r)(env):aa a r env=bindR (a env) (af6 r):=nr rfl
def abE(g:D->D->Option D)(x y:D)(e:Env):R D:=fG (g x y) e
def amc(g:D->D->Option D)(b:Ev)(x:D)(e:Env):R D:=bindR (b e) (abE g x)
theorem aev(g)(x y)(e):abE g x y e=fG (g x y) e:=nr rfl
theorem aiU(g)(b)(x)(e):amc g b x e=bindR (b e) (abE g x):=nr rfl
theorem ae3(g)(a b)(env):aN g a b env=bindR (a env) (amc g b):=nr rfl
def kUn{α β:Type}(g:α->Option β)(x:α)(e:Env):R β:=fG (g x) e
theorem alU{α β:Type}(g:α->Option β)(x)(e):kUn g x e=fG (g x) e:=nr rfl
theorem ajv(g)(a)(env):dY g a env=bindR (a env) (kUn g):=nr rfl
theorem ab8(g)(a)(env):az g a env=bindR (a env) (kUn g):=nr rfl
noncomputable def af5(b:Bool)(e:Env):R Bool:=.ok (!b) e
theorem aej(b)(e):af5 b e = .ok (!b) e:=nr rfl
theorem ab4(a)(env):cZ a env=bindR (a env) af5:=nr rfl
def aie(s:D->Option Int->Option Int->Option D)(d:D)(l u:Option Int)(e:Env):R D:=fG (s d l u) e
def aih(s:D->Option Int->Option Int->Option D)(hi:Gq)(d:D)(l:Option Int)(e:Env):R D:=bindR (hi e) (aie s d l)
def kSl(s:D->Option Int->Option Int->Option D)(lo hi:Gq)(d:D)(e:Env):R D:=bindR (lo e) (aih s hi d)
theorem aid(s)(d)(l u)(e):aie s d l u e=fG (s d l u) e:=nr rfl
theorem aif(s)(hi)(d)(l)(e):aih s hi d l e=bindR (hi e) (aie s d l):=nr rfl
theorem alX(s)(lo hi)(d)(e):kSl s lo hi d e=bindR (lo e) (aih s hi d):=nr rfl
theorem ajw(a)(lo hi)(env):zm a lo hi env=bindR (a env) (kSl gSl lo hi):=nr rfl
theorem aeQ(a)(lo hi)(env):zY a lo hi env=bindR (a env) (kSl ajd lo hi):=nr rfl
theorem aeP(a)(lo hi)(env):JM a lo hi env=bindR (a env) (kSl T9 lo hi):=nr rfl
theorem aeU(a)(env):rJ a env=bindR (a env) (kUn ajj):=nr rfl
theorem ajz(a)(env):iD a env=bindR (a env) (kUn itD):=nr rfl
theorem aeS(a)(env):fc a env=bindR (a env) (kUn qO):=nr rfl
theorem abN(i)(d)(env):au i d env=some (env.set i (some (false,d))):=nr rfl
theorem gt0{α:Type}(a)(l:List α):(a::l)[0]? = some a:=nr rfl
theorem gtS{α:Type}(a)(l:List α)(i):(a::l)[i+1]? = l[i]?:=nr rfl
theorem st0{α:Type}(a b)(l:List α):(a::l).set 0 b=b::l:=nr rfl
theorem stS{α:Type}(a b)(l:List α)(i):(a::l).set (i+1) b=a::l.set i b:=nr rfl
theorem cdT{α:Type}(a b:α):(bif true then a else b)=a:=nr rfl
theorem cdF{α:Type}(a b:α):(bif false then a else b)=b:=nr rfl
theorem abf{α:Type}(enc)(ext:α->Env)(p)(out)(env)(k):∀(l:List α) vs,vs.length=k->
  (∀a∈l,(ext a).length=k/\(∀vs,vs.length=k->g (enc a) (env++vs)=some (env++ext a))/\c (env++ext a) = .ok (p a) (env++ext a)/\(p a=true->e (env++ext a) = .ok (out a) (env++ext a)))->
  ∃vs',vs'.length=k/\uJ g c e (l.map enc) (env++vs) = .ok ((l.filter p).map out) (env++vs')
 | [],vs,hv,_=>⟨vs,hv,rfl⟩
 | a::l,vs,hv,h=>by
  obtain⟨h1,h2,h3,h4⟩:=h a Qq3;obtain⟨vs',h5,h6⟩:=abf enc ext p out env k l (ext a) h1 λb hb=>h b<|Qqy _ hb;refine⟨vs',h5,?_⟩;rw[Qq2];unfold uJ;rw[h2 vs hv];show bindR (c<|env++ext a) _=_;rw[h3,bR];cases hp:p a with
  | true=>rw[if_pos rfl,h4 hp,bR,h6,bR,List.filter_cons_of_pos hp,Qq2]
  | false=>simp_all
theorem zp{α:Type}{lo n:Nat}(l:List α)(enc)(ext:α->Env)(p)(out)(hit:it env = .ok (l.map enc) aG)(hlo:aG.length=lo)
  (h:∀a∈l,(ext a).length=n - lo/\(∀vs,vs.length=n - lo->g (enc a) (aG++vs)=some (aG++ext a))/\c (aG++ext a) = .ok (p a) (aG++ext a)/\(p a=true->e (aG++ext a) = .ok (out a) (aG++ext a)))
  (hz:l.length<=sizeLine):fM lo n it g c e env = .ok (.lst ((l.filter p).map out)) aG:=by
 obtain⟨vs',h5,h6⟩:=abf enc ext p out aG (n - lo) l (List.replicate (n - lo) none) Qw5 h;have:=uy hit hlo h6<|Qqj (by grind) hz
 simp_all
theorem o6{α:Type}{lo n:Nat}(l:List α)(enc)(out)(hit:it env = .ok (l.map enc) aG)(hlo:aG.length=lo)(hn:n=lo+1)
  (h:∀a∈l,e (aG++[some (false,enc a)]) = .ok (out a) (aG++[some (false,enc a)])) (hz:l.length<=sizeLine):fM lo n it (au lo) cR e env = .ok (.lst (l.map out)) aG:=by
 subst hn hlo;have:=zp (n:=aG.length+1) (g:=au aG.length) (c:=cR) l enc (λa=>[some (false,enc a)]) (λ_=>true) out hit rfl (λa ha=>⟨by simp,λvs hv=>?_,rfl,λ_=>h a ha⟩) hz
 ·rw[this,List.filter_eq_self.mpr<|λ_ _=>rfl]
 ·have hv:vs.length=1:=by omega
  obtain⟨v,rfl⟩:=List.length_eq_one_iff.mp hv;unfold au
  simp_all
theorem Br{α:Type}{lo n:Nat}(l:List α)(enc)(p)(out)(hit:it env = .ok (l.map enc) aG)(hlo:aG.length=lo)(hn:n=lo+1)
  (hc:∀a∈l,c (aG++[some (false,enc a)]) = .ok (p a) (aG++[some (false,enc a)]))
  (h:∀a∈l,p a=true->e (aG++[some (false,enc a)]) = .ok (out a) (aG++[some (false,enc a)])) (hz:l.length<=sizeLine):fM lo n it (au lo) c e env = .ok (.lst ((l.filter p).map out)) aG:=by
 subst hn hlo;refine zp l enc (λa=>[some (false,enc a)]) p out hit rfl (λa ha=>⟨by simp,λvs hv=>?_,hc a ha,λhp=>h a ha hp⟩) hz;have hv:vs.length=1:=by omega
 obtain⟨v,rfl⟩:=List.length_eq_one_iff.mp hv;unfold au
 simp_all
open PySem PySem.Spec PyProof.Rows L2
section
variable{X:Cx}{C:Cfg}
theorem nc0:((0:Nat):Int)=0:=nr rfl
theorem nc1:((1:Nat):Int)=1:=nr rfl
theorem nc2:((2:Nat):Int)=2:=nr rfl
theorem nc3:((3:Nat):Int)=3:=nr rfl
theorem nc4:((4:Nat):Int)=4:=nr rfl
theorem nc5:((5:Nat):Int)=5:=nr rfl
theorem nc6:((6:Nat):Int)=6:=nr rfl
theorem nc7:((7:Nat):Int)=7:=nr rfl
theorem nc8:((8:Nat):Int)=8:=nr rfl
end
noncomputable def aai(o:Out):Option (D×D):=match o with
 | .rt false d env=>(match env[0]? with
  | some (some (true,x'))=>some (d,x')
  | _=>none)
 | .nx env=>(match env[0]? with
  | some (some (true,x'))=>some (.non,x')
  | _=>none)
 | _=>none
theorem adp(n)(ev)(x)(r):lE n ev (x::r)=aai (ev (xH n x r)):=nr rfl
theorem aoC(d x)(e:Env):aai (.rt false d (some (true,x)::e))=some (d,x):=nr rfl
theorem aoD(x)(e:Env):aai (.nx (some (true,x)::e))=some (.non,x):=nr rfl
noncomputable def akV(o:Out):Option D:=match o with
 | .rt true d _=>some d
 | _=>none
theorem agV(n)(ev)(ds):runN n ev ds=akV (ev (envOf n ds)):=nr rfl
theorem nRt(d)(e):akV (.rt true d e)=some d:=nr rfl
noncomputable def af4(d:D)(e:Env):Out:=.rt true d e
theorem aei(d)(e):af4 d e = .rt true d e:=nr rfl
theorem R7(a)(env):wL a env=eY (a env) af4:=nr rfl
noncomputable def rdP(o:Option (Option (Bool×D)))(f:Bool->D->Out):Out:=match o with
 | some (some (o,d))=>f o d
 | _=>.stuck
theorem pS(o)(d)(f):rdP (some (some (o,d))) f=f o d:=nr rfl
noncomputable def dcO(o:Bool)(d:D)(f:List (D×D)->Out):Out:=match o,d with
 | true,.dct kvs=>f kvs
 | _,_=>.stuck
theorem cS(kvs)(f):dcO true (.dct kvs) f=f kvs:=nr rfl
def kyO(d:D)(f:Key->Out):Out:=match rQ d with
 | some q=>f q
 | none=>.stuck
theorem alW(z)(f):kyO (.str z) f=f (.inr (strOf z)):=nr rfl
theorem al5(i)(f):kyO (.int i) f=f (.inl i):=nr rfl
def aiI(i:Nat)(d kd:D)(e:Env)(kvs:List (D×D))(q:Key):Out:=szO (kvs.length+1) (.nx (e.set i (some (true,.dct (putD kvs kd q d)))))
def aeq(i:Nat)(d kd:D)(e:Env)(kvs:List (D×D)):Out:=kyO kd (aiI i d kd e kvs)
def abx(i:Nat)(d kd:D)(e:Env)(o:Bool)(x:D):Out:=dcO o x (aeq i d kd e)
def aiM(i:Nat)(d kd:D)(e:Env):Out:=rdP e[i]? (abx i d kd e)
def aby(i:Nat)(k:Ev)(d:D)(e:Env)(_:Bool)(_:D):Out:=eY (k e) (aiM i d)
def kDp(i:Nat)(k:Ev)(d:D)(e:Env):Out:=rdP e[i]? (aby i k d e)
theorem aiH(i)(d kd)(e)(kvs)(q):aiI i d kd e kvs q=szO (kvs.length+1) (.nx (e.set i (some (true,.dct (putD kvs kd q d))))):=nr rfl
theorem aiJ(i)(d kd)(e)(kvs):aeq i d kd e kvs=kyO kd (aiI i d kd e kvs):=nr rfl
theorem aiK(i)(d kd)(e)(o)(x):abx i d kd e o x=dcO o x (aeq i d kd e):=nr rfl
theorem aiL(i)(d kd)(e):aiM i d kd e=rdP e[i]? (abx i d kd e):=nr rfl
theorem aiN(i)(k)(d)(e)(o)(x):aby i k d e o x=eY (k e) (aiM i d):=nr rfl
theorem ama(i)(k)(d)(e):kDp i k d e=rdP e[i]? (aby i k d e):=nr rfl
theorem ZW(i)(k a)(env):rY i k a env=eY (a env) (kDp i k):=by
 unfold rY
 congr 1
 funext d e1
 show _=rdP e1[i]? (aby i k d e1);unfold rdP aby;cases e1[i]? with
 | none=>rfl
 | some o=>
  cases o with
  | none=>rfl
  | some p=>
   obtain⟨b,x⟩:=p;show eY (k e1) _=eY (k e1) _
   congr 1
   funext kd e2
   show _=rdP e2[i]? (abx i d kd e2);unfold rdP abx dcO aeq;cases e2[i]? with
   | none=>rfl
   | some o=>
    cases o with
    | none=>rfl
    | some p=>
     obtain⟨b,u⟩:=p;cases b with
     | false=>rfl
     | true=>
      cases u with
      | dct kvs=>
       unfold kyO;cases rQ kd<;>rfl
      | _=>rfl
section
variable{X:Cx}{C:Cfg}{pos:Pos}{x:Expr}{a:Ev}
def Ua:D->Option Int->Option Int->Option D
 | .str z,lo,hi=>some (.str (cutD z lo hi))
 | .tup xs,lo,hi=>some (.tup (cutD xs lo hi))
 | .lst xs,lo,hi=>some (.lst (cutD xs lo hi))
 | .arr xs,lo,hi=>some (.lst (cutD xs lo hi))
 | _,_,_=>none
def JN(a:Ev)(lo hi:Gq):Ev:=λenv=>bindR (a env) λd aG=>bindR (lo aG) λl dD=>bindR (hi dD) λu zq=>fG (Ua d l u) zq
theorem ajf(z)(lo hi):Ua (.str z) lo hi=some (.str (cutD z lo hi)):=nr rfl
theorem aje(z)(lo hi):Ua (.tup z) lo hi=some (.tup (cutD z lo hi)):=nr rfl
theorem ajg(z)(lo hi):Ua (.lst z) lo hi=some (.lst (cutD z lo hi)):=nr rfl
theorem ajh(z)(lo hi):Ua (.arr z) lo hi=some (.lst (cutD z lo hi)):=nr rfl
theorem aeR(a)(lo hi)(env):JN a lo hi env=bindR (a env) (kSl Ua lo hi):=nr rfl
end
structure SX(X:Cx)(C:Cfg)(e:Expr)(ev:Ev):Prop where
 u:Ev.PX X C e ev
structure YT(X:Cx)(C:Cfg)(e:Expr)(ev:Ev):Prop where
 u:Ev.PXB X C e ev
structure SXN(X:Cx)(C:Cfg)(e:Expr)(ev:Ev):Prop where
 u:Ev.PXN X C e ev
structure Wo(X:Cx)(C:Cfg)(e:Expr)(ev:fX):Prop where
 u:Ev.PXT X C e ev
structure SXW(X:Cx)(C:Cfg)(e:Expr)(ev:fX):Prop where
 u:Ev.PXW X C e ev
structure Nh(X:Cx)(C:Cfg)(e:List Expr)(ev:dq):Prop where
 u:Ev.Y8 X C e ev
structure zF(X:Cx)(C:Cfg)(e:List Expr)(ev:dq):Prop where
 u:Ev.afx X C e ev
structure SXL(X:Cx)(C:Cfg)(e:List Expr)(ev:dq):Prop where
 u:Ev.PXL X C e ev
structure UT(X:Cx)(C:Cfg)(e:Stmt)(ev:bU):Prop where
 u:Ev.PXS X C e ev
structure dw(X:Cx)(C:Cfg)(e:List Stmt)(ev:bU):Prop where
 u:Ev.Gn X C e ev
structure YQ(X:Cx)(C:Cfg)(e:List Expr)(ev:fX):Prop where
 u:Ev.Ri X C e ev
structure SXP(X:Cx)(C:Cfg)(e:Option Expr)(ev:Gq):Prop where
 u:Ev.PXP X C e ev
structure YS(X:Cx)(C:Cfg)(tg e:Expr)(ev:dq):Prop where
 u:Ev.YW X C tg e ev
structure SXG(X:Cx)(C:Cfg)(lo:Nat)(e:Expr)(ev:GV):Prop where
 u:Ev.Y7 X C lo e ev
structure afv(X:Cx)(C:Cfg)(lo:Nat)(e:List Expr)(ev:Y9):Prop where
 u:Ev.akd X C lo e ev
section
variable{X:Cx}{C:Cfg}{pos p px:Pos}{x y z:Expr}{a b c:Ev}{t u:fX}{i:Nat}{n:Str}{e:Expr}{es:List Expr}{ea:dq}{e2:Expr}
theorem aB(ha:SX X C e a)(hr:Nh X C es r)(hs:starEach (e::es) X.env=(false,eval e X.env)::starEach es X.env:=by rfl):Nh X C (e::es) (aa a r):=⟨Ev.Pb ha.u hr.u hs⟩
theorem aU(i)(hN:X.N[i]? = some n:=by rfl)(hv:yd X.env.scope n:=by first|exact Or.inl rfl|exact Or.inr (Or.inl rfl)|exact Or.inr (Or.inr rfl))(hd:oW n:=by decide)(hcd:yP n:=by decide):SX X C (.Name n pos) (aM i):=⟨ag1 i hN hv hd hcd⟩
theorem cO(i)(hr:Nh X C es r)(hN:X.N[i]? = some n:=by rfl)(hv:yd X.env.scope n:=by first|exact Or.inl rfl|exact Or.inr (Or.inl rfl)|exact Or.inr (Or.inr rfl))(hd:oW n:=by decide)(hcd:yP n:=by decide)(hs:starEach (.Name n pos::es) X.env=(false,eval (.Name n pos) X.env)::starEach es X.env:=by rfl):Nh X C (.Name n pos::es) (aa (aM i) r):=aB (aU i hN hv hd hcd) hr hs
theorem ak  : Nh X C [] aj:=⟨Ev.Vh ⟩
theorem aH(h:SX X C e ev):YT X C e ev:=⟨Ev.PX.b h.u⟩
theorem aC{i:Int}:SX X C (.Constant (.int i) j pos) (j7 (.int i)):=⟨Ev.ag6 ⟩
theorem aq{st:Stmt}{rest:List Stmt}{a b:bU}(h1:UT X C st a)(h2:dw X C rest b):dw X C (st::rest) (aF a b):=⟨(aaB h1.u h2.u).imp λD σ H h=>by
 obtain⟨Pr,F,env,r,f⟩:=h;refine⟨Pr,F,env,r,?_⟩;unfold aF at f;cases e:a env with
 | nx e1=>rw[e] at f;exact λσ' H' F' r' s'=>⟨Pr,F',e1,r',f.mono s'⟩
 | rt o d e1=>rw[e] at f;cases o<;>exact f
 | bk e1=>rw[e] at f;exact f
 | ct e1=>rw[e] at f;exact f
 | stuck=>rw[e] at f;exact f⟩
theorem aA{st:Stmt}{a:bU}(h1:UT X C st a):dw X C [st] a:=⟨adJ h1.u⟩
theorem aQ{lo:Nat}(i)(hnd:nM X.N=true:=by rfl)(hlo:Nat.ble lo i=true:=by rfl)(hfx:C.fx i=none:=by rfl)(hi:X.N[i]? = some n:=by rfl)(hx:Loc X.env.scope n:=by first|exact Or.inl rfl|exact Or.inr rfl)(hf:X.fn n=true\/X.env.scope.names.lookup n=some .local:=by first|exact .inl rfl|exact .inr rfl):SXG X C lo (.Name n pos) (au i):=⟨aax (kY hnd) hi hx (Qx9 hlo) hfx hf⟩
theorem bI(z){x:Str}{j:Nat}(hz:x=strOf z:=by decide +kernel)(hl:z.length<=sizeLine:=by decide):SX X C (.Constant (.str x) j pos) (j7 (.str z)):=⟨by
 subst hz;refine ahi.imp λσ H Q h=>?_;obtain⟨Pr,F,env,env',d,r,e,q⟩:=h;cases e;exact q _ _ F r (aV.refl F) ⟨rfl,hl⟩⟩
theorem bF(i)(hN:X.N[i]? = some n:=by rfl)(hv:yd X.env.scope n:=by first|exact Or.inl rfl|exact Or.inr (Or.inl rfl)|exact Or.inr (Or.inr rfl))(hd:oW n:=by decide)(hcd:yP n:=by decide):YT X C (.Name n pos) (bh i):=⟨adG i hN hv hd hcd⟩
theorem bK{pos':Pos}(i)(he:SX X C e a)(hnd:nM X.N=true:=by rfl)(hfx:C.fx i=none:=by rfl)(hi:X.N[i]? = some n:=by rfl)(hx:Loc X.env.scope n:=by first|exact Or.inl rfl|exact Or.inr rfl)(hs:swapsWith e (some (.Name n pos')) pos.line X.env=pure false:=by rfl)(hf:X.fn n=true\/X.env.scope.names.lookup n=some .local:=by first|exact .inl rfl|exact .inr rfl):UT X C (.Assign [.Name n pos'] e pos) (aX a (au i)):=⟨ady (kY hnd) hi hx hfx he.u hs hf⟩
theorem aD(h:SX X C e a):UT X C (.Return (some e) pos) (aY a):=⟨(aaE h.u).imp λD σ H hq=>by
 obtain⟨Pr,F,env,r,f⟩:=hq;obtain⟨d,aG,e1,f1⟩:=fO f;exact⟨Pr,F,env,aG,d,r,e1,λv H1 F1 r1 s1 p1=>f1 v σ H1 F1 r1 s1 p1⟩⟩
theorem aK(h:YT X C e a)(hs:O6 e X.env:=by rfl):zF X C [e] (aa a aj):=⟨(iK h.u pW hs).imp λσ H Q hq=>by
 obtain⟨Pr,F,env,env',ds,rl,e,q⟩:=hq;obtain⟨d1,aG,e1,e2⟩:=aO e;cases e2;exact⟨Pr,F,env,env',d1,rl,e1,λv H1 F1 r1 s1 p1=>q _ H1 F1 r1 s1 ⟨v,[],rfl,p1,rfl⟩⟩⟩
theorem bj(O:Own X.prog X.w X.K X.mg X.base n k ps (jV X.K m g))(G:Good X C)(hr:jK k' X.A)(ha:Nh X C (e::es) ea)(hn:∀env ds env',ea env = .ok ds env'->ds.length=m)(hk:Nat.ble k k'=true:=by rfl)(hg:Gl X n:=by rfl)(hdb:oW n:=by decide)(he:starEach (e::es) X.env=(false,eval e X.env)::starEach es X.env:=by rfl)(hpl:(backTo pos (starEach es X.env)).any (·.1)=false:=by rfl):SX X C (.Call (.Name n p) (e::es) [] pos) (az g ea):=⟨by
 obtain⟨f,fd,h1,h2,h3,h4⟩:=O;rw[G.K] at h1;have h1':oE X.prog X.w X.K X.mg X.base Gs k f fd ps (jV C.K m g):=by rw[G.K];exact h1
 exact ag2 h1' (hr.mono<|Qx9 hk) hg h2 h3 h4 ha.u hn hdb he hpl⟩
theorem cN(h:Nh X C es r):SX X C (.Tuple es k pos) (cI r):=⟨(ahh h.u).imp λσ H Q hq=>by
 obtain⟨Pr,F,env,env',d,rl,e,q⟩:=hq;obtain⟨ds,aG,e1,e2⟩:=aO e;split at e2
 ·rename_i hz;cases e2;refine⟨Pr,F,env,env',ds,rl,e1,λvs H1 F1 r1 s1 p1=>⟨by rw[p1.length];exact hz,λp hp=>?_⟩⟩;obtain⟨r2,s2⟩:=r1.new hp;exact q _ _ _ r2 (s1.trans s2) ⟨hz,p,vs,rfl,mQ.of bC,bT.mono s2 _ _ p1⟩
 ·cases e2⟩
theorem aW{lo:Nat}(h1:SXG X C lo e g)(h2:afv X C lo es gs)(hs:(assignEach (e::es) X.env).map (·.2)=assign e X.env::(assignEach es X.env).map (·.2):=by rfl):afv X C lo (e::es) (bu g gs):=⟨(aaL h1.u h2.u hs).imp λv σ H Q h=>by
 obtain⟨Pr,F,env,env',ds,r,p,e,q⟩:=h;cases ds with
 | nil=>cases e
 | cons d ds=>
  obtain⟨u,w,rfl,p1,p2⟩:=p;obtain⟨aG,e1,e2⟩:=Qx1.mp e;refine⟨u,w,rfl,Pr,F,env,aG,d,r,p1,e1,λσ1 H1 F1 r1 s1 t1=>?_⟩;exact⟨Pr,F1,aG,env',ds,r1,bT.mono s1 _ _ p2,e2,λσ2 H2 F2 r2 s2 t2=>q σ2 H2 F2 r2 (s1.trans s2)<|t2.trans t1⟩⟩
theorem bV(h:SXN X C e ev):SX X C e ev:=⟨Ev.PXN.px h.u⟩
theorem bN(i)(G:Good X C)(hb:YT X C y b)(hN:X.N[i]? = some n:=by rfl)(hv:yd X.env.scope n:=by first|exact Or.inl rfl|exact Or.inr (Or.inl rfl)|exact Or.inr (Or.inr rfl))(hs:xY y:=by intro _ _;rfl)(hd:oW n:=by decide)(hcd:yP n:=by decide):SX X C (.Subscript (.Name n px) y pos) (ao bZ i b):=⟨ag5 i G.K hN hv hb.u hs hd hcd⟩
theorem gb{v:Str}{pv:Pos}(i)(O:Own X.prog X.w X.K X.mg X.base n k ps (vd X.K m g))(G:Good X C)(hr:jK k' X.A)(ha:Nh X C es ea)(hn:∀env ds env',ea env = .ok ds env'->ds.length+1=m)(hk:Nat.ble k k'=true:=by rfl)(hN:X.N[i]? = some v:=by rfl)(hv:yd X.env.scope v:=by first|exact Or.inl rfl|exact Or.inr (Or.inl rfl)|exact Or.inr (Or.inr rfl))(hg:Gl X n:=by rfl)(hdb:oW n:=by decide)(he:starEach (.Name v pv::es) X.env=(false,eval (.Name v pv) X.env)::starEach es X.env:=by rfl)(hpl:(backTo pos (starEach es X.env)).any (·.1)=false:=by rfl)(hd:oW v:=by decide)(hcd:yP v:=by decide):SX X C (.Call (.Name n p) (.Name v pv::es) [] pos) (dM g i ea):=⟨by
 obtain⟨f,fd,h1,h2,h3,h4⟩:=O;rw[G.K] at h1;have h1':oE X.prog X.w X.K X.mg X.base Gs k f fd ps (vd C.K m g):=by rw[G.K];exact h1
 exact alg hN hv h1' (hr.mono<|Qx9 hk) hg h2 h3 h4 ha.u hn hdb he hpl hd hcd⟩
theorem gD(o:Bi X C op g)(ha:SX X C x a)(hb:YT X C y b):SX X C (.BinOp x op y pos) (aN g a b):=⟨let ⟨_,h1,h2⟩:=o.ex;ale h1 h2 ha.u hb.u⟩
theorem bA(ha:SX X C e a)(hr:SXL X C es r)(hs:starEach (e::es) X.env=(false,eval e X.env)::starEach es X.env:=by rfl):SXL X C (e::es) (aa a r):=⟨⟨Ev.Pb ha.u hr.u.go hs⟩⟩
theorem cU(i)(o:Bi X C op g)(hb:YT X C y b)(hN:X.N[i]? = some n:=by rfl)(hv:yd X.env.scope n:=by first|exact Or.inl rfl|exact Or.inr (Or.inl rfl)|exact Or.inr (Or.inr rfl))(hd:oW n:=by decide)(hcd:yP n:=by decide):SX X C (.BinOp (.Name n px) op y pos) (ao g i b):=⟨let ⟨_,h1,h2⟩:=o.ex;ag3 i hN hv h1 h2 hb.u hd hcd⟩
theorem bD{c:Expr}{a b:List Stmt}{ea eb:bU}(hc:Wo X C c t)(ha:dw X C a ea)(hb:dw X C b eb):UT X C (.If c a b pos) (cJ t ea eb):=⟨(ali hc.u ha.u hb.u).imp λD σ H h=>by
 obtain⟨Pr,F,env,r,f⟩:=h;obtain⟨k,aG,e1,f1⟩:=fO f;refine⟨Pr,F,env,aG,k,r,e1,λH1 F1 r1 s1=>?_⟩;split at f1
 ·rename_i hk;rw[if_pos hk];exact⟨Pr,F1,aG,r1,f1.mono s1⟩
 ·rename_i hk;rw[if_neg hk];exact⟨Pr,F1,aG,r1,f1.mono s1⟩⟩
theorem eU(h:Nh X C es r):SXN X C (.List es pos) (dF r):=⟨Ev.Vg h.u⟩
theorem bw  : dw X C [] bJ:=⟨Ev.aar ⟩
theorem fB(G:Good X C)(h:SX X C x a):YS X C tg x (iD a):=⟨adE G.K h.u⟩
theorem dG{b:Bool}:SX X C (.Constant (.bool b) j pos) (j7 (.bl b)):=⟨Ev.alh ⟩
theorem iR{elt tg iter:Expr}(N')(lo)(ok:ji X scope N')(G:Good X C)(hi:YS X C tg iter it)(bg:∀X',dH X scope N' X'->SXG X' C lo tg g)(bc:∀X',dH X scope N' X'->YQ X' C ifs cc)(be:∀X',dH X scope N' X'->SX X' C elt ee)(hs:∀x,foldedSetIterable iter X.env x=pure x:=by intro _;rfl):SXN X C (.ListComp elt [⟨tg,iter,ifs,0⟩] scope pos) (fM lo N'.length it g cc ee):=⟨Ev.aos N' lo ok G hi.u (λX1 h1=>(bg X1 h1).u) (λX1 h1=>(bc X1 h1).u) (λX1 h1=>(be X1 h1).u) hs⟩
theorem cQ(G:Good X C)(hm:X.mg "len" = none)(ha:zF X C [e] ea)(hg:Gl X "len":=by rfl)(he:O6 e X.env:=by rfl):SX X C (.Call (.Name "len" p) [e] [] pos) (az cY ea):=⟨qu (by rw[<-G.K];exact acp) ajM hg hm PySem.boot_len ha.u (by decide) (by decide) he rfl⟩
theorem bQ(h:SX X C e a)(he:∀whole,isTrue e X.env whole=(do let v <-whole;standAt e.pos;holding [v] (truthy v)):=by intro _;rfl):Wo X C e (cX a):=⟨(ag8 h.u he).imp λσ H Q hq=>Ob hq⟩
theorem dh{lo:Nat}:afv X C lo [] eG:=⟨Ev.aaw ⟩
theorem iz{lo:Nat}{k:Nat}(G:Good X C)(h:afv X C lo es gs)(hn:(assignEach es X.env).length=m:=by rfl)(hst:(assignEach es X.env).findIdx? (·.1)=none:=by rfl):SXG X C lo (.Tuple es k pos) (d8 m gs):=⟨adF G.calm G.K h.u hn hst⟩
theorem cM:YQ X C [] cR:=⟨Ev.aav ⟩
theorem ju{tg iter:Expr}(G:Good X C)(hi:YS X C tg iter it)(hg:SXG X C 0 tg g)(hb:dw X C body bs)(hp:PassesOwn (model X.prog X.w) X.A X.env X.xe:=by exact PassesOwn.never)(hs:∀x,foldedSetIterable iter X.env x=pure x:=by intro _;rfl):UT X C (.For tg iter body [] pos) (gU it g bs):=⟨adA hp G.calm hi.u hg.u hb.u hs⟩
theorem iM(o:Cm X C op g)(ha:SX X C x a)(hb:YT X C y b)(hm:behindInMarks op y=false:=by rfl):Wo X C (.Compare x [op] [y] pos) (cX (aN g a b)):=⟨let ⟨_,h1,h2⟩:=o.ex;adx h1 h2 ha.u hb.u hm⟩
theorem nC{pos':Pos}(i)(he:SXN X C e a)(hnd:nM X.N=true:=by rfl)(hfx:C.fx i=none:=by rfl)(hi:X.N[i]? = some n:=by rfl)(hx:Loc X.env.scope n:=by first|exact Or.inl rfl|exact Or.inr rfl)(hs:swapsWith e (some (.Name n pos')) pos.line X.env=pure false:=by rfl)(hf:X.fn n=true\/X.env.scope.names.lookup n=some .local:=by first|exact .inl rfl|exact .inr rfl):UT X C (.Assign [.Name n pos'] e pos) (gr i a):=⟨adz (kY hnd) hi hx hfx he.u hs hf⟩
theorem gC(G:Good X C)(hm:X.mg "tuple" = none)(ha:zF X C [e] ea)(hg:Gl X "tuple":=by rfl)(he:O6 e X.env:=by rfl):SX X C (.Call (.Name "tuple" p) [e] [] pos) (az dX ea):=⟨ur (by rw[<-G.K];exact Hh) aco hg hm (by rfl) ha.u (by decide) (by decide) he rfl⟩
theorem jk(G:Good X C)(ha:SX X C x a)(hb:YT X C y b)(hs:xY y:=by intro _ _;rfl):SX X C (.Subscript x y pos) (aN bZ a b):=⟨alf G.K ha.u hb.u hs⟩
theorem dg(i)(o:Cm X C op g)(hb:YT X C y b)(hN:X.N[i]? = some n:=by rfl)(hv:yd X.env.scope n:=by first|exact Or.inl rfl|exact Or.inr (Or.inl rfl)|exact Or.inr (Or.inr rfl))(hm:behindInMarks op y=false:=by rfl)(hd:oW n:=by decide)(hcd:yP n:=by decide):Wo X C (.Compare (.Name n px) [op] [y] pos) (cX (ao g i b)):=⟨by
 obtain⟨r,h1,h2⟩:=o.ex;exact(Vi h1 (kj hN hv hd hcd) hb.u hm).imp λσ H Q h=>xQ h2 σ H _<|Ob h⟩
theorem gG(he:SX X C e a)(hg:SXG X C 0 tg g)(hs:swapsWithSole [tg] e pos.line X.env=pure false:=by rfl)(hw:swappedStores [tg] e X.env=pure none:=by rfl)(h1:(assignEach [tg] X.env).map (·.2)=[assign tg X.env]:=by rfl):UT X C (.Assign [tg] e pos) (aX a g):=⟨(ahc he.u hg.u hs hw h1).imp λD σ H h=>ajX h⟩
theorem jo(h:SX X C e a):SXP X C (some e) (xG a):=⟨(adM h.u).imp λσ H Q hq=>by
 obtain⟨Pr,F,env,env',o,r,e,q⟩:=hq;obtain⟨d,aG,e1,e2⟩:=aO e;refine⟨Pr,F,env,aG,d,r,e1,λv H1 F1 r1 s1 p1=>?_⟩;cases d with
 | int i=>cases e2;exact⟨i,p1,q H1 F1 r1 s1⟩
 | _=>cases e2⟩
theorem cB{a:fX}(h:Wo X C x a):Wo X C (.UnaryOp .Not x pos) (cZ a):=⟨(ag9 h.u).imp λσ H Q hq=>by
 obtain⟨Pr,F,env,env',b,rl,e,q⟩:=hq;obtain⟨c,aG,e1,e2⟩:=aO e;cases e2;exact⟨Pr,F,env,env',c,rl,e1,λH1 F1 r1 s1=>q H1 F1 r1 s1⟩⟩
theorem gn{a:fX}(h:SXW X C e a):Wo X C e a:=⟨Ev.PXW.pt h.u⟩
theorem jA{tg:Expr}(hm:X.mg "range" = none)(ha:Nh X C [e] ea)(hl:∀env ds env',ea env = .ok ds env'->ds.length=1)(hg:Gl X "range":=by rfl)(hs:starEach [e] X.env=[(false,eval e X.env)]:=by rfl):YS X C tg (.Call (.Name "range" p) [e] [] pos) (fc ea):=⟨Tc hg hm ha.u hl hs⟩
theorem iJ(i)(o:Cm X C op g)(hb:YT X C y b)(hN:X.N[i]? = some n:=by rfl)(hv:yd X.env.scope n:=by first|exact Or.inl rfl|exact Or.inr (Or.inl rfl)|exact Or.inr (Or.inr rfl))(hm:behindInMarks op y=false:=by rfl)(hd:oW n:=by decide)(hcd:yP n:=by decide):SX X C (.Compare (.Name n px) [op] [y] pos) (ao g i b):=⟨by
 obtain⟨r,h1,h2⟩:=o.ex;exact(Vk h1 (kj hN hv hd hcd) hb.u hm).imp<|xQ h2⟩
theorem lF:SX X C (.Constant .none j pos) (j7 .non):=⟨Ev.ag4 ⟩
theorem vO(ha:SX X C e a)(hr:zF X C es r)(hs:starEach (e::es) X.env=(false,eval e X.env)::starEach es X.env:=by rfl):zF X C (e::es) (aa a r):=⟨(iK ha.u hr.u hs).imp λσ H Q h=>by
  obtain⟨Pr,F,env,env',ds,rl,e,q⟩:=h;obtain⟨d1,aG,e1,e2⟩:=aO e;obtain⟨Fi,dD,e3,e4⟩:=aO e2;cases e4;refine⟨Pr,F,env,aG,d1,rl,e1,λv H1 F1 r1 s1 p1=>?_⟩;refine⟨Pr,F1,aG,env',Fi,r1,e3,λvs H2 F2 r2 s2 p2=>?_⟩;exact q _ H2 F2 r2 (s1.trans s2) ⟨v,vs,rfl,.inl<|Rep.mono s2 d1 v p1,p2⟩⟩
theorem eE(h:SX X C x a):SX X C (.BoolOp op [x] pos) a:=⟨ahk h.u⟩
theorem pU{apos cpos:Pos}(i)(G:Good X C)(he:SX X C e a)(hN:X.N[i]? = some n:=by rfl)(hv:yd X.env.scope n:=by first|exact Or.inl rfl|exact Or.inr (Or.inl rfl)|exact Or.inr (Or.inr rfl))(hs:swapsWith (.Call (.Attribute (.Name n px) "append" apos) [e] [] cpos) none pos.line X.env=pure false:=by rfl) (hfew:((backTo cpos (starEach [e] X.env)).all (λx=>!x.1)&&(backToKw cpos (keywordEach [] X.env)).all (λx=>x.1.isSome)
   && decide ([e].length+([]:List Keyword).length+(if ([]:List Keyword).isEmpty then 0 else 1)<30))=true:=by rfl) (hbase:attributeBase (.Name n px) "append" X.env (eval (.Name n px) X.env)=eval (.Name n px) X.env:=by rfl) (hline:(apos.endLine == cpos.line)=true:=by rfl) (hst:O6 e X.env:=by rfl) (hplain:(backTo cpos (starEach [] X.env)).any (·.1)=false:=by rfl) (hd:oW n:=by decide) (hcd:yP n:=by decide):UT X C (.Expr (.Call (.Attribute (.Name n px) "append" apos) [e] [] cpos) pos) (iH i a):=⟨adB hN hv he.u G.K hs hfew hbase hline hst hplain hd hcd⟩
theorem kO  : SXP X C none mq:=⟨Ev.aat ⟩
theorem dz{rest:List Expr}(ha:SX X C x a)(hb:SX X C (.BoolOp .And (y::rest) pos) b):SX X C (.BoolOp .And (x::y::rest) pos) (gw a b):=⟨(aho ha.u hb.u).imp λσ H Q hq=>by
  obtain⟨Pr,F,env,env',k,rl,e,q⟩:=hq;obtain⟨c,aG,e1,e2⟩:=aO e;refine⟨Pr,F,env,aG,c,rl,e1,λv H1 F1 r1 s1 p1=>?_⟩;cases c with
  | bl z=>
   refine⟨z,p1,?_⟩;cases z with
   | true=>exact amg ⟨Pr,F1,aG,env',k,r1,e2,λv2 H2 F2 r2 s2 p2=>q v2 H2 F2 r2 (s1.trans s2) p2⟩
   | false=>cases e2;exact amh<|q _ H1 F1 r1 s1 rfl
  | _=>cases e2⟩
theorem fP{rest:List Expr}{a b:fX}(ha:Wo X C x a)(hb:SXW X C (.BoolOp .Or (y::rest) pos) b):SXW X C (.BoolOp .Or (x::y::rest) pos) (iI a b):=⟨(pw_or ha.u hb.u).imp λσ H Q hq=>by
  obtain⟨Pr,F,env,env',k,rl,e,q⟩:=hq;obtain⟨c,aG,e1,e2⟩:=aO e;refine⟨Pr,F,env,aG,c,rl,e1,λH1 F1 r1 s1=>?_⟩;split at e2
  ·grind
  ·rename_i hc;rw[if_neg hc];exact⟨Pr,F1,aG,env',k,r1,e2,λH2 F2 r2 s2=>q H2 F2 r2<|s1.trans s2⟩⟩
theorem lA(G:Good X C)(hm:X.mg "all" = none)(ha:zF X C [e] ea)(hg:Gl X "all":=by rfl)(he:O6 e X.env:=by rfl):SX X C (.Call (.Name "all" p) [e] [] pos) (az qC ea):=⟨qu (by rw[<-G.K];exact Yz G.calm) ajN hg hm (by rfl) ha.u (by decide) (by decide) he rfl⟩
theorem gF{a:fX}(h:Wo X C x a):SXW X C (.BoolOp .Or [x] pos) a:=⟨pw_or1 h.u⟩
theorem dW{p q pos:Pos}(hg:Gl X "isinstance")(hm:X.mg "isinstance" = none)(hgT:Gl X xT)(hmT:X.mg xT=none)(hvT:bootBuiltins xT=some (.type T))(hk:∀d,PySem.W.kitOne X.K (.type (Ws d)) (.type T)=some (eF d T))(hK:X.K=C.K)(ha:SX X C e a)(hn:xT ≠ "__name__":=by decide)(hd:oW xT:=by decide)(he:starEach [e,.Name xT q] X.env=(false,eval e X.env)::starEach [.Name xT q] X.env:=by rfl):SX X C (.Call (.Name "isinstance" p) [e,.Name xT q] [] pos) (dY (fL T) a):=⟨by
 refine(CQ (acq hk) hg hm boot_isinstance (iK ha.u (iK (adY (v:=.ty T) hgT hmT hvT rfl hn hd) pW) he) (by decide) (by decide) he rfl).imp λσ H Q h=>?_;obtain⟨Pr,F,env,env',d,rl,e1,qq⟩:=h;obtain⟨d0,aG,e2,e3⟩:=aO e1;obtain⟨e4,rfl⟩:=du e3;obtain⟨nc,rfl⟩:=aeI e4;refine⟨Pr,F,env,env',d0,rl,e2,λv H1 F1 r1 s1 p1=>⟨d0,v,rfl,nc,?_,qq _ H1 F1 r1 s1 rfl⟩⟩;rw[hK];exact Rep.mono r1.fr d0 v p1⟩
theorem mD{c:Expr}(h:Wo X C c t):YQ X C [c] t:=⟨adQ h.u⟩
theorem aa7(O:Own X.prog X.w X.K X.mg X.base n k ps (spN X.K m g))(G:Good X C)(hr:jK k' X.A)(ha:Nh X C (e::es) ea)(hn:∀env ds env',ea env = .ok ds env'->ds.length=m)(hk:Nat.ble k k'=true:=by rfl)(hg:Gl X n:=by rfl)(hdb:oW n:=by decide)(he:starEach (e::es) X.env=(false,eval e X.env)::starEach es X.env:=by rfl)(hpl:(backTo pos (starEach es X.env)).any (·.1)=false:=by rfl):SXN X C (.Call (.Name n p) (e::es) [] pos) (az g ea):=⟨by
 obtain⟨f,fd,h1,h2,h3,h4⟩:=O;rw[G.K] at h1;have h1':oE X.prog X.w X.K X.mg X.base Gs k f fd ps (spN C.K m g):=by rw[G.K];exact h1
 exact adC h1' (hr.mono<|Qx9 hk) hg h2 h3 h4 ha.u hn hdb he hpl⟩
theorem oR{rest:List Expr}{a b:fX}(ha:Wo X C x a)(hb:SXW X C (.BoolOp .And (y::rest) pos) b):SXW X C (.BoolOp .And (x::y::rest) pos) (fZ a b):=⟨(pw_and ha.u hb.u).imp λσ H Q hq=>by
  obtain⟨Pr,F,env,env',k,rl,e,q⟩:=hq;obtain⟨c,aG,e1,e2⟩:=aO e;refine⟨Pr,F,env,aG,c,rl,e1,λH1 F1 r1 s1=>?_⟩;split at e2
  ·rename_i hc;rw[if_pos hc];exact⟨Pr,F1,aG,env',k,r1,e2,λH2 F2 r2 s2=>q H2 F2 r2<|s1.trans s2⟩
  grind⟩
theorem ik{x:Str}{u:Value}(d)(hg:Gl X x)(hm:X.mg x=some u)(rv:RelV v u)(hr:∀F,Rep C.K F d v)(hd:oW x:=by decide):SX X C (.Name x pos) (j7 d):=⟨(Ln hg hm rv hd).imp λσ H Q h=>by
  obtain⟨Pr,F,env,env',d,r,e,q⟩:=h;cases e;exact q _ _ F r (aV.refl F)<|hr F⟩
theorem Bg{apos cpos:Pos}(G:Good X C)(ho:SX X C o a)(he:YT X C e b)(hbase:attributeBase o "join" X.env (eval o X.env)=eval o X.env:=by rfl)(hs:O6 e X.env:=by rfl) (hfew:((backTo cpos (starEach [e] X.env)).all (λx=>!x.1)&&(backToKw cpos (keywordEach [] X.env)).all (λx=>x.1.isSome)
   && decide ([e].length+([]:List Keyword).length+(if ([]:List Keyword).isEmpty then 0 else 1)<30))=true:=by rfl) (hline:(apos.endLine == cpos.line)=true:=by rfl) (hplain:(backTo cpos (starEach [] X.env)).any (·.1)=false:=by rfl):SX X C (.Call (.Attribute o "join" apos) [e] [] cpos) (aN pq a b):=⟨adH G.K ho.u he.u hbase hs hfew hline hplain⟩
theorem Zk{lo hi:Option Expr}(G:Good X C)(ha:SX X C x a)(hl:SXP X C lo el)(hh:SXP X C hi eh):SX X C (.Subscript x (.Slice lo hi none p2) pos) (zm a el eh):=⟨ald G.K ha.u hl.u hh.u⟩
theorem qp{a:fX}(h:Wo X C x a):SXW X C (.BoolOp .And [x] pos) a:=⟨pw_and1 h.u⟩
theorem uX(ha:SX X C x a):SX X C (.UnaryOp .USub x pos) (dY rR a):=⟨alc ZC agx ha.u⟩
theorem qH(o:Cm X C op g)(ha:SX X C x a)(hb:YT X C y b)(hm:behindInMarks op y=false:=by rfl):SX X C (.Compare x [op] [y] pos) (aN g a b):=⟨let ⟨_,h1,h2⟩:=o.ex;ag7 h1 h2 ha.u hb.u hm⟩
theorem qt  : SXL X C [] aj:=⟨Ev.adD ⟩
theorem uv{a:dq}(h:SXL X C es a):SXN X C (.List es pos) (dF a):=⟨Ev.Vg h.u.go⟩
theorem Bw(i)(G:Good X C)(hb:YT X C y b)(hN:X.N[i]? = some n:=by rfl)(hv:yd X.env.scope n:=by first|exact Or.inl rfl|exact Or.inr (Or.inl rfl)|exact Or.inr (Or.inr rfl))(hs:acE y:=by intro _ _;rfl)(hd:oW n:=by decide)(hcd:yP n:=by decide):SX X C (.Subscript (.Name n px) y pos) (ao kZ i b):=⟨aay i G.u1 hN hv hb.u hs hd hcd⟩
theorem Kg(ha:SX X C x a):SX X C (.Subscript x (.Slice none none (some (.UnaryOp .USub (.Constant (.int 1) k p4) p3)) p2) pos) (rJ a):=⟨by
 refine(ahj ha.u<|afW ZC<|aaM).imp λσ H Q hq=>?_;obtain⟨Pr,F,env,env',d,r,e,q⟩:=hq;obtain⟨z,aG,e1,e2⟩:=aO e;obtain⟨e3,rfl⟩:=du e2;cases z with
 | str z=>
  cases e3;refine⟨Pr,F,env,env',.str z,r,e1,λv H1 F1 r1 s1 p1=>?_⟩;obtain⟨rfl,hz⟩:=p1;refine⟨1,rfl,strOf z,rfl,by rw[nZ];exact hz,rfl,q _ H1 F1 r1 s1 ⟨by simp[strOf],by rw[List.length_reverse];exact hz⟩⟩
 | _=>cases e3⟩
theorem ags(G:Good X C)(hm:X.mg "max" = none)(ha:zF X C [e,e2] ea)(hg:Gl X "max":=by rfl)(he:starEach [e,e2] X.env=(false,eval e X.env)::starEach [e2] X.env:=by rfl)(hpl:(backTo pos (starEach [e2] X.env)).any (·.1)=false:=by rfl):SX X C (.Call (.Name "max" p) [e,e2] [] pos) (az Yi ea):=⟨qu (Yv G.calm) ajL hg hm (by rfl) ha.u (by decide) (by decide) he hpl⟩
theorem HB  : SXN X C (.Dict [] [] pos) Fd:=⟨Ev.aau ⟩
theorem agr(G:Good X C)(hm:X.mg "min" = none)(ha:zF X C [e,e2] ea)(hg:Gl X "min":=by rfl)(he:starEach [e,e2] X.env=(false,eval e X.env)::starEach [e2] X.env:=by rfl)(hpl:(backTo pos (starEach [e2] X.env)).any (·.1)=false:=by rfl):SX X C (.Call (.Name "min" p) [e,e2] [] pos) (az Yh ea):=⟨qu (Yu G.calm) ajK hg hm (by rfl) ha.u (by decide) (by decide) he hpl⟩
theorem Ho(G:Good X C)(hm:X.mg "sorted" = none)(ha:zF X C [e] ea)(hg:Gl X "sorted":=by rfl)(he:O6 e X.env:=by rfl):SX X C (.Call (.Name "sorted" p) [e] [] pos) (az lU ea):=⟨Xd G.K G.calm hg hm ha.u he rfl⟩
theorem Lj{rest:List Expr}(ha:SX X C x a)(hb:SX X C (.BoolOp .Or (y::rest) pos) b):SX X C (.BoolOp .Or (x::y::rest) pos) (Yl a b):=⟨(alk ha.u hb.u).imp λσ H Q hq=>by
  obtain⟨Pr,F,env,env',k,rl,e,q⟩:=hq;obtain⟨c,aG,e1,e2⟩:=aO e;refine⟨Pr,F,env,aG,c,rl,e1,λv H1 F1 r1 s1 p1=>?_⟩;cases c with
  | bl z=>
   refine⟨z,p1,?_⟩;cases z with
   | true=>cases e2;exact amg<|q _ H1 F1 r1 s1 rfl
   | false=>exact amh ⟨Pr,F1,aG,env',k,r1,e2,λv2 H2 F2 r2 s2 p2=>q v2 H2 F2 r2 (s1.trans s2) p2⟩
  | _=>cases e2⟩
theorem Zj{lo hi:Option Expr}(ha:SX X C x a)(hl:SXP X C lo el)(hh:SXP X C hi eh):SX X C (.Subscript x (.Slice lo hi none p2) pos) (zY a el eh):=⟨by
 refine(wW Z0 ha.u hl.u hh.u).imp λσ H Q hq=>?_;obtain⟨Pr,F,env,env',d,r,e,q⟩:=hq;obtain⟨z,aG,e1,e2⟩:=aO e;obtain⟨l,dD,e3,e4⟩:=aO e2;obtain⟨u,zq,e5,e6⟩:=aO e4;obtain⟨e7,rfl⟩:=du e6;cases z with
 | str z=>
  cases e7;refine⟨Pr,F,env,aG,.str z,r,e1,λv H1 F1 r1 s1 p1=>⟨Pr,F1,aG,dD,l,r1,e3,λH2 F2 r2 s2=>⟨Pr,F2,dD,env',u,r2,e5,λH3 F3 r3 s3=>?_⟩⟩⟩;obtain⟨rfl,hz⟩:=p1;exact⟨z,rfl,hz,q _ H3 F3 r3 ((s1.trans s2).trans s3) ⟨rfl,Qqj (Q0 _ _ _) hz⟩⟩
 | _=>cases e7⟩
theorem aeA{tg e2 e3:Expr}(hm:X.mg "range" = none)(ha:Nh X C [e,e2,e3] ea)(hl:∀env ds env',ea env = .ok ds env'->ds.length=3)(hg:Gl X "range":=by rfl)(hs:starEach [e,e2,e3] X.env=[(false,eval e X.env),(false,eval e2 X.env),(false,eval e3 X.env)]:=by rfl)(hs2:starEach [e2,e3] X.env=[(false,eval e2 X.env),(false,eval e3 X.env)]:=by rfl):YS X C tg (.Call (.Name "range" p) [e,e2,e3] [] pos) (fc ea):=⟨S8 hg hm ha.u hl hs hs2⟩
theorem Kh(G:Good X C)(hm:X.mg "list" = none)(ha:zF X C [e] ea)(hg:Gl X "list":=by rfl)(he:O6 e X.env:=by rfl):SX X C (.Call (.Name "list" p) [e] [] pos) (az qz ea):=⟨ur (by rw[<-G.K];exact Fp G.calm) afb hg hm (by rfl) ha.u (by decide) (by decide) he rfl⟩
theorem afO{elt tg iter:Expr}(N'){spos py:Pos}(lo)(i)(ok:ji X scope N')(G:Good X C)(hi:YS X C tg iter it)(bg:∀X',dH X scope N' X'->SXG X' C lo tg g)(bc:∀X',dH X scope N' X'->YQ X' C ifs cc)(be:∀X',dH X scope N' X'->SX X' C elt ee)(hnd:nM X.N=true:=by rfl)(hfx:C.fx i=none:=by rfl)(hy:X.N[i]? = some n:=by rfl)(hx:Loc X.env.scope n:=by first|exact Or.inl rfl|exact Or.inr rfl)(hsw:swapsWith (.ListComp elt [⟨tg,iter,ifs,0⟩] scope pos) (some (.Name n py)) spos.line X.env=pure true:=by rfl)(hf:X.fn n=true\/X.env.scope.names.lookup n=some .local:=by first|exact .inl rfl|exact .inr rfl)(hs:∀x,foldedSetIterable iter X.env x=pure x:=by intro _;rfl):UT X C (.Assign [.Name n py] (.ListComp elt [⟨tg,iter,ifs,0⟩] scope pos) spos) (gr i (fM lo N'.length it g cc ee)):=⟨Ev.aod N' lo i ok G hi.u (λX1 h1=>(bg X1 h1).u) (λX1 h1=>(bc X1 h1).u) (λX1 h1=>(be X1 h1).u) hnd hfx hy hx hsw hf hs⟩
theorem VB{tg e2:Expr}(hm:X.mg "range" = none)(ha:Nh X C [e,e2] ea)(hl:∀env ds env',ea env = .ok ds env'->ds.length=2)(hg:Gl X "range":=by rfl)(hs:starEach [e,e2] X.env=[(false,eval e X.env),(false,eval e2 X.env)]:=by rfl)(hs2:starEach [e2] X.env=[(false,eval e2 X.env)]:=by rfl):YS X C tg (.Call (.Name "range" p) [e,e2] [] pos) (fc ea):=⟨S9 hg hm ha.u hl hs hs2⟩
theorem Wq(G:Good X C)(hm:X.mg "divmod" = none)(ha:zF X C [e,e2] ea)(hg:Gl X "divmod":=by rfl)(he:starEach [e,e2] X.env=(false,eval e X.env)::starEach [e2] X.env:=by rfl)(hpl:(backTo pos (starEach [e2] X.env)).any (·.1)=false:=by rfl):SX X C (.Call (.Name "divmod" p) [e,e2] [] pos) (az xC ea):=⟨qu Q6 Yt hg hm (by rfl) ha.u (by decide) (by decide) he hpl⟩
theorem Pa(h:SXN X C e a):UT X C (.Return (some e) pos) (wL a):=⟨(aaE h.u).imp λD σ H hq=>by
 obtain⟨Pr,F,env,r,f⟩:=hq;obtain⟨d,aG,e1,f1⟩:=fO f;exact⟨Pr,F,env,aG,d,r,e1,λv H1 F1 r1 s1 p1=>f1 v σ H1 F1 r1 s1 p1⟩⟩
theorem abT{lo:Nat}(i)(h:SX X C ix ev)(hN:X.N[i]? = some n:=by rfl)(hv:yd X.env.scope n:=by first|exact Or.inl rfl|exact Or.inr (Or.inl rfl)|exact Or.inr (Or.inr rfl)) (ha:∀v,assign (.Subscript (.Name n px) ix pos) X.env v=(do
   let ov <-holding [v] (eval (.Name n px) X.env)
   let iv <-holding [v,ov] (eval ix X.env)
   standAt pos
   holding [v,ov,iv] (setItem ov iv v)
   release [v,ov,iv] []):=by intro _;rfl) (hd:oW n:=by decide) (hcd:yP n:=by decide):SXG X C lo (.Subscript (.Name n px) ix pos) (T6 i ev):=⟨ag0 hN hv h.u ha hd hcd⟩
theorem U5(G:Good X C)(hm:X.mg "dict" = none)(ha:zF X C [e] ea)(hg:Gl X "dict":=by rfl)(he:O6 e X.env:=by rfl):SX X C (.Call (.Name "dict" p) [e] [] pos) (az uM ea):=⟨ur (by rw[<-G.K];exact Yy G.calm) afd hg hm (by rfl) ha.u (by decide) (by decide) he rfl⟩
theorem ado{pos':Pos}(i)(G:Good X C)(hk:SX X C k ek)(he:SX X C e a)(hN:X.N[i]? = some n:=by rfl)(hv:yd X.env.scope n:=by first|exact Or.inl rfl|exact Or.inr (Or.inl rfl)|exact Or.inr (Or.inr rfl))(hs:swapsWith e (some (.Subscript (.Name n px) k pos')) pos.line X.env=pure false:=by rfl)(hd:oW n:=by decide)(hcd:yP n:=by decide):UT X C (.Assign [.Subscript (.Name n px) k pos'] e pos) (rY i ek a):=⟨aas G.u1 hN hv hk.u he.u hs hd hcd⟩
theorem agq{lo hi:Option Expr}(G:Good X C)(ha:SX X C x a)(hl:SXP X C lo el)(hh:SXP X C hi eh):SX X C (.Subscript x (.Slice lo hi none p2) pos) (JM a el eh):=⟨by
 have h:=wW (pos:=pos) (p2:=p2) (UL.or KQ Oh) ha.u hl.u hh.u;rw[G.K] at h;refine h.imp λσ H Q hq=>?_;obtain⟨Pr,F,env,env',d,r,e,q⟩:=hq;obtain⟨x,aG,e1,e2⟩:=aO e;obtain⟨l,dD,e3,e4⟩:=aO e2;obtain⟨u,zq,e5,e6⟩:=aO e4;obtain⟨e7,rfl⟩:=du e6;refine⟨Pr,F,env,aG,x,r,e1,λv H1 F1 r1 s1 p1=>⟨Pr,F1,aG,dD,l,r1,e3,λH2 F2 r2 s2=>⟨Pr,F2,dD,env',u,r2,e5,λH3 F3 r3 s3=>?_⟩⟩⟩;exact Z4 r3 (Rep.mono (s2.trans s3) _ _ p1) e7 λv H' F' r' s' p'=>q v H' F' r' (((s1.trans s2).trans s3).trans s') p'⟩
theorem aeB{elts:List Expr}{k:Nat}{tp p:Pos}(hm:X.mg "enumerate" = none)(ha:Nh X C [e] ea)(hg:Gl X "enumerate":=by rfl)(hs:starEach [e] X.env=[(false,eval e X.env)]:=by rfl):YS X C (.Tuple elts k tp) (.Call (.Name "enumerate" p) [e] [] pos) (Uh ea):=⟨(adT hg hm ha.u hs).imp λσ H R hq=>by
  obtain⟨Pr,F,env,env',ds,r,e,q⟩:=hq;obtain⟨as,aG,e1,e2⟩:=aO e;refine⟨Pr,F,env,aG,as,r,e1,λvs H1 F1 r1 s1 p1=>?_⟩;split at e2
  ·rename_i x;cases e2;obtain⟨v,w,rfl,⟨rfl,hz⟩,p2⟩:=p1;cases p2;refine⟨strOf x,rfl,q _ H1 F1 r1 s1 λi H2 s2=>⟨λ_ ei=>?_,λd hd=>?_⟩⟩
   ·show i=x.toArray.size;rw[ei];simp[uO]
   ·unfold uO at hd;rw[Qw6] at hd;obtain⟨⟨c,j⟩,hc,rfl⟩:=Qww.mp hd;rw[List.getElem?_zipIdx] at hc;obtain⟨c',hc',h2⟩:=Qww.mp hc;cases h2;refine⟨?_,λy H3 hy=>.inr ?_⟩
    ·show i<x.toArray.size;have:=(Qwz.mp hc').1
     simpa using this
    ·obtain⟨p,c2,h3,h4,rfl,rfl⟩:=hy;have h5:x[i]? = some c2:=by simpa[strOf] using h3
     rw[hc'] at h5;cases h5;exact⟨p,_,_,h4,rfl,rfl,rfl,by show 2<=sizeLine;decide,_,_,rfl,by simp[Rep],_,_,rfl,⟨rfl,by show 1<=sizeLine;decide⟩,rfl⟩
  ·cases e2⟩
theorem Ru{lo hi:Option Expr}(G:Good X C)(ha:SX X C x a)(hl:SXP X C lo el)(hh:SXP X C hi eh):SX X C (.Subscript x (.Slice lo hi none p2) pos) (JN a el eh):=⟨by
 have h:=wW (pos:=pos) (p2:=p2) (UL.or (UL.or Vc KQ)<|UL.or (UL.or KQ Oh) Z0) ha.u hl.u hh.u;rw[G.K] at h;refine h.imp λσ H Q hq=>?_;obtain⟨Pr,F,env,env',d,r,e,q⟩:=hq;obtain⟨x,aG,e1,e2⟩:=aO e;obtain⟨l,dD,e3,e4⟩:=aO e2;obtain⟨u,zq,e5,e6⟩:=aO e4;obtain⟨e7,rfl⟩:=du e6;refine⟨Pr,F,env,aG,x,r,e1,λv H1 F1 r1 s1 p1=>⟨Pr,F1,aG,dD,l,r1,e3,λH2 F2 r2 s2=>⟨Pr,F2,dD,env',u,r2,e5,λH3 F3 r3 s3=>?_⟩⟩⟩;have p3:=Rep.mono (s2.trans s3) _ _ p1;have q3:=λv H' F' r' s' p'=>q v H' F' r' (((s1.trans s2).trans s3).trans s') p';cases x with
 | str z=>
  cases e7;obtain⟨rfl,hz⟩:=p1;exact .inr<|.inr ⟨z,rfl,hz,q3 _ H3 F3 r3 (aV.refl _) ⟨rfl,Qqj (Q0 _ _ _) hz⟩⟩
 | tup xs=>
  exact .inr<|.inl<|Z4 r3 p3 (by rw[Qx];exact e7) q3
 | lst xs=>exact .inl<|Z3 r3 (.inl p3) e7 q3
 | arr xs=>exact .inl<|Z3 r3 (.inl p3) e7 q3
 | _=>cases e7⟩
theorem abL{elts:List Expr}{k:Nat}{tp p:Pos}(G:Good X C)(hm:X.mg "zip" = none)(ha:Nh X C [e,e2] ea)(hg:Gl X "zip":=by rfl)(hs:starEach [e,e2] X.env=(false,eval e X.env)::starEach [e2] X.env:=by rfl)(hs2:starEach [e2] X.env=[(false,eval e2 X.env)]:=by rfl):YS X C (.Tuple elts k tp) (.Call (.Name "zip" p) [e,e2] [] pos) (QL ea):=⟨by
 have h:=ahd (elts:=elts) (k:=k) (tp:=tp) (p:=p) (pos:=pos) hg hm ha.u hs hs2;rw[G.K] at h;refine h.imp λσ H R hq=>?_;obtain⟨Pr,F,env,env',ds,r,e,q⟩:=hq;obtain⟨as,aG,e1,e2⟩:=aO e;refine⟨Pr,F,env,aG,as,r,e1,λvs H1 F1 r1 s1 p1=>?_⟩;split at e2
 ·rename_i xs ys;cases e2;obtain⟨v,w,rfl,p2,v2,w2,rfl,p3,p4⟩:=p1;cases p4;obtain⟨z1,a1,us,rfl,h1,h2⟩:=p2;obtain⟨z2,a2,ws,rfl,h3,h4⟩:=p3;have l1:=h2.length;have l2:=h4.length;refine⟨a1,a2,rfl,⟨us,aV.tupK r1.fr h1⟩,⟨ws,aV.tupK r1.fr h3⟩,q _ H1 F1 r1 s1 λi H2 s2=>⟨λ_ ei=>⟨us,ws,aV.tupK s2 h1,aV.tupK s2 h3,?_⟩,λd hd=>?_⟩⟩
  ·have:(uB xs ys).length=min xs.length ys.length:=by unfold uB;rw[Qqz,List.length_zip]
   omega
  ·unfold uB at hd;rw[Qw6] at hd;obtain⟨⟨c,j⟩,hc,rfl⟩:=Qww.mp hd;obtain⟨g1,g2⟩:=List.getElem?_zip_eq_some.mp hc;obtain⟨v1,k1,k2⟩:=wR h2 g1;obtain⟨v2,k3,k4⟩:=wR h4 g2;refine⟨⟨us,ws,v1,v2,aV.tupK s2 h1,aV.tupK s2 h3,k1,k3⟩,λy H3 hy=>.inr ?_⟩;obtain⟨p,x',y',m1,m2,m3,rfl,rfl⟩:=hy;have n1:=m1 us<|aV.tupK s2 h1;have n2:=m2 ws<|aV.tupK s2 h3;rw[k1] at n1;rw[k3] at n2;cases n1;cases n2;exact⟨p,_,_,m3,rfl,rfl,rfl,by show 2<=sizeLine;decide,_,_,rfl,k2,_,_,rfl,k4,rfl⟩
 ·cases e2⟩
theorem Nq(o:Cm X C op g)(o':Cm X C op' g')(ha:SX X C x a)(hb:SX X C y b)(hc:SX X C z c)(hm:lastMarks [op,op'] [y,z]=false:=by with_unfolding_all rfl):SX X C (.Compare x [op,op'] [y,z] pos) (pH g g' a b c):=⟨by
 obtain⟨r,h1,h2⟩:=o.ex;obtain⟨r',h1',h2'⟩:=o'.ex;refine(aaO h1 h1' ha.u hb.u hc.u hm).imp λσ H Q hq=>?_;obtain⟨Pr,F,env,env',d,rl,e,q⟩:=hq;obtain⟨u,aG,e1,e2⟩:=aO e;obtain⟨v,dD,e3,e4⟩:=aO e2;refine⟨Pr,F,env,aG,u,rl,e1,λvu H1 F1 r1 s1 p1=>⟨Pr,F1,aG,dD,v,r1,e3,λvv H2 F2 r2 s2 p2=>?_⟩⟩;split at e4
 ·rename_i k hg;refine h2 Pr F2 dD σ H2 u v (.bl k) vu vv _ r2 (.inl<|Rep.mono s2 _ _ p1) (.inl p2) hg λvz H3 F3 r3 s3 p3=>⟨k,p3,?_⟩;cases k with
  | false=>
   rw[if_neg Qwx] at e4 ⊢;cases e4;exact q _ H3 F3 r3 ((s1.trans s2).trans s3) rfl
  | true=>
   rw[if_pos rfl] at e4 ⊢;obtain⟨t,zq,e5,e6⟩:=aO e4;obtain⟨e7,rfl⟩:=du e6;exact⟨Pr,F3,dD,env',t,r3,e5,λvt H4 F4 r4 s4 p4=>h2' Pr F4 env' σ H4 v t d vv vt Q r4 (.inl<|Rep.mono (s3.trans s4) _ _ p2) (.inl p4) e7 λv' H5 F5 r5 s5 p5=>q v' H5 F5 r5 ((((s1.trans s2).trans s3).trans s4).trans s5) p5⟩
 ·cases e4⟩
theorem BV(o:Cm X C op g)(o':Cm X C op' g')(ha:SX X C x a)(hb:SX X C y b)(hc:SX X C z c)(hm:lastMarks [op,op'] [y,z]=false:=by with_unfolding_all rfl):Wo X C (.Compare x [op,op'] [y,z] pos) (cX (pH g g' a b c)):=⟨by
 obtain⟨r,h1,h2⟩:=o.ex;obtain⟨r',h1',h2'⟩:=o'.ex;refine(aaA h1 h1' ha.u hb.u hc.u hm).imp λσ H Q' hq'=>?_;have hq:=Ob hq';show R0 r r' (tE C a) (tE C b) (tE C c) σ H _;generalize(λ(z:V) H'=>∃b,z = .bl b/\Q' b H')=Q at *;obtain⟨Pr,F,env,env',d,rl,e,q⟩:=hq;obtain⟨u,aG,e1,e2⟩:=aO e;obtain⟨v,dD,e3,e4⟩:=aO e2;refine⟨Pr,F,env,aG,u,rl,e1,λvu H1 F1 r1 s1 p1=>⟨Pr,F1,aG,dD,v,r1,e3,λvv H2 F2 r2 s2 p2=>?_⟩⟩;split at e4
 ·rename_i k hg;refine h2 Pr F2 dD σ H2 u v (.bl k) vu vv _ r2 (.inl<|Rep.mono s2 _ _ p1) (.inl p2) hg λvz H3 F3 r3 s3 p3=>⟨k,p3,?_⟩;cases k with
  | false=>
   rw[if_neg Qwx] at e4 ⊢;cases e4;exact q _ H3 F3 r3 ((s1.trans s2).trans s3) rfl
  | true=>
   rw[if_pos rfl] at e4 ⊢;obtain⟨t,zq,e5,e6⟩:=aO e4;obtain⟨e7,rfl⟩:=du e6;exact⟨Pr,F3,dD,env',t,r3,e5,λvt H4 F4 r4 s4 p4=>h2' Pr F4 env' σ H4 v t d vv vt Q r4 (.inl<|Rep.mono (s3.trans s4) _ _ p2) (.inl p4) e7 λv' H5 F5 r5 s5 p5=>q v' H5 F5 r5 ((((s1.trans s2).trans s3).trans s4).trans s5) p5⟩
 ·cases e4⟩
theorem Vz{elts:List Expr}{k:Nat}{tp p:Pos}(G:Good X C)(hm:X.mg "zip" = none)(ha:Nh X C [e,e2] ea)(hg:Gl X "zip":=by rfl)(hs:starEach [e,e2] X.env=(false,eval e X.env)::starEach [e2] X.env:=by rfl)(hs2:starEach [e2] X.env=[(false,eval e2 X.env)]:=by rfl):YS X C (.Tuple elts k tp) (.Call (.Name "zip" p) [e,e2] [] pos) (Ey ea):=⟨by
 have h:=adS (elts:=elts) (k:=k) (tp:=tp) (p:=p) (pos:=pos) hg hm ha.u hs hs2;rw[G.K] at h;refine h.imp λσ H R hq=>?_;obtain⟨Pr,F,env,env',ds,r,e,q⟩:=hq;obtain⟨as,aG,e1,e2⟩:=aO e;refine⟨Pr,F,env,aG,as,r,e1,λvs H1 F1 r1 s1 p1=>?_⟩;split at e2
 ·rename_i xs ys;cases e2;obtain⟨v,w,rfl,p2,v2,w2,rfl,p3,p4⟩:=p1;cases p4;obtain⟨z1,a1,us,rfl,h1,h2⟩:=p2;obtain⟨z2,a2,ws,rfl,h3,h4⟩:=p3;have l1:=h2.length;have l2:=h4.length;refine⟨a1,a2,rfl,⟨us,nq.of<|r1.fr _ _ h1⟩,⟨ws,aV.tupK r1.fr h3⟩,q _ H1 F1 r1 s1 λi H2 s2=>⟨λ_ ei=>⟨us,ws,nq.of<|s2 _ _ h1,aV.tupK s2 h3,?_⟩,λd hd=>?_⟩⟩
  ·have:(uB xs ys).length=min xs.length ys.length:=by unfold uB;rw[Qqz,List.length_zip]
   omega
  ·unfold uB at hd;rw[Qw6] at hd;obtain⟨⟨c,j⟩,hc,rfl⟩:=Qww.mp hd;obtain⟨g1,g2⟩:=List.getElem?_zip_eq_some.mp hc;obtain⟨v1,k1,k2⟩:=wR h2 g1;obtain⟨v2,k3,k4⟩:=wR h4 g2;refine⟨⟨us,ws,v1,v2,nq.of<|s2 _ _ h1,aV.tupK s2 h3,k1,k3⟩,λy H3 hy=>.inr ?_⟩;obtain⟨p,x',y',m1,m2,m3,rfl,rfl⟩:=hy;have n1:=m1 us<|nq.of<|s2 _ _ h1;have n2:=m2 ws<|aV.tupK s2 h3;rw[k1] at n1;rw[k3] at n2;cases n1;cases n2;exact⟨p,_,_,m3,rfl,rfl,rfl,by show 2<=sizeLine;decide,_,_,rfl,k2,_,_,rfl,k4,rfl⟩
 ·cases e2⟩
theorem acU(G:Good X C)(hm:X.mg "int" = none)(ha:zF X C [e] ea)(hg:Gl X "int":=by rfl)(he:O6 e X.env:=by rfl):SX X C (.Call (.Name "int" p) [e] [] pos) (az VR ea):=⟨ur Yx afc hg hm (by rfl) ha.u (by decide) (by decide) he rfl⟩
theorem agT{elt tg iter qG dI:Expr}(N'){spos py:Pos}{c:fX}{e:Ev}(lo)(i)(ok:ji X scope N')(G:Good X C)(hi:YS X C tg iter it)(bg:∀X',dH X scope N' X'->SXG X' C lo tg g)(bi:∀X',dH X scope N' X'->YS X' C qG dI wk)(bg2:∀X',dH X scope N' X'->SXG X' C lo qG g2)(bc:∀X',dH X scope N' X'->YQ X' C ifs c)(be:∀X',dH X scope N' X'->SX X' C elt e)(hnd:nM X.N=true:=by rfl)(hfx:C.fx i=none:=by rfl)(hy:X.N[i]? = some n:=by rfl)(hx:Loc X.env.scope n:=by first|exact Or.inl rfl|exact Or.inr rfl)(hsw:swapsWith (.ListComp elt [⟨tg,iter,[],0⟩,⟨qG,dI,ifs,0⟩] scope pos) (some (.Name n py)) spos.line X.env=pure true:=by rfl)(hf:X.fn n=true\/X.env.scope.names.lookup n=some .local:=by first|exact .inl rfl|exact .inr rfl)(hs2:∀X' x,dH X scope N' X'->foldedSetIterable dI X'.env x=pure x:=by intro _ _ _;rfl)(hs:∀x,foldedSetIterable iter X.env x=pure x:=by intro _;rfl):UT X C (.Assign [.Name n py] (.ListComp elt [⟨tg,iter,[],0⟩,⟨qG,dI,ifs,0⟩] scope pos) spos) (gr i (EY lo N'.length it g wk g2 c e)):=⟨Ev.akP N' lo i ok G hi.u (λX1 h1=>(bg X1 h1).u) (λX1 h1=>(bi X1 h1).u) (λX1 h1=>(bg2 X1 h1).u) (λX1 h1=>(bc X1 h1).u) (λX1 h1=>(be X1 h1).u) hnd hfx hy hx hsw hf hs2 hs⟩
theorem wU(ha:SX X C x a):SX X C (.UnaryOp .Not x pos) (Ez a):=⟨(ahl ha.u).imp λσ H Q hq=>by
 obtain⟨Pr,F,env,env',k,rl,e,q⟩:=hq;obtain⟨c,aG,e1,e2⟩:=aO e;refine⟨Pr,F,env,aG,c,rl,e1,λv H1 F1 r1 s1 p1=>?_⟩;cases c with
 | bl z=>cases e2;exact⟨z,p1,q _ H1 F1 r1 s1 rfl⟩
 | _=>cases e2⟩
noncomputable def acb(xs:List D):List D:=xs.zipIdx.map λp=>.tup [.int (p.2:Nat),p.1]
def ae2(a:dq):dq:=λenv=>bindR (a env) λds aG=>match ds with
 | [.str x]=>.ok (uO x) aG
 | [.tup xs]=>.ok (acb xs) aG
 | _=>.stuck
def aeM(a:dq):dq:=λenv=>bindR (a env) λds aG=>match ds with
 | [.lst x,.lst y]=>.ok (uB x y) aG
 | _=>.stuck
def abX(x y:D):Option D:=((uF x y).or (VM x y)).or (Mt x y)
theorem ajV:Bi X C .Mult abX:=by obtain⟨r,h1,h2⟩:=(Wi).ex;obtain⟨r',h1',h2'⟩:=(ajT).ex;obtain⟨r'',ao0,aoZ⟩:=(afj).ex;exact⟨_,(h1.or h1').or ao0,(h2.or h2').or aoZ⟩
end
section
variable{α β:Type}{g g2:GV}{wk:dq}{c:fX}{e:Ev}(enc:α->D)(ea:α->Env)(l2:α->List β)(Hd:α->β->D)(eb:α->β->Env)(p:α->β->Bool)(out:α->β->D)(env:Env)(m k:Nat)
theorem alN(a)(hc:∀b∈l2 a,(eb a b).length=k/\(∀v,v.length=k->g2 (Hd a b) (env++(ea a++v))=some (env++(ea a++eb a b)))/\c (env++(ea a++eb a b)) = .ok (p a b) (env++(ea a++eb a b))/\(p a b=true->e (env++(ea a++eb a b)) = .ok (out a b) (env++(ea a++eb a b))))(v)(hv:v.length=k) :
  ∃v',v'.length=k/\uJ g2 c e ((l2 a).map (Hd a)) (env++(ea a++v)) = .ok (((l2 a).filter (p a)).map (out a)) (env++(ea a++v')):=by
 have:=abf (g:=g2) (c:=c) (e:=e) (Hd a) (eb a) (p a) (out a) (env++ea a) k (l2 a) v hv (λb hb=>by
  simp_all)
 simp_all
theorem abg:∀(l:List α),(∀a∈l,(ea a).length=m/\(∀u v,u.length=m->v.length=k->g (enc a) (env++(u++v))=some (env++(ea a++v)))/\(∀v,v.length=k->wk (env++(ea a++v)) = .ok ((l2 a).map (Hd a)) (env++(ea a++v)))/\
   ∀b∈l2 a,(eb a b).length=k/\(∀v,v.length=k->g2 (Hd a b) (env++(ea a++v))=some (env++(ea a++eb a b)))/\c (env++(ea a++eb a b)) = .ok (p a b) (env++(ea a++eb a b))/\(p a b=true->e (env++(ea a++eb a b)) = .ok (out a b) (env++(ea a++eb a b))))->
  ∀u v,u.length=m->v.length=k->∃u' v',u'.length=m/\v'.length=k/\TQ g wk g2 c e (l.map enc) (env++(u++v)) = .ok (l.flatMap λa=>((l2 a).filter (p a)).map (out a)) (env++(u'++v'))
 | [],_,u,v,hu,hv=>⟨u,v,hu,hv,rfl⟩
 | a::l,h,u,v,hu,hv=>by
  obtain⟨h1,h2,h3,h4⟩:=h a Qq3;obtain⟨v1,hv1,e1⟩:=alN ea l2 Hd eb p out env k a h4 v hv;obtain⟨u',v',hu',hv',e2⟩:=abg l (λa ha=>h a<|Qqy _ ha) (ea a) v1 h1 hv1;refine⟨u',v',hu',hv',?_⟩;rw[Qq2];unfold TQ;rw[h2 u v hu hv];show bindR (wk<|env++(ea a++v)) _=_;rw[h3 v hv,bR,e1,bR,e2,bR,List.flatMap_cons]
end
theorem ae0{α β:Type}{lo n:Nat}(m k)(l:List α)(enc)(ea:α->Env)(l2:α->List β)(Hd:α->β->D)(eb:α->β->Env)(p:α->β->Bool)(out:α->β->D)
  (hit:it env = .ok (l.map enc) aG) (hlo:aG.length=lo) (hn:n=lo+(m+k))
  (h:∀a∈l,(ea a).length=m/\(∀u v:Env,u.length=m->v.length=k->g (enc a) (aG++(u++v))=some (aG++(ea a++v)))/\(∀v:Env,v.length=k->wk (aG++(ea a++v)) = .ok ((l2 a).map (Hd a)) (aG++(ea a++v)))/\
   ∀b∈l2 a,(eb a b).length=k/\(∀v:Env,v.length=k->g2 (Hd a b) (aG++(ea a++v))=some (aG++(ea a++eb a b)))/\c (aG++(ea a++eb a b)) = .ok (p a b) (aG++(ea a++eb a b))/\(p a b=true->e (aG++(ea a++eb a b)) = .ok (out a b) (aG++(ea a++eb a b))))
  (hz:(l.flatMap λa=>((l2 a).filter (p a)).map (out a)).length<=sizeLine):EY lo n it g wk g2 c e env = .ok (.lst (l.flatMap λa=>((l2 a).filter (p a)).map (out a))) aG:=by
 obtain⟨u',v',hu',hv',e1⟩:=abg enc ea l2 Hd eb p out aG m k l h (List.replicate m none) (List.replicate k none) Qw5 Qw5;have er:List.replicate m (none:Option (Bool×D))++List.replicate k none=List.replicate (n - lo) none:=by simp_all
 rw[er] at e1;unfold EY;rw[hit];show(if aG.length=lo then _ else _)=_;rw[if_pos hlo,e1,bR,if_pos hz,<-hlo,List.take_left]
theorem Qm(i:Nat):∀r:List Nat,Ii (.int i) (r.map λ(k:Nat)=>D.int k)=some (decide (i∈r))
 | []=>rfl
 | k::r=>by
  rw[Qq2];unfold Ii;rw[Qm i r];show some ((k == (i:Int))||decide (i∈r))=_
  congr 1
  grind
theorem zU(i:Nat)(r:List Nat):tR (.int i) (.tup (r.map λ(k:Nat)=>D.int k))=some (.bl (!decide (i∈r))):=by
 unfold tR Bp;show(Option.map (λb=>D.bl<|!b)<|Ii (.int i)<|r.map λ(k:Nat)=>D.int k).or _=_;rw[Qm]
 rfl
noncomputable def bL(r:List Nat):D:=.tup (r.map λ(k:Nat)=>D.int (k:Int))
def al9(ds:List D)(e:Env):R (List D):=match ds with
 | [.str x]=>.ok (uO x) e
 | [.tup xs]=>.ok (acb xs) e
 | _=>.stuck
theorem aiG(xs)(e):al9 [.tup xs] e = .ok (acb xs) e:=nr rfl
theorem Yn(a)(env):ae2 a env=bindR (a env) al9:=nr rfl
def alR(ds:List D)(e:Env):R (List D):=match ds with
 | [.lst x,.lst y]=>.ok (uB x y) e
 | _=>.stuck
theorem aia(x y)(e):alR [.lst x,.lst y] e = .ok (uB x y) e:=nr rfl
theorem Yk(a)(env):aeM a env=bindR (a env) alR:=nr rfl
theorem ajk:rR (.int 1)=some (.int (-1)):=nr rfl
end Ev
namespace L2
open PySem PySem.Spec PyProof.Rows
theorem yO:fillsNumberSlot (.type "tuple") "mul" = pure false:=
 PySem.fillsNumberSlot_seq PySem.F.slot_tuple_mul.lookup (by rfl) PySem.F.slot_tuple_rmul.lookup (by rfl)
theorem Lg:seqRepeat? (.type "tuple")=pure (some (.builtin "tuple.__mul__")):=by rfl
theorem aah(a)(t)(l)(items)(n)(dd)(sl) :
  Meets (Builtin.«int.__rmul__» ⟨[.int a t,.ref l],[]⟩) (λ_ R s=>s.heap.get? l=some { cls:=.type "tuple",dict:=dd,data:=.seq items n,slots:=sl }/\R (.ok (.ret Value.notImplemented)) s):=
 .of_wp λprog w A R s h=>by obtain⟨hp,g,d,tk,os⟩:=s;obtain⟨hl,h⟩:=h;wp_walk;exact⟨_,rfl,h⟩
theorem Ry(l)(items)(n)(dd)(sl)(x)(u)(h0:¬items.isEmpty=true)(h2:2<=x)(hx:x<=1000)(hsz:items.size*x.toNat<=sizeLine) :
  Meets (Builtin.«tuple.__mul__» ⟨[.ref l,.int x u],[]⟩) (λ_ R s=>s.heap.get? l=some { cls:=.type "tuple",dict:=dd,data:=.seq items n,slots:=sl }/\R (.ok (.ret (Value.ref s.heap.objs.size))) { s with heap:=s.heap.push { cls:=Value.type "tuple",data:=Data.seq (List.foldl (λx1 x2=>x1++x2) #[] (List.replicate x.toNat items)) },toks:=s.toks }):=
 .of_wp λprog w A R s h=>by
  obtain⟨hp,g,d,tk,os⟩:=s;obtain⟨hl,h⟩:=h;have f1:=AutoSeq1.idx_int;have hj:(List.foldl (λx1 x2=>x1++x2) #[] (List.replicate x.toNat items)).size<=sizeLine:=by
   rw[AutoListH.size_joined]
   grind
  have e1:(decide (x < -(2^63))||decide (x ≥ 2^63))=false:=by grind
  have e2:(items.isEmpty||x == 1)=false:=by grind
  have e3:(decide (x<=0)||items.isEmpty)=false:=by grind
  have hsz':(items.size)*x<=sizeLine:=by grind
  have e5:Builtin.Tuple.tupleTooMany (items.size*x)=false:=Qwj (by omega);have hl2:sizeLine<=2^24:=by decide
  wp_walk using wpAny_loadPart' hl
  refine wpAny_ite_false (by simp_all) ?_
  wp_walk using wpAny_loadPart' hl
  refine wpAny_ite_false (by simp_all) ?_
  wp_walk using wpAny_loadPart' hl
  refine wpAny_ite_false (by simp_all) ?_
  wp_walk using wpAny_loadPart' hl
  refine wpAny_ite_false (Qwj (by omega)) ?_
  wp_walk using wpAny_loadPart' hl
  simp_all
theorem age(c):∀k (acc:Array Value),(List.replicate k c).foldl (λx1 x2=>x1++x2) acc=⟨acc.toList++(List.replicate k c.toList).flatten⟩
 | 0,acc=>by simp
 | k+1,acc=>by
  rw[List.replicate_succ,Qz9,age c k,List.replicate_succ];simp
theorem Mg{α:Type}(xs:List α):∀k,(List.replicate k xs).flatten.length=xs.length*k
 | 0=>rfl
 | k+1=>by rw[List.replicate_succ,List.flatten_cons,Qq1,Mg xs k,Nat.mul_succ];omega
theorem Vals.flat(r:Vals xs us):∀k,Vals (List.replicate k xs).flatten (List.replicate k us).flatten
 | 0=>.nil
 | k+1=>by rw[List.replicate_succ,List.replicate_succ];exact r.append<|Vals.flat r k
section
variable{X:Cx}
def afQ(K:PySem.W.Frag):R2:=λx y H Q=>∃a xs,∃k:Nat,x = .ref a/\y = .int (k:Int)/\2<=k/\k<=1000/\mQ K H a xs/\xs≠[]/\xs.length*k<=sizeLine/\∀p,H p=none->Q (.ref p) (upd H p (.tup (List.replicate k xs).flatten))
theorem ad1:nu X (binaryOp .Mult) (afQ X.K):=by
 intro pins s σ H x y v u Q I rx ry h;obtain⟨a,xs,k,rfl,rfl,h2,h3,ha,hx,hz,q⟩:=h;cases rx;obtain⟨t',rfl⟩:=ry;obtain⟨its,r1,p1,_⟩:=I.tuple ha;obtain⟨⟨cls,dd,data,sl⟩,ho,hc,n,hd⟩:=id p1;simp at hc hd;subst hc hd;have hne:¬its.toArray.isEmpty=true:=by
  intro e;have e2:its=[]:=by simpa using e
  exact hx<|r1.Bm.mp e2
 have hsz:its.toArray.size*(k:Int).toNat<=sizeLine:=by rw[Qq5,<-r1.length,Qxw];exact hz
 refine wpAny_binaryOp_repeat_ref (by decide) ⟨_,ho,rfl⟩ (λs'=>typeIs_int s' k t') yO PySem.F.fills_int_mul PySem.F.slot_int_rmul Lg PySem.F.slot_int_index.lookup
  (call_meets PySem.F.slot_int_rmul (typeIs_int s k t') PySem.F.entry_int_rmul (PySem.F.args_int_rmul_2 _ _) (aah k t' a its.toArray n dd sl)
   ⟨ho,rfl,⟨_,ho,rfl⟩,call_meets PySem.F.slot_tuple_mul ⟨_,ho,rfl⟩ PySem.F.entry_tuple_mul (PySem.F.args_tuple_mul_2 _ _) (Ry a its.toArray n dd sl k t' hne (by omega) (by omega) hsz) ⟨ho,?_⟩⟩)
 refine⟨.ref s.heap.objs.size,_,I.laid (λb ob q=>Qqx _ q) (Qqv _) ?_,rfl,q _<|I.hok.fresh<|Qqv _⟩;rw[age,Qxw];exact⟨by rw[Mg];exact hz,_,r1.flat k,Gk.new _ _⟩
end
end L2
namespace Ev
open PySem PySem.Spec PyProof.Rows L2
section
variable{X:Cx}{C:Cfg}
theorem bT.flat{K:Fg}(h:bT K F ds vs):∀k,bT K F (List.replicate k ds).flatten (List.replicate k vs).flatten
 | 0=>rfl
 | k+1=>by rw[List.replicate_succ,List.replicate_succ];exact h.append<|bT.flat h k
noncomputable def JG:D->D->Option D
 | .tup z,.int i=>if 2<=i/\i<=1000/\0<z.length/\z.length*i.toNat<=sizeLine then some (.tup (List.replicate i.toNat z).flatten) else none
 | _,_=>none
theorem ad8:qg C (afQ C.K) JG:=by
 intro Pr F env σ H x y d vx vy Q r px py e q;unfold JG at e;split at e
 ·rename_i z i;split at e
  ·rename_i hc;cases e;cases py.int;obtain⟨z1,a,vs,rfl,h1,f1,h2⟩:=px.tup r.fr;refine⟨a,vs,i.toNat,rfl,by rw[Int.toNat_of_nonneg (by omega)],by omega,by omega,h1,?_,by rw[h2.length];exact hc.2.2.2,λp hp=>?_⟩
   ·intro hv;subst hv;have:z.length=0:=h2.length.symm;omega
   ·obtain⟨r2,s2⟩:=r.new hp;exact q _ _ _ r2 s2 ⟨by rw[Mg];exact hc.2.2.2,p,_,rfl,mQ.of bC,bT.mono s2 _ _<|h2.flat _⟩
  ·cases e
 ·cases e
theorem ajS(G:Good X C):Bi X C .Mult JG:=⟨_,ad1,by rw[G.K];exact ad8⟩
def VN(x y:D):Option D:=(abX x y).or (JG x y)
theorem ajU(G:Good X C):Bi X C .Mult VN:=by obtain⟨r,h1,h2⟩:=(ajV).ex;obtain⟨r',h1',h2'⟩:=(ajS G).ex;exact⟨_,h1.or h1',h2.or h2'⟩
end
end Ev
namespace ST
open PySem PyProof.Rows
section
variable{prog:Program}{w:World}{A:Around}{E:Value->Shared->Prop}{s:Shared}{kd:SortKind}{r:Keyed->Nat}{a₀:Array Keyed}
def Cmp(prog:Program)(w:World)(A:Around)(E:Value->Shared->Prop)(s:Shared)(kd:SortKind)(r:Keyed->Nat)(a₀:Array Keyed):Prop:=
 ∀x y,x∈a₀->y∈a₀->∀(st:SortSt) (Q:Option Bool->SortSt->Prop),kindOf st=kd->Q (some (decide (r x<r y))) st->wpS (model prog w) A E s (lt' x y) Q st
noncomputable def bB(left:Bool)(r:Keyed->Nat)(key x:Keyed):Bool:=if left then decide (r x<r key) else !decide (r key<r x)
section
variable{left:Bool}{key:Keyed}{arr:Array Keyed}{base n:Nat}{st:SortSt}(C:Cmp prog w A E s kd r a₀)(hk:kindOf st=kd)(hkey:key∈a₀)(aoS:∀x∈arr,x∈a₀)(hb:base+n<=arr.size)
 (B:Nat->Bool) (hB:∀i (h:base+i<arr.size),i<n->bB left r key arr[base+i]=B i) (hm:∀i j,i<=j->j<n->B j=true->B i=true)
include C hk hkey aoS hb hB hm
end
end
section
variable{le:Keyed->Keyed->Prop}
structure J(le:Keyed->Keyed->Prop)(X Y out:List Keyed)(i j:Nat):Prop where
 hi:i<=X.length
 hj:j<=Y.length
 perm:out.Perm (X.take i++Y.take j)
 srt:out.Pairwise le
 low:∀x∈out,∀y∈X.drop i++Y.drop j,le x y
def Good(le:Keyed->Keyed->Prop)(X Y R:List Keyed):Prop:=R.Perm (X++Y)/\R.Pairwise le
end
section
variable{prog:Program}{w:World}{A:Around}{E:Value->Shared->Prop}{s:Shared}{kd:SortKind}{r:Keyed->Nat}{a₀:Array Keyed}
abbrev Y6(r:Keyed->Nat):Keyed->Keyed->Prop:=λx y=>r x<=r y
section
variable{a b:Array Keyed}{st:SortSt}(C:Cmp prog w A E s kd r a₀)(hk:kindOf st=kd)(ma:∀x∈a,x∈a₀)(mb:∀x∈b,x∈a₀)(hX:a.toList.Pairwise (Y6 r))(hY:b.toList.Pairwise (Y6 r))
 (hl:∀y∈b.toList,∀h:a.size - 1<a.toList.length,Y6 r y a.toList[a.size - 1])
structure JS(r:Keyed->Nat)(a b o:Array Keyed)(i j:Nat):Prop where
 on:J (Y6 r) a.toList b.toList o.toList i j
 hi:i+1<a.size
 hj:j<b.size
abbrev GD(r:Keyed->Nat)(a b R:Array Keyed):Prop:=Good (Y6 r) a.toList b.toList R.toList
include hX in
include hX in
include hY hl in
include hY in
def P1(r:Keyed->Nat)(a b:Array Keyed)(n:Nat)(c:Option (Array Keyed))(o:Array Keyed)(i j:Nat):Prop:=match c with
 | some R=>GD r a b R
 | none=>JS r a b o i j/\n<=i+j
include C hk ma mb hX hY hl
end
end
section
variable{prog:Program}{w:World}{A:Around}{E:Value->Shared->Prop}{s:Shared}{kd:SortKind}{r:Keyed->Nat}{a₀:Array Keyed}
variable{a b:Array Keyed}{st:SortSt}(C:Cmp prog w A E s kd r a₀)(hk:kindOf st=kd)(ma:∀x∈a,x∈a₀)(mb:∀x∈b,x∈a₀)(hX:a.toList.Pairwise (Y6 r))(hY:b.toList.Pairwise (Y6 r))
 (hl:∀y∈b.toList,∀h:a.size - 1<a.toList.length,Y6 r y a.toList[a.size - 1])
include C hk ma mb hX hY hl
end
abbrev H1:=Option (Array Keyed)×Nat×Nat×Array Keyed×Nat×Nat
abbrev H2:=Option (Array Keyed)×Nat×Nat×Array Keyed×Nat×Nat×Nat
abbrev H0:=Option (Array Keyed)×Nat×Nat×Array Keyed×Nat
abbrev geR(r:Keyed->Nat):Keyed->Keyed->Prop:=λx y=>r y<=r x
section
variable{prog:Program}{w:World}{A:Around}{E:Value->Shared->Prop}{s:Shared}{kd:SortKind}{r:Keyed->Nat}{a₀:Array Keyed}
variable{a b:Array Keyed}{st:SortSt}(C:Cmp prog w A E s kd r a₀)(hk:kindOf st=kd)(ma:∀x∈a,x∈a₀)(mb:∀x∈b,x∈a₀)(hX:a.toList.Pairwise (Y6 r))(hY:b.toList.Pairwise (Y6 r))
 (hl:∀y∈a.toList,∀h:0<b.toList.length,r b.toList[0]<=r y)
abbrev JH(r:Keyed->Nat)(a b o:Array Keyed)(m n:Nat):Prop:=J (geR r) a.toList.reverse b.toList.reverse o.toList (a.size - m) (b.size - n)
structure KS(r:Keyed->Nat)(a b o:Array Keyed)(m n:Nat):Prop where
 on:JH r a b o m n
 m0:0<m
 ml:m<=a.size
 n1:1<n
 nl:n<=b.size
include hX hY in
include hX hl in
include hX in
def P2(r:Keyed->Nat)(a b:Array Keyed)(k:Nat)(c:Option (Array Keyed))(m n:Nat)(o:Array Keyed):Prop:=match c with
 | some R=>GD r a b R
 | none=>KS r a b o m n/\m+n<=k
include C hk ma mb hX hY hl
end
section
variable{prog:Program}{w:World}{A:Around}{E:Value->Shared->Prop}{s:Shared}{kd:SortKind}{r:Keyed->Nat}{a₀:Array Keyed}
variable{a b:Array Keyed}{st:SortSt}(C:Cmp prog w A E s kd r a₀)(hk:kindOf st=kd)(ma:∀x∈a,x∈a₀)(mb:∀x∈b,x∈a₀)(hX:a.toList.Pairwise (Y6 r))(hY:b.toList.Pairwise (Y6 r))
 (hl:∀y∈a.toList,∀h:0<b.toList.length,r b.toList[0]<=r y)
include C hk ma mb hX hY hl
end
section
variable{prog:Program}{w:World}{A:Around}{E:Value->Shared->Prop}{s:Shared}{kd:SortKind}{r:Keyed->Nat}{a₀:Array Keyed}
structure Bs(kd:SortKind)(a₀:Array Keyed)(st:SortSt):Prop where
 perm:(arrOf st).Perm a₀
 fail:failedOf st=none
 kind:kindOf st=kd
noncomputable def part(l:List Keyed)(b n:Nat):List Keyed:=(l.drop b).take n
end
end ST
namespace Ev
open PySem PySem.Spec PySem.W PySem.Calls PyProof.Rows L2
def FA(K:Fg)(x:Str)(st:Stmt):Prop:=∃(f:Addr) (oc kV doc pm cdv ct:Value) (od an:Option Addr) (osl:Array (Option Value)),PySem.W.nsIn K mainGlobals x=some (some (.ref f))/\
 K.lookup f=some ⟨oc,od,.func (PySem.W.fnOf x x (j8 st) (fU st) (aJ st) .none kV doc pm an cdv ct),osl⟩/\PySem.W.codeIn K cdv x=true/\PySem.W.keepIn K (.ref f)=true
theorem FA.mk{K:Fg}{st:Stmt}{oc kV doc pm cdv ct:Value}{od an:Option Addr}(a:PySem.W.nsIn K mainGlobals x=some (some (.ref f)))
  (l:K.lookup f=some ⟨oc,od,.func (PySem.W.fnOf x x (j8 st) (fU st) (aJ st) .none kV doc pm an cdv ct),osl⟩) (c:PySem.W.codeIn K cdv x=true) (k:PySem.W.keepIn K (.ref f)=true):FA K x st:=
 ⟨f,oc,kV,doc,pm,cdv,ct,od,an,osl,a,l,c,k⟩
theorem FA.at{K:Fg}{st:Stmt}(X:K.In h)(G:h.Ns mainGlobals mg)(F:FA K x st)
  (b:∀{kV doc pm} {an} {cdv ct} us,us.length=ps.length->bindArgs (PySem.W.fnOf x x (j8 st) (fU st) (aJ st) .none kV doc pm an cdv ct) ⟨us,[]⟩=pure (ps.zip us)):bW K mg x st ps:=by
 obtain⟨f,oc,kV,doc,pm,cdv,ct,od,an,osl,a,l,c,k⟩:=F;exact funAt X G a l c k<|λ_ _ _ _ _ _ us hl=>b us hl
abbrev BdX(x:Str)(st:Stmt)(us:List Value)(r:List (Str×Value)):Prop:=∀{kV doc pm:Value} {an:Option Addr} {cdv ct:Value},bindArgs (PySem.W.fnOf x x (j8 st) (fU st) (aJ st) .none kV doc pm an cdv ct) ⟨us,[]⟩=pure r
theorem FA.a1{K:Fg}{st:Stmt}(X:K.In h)(G:h.Ns mainGlobals mg)(F:FA K x st)(b:∀u,BdX x st [u] [(p,u)]:=by exact λ_=>rfl):bW K mg x st [p]:=F.at X G fun|[u],_=>b u
theorem FA.a2{K:Fg}{st:Stmt}(X:K.In h)(G:h.Ns mainGlobals mg)(F:FA K x st)(b:∀u v,BdX x st [u,v] [(p,u),(q,v)]:=by exact λ_ _=>rfl):bW K mg x st [p,q]:=F.at X G fun|[u,v],_=>b u v
theorem FA.a3{K:Fg}{st:Stmt}(X:K.In h)(G:h.Ns mainGlobals mg)(F:FA K x st)(b:∀u v w,BdX x st [u,v,w] [(p,u),(q,v),(r,w)]:=by exact λ_ _ _=>rfl):bW K mg x st [p,q,r]:=F.at X G fun|[u,v,w],_=>b u v w
theorem FA.a4{K:Fg}{st:Stmt}(X:K.In h)(G:h.Ns mainGlobals mg)(F:FA K x st)(b:∀u v w y,BdX x st [u,v,w,y] [(p,u),(q,v),(r,w),(t,y)]:=by exact λ_ _ _ _=>rfl):bW K mg x st [p,q,r,t]:=F.at X G fun|[u,v,w,y],_=>b u v w y
theorem FA.law{K:Fg}{st:Stmt}(X:K.In h)(G:h.Ns mainGlobals mg)(hfa:mg x=some (.ref fa))(F:FA K x st)
  (b:∀{kV doc pm} {an} {cdv ct} s v,BindsTo s (PySem.W.fnOf x x (j8 st) (fU st) (aJ st) .none kV doc pm an cdv ct) ⟨[v],[]⟩ [(y,v)])
  (q:∀{fd} base,Za K x x st fa fd->oE P w K mg base Gs k fa fd [y] (jV K 1 g)) :
  ∃fd,(∀s v,BindsTo s fd ⟨[v],[]⟩ [(y,v)])/\∀base,K.In base->base.Ns mainGlobals mg->oE P w K mg base Gs k fa fd [y] (jV K 1 g):=by
 obtain⟨f,oc,kV,doc,pm,cdv,ct,od,an,osl,a,l,c,k⟩:=F;have e:=hfa.symm.trans<|Qj1 X G a;cases e;exact⟨_,b,λbase _ _=>q base<|Ud l c k⟩
end Ev
namespace SI
open PySem PySem.Spec PyProof.Rows L2 PySem.Builtin
def Ris(xs:Array Nat):Prop:=∀i j,i<j->j<xs.size->xs.getD i 0<xs.getD j 0
structure Pl(t:SetTable):Prop where
 dm:t.dummies = #[]
 ri:Ris t.place
open SX (led)
structure TOk(P:Program)(w:World)(es:Array (Int×Value))(t:SetTable)(ys:List Int):Prop where
 el:ElemsOf (intKind P w) es.toList
 tx:∃ss:List Int,IntsAre (es.toList.map (·.2)) ss/\ss.Perm ys
 fit:t.fits es.size=true
 ld:t.led=led w
 pl:Pl t
def Ng(P:Program)(w:World)(h:Heap)(a:Addr)(ys:List Int):Prop:=
 ∃o es ep t,h.get? a=some o/\o.ExactSet/\o.data = .set es ep t/\TOk P w es t ys
open PySem PySem.Spec PyProof.Rows L2 PySem.Builtin Ev
noncomputable def akb(P:Program)(w:World)(a:Addr)(ys:List Int):HO:=.ext λh=>Ng P w h a ys
end SI
namespace Ev
open PySem PySem.Spec PyProof.Rows L2 PySem.Builtin
instance (zs:List Int):Decidable (zs.Pairwise (·< ·)):=inferInstance
end Ev
namespace SJ
open PySem PySem.Spec PyProof.Rows L2 PySem.Builtin
open SX (led)
structure TOk(P:Program)(w:World)(es:Array (Int×Value))(t:SetTable)(ys:List Int):Prop where
 el:ElemsOf (intKind P w) es.toList
 tx:∃ss:List Int,IntsAre (es.toList.map (·.2)) ss/\ss.Perm ys
 fit:t.fits es.size=true
def Ng(P:Program)(w:World)(h:Heap)(a:Addr)(ys:List Int):Prop:=
 ∃o es ep t,h.get? a=some o/\o.ExactSet/\o.data = .set es ep t/\TOk P w es t ys
noncomputable def akb(P:Program)(w:World)(a:Addr)(ys:List Int):HO:=.ext λh=>Ng P w h a ys
end SJ
namespace Ev
open PySem PySem.Spec PySem.W PySem.Calls PyProof.Rows L2
noncomputable def Yg(n:Str):D:=.clo (.Global [n] ⟨0,0,0,0⟩) []
theorem FA.val{K:Fg}{st:Stmt}(X:K.In h)(G:h.Ns mainGlobals mg)(F:FA K x st):Rk K mg x (Yg x):=by obtain⟨f,oc,kV,doc,pm,cdv,ct,od,an,osl,a,l,c,k⟩:=F;exact⟨.ref f,.ref f,Qj1 X G a,rfl,λF=>⟨f,[],rfl,.inr<|.inl ⟨x,_,_,_,_,_,rfl,a,l⟩,rfl⟩⟩
theorem Rk.fn{K:Fg}(h:Rk K mg x (Yg x))(r:Rep K F (Yg x) (.ref a)):mg x=some (.ref a):=by
 obtain⟨v,u,h1,h2,h3⟩:=h;obtain⟨a1,vs1,rfl,c1,_⟩:=h3 F;obtain⟨a2,vs2,e2,c2,_⟩:=r;cases e2;have mk:∀{b} {vs},Clo K F (.Global [x] ⟨0,0,0,0⟩) b vs->PySem.W.nsIn K mainGlobals x=some (some<|.ref b):=λ{b vs} c=>by
  rcases c with ⟨_,c⟩|⟨n,p,_,_,_,_,e,c,_⟩|⟨_,_,_,_,_,_,_,e,_⟩
  ·cases c
  all_goals simp_all
 have e:=(mk c1).symm.trans<|mk c2;cases e;cases h2;exact h1
open PySem PySem.Spec PyProof.Rows L2
theorem Hy(he:SX X C e a)(hs:swapsWith e none pos.line X.env=pure false:=by rfl):UT X C (.Expr e pos) (KH a):=⟨(Lk he.u hs).imp λD σ H hq=>by
 obtain⟨Pr,F,env,r,f⟩:=hq;obtain⟨d,aG,e1,f1⟩:=fO f;exact⟨Pr,F,env,aG,d,r,e1,λv H1 F1 r1 s1 p1=>f1 σ H1 F1 r1 s1⟩⟩
noncomputable def ai0:D->Bool
 | .lst _=>true
 | .dct _=>true
 | .z6 _=>true
 | _=>false
def FX(R:D->Hp->Prop)(C:Cfg)(Pr F:Hp):Out->Prop
 | .rt true d env'=>ai0 d=false/\∀σ' H' F',Rel C Pr F' env' σ' H'->aV F F'->R d H'
 | _=>True
def tX(R:D->Hp->Prop)(C:Cfg)(ev:bU):TS:=λD σ H=>∃(Pr F:Hp) (env:Env),Rel C Pr F env σ H/\Fin C Pr F D (ev env)/\FX R C Pr F (ev env)
def PR(R:D->Hp->Prop)(X:Cx)(C:Cfg)(st:Stmt)(ev:bU):Prop:=PS X st (tX R C ev)
open PySem PySem.Spec PyProof.Rows L2 PySem.Builtin
theorem Od:∀{ds} {zs},jx ds=some zs->ds=zs.map .str
 | [],zs,h=>by cases h;rfl
 | d::ds,zs,h=>by
  unfold jx at h;cases d<;>try (cases h)
  rename_i x;cases e:jx ds with
  | none=>simp_all
  | some r=>have:=Od e;simp_all;subst h;rfl
def Em:D->Option D
 | .lst ds=>(jx ds).bind λzs=>if zs.length<64 then some (.int (SX.rF zs).length) else none
 | _=>none
theorem akO{lo n:Nat}{H Pr F:Hp}(r:Rel C Pr F env σ H)
  (ev:fM lo n it g c e env = .ok (.lst (zs.map .str)) env') (hzs:zs.length<64)
  (q:∀d H' F',Rel C Pr F' env' σ H'->aV F F'->H' d=some (SetT P w d ((SX.rF zs).map strOf))->Q (.ref d) H'):tSC P w n (tI C it) (tG C lo g) (tT C c) (tE C e) σ H Q:=by
 obtain⟨ds,aG,e1,e2⟩:=aO ev;split at e2
 ·rename_i hlo;obtain⟨ys,dD,e3,e4⟩:=aO e2;split at e4
  ·rename_i hz;cases e4;refine⟨Pr,F,env,aG,ds,r,e1,λJ H1 F1 r1 s1 y1 a ha=>?_⟩;have hσ:=r1.len.symm.trans hlo;have hPa:=r1.pr.free ha;refine⟨λi m σ' H'=>m=ds.length - i/\i<=ds.length/\∃F' jZ acc rest,Rel C (upd Pr a<|SetT P w a<|(SX.rF acc).map strOf) F' jZ σ' H'/\aV F1 F'/\σ'.take lo=σ/\uJ g c e (ds.drop i) jZ = .ok rest dD/\acc.map .str++rest=zs.map .str,
    ⟨ds.length,rfl,Qxx _,F1,aG++List.replicate (n - lo) none,[],zs.map .str,?_,aV.refl _,?_,e3,rfl⟩,?_⟩
   ·rw[hσ];exact(r1.aside ha).pad _
   ·unfold qx
    simp_all
   rintro i m σ' H' ⟨rfl,hi,F',jZ,acc,rest,r',s',t',l',hacc⟩;have hFa:F' a=none:=by
    cases ez:F' a with
    | none=>rfl
    | some w=>have:=r'.dj a w ez;rw[bC] at this;cases this
   by_cases hl:i<ds.length
   ·have hd:=Qq6 hl;have hdr:=Qx4 hl;have yy:=y1 i H'<|s'.trans r'.fr;refine .inr ⟨(yy.2 _ hd).1,λσ2 H2=>∃F' jZ acc rest,Rel C (upd Pr a<|SetT P w a<|(SX.rF acc).map strOf) F' jZ σ2 H2/\aV F1 F'/\σ2.take lo=σ/\uJ g c e (ds.drop<|i+1) jZ = .ok rest dD/\acc.map .str++rest=zs.map .str,
     λσ2 H2 h2=>⟨ds.length - (i+1),by omega,rfl,hl,h2⟩,λx H2 hy=>?_⟩
    obtain⟨F2,r2,s2,p2⟩:=nW.item r' s' y1 hd hy;rw[hdr] at l';unfold uJ at l';cases eg:g ds[i] jZ with
    | none=>simp_all
    | some e5=>
     rw[eg] at l';obtain⟨b,e6,c1,l2⟩:=aO l';refine⟨_,F2,jZ,e5,ds[i],r2,p2,eg,λσ3 H3 F3 r3 s3 t3=>⟨_,F3,e5,e6,b,r3,c1,λH4 F4 r4 s4=>?_⟩⟩;have t3':=t3.trans t';have s24:=(s2.trans s3).trans s4;cases b with
     | false=>
      show if false=true then _ else _
      rw[if_neg Qwx];rw[if_neg Qwx] at l2;exact⟨F4,e6,acc,rest,r4,s'.trans s24,t3',l2,hacc⟩
     | true=>
      show if true=true then _ else _
      rw[if_pos rfl];rw[if_pos rfl] at l2;obtain⟨y,e7,c2,l3⟩:=aO l2;obtain⟨ys2,e8,c3,l4⟩:=aO l3;cases l4;refine⟨_,F4,e6,e7,y,r4,c2,λv H5 F5 r5 s5 p5=>?_⟩;have hsp:∃z rs,zs=acc++z::rs/\y = .str z/\ys2=rs.map .str:=by
       have h1:=Qzx (List.drop acc.length) hacc;rw[<-List.map_drop,List.drop_append_of_le_length (by simp),List.drop_of_length_le (by simp),List.nil_append] at h1;have h2:=Qzx (List.take acc.length) hacc;rw[<-List.map_take,List.take_append_of_le_length (by simp),Qjq (by simp)] at h2;have h3:acc=zs.take acc.length:=by
        have inj:∀(p q:List (List Nat)),p.map D.str=q.map D.str->p=q:=λp q h=>by
         have:=Qzx (List.map<|λd=>match d with|D.str z=>z|_=>[]) h
         simpa[Function.comp_def] using this
        exact inj _ _ h2
       cases h4:zs.drop acc.length with
       | nil=>rw[h4] at h1;cases h1
       | cons z rs=>
        rw[h4,Qq2] at h1;obtain⟨h5,h6⟩:=List.cons.inj h1;refine⟨z,rs,?_,h5,h6⟩;rw[<-h4]
        conv=>rhs;rw[h3]
        rw[Qx5];have:min acc.length zs.length=acc.length:=by have:=Qzx List.length h3;rw[Qx5] at this;omega
        rw[this,List.take_append_drop]
      obtain⟨z,rs,hzz,rfl,rfl⟩:=hsp;have hv:=p5.1;subst hv;have hul:=SX.Hs acc;have hlz:=Qzx List.length hzz;rw[Qq1,Qqw] at hlz;refine⟨(SX.rF acc).map strOf,strOf z,rfl,r5.pr _ _ bC,by rw[Qqz];omega,F5,e7,acc++[z],rs.map .str,?_,s'.trans<|s24.trans s5,t3',c3,by rw[hzz];simp⟩;have r6:=r5.turn (u:=SetT P w a<|Uz ((SX.rF acc).map strOf)<|strOf z) bC;rw[Ko] at r6;have eu:(SX.rF<|acc++[z]).map strOf=Uz ((SX.rF acc).map strOf) (strOf z):=by unfold SX.rF;rw[List.foldl_append];exact SX.Rf _ _
      rw[eu];exact r6
   ·have ei:i=ds.length:=by omega
    subst ei;rw[List.drop_length] at l';cases l';rw[Qxv] at hacc;have:acc=zs:=by
     have:=Qzx (List.map<|λd=>match d with|D.str z=>z|_=>[]) hacc
     simpa[Function.comp_def] using this
    subst this;refine .inl ⟨(y1 _ H'<|s'.trans r'.fr).1 (Qjv<|Qqv _) rfl,?_⟩;have sP:aV Pr (upd Pr a<|SetT P w a<|(SX.rF acc).map strOf):=lB hPa;have r7:Rel C Pr F' (dD.take lo) σ H':=by
     have:=(r'.less sP).cut (by simp_all) r1.fix
     simp_all
    exact q a H' F' r7 (s1.trans s')<|r'.pr _ _ bC
  ·cases e4
 ·cases e2
def afS(X:Cx):List V->Hp->VK->Prop:=λxs H Q=>∃(p:Addr) (zs:List Str),xs=[.ref p]/\H p=some (SetT X.prog X.w p zs)/\zs.length<64/\Q (.int zs.length) H
theorem Yw:jL X (.builtin "len") (afS X):=by intro pins s σ H xs us Q I r h;obtain⟨p,zs,rfl,hq,hz,q⟩:=h;obtain⟨u,rfl,rx⟩:=vals1 r;cases rx;obtain⟨o,es,ep,t,e1,e2,e3,_,_,_,e4,e5⟩:s.heap.SetOf (cH X.prog X.w) p (inS zs) zs.length:=(I.hok p _ hq).1;refine call_len_set e1 e2 e3 e4 (by omega) ⟨.int zs.length,H,I.tok _,⟨s.toks+1,by rw[e5]⟩,q⟩
section
variable{X:Cx}{C:Cfg}{pos pos2 p:Pos}
theorem acT{elt tg iter:Expr}(N')(lo)(ok:ji X scope N')(G:Good X C)(h1:X.mg "len" = none)(hi:YW X C tg iter it)
  (bg:∀X',dH X scope N' X'->Y7 X' C lo tg g) (bc:∀X',dH X scope N' X'->Ri X' C ifs c) (be:∀X',dH X scope N' X'->PX X' C elt e)
  (g1:Gl X "len":=by rfl) (hs:∀x,foldedSetIterable iter X.env x=pure x:=by intro _;rfl)
  (he:starEach [.SetComp elt [⟨tg,iter,ifs,0⟩] scope pos2] X.env=(false,eval (.SetComp elt [⟨tg,iter,ifs,0⟩] scope pos2) X.env)::starEach [] X.env:=by rfl) :
  PX X C (.Call (.Name "len" p) [.SetComp elt [⟨tg,iter,ifs,0⟩] scope pos2] [] pos) (dY Em (fM lo N'.length it g c e)):=by
 have i1:PE X (.SetComp elt [⟨tg,iter,ifs,0⟩] scope pos2) _:=alj ok G.calm hi bg bc be hs;have i2:PE X (.Call (.Name "len" p) [.SetComp elt [⟨tg,iter,ifs,0⟩] scope pos2] [] pos) _:=CQ Yw g1 h1 (by rfl) (iK i1 pW he) (by decide) (by decide) he rfl;refine i2.imp λσ H Q hq=>?_;obtain⟨Pr,F,env,env',d,r,e0,q⟩:=hq;obtain⟨x,aG,e1,e2⟩:=aO e0;obtain⟨e3,rfl⟩:=du e2;unfold Em at e3;split at e3
 ·obtain⟨zs,e4,e5⟩:=Qx1.mp e3;split at e5
  ·rename_i hz;cases e5;obtain rfl:=Od e4;show tSC X.prog X.w N'.length (tI C it) (tG C lo g) (tT C c) (tE C e) σ H λv H1=>afS X [v] H1 Q;refine akO r e1 hz λd H' F' r' s' hd=>⟨d,_,rfl,hd,?_,?_⟩
   ·have:=SX.Hs zs;rw[Qqz];omega
   ·rw[Qqz];exact q _ _ _ r' s' rfl
  ·cases e5
 ·cases e3
end
variable{X:Cx}{C:Cfg}{pos pos2 p:Pos}
theorem Zm{elt tg iter:Expr}(N')(lo)(ok:ji X scope N')(G:Good X C)(h1:X.mg "len" = none)(hi:YS X C tg iter it)
  (bg:∀X',dH X scope N' X'->SXG X' C lo tg g) (bc:∀X',dH X scope N' X'->YQ X' C ifs c) (be:∀X',dH X scope N' X'->SX X' C elt e)
  (g1:Gl X "len":=by rfl) (hs:∀x,foldedSetIterable iter X.env x=pure x:=by intro _;rfl)
  (he:starEach [.SetComp elt [⟨tg,iter,ifs,0⟩] scope pos2] X.env=(false,eval (.SetComp elt [⟨tg,iter,ifs,0⟩] scope pos2) X.env)::starEach [] X.env:=by rfl) :
  SX X C (.Call (.Name "len" p) [.SetComp elt [⟨tg,iter,ifs,0⟩] scope pos2] [] pos) (dY Em (fM lo N'.length it g c e)):=
 ⟨Ev.acT N' lo ok G h1 hi.u (λX1 h1=>(bg X1 h1).u) (λX1 h1=>(bc X1 h1).u) (λX1 h1=>(be X1 h1).u) g1 hs he⟩
def uG(K:Fg)(n:Nat)(f:List D->Option (D×D)):Sp:=λvs H Q _=>∃(F:Hp) (a:Addr) (v0:V) (r:List V) (x d0:D) (ds:List D) (d x':D),vs=v0 :: .ref a::r/\ds.length+2=n/\aV F H/\F a=none/\j4 K F H x a/\Rep K F d0 v0/\bT K F ds r/\f (x::d0::ds)=some (d,x')/\
 ∀v H' F',(∀b o,b≠a->H b=some o->H' b=some o)->aV F' H'->aV F F'->(∀b o,F' b=some o->F b=some o\/H b=none)->j4 K F' H' x' a->Rep K F' d v->Q v H'
def tW(f:List D->Option (D×D))(i:Nat)(a0:Ev)(a:dq):Ev:=λenv=>bindR (a0 env) λd0 env0=>match env0[i]? with
 | some (some (true,_))=>bindR (a env0) λds aG=>(match aG[i]? with
  | some (some (true,x))=>(match f (x::d0::ds) with
   | some (d,x')=>.ok d (aG.set i (some (true,x')))
   | none=>.stuck)
  | _=>.stuck)
 | _=>.stuck
noncomputable def tY(n:Nat)(x d0:D)(ds:List D):Env:=some (false,d0)::some (true,x)::(ds.map (λd=>some (false,d))++List.replicate (n - (ds.length+2)) none)
def sW(n:Nat)(ev:bU)(ds:List D):Option (D×D):=match ds with
 | x::d0::r=>(match ev (tY n x d0 r) with
  | .rt false d env=>(match env[1]? with
   | some (some (true,x'))=>some (d,x')
   | _=>none)
  | .nx env=>(match env[1]? with
   | some (some (true,x'))=>some (.non,x')
   | _=>none)
  | _=>none)
 | _=>none
noncomputable def C2(K:Fg)(a:Addr):Cfg:=⟨K,λi=>if i=1 then some a else none⟩
theorem Lh{K:Fg}(s:aV F H)(hF:F a=none)(ho:j4 K F H y a)(p0:Rep K F d0 v0)(p:bT K F ds vs):Rel (C2 K a) (λb=>if b=a then none else yR H F b) F (tY N.length y d0 ds) (start N (v0 :: .ref a::vs)) H:=by
 have un:∀j x,(tY N.length y d0 ds)[j]? = some (some x)->(j=1/\x=(true,y))\/(j=0/\x=(false,d0))\/∃i d,j=i+2/\x=(false,d)/\ds[i]? = some d:=λj x he=>by
  unfold tY at he
  match j with
  | 0=>cases he;exact .inr<|.inl ⟨rfl,rfl⟩
  | 1=>cases he;exact .inl ⟨rfl,rfl⟩
  | i+2=>
   rw[Qzk,Qzk] at he;by_cases hj:i<(ds.map λd=>some (false,d)).length
   ·rw[Qx3 hj,Qw6] at he;obtain⟨d,h1,h2⟩:=Qww.mp he;cases h2;exact .inr<|.inr ⟨i,d,rfl,rfl,h1⟩
   ·rw[Qjx (by omega),List.getElem?_replicate] at he;split at he<;>cases he
 have z0:(start N (v0 :: .ref a::vs))[1]? = some (some<|V.ref a):=rfl;refine⟨λb o e=>?_,s,?_,λj d he=>?_,λj d he=>?_,λj k d e b hj hk _ _=>?_,λb o e=>?_,λi b h=>?_⟩
 ·have e':=e;split at e'
  ·cases e'
  ·exact(Dh e').1
 ·unfold tY L2.start;simp only[Qqw,Qq1,Qqz,Qw5,p.length,Qq2];omega
 ·rcases un j _ he with ⟨_,z⟩|⟨rfl,z⟩|⟨i,d',rfl,z,hd⟩
  ·cases z
  ·cases z;exact⟨v0,rfl,p0⟩
  ·cases z;obtain⟨v,h1,h2⟩:=p.get hd;refine⟨v,?_,h2⟩;unfold L2.start;rw[Qq2,Qq2,List.cons_append,List.cons_append,Qzk,Qzk,Qx3 (by rw[Qqz];exact(Qwz.mp h1).1),Qw6,h1]
   rfl
 ·rcases un j _ he with ⟨rfl,z⟩|⟨_,z⟩|⟨i,d',rfl,z,hd⟩
  ·cases z;exact⟨a,z0,ho,hF,if_pos rfl⟩
  ·cases z
  ·cases z
 ·rcases un j _ hj with ⟨rfl,_⟩|⟨_,z⟩|⟨i,d',rfl,z,_⟩
  ·rcases un k _ hk with ⟨rfl,_⟩|⟨_,z⟩|⟨i,d',rfl,z,_⟩
   ·rfl
   ·cases z
   ·cases z
  ·cases z
  ·cases z
 ·show(if b=a then none else yR H F b)=none;split
  ·rfl
  ·unfold yR;rw[e];rfl
 ·have h':(if i=1 then some a else none)=some b:=h;split at h'
  ·rename_i hi;cases h';rw[hi];exact z0
  ·cases h'
section
variable{P:Program}{w:World}{K:Fg}{mg:Str->Option Value}{base:Heap}{x qual:Str}{st:Stmt}{f:Addr}{fd:FuncData}{N ps:List Str}{k:Nat}{ev:bU}{X:Cx}{C:Cfg}{pos p:Pos}{n:Str}{e0:Expr}{es:List Expr}{a0:Ev}{ea:dq}
theorem ae9(F:Za K x qual st f fd)(S:aZ N (y0::y::qs) (aJ st))
  (hb:∀cdv A outer s H E a,jK k (A.deeper (envOfC qual (aJ st) s.heap.objs.size f cdv))->Gn (bx P w K mg base N qual st f cdv A outer s H E) (C2 K a) (fU st) ev) :
  oE P w K mg base Gs (k+1) f fd (y0::y::qs) (uG K (qs.length+2) (sW N.length ev)):=by
 refine F.ok S (λvs H Q E h=>?_)<|λcdv A outer s H vs Q E hr h=>?_
 ·obtain⟨F0,a,v0,r,z,d0,ds,d,z',rfl,hl,_,_,_,_,p,_⟩:=h;rw[Qqw,Qqw,Qqw,Qqw,p.length];exact hl
 ·obtain⟨F0,a,v0,r,z,d0,ds,d,z',rfl,hl,sF,hFa,ho,p0,p,e,q⟩:=h;refine⟨_,hb cdv A outer s H E a hr,_,F0,tY N.length z d0 ds,Lh sF hFa ho p0 p,?_⟩;have fin:∀env' σ' H' F' v d z',env'[1]? = some (some (true,z'))->Rel (C2 K a) (λb=>if b=a then none else yR H F0 b) F' env' σ' H'->aV F0 F'->Rep K F' d v->(∀v H' F',(∀b o,b≠a->H b=some o->H' b=some o)->aV F' H'->aV F0 F'->(∀b o,F' b=some o->F0 b=some o\/H b=none)->j4 K F' H' z' a->Rep K F' d v->Q v H')->Q v H':=λenv' σ' H' F' v d z' h0 r' s' p' q=>by
   obtain⟨b,g1,g2,g3,g4⟩:=r'.own 1 z' h0;have g5:=r'.fix 1 a rfl;rw[g1] at g5;cases g5;refine q v H' F' (λc o hc e=>?_) r'.fr s' (λc o e=>?_) g2 p'
   ·cases u:F0 c with
    | none=>exact r'.pr c o (by show(if c=a then none else yR H F0 c)=some o;rw[if_neg hc];unfold yR;rw[u];exact e)
    | some w=>
     have:=sF c w u;rw[e] at this;cases this;exact r'.fr c o<|s' c o u
   ·by_cases hc:c=a
    ·simp_all
    ·have h1:=r'.dj c o e;have h1':=h1;rw[if_neg hc] at h1';rcases wZ h1' with u|⟨w,u⟩
     ·exact .inr u
     ·have:=s' c w u
      simp_all
  unfold sW at e;simp at e;split at e
  ·rename_i d' env' h1;split at e
   ·rename_i z1 h0;cases e;rw[h1];exact λv σ' H' F' r' s' p'=>fin env' σ' H' F' v _ _ h0 r' s' p' q
   ·cases e
  ·rename_i env' h1;split at e
   ·rename_i z1 h0;cases e;rw[h1];exact λσ' H' F' r' s'=>fin env' σ' H' F' .non .non _ h0 r' s' rfl q
   ·cases e
  ·cases e
theorem Lp(F:bW K mg x st (y0::y::qs))(S:aZ N (y0::y::qs) (aJ st))
  (hb:∀f cdv A outer s H E a,jK k (A.deeper (envOfC x (aJ st) s.heap.objs.size f cdv))->Good (bx P w K mg base N x st f cdv A outer s H E) (C2 K a)->Gn (bx P w K mg base N x st f cdv A outer s H E) (C2 K a) (fU st) ev) :
  Own P w K mg base x (k+1) (y0::y::qs) (uG K (qs.length+2) (sW N.length ev)):=by
 obtain⟨f,fd,h1,h2,h3⟩:=F;exact⟨f,fd,ae9 h1 S λcdv A outer s H E a hr=>hb f cdv A outer s H E a hr<|xq rfl hr,h2,h1.kp,h3⟩
theorem Dk{r:dq}(hr:∀env ds env',r env = .ok ds env'->ds.length=m):∀env ds env',r env = .ok ds env'->ds.length+2=m+2:=λenv ds env' h=>by rw[hr env ds env' h]
end
variable{X:Cx}{C:Cfg}{pos p:Pos}{n:Str}{e0:Expr}{es:List Expr}{a0:Ev}{ea:dq}
theorem Bv{pv:Pos}(i)(O:Own X.prog X.w X.K X.mg X.base n k ps (uG X.K m g))(G:Good X C)(hr:jK k' X.A)(hk:Nat.ble k k'=true)(h0:SX X C e0 a0)(ha:Nh X C es ea)(hn:∀env ds env',ea env = .ok ds env'->ds.length+2=m)
  (hN:X.N[i]? = some v:=by rfl) (hv:yd X.env.scope v:=by first|exact Or.inl rfl|exact Or.inr (Or.inl rfl)|exact Or.inr (Or.inr rfl))
  (hg:Gl X n:=by rfl) (hdb:oW n:=by decide) (he:starEach (e0 :: .Name v pv::es) X.env=(false,eval e0 X.env)::starEach (.Name v pv::es) X.env:=by rfl) (he2:starEach (.Name v pv::es) X.env=(false,eval (.Name v pv) X.env)::starEach es X.env:=by rfl) (hpl:(backTo pos (starEach (.Name v pv::es) X.env)).any (·.1)=false:=by rfl)
  (hd:oW v:=by decide) (hcd:yP v:=by decide):SX X C (.Call (.Name n p) (e0 :: .Name v pv::es) [] pos) (tW g i a0 ea):=⟨by
 obtain⟨f,fd,h1,h2,h3,h4⟩:=O;have h1':oE X.prog X.w X.K X.mg X.base Gs k f fd ps (uG C.K m g):=by rw[<-G.K];exact h1
 refine(Bk h1' (hr.mono<|Qx9 hk) hg h2 h3 h4 .nil Pj (iK h0.u (iK (kj hN hv hd hcd) ha.u he2) he) hdb he hpl).imp λσ H Q hq=>?_;obtain⟨Pr,F,env,env',d,r,e,q⟩:=hq;obtain⟨d0,env0,e1,e2⟩:=aO e;refine⟨Pr,F,env,env0,d0,r,e1,λw0 H1 F1 r1 s1 p1=>?_⟩;split at e2
 ·rename_i z0 h0.u;obtain⟨ds,aG,e3,e4⟩:=aO e2;split at e4
  ·rename_i z hz;split at e4
   ·rename_i d1 z' hg;cases e4;obtain⟨b0,hs0,_⟩:=r1.own i _ h0.u;refine⟨_,hs0,Pr,F1,env0,aG,ds,r1,e3,λvs H2 F2 r2 s2 p2=>?_⟩;obtain⟨b1,hs1,ho1,hF1,hP1⟩:=r2.own i _ hz;rw[hs0] at hs1;cases hs1;show uG C.K m g (w0::_::vs++[]) H2 Q E0;rw[Qxv];exact⟨F2,b0,w0,vs,z,d0,ds,d,z',rfl,hn _ _ _ e3,r2.fr,hF1,ho1,Rep.mono s2 _ _ p1,p2,hg,λv H3 F3 t1 t2 t3 t4 t5 p3=>q v H3 F3 (r2.Wk hz hs0 t1 t2 t3 t4 t5) ((s1.trans s2).trans t3) p3⟩
   ·cases e4
  ·cases e4
 ·cases e2⟩
end Ev
namespace L2
open PySem PySem.Spec PyProof.Rows
def adv:V->List V->Hp->VK->Prop:=λx vs H Q=>∃l xs i y,x = .ref l/\vs=[.int i,y]/\H l=some (.lst xs)/\0<=i/\i<=xs.length/\xs.length<sizeLine/\Q .non (upd H l (.lst (xs.take i.toNat++y::xs.drop i.toNat)))
theorem XJ:MtM X "list.insert" adv:=by
 intro pins s σ H x vs v us Q I rx rv h;obtain⟨l,xs,i,y,rfl,rfl,hH,h0,hk,hz,q⟩:=h;cases rx;cases rv with
 | cons ru rv=>
  obtain⟨t,rfl⟩:=ru;obtain⟨u,rfl,ry⟩:=(show Vals _ _ from rv).one;obtain⟨z,its,n,r,hl,e⟩:=I.abd hH;have hs:sizeLine<2^62:=by decide
  have h7:¬(!Builtin.List.listFitsIndex i)=true:=by rw[fitsIndex_both (by omega) (by omega)];decide
  have h8:its.toArray.size<=sizeLine:=by rw[Qq5];omega
  refine call_meets F.slot_list_insert ⟨_,e,rfl⟩ F.entry_list_insert (F.args_list_insert_3 _ _ _) (AutoSeq1.list_insert_list_int_val_1 l its.toArray n i t u h7 h8) ⟨e,?_⟩;refine⟨.non,_,I.ah3 hH e ?_ ((r.take _).append<|.cons ry<|r.drop _) ?_,rfl,q⟩
  ·have h2:¬(i<0):=by omega
   have h1:min i.toNat its.length=i.toNat:=by omega
   simp[h2,h1];exact Qjq (by rw[Qjz];omega)
  ·rw[Qq1,Qqw,Qx5,Qjz];omega
end L2
namespace Ev
open PySem PySem.Spec PySem.W PyProof.Rows L2
section
variable{X:Cx}{C:Cfg}{pos:Pos}
def m5(i:Nat)(a:Ev):Ev:=λenv=>match env[i]? with
 | some (some (true,.lst _))=>bindR (a env) λd aG=>(match aG[i]? with
  | some (some (true,.lst xs))=>(match d with
   | .int k=>if 0<=k/\k<xs.length then (match xs[k.toNat]? with
    | some y=>.ok y (aG.set i (some (true,.lst (xs.eraseIdx k.toNat))))
    | none=>.stuck) else .stuck
   | _=>.stuck)
  | _=>.stuck)
 | _=>.stuck
theorem bT.atE{K:Fg}:∀{ds} {vs} {i:Nat} {d},bT K F ds vs->ds[i]? = some d->∃v,vs[i]? = some v/\Rep K F d v
 | [],_,_,_,_,h=>by simp at h
 | _::ds,_,i,d,⟨v,r,e,p,q⟩,h=>by
  subst e;cases i with
  | zero=>simp at h;subst h;exact⟨v,rfl,p⟩
  | succ i=>simpa using bT.atE q (by simpa using h)
theorem bT.era{K:Fg}:∀{ds} {vs} i,bT K F ds vs->bT K F (ds.eraseIdx i) (vs.eraseIdx i)
 | [],_,i,h=>by cases h;simp;rfl
 | d::ds,_,0,⟨v,r,e,p,q⟩=>by subst e;exact q
 | d::ds,_,i+1,⟨v,r,e,p,q⟩=>by subst e;exact⟨v,_,rfl,p,bT.era i q⟩
def BZ(i:Nat)(a b:Ev):bU:=λenv=>match env[i]? with
 | some (some (true,.lst _))=>eY (a env) λd env0=>eY (b env0) λy aG=>(match aG[i]? with
  | some (some (true,.lst xs))=>(match d with
   | .int k=>if 0<=k/\k<=xs.length/\xs.length<sizeLine then .nx (aG.set i (some (true,.lst (xs.take k.toNat++y::xs.drop k.toNat)))) else .stuck
   | _=>.stuck)
  | _=>.stuck)
 | _=>.stuck
theorem bT.tk{K:Fg}:∀{ds} {vs} i,bT K F ds vs->bT K F (ds.take i) (vs.take i)/\bT K F (ds.drop i) (vs.drop i)
 | [],_,i,h=>by cases h;simp;exact rfl
 | d::ds,_,0,⟨v,r,e,p,q⟩=>by subst e;exact⟨rfl,⟨v,r,rfl,p,q⟩⟩
 | d::ds,_,i+1,⟨v,r,e,p,q⟩=>by subst e;exact⟨⟨v,_,rfl,p,(bT.tk i q).1⟩,(bT.tk i q).2⟩
end
noncomputable def JF:D->Option D
 | .int i=>if i.natAbs.log2<1920/\(Str.ofString (toString i)).cps.size<=sizeLine then some (.str (Str.ofString (toString i)).cps.toList) else none
 | _=>none
section
variable{X:Cx}{C:Cfg}{pos p:Pos}{e:Expr}{a:Ev}{e2:Expr}{b:Ev}
theorem acS(G:Good X C)(h1:X.mg "str" = none)(ha:SX X C e a)(g1:Gl X "str":=by rfl)(he:O6 e X.env:=by rfl):SX X C (.Call (.Name "str" p) [e] [] pos) (dY JF a):=⟨by
 refine(yM MN g1 h1 (by rfl) (iK ha.u pW he) (by decide) (by decide) he rfl).imp λσ H Q hq=>?_;obtain⟨Pr,F,env,env',d,r,e0,q⟩:=hq;obtain⟨x,aG,e1,e2⟩:=aO e0;obtain⟨e3,rfl⟩:=du e2;refine⟨Pr,F,env,env',x,r,e1,λv H1 F1 r1 s1 p1=>?_⟩;unfold JF at e3;split at e3
 ·rename_i i;split at e3
  ·rename_i hi;cases e3;have hv:=p1;subst hv;exact⟨i,rfl,hi.1,q _ _ _ r1 s1 ⟨rfl,by rw[Qx7];exact hi.2⟩⟩
  ·cases e3
 ·cases e3⟩
theorem wA(i){px apos cpos:Pos}(G:Good X C)(he:SX X C e a)(hN:X.N[i]? = some x:=by rfl)(hv:yd X.env.scope x:=by first|exact Or.inl rfl|exact Or.inr (Or.inl rfl)|exact Or.inr (Or.inr rfl))
  (hfew:((backTo cpos (starEach [e] X.env)).all (λx=>!x.1)&&(backToKw cpos (keywordEach [] X.env)).all (λx=>x.1.isSome)
   && decide ([e].length+([]:List Keyword).length+(if ([]:List Keyword).isEmpty then 0 else 1)<30))=true:=by rfl)
  (hbase:attributeBase (.Name x px) "pop" X.env (eval (.Name x px) X.env)=eval (.Name x px) X.env:=by rfl)
  (hline:(apos.endLine == cpos.line)=true:=by rfl) (hst:O6 e X.env:=by rfl) (hplain:(backTo cpos (starEach [] X.env)).any (·.1)=false:=by rfl)
  (hd:oW x:=by decide) (hcd:yP x:=by decide):SX X C (.Call (.Attribute (.Name x px) "pop" apos) [e] [] cpos) (m5 i a):=⟨by
 refine(Vl PySem.F.plainAttrs_list PySem.F.slot_list_pop PySem.F.type_list_pop aa9 (kj hN hv hd hcd) (iK he.u pW hst) hbase hfew hline hst hplain).imp λσ H Q h=>?_;obtain⟨Pr,F,env,env',d,r,e,q⟩:=h;unfold m5 at e;split at e
 ·rename_i xs0 h0;obtain⟨dk,aG,e1',e2⟩:=aO e;obtain⟨a0,hv0,⟨z0,vs0,g0,_⟩,_⟩:=r.own i _ h0;refine⟨_,hv0,.inl ⟨rfl,vs0,nq.of g0⟩,Pr,F,env,aG,dk,r,e1',λv H1 F1 r1 s1 p1=>?_⟩;split at e2
  ·rename_i xs h1;split at e2
   ·rename_i k;split at e2
    ·rename_i hk;split at e2
     ·rename_i y hy;cases e2;obtain⟨a1,g1,⟨z,vs,g2,g3⟩,g4,g5⟩:=r1.own i _ h1;rw[hv0] at g1;cases g1;have hl:=g3.length;obtain⟨w,hw,pw⟩:=bT.atE g3 hy;have hv:=p1;subst hv;have hs:sizeLine<2^62:=by decide
      refine⟨a0,vs,k,k.toNat,w,rfl,rfl,g2,by omega,by omega,?_,hw,?_⟩
      ·unfold seqIndex?;have h0:¬(k<0):=by omega
       simp[h0,hk.1,hl,hk.2]
      ·exact q w _ F1 (r1.write h1 hv0 ⟨by have:=yS xs k.toNat;omega,vs.eraseIdx k.toNat,bC,g3.era _⟩) s1 pw
     ·cases e2
    ·cases e2
   ·cases e2
  ·cases e2
 ·cases e⟩
theorem aac(i){px apos cpos:Pos}(G:Good X C)(he:SX X C e a)(he2:SX X C e2 b)(hN:X.N[i]? = some x:=by rfl)(hv:yd X.env.scope x:=by first|exact Or.inl rfl|exact Or.inr (Or.inl rfl)|exact Or.inr (Or.inr rfl))
  (hs:swapsWith (.Call (.Attribute (.Name x px) "insert" apos) [e,e2] [] cpos) none pos.line X.env=pure false:=by rfl)
  (hfew:((backTo cpos (starEach [e,e2] X.env)).all (λx=>!x.1)&&(backToKw cpos (keywordEach [] X.env)).all (λx=>x.1.isSome)
   && decide ([e,e2].length+([]:List Keyword).length+(if ([]:List Keyword).isEmpty then 0 else 1)<30))=true:=by rfl)
  (hbase:attributeBase (.Name x px) "insert" X.env (eval (.Name x px) X.env)=eval (.Name x px) X.env:=by rfl)
  (hline:(apos.endLine == cpos.line)=true:=by rfl) (hst:starEach [e,e2] X.env=(false,eval e X.env)::starEach [e2] X.env:=by rfl) (hst2:O6 e2 X.env:=by rfl) (hplain:(backTo cpos (starEach [e2] X.env)).any (·.1)=false:=by rfl)
  (hd:oW x:=by decide) (hcd:yP x:=by decide):UT X C (.Expr (.Call (.Attribute (.Name x px) "insert" apos) [e,e2] [] cpos) pos) (BZ i a b):=⟨by
 refine PS.imp (Lk (Vl PySem.F.plainAttrs_list PySem.F.slot_list_insert PySem.F.type_list_insert XJ (kj hN hv hd hcd) (iK he.u (iK he2.u pW hst2) hst) hbase hfew hline hst hplain) hs) λD σ H h=>?_;obtain⟨Pr,F,env,r,f⟩:=h;unfold BZ at f;split at f
 ·rename_i xs0 h0;obtain⟨d,env0,e1,f1⟩:=fO f;obtain⟨a0,hv0,⟨z0,vs0,g0,_⟩,_⟩:=r.own i _ h0;refine⟨_,hv0,.inl ⟨rfl,vs0,nq.of g0⟩,Pr,F,env,env0,d,r,e1,λv H1 F1 r1 s1 p1=>?_⟩;obtain⟨y,aG,e2,f2⟩:=fO f1;refine⟨Pr,F1,env0,aG,y,r1,e2,λw H2 F2 r2 s2 p2=>?_⟩;split at f2
  ·rename_i xs h1;split at f2
   ·rename_i k;split at f2
    ·rename_i hk;obtain⟨a1,g1,⟨z,vs,g2,g3⟩,g4,g5⟩:=r2.own i _ h1;rw[hv0] at g1;cases g1;have hl:=g3.length;have hv:=p1;subst hv;refine⟨a0,vs,k,w,rfl,rfl,g2,hk.1,by rw[hl];exact hk.2.1,by rw[hl];exact hk.2.2,?_⟩;exact f2 σ _ F2 (r2.write h1 hv0 ⟨by rw[Qq1,Qqw,Qx5,Qjz];omega,vs.take k.toNat++w::vs.drop k.toNat,bC,(g3.tk _).1.append ⟨w,_,rfl,p2,(g3.tk _).2⟩⟩)<|s1.trans s2
    ·exact f2.elim
   ·exact f2.elim
  ·exact f2.elim
 ·exact f.elim⟩
end
abbrev Hm:=List (List Nat×Option D)
def acA(P:Params)(K:Fg):Hm->List DictEntry->Prop
 | [],es=>es=[]
 | (x,od)::r,es=>∃(t:Tok) (v:Value) (rest:List DictEntry),es=⟨PyData.keyHash P (strOf x),.str (strOf x) t,v⟩::rest/\(∀d,od=some d->∃u,RelV u v/\∀F,Rep K F d u)/\acA P K r rest
def Tbl(P:Params)(K:Fg)(mg:Str->Option Value)(x:Str)(t:Hm):Prop:=∃(a:Addr) (es:Array DictEntry) (n:Nat),
 mg x=some (.ref a)/\(a == sysModules)=false/\K.lookup a=some ⟨.type "dict",none,.dict es n, #[]⟩/\acA P K t es.toList/\(t.map (·.1)).Nodup
theorem BK{K:Fg}:∀{t} {es},acA w.params K t es->
  ∃kvs,(∀e∈es,∃k,(cH P w).is k e.key=true/\e.hash=(cH P w).hash k)/\Pairs (cH P w) es kvs/\kvs.map (·.1)=t.map (λr=>Sum.inr (strOf r.1))/\
   (∀x,(valueAt kvs (Sum.inr (strOf x))).isSome=t.any (λr=>r.1 == x))/\
   ∀x d,t.find? (λr=>r.1 == x)=some (x,some d)->∃v u,valueAt kvs (Sum.inr (strOf x))=some v/\RelV u v/\∀F,Rep K F d u
 | [],es,h=>by
  cases h;exact⟨[],by simp,.nil,rfl,λx=>rfl,λx d h=>by cases h⟩
 | (y,od)::r,es,⟨t,v,rest,e,hv,h⟩=>by
  subst e;obtain⟨kvs,h1,h2,h3,h4,h5⟩:=BK h;have hk:(cH P w).is (Sum.inr<|strOf y) (.str (strOf y) t)=true:=xg<|show RelV (.str<|strOf y) _ from⟨t,rfl⟩;refine⟨(Sum.inr<|strOf y,v)::kvs,?_,.cons hk rfl h2,by rw[Qq2,h3];rfl,λx=>?_,λx d h=>?_⟩
  ·intro e he;rcases Qq8.mp he with rfl|he
   ·exact⟨_,hk,rfl⟩
   ·exact h1 e he
  ·unfold valueAt at h4 ⊢;by_cases hx:y=x
   ·subst hx;simp
   ·have:=λz=>hx<|SX.mz z
    simp_all
  ·unfold valueAt at h5 ⊢;by_cases hx:y=x
   ·subst hx;simp at h;obtain⟨u,h6,h7⟩:=hv d h;exact⟨v,u,by simp,h6,h7⟩
   ·have hne:¬strOf y=strOf x:=λz=>hx<|SX.mz z;rw[List.find?_cons_of_neg (by simp[hx])] at h;obtain⟨v',u,h6,h7,h8⟩:=h5 x d h;refine⟨v',u,?_,h7,h8⟩;rw[List.find?_cons_of_neg (by simp[hne])];exact h6
theorem wH{K:Fg}(T:Tbl w.params K mg x t)(X:K.In h) :
  ∃a kvs,mg x=some (.ref a)/\(a == sysModules)=false/\h.DictOf (cH P w) a kvs/\
   (∀x,(valueAt kvs (Sum.inr (strOf x))).isSome=t.any (λr=>r.1 == x))/\
   ∀x d,t.find? (λr=>r.1 == x)=some (x,some d)->∃v u,valueAt kvs (Sum.inr (strOf x))=some v/\RelV u v/\∀F,Rep K F d u:=by
 obtain⟨a,es,n,h1,h2,h3,h4,h5⟩:=T;obtain⟨kvs,k1,k2,k3,k4,k5⟩:=BK h4;refine⟨a,kvs,h1,h2,⟨_,es,n,X _ _ h3,⟨rfl,rfl,rfl⟩,rfl,λe he=>k1 e (by simpa using he),k2,?_⟩,k4,k5⟩;rw[k3];have:(t.map λr=>(Sum.inr (strOf r.1):Key))=(t.map (·.1)).map (λx=>Sum.inr<|strOf x):=by simp
 rw[this];exact h5.map (λx=>(Sum.inr (strOf x))) λp q hpq z=>hpq<|SX.mz<|Sum.inr.inj z
noncomputable def tQ(t:Hm):D->Option D
 | .str x=>some (.bl (!t.any λr=>r.1 == x))
 | _=>none
noncomputable def zg(t:Hm):D->Option D
 | .str x=>(match t.find? (λr=>r.1 == x) with
  | some (_,od)=>od
  | none=>none)
 | _=>none
section
variable{X:Cx}{C:Cfg}{pos p:Pos}{e:Expr}{a:Ev}{n:Str}{t:Hm}
theorem Tg(T:Tbl X.w.params X.K X.mg n t)(ha:PX X C e a)(hg:Gl X n)(hd:(n == "__debug__" )=false):PC X .NotIn e (.Name n p) (tE C (dY (tQ t) a)):=by
 intro pins s σ H Q I hq;obtain⟨Pr,F,env,env',d,r,e0,q⟩:=hq;obtain⟨y,aG,e1,e2⟩:=aO e0;obtain⟨e3,rfl⟩:=du e2;unfold tQ at e3;split at e3
 ·rename_i x;cases e3;obtain⟨a0,kvs,h1,h2,_,_,_⟩:=wH (P:=X.prog) T I.XX;refine fC (ha pins s σ H (λv H1=>v = .str (strOf x)/\Q (.bl<|!t.any λr=>r.1 == x) H1) I ⟨Pr,F,env,_,.str x,r,e1,λv H1 F1 r1 s1 p1=>⟨p1.1,q _ _ _ r1 s1 rfl⟩⟩) λu s1 ⟨v,H1,I1,rv,hv,q1⟩=>?_;subst hv;refine fC (Ln (v:=.ref a0) hg h1 rfl hd pins s1 σ H1 (λv H'=>v = .ref a0/\H'=H1) I1 ⟨rfl,rfl⟩) λu2 s2 ⟨v2,H2,I2,rv2,hv2,hH2⟩=>?_;subst hv2 hH2;obtain rfl:u2=Value.ref a0:=rv2;obtain⟨a1,aou,g1,g2,g3,g4,g5⟩:=wH T I2.XX;rw[h1] at g1;cases g1;refine wpAny_notIn_of (xg (k:=.inr<|strOf x) rv) g2 g3.mapOf ?_;rw[g4];exact⟨.bl<|!t.any λr=>r.1 == x,H2,I2.tok _,rfl,q1⟩
 ·cases e3
theorem Rz(T:Tbl X.w.params X.K X.mg n t)(ha:SX X C e a)(hg:Gl X n:=by rfl)(hm:behindInMarks .NotIn (.Name n p)=false:=by rfl)(hd:oW n:=by decide):Wo X C (.Compare e [.NotIn] [.Name n p] pos) (cX (dY (tQ t) a)):=⟨(aha (Tg T ha.u hg hd) hm).imp λσ H Q h=>Ob h⟩
theorem Np(T:Tbl X.w.params X.K X.mg n t)(G:Good X C)(ha:SX X C e a)(hg:Gl X n:=by rfl)(hs:acE e:=by intro _ _;rfl)(hd:oW n:=by decide):SX X C (.Subscript (.Name n p) e pos) (dY (zg t) a):=⟨by
 intro pins s σ H Q I hq;obtain⟨Pr,F,env,env',d,r,e0,q⟩:=hq;obtain⟨y,aG,e1,e2⟩:=aO e0;obtain⟨e3,rfl⟩:=du e2;unfold zg at e3;split at e3
 ·rename_i x;split at e3
  ·rename_i x' od hf;subst e3;have hx:x'=x:=by simpa using List.find?_some hf
   subst hx;obtain⟨a0,kvs,h1,h2,_,_,_⟩:=wH (P:=X.prog) T I.XX;refine U8 PySem.F.slot_dict_getitem.lookup hs<|fC (Ln (v:=.ref a0) hg h1 rfl hd pins s σ H (λv H'=>v = .ref a0/\H'=H) I ⟨rfl,rfl⟩) λu2 s2 ⟨v2,H2,I2,rv2,hv2,hH2⟩=>?_;subst hv2 hH2;obtain rfl:u2=Value.ref a0:=rv2;refine fC (ha.u pins s2 σ H2 (λv H1=>v = .str (strOf x')/\∃F1,Rel C Pr F1 env' σ H1/\aV F F1) I2 ⟨Pr,F,env,_,.str x',r,e1,λv H1 F1 r1 s1 p1=>⟨p1.1,F1,r1,s1⟩⟩) λu s1 ⟨v,H1,I1,rv,hv,F1,r1,sF⟩=>?_;subst hv;obtain⟨a1,aou,g1,g2,g3,g4,g5⟩:=wH T I1.XX;rw[h1] at g1;cases g1;obtain⟨w1,u1,k1,k2,k3⟩:=g5 _ _ hf;refine⟨g3.typeIs,wpAny_getItem_of (xg (k:=.inr<|strOf x') rv) g3.mapOf k1 ⟨u1,H1,I1.tok _,k2,?_⟩⟩;exact q _ _ _ r1 sF (by rw[<-G.K];exact k3 _)
  ·cases e3
 ·cases e3⟩
end
end Ev
namespace L2
open PySem PySem.Spec PyProof.Rows
theorem adW{k i:Nat}{p pos:Pos}
  (hN:X.N[i]? = some x) (hv:yd X.env.scope x) (F:oE X.prog X.w X.K X.mg X.base CX k f fd ps sp) (hr:jK k X.A) (hk:PySem.W.keepIn X.K (.ref f)=true) (hb:Binds X.K fd ps ds) (hd:Vals dvs ds) (hx:Passes CX X E)
  (ha:PA X (e::es) t) (hdb:oW x:=by decide) (hcd:yP x:=by decide) (he:starEach (e::es) X.env=(false,eval e X.env)::starEach es X.env:=by rfl) (hpl:(backTo pos (starEach es X.env)).any (·.1)=false:=by rfl) :
  PE X (.Call (.Name x p) (e::es) [] pos) (λσ H Q=>σ[i]? = some (some (.ref f))/\afL sp dvs E t σ H Q):=by
 intro pins s σ H Q I h;obtain⟨hσ,h⟩:=h;refine wpAny_Call_Name_kw<|Qwy (kj hN hv hdb hcd pins s σ H (λv H'=>v = .ref f/\H'=H) I ⟨_,hσ,rfl,rfl⟩) (λu s1 hu=>?_) λ_ _ z=>z;obtain⟨v',H',I1,rv,rfl,rfl⟩:=hu;obtain rfl:u=Value.ref f:=rv;exact PySem.W.callWith_K I1.ok.mod.Vt hk (fC (ha pos pins s1 σ H' _ I1 h) λus s2 ⟨vs,H1,I2,r,q⟩=>⟨I2.XX,aaf F hr hb hd hx I2 r q⟩) he hpl
end L2
namespace Ev
open PySem PySem.Spec PySem.W PySem.Calls PyProof.Rows L2
noncomputable def Ek:D->Option D
 | .tup xs=>some (.lst xs)
 | _=>none
def QM(n:Str)(g:List D->Option D)(i:Nat)(a:dq):Ev:=λenv=>match env[i]? with
 | some (some (false,.clo (.Global [n'] ⟨0,0,0,0⟩) []))=>if n'=n then bindR (a env) λds aG=>fG (g ds) aG else .stuck
 | _=>.stuck
section
variable{X:Cx}{C:Cfg}{pos p:Pos}{e:Expr}{es:List Expr}{a:Ev}{ea:dq}{x n:Str}
end
theorem Xl{K:Fg}{st:Stmt}(F:bW K mg x st ps)(S:aZ N ps (aJ st)) :
  Own P w K mg base x (k+1) ps (uG K m λ_=>none):=by
 obtain⟨f,fd,h1,h2,h3⟩:=F;refine⟨f,fd,h1.ok S (λvs H Q E h=>?_)<|λcdv A outer s H vs Q E hr h=>?_,h2,h1.kp,h3⟩
 ·obtain⟨_,_,_,_,_,_,_,_,_,_,_,_,_,_,_,_,e,_⟩:=h;cases e
 ·obtain⟨_,_,_,_,_,_,_,_,_,_,_,_,_,_,_,_,e,_⟩:=h;cases e
section
variable{X:Cx}{C:Cfg}{pos p:Pos}{e:Expr}{es:List Expr}{a:Ev}{ea:dq}{x n:Str}
theorem P0(G:Good X C)(hm:X.mg "list" = none)(ha:SX X C e a)(hg:Gl X "list":=by rfl)(he:O6 e X.env:=by rfl):SXN X C (.Call (.Name "list" p) [e] [] pos) (dY Ek a):=⟨by
 refine(yM (Fp G.calm) hg hm (by rfl) (iK ha.u pW he) (by decide) (by decide) he rfl).imp λσ H Q hq=>?_;obtain⟨Pr,F,env,env',d,r,e0,q⟩:=hq;obtain⟨y,aG,e1,e2⟩:=aO e0;obtain⟨e3,rfl⟩:=du e2;refine⟨Pr,F,env,_,y,r,e1,λv H1 F1 r1 s1 p1=>?_⟩;unfold Ek at e3;split at e3
 ·rename_i xs;cases e3;obtain⟨z,b,ws,rfl,h1,h2⟩:=p1;refine .inl ⟨b,ws,rfl,.inr (by rw[G.K];exact aV.tupK r1.fr h1),λl hl=>?_⟩;exact q l _ F1 (r1.fresh hl) s1<|New.of r1 hl ⟨z,ws,bC,h2⟩
 ·cases e3⟩
theorem agt(i)(O:Own X.prog X.w X.K X.mg X.base n k ps (jV X.K m g))
  (L:Rk X.K X.mg n (Yg n)) (G:Good X C) (hr:jK k' X.A) (hk:Nat.ble k k'=true) (ha:Nh X C (e::es) ea) (hn:∀env ds env',ea env = .ok ds env'->ds.length=m)
  (hN:X.N[i]? = some x:=by rfl) (hv:yd X.env.scope x:=by first|exact Or.inl rfl|exact Or.inr (Or.inl rfl)|exact Or.inr (Or.inr rfl)) (hdb:oW x:=by decide) (hcd:yP x:=by decide) (he:starEach (e::es) X.env=(false,eval e X.env)::starEach es X.env:=by rfl) (hpl:(backTo pos (starEach es X.env)).any (·.1)=false:=by rfl) :
  SX X C (.Call (.Name x p) (e::es) [] pos) (QM n g i ea):=⟨by
 intro pins s σ H Q I h;obtain⟨Pr,F,env,env',d,r,ev,q⟩:=h;unfold QM at ev;split at ev
 ·rename_i n' h0;split at ev
  ·rename_i en;subst en;obtain⟨ds,aG,e1,e2⟩:=aO ev;obtain⟨e3,rfl⟩:=du e2;obtain⟨v,hσ,a0,vs0,rfl,hclo,amv⟩:=r.val i _ h0;have rep0:Rep X.K F (Yg n') (.ref a0):=by rw[G.K];exact⟨a0,vs0,rfl,hclo,amv⟩
   obtain⟨f,fd,h1,h2,h3,h4⟩:=O;have e5:=h2.symm.trans<|L.fn rep0;cases e5;have h1':oE X.prog X.w X.K X.mg X.base Gs k a0 fd ps (jV C.K m g):=by rw[<-G.K];exact h1
   refine adW hN hv h1' (hr.mono<|Qx9 hk) h3 h4 .nil Pj ha.u hdb hcd he hpl pins s σ H Q I ⟨hσ,Pr,F,env,_,ds,r,e1,λvs H1 F1 r1 s1 p1=>?_⟩;show jV C.K m g (vs++[]) H1 Q E0;rw[Qxv];exact⟨F1,ds,d,hn _ _ _ e1,r1.fr,p1,e3,λv H2 F2 t1 t2 t3 t4 p2=>q v H2 F2 (r1.after t1 t2 t3 t4) (s1.trans t3) p2⟩
  ·cases ev
 ·cases ev⟩
end
variable{K:Fg}
theorem FA.valAt{st:Stmt}(F:FA K x st)(a':PySem.W.nsIn K mainGlobals x=some (some v)):∃u,RelV u v/\∀F,Rep K F (Yg x) u:=by obtain⟨f,oc,kV,doc,pm,cdv,ct,od,an,osl,a,l,c,k⟩:=F;rw[a] at a';cases a';exact⟨.ref f,rfl,λF=>⟨f,[],rfl,.inr<|.inl ⟨x,_,_,_,_,_,rfl,a,l⟩,rfl⟩⟩
theorem ZJ{zs:List (List Nat)}(hl:K.lookup b=some ⟨.type "tuple",none,.seq its n,sl⟩)
  (h:its.toList=(zs.zip ts).map λp=>Value.str (strOf p.1) p.2) (ht:ts.length=zs.length) (hz:zs.length<=100/\∀z∈zs,z.length<=100):∃u,RelV u (.ref b)/\∀F,Rep K F (.tup (zs.map .str)) u:=by
 have hs:100<=sizeLine:=by decide
 have hsz:its.size=zs.length:=by rw[<-Qx7,h,Qqz,List.length_zip,ht,Nat.min_self]
 have hv:∀(zs:List (List Nat)) ts,ts.length=zs.length->Vals (zs.map λz=>V.str<|strOf z) ((zs.zip ts).map λp=>Value.str (strOf p.1) p.2):=λzs=>by
  induction zs with
  | nil=>intro ts _;exact .nil
  | cons z zs ih=>
   intro ts hl;cases ts with
   | nil=>cases hl
   | cons t ts=>exact .cons ⟨t,rfl⟩<|ih ts (by simpa using hl)
 have hr:∀F (zs:List (List Nat)),(∀z∈zs,z.length<=sizeLine)->bT K F (zs.map .str) (zs.map λz=>V.str<|strOf z):=λF zs=>by
  induction zs with
  | nil=>intro _;exact rfl
  | cons z zs ih=>intro hz;exact⟨_,_,rfl,⟨rfl,hz z Qq3⟩,ih λy hy=>hz y<|Qqy _ hy⟩
 exact⟨.ref b,rfl,λF=>⟨by rw[Qqz];omega,b,_,rfl,.inr ⟨_,its,n,hl,rfl,rfl,rfl,by omega,by rw[h];exact hv zs ts ht⟩,hr F zs λz hz'=>Qqj (hz.2 z hz') hs⟩⟩
open PySem
theorem arl(h1:env[i]? = some (some (false,x)))(h2:b env = .ok y e2)(h4:e2[i]? = some (some (false,x)))(h3:g x y=some d):ao g i b env = .ok d e2:=bM h1 h2 h4 h3
theorem ark(h1:env[i]? = some (some (true,x)))(h2:b env = .ok y e2)(h4:e2[i]? = some (some (true,x)))(h3:g x y=some d):ao g i b env = .ok d e2:=bM h1 h2 h4 h3
theorem apv(h0:env[i]? = some (some (true,.lst xs)))(h1:a env = .ok d e)(h2:e[i]? = some (some (true,.lst xs)))(hz:xs.length<sizeLine):iH i a env = .nx (e.set i (some (true,.lst (xs++[d])))):=by unfold iH;rw[h0];simp[h1,eY,h2,if_pos hz]
theorem V3(h0:env[i]? = some (some (true,x)))(h1:a env = .ok ds e1)(h2:e1[i]? = some (some (true,x)))(h3:f (x::ds)=some (d,x')):dM f i a env = .ok d (e1.set i (some (true,x'))):=gm h0 h1 h2 h3
theorem zz1:1<=sizeLine:=by decide
theorem zz2:2<=sizeLine:=by decide
theorem zz3:3<=sizeLine:=by decide
theorem zz4:4<=sizeLine:=by decide
theorem zz5:5<=sizeLine:=by decide
theorem zz6:6<=sizeLine:=by decide
theorem zz7:7<=sizeLine:=by decide
end Ev
abbrev OD:=Option (Bool×Ev.D)
noncomputable abbrev Zf(d:Ev.D):OD:=some (false,d)
noncomputable abbrev Zt(d:Ev.D):OD:=some (true,d)
noncomputable abbrev Zs(w:List Nat):OD:=some (false,.str w)
noncomputable abbrev Zb(b:Bool):OD:=some (false,.bl b)
noncomputable abbrev Zl(l:List Ev.D):OD:=some (true,.lst l)
abbrev Zv(i:Nat)(a:Ev.dq):Ev.dq:=Ev.aa (Ev.aM i) a
abbrev Zi(i:Int):Ev.Ev:=Ev.j7 (.int i)
abbrev Zw(w:List Nat):Ev.Ev:=Ev.j7 (.str w)
abbrev LD:=List Ev.D->Option Ev.D
noncomputable abbrev Zn:OD:=none
noncomputable abbrev yc:List PySem.Str:=["thing"]
noncomputable abbrev Ke:List PySem.Str:=["stock","thing"]
noncomputable abbrev UG:List PySem.Str:=["sounds","thing"]
noncomputable abbrev Zq3:List PySem.Str:=["rule","word"]
noncomputable abbrev Zq4:List PySem.Str:=["_law_pack_here","_law_sounds_here"]
noncomputable abbrev Zq5:List PySem.Str:=["many","thing"]
noncomputable abbrev Zq6:List PySem.Str:=["order","word"]
noncomputable abbrev Zq7:List PySem.Str:=["stock","many","thing"]
noncomputable abbrev Zq8:List PySem.Str:=["_law_pack_here","_law_sounds_here","_law_most"]
noncomputable abbrev Zq9:List PySem.Str:=["_law_order_here","_law_word_here"]
noncomputable abbrev UJ:List PySem.Str:=["_law_thing","_law_pack_here","_law_deep"]
noncomputable abbrev YM:List PySem.Str:=["_law_rule_here","_law_word_here"]
noncomputable abbrev aft:List PySem.Str:=["side","rule","word"]
noncomputable abbrev afs:List PySem.Str:=["stock","kind","thing"]
noncomputable abbrev afr:List PySem.Str:=["stock","kinds","things"]
noncomputable abbrev afq:List PySem.Str:=["_law_stock_here"]
noncomputable abbrev afp:List PySem.Str:=["_law_signs_here","_law_sign"]
noncomputable abbrev afo:List PySem.Str:=["_law_side","_law_rule_here","_law_word_here"]
noncomputable abbrev afn:List PySem.Str:=["_law_order_here","_law_ordering"]
noncomputable abbrev aka:List PySem.Str:=["stock","parts","paper"]
noncomputable abbrev aj9:List PySem.Str:=["_law_pack_here","_law_size"]
noncomputable abbrev aj8:List PySem.Str:=["_law_thing","_law_pack_here"]
noncomputable abbrev aj7:List PySem.Str:=["_law_claim","_law_paper_here","_law_due_here"]
noncomputable abbrev aj6:List PySem.Str:=["_law_order_here","_law_book_here","_law_paper_here"]
noncomputable abbrev aj5:List PySem.Str:=["_law_order_here","_law_book_here"]
noncomputable abbrev aj4:List PySem.Str:=["_law_pack_here","_law_order_here","_law_sounds_here"]
noncomputable abbrev aj3:List PySem.Str:=["_law_pack_here","_law_stock_here","_law_order_here","_law_book_here"]
noncomputable abbrev aj2:List PySem.Str:=["_law_thing","_law_pack_here","_law_deep","_law_at","_law_pick","_law_some"]
noncomputable abbrev ana:List PySem.Str:=["_law_script","_law_k","_law_pack_here","_law_stock_here","_law_sounds_here","_law_order_here","_law_more"]
namespace mR
open Ev
section
noncomputable abbrev ql:Hm:=[([109,97,107,101,115],none),([109,97,99,104,105,110,101],none),([97,108,105,107,101],none),([112,97,114,116,101,100],none),([110,111,32,115,111,117,114,99,101],none),([101,110,100,108,101,115,115],none),([110,111,32,99,111,109,109,111,110],none),([97,99,116,115],none),([110,101,118,101,114],none),([109,97,107,101,115,32,119,97,121],none),([116,97,107,101,115],none),([110,111,32,119,97,121],none),([110,111,32,116,97,107,105,110,103],none),([113,117,97,114,114,101,108],some (.tup [(.str [111,114,100,101,114]),(.str [98,111,111,107])]))]
abbrev wI:Hm:=[([109,97,107,101,115],none),([109,97,99,104,105,110,101],none),([97,108,105,107,101],none),([112,97,114,116,101,100],none),([110,111,32,115,111,117,114,99,101],none),([101,110,100,108,101,115,115],none),([110,111,32,99,111,109,109,111,110],none),([97,99,116,115],none),([110,101,118,101,114],none),([109,97,107,101,115,32,119,97,121],none),([116,97,107,101,115],none),([110,111,32,119,97,121],none),([110,111,32,116,97,107,105,110,103],none),([113,117,97,114,114,101,108],some (Yg "quarrel_shown"))]
def Mh:Ev:=fM 1 2 (iD (aM 0)) (au 1) cR (ao En 1 (Zw [97,98,99,100,101,102,103,104,105,106,107,108,109,110,111,112,113,114,115,116,117,118,119,120,121,122]))
def YL:bU:=aF (cJ (cZ (cX (dY (fL "str") (aM 0)))) (aY (j7 (.bl false))) bJ) (aY (gw (pH QB QB (Zi 1) (az cY (aa (bh 0) aj)) (Zi 8)) (az qC (aa (Mh) aj))))
def zj:LD:=cj 1 YL
def Ux:bU:=aY (gw (az zj (Zv 0 aj)) (aN gQ (az cY (aa (bh 0) aj)) (Zi 1)))
def Ex:LD:=cj 1 Ux
def Dl:Ev:=fM 1 2 (fc (aa (aN m7 (az cY (aa (bh 0) aj)) (Zi 1)) aj)) (au 1) cR (aN VP (ao bZ 0 (bh 1)) (ao bZ 0 (ao cA 1 (Zi 1))))
def Wh:bU:=aY (az qC (aa (Dl) aj))
def oA:LD:=cj 1 Wh
def YK:bU:=aY (gw (dY (fL "tuple") (aM 0)) (aN gQ (az cY (aa (bh 0) aj)) (Zi 2)))
def eZ:LD:=cj 1 YK
def Dr:Ev:=fM 1 2 (iD (aM 0)) (au 1) cR (az zj (Zv 1 aj))
def Ra:bU:=aF (cJ (iI (cZ (cX (dY (fL "tuple") (aM 0)))) (cX (aN gGt (az cY (aa (bh 0) aj)) (Zi 4)))) (aY (j7 (.bl false))) bJ) (aY (gw (az qC (aa (Dr) aj)) (az oA (Zv 0 aj))))
def zX:LD:=cj 1 Ra
def xR:bU:=aY (gw (az eZ (Zv 0 aj)) (gw (az Ex (aa (ao bZ 0 (Zi 0)) aj)) (az zX (aa (ao bZ 0 (Zi 1)) aj))))
def gk:LD:=cj 1 xR
def tK:Ev:=fM 1 3 (iD (aM 0)) (d8 2 (bu (au 1) (bu (au 2) eG))) cR (aM 1)
def uf:bU:=aY (az dX (aa (tK) aj))
def d9:LD:=cj 1 uf
def mW:Ev:=fM 1 2 (iD (aM 0)) (au 1) cR (az gk (Zv 1 aj))
def Fw:bU:=aF (cJ (iI (cZ (cX (dY (fL "tuple") (aM 0)))) (cZ (cX (pH QB QB (Zi 1) (az cY (aa (bh 0) aj)) (Zi 4))))) (aY (j7 (.bl false))) bJ) (aY (gw (az qC (aa (mW) aj)) (az oA (aa (az d9 (Zv 0 aj)) aj))))
def kE:LD:=cj 1 Fw
def jb:Ev:=fM 3 4 (iD (aM 1)) (au 3) cR (ao En 3 (bh 2))
def zy:bU:=aF (cJ (cZ (cX (dY (fL "str") (aM 1)))) (aY (j7 (.bl false))) bJ) (aF (aX (az d9 (Zv 0 aj)) (au 2)) (aY (az qC (aa (jb) aj))))
def gZ:LD:=cj 3 zy
def nU:bU:=aF (cJ (cZ (cX (az eZ (Zv 1 aj)))) (aY (j7 (.bl false))) bJ) (aF (aX (aM 1) (d8 2 (bu (au 2) (bu (au 3) eG)))) (aY (gw (ao En 2 (bh 0)) (gw (Yl (ao En 3 (bh 0)) (ao gQ 3 (Zw []))) (ao Gr 2 (bh 3))))))
def ie:LD:=cj 4 nU
def qb:bU:=aY (gw (az eZ (Zv 1 aj)) (gw (aN gQ (ao bZ 1 (Zi 0)) (Zw [])) (aN En (ao bZ 1 (Zi 1)) (bh 0))))
def iB:LD:=cj 2 qb
def jO:Ev:=fM 2 3 (iD (aM 1)) (au 2) cR (az ie (Zv 0 (Zv 2 aj)))
def jN:Ev:=fM 2 4 (iD (aM 1)) (d8 2 (bu (au 2) (bu (au 3) eG))) cR (aM 2)
def qe:bU:=aF (cJ (iI (cZ (cX (dY (fL "tuple") (aM 1)))) (cX (aN gQ (az cY (aa (bh 1) aj)) (Zi 0)))) (aY (j7 (.bl false))) bJ) (aF (cJ (fZ (cX (aN gQ (az cY (aa (bh 1) aj)) (Zi 1))) (cX (az iB (Zv 0 (aa (ao bZ 1 (Zi 0)) aj))))) (aY (j7 (.bl true))) bJ) (aY (gw (az qC (aa (jO) aj)) (az oA (aa (jN) aj)))))
def eN:LD:=cj 2 qe
def Dq:Ev:=fM 2 3 (iD (aM 1)) (au 2) cR (Yl (ao gQ 2 (Zw [35])) (ao En 2 (bh 0)))
def Q9:bU:=aF (cJ (cX (ao gIs 1 (j7 .non))) (aY (j7 (.bl true))) bJ) (aF (cJ (iI (cZ (cX (dY (fL "tuple") (aM 1)))) (cX (aN gQ (az cY (aa (bh 1) aj)) (Zi 0)))) (aY (j7 (.bl false))) bJ) (aY (gw (az qC (aa (Dq) aj)) (az oA (Zv 1 aj)))))
def m9:LD:=cj 2 Q9
def J0:bU:=aF (cJ (iI (cZ (cX (dY (fL "tuple") (aM 1)))) (cX (aN Gr (az cY (aa (bh 1) aj)) (Zi 4)))) (aY (j7 (.bl false))) bJ) (aF (aX (aM 1) (d8 4 (bu (au 2) (bu (au 3) (bu (au 4) (bu (au 5) eG)))))) (aF (aX (az d9 (Zv 0 aj)) (au 6)) (aY (gw (ao En 2 (j7 (.tup [(.str [111,110,99,101]),(.str [97,108,111,110,103])]))) (gw (az eN (Zv 6 (Zv 3 aj))) (gw (az m9 (Zv 6 (Zv 4 aj))) (az m9 (Zv 6 (Zv 5 aj)))))))))
def mK:LD:=cj 7 J0
def mX:Ev:=fM 4 5 (iD (aM 3)) (au 4) cR (az mK (Zv 0 (Zv 4 aj)))
def Fx:bU:=aF (cJ (cZ (cX (az eZ (Zv 1 aj)))) (aY (j7 (.bl false))) bJ) (aF (aX (aM 1) (d8 2 (bu (au 2) (bu (au 3) eG)))) (aF (cJ (iI (cX (ao tR 2 (j7 (.tup [(.str [108,101,102,116]),(.str [114,105,103,104,116])])))) (iI (cZ (cX (dY (fL "tuple") (aM 3)))) (cX (aN gGt (az cY (aa (bh 3) aj)) (Zi 4))))) (aY (j7 (.bl false))) bJ) (aY (az qC (aa (mX) aj)))))
def mL:LD:=cj 4 Fx
def lX:bU:=aY (Yl (ao gIs 0 (j7 .non)) (ao En 1 (bh 0)))
def jh:LD:=cj 2 lX
def j0:bU:=aF (aX (aM 0) (d8 4 (bu (au 1) (bu (au 2) (bu (au 3) (bu (au 4) eG)))))) (aY (cI (Zv 1 (Zv 2 (Zv 4 (Zv 3 aj))))))
def tU:LD:=cj 5 j0
def jt:bU:=aY (aN gQ (aN bZ (aN bZ (ao bZ 0 (Zi 1)) (Zi 0)) (Zi 0)) (Zw []))
def oG:LD:=cj 1 jt
def jP:bU:=aF (cJ (fZ (cX (az jh (Zv 4 (Zv 8 aj)))) (cX (az jh (Zv 5 (Zv 9 aj))))) (iH 7 (aM 6)) bJ) (aF (iH 7 (aM 9)) (aX (aM 9) (au 8)))
def eO:bU:=aF (aX (aM 0) (d8 4 (bu (au 2) (bu (au 3) (bu (au 4) (bu (au 5) eG)))))) (aF (aX (aN bZ (ao bZ 3 (Zi 0)) (Zi 1)) (au 6)) (aF (gr 7 (dF aj)) (aF (aX (Zw [35]) (au 8)) (aF (gU (iD (ao cA 1 (Zw [35]))) (au 9) (jP)) (aY (aN pq (Zw []) (zm (aM 7) mq (xG (dY rR (Zi 1))))))))))
def jr:LD:=cj 10 eO
def jz:bU:=aF (aX (aM 11) (au 12)) (aF (cJ (fZ (cX (ao p7 11 (bh 6))) (fZ (cX (az jh (Zv 4 (Zv 9 aj)))) (cX (az jh (Zv 5 (aa (ao bZ 7 (ao cA 10 (Zi 1))) aj)))))) (aX (ao kZ 6 (bh 11)) (au 12)) bJ) (aF (iH 8 (aM 12)) (cJ (cX (ao gQ 2 (Zw [111,110,99,101]))) (aX (aM 11) (au 9)) (cJ (cX (ao Gr 12 (Zw []))) (aX (aM 12) (au 9)) bJ))))
def dU:bU:=aF (aX (aM 0) (d8 4 (bu (au 2) (bu (au 3) (bu (au 4) (bu (au 5) eG)))))) (aF (aX (az uM (aa (bh 3) aj)) (au 6)) (aF (aX (ao cA 1 (Zw [35])) (au 7)) (aF (gr 8 (dF aj)) (aF (aX (Zw [35]) (au 9)) (aF (gU (Uh (Zv 1 aj)) (d8 2 (bu (au 10) (bu (au 11) eG))) (jz)) (aY (aN pq (Zw []) (bh 8))))))))
def iU:LD:=cj 13 dU
def fj:bU:=aF (cJ (cX (az oG (Zv 0 aj))) (aY (az jr (Zv 0 (Zv 1 aj)))) bJ) (aY (az iU (Zv 0 (Zv 1 aj))))
def jH:LD:=cj 2 fj
def ig:bU:=aF (cJ (cX (ao gQ 0 (Zw [114,105,103,104,116]))) (aY (rJ (az jH (aa (az tU (Zv 1 aj)) (aa (rJ (aM 2)) aj))))) bJ) (aY (az jH (Zv 1 (Zv 2 aj))))
def lr:LD:=cj 3 ig
def uw:bU:=iH 4 (az lr (Zv 2 (Zv 5 (aa (ao bZ 4 (dY rR (Zi 1))) aj))))
def wg:bU:=aF (aX (aM 0) (d8 2 (bu (au 2) (bu (au 3) eG)))) (aF (gr 4 (dF (Zv 1 aj))) (aF (gU (iD (aM 3)) (au 5) (uw)) (aY (az dX (aa (bh 4) aj)))))
def Eu:LD:=cj 6 wg
def wj:bU:=aY (aN bZ (az Eu (Zv 0 (Zv 1 aj))) (dY rR (Zi 1)))
def nQ:LD:=cj 2 wj
def Uv:bU:=aY (gw (dY (fL "int") (aM 0)) (Ez (dY (fL "bool") (aM 0))))
def rn:LD:=cj 1 Uv
def pJ:bU:=aY (gw (az rn (Zv 1 aj)) (pH QB VP (Zi 0) (aM 1) (aM 0)))
def gj:LD:=cj 2 pJ
def Q8:bU:=aY (gw (dY (fL "tuple") (aM 1)) (aN gQ (az cY (aa (bh 1) aj)) (bh 0)))
def tV:LD:=cj 2 Q8
def YJ:bU:=aY (gw (az eZ (Zv 2 aj)) (gw (az gZ (Zv 0 (aa (ao bZ 2 (Zi 0)) aj))) (az gj (Zv 1 (aa (ao bZ 2 (Zi 1)) aj)))))
def JL:LD:=cj 3 YJ
def G8:Ev:=fM 5 6 (iD (aM 4)) (au 5) cR (az JL (Zv 0 (Zv 1 (Zv 5 aj))))
def Uw:bU:=aF (cJ (cZ (cX (az eZ (Zv 2 aj)))) (aY (j7 (.bl false))) bJ) (aF (aX (aM 2) (d8 2 (bu (au 3) (bu (au 4) eG)))) (aY (gw (az gZ (Zv 0 (Zv 3 aj))) (gw (az tV (aa (az cY (aa (bh 0) aj)) (Zv 4 aj))) (az qC (aa (G8) aj))))))
def Ew:LD:=cj 5 Uw
def Bd:Ev:=fM 4 5 (iD (aM 3)) (au 4) cR (az Ew (Zv 0 (aa (az cY (aa (bh 3) aj)) (Zv 4 aj))))
def M5:bU:=aF (cJ (cZ (cX (az eZ (Zv 1 aj)))) (aY (j7 (.bl false))) bJ) (aF (aX (aM 1) (d8 2 (bu (au 2) (bu (au 3) eG)))) (aF (cJ (iI (cZ (cX (az gZ (Zv 0 (Zv 2 aj))))) (iI (cZ (cX (dY (fL "tuple") (aM 3)))) (cX (aN gQ (az cY (aa (bh 3) aj)) (Zi 0))))) (aY (j7 (.bl false))) bJ) (aY (az qC (aa (Bd) aj)))))
def xF:LD:=cj 4 M5
def lW:bU:=aY (gw (az eZ (Zv 1 aj)) (gw (az gZ (Zv 0 (aa (ao bZ 1 (Zi 0)) aj))) (az gZ (Zv 0 (aa (ao bZ 1 (Zi 1)) aj)))))
def eV:LD:=cj 2 lW
def oh:Ev:=fM 2 3 (iD (aM 1)) (au 2) cR (az eV (Zv 0 (Zv 2 aj)))
def zB:bU:=aF (cJ (iI (cZ (cX (dY (fL "tuple") (aM 1)))) (cZ (cX (pH QB QB (Zi 1) (az cY (aa (bh 1) aj)) (Zi 6))))) (aY (j7 (.bl false))) bJ) (aY (az qC (aa (oh) aj)))
def dR:LD:=cj 2 zB
def zA:bU:=aF (cJ (cX (ao gQ 1 (Zw [111,114,100,101,114]))) (aY (az mL (Zv 0 (Zv 2 aj)))) bJ) (aF (cJ (cX (ao gQ 1 (Zw [114,117,108,101]))) (aY (az mK (Zv 0 (Zv 2 aj)))) bJ) (aF (cJ (cX (ao gQ 1 (Zw [119,111,114,100]))) (aY (az gZ (Zv 0 (Zv 2 aj)))) bJ) (aF (cJ (cX (ao gQ 1 (Zw [109,97,99,104,105,110,101]))) (aY (az xF (Zv 0 (Zv 2 aj)))) bJ) (aF (cJ (cX (ao gQ 1 (Zw [98,111,111,107]))) (aY (az dR (Zv 0 (Zv 2 aj)))) bJ) (aF (cJ (cX (ao gQ 1 (Zw [115,105,100,101]))) (aY (ao En 2 (j7 (.tup [(.str [108,101,102,116]),(.str [114,105,103,104,116])])))) bJ) (aY (az rn (Zv 2 aj))))))))
def jT:LD:=cj 3 zA
def lL:Ev:=fM 3 5 (QL (Zv 1 (Zv 2 aj))) (d8 2 (bu (au 3) (bu (au 4) eG))) cR (az jT (Zv 0 (Zv 3 (Zv 4 aj))))
def lK:Ev:=fM 3 5 (QL (Zv 1 (Zv 2 aj))) (d8 2 (bu (au 3) (bu (au 4) eG))) (cX (ao gQ 3 (Zw [111,114,100,101,114]))) (ao bZ 4 (Zi 0))
def Ad:bU:=aF (cJ (cX (aN Gr (az cY (aa (bh 2) aj)) (az cY (aa (bh 1) aj)))) (aY (j7 (.bl false))) bJ) (aF (cJ (cZ (cX (az qC (aa (lL) aj)))) (aY (j7 (.bl false))) bJ) (aY (aN QB (dY Em (lK)) (Zi 1))))
def pG:LD:=cj 3 Ad
def qU:Ev:=EY 3 5 (iD (aM 1)) (au 3) (fc (aa (az cY (aa (bh 0) aj)) aj)) (au 4) (cX (ao tR 4 (bh 3))) (ao cA 3 (cI (Zv 4 aj)))
def lM:bU:=gr 1 (qU)
def n8:Ev:=fM 4 5 (iD (aM 3)) (au 4) cR (ao bZ 0 (bh 4))
def n6:Ev:=fM 3 4 (iD (aM 1)) (au 3) cR (az dX (aa (n8) aj))
def JZ:bU:=aF (aX (dF (aa (cI aj) aj)) (au 1)) (aF (gU (fc (aa (az cY (aa (bh 0) aj)) aj)) (au 2) (lM)) (aY (n6)))
def ux:LD:=cj 3 JZ
def gJ:Ev:=fM 8 9 (iD (aM 2)) (au 8) cR (az gj (aa (az cY (aa (bh 4) aj)) (Zv 8 aj)))
def iZ:Ev:=fM 8 10 (Ey (Zv 7 (Zv 2 aj))) (d8 2 (bu (au 8) (bu (au 9) eG))) cR (aN Gr (az nQ (aa (cI (Zv 5 (Zv 8 aj))) (aa (aN bZ (ao bZ 4 (bh 9)) (Zi 0)) aj))) (aN bZ (ao bZ 4 (bh 9)) (Zi 1)))
def j9:bU:=aF (aX (aM 1) (d8 2 (bu (au 3) (bu (au 4) eG)))) (aF (aX (aM 3) (d8 2 (bu (au 5) (bu (au 6) eG)))) (aF (aX (az ux (Zv 6 aj)) (au 7)) (aF (cJ (iI (cZ (cX (az tV (aa (az cY (aa (bh 7) aj)) (Zv 2 aj))))) (cZ (cX (az qC (aa (gJ) aj))))) (aY (j7 (.bl false))) bJ) (aY (az qC (aa (iZ) aj))))))
def dB:LD:=cj 8 j9
def Wj:bU:=aF (cJ (iI (cZ (cX (dY (fL "tuple") (aM 0)))) (cX (aN VP (az cY (aa (bh 0) aj)) (Zi 2)))) (aY (j7 (.bl false))) bJ) (aF (aX (ao bZ 0 (Zi 0)) (au 2)) (aF (aX (ao bZ 0 (Zi 1)) (au 3)) (aF (cJ (iI (cZ (cX (dY (fL "str") (aM 2)))) (iI (cX (dY (tQ ql) (aM 2))) (cZ (cX (az kE (Zv 3 aj)))))) (aY (j7 (.bl false))) bJ) (aF (aX (JN (aM 0) (xG (Zi 2)) mq) (au 4)) (aF (aX (dY (zg wI) (aM 2)) (au 5)) (aY (gw (az pG (Zv 3 (aa (dY (zg ql) (aM 2)) (Zv 4 aj)))) (QM "quarrel_shown" dB 5 (Zv 3 (Zv 4 (Zv 1 aj)))))))))))
def Bq:LD:=cj 6 Wj
def pI:bU:=aY (aN ajl (ao uF 0 (Zi 262406895267124108351839057402211873468251940277165213587343)) (aN Ub (Zi 10) (Zi 60)))
def jG:LD:=cj 1 pI
def G9:bU:=aX (aN cA (ao uF 2 (aN Ub (Zi 10) (Zi 60))) (az jG (aa (aN bZ (aN cA (zm (aM 0) (xG (aM 3)) (xG (ao cA 3 (Zi 1)))) (dF (aa (aN cA (aN uF (Zi 7919) (bh 3)) (Zi 61)) aj))) (Zi 0)) aj))) (au 2)
def mO:bU:=aF (aX (Zi 0) (au 2)) (aF (gU (iD (dF (aa (ao cA 1 (Zi 1)) (Zv 1 aj)))) (au 3) (G9)) (wL (dF (Zv 2 aj))))
def jg:LD:=runN 4 mO
def jJ:bU:=aF (aX (az xC (aa (ao bZ 0 (Zi 0)) (aa (bh 1) aj))) (d8 2 (bu (T6 0 (Zi 0)) (bu (au 2) eG)))) (aY (aM 2))
def bf:List D->Option (D×D):=lE 3 jJ
def Dm:Ev:=fM 7 8 (fc (aa (Zi 5) aj)) (au 7) (cX (aN gQ (aN QF (ao Qy 5 (bh 7)) (Zi 1)) (Zi 1))) (ao bZ 2 (bh 7))
def Ds:bU:=aF (aX (dM bf 0 (aa (Zi 32) aj)) (au 5)) (aF (aX (az lU (aa (Dm) aj)) (au 6)) (iH 3 (cI (Zv 4 (aa (az dX (aa (zm (aM 6) mq (xG (Zi 4))) aj)) aj)))))
def z9:bU:=aF (aX (aN bZ (dF (aa (Zw [97]) (aa (Zw [97,98]) (aa (Zw [97,98]) (aa (Zw [97,98,99]) (aa (Zw [97,101,112,116]) (aa (Zw [109,110,122]) aj))))))) (dM bf 0 (aa (Zi 6) aj))) (au 1)) (aF (aX (dF (aa (Zw [115,116,111,112]) (aa (Zw [115,116,111,112,115]) (aa (Zw [115]) (aa (Zw [111,112,101,110]) (aa (Zw [97,98,99,100,101,102,103,104]) aj)))))) (au 2)) (aF (gr 3 (dF aj)) (aF (gU (iD (aM 1)) (au 4) (Ds)) (aY (az dX (aa (bh 3) aj))))))
def pB:List D->Option (D×D):=lE 7 z9
def Bc:Ev:=mR.tK
def rC:bU:=aY (aN pq (Zw []) (Bc))
def je:LD:=cj 1 rC
def Dn:Ev:=fM 4 5 (fc (aa (az cY (aa (bh 3) aj)) aj)) (au 4) (cX (aN gQ (aN QF (ao Qy 2 (bh 4)) (Zi 1)) (Zi 1))) (ao bZ 3 (bh 4))
def ni:bU:=aF (cJ (cX (aN gQ (dM bf 0 (aa (Zi 2) aj)) (Zi 0))) (aY (j7 .non)) bJ) (aF (aX (aN cA (Zi 1) (dM bf 0 (aa (aN m7 (aN Ye (Zi 2) (az cY (aa (bh 1) aj))) (Zi 1)) aj))) (au 2)) (aF (aX (aN cA (Zw [35]) (bh 1)) (au 3)) (aY (az dX (aa (Dn) aj)))))
def m8:List D->Option (D×D):=lE 4 ni
def yV:Ev:=fM 6 7 (iD (aN cA (az qz (aa (bh 1) aj)) (dF (aa (Zw []) aj)))) (au 6) (cX (ao Gr 6 (bh 4))) (aM 6)
def yW:bU:=aF (aX (ao bZ 1 (dM bf 0 (aa (az cY (aa (bh 1) aj)) aj))) (au 4)) (aF (gr 5 (yV)) (rY 2 (aM 4) (ao bZ 5 (dM bf 0 (aa (az cY (aa (bh 5) aj)) aj)))))
def yU:Ev:=fM 6 7 (iD (az lU (aa (bh 2) aj))) (au 6) cR (cI (Zv 6 (aa (ao kZ 2 (bh 6)) aj)))
def qd:bU:=aF (cJ (cX (aN gQ (dM bf 0 (aa (Zi 5) aj)) (Zi 0))) (aY (cI (aa (cI (aa (Zw []) (aa (ao bZ 1 (dM bf 0 (aa (az cY (aa (bh 1) aj)) aj))) aj))) aj))) bJ) (aF (gr 2 (Fd)) (aF (gU (fc (aa (aN cA (Zi 1) (dM bf 0 (aa (Zi 4) aj))) aj)) (au 3) (yW)) (aY (az dX (aa (yU) aj)))))
def p8:List D->Option (D×D):=lE 6 qd
def Ft:bU:=aF (aX (aN bZ (dF (aa (Zw [111,110,99,101]) (aa (Zw [97,108,111,110,103]) aj))) (dM bf 0 (aa (Zi 2) aj))) (au 2)) (aF (aX (dM p8 0 (Zv 1 aj)) (au 3)) (aY (cI (Zv 2 (Zv 3 (aa (dM m8 0 (Zv 1 aj)) (aa (dM m8 0 (Zv 1 aj)) aj)))))))
def mJ:List D->Option (D×D):=lE 4 Ft
def Dp:Ev:=fM 4 5 (fc (aa (dM bf 0 (aa (ao cA 2 (Zi 1)) aj)) aj)) (au 4) cR (dM mJ 0 (Zv 1 aj))
def Ac:bU:=aF (aX (aN bZ (dF (aa (Zw [108,101,102,116]) (aa (Zw [114,105,103,104,116]) aj))) (dM bf 0 (aa (Zi 2) aj))) (au 3)) (aY (cI (Zv 3 (aa (az dX (aa (Dp) aj)) aj))))
def pF:List D->Option (D×D):=lE 4 Ac
def G7:Ev:=fM 3 4 (fc (aa (dM bf 0 (aa (ao cA 2 (Zi 1)) aj)) aj)) (au 3) cR (ao bZ 1 (dM bf 0 (aa (az cY (aa (bh 1) aj)) aj)))
def rB:bU:=aY (aN pq (Zw []) (G7))
def mH:List D->Option (D×D):=lE 3 rB
def kJ:bU:=mR.lX
def cT:LD:=cj 2 kJ
def nO:bU:=aF (cJ (fZ (cX (az cT (aa (ao bZ 0 (Zi 2)) (aa (ao bZ 2 (ao m7 4 (Zi 1))) aj)))) (cX (az cT (aa (ao bZ 0 (Zi 3)) (aa (ao bZ 2 (bh 4)) aj))))) (aX (ao cA 3 (aN bZ (aN bZ (ao bZ 0 (Zi 1)) (Zi 0)) (Zi 1))) (au 3)) bJ) (aX (ao cA 3 (ao bZ 2 (bh 4))) (au 3))
def fW:bU:=aF (aX (aN cA (aN cA (Zw [35]) (bh 1)) (Zw [35])) (au 2)) (aF (aX (Zw []) (au 3)) (aF (gU (fc (aa (Zi 1) (aa (az cY (aa (bh 2) aj)) aj))) (au 4) (nO)) (aY (zY (aM 3) mq (xG (dY rR (Zi 1)))))))
def jf:LD:=cj 5 fW
def mF:bU:=aF (aX (ao bZ 7 (ao m7 9 (Zi 1))) (au 10)) (aF (cJ (cX (ao gQ 2 (Zw [97,108,111,110,103]))) (aX (ao bZ 8 (dY rR (Zi 1))) (au 10)) bJ) (cJ (fZ (cX (aN p7 (ao bZ 7 (bh 9)) (bh 6))) (fZ (cX (az cT (Zv 4 (Zv 10 aj)))) (cX (az cT (Zv 5 (aa (ao bZ 7 (ao cA 9 (Zi 1))) aj)))))) (aX (ao cA 8 (ao kZ 6 (ao bZ 7 (bh 9)))) (au 8)) (aX (ao cA 8 (ao bZ 7 (bh 9))) (au 8))))
def dC:bU:=aF (aX (aM 0) (d8 4 (bu (au 2) (bu (au 3) (bu (au 4) (bu (au 5) eG)))))) (aF (cJ (cX (aN gQ (aN bZ (ao bZ 3 (Zi 0)) (Zi 0)) (Zw []))) (aY (az jf (Zv 0 (Zv 1 aj)))) bJ) (aF (aX (az uM (aa (bh 3) aj)) (au 6)) (aF (aX (aN cA (aN cA (Zw [35]) (bh 1)) (Zw [35])) (au 7)) (aF (aX (Zw [35]) (au 8)) (aF (gU (fc (aa (Zi 1) (aa (aN m7 (az cY (aa (bh 7) aj)) (Zi 1)) aj))) (au 9) (mF)) (aY (zY (aM 8) (xG (Zi 1)) mq)))))))
def cV:LD:=cj 11 dC
def fV:bU:=aY (cI (aa (ao bZ 0 (Zi 0)) (aa (ao bZ 0 (Zi 1)) (aa (ao bZ 0 (Zi 3)) (aa (ao bZ 0 (Zi 2)) aj)))))
def jd:LD:=cj 1 fV
def di:bU:=aF (cJ (cX (ao gQ 0 (Zw [114,105,103,104,116]))) (aY (rJ (az cV (aa (az jd (Zv 1 aj)) (aa (rJ (aM 2)) aj))))) bJ) (aY (az cV (Zv 1 (Zv 2 aj))))
def cW:LD:=cj 3 di
def pY:bU:=iH 2 (az cW (aa (ao bZ 0 (Zi 0)) (Zv 3 (aa (ao bZ 2 (dY rR (Zi 1))) aj))))
def kI:bU:=aF (gr 2 (dF (Zv 1 aj))) (aF (gU (iD (ao bZ 0 (Zi 1))) (au 3) (pY)) (aY (az dX (aa (bh 2) aj))))
def jF:LD:=cj 4 kI
def rD:bU:=aY (aN bZ (az jF (Zv 0 (Zv 1 aj))) (dY rR (Zi 1)))
def gO:LD:=cj 2 rD
def Ab:bU:=aF (aX (dM bf 1 (aa (Zi 8) aj)) (au 2)) (aF (cJ (cX (dY (fL "bool") (aM 0))) (aY (aN bZ (dF (aa (Ez (aM 0)) (aa (az VR (aa (bh 0) aj)) (aa (j7 .non) (aa (Ez (aM 0)) (aa (Ez (aM 0)) (aa (Zw [97]) (aa (cI aj) (aa (Ez (aM 0)) aj))))))))) (bh 2))) bJ) (aF (cJ (cX (dY (fL "int") (aM 0))) (aY (aN bZ (dF (aa (ao cA 0 (Zi 1)) (aa (ao m7 0 (Zi 1)) (aa (Zi 0) (aa (ao gQ 0 (Zi 1)) (aa (ao cA 0 (Zi 2)) (aa (j7 .non) (aa (dY JF (aM 0)) (aa (cI (Zv 0 aj)) aj))))))))) (bh 2))) bJ) (aF (cJ (cX (dY (fL "str") (aM 0))) (aY (aN bZ (dF (aa (ao cA 0 (Zw [97])) (aa (JN (aM 0) (xG (Zi 1)) mq) (aa (Zw []) (aa (Zw [98]) (aa (Zw [35]) (aa (j7 .non) (aa (ao cA 0 (bh 0)) (aa (Zi 0) aj))))))))) (bh 2))) bJ) (aY (aN bZ (dF (aa (j7 .non) (aa (dF aj) (aa (cI aj) (aa (Zi 0) (aa (Zw [97]) (aa (Fd) (aa (cI (aa (Zi 0) aj)) (aa (cI (aa (cI aj) aj)) aj))))))))) (bh 2))))))
def lg:List D->Option (D×D):=sW 3 Ab
noncomputable def uN:List D->Option (D×D):=λ_=>none
def uP:bU:=aF (cJ (iI (cX (ao gQ 2 (Zi 0))) (iI (cZ (cX (dY (fL "tuple") (aM 0)))) (cX (ao gQ 0 (cI aj))))) (aY (tW lg 1 (aM 0) aj)) bJ) (aF (aX (dM bf 1 (aa (az cY (aa (bh 0) aj)) aj)) (au 3)) (aF (aX (dM bf 1 (aa (Zi 12) aj)) (au 4)) (aF (gr 5 (dY Ek (aM 0))) (aF (cJ (cX (ao gQ 4 (Zi 0))) (KH (m5 5 (aM 3))) (cJ (cX (ao gQ 4 (Zi 1))) (BZ 5 (aM 3) (ao bZ 0 (bh 3))) (cJ (cX (ao gQ 4 (Zi 2))) (iH 5 (m5 5 (aM 3))) (cJ (cX (ao gQ 4 (Zi 3))) (aY (aM 5)) (aX (tW uN 1 (ao bZ 0 (bh 3)) (aa (ao m7 2 (Zi 1)) aj)) (T6 5 (aM 3))))))) (aY (az dX (aa (bh 5) aj)))))))
def mZ:List D->Option (D×D):=sW 6 uP
def Uu:bU:=aF (cJ (iI (cX (ao gQ 2 (Zi 0))) (iI (cZ (cX (dY (fL "tuple") (aM 0)))) (cX (ao gQ 0 (cI aj))))) (aY (tW lg 1 (aM 0) aj)) bJ) (aF (aX (dM bf 1 (aa (az cY (aa (bh 0) aj)) aj)) (au 3)) (aF (aX (dM bf 1 (aa (Zi 12) aj)) (au 4)) (aF (gr 5 (dY Ek (aM 0))) (aF (cJ (cX (ao gQ 4 (Zi 0))) (KH (m5 5 (aM 3))) (cJ (cX (ao gQ 4 (Zi 1))) (BZ 5 (aM 3) (ao bZ 0 (bh 3))) (cJ (cX (ao gQ 4 (Zi 2))) (iH 5 (m5 5 (aM 3))) (cJ (cX (ao gQ 4 (Zi 3))) (aY (aM 5)) (aX (tW mZ 1 (ao bZ 0 (bh 3)) (aa (ao m7 2 (Zi 1)) aj)) (T6 5 (aM 3))))))) (aY (az dX (aa (bh 5) aj)))))))
def rm:List D->Option (D×D):=sW 6 Uu
def Fq:bU:=aF (aX (az Bq (Zv 0 (Zv 1 aj))) (au 3)) (aY (gw (dY (fL "bool") (aM 3)) (ao gQ 3 (bh 2))))
def gM:LD:=cj 4 Fq
def km:Ev:=fM 5 6 (fc (Zv 0 aj)) (au 5) (cX (ao tR 5 (bh 4))) (ao cA 4 (cI (Zv 5 aj)))
def jc:bU:=aX (ao cA 3 (km)) (au 3)
def gK:bU:=aF (aX (dF aj) (au 3)) (aF (gU (iD (aM 1)) (au 4) (jc)) (aX (aM 3) (au 1)))
def rK:bU:=aF (aX (dF (aa (cI aj) aj)) (au 1)) (aF (gU (fc (Zv 0 aj)) (au 2) (gK)) (aY (aM 1)))
def gY:LD:=cj 5 rK
def jq:Ev:=fM 2 3 (iD (aM 1)) (au 2) cR (aN bZ (ao bZ 0 (Zi 1)) (bh 2))
def rE:bU:=aY (cI (aa (ao bZ 0 (Zi 0)) (aa (az dX (aa (jq) aj)) aj)))
def iC:LD:=cj 2 rE
def jQ:bU:=aF (cJ (iI (cZ (cX (dY (fL "int") (aM 5)))) (iI (cX (dY (fL "bool") (aM 5))) (cZ (cX (pH QB VP (Zi 0) (aM 5) (az cY (aa (bh 1) aj))))))) (aY (j7 (.bl false))) bJ) (cJ (cX (aN gQ (az gO (aa (az iC (Zv 0 (Zv 4 aj))) (aa (aN bZ (ao bZ 1 (bh 5)) (Zi 0)) aj))) (aN bZ (ao bZ 1 (bh 5)) (Zi 1)))) (aY (j7 (.bl false))) bJ)
def uA:bU:=aF (aX (az gY (aa (az cY (aa (ao bZ 0 (Zi 1)) aj)) aj)) (au 3)) (aF (cJ (iI (cZ (cX (dY (fL "tuple") (aM 2)))) (cX (aN Gr (az cY (aa (bh 2) aj)) (az cY (aa (bh 3) aj))))) (aY (j7 (.bl false))) bJ) (aF (gU (Ey (Zv 3 (Zv 2 aj))) (d8 2 (bu (au 4) (bu (au 5) eG))) (jQ)) (aY (j7 (.bl true)))))
def lq:LD:=cj 6 uA
def lJ:Ev:=fM 6 7 (fc (aa (az cY (aa (bh 1) aj)) aj)) (au 6) (cX (aN Gr (az gO (Zv 4 (aa (aN bZ (ao bZ 1 (bh 6)) (Zi 0)) aj))) (aN bZ (ao bZ 1 (bh 6)) (Zi 1)))) (aM 6)
def jD:bU:=aF (aX (az iC (Zv 0 (Zv 3 aj))) (au 4)) (aF (gr 5 (lJ)) (iH 2 (aN bZ (ao cA 5 (dF (aa (Zi 0) aj))) (Zi 0))))
def Aa:bU:=aF (gr 2 (dF aj)) (aF (gU (iD (az gY (aa (az cY (aa (ao bZ 0 (Zi 1)) aj)) aj))) (au 3) (jD)) (aY (az dX (aa (bh 2) aj))))
def pD:LD:=cj 6 Aa
def mY:bU:=aF (aX (dM mH 0 (Zv 2 (aa (Zi 5) aj))) (au 6)) (aF (aX (az gO (aa (az iC (Zv 1 (aa (ao bZ 4 (dM bf 0 (aa (az cY (aa (bh 4) aj)) aj))) aj))) (Zv 6 aj))) (au 7)) (aF (cJ (cX (aN gQ (dM bf 0 (aa (Zi 4) aj)) (Zi 0))) (aX (dM mH 0 (Zv 2 (aa (Zi 5) aj))) (au 7)) bJ) (iH 3 (cI (Zv 6 (Zv 7 aj))))))
def Fv:bU:=aF (gr 3 (dF aj)) (aF (aX (az gY (aa (az cY (aa (ao bZ 1 (Zi 1)) aj)) aj)) (au 4)) (aF (gU (fc (aa (aN cA (Zi 1) (dM bf 0 (aa (Zi 6) aj))) aj)) (au 5) (mY)) (aY (az dX (aa (bh 3) aj)))))
def o4:List D->Option (D×D):=lE 8 Fv
def lQ:bU:=aF (aX (tW rm 0 (aM 4) (aa (Zi 2) aj)) (au 7)) (cJ (cZ (cX (az gM (Zv 5 (Zv 7 (aa (az lq (Zv 2 (Zv 3 (Zv 7 aj)))) aj)))))) (aY (j7 (.bl false))) bJ)
def lN:bU:=cJ (cZ (cX (az gM (aa (cI (aa (Zw [113,117,97,114,114,101,108]) (Zv 1 (Zv 2 (Zv 8 aj))))) (Zv 4 (aa (j7 (.bl false)) aj)))))) (aY (j7 (.bl false))) bJ
def ug:bU:=aF (aX (az pD (Zv 2 (Zv 3 aj))) (au 4)) (aF (aX (cI (aa (Zw [113,117,97,114,114,101,108]) (Zv 1 (Zv 2 (Zv 3 aj))))) (au 5)) (aF (cJ (cZ (cX (az gM (Zv 5 (Zv 4 (aa (az lq (Zv 2 (Zv 3 (Zv 4 aj)))) aj)))))) (aY (j7 (.bl false))) bJ) (aF (gU (fc (aa (Zi 5) aj)) (au 6) (lQ)) (aF (gU (iD (dF (aa (cI aj) (aa (ao VN 3 (Zi 7)) (aa (az qz (aa (bh 3) aj)) (aa (cI (aa (aN bZ (ao bZ 3 (Zi 0)) (Zi 0)) aj)) (aa (cI (aa (aN cA (ao bZ 3 (Zi 0)) (cI (aa (Zw []) aj))) aj)) (aa (cI (aa (cI (aa (Zw [35]) (aa (Zw []) aj))) aj)) (aa (cI (aa (cI (aa (Zw []) (aa (j7 .non) aj))) aj)) (aa (j7 .non) aj)))))))))) (au 8) (lN)) (aY (gw (az gM (Zv 5 (aa (az qz (aa (bh 4) aj)) (aa (j7 (.bl false)) aj)))) (az gM (Zv 5 (aa (j7 .non) (aa (j7 (.bl false)) aj))))))))))
def pC:List D->Option (D×D):=lE 9 ug
def Qf:Ev:=fM 7 8 (fc (aa (Zi 4) aj)) (au 7) cR (dM mJ 6 (Zv 4 aj))
def xf:bU:=aF (gr 2 (az jg (Zv 0 (Zv 1 aj)))) (aF (aX (dM pB 2 aj) (au 3)) (aF (aX (az je (Zv 3 aj)) (au 4)) (aF (aX (dM pF 2 (Zv 4 (aa (Zi 3) aj))) (au 5)) (aF (gr 6 (az jg (Zv 0 (aa (ao cA 1 (Zi 2)) aj)))) (aF (cJ (cX (aN gQ (dM bf 6 (aa (Zi 8) aj)) (Zi 0))) (aF (aX (JM (aM 3) mq (xG (Zi 2))) (au 3)) (aF (aX (JN (aM 4) mq (xG (Zi 2))) (au 4)) (aX (cI (aa (ao bZ 5 (Zi 0)) (aa (az dX (aa (Qf) aj)) aj))) (au 5)))) bJ) (cJ (cZ (cX (dM pC 6 (Zv 3 (Zv 5 (aa (dM o4 6 (Zv 5 (Zv 4 aj))) aj)))))) (aY (j7 (.bl false))) bJ))))))
def agj:bU:=aF (gU (fc (aa (Zi 0) (aa (az Yi (aa (Zi 1) (aa (az Yh (aa (az cY (aa (bh 0) aj)) (aa (Zi 36) aj))) aj))) (aa (Zi 6) aj)))) (au 1) (xf)) (aY (j7 (.bl true)))
def V2:LD:=cj 7 agj
end
open PySem PySem.Spec PyProof.Rows L2 Ev
noncomputable def top(i:Nat):Stmt:=PySem.Challenge.pw_soundrules_k65_quarrels_judged.main.body.getD i (.Pass ⟨0,0,0,0⟩)
abbrev yF:Stmt:=top 6
abbrev vL:Stmt:=top 7
abbrev Ld:Stmt:=top 8
abbrev yE:Stmt:=top 9
abbrev sV:Stmt:=top 10
abbrev lD:Stmt:=top 11
abbrev rZ:Stmt:=top 14
abbrev vJ:Stmt:=top 12
abbrev yx:Stmt:=top 13
abbrev nG:Stmt:=top 19
abbrev pN:Stmt:=top 20
abbrev pR:Stmt:=top 21
abbrev sS:Stmt:=top 22
abbrev yC:Stmt:=top 23
abbrev vM:Stmt:=top 24
abbrev S6:Stmt:=top 25
abbrev Cw:Stmt:=top 26
abbrev yt:Stmt:=top 27
abbrev pM:Stmt:=top 29
abbrev oM:Stmt:=top 30
abbrev sO:Stmt:=top 31
abbrev yH:Stmt:=top 32
abbrev SQ:Stmt:=top 33
abbrev S5:Stmt:=top 34
abbrev vI:Stmt:=top 47
abbrev lC:Stmt:=top 48
abbrev Cy:Stmt:=top 49
abbrev yz:Stmt:=top 51
abbrev vK:Stmt:=top 52
abbrev qN:Stmt:=top 53
abbrev oO:Stmt:=top 56
abbrev yG:Stmt:=top 57
abbrev yD:Stmt:=top 68
abbrev sU:Stmt:=top 69
abbrev yu:Stmt:=top 86
abbrev nA:Stmt:=top 87
abbrev Le:Stmt:=top 89
abbrev sJ:Stmt:=top 91
abbrev vB:Stmt:=top 92
abbrev vq:Stmt:=top 93
abbrev sr:Stmt:=top 94
abbrev qL:Stmt:=top 95
abbrev su:Stmt:=top 96
abbrev pO:Stmt:=top 97
abbrev vA:Stmt:=top 98
abbrev sI:Stmt:=top 99
abbrev vm:Stmt:=top 100
abbrev vG:Stmt:=top 101
abbrev qM:Stmt:=top 102
abbrev pP:Stmt:=top 103
abbrev qK:Stmt:=top 104
abbrev pQ:Stmt:=top 105
abbrev vo:Stmt:=top 106
abbrev vC:Stmt:=top 107
abbrev sH:Stmt:=top 108
abbrev oN:Stmt:=top 109
abbrev vp:Stmt:=top 110
abbrev nD:Stmt:=top 111
abbrev vD:Stmt:=top 112
abbrev yw:Stmt:=top 113
abbrev sG:Stmt:=top 114
abbrev vH:Stmt:=top 115
abbrev sE:Stmt:=top 116
abbrev aab:Stmt:=top 117
structure Top(w:World)(K:Fg)(mg:Str->Option Value):Prop where
 lH:mg "all" = none
 Bo:mg "bool" = none
 Vn:mg "dict" = none
 XH:mg "divmod" = none
 LR:mg "enumerate" = none
 LQ:mg "int" = none
 bH:mg "isinstance" = none
 cL:mg "len" = none
 wY:mg "list" = none
 ahZ:mg "max" = none
 ahY:mg "min" = none
 fY:mg "range" = none
 HX:mg "sorted" = none
 Dg:mg "str" = none
 cG:mg "tuple" = none
 LK:mg "zip" = none
 m6:∀d:D,PySem.W.kitOne K (.type (Ws d)) (.type "bool")=some (eF d "bool")
 qW:∀d:D,PySem.W.kitOne K (.type (Ws d)) (.type "int")=some (eF d "int")
 ph:∀d:D,PySem.W.kitOne K (.type (Ws d)) (.type "str")=some (eF d "str")
 dO:∀d:D,PySem.W.kitOne K (.type (Ws d)) (.type "tuple")=some (eF d "tuple")
 fQ:Rk K mg "EDGE" (.str [35])
 oY:Rk K mg "LETTERS" (.str [97,98,99,100,101,102,103,104,105,106,107,108,109,110,111,112,113,114,115,116,117,118,119,120,121,122])
 jm:Rk K mg "MOST_LETTERS" (.int 8)
 jY:Rk K mg "MOST_MARKS" (.int 4)
 jX:Rk K mg "MOST_PAIRS" (.int 6)
 jW:Rk K mg "MOST_RULES" (.int 4)
 jE:Rk K mg "MOST_SOUNDS" (.int 4)
 il:Rk K mg "SIDES" (.tup [(.str [108,101,102,116]),(.str [114,105,103,104,116])])
 ou:Rk K mg "WAYS" (.tup [(.str [111,110,99,101]),(.str [97,108,111,110,103])])
 qy:Tbl w.params K mg "PARTS" ql
 tO:Tbl w.params K mg "SHOWN" wI
 mG:Rk K mg "quarrel_shown" (Yg "quarrel_shown")
 WQ:bW K mg "is_name" yF yc
 RX:bW K mg "is_sound" vL yc
 ac7:bW K mg "rises" Ld ["things"]
 WN:bW K mg "is_pair" yE yc
 Oa:bW K mg "are_marks" sV yc
 wK:bW K mg "is_marked_sound" lD yc
 Ny:bW K mg "sounds_of" rZ ["stock"]
 RV:bW K mg "is_stock" vJ yc
 WD:bW K mg "is_word" yx Ke
 Aw:bW K mg "changes_sound" nG UG
 Gv:bW K mg "puts_one_in" pN UG
 Gz:bW K mg "are_changes" pR UG
 N7:bW K mg "are_signs" sS UG
 WL:bW K mg "is_rule" yC Ke
 RZ:bW K mg "is_order" vM Ke
 agD:bW K mg "fits" S6 ["signs","sign"]
 ZP:bW K mg "turned" Cw ["rule"]
 Wx:bW K mg "puts_in" yt ["rule"]
 Gu:bW K mg "with_put_in" pM Zq3
 BP:bW K mg "with_changes" oM Zq3
 N6:bW K mg "from_left" sO Zq3
 WT:bW K mg "changed" yH aft
 agB:bW K mg "walk" SQ Zq6
 agC:bW K mg "made" S5 Zq6
 RT:bW K mg "is_whole" vI yc
 wJ:bW K mg "is_number_below" lC Zq5
 ZQ:bW K mg "is_row" Cy Zq5
 WK:bW K mg "is_step" yz Zq7
 RW:bW K mg "is_state" vK Zq7
 Kv:bW K mg "is_machine" qN Ke
 BR:bW K mg "is_told_pair" oO Ke
 WR:bW K mg "is_book" yG Ke
 WM:bW K mg "is_part" yD afs
 N8:bW K mg "are_parts" sU afr
 Wy:bW K mg "layings" yu ["rules"]
 Ar:bW K mg "quarrel_shown" nA aka
 ac8:bW K mg "holds" Le ["claim","paper"]
 N5:bW K mg "_law_mixed" sJ ["_law_cell"]
 RK:bW K mg "_law_pack" vB ["_law_script","_law_k"]
 RG:bW K mg "_law_take" vq aj9
 Nz:bW K mg "_law_stock" sr ["_law_pack_here"]
 Ks:bW K mg "_law_sounds" qL afq
 NB:bW K mg "_law_signs" su Zq4
 Gw:bW K mg "_law_changes" pO Zq4
 RJ:bW K mg "_law_rule" vA Zq4
 NZ:bW K mg "_law_order" sI Zq8
 RB:bW K mg "_law_word" vm Zq8
 RP:bW K mg "_law_fits" vG afp
 Ku:bW K mg "_law_put_in" qM YM
 Gx:bW K mg "_law_changed" pP YM
 Kr:bW K mg "_law_turned" qK ["_law_rule_here"]
 Gy:bW K mg "_law_by_side" pQ afo
 RC:bW K mg "_law_walk" vo Zq9
 RM:bW K mg "_law_made" vC Zq9
 NT:bW K mg "_law_other" sH aj8
 uZ:bW K mg "_law_bent" oN UJ
 RD:bW K mg "_law_told" vp aj7
 Av:bW K mg "_law_orderings" nD ["_law_many"]
 RN:bW K mg "_law_laid" vD afn
 Wz:bW K mg "_law_due" yw aj6
 NQ:bW K mg "_law_paper" sG aj5
 RQ:bW K mg "_law_book" vH aj4
 NP:bW K mg "_law_right" sE aj3
section
variable{P:Program}{w:World}{K:Fg}{mg:Str->Option Value}{base:Heap}(Z:Top w K mg)
theorem Sy:aZ yc yc (aJ yF):=dJ
include Z in
theorem HW:Own P w K mg base "is_name" 1 yc (jV K 1 zj):=by
 obtain⟨akl,akm,oY⟩:=Z.oY;obtain⟨Zu,ZD,jm⟩:=Z.jm;exact bG Z.WQ Sy (λf cdv A outer s H E hr G=>(dw.u (aq (bD (cB<|bQ<|dW rfl Z.bH rfl Z.Dg (by decide +kernel) Z.ph G.K (aU 0)) (aA<|aD dG) bw)
   (aA<|aD<|dz (Nq M3 M3 aC (cQ G Z.cL<|aK<|bF 0)<|ik (.int 8) rfl jm.1 jm.2.1 (λF=>jm.2.2 F))<|eE<|lA G Z.lH<|aK<|aH<|bV<|iR ["thing","sign"] 1 dZ G (fB G<|aU 0) (λX1 h1=>by have G:=G.at h1;obtain⟨_,_,_,_,_,rfl⟩:=h1;exact(aQ 1)) (λX1 h1=>by have G:=G.at h1;obtain⟨_,_,_,_,_,rfl⟩:=h1;exact cM) (λX1 h1=>by have G:=G.at h1;obtain⟨_,_,_,_,_,rfl⟩:=h1;exact(iJ 1 (Hi G)<|aH<|ik (.str [97,98,99,100,101,102,103,104,105,106,107,108,109,110,111,112,113,114,115,116,117,118,119,120,121,122]) rfl oY.1 oY.2.1 (λF=>oY.2.2 F)))))))
theorem O4:aZ yc yc (aJ vL):=dJ
include Z in
theorem Tv:Own P w K mg base "is_sound" 2 yc (jV K 1 Ex):=by exact bG Z.RX O4<|λf cdv A outer s H E hr G=>(dw.u<|aA<|aD<|dz (bj (HW Z) G hr (cO 0 ak)<|aP len0)<|eE<|qH (ir G) (cQ G Z.cL<|aK<|bF 0)<|aH aC)
theorem Z9:aZ ["things"] ["things"] (aJ Ld):=dJ
include Z in
theorem Bl:Own P w K mg base "rises" 1 ["things"] (jV K 1 oA):=by exact bG Z.ac7 Z9<|λf cdv A outer s H E hr G=>(dw.u<|aA<|aD<|lA G Z.lH<|aK<|aH<|bV<|iR ["things","at"] 1 dZ G (jA Z.fY (aB (gD z8 (cQ G Z.cL<|aK<|bF 0)<|aH aC) ak)<|aP len0) (λX1 h1=>by have G:=G.at h1;obtain⟨_,_,_,_,_,rfl⟩:=h1;exact(aQ 1)) (λX1 h1=>by have G:=G.at h1;obtain⟨_,_,_,_,_,rfl⟩:=h1;exact cM) (λX1 h1=>by have G:=G.at h1;obtain⟨_,_,_,_,_,rfl⟩:=h1;exact(qH afi (bN 0 G<|bF 1)<|aH<|bN 0 G<|aH<|cU 1 (f9 G)<|aH aC)))
theorem Sx:aZ yc yc (aJ yE):=dJ
include Z in
theorem kW:Own P w K mg base "is_pair" 1 yc (jV K 1 eZ):=by exact bG Z.WN Sx<|λf cdv A outer s H E hr G=>(dw.u<|aA<|aD<|dz (dW rfl Z.bH rfl Z.cG (by decide +kernel) Z.dO G.K (aU 0))<|eE<|qH (ir G) (cQ G Z.cL<|aK<|bF 0)<|aH aC)
theorem Lb:aZ yc yc (aJ sV):=dJ
include Z in
theorem PK:Own P w K mg base "are_marks" 2 yc (jV K 1 zX):=by
 obtain⟨ac0,ac4,jY⟩:=Z.jY;exact bG (k:=1) Z.Oa Lb (λf cdv A outer s H E hr G=>(dw.u (aq (bD (gn<|fP (cB<|bQ<|dW (T:="tuple") rfl Z.bH rfl Z.cG (by decide +kernel) Z.dO G.K (aU 0))<|gF<|iM am1 (cQ G Z.cL<|aK<|bF 0)<|aH<|ik (.int 4) rfl jY.1 jY.2.1 (λF=>jY.2.2 F)) (aA<|aD dG) bw)
   (aA (aD (dz (lA G Z.lH (aK (aH (bV (iR ["thing","mark"] 1 dZ G (fB G (aU 0)) (λX1 h1=>by have G:=G.at h1;obtain⟨_,_,_,_,_,rfl⟩:=h1;exact(aQ 1)) (λX1 h1=>by have G:=G.at h1;obtain⟨_,_,_,_,_,rfl⟩:=h1;exact cM) (λX1 h1=>by have G:=G.at h1;obtain⟨_,_,_,_,_,rfl⟩:=h1;exact(bj (HW Z) G hr (cO 1 ak) (aP len0)))))))) (eE (bj (Bl Z) G hr (cO 0 ak) (aP len0)))))))))
theorem vh:aZ yc yc (aJ lD):=dJ
include Z in
theorem wX:Own P w K mg base "is_marked_sound" 3 yc (jV K 1 gk):=by exact bG Z.wK vh<|λf cdv A outer s H E hr G=>(dw.u<|aA<|aD<|dz (bj (kW Z) G hr (cO 0 ak)<|aP len0)<|dz (bj (Tv Z) G hr (aB (bN 0 G<|aH aC) ak)<|aP len0)<|eE<|bj (PK Z) G hr (aB (bN 0 G<|aH aC) ak)<|aP len0)
theorem KY:aZ ["stock"] ["stock"] (aJ rZ):=dJ
include Z in
theorem sZ:Own P w K mg base "sounds_of" 1 ["stock"] (jV K 1 d9):=by exact bG Z.Ny KY<|λf cdv A outer s H E hr G=>(dw.u<|aA<|aD<|gC G Z.cG<|aK<|aH<|bV<|iR ["stock","sound","marks"] 1 dZ G (fB G<|aU 0) (λX1 h1=>by have G:=G.at h1;obtain⟨_,_,_,_,_,rfl⟩:=h1;exact(iz G<|aW (aQ 1)<|aW (aQ 2) dh)) (λX1 h1=>by have G:=G.at h1;obtain⟨_,_,_,_,_,rfl⟩:=h1;exact cM) (λX1 h1=>by have G:=G.at h1;obtain⟨_,_,_,_,_,rfl⟩:=h1;exact(aU 1)))
theorem O2:aZ yc yc (aJ vJ):=dJ
include Z in
theorem Tt:Own P w K mg base "is_stock" 4 yc (jV K 1 kE):=by
 obtain⟨acH,acI,jE⟩:=Z.jE;exact bG Z.RV O2 (λf cdv A outer s H E hr G=>(dw.u (aq (bD (gn<|fP (cB<|bQ<|dW rfl Z.bH rfl Z.cG (by decide +kernel) Z.dO G.K (aU 0))<|gF<|cB<|BV M3 M3 aC (cQ G Z.cL<|aK<|bF 0)<|ik (.int 4) rfl jE.1 jE.2.1 (λF=>jE.2.2 F)) (aA<|aD dG) bw)
   (aA<|aD<|dz (lA G Z.lH<|aK<|aH<|bV<|iR ["thing","row"] 1 dZ G (fB G<|aU 0) (λX1 h1=>by have G:=G.at h1;obtain⟨_,_,_,_,_,rfl⟩:=h1;exact(aQ 1)) (λX1 h1=>by have G:=G.at h1;obtain⟨_,_,_,_,_,rfl⟩:=h1;exact cM) (λX1 h1=>by have G:=G.at h1;obtain⟨_,_,_,_,_,rfl⟩:=h1;exact(bj (wX Z) G hr (cO 1 ak)<|aP len0)))<|eE<|bj (Bl Z) G hr (aB (bj (sZ Z) G hr (cO 0 ak)<|aP len0) ak)<|aP len0))))
theorem Ss:aZ ["stock","thing","sounds"] Ke (aJ yx):=dJ
include Z in
theorem oF:Own P w K mg base "is_word" 2 Ke (jV K 2 gZ):=by
 exact bG Z.WD Ss (λf cdv A outer s H E hr G=>(dw.u (aq (bD (cB<|bQ<|dW rfl Z.bH rfl Z.Dg (by decide +kernel) Z.ph G.K (aU 1)) (aA<|aD dG) bw)
   (aq (bK 2<|bj (sZ Z) G hr (cO 0 ak)<|aP len0)
   (aA<|aD<|lA G Z.lH<|aK<|aH<|bV<|iR ["stock","thing","sounds","sign"] 3 dZ G (fB G<|aU 1) (λX1 h1=>by have G:=G.at h1;obtain⟨_,_,_,_,_,rfl⟩:=h1;exact(aQ 3)) (λX1 h1=>by have G:=G.at h1;obtain⟨_,_,_,_,_,rfl⟩:=h1;exact cM) (λX1 h1=>by have G:=G.at h1;obtain⟨_,_,_,_,_,rfl⟩:=h1;exact(iJ 3 (Hi G)<|bF 2)))))))
theorem yr:aZ ["sounds","thing","old","new"] UG (aJ nG):=dJ
include Z in
theorem Bb:Own P w K mg base "changes_sound" 2 UG (jV K 2 ie):=by
 exact bG (k:=1) Z.Aw yr (λf cdv A outer s H E hr G=>(dw.u (aq (bD (cB<|bQ<|bj (kW Z) G hr (cO 1 ak)<|aP len0) (aA<|aD dG) bw)
   (aq (gG (aU 1)<|iz G<|aW (aQ 2)<|aW (aQ 3) dh)
   (aA<|aD (dz (iJ 2 (Hi G) (bF 0)) (dz (Lj (iJ 3 (Hi G) (bF 0)) (eE (iJ 3 (ir G) (aH (bI []))))) (eE (iJ 2 (Q7 G) (bF 3))))))))))
theorem Cj:aZ UG UG (aJ pN):=dJ
include Z in
theorem GX:Own P w K mg base "puts_one_in" 2 UG (jV K 2 iB):=by exact bG Z.Gv Cj<|λf cdv A outer s H E hr G=>(dw.u<|aA<|aD<|dz (bj (kW Z) G hr (cO 1 ak)<|aP len0)<|dz (qH (ir G) (bN 1 G<|aH aC)<|aH<|bI [])<|eE<|qH (Hi G) (bN 1 G<|aH aC)<|bF 0)
theorem Cv:aZ UG UG (aJ pR):=dJ
include Z in
theorem G6:Own P w K mg base "are_changes" 3 UG (jV K 2 eN):=by
 exact bG (k:=2) Z.Gz Cv (λf cdv A outer s H E hr G=>(dw.u (aq (bD (gn<|fP (cB<|bQ<|dW (T:="tuple") rfl Z.bH rfl Z.cG (by decide +kernel) Z.dO G.K (aU 1))<|gF (iM (ir G) (cQ G Z.cL (aK (bF 1))) (aH aC))) (aA (aD dG)) bw)
   (aq (bD (gn (oR (iM (ir G) (cQ G Z.cL (aK (bF 1))) (aH aC)) (qp (bQ (bj (GX Z) G hr (cO 0 (aB (bN 1 G (aH aC)) ak)) (aP (aP len0))))))) (aA (aD dG)) bw)
   (aA (aD (dz (lA G Z.lH (aK (aH (bV (iR ["sounds","thing","change"] 2 dZ G (fB G (aU 1)) (λX1 h1=>by have G:=G.at h1;obtain⟨_,_,_,_,_,rfl⟩:=h1;exact(aQ 2)) (λX1 h1=>by have G:=G.at h1;obtain⟨_,_,_,_,_,rfl⟩:=h1;exact cM) (λX1 h1=>by have G:=G.at h1;obtain⟨_,_,_,_,_,rfl⟩:=h1;exact(bj (Bb Z) G hr (cO 0 (cO 2 ak)) (aP (aP len0))))))))) (eE (bj (Bl Z) G hr (aB (bV (iR ["sounds","thing","old","new"] 2 dZ G (fB G (aU 1)) (λX1 h1=>by have G:=G.at h1;obtain⟨_,_,_,_,_,rfl⟩:=h1;exact(iz G (aW (aQ 2) (aW (aQ 3) dh)))) (λX1 h1=>by have G:=G.at h1;obtain⟨_,_,_,_,_,rfl⟩:=h1;exact cM) (λX1 h1=>by have G:=G.at h1;obtain⟨_,_,_,_,_,rfl⟩:=h1;exact(aU 2)))) ak) (aP len0))))))))))
theorem K9:aZ UG UG (aJ sS):=dJ
include Z in
theorem zP:Own P w K mg base "are_signs" 2 UG (jV K 2 m9):=by
 obtain⟨Zx,ZF,fQ⟩:=Z.fQ;exact bG (k:=1) Z.N7 K9 (λf cdv A outer s H E hr G=>(dw.u (aq (bD (dg 1 ajO (aH lF)) (aA (aD dG)) bw)
   (aq (bD (gn (fP (cB (bQ (dW (T:="tuple") rfl Z.bH rfl Z.cG (by decide +kernel) Z.dO G.K (aU 1)))) (gF (iM (ir G) (cQ G Z.cL (aK (bF 1))) (aH aC))))) (aA (aD dG)) bw)
   (aA (aD (dz (lA G Z.lH (aK (aH (bV (iR ["sounds","thing","sign"] 2 dZ G (fB G (aU 1)) (λX1 h1=>by have G:=G.at h1;obtain⟨_,_,_,_,_,rfl⟩:=h1;exact(aQ 2)) (λX1 h1=>by have G:=G.at h1;obtain⟨_,_,_,_,_,rfl⟩:=h1;exact cM) (λX1 h1=>by have G:=G.at h1;obtain⟨_,_,_,_,_,rfl⟩:=h1;exact(Lj (iJ 2 (ir G) (aH (ik (.str [35]) rfl fQ.1 fQ.2.1 (λF=>fQ.2.2 F)))) (eE (iJ 2 (Hi G) (bF 0)))))))))) (eE (bj (Bl Z) G hr (cO 1 ak) (aP len0))))))))))
theorem Sv:aZ ["stock","thing","way","changes","left","right","sounds"] Ke (aJ yC):=dJ
include Z in
theorem HS:Own P w K mg base "is_rule" 4 Ke (jV K 2 mK):=by
 obtain⟨anT,anV,ou⟩:=Z.ou;exact bG (k:=3) Z.WL Sv (λf cdv A outer s H E hr G=>(dw.u (aq (bD (gn (fP (cB (bQ (dW (T:="tuple") rfl Z.bH rfl Z.cG (by decide +kernel) Z.dO G.K (aU 1)))) (gF (iM (Q7 G) (cQ G Z.cL (aK (bF 1))) (aH aC))))) (aA (aD dG)) bw)
   (aq (gG (aU 1) (iz G (aW (aQ 2) (aW (aQ 3) (aW (aQ 4) (aW (aQ 5) dh))))))
   (aq (bK 6 (bj (sZ Z) G hr (cO 0 ak) (aP len0)))
   (aA (aD (dz (iJ 2 (Hi G) (aH (ik (.tup [(.str [111,110,99,101]),(.str [97,108,111,110,103])]) rfl ou.1 ou.2.1 (λF=>ou.2.2 F)))) (dz (bj (G6 Z) G hr (cO 6 (cO 3 ak)) (aP (aP len0))) (dz (bj (zP Z) G hr (cO 6 (cO 4 ak)) (aP (aP len0))) (eE (bj (zP Z) G hr (cO 6 (cO 5 ak)) (aP (aP len0))))))))))))))
theorem O5:aZ ["stock","thing","side","rules"] Ke (aJ vM):=dJ
include Z in
theorem Tw:Own P w K mg base "is_order" 5 Ke (jV K 2 mL):=by
 obtain⟨acY,ac2,jW⟩:=Z.jW;obtain⟨acX,ac1,il⟩:=Z.il;exact bG (k:=4) Z.RZ O5 (λf cdv A outer s H E hr G=>(dw.u (aq (bD (cB (bQ (bj (kW Z) G hr (cO 1 ak) (aP len0)))) (aA (aD dG)) bw)
   (aq (gG (aU 1) (iz G (aW (aQ 2) (aW (aQ 3) dh))))
   (aq (bD (gn (fP (dg 2 (MT G) (aH (ik (.tup [(.str [108,101,102,116]),(.str [114,105,103,104,116])]) rfl il.1 il.2.1 (λF=>il.2.2 F)))) (fP (cB (bQ (dW (T:="tuple") rfl Z.bH rfl Z.cG (by decide +kernel) Z.dO G.K (aU 3)))) (gF (iM am1 (cQ G Z.cL (aK (bF 3))) (aH (ik (.int 4) rfl jW.1 jW.2.1 (λF=>jW.2.2 F)))))))) (aA (aD dG)) bw)
   (aA (aD (lA G Z.lH (aK (aH (bV (iR ["stock","thing","side","rules","rule"] 4 dZ G (fB G (aU 3)) (λX1 h1=>by have G:=G.at h1;obtain⟨_,_,_,_,_,rfl⟩:=h1;exact(aQ 4)) (λX1 h1=>by have G:=G.at h1;obtain⟨_,_,_,_,_,rfl⟩:=h1;exact cM) (λX1 h1=>by have G:=G.at h1;obtain⟨_,_,_,_,_,rfl⟩:=h1;exact(bj (HS Z) G hr (cO 0 (cO 4 ak)) (aP (aP len0))))))))))))))))
theorem adn:aZ ["signs","sign"] ["signs","sign"] (aJ S6):=dJ
include Z in
theorem Ly:Own P w K mg base "fits" 1 ["signs","sign"] (jV K 2 jh):=by exact bG Z.agD adn<|λf cdv A outer s H E hr G=>(dw.u<|aA<|aD<|Lj (iJ 0 ajO<|aH lF)<|eE<|iJ 1 (Hi G)<|bF 0)
theorem W7:aZ ["rule","way","changes","left","right"] ["rule"] (aJ Cw):=dJ
include Z in
theorem aa1:Own P w K mg base "turned" 1 ["rule"] (jV K 1 tU):=by
 exact bG (k:=0) Z.ZP W7 (λf cdv A outer s H E hr G=>(dw.u (aq (gG (aU 0) (iz G (aW (aQ 1) (aW (aQ 2) (aW (aQ 3) (aW (aQ 4) dh))))))
   (aA (aD (cN (cO 1 (cO 2 (cO 4 (cO 3 ak))))))))))
theorem Sd:aZ ["rule"] ["rule"] (aJ yt):=dJ
include Z in
theorem Xx:Own P w K mg base "puts_in" 1 ["rule"] (jV K 1 oG):=by exact bG Z.Wx Sd<|λf cdv A outer s H E hr G=>(dw.u<|aA<|aD<|qH (ir G) (jk G (jk G (bN 0 G<|aH aC)<|aH aC)<|aH aC)<|aH<|bI [])
theorem Ci:aZ ["rule","word","way","changes","left","right","new","made_of","ahead","sign"] Zq3 (aJ pM):=dJ
include Z in
theorem GR:Own P w K mg base "with_put_in" 2 Zq3 (jV K 2 jr):=by
 obtain⟨Zx,ZF,fQ⟩:=Z.fQ;exact bG (k:=1) Z.Gu Ci (λf cdv A outer s H E hr G=>(dw.u (aq (gG (aU 0) (iz G (aW (aQ 2) (aW (aQ 3) (aW (aQ 4) (aW (aQ 5) dh))))))
   (aq (bK 6 (jk G (bN 3 G (aH aC)) (aH aC)))
   (aq (nC 7 (eU ak))
   (aq (bK 8 (ik (.str [35]) rfl fQ.1 fQ.2.1 (λF=>fQ.2.2 F)))
   (aq (ju G (fB G (cU 1 (f9 G) (aH (ik (.str [35]) rfl fQ.1 fQ.2.1 (λF=>fQ.2.2 F))))) (aQ 9) (aq (bD (gn (oR (bQ (bj (Ly Z) G hr (cO 4 (cO 8 ak)) (aP (aP len0)))) (qp (bQ (bj (Ly Z) G hr (cO 5 (cO 9 ak)) (aP (aP len0))))))) (aA (pU 7 G (aU 6))) bw)
   (aq (pU 7 G (aU 9))
   (aA (bK 8 (aU 9))))))
   (aA (aD (Bg G (bI []) (aH (Zk G (aU 7) kO (jo (uX aC))))))))))))))
theorem Ay:aZ ["rule","word","way","changes","left","right","becomes","signs","made_of","ahead","at","sound","new"] Zq3 (aJ oM):=dJ
include Z in
theorem CW:Own P w K mg base "with_changes" 2 Zq3 (jV K 2 iU):=by
 obtain⟨Zx,ZF,fQ⟩:=Z.fQ;exact bG (k:=1) Z.BP Ay (λf cdv A outer s H E hr G=>(dw.u (aq (gG (aU 0) (iz G (aW (aQ 2) (aW (aQ 3) (aW (aQ 4) (aW (aQ 5) dh))))))
   (aq (bK 6 (U5 G Z.Vn (aK (bF 3))))
   (aq (bK 7 (cU 1 (f9 G) (aH (ik (.str [35]) rfl fQ.1 fQ.2.1 (λF=>fQ.2.2 F)))))
   (aq (nC 8 (eU ak))
   (aq (bK 9 (ik (.str [35]) rfl fQ.1 fQ.2.1 (λF=>fQ.2.2 F)))
   (aq (ju G (aeB Z.LR (cO 1 ak)) (iz G (aW (aQ 10) (aW (aQ 11) dh))) (aq (bK 12 (aU 11))
   (aq (bD (gn (oR (dg 11 (Wd G) (bF 6)) (oR (bQ (bj (Ly Z) G hr (cO 4 (cO 9 ak)) (aP (aP len0)))) (qp (bQ (bj (Ly Z) G hr (cO 5 (aB (bN 7 G (aH (cU 10 (f9 G) (aH aC)))) ak)) (aP (aP len0)))))))) (aA (bK 12 (Bw 6 G (bF 11)))) bw)
   (aq (pU 8 G (aU 12))
   (aA (bD (dg 2 (ir G) (aH (bI [111,110,99,101]))) (aA (bK 9 (aU 11))) (aA (bD (dg 12 (Q7 G) (aH (bI []))) (aA (bK 9 (aU 12))) bw))))))))
   (aA (aD (Bg G (bI []) (bF 8))))))))))))
theorem K8:aZ Zq3 Zq3 (aJ sO):=dJ
include Z in
theorem zN:Own P w K mg base "from_left" 3 Zq3 (jV K 2 jH):=by
 exact bG (k:=2) Z.N6 K8 (λf cdv A outer s H E hr G=>(dw.u (aq (bD (bQ (bj (Xx Z) G hr (cO 0 ak) (aP len0))) (aA (aD (bj (GR Z) G hr (cO 0 (cO 1 ak)) (aP (aP len0))))) bw)
   (aA (aD (bj (CW Z) G hr (cO 0 (cO 1 ak)) (aP (aP len0))))))))
theorem SN:aZ aft aft (aJ yH):=dJ
include Z in
theorem XF:Own P w K mg base "changed" 4 aft (jV K 3 lr):=by
 exact bG (k:=3) Z.WT SN (λf cdv A outer s H E hr G=>(dw.u (aq (bD (dg 0 (ir G) (aH (bI [114,105,103,104,116]))) (aA (aD (Kg (bj (zN Z) G hr (aB (bj (aa1 Z) G hr (cO 1 ak) (aP len0)) (aB (Kg (aU 2)) ak)) (aP (aP len0)))))) bw)
   (aA (aD (bj (zN Z) G hr (cO 1 (cO 2 ak)) (aP (aP len0))))))))
theorem adl:aZ ["order","word","side","rules","words","rule"] Zq6 (aJ SQ):=dJ
include Z in
theorem ahT:Own P w K mg base "walk" 5 Zq6 (jV K 2 Eu):=by
 exact bG (k:=4) Z.agB adl (λf cdv A outer s H E hr G=>(dw.u (aq (gG (aU 0) (iz G (aW (aQ 2) (aW (aQ 3) dh))))
   (aq (nC 4 (eU (cO 1 ak)))
   (aq (ju G (fB G (aU 3)) (aQ 5) (aA (pU 4 G (bj (XF Z) G hr (cO 2 (cO 5 (aB (bN 4 G (aH (uX aC))) ak))) (aP (aP (aP len0)))))))
   (aA (aD (gC G Z.cG (aK (bF 4))))))))))
theorem adm:aZ Zq6 Zq6 (aJ S5):=dJ
include Z in
theorem ahU:Own P w K mg base "made" 6 Zq6 (jV K 2 nQ):=by exact bG Z.agC adm<|λf cdv A outer s H E hr G=>(dw.u<|aA<|aD<|jk G (bj (ahT Z) G hr (cO 0<|cO 1 ak)<|aP<|aP len0)<|aH<|uX aC)
theorem O1:aZ yc yc (aJ vI):=dJ
include Z in
theorem De:Own P w K mg base "is_whole" 1 yc (jV K 1 rn):=by exact bG Z.RT O1<|λf cdv A outer s H E hr G=>(dw.u<|aA<|aD<|dz (dW rfl Z.bH rfl Z.LQ (by decide +kernel) Z.qW G.K (aU 0))<|eE<|wU<|dW rfl Z.bH rfl Z.Bo (by decide +kernel) Z.m6 G.K (aU 0))
theorem vg:aZ Zq5 Zq5 (aJ lC):=dJ
include Z in
theorem pg:Own P w K mg base "is_number_below" 2 Zq5 (jV K 2 gj):=by exact bG Z.wJ vg<|λf cdv A outer s H E hr G=>(dw.u<|aA<|aD<|dz (bj (De Z) G hr (cO 1 ak)<|aP len0)<|eE<|Nq M3 afi aC (aU 1)<|aU 0)
theorem W8:aZ Zq5 Zq5 (aJ Cy):=dJ
include Z in
theorem PB:Own P w K mg base "is_row" 1 Zq5 (jV K 2 tV):=by exact bG Z.ZQ W8<|λf cdv A outer s H E hr G=>(dw.u<|aA<|aD<|dz (dW rfl Z.bH rfl Z.cG (by decide +kernel) Z.dO G.K (aU 1))<|eE<|qH (ir G) (cQ G Z.cL<|aK<|bF 1)<|bF 0)
theorem Su:aZ Zq7 Zq7 (aJ yz):=dJ
include Z in
theorem Xz:Own P w K mg base "is_step" 3 Zq7 (jV K 3 JL):=by exact bG Z.WK Su<|λf cdv A outer s H E hr G=>(dw.u<|aA<|aD<|dz (bj (kW Z) G hr (cO 2 ak)<|aP len0)<|dz (bj (oF Z) G hr (cO 0<|aB (bN 2 G<|aH aC) ak)<|aP<|aP len0)<|eE<|bj (pg Z) G hr (cO 1<|aB (bN 2 G<|aH aC) ak)<|aP<|aP len0)
theorem O3:aZ ["stock","many","thing","end","steps"] Zq7 (aJ vK):=dJ
include Z in
theorem Tu:Own P w K mg base "is_state" 4 Zq7 (jV K 3 Ew):=by
 exact bG (k:=3) Z.RW O3 (λf cdv A outer s H E hr G=>(dw.u (aq (bD (cB (bQ (bj (kW Z) G hr (cO 2 ak) (aP len0)))) (aA (aD dG)) bw)
   (aq (gG (aU 2) (iz G (aW (aQ 3) (aW (aQ 4) dh))))
   (aA (aD (dz (bj (oF Z) G hr (cO 0 (cO 3 ak)) (aP (aP len0))) (dz (bj (PB Z) G hr (aB (cQ G Z.cL (aK (bF 0))) (cO 4 ak)) (aP (aP len0))) (eE (lA G Z.lH (aK (aH (bV (iR ["stock","many","thing","end","steps","step"] 5 dZ G (fB G (aU 4)) (λX1 h1=>by have G:=G.at h1;obtain⟨_,_,_,_,_,rfl⟩:=h1;exact(aQ 5)) (λX1 h1=>by have G:=G.at h1;obtain⟨_,_,_,_,_,rfl⟩:=h1;exact cM) (λX1 h1=>by have G:=G.at h1;obtain⟨_,_,_,_,_,rfl⟩:=h1;exact(bj (Xz Z) G hr (cO 0 (cO 1 (cO 5 ak))) (aP (aP (aP len0)))))))))))))))))))
theorem GQ:aZ ["stock","thing","first","states"] Ke (aJ qN):=dJ
include Z in
theorem Lx:Own P w K mg base "is_machine" 5 Ke (jV K 2 xF):=by
 exact bG (k:=4) Z.Kv GQ (λf cdv A outer s H E hr G=>(dw.u (aq (bD (cB (bQ (bj (kW Z) G hr (cO 1 ak) (aP len0)))) (aA (aD dG)) bw)
   (aq (gG (aU 1) (iz G (aW (aQ 2) (aW (aQ 3) dh))))
   (aq (bD (gn (fP (cB (bQ (bj (oF Z) G hr (cO 0 (cO 2 ak)) (aP (aP len0))))) (fP (cB (bQ (dW (T:="tuple") rfl Z.bH rfl Z.cG (by decide +kernel) Z.dO G.K (aU 3)))) (gF (iM (ir G) (cQ G Z.cL (aK (bF 3))) (aH aC)))))) (aA (aD dG)) bw)
   (aA (aD (lA G Z.lH (aK (aH (bV (iR ["stock","thing","first","states","state"] 4 dZ G (fB G (aU 3)) (λX1 h1=>by have G:=G.at h1;obtain⟨_,_,_,_,_,rfl⟩:=h1;exact(aQ 4)) (λX1 h1=>by have G:=G.at h1;obtain⟨_,_,_,_,_,rfl⟩:=h1;exact cM) (λX1 h1=>by have G:=G.at h1;obtain⟨_,_,_,_,_,rfl⟩:=h1;exact(bj (Tu Z) G hr (cO 0 (aB (cQ G Z.cL (aK (bF 3))) (cO 4 ak))) (aP (aP (aP len0)))))))))))))))))
theorem Az:aZ Ke Ke (aJ oO):=dJ
include Z in
theorem Df:Own P w K mg base "is_told_pair" 3 Ke (jV K 2 eV):=by exact bG Z.BR Az<|λf cdv A outer s H E hr G=>(dw.u<|aA<|aD<|dz (bj (kW Z) G hr (cO 1 ak)<|aP len0)<|dz (bj (oF Z) G hr (cO 0<|aB (bN 1 G<|aH aC) ak)<|aP<|aP len0)<|eE<|bj (oF Z) G hr (cO 0<|aB (bN 1 G<|aH aC) ak)<|aP<|aP len0)
theorem SM:aZ Ke Ke (aJ yG):=dJ
include Z in
theorem XD:Own P w K mg base "is_book" 4 Ke (jV K 2 dR):=by
 obtain⟨acZ,ac3,jX⟩:=Z.jX;exact bG (k:=3) Z.WR SM (λf cdv A outer s H E hr G=>(dw.u (aq (bD (gn (fP (cB (bQ (dW (T:="tuple") rfl Z.bH rfl Z.cG (by decide +kernel) Z.dO G.K (aU 1)))) (gF (cB (BV M3 M3 aC (cQ G Z.cL (aK (bF 1))) (ik (.int 6) rfl jX.1 jX.2.1 (λF=>jX.2.2 F))))))) (aA (aD dG)) bw)
   (aA (aD (lA G Z.lH (aK (aH (bV (iR ["stock","thing","pair"] 2 dZ G (fB G (aU 1)) (λX1 h1=>by have G:=G.at h1;obtain⟨_,_,_,_,_,rfl⟩:=h1;exact(aQ 2)) (λX1 h1=>by have G:=G.at h1;obtain⟨_,_,_,_,_,rfl⟩:=h1;exact cM) (λX1 h1=>by have G:=G.at h1;obtain⟨_,_,_,_,_,rfl⟩:=h1;exact(bj (Df Z) G hr (cO 0 (cO 2 ak)) (aP (aP len0))))))))))))))
theorem Sw:aZ afs afs (aJ yD):=dJ
include Z in
theorem XC:Own P w K mg base "is_part" 6 afs (jV K 3 jT):=by
 obtain⟨acX,ac1,il⟩:=Z.il;exact bG (k:=5) Z.WM Sw (λf cdv A outer s H E hr G=>(dw.u (aq (bD (dg 1 (ir G) (aH (bI [111,114,100,101,114]))) (aA (aD (bj (Tw Z) G hr (cO 0 (cO 2 ak)) (aP (aP len0))))) bw)
   (aq (bD (dg 1 (ir G) (aH (bI [114,117,108,101]))) (aA (aD (bj (HS Z) G hr (cO 0 (cO 2 ak)) (aP (aP len0))))) bw)
   (aq (bD (dg 1 (ir G) (aH (bI [119,111,114,100]))) (aA (aD (bj (oF Z) G hr (cO 0 (cO 2 ak)) (aP (aP len0))))) bw)
   (aq (bD (dg 1 (ir G) (aH (bI [109,97,99,104,105,110,101]))) (aA (aD (bj (Lx Z) G hr (cO 0 (cO 2 ak)) (aP (aP len0))))) bw)
   (aq (bD (dg 1 (ir G) (aH (bI [98,111,111,107]))) (aA (aD (bj (XD Z) G hr (cO 0 (cO 2 ak)) (aP (aP len0))))) bw)
   (aq (bD (dg 1 (ir G) (aH (bI [115,105,100,101]))) (aA (aD (iJ 2 (Hi G) (aH (ik (.tup [(.str [108,101,102,116]),(.str [114,105,103,104,116])]) rfl il.1 il.2.1 (λF=>il.2.2 F)))))) bw)
   (aA (aD (bj (De Z) G hr (cO 2 ak) (aP len0))))))))))))
theorem La:aZ afr afr (aJ sU):=dJ
include Z in
theorem PJ:Own P w K mg base "are_parts" 7 afr (jV K 3 pG):=by
 exact bG (k:=6) Z.N8 La (λf cdv A outer s H E hr G=>(dw.u (aq (bD (iM (Q7 G) (cQ G Z.cL (aK (bF 2))) (aH (cQ G Z.cL (aK (bF 1))))) (aA (aD dG)) bw)
   (aq (bD (cB (bQ (lA G Z.lH (aK (aH (bV (iR ["stock","kinds","things","kind","thing"] 3 dZ G (abL G Z.LK (cO 1 (cO 2 ak))) (λX1 h1=>by have G:=G.at h1;obtain⟨_,_,_,_,_,rfl⟩:=h1;exact(iz G (aW (aQ 3) (aW (aQ 4) dh)))) (λX1 h1=>by have G:=G.at h1;obtain⟨_,_,_,_,_,rfl⟩:=h1;exact cM) (λX1 h1=>by have G:=G.at h1;obtain⟨_,_,_,_,_,rfl⟩:=h1;exact(bj (XC Z) G hr (cO 0 (cO 3 (cO 4 ak))) (aP (aP (aP len0)))))))))))) (aA (aD dG)) bw)
   (aA (aD (qH M3 (Zm ["stock","kinds","things","kind","thing"] 3 dZ G Z.cL (abL G Z.LK (cO 1 (cO 2 ak))) (λX1 h1=>by have G:=G.at h1;obtain⟨_,_,_,_,_,rfl⟩:=h1;exact(iz G (aW (aQ 3) (aW (aQ 4) dh)))) (λX1 h1=>by have G:=G.at h1;obtain⟨_,_,_,_,_,rfl⟩:=h1;exact(mD (dg 3 (ir G) (aH (bI [111,114,100,101,114]))))) (λX1 h1=>by have G:=G.at h1;obtain⟨_,_,_,_,_,rfl⟩:=h1;exact(bN 4 G (aH aC)))) (aH aC))))))))
theorem Sg:aZ ["rules","rows","turn"] ["rules"] (aJ yu):=dJ
include Z in
theorem Xy:Own P w K mg base "layings" 1 ["rules"] (jV K 1 ux):=by
 exact bG (k:=0) Z.Wy Sg (λf cdv A outer s H E hr G=>(dw.u (aq (bK 1 (bV (eU (aB (cN ak) ak))))
   (aq (ju G (jA Z.fY (aB (cQ G Z.cL (aK (bF 0))) ak) (aP len0)) (aQ 2) (aA (agT ["rules","rows","turn","row","number"] 3 1 dZ G (fB G (aU 1)) (λX1 h1=>by have G:=G.at h1;obtain⟨_,_,_,_,_,rfl⟩:=h1;exact(aQ 3)) (λX1 h1=>by have G:=G.at h1;obtain⟨_,_,_,_,_,rfl⟩:=h1;exact(jA Z.fY (aB (cQ G Z.cL (aK (bF 0))) ak) (aP len0))) (λX1 h1=>by have G:=G.at h1;obtain⟨_,_,_,_,_,rfl⟩:=h1;exact(aQ 4)) (λX1 h1=>by have G:=G.at h1;obtain⟨_,_,_,_,_,rfl⟩:=h1;exact(mD (dg 4 (MT G) (bF 3)))) (λX1 h1=>by have G:=G.at h1;obtain⟨_,_,_,_,_,rfl⟩:=h1;exact(cU 3 (f9 G) (aH (cN (cO 4 ak))))))))
   (aA (aD (bV (iR ["rules","rows","turn","row"] 3 dZ G (fB G (aU 1)) (λX1 h1=>by have G:=G.at h1;obtain⟨_,_,_,_,_,rfl⟩:=h1;exact(aQ 3)) (λX1 h1=>by have G:=G.at h1;obtain⟨_,_,_,_,_,rfl⟩:=h1;exact cM) (λX1 h1=>by have G:=G.at h1;obtain⟨_,_,_,_,_,rfl⟩:=h1;exact(gC G Z.cG (aK (aH (bV (iR ["rules","rows","turn","row","number"] 4 dZ G (fB G (aU 3)) (λX1 h1=>by have G:=G.at h1;obtain⟨_,_,_,_,_,rfl⟩:=h1;exact(aQ 4)) (λX1 h1=>by have G:=G.at h1;obtain⟨_,_,_,_,_,rfl⟩:=h1;exact cM) (λX1 h1=>by have G:=G.at h1;obtain⟨_,_,_,_,_,rfl⟩:=h1;exact(bN 0 G (bF 4)))))))))))))))))
theorem yp:aZ ["stock","parts","paper","order","book","side","rules","rows"] aka (aJ nA):=dJ
include Z in
theorem Ba:Own P w K mg base "quarrel_shown" 7 aka (jV K 3 dB):=by
 exact bG (k:=6) Z.Ar yp (λf cdv A outer s H E hr G=>(dw.u (aq (gG (aU 1) (iz G (aW (aQ 3) (aW (aQ 4) dh))))
   (aq (gG (aU 3) (iz G (aW (aQ 5) (aW (aQ 6) dh))))
   (aq (bK 7 (bj (Xy Z) G hr (cO 6 ak) (aP len0)))
   (aq (bD (gn (fP (cB (bQ (bj (PB Z) G hr (aB (cQ G Z.cL (aK (bF 7))) (cO 2 ak)) (aP (aP len0))))) (gF (cB (bQ (lA G Z.lH (aK (aH (bV (iR ["stock","parts","paper","order","book","side","rules","rows","number"] 8 dZ G (fB G (aU 2)) (λX1 h1=>by have G:=G.at h1;obtain⟨_,_,_,_,_,rfl⟩:=h1;exact(aQ 8)) (λX1 h1=>by have G:=G.at h1;obtain⟨_,_,_,_,_,rfl⟩:=h1;exact cM) (λX1 h1=>by have G:=G.at h1;obtain⟨_,_,_,_,_,rfl⟩:=h1;exact(bj (pg Z) G hr (aB (cQ G Z.cL (aK (bF 4))) (cO 8 ak)) (aP (aP len0)))))))))))))) (aA (aD dG)) bw)
   (aA (aD (lA G Z.lH (aK (aH (bV (iR ["stock","parts","paper","order","book","side","rules","rows","row","number"] 8 dZ G (Vz G Z.LK (cO 7 (cO 2 ak))) (λX1 h1=>by have G:=G.at h1;obtain⟨_,_,_,_,_,rfl⟩:=h1;exact(iz G (aW (aQ 8) (aW (aQ 9) dh)))) (λX1 h1=>by have G:=G.at h1;obtain⟨_,_,_,_,_,rfl⟩:=h1;exact cM) (λX1 h1=>by have G:=G.at h1;obtain⟨_,_,_,_,_,rfl⟩:=h1;exact(qH (Q7 G) (bj (ahU Z) G hr (aB (cN (cO 5 (cO 8 ak))) (aB (jk G (bN 4 G (bF 9)) (aH aC)) ak)) (aP (aP len0))) (aH (jk G (bN 4 G (bF 9)) (aH aC))))))))))))))))))
theorem aaa:aZ ["claim","paper","word","stock","parts","shown"] ["claim","paper"] (aJ Le):=dJ
include Z in
theorem aeb:Own P w K mg base "holds" 8 ["claim","paper"] (jV K 2 Bq):=by
 obtain⟨YZ,Y0,mG⟩:=Z.mG;exact bG (k:=7) Z.ac8 aaa (λf cdv A outer s H E hr G=>(dw.u (aq (bD (gn (fP (cB (bQ (dW (T:="tuple") rfl Z.bH rfl Z.cG (by decide +kernel) Z.dO G.K (aU 0)))) (gF (iM afi (cQ G Z.cL (aK (bF 0))) (aH aC))))) (aA (aD dG)) bw)
   (aq (bK 2 (bN 0 G (aH aC)))
   (aq (bK 3 (bN 0 G (aH aC)))
   (aq (bD (gn (fP (cB (bQ (dW (T:="str") rfl Z.bH rfl Z.Dg (by decide +kernel) Z.ph G.K (aU 2)))) (fP (Rz Z.qy (aU 2)) (gF (cB (bQ (bj (Tt Z) G hr (cO 3 ak) (aP len0)))))))) (aA (aD dG)) bw)
   (aq (bK 4 (Ru G (aU 0) (jo aC) kO))
   (aq (bK 5 (Np Z.tO G (aU 2)))
   (aA (aD (dz (bj (PJ Z) G hr (cO 3 (aB (Np Z.qy G (aU 2)) (cO 4 ak))) (aP (aP (aP len0)))) (eE (agt 5 (Ba Z) Z.mG G hr (by rfl) (cO 3 (cO 4 (cO 1 ak))) (aP (aP (aP len0))))))))))))))))
theorem K7:aZ ["_law_cell"] ["_law_cell"] (aJ sJ):=dJ
include Z in
theorem Pz:Own P w K mg base "_law_mixed" 1 ["_law_cell"] (jV K 1 jG):=by exact bG Z.N5 K7<|λf cdv A outer s H E hr G=>(dw.u<|aA<|aD<|gD am8 (cU 0 Wi<|aH aC)<|aH<|gD agi aC<|aH aC)
theorem Ou:aZ ["_law_script","_law_k","_law_found","_law_at"] ["_law_script","_law_k"] (aJ vB):=dJ
include Z in
theorem Dd:Own P w K mg base "_law_pack" 2 ["_law_script","_law_k"] (spN K 2 jg):=by
 exact adZ (k:=1) Z.RK Ou (λf cdv A outer s H E hr G=>(dw.u (aq (bK 2 aC)
   (aq (ju G (fB G (bV (eU (aB (cU 1 (f9 G) (aH aC)) (cO 1 ak))))) (aQ 3) (aA (bK 2 (gD (f9 G) (cU 2 Wi (aH (gD agi aC (aH aC)))) (aH (bj (Pz Z) G hr (aB (jk G (gD (f9 G) (Zk G (aU 0) (jo (aU 3)) (jo (cU 3 (f9 G) (aH aC)))) (aH (bV (eU (aB (gD (f9 G) (gD Wi aC (bF 3)) (aH aC)) ak))))) (aH aC)) ak) (aP len0)))))))
   (aA (Pa (eU (cO 2 ak))))))))
theorem Oq:aZ ["_law_pack_here","_law_size","_law_digit"] aj9 (aJ vq):=dJ
include Z in
theorem cC:Own P w K mg base "_law_take" 1 aj9 (vd K 2 bf):=by
 exact qQ (k:=0) Z.RG Oq (λf cdv A outer s H E a hr G=>(dw.u (aq (gG (Wq G Z.XH (vO (bN 0 G (aH aC)) (aK (bF 1)))) (iz G (aW (abT 0 aC) (aW (aQ 2) dh))))
   (aA (aD (aU 2))))))
theorem KZ:aZ ["_law_pack_here","_law_sounds_here","_law_known","_law_found","_law_sound","_law_number","_law_marks"] ["_law_pack_here"] (aJ sr):=dJ
include Z in
theorem Pq:Own P w K mg base "_law_stock" 2 ["_law_pack_here"] (vd K 1 pB):=by
 exact qQ (k:=1) Z.Nz KZ (λf cdv A outer s H E a hr G=>(dw.u (aq (bK 1 (jk G (bV (uv (bA (bI [97]) (bA (bI [97,98]) (bA (bI [97,98]) (bA (bI [97,98,99]) (bA (bI [97,101,112,116]) (bA (bI [109,110,122]) qt)))))))) (aH (gb 0 (cC Z) G hr (aB aC ak) (gh (aP len0))))))
   (aq (bK 2 (bV (eU (aB (bI [115,116,111,112]) (aB (bI [115,116,111,112,115]) (aB (bI [115]) (aB (bI [111,112,101,110]) (aB (bI [97,98,99,100,101,102,103,104]) ak))))))))
   (aq (nC 3 (eU ak))
   (aq (ju G (fB G (aU 1)) (aQ 4) (aq (bK 5 (gb 0 (cC Z) G hr (aB aC ak) (gh (aP len0))))
   (aq (bK 6 (Ho G Z.HX (aK (aH (bV (iR ["_law_pack_here","_law_sounds_here","_law_known","_law_found","_law_sound","_law_number","_law_marks","_law_k"] 7 dZ G (jA Z.fY (aB aC ak) (aP len0)) (λX1 h1=>by have G:=G.at h1;obtain⟨_,_,_,_,_,rfl⟩:=h1;exact(aQ 7)) (λX1 h1=>by have G:=G.at h1;obtain⟨_,_,_,_,_,rfl⟩:=h1;exact(mD (iM (ir G) (gD agk (cU 5 agh (bF 7)) (aH aC)) (aH aC)))) (λX1 h1=>by have G:=G.at h1;obtain⟨_,_,_,_,_,rfl⟩:=h1;exact(bN 2 G (bF 7)))))))))
   (aA (pU 3 G (cN (cO 4 (aB (gC G Z.cG (aK (aH (Zk G (aU 6) kO (jo aC))))) ak))))))))
   (aA (aD (gC G Z.cG (aK (bF 3)))))))))))
theorem GK:aZ afq afq (aJ qL):=dJ
include Z in
theorem Ls:Own P w K mg base "_law_sounds" 1 afq (jV K 1 je):=by exact bG Z.Ks GK<|λf cdv A outer s H E hr G=>(dw.u<|aA<|aD<|Bg G (bI [])<|aH<|bV<|iR ["_law_stock_here","_law_sound","_law_marks"] 1 dZ G (fB G<|aU 0) (λX1 h1=>by have G:=G.at h1;obtain⟨_,_,_,_,_,rfl⟩:=h1;exact(iz G<|aW (aQ 1)<|aW (aQ 2) dh)) (λX1 h1=>by have G:=G.at h1;obtain⟨_,_,_,_,_,rfl⟩:=h1;exact cM) (λX1 h1=>by have G:=G.at h1;obtain⟨_,_,_,_,_,rfl⟩:=h1;exact(aU 1)))
theorem K1:aZ ["_law_pack_here","_law_sounds_here","_law_number","_law_signs_here"] Zq4 (aJ su):=dJ
include Z in
theorem zL:Own P w K mg base "_law_signs" 2 Zq4 (vd K 2 m8):=by
 exact qQ (k:=1) Z.NB K1 (λf cdv A outer s H E a hr G=>(dw.u (aq (bD (iM (ir G) (gb 0 (cC Z) G hr (aB aC ak) (gh (aP len0))) (aH aC)) (aA (aD lF)) bw)
   (aq (bK 2 (gD (f9 G) aC (aH (gb 0 (cC Z) G hr (aB (gD z8 (gD am7 aC (aH (cQ G Z.cL (aK (bF 1))))) (aH aC)) ak) (gh (aP len0))))))
   (aq (bK 3 (gD (f9 G) (bI [35]) (bF 1)))
   (aA (aD (gC G Z.cG (aK (aH (bV (iR ["_law_pack_here","_law_sounds_here","_law_number","_law_signs_here","_law_k"] 4 dZ G (jA Z.fY (aB (cQ G Z.cL (aK (bF 3))) ak) (aP len0)) (λX1 h1=>by have G:=G.at h1;obtain⟨_,_,_,_,_,rfl⟩:=h1;exact(aQ 4)) (λX1 h1=>by have G:=G.at h1;obtain⟨_,_,_,_,_,rfl⟩:=h1;exact(mD (iM (ir G) (gD agk (cU 2 agh (bF 4)) (aH aC)) (aH aC)))) (λX1 h1=>by have G:=G.at h1;obtain⟨_,_,_,_,_,rfl⟩:=h1;exact(bN 3 G (bF 4)))))))))))))))
theorem Ck:aZ ["_law_pack_here","_law_sounds_here","_law_found","_law_turn","_law_one","_law_others"] Zq4 (aJ pO):=dJ
include Z in
theorem GZ:Own P w K mg base "_law_changes" 2 Zq4 (vd K 2 p8):=by
 exact qQ (k:=1) Z.Gw Ck (λf cdv A outer s H E a hr G=>(dw.u (aq (bD (iM (ir G) (gb 0 (cC Z) G hr (aB aC ak) (gh (aP len0))) (aH aC)) (aA (aD (cN (aB (cN (aB (bI []) (aB (bN 1 G (aH (gb 0 (cC Z) G hr (aB (cQ G Z.cL (aK (bF 1))) ak) (gh (aP len0))))) ak))) ak)))) bw)
   (aq (nC 2 HB)
   (aq (ju G (jA Z.fY (aB (gD (f9 G) aC (aH (gb 0 (cC Z) G hr (aB aC ak) (gh (aP len0))))) ak) (aP len0)) (aQ 3) (aq (bK 4 (bN 1 G (aH (gb 0 (cC Z) G hr (aB (cQ G Z.cL (aK (bF 1))) ak) (gh (aP len0))))))
   (aq (afO ["_law_pack_here","_law_sounds_here","_law_found","_law_turn","_law_one","_law_others","_law_sound"] 6 5 dZ G (fB G (gD (f9 G) (Kh G Z.wY (aK (bF 1))) (aH (bV (eU (aB (bI []) ak)))))) (λX1 h1=>by have G:=G.at h1;obtain⟨_,_,_,_,_,rfl⟩:=h1;exact(aQ 6)) (λX1 h1=>by have G:=G.at h1;obtain⟨_,_,_,_,_,rfl⟩:=h1;exact(mD (dg 6 (Q7 G) (bF 4)))) (λX1 h1=>by have G:=G.at h1;obtain⟨_,_,_,_,_,rfl⟩:=h1;exact(aU 6)))
   (aA (ado 2 G (aU 4) (bN 5 G (aH (gb 0 (cC Z) G hr (aB (cQ G Z.cL (aK (bF 5))) ak) (gh (aP len0))))))))))
   (aA (aD (gC G Z.cG (aK (aH (bV (iR ["_law_pack_here","_law_sounds_here","_law_found","_law_turn","%4","_law_others","_law_one"] 6 dZ G (fB G (Ho G Z.HX (aK (bF 2)))) (λX1 h1=>by have G:=G.at h1;obtain⟨_,_,_,_,_,rfl⟩:=h1;exact(aQ 6)) (λX1 h1=>by have G:=G.at h1;obtain⟨_,_,_,_,_,rfl⟩:=h1;exact cM) (λX1 h1=>by have G:=G.at h1;obtain⟨_,_,_,_,_,rfl⟩:=h1;exact(cN (cO 6 (aB (Bw 2 G (bF 6)) ak))))))))))))))))
theorem Ot:aZ ["_law_pack_here","_law_sounds_here","_law_how","_law_changes_here"] Zq4 (aJ vA):=dJ
include Z in
theorem Dc:Own P w K mg base "_law_rule" 3 Zq4 (vd K 2 mJ):=by
 exact qQ (k:=2) Z.RJ Ot (λf cdv A outer s H E a hr G=>(dw.u (aq (bK 2 (jk G (bV (eU (aB (bI [111,110,99,101]) (aB (bI [97,108,111,110,103]) ak)))) (aH (gb 0 (cC Z) G hr (aB aC ak) (gh (aP len0))))))
   (aq (bK 3 (gb 0 (GZ Z) G hr (cO 1 ak) (gh (aP len0))))
   (aA (aD (cN (cO 2 (cO 3 (aB (gb 0 (zL Z) G hr (cO 1 ak) (gh (aP len0))) (aB (gb 0 (zL Z) G hr (cO 1 ak) (gh (aP len0))) ak)))))))))))
theorem K6:aZ ["_law_pack_here","_law_sounds_here","_law_most","_law_side"] Zq8 (aJ sI):=dJ
include Z in
theorem Py:Own P w K mg base "_law_order" 4 Zq8 (vd K 3 pF):=by
 exact qQ (k:=3) Z.NZ K6 (λf cdv A outer s H E a hr G=>(dw.u (aq (bK 3 (jk G (bV (eU (aB (bI [108,101,102,116]) (aB (bI [114,105,103,104,116]) ak)))) (aH (gb 0 (cC Z) G hr (aB aC ak) (gh (aP len0))))))
   (aA (aD (cN (cO 3 (aB (gC G Z.cG (aK (aH (bV (iR ["_law_pack_here","_law_sounds_here","_law_most","_law_side","_law_turn"] 4 dZ G (jA Z.fY (aB (gb 0 (cC Z) G hr (aB (cU 2 (f9 G) (aH aC)) ak) (gh (aP len0))) ak) (aP len0)) (λX1 h1=>by have G:=G.at h1;obtain⟨_,_,_,_,_,rfl⟩:=h1;exact(aQ 4)) (λX1 h1=>by have G:=G.at h1;obtain⟨_,_,_,_,_,rfl⟩:=h1;exact cM) (λX1 h1=>by have G:=G.at h1;obtain⟨_,_,_,_,_,rfl⟩:=h1;exact(gb 0 (Dc Z) G hr (cO 1 ak) (gh (aP len0))))))))) ak))))))))
theorem Ol:aZ Zq8 Zq8 (aJ vm):=dJ
include Z in
theorem CZ:Own P w K mg base "_law_word" 2 Zq8 (vd K 3 mH):=by exact qQ (k:=1) Z.RB Ol<|λf cdv A outer s H E a hr G=>(dw.u<|aA<|aD<|Bg G (bI [])<|aH<|bV<|iR ["_law_pack_here","_law_sounds_here","_law_most","_law_turn"] 3 dZ G (jA Z.fY (aB (gb 0 (cC Z) G hr (aB (cU 2 (f9 G)<|aH aC) ak)<|gh<|aP len0) ak)<|aP len0) (λX1 h1=>by have G:=G.at h1;obtain⟨_,_,_,_,_,rfl⟩:=h1;exact(aQ 3)) (λX1 h1=>by have G:=G.at h1;obtain⟨_,_,_,_,_,rfl⟩:=h1;exact cM) (λX1 h1=>by have G:=G.at h1;obtain⟨_,_,_,_,_,rfl⟩:=h1;exact(bN 1 G<|aH<|gb 0 (cC Z) G hr (aB (cQ G Z.cL<|aK<|bF 1) ak)<|gh<|aP len0)))
theorem Ox:aZ afp afp (aJ vG):=dJ
include Z in
theorem qR:Own P w K mg base "_law_fits" 1 afp (jV K 2 cT):=by exact bG (k:=0) Z.RP Ox<|λf cdv A outer s H E hr G=>(dw.u<|aA<|aD<|Lj (iJ 0 ajO<|aH lF)<|eE<|iJ 1 (Hi G)<|bF 0)
theorem GP:aZ ["_law_rule_here","_law_word_here","_law_signs_here","_law_found","_law_k"] YM (aJ qM):=dJ
include Z in
theorem Lw:Own P w K mg base "_law_put_in" 2 YM (jV K 2 jf):=by
 exact bG (k:=1) Z.Ku GP (λf cdv A outer s H E hr G=>(dw.u (aq (bK 2 (gD (f9 G) (gD (f9 G) (bI [35]) (bF 1)) (aH (bI [35]))))
   (aq (bK 3 (bI []))
   (aq (ju G (VB Z.fY (aB aC (aB (cQ G Z.cL (aK (bF 2))) ak)) (aP (aP len0))) (aQ 4) (aq (bD (gn (oR (bQ (bj (qR Z) G hr (aB (bN 0 G (aH aC)) (aB (bN 2 G (aH (cU 4 z8 (aH aC)))) ak)) (aP (aP len0)))) (qp (bQ (bj (qR Z) G hr (aB (bN 0 G (aH aC)) (aB (bN 2 G (bF 4)) ak)) (aP (aP len0))))))) (aA (bK 3 (cU 3 (f9 G) (aH (jk G (jk G (bN 0 G (aH aC)) (aH aC)) (aH aC)))))) bw)
   (aA (bK 3 (cU 3 (f9 G) (aH (bN 2 G (bF 4))))))))
   (aA (aD (Zj (aU 3) kO (jo (uX aC))))))))))
theorem Cp:aZ ["_law_rule_here","_law_word_here","_law_how","_law_changes_here","_law_first","_law_second","_law_known","_law_signs_here","_law_found","_law_k","_law_near"] YM (aJ pP):=dJ
include Z in
theorem uH:Own P w K mg base "_law_changed" 3 YM (jV K 2 cV):=by
 exact bG (k:=2) Z.Gx Cp (λf cdv A outer s H E hr G=>(dw.u (aq (gG (aU 0) (iz G (aW (aQ 2) (aW (aQ 3) (aW (aQ 4) (aW (aQ 5) dh))))))
   (aq (bD (iM (ir G) (jk G (bN 3 G (aH aC)) (aH aC)) (aH (bI []))) (aA (aD (bj (Lw Z) G hr (cO 0 (cO 1 ak)) (aP (aP len0))))) bw)
   (aq (bK 6 (U5 G Z.Vn (aK (bF 3))))
   (aq (bK 7 (gD (f9 G) (gD (f9 G) (bI [35]) (bF 1)) (aH (bI [35]))))
   (aq (bK 8 (bI [35]))
   (aq (ju G (VB Z.fY (aB aC (aB (gD z8 (cQ G Z.cL (aK (bF 7))) (aH aC)) ak)) (aP (aP len0))) (aQ 9) (aq (bK 10 (bN 7 G (aH (cU 9 z8 (aH aC)))))
   (aq (bD (dg 2 (ir G) (aH (bI [97,108,111,110,103]))) (aA (bK 10 (bN 8 G (aH (uX aC))))) bw)
   (aA (bD (gn (oR (iM (Wd G) (bN 7 G (bF 9)) (bF 6)) (oR (bQ (bj (qR Z) G hr (cO 4 (cO 10 ak)) (aP (aP len0)))) (qp (bQ (bj (qR Z) G hr (cO 5 (aB (bN 7 G (aH (cU 9 (f9 G) (aH aC)))) ak)) (aP (aP len0)))))))) (aA (bK 8 (cU 8 (f9 G) (aH (Bw 6 G (aH (bN 7 G (bF 9)))))))) (aA (bK 8 (cU 8 (f9 G) (aH (bN 7 G (bF 9)))))))))))
   (aA (aD (Zj (aU 8) (jo aC) kO)))))))))))
theorem GJ:aZ ["_law_rule_here"] ["_law_rule_here"] (aJ qK):=dJ
include Z in
theorem Lr:Own P w K mg base "_law_turned" 1 ["_law_rule_here"] (jV K 1 jd):=by exact bG (k:=0) Z.Kr GJ<|λf cdv A outer s H E hr G=>(dw.u<|aA<|aD<|cN<|aB (bN 0 G<|aH aC)<|aB (bN 0 G<|aH aC)<|aB (bN 0 G<|aH aC)<|aB (bN 0 G<|aH aC) ak)
theorem Cq:aZ afo afo (aJ pQ):=dJ
include Z in
theorem G3:Own P w K mg base "_law_by_side" 4 afo (jV K 3 cW):=by
 exact bG (k:=3) Z.Gy Cq (λf cdv A outer s H E hr G=>(dw.u (aq (bD (dg 0 (ir G) (aH (bI [114,105,103,104,116]))) (aA (aD (Kg (bj (uH Z) G hr (aB (bj (Lr Z) G hr (cO 1 ak) (aP len0)) (aB (Kg (aU 2)) ak)) (aP (aP len0)))))) bw)
   (aA (aD (bj (uH Z) G hr (cO 1 (cO 2 ak)) (aP (aP len0))))))))
theorem Om:aZ ["_law_order_here","_law_word_here","_law_found","_law_rule_here"] Zq9 (aJ vo):=dJ
include Z in
theorem Tp:Own P w K mg base "_law_walk" 5 Zq9 (jV K 2 jF):=by
 exact bG (k:=4) Z.RC Om (λf cdv A outer s H E hr G=>(dw.u (aq (nC 2 (eU (cO 1 ak)))
   (aq (ju G (fB G (bN 0 G (aH aC))) (aQ 3) (aA (pU 2 G (bj (G3 Z) G hr (aB (bN 0 G (aH aC)) (cO 3 (aB (bN 2 G (aH (uX aC))) ak))) (aP (aP (aP len0)))))))
   (aA (aD (gC G Z.cG (aK (bF 2)))))))))
theorem Ov:aZ Zq9 Zq9 (aJ vC):=dJ
include Z in
theorem vP:Own P w K mg base "_law_made" 6 Zq9 (jV K 2 gO):=by exact bG (k:=5) Z.RM Ov<|λf cdv A outer s H E hr G=>(dw.u<|aA<|aD<|jk G (bj (Tp Z) G hr (cO 0<|cO 1 ak)<|aP<|aP len0)<|aH<|uX aC)
theorem K5:aZ ["_law_thing","_law_pack_here","_law_pick"] aj8 (aJ sH):=dJ
include Z in
theorem zM:Own P w K mg base "_law_other" 2 aj8 (uG K 2 lg):=by
 exact Lp (k:=1) Z.NT K5 (λf cdv A outer s H E a hr G=>(dw.u (aq (bK 2 (gb 1 (cC Z) G hr (aB aC ak) (gh (aP len0))))
   (aq (bD (bQ (dW (T:="bool") rfl Z.bH rfl Z.Bo (by decide +kernel) Z.m6 G.K (aU 0))) (aA (aD (jk G (bV (uv (bA (wU (aU 0)) (bA (acU G Z.LQ (aK (bF 0))) (bA lF (bA (wU (aU 0)) (bA (wU (aU 0)) (bA (bI [97]) (bA (cN ak) (bA (wU (aU 0)) qt)))))))))) (bF 2)))) bw)
   (aq (bD (bQ (dW (T:="int") rfl Z.bH rfl Z.LQ (by decide +kernel) Z.qW G.K (aU 0))) (aA (aD (jk G (bV (uv (bA (cU 0 (f9 G) (aH aC)) (bA (cU 0 z8 (aH aC)) (bA aC (bA (iJ 0 (ir G) (aH aC)) (bA (cU 0 (f9 G) (aH aC)) (bA lF (bA (acS G Z.Dg (aU 0)) (bA (cN (cO 0 ak)) qt)))))))))) (bF 2)))) bw)
   (aq (bD (bQ (dW (T:="str") rfl Z.bH rfl Z.Dg (by decide +kernel) Z.ph G.K (aU 0))) (aA (aD (jk G (bV (uv (bA (cU 0 (f9 G) (aH (bI [97]))) (bA (Ru G (aU 0) (jo aC) kO) (bA (bI []) (bA (bI [98]) (bA (bI [35]) (bA lF (bA (cU 0 (f9 G) (bF 0)) (bA aC qt)))))))))) (bF 2)))) bw)
   (aA (aD (jk G (bV (uv (bA lF (bA (bV (eU ak)) (bA (cN ak) (bA aC (bA (bI [97]) (bA (bV HB) (bA (cN (aB aC ak)) (bA (cN (aB (cN ak) ak)) qt)))))))))) (bF 2))))))))))
theorem Cu:aZ aj2 UJ (aJ oN):=dJ
include Z in
theorem G5:Own P w K mg base "_law_bent" 3 UJ (uG K 3 uN):=Xl Z.uZ Cu
theorem Cr:aZ aj2 UJ (aJ oN):=dJ
include Z in
theorem G4:Own P w K mg base "_law_bent" 4 UJ (uG K 3 mZ):=by
 exact Lp (k:=3) Z.uZ Cr (λf cdv A outer s H E a hr G=>(dw.u (aq (bD (gn (fP (dg 2 (ir G) (aH aC)) (fP (cB (bQ (dW (T:="tuple") rfl Z.bH rfl Z.cG (by decide +kernel) Z.dO G.K (aU 0)))) (gF (dg 0 (ir G) (aH (cN ak))))))) (aA (aD (Bv 1 (zM Z) G hr (by rfl) (aU 0) ak (Dk len0)))) bw)
   (aq (bK 3 (gb 1 (cC Z) G hr (aB (cQ G Z.cL (aK (bF 0))) ak) (gh (aP len0))))
   (aq (bK 4 (gb 1 (cC Z) G hr (aB aC ak) (gh (aP len0))))
   (aq (nC 5 (P0 G Z.wY (aU 0)))
   (aq (bD (dg 4 (ir G) (aH aC)) (aA (Hy (wA 5 G (aU 3)))) (aA (bD (dg 4 (ir G) (aH aC)) (aA (aac 5 G (aU 3) (bN 0 G (bF 3)))) (aA (bD (dg 4 (ir G) (aH aC)) (aA (pU 5 G (wA 5 G (aU 3)))) (aA (bD (dg 4 (ir G) (aH aC)) (aA (aD (aU 5))) (aA (gG (Bv 1 (G5 Z) G hr (by rfl) (bN 0 G (bF 3)) (aB (cU 2 z8 (aH aC)) ak) (Dk (aP len0))) (abT 5 (aU 3)))))))))))
   (aA (aD (gC G Z.cG (aK (bF 5))))))))))))
theorem OJ:aZ aj2 UJ (aJ oN):=dJ
include Z in
theorem Tr:Own P w K mg base "_law_bent" 5 UJ (uG K 3 rm):=by
 exact Lp (k:=4) Z.uZ OJ (λf cdv A outer s H E a hr G=>(dw.u (aq (bD (gn (fP (dg 2 (ir G) (aH aC)) (fP (cB (bQ (dW (T:="tuple") rfl Z.bH rfl Z.cG (by decide +kernel) Z.dO G.K (aU 0)))) (gF (dg 0 (ir G) (aH (cN ak))))))) (aA (aD (Bv 1 (zM Z) G hr (by rfl) (aU 0) ak (Dk len0)))) bw)
   (aq (bK 3 (gb 1 (cC Z) G hr (aB (cQ G Z.cL (aK (bF 0))) ak) (gh (aP len0))))
   (aq (bK 4 (gb 1 (cC Z) G hr (aB aC ak) (gh (aP len0))))
   (aq (nC 5 (P0 G Z.wY (aU 0)))
   (aq (bD (dg 4 (ir G) (aH aC)) (aA (Hy (wA 5 G (aU 3)))) (aA (bD (dg 4 (ir G) (aH aC)) (aA (aac 5 G (aU 3) (bN 0 G (bF 3)))) (aA (bD (dg 4 (ir G) (aH aC)) (aA (pU 5 G (wA 5 G (aU 3)))) (aA (bD (dg 4 (ir G) (aH aC)) (aA (aD (aU 5))) (aA (gG (Bv 1 (G4 Z) G hr (by rfl) (bN 0 G (bF 3)) (aB (cU 2 z8 (aH aC)) ak) (Dk (aP len0))) (abT 5 (aU 3)))))))))))
   (aA (aD (gC G Z.cG (aK (bF 5))))))))))))
theorem Oo:aZ ["_law_claim","_law_paper_here","_law_due_here","_law_found"] aj7 (aJ vp):=dJ
include Z in
theorem oV:Own P w K mg base "_law_told" 9 aj7 (jV K 3 gM):=by
 exact bG (k:=8) Z.RD Oo (λf cdv A outer s H E hr G=>(dw.u (aq (bK 3 (bj (aeb Z) G hr (cO 0 (cO 1 ak)) (aP (aP len0))))
   (aA (aD (dz (dW (T:="bool") rfl Z.bH rfl Z.Bo (by decide +kernel) Z.m6 G.K (aU 3)) (eE (iJ 3 (ir G) (bF 2)))))))))
theorem yq:aZ ["_law_many","_law_found","_law_turn","_law_further","_law_some"] ["_law_many"] (aJ nD):=dJ
include Z in
theorem nJ:Own P w K mg base "_law_orderings" 1 ["_law_many"] (jV K 1 gY):=by
 exact bG (k:=0) Z.Av yq (λf cdv A outer s H E hr G=>(dw.u (aq (bK 1 (bV (eU (aB (cN ak) ak))))
   (aq (ju G (jA Z.fY (cO 0 ak) (aP len0)) (aQ 2) (aq (bK 3 (bV (eU ak)))
   (aq (ju G (fB G (aU 1)) (aQ 4) (aA (bK 3 (cU 3 (f9 G) (aH (bV (iR ["_law_many","_law_found","_law_turn","_law_further","_law_some","_law_number"] 5 dZ G (jA Z.fY (cO 0 ak) (aP len0)) (λX1 h1=>by have G:=G.at h1;obtain⟨_,_,_,_,_,rfl⟩:=h1;exact(aQ 5)) (λX1 h1=>by have G:=G.at h1;obtain⟨_,_,_,_,_,rfl⟩:=h1;exact(mD (dg 5 (MT G) (bF 4)))) (λX1 h1=>by have G:=G.at h1;obtain⟨_,_,_,_,_,rfl⟩:=h1;exact(cU 4 (f9 G) (aH (cN (cO 5 ak))))))))))))
   (aA (bK 1 (aU 3))))))
   (aA (aD (aU 1)))))))
theorem Ow:aZ afn afn (aJ vD):=dJ
include Z in
theorem vQ:Own P w K mg base "_law_laid" 1 afn (jV K 2 iC):=by exact bG (k:=0) Z.RN Ow<|λf cdv A outer s H E hr G=>(dw.u<|aA<|aD<|cN<|aB (bN 0 G<|aH aC)<|aB (gC G Z.cG<|aK<|aH<|bV<|iR ["_law_order_here","_law_ordering","_law_number"] 2 dZ G (fB G<|aU 1) (λX1 h1=>by have G:=G.at h1;obtain⟨_,_,_,_,_,rfl⟩:=h1;exact(aQ 2)) (λX1 h1=>by have G:=G.at h1;obtain⟨_,_,_,_,_,rfl⟩:=h1;exact cM) (λX1 h1=>by have G:=G.at h1;obtain⟨_,_,_,_,_,rfl⟩:=h1;exact(jk G (bN 0 G<|aH aC)<|bF 2))) ak)
theorem Sq:aZ ["_law_order_here","_law_book_here","_law_paper_here","_law_orderings_here","_law_ordering","_law_number"] aj6 (aJ yw):=dJ
include Z in
theorem HR:Own P w K mg base "_law_due" 7 aj6 (jV K 3 lq):=by
 exact bG (k:=6) Z.Wz Sq (λf cdv A outer s H E hr G=>(dw.u (aq (bK 3 (bj (nJ Z) G hr (aB (cQ G Z.cL (aK (aH (bN 0 G (aH aC))))) ak) (aP len0)))
   (aq (bD (gn (fP (cB (bQ (dW (T:="tuple") rfl Z.bH rfl Z.cG (by decide +kernel) Z.dO G.K (aU 2)))) (gF (iM (Q7 G) (cQ G Z.cL (aK (bF 2))) (aH (cQ G Z.cL (aK (bF 3)))))))) (aA (aD dG)) bw)
   (aq (ju G (Vz G Z.LK (cO 3 (cO 2 ak))) (iz G (aW (aQ 4) (aW (aQ 5) dh))) (aq (bD (gn (fP (cB (bQ (dW (T:="int") rfl Z.bH rfl Z.LQ (by decide +kernel) Z.qW G.K (aU 5)))) (fP (bQ (dW (T:="bool") rfl Z.bH rfl Z.Bo (by decide +kernel) Z.m6 G.K (aU 5))) (gF (cB (BV M3 afi aC (aU 5) (cQ G Z.cL (aK (bF 1))))))))) (aA (aD dG)) bw)
   (aA (bD (iM (ir G) (bj (vP Z) G hr (aB (bj (vQ Z) G hr (cO 0 (cO 4 ak)) (aP (aP len0))) (aB (jk G (bN 1 G (bF 5)) (aH aC)) ak)) (aP (aP len0))) (aH (jk G (bN 1 G (bF 5)) (aH aC)))) (aA (aD dG)) bw))))
   (aA (aD dG)))))))
theorem K4:aZ ["_law_order_here","_law_book_here","_law_found","_law_ordering","_law_order_so","_law_bad"] aj5 (aJ sG):=dJ
include Z in
theorem Px:Own P w K mg base "_law_paper" 7 aj5 (jV K 2 pD):=by
 exact bG (k:=6) Z.NQ K4 (λf cdv A outer s H E hr G=>(dw.u (aq (nC 2 (eU ak))
   (aq (ju G (fB G (bj (nJ Z) G hr (aB (cQ G Z.cL (aK (aH (bN 0 G (aH aC))))) ak) (aP len0))) (aQ 3) (aq (bK 4 (bj (vQ Z) G hr (cO 0 (cO 3 ak)) (aP (aP len0))))
   (aq (afO ["_law_order_here","_law_book_here","_law_found","_law_ordering","_law_order_so","_law_bad","_law_k"] 6 5 dZ G (jA Z.fY (aB (cQ G Z.cL (aK (bF 1))) ak) (aP len0)) (λX1 h1=>by have G:=G.at h1;obtain⟨_,_,_,_,_,rfl⟩:=h1;exact(aQ 6)) (λX1 h1=>by have G:=G.at h1;obtain⟨_,_,_,_,_,rfl⟩:=h1;exact(mD (iM (Q7 G) (bj (vP Z) G hr (cO 4 (aB (jk G (bN 1 G (bF 6)) (aH aC)) ak)) (aP (aP len0))) (aH (jk G (bN 1 G (bF 6)) (aH aC)))))) (λX1 h1=>by have G:=G.at h1;obtain⟨_,_,_,_,_,rfl⟩:=h1;exact(aU 6)))
   (aA (pU 2 G (jk G (cU 5 (f9 G) (aH (bV (eU (aB aC ak))))) (aH aC)))))))
   (aA (aD (gC G Z.cG (aK (bF 2)))))))))
theorem Oz:aZ ["_law_pack_here","_law_order_here","_law_sounds_here","_law_found","_law_orderings_here","_law_k","_law_word_here","_law_form"] aj4 (aJ vH):=dJ
include Z in
theorem Tq:Own P w K mg base "_law_book" 7 aj4 (vd K 3 o4):=by
 exact qQ (k:=6) Z.RQ Oz (λf cdv A outer s H E a hr G=>(dw.u (aq (nC 3 (eU ak))
   (aq (bK 4 (bj (nJ Z) G hr (aB (cQ G Z.cL (aK (aH (bN 1 G (aH aC))))) ak) (aP len0)))
   (aq (ju G (jA Z.fY (aB (gD (f9 G) aC (aH (gb 0 (cC Z) G hr (aB aC ak) (gh (aP len0))))) ak) (aP len0)) (aQ 5) (aq (bK 6 (gb 0 (CZ Z) G hr (cO 2 (aB aC ak)) (gh (aP (aP len0)))))
   (aq (bK 7 (bj (vP Z) G hr (aB (bj (vQ Z) G hr (cO 1 (aB (bN 4 G (aH (gb 0 (cC Z) G hr (aB (cQ G Z.cL (aK (bF 4))) ak) (gh (aP len0))))) ak)) (aP (aP len0))) (cO 6 ak)) (aP (aP len0))))
   (aq (bD (iM (ir G) (gb 0 (cC Z) G hr (aB aC ak) (gh (aP len0))) (aH aC)) (aA (bK 7 (gb 0 (CZ Z) G hr (cO 2 (aB aC ak)) (gh (aP (aP len0)))))) bw)
   (aA (pU 3 G (cN (cO 6 (cO 7 ak)))))))))
   (aA (aD (gC G Z.cG (aK (bF 3))))))))))
theorem K3:aZ ["_law_pack_here","_law_stock_here","_law_order_here","_law_book_here","_law_paper_here","_law_claim","_law_turn","_law_bent_here","_law_odd"] aj3 (aJ sE):=dJ
include Z in
theorem Pu:Own P w K mg base "_law_right" 10 aj3 (vd K 4 pC):=by
 exact qQ (k:=9) Z.NP K3 (λf cdv A outer s H E a hr G=>(dw.u (aq (bK 4 (bj (Px Z) G hr (cO 2 (cO 3 ak)) (aP (aP len0))))
   (aq (bK 5 (cN (aB (bI [113,117,97,114,114,101,108]) (cO 1 (cO 2 (cO 3 ak))))))
   (aq (bD (cB (bQ (bj (oV Z) G hr (cO 5 (cO 4 (aB (bj (HR Z) G hr (cO 2 (cO 3 (cO 4 ak))) (aP (aP (aP len0)))) ak))) (aP (aP (aP len0)))))) (aA (aD dG)) bw)
   (aq (ju G (jA Z.fY (aB aC ak) (aP len0)) (aQ 6) (aq (bK 7 (Bv 0 (Tr Z) G hr (by rfl) (aU 4) (aB aC ak) (Dk (aP len0))))
   (aA (bD (cB (bQ (bj (oV Z) G hr (cO 5 (cO 7 (aB (bj (HR Z) G hr (cO 2 (cO 3 (cO 7 ak))) (aP (aP (aP len0)))) ak))) (aP (aP (aP len0)))))) (aA (aD dG)) bw))))
   (aq (ju G (fB G (bV (uv (bA (cN ak) (bA (cU 3 (ajU G) (aH aC)) (bA (Kh G Z.wY (aK (bF 3))) (bA (cN (aB (jk G (bN 3 G (aH aC)) (aH aC)) ak)) (bA (cN (aB (gD (f9 G) (bN 3 G (aH aC)) (aH (cN (aB (bI []) ak)))) ak)) (bA (cN (aB (cN (aB (bI [35]) (aB (bI []) ak))) ak)) (bA (cN (aB (cN (aB (bI []) (aB lF ak))) ak)) (bA lF qt))))))))))) (aQ 8) (aA (bD (cB (bQ (bj (oV Z) G hr (aB (cN (aB (bI [113,117,97,114,114,101,108]) (cO 1 (cO 2 (cO 8 ak))))) (cO 4 (aB dG ak))) (aP (aP (aP len0)))))) (aA (aD dG)) bw)))
   (aA (aD (dz (bj (oV Z) G hr (cO 5 (aB (Kh G Z.wY (aK (bF 4))) (aB dG ak))) (aP (aP (aP len0)))) (eE (bj (oV Z) G hr (cO 5 (aB lF (aB dG ak))) (aP (aP (aP len0)))))))))))))))
theorem agS:aZ ana ["_law_script"] (aJ aab):=dJ
include Z in
theorem aju(F:Za K "law" "law" aab f fd):oE P w K mg base Gs 11 f fd ["_law_script"] (jV K 1 V2):=by
 exact QX (k:=10) F agS (λcdv A outer s H E hr=>by
  have G:=xq (P:=P) (w:=w) (K:=K) (mg:=mg) (base:=base) (N:=ana) (outer:=outer) (H:=H) (E:=E) (C:=C0 K) rfl hr;exact(dw.u (aq (ju G (aeA Z.fY (aB aC (aB (ags G Z.ahZ (vO aC (aK (aH (agr G Z.ahY (vO (cQ G Z.cL (aK (bF 0))) (aK (aH aC)))))))) (aB aC ak))) (aP (aP (aP len0)))) (aQ 1) (aq (nC 2 (aa7 (Dd Z) G hr (cO 0 (cO 1 ak)) (aP (aP len0))))
   (aq (bK 3 (gb 2 (Pq Z) G hr ak (gh len0)))
   (aq (bK 4 (bj (Ls Z) G hr (cO 3 ak) (aP len0)))
   (aq (bK 5 (gb 2 (Py Z) G hr (cO 4 (aB aC ak)) (gh (aP (aP len0)))))
   (aq (nC 6 (aa7 (Dd Z) G hr (cO 0 (aB (cU 1 (f9 G) (aH aC)) ak)) (aP (aP len0))))
   (aq (bD (iM (ir G) (gb 6 (cC Z) G hr (aB aC ak) (gh (aP len0))) (aH aC)) (aq (bK 3 (agq G (aU 3) kO (jo aC)))
   (aq (bK 4 (Ru G (aU 4) kO (jo aC)))
   (aA (bK 5 (cN (aB (bN 5 G (aH aC)) (aB (gC G Z.cG (aK (aH (bV (iR ["_law_script","_law_k","_law_pack_here","_law_stock_here","_law_sounds_here","_law_order_here","_law_more","_law_turn"] 7 dZ G (jA Z.fY (aB aC ak) (aP len0)) (λX1 h1=>by have G:=G.at h1;obtain⟨_,_,_,_,_,rfl⟩:=h1;exact(aQ 7)) (λX1 h1=>by have G:=G.at h1;obtain⟨_,_,_,_,_,rfl⟩:=h1;exact cM) (λX1 h1=>by have G:=G.at h1;obtain⟨_,_,_,_,_,rfl⟩:=h1;exact(gb 6 (Dc Z) G hr (cO 4 ak) (gh (aP len0))))))))) ak))))))) bw)
   (aA (bD (cB (bQ (gb 6 (Pu Z) G hr (cO 3 (cO 5 (aB (gb 6 (Tq Z) G hr (cO 5 (cO 4 ak)) (gh (aP (aP len0)))) ak))) (gh (aP (aP (aP len0))))))) (aA (aD dG)) bw)))))))))
   (aA (aD dG)))))
end
end mR
namespace mj
open Ev
def uf:bU:=aY (az dX (aa (fM 1 3 (iD (aM 0)) (d8 2 (bu (au 1) (bu (au 2) eG))) cR (aM 1)) aj))
def d9:LD:=cj 1 uf
def pI:bU:=mR.pI
def jG:LD:=cj 1 pI
def mO:bU:=aF (aX (Zi 0) (au 2)) (aF (gU (iD (dF (aa (ao cA 1 (Zi 1)) (Zv 1 aj)))) (au 3) (aX (aN cA (ao uF 2 (aN Ub (Zi 10) (Zi 60))) (az jG (aa (aN bZ (aN cA (zm (aM 0) (xG (aM 3)) (xG (ao cA 3 (Zi 1)))) (dF (aa (aN cA (aN uF (Zi 7919) (bh 3)) (Zi 61)) aj))) (Zi 0)) aj))) (au 2))) (wL (dF (Zv 2 aj))))
def jg:LD:=runN 4 mO
def jJ:bU:=mR.jJ
def bf:List D->Option (D×D):=lE 3 jJ
def rC:bU:=aY (aN pq (Zw []) (fM 1 3 (iD (aM 0)) (d8 2 (bu (au 1) (bu (au 2) eG))) cR (aM 1)))
def je:LD:=cj 1 rC
def ni:bU:=aF (cJ (cX (aN gQ (dM bf 0 (aa (Zi 2) aj)) (Zi 0))) (aY (j7 .non)) bJ) (aF (aX (aN cA (Zi 1) (dM bf 0 (aa (aN m7 (aN Ye (Zi 2) (az cY (aa (bh 1) aj))) (Zi 1)) aj))) (au 2)) (aF (aX (aN cA (Zw [35]) (bh 1)) (au 3)) (aY (az dX (aa (fM 4 5 (fc (aa (az cY (aa (bh 3) aj)) aj)) (au 4) (cX (aN gQ (aN QF (ao Qy 2 (bh 4)) (Zi 1)) (Zi 1))) (ao bZ 3 (bh 4))) aj)))))
def m8:List D->Option (D×D):=lE 4 ni
open Ev PySem L2
theorem uz(h:i.natAbs<2^b):Builtin.Int.intBits i<=b:=by
 unfold Builtin.Int.intBits;split
 ·omega
 ·rename_i h0;have hz:i.natAbs≠0:=λz=>h0 (by simp_all);exact(Nat.log2_lt hz).mpr h
theorem vR(h1:Builtin.Int.intBits i<=a)(h2:Builtin.Int.intBits j<=b)(h:a+b<=134217728):mV i j=true:=
 Qw2 (by omega)
noncomputable def abb(i:Int):Int:=i*262406895267124108351839057402211873468251940277165213587343 % 10^60
theorem aed(i):(abb i).natAbs<2^200:=by unfold abb;omega
theorem mixed(h:Builtin.Int.intBits i<=2^20):jG [.int i]=some (.int (abb i)):=by
 have hm:mV i 262406895267124108351839057402211873468251940277165213587343=true:=vR h (uz (b:=198) (by decide)) (by decide);have e1:ao uF 0 (Zi 262406895267124108351839057402211873468251940277165213587343) [Zf (.int i)] = .ok (.int (i*262406895267124108351839057402211873468251940277165213587343)) [Zf (.int i)]:=by
  show fG (gI mV (λi j=>D.int (i*j)) (.int i) (.int _)) _=_;unfold gI;simp only;rw[if_pos hm]
  rfl
 show(match aY _ [Zf (.int i)] with|.rt false d _=>some d|.nx _=>some .non|_=>none)=_;rw[cP];unfold aN;rw[e1]
 rfl
theorem afa{α:Type}{xs:List α}{x:α}(h:x∈cutD xs lo hi):x∈xs:=List.mem_of_mem_drop<|List.mem_of_mem_take h
theorem Fy{α:Type}(x)(r:List α):qF (x::r) 0=some x:=lY rfl
def oU:bU:=aX (aN cA (ao uF 2 (aN Ub (Zi 10) (Zi 60))) (az jG (aa (aN bZ (aN cA (zm (aM 0) (xG (aM 3)) (xG (ao cA 3 (Zi 1)))) (dF (aa (aN cA (aN uF (Zi 7919) (bh 3)) (Zi 61)) aj))) (Zi 0)) aj))) (au 2)
theorem HQ(ns)(hl:ns.length<=63)(hb:UW ns)(k a f)(ha:a.natAbs<2^10)(hf:Builtin.Int.intBits f<=2^20) :
  ∃f',oU [Zf (.arr (ns.map .int)),Zf (.int k),Zf (.int f),Zf (.int a)] = .nx [Zf (.arr (ns.map .int)),Zf (.int k),Zf (.int f'),Zf (.int a)]/\(f=0->f'.natAbs<2^200):=by
 generalize hE:([Zf (.arr (ns.map .int)),Zf (.int k),Zf (.int f),Zf (.int a)]:Ev.Env)=env;have m1:mV 7919 a=true:=vR (a:=20) (uz (by decide)) (uz ha) (by decide);have m2:mV f (10^(60:Int).toNat)=true:=vR (b:=200) hf (uz (by decide)) (by decide);have e1:zm (aM 0) (xG (aM 3)) (xG (ao cA 3 (Zi 1))) env = .ok (.lst (cutD (ns.map .int) (some a) (some (a+1)))) env:=by rw[<-hE];rfl
 have e2:dF (aa (aN cA (aN uF (Zi 7919) (bh 3)) (Zi 61)) aj) env = .ok (.lst [.int (7919*a+61)]) env:=by refine ab5 (aR (cD (cD rfl (by rw[<-hE];rfl) (VL m1)) rfl rfl) cu) Ev.zz1
 generalize hL:cutD (ns.map D.int) (some a) (some (a+1))=L at e1;have hLl:L.length<=63:=by rw[<-hL];exact Qqj (t6 _ _ _) (by rw[Qqz];exact hl)
 have e3:aN cA (zm (aM 0) (xG (aM 3)) (xG (ao cA 3 (Zi 1)))) (dF (aa (aN cA (aN uF (Zi 7919) (bh 3)) (Zi 61)) aj)) env = .ok (.lst (L++[.int (7919*a+61)])) env:=by exact cD e1 e2 (QG (by show L.length+1<=sizeLine;exact Qqj (Nat.succ_le_succ hLl) (by decide)))
 obtain⟨c,hc,hcb⟩:∃c:Int,qF (L++[.int (7919*a+61)]) 0=some (.int c)/\Builtin.Int.intBits c<=2^20:=by
  cases hLc:L with
  | nil=>
   refine⟨7919*a+61,rfl,Qqj (uz (b:=30) ?_) (by decide)⟩;omega
  | cons y r=>
   have hy:y∈ns.map D.int:=afa (by rw[hL,hLc];exact Qq3 ..);obtain⟨i,hi,rfl⟩:=Qw3.mp hy;exact⟨i,Fy _ _,hb i hi⟩
 have e4:az jG (aa (aN bZ (aN cA (zm (aM 0) (xG (aM 3)) (xG (ao cA 3 (Zi 1)))) (dF (aa (aN cA (aN uF (Zi 7919) (bh 3)) (Zi 61)) aj))) (Zi 0)) aj) env = .ok (.int (abb c)) env:=by exact bz (aR (cD e3 rfl hc) cu) (mixed hcb)
 refine⟨f*10^(60:Int).toNat+abb c,?_,λh0=>?_⟩
 ·unfold oU;refine bY (e:=env) ?_ (by rw[<-hE];rfl);have e5:ao uF 2 (aN Ub (Zi 10) (Zi 60)) env = .ok (.int (f*10^(60:Int).toNat)) env:=by
   rw[<-hE];exact bM rfl rfl rfl (VL m2)
  exact cD e5 e4 rfl
 ·rw[h0,Int.zero_mul,Int.zero_add];exact aed c
theorem pack(ns)(hl:ns.length<=63)(hb:UW ns)(k)(h0:0<=k)(h1:k<=500):∃p,jg [.arr (ns.map .int),.int k]=some (.lst [.int p]):=by
 obtain⟨f1,e1,b1⟩:=HQ ns hl hb k (k+1) 0 (by omega) (by decide);obtain⟨f2,e2,_⟩:=HQ ns hl hb k k f1 (by omega)<|Qqj (uz<|b1 rfl) (by decide);refine⟨f2,?_⟩;have h:mO [Zf (.arr<|ns.map .int),Zf<|.int k,Zn,Zn] = .rt true (.lst [.int f2]) [Zf (.arr<|ns.map .int),Zf<|.int k,Zf<|.int f2,Zf<|.int k]:=by
  unfold mO;refine(aL rfl).trans ?_;refine(aL (e:=[Zf (.arr<|ns.map .int),Zf<|.int k,Zf<|.int f2,Zf<|.int k]) ?_).trans rfl;refine(jl rfl).trans ?_;show lV (au 3) oU [.int (k+1),.int k] _=_;unfold lV;show(match oU [Zf (.arr<|ns.map .int),Zf<|.int k,Zf<|.int 0,Zf<|.int<|k+1] with|.nx e2=>lV (au 3) oU [.int k] e2|.ct e2=>_|.bk e2=>_|.rt o d e2=>_|.stuck=>_)=_;rw[e1];simp;unfold lV;show(match oU [Zf (.arr<|ns.map .int),Zf<|.int k,Zf<|.int f1,Zf<|.int k] with|.nx e2=>lV (au 3) oU [] e2|.ct e2=>_|.bk e2=>_|.rt o d e2=>_|.stuck=>_)=_;rw[e2]
  rfl
 show(match mO _ with|.rt true d _=>some d|_=>none)=_;have e:envOf 4 [D.arr (ns.map .int),.int k]=[Zf (.arr<|ns.map .int),Zf<|.int k,Zn,Zn]:=rfl;rw[e,h]
noncomputable def known:D:=.lst [.str [115,116,111,112],.str [115,116,111,112,115],.str [115],.str [111,112,101,110],.str [97,98,99,100,101,102,103,104]]
def wM:bU:=aX (az lU (aa (fM 7 8 (fc (aa (Zi 5) aj)) (au 7) (cX (aN gQ (aN QF (ao Qy 5 (bh 7)) (Zi 1)) (Zi 1))) (ao bZ 2 (bh 7))) aj)) (au 6)
def mk(d:Nat):D:=match wM [Zn,Zn,Zf known,Zn,Zn,Zf (.int d),Zn] with
 | .nx e=>(match e[6]? with|some (some (_,z))=>z|_=>.non)
 | _=>.non
def AllB(P:Nat->Prop):Nat->Prop
 | 0=>True
 | n+1=>AllB P n/\P n
theorem acr:∀{n},AllB P n->∀d,d<n->P d
 | 0,_,d,h=>absurd h<|Nat.not_lt_zero d
 | n+1,⟨a,b⟩,d,h=>by
  by_cases e:d=n
  ·simp_all
  ·exact acr a d (by omega)
theorem marks(d:Nat)(hd:d<32)(a b c e f:OD):wM [a,b,Zf known,c,e,Zf (.int d),f] = .nx [a,b,Zf known,c,e,Zf (.int d),Zf (mk d)]:=by refine acr (P:=λd=>wM [a,b,Zf known,c,e,Zf<|.int d,f] = .nx [a,b,Zf known,c,e,Zf<|.int d,Zf<|mk d]) ?_ d hd;refine⟨⟨⟨⟨⟨⟨⟨⟨⟨⟨⟨⟨⟨⟨⟨⟨⟨⟨⟨⟨⟨⟨⟨⟨⟨⟨⟨⟨⟨⟨⟨⟨trivial,?_⟩,?_⟩,?_⟩,?_⟩,?_⟩,?_⟩,?_⟩,?_⟩,?_⟩,?_⟩,?_⟩,?_⟩,?_⟩,?_⟩,?_⟩,?_⟩,?_⟩,?_⟩,?_⟩,?_⟩,?_⟩,?_⟩,?_⟩,?_⟩,?_⟩,?_⟩,?_⟩,?_⟩,?_⟩,?_⟩,?_⟩,?_⟩<;>kernel_rfl
noncomputable def amm:D->Bool
 | .lst _=>true
 | _=>false
theorem aba(d)(hd:d<32):∃zs,mk d = .lst zs:=by
 have h:((List.range 32).all λd=>amm<|mk d)=true:=by rfl
 have h1:=Qw1.mp h d<|Qx0.mpr hd;cases e:mk d with
 | lst zs=>simp_all
 | _=>rw[e] at h1;cases h1
inductive Rows:List D->List D->Prop where
 | nil:Rows [] []
 | cons {s m:D} {ss rs:List D}:Rows ss rs->Rows (s::ss) (.tup [s,m]::rs)
theorem Rows.len(h:Rows ss rs):rs.length=ss.length:=by
 induction h with
 | nil=>rfl
 | cons _ ih=>simp_all
theorem eQ{i:Nat}{env e:Ev.Env}(h0:env[i]? = some (Zl x0))(h1:a env = .ok d e)(h2:e[i]? = some (Zl xs))(hz:xs.length<sizeLine):iH i a env = .nx (e.set i (Zl (xs++[d]))):=by
 unfold iH;rw[h0];show eY (a env) _=_;rw[h1];show(match e[i]? with|some (some (true,.lst xs))=>if xs.length<sizeLine then Out.nx (e.set i<|Zl<|xs++[d]) else .stuck|_=>.stuck)=_
 simp_all
structure XOk(x:List Nat):Prop where
 len:x.length<=4
 pos:0<x.length
 nd:x.Nodup
 ne:35 ∉ x
inductive XSt
 | mk
noncomputable def XS:XSt:=.mk
instance:Membership (List Nat) XSt:=⟨λ_ x=>XOk x⟩
theorem Gj(h:x∈XS):XOk x:=h
theorem anb(h:XOk x):x∈XS:=h
theorem o7:∀x∈XS,x.length<=4:=λ_ h=>(Gj h).len
theorem acy(h:x∈XS):(∃a,x=[a])\/(∃a b,x=[a,b])\/(∃a b c,x=[a,b,c])\/∃a b c d,x=[a,b,c,d]:=by
 have h1:=(Gj h).len;have h2:=(Gj h).pos
 match x,h1,h2 with
 | [a],_,_=>exact .inl ⟨a,rfl⟩
 | [a,b],_,_=>exact .inr<|.inl ⟨a,b,rfl⟩
 | [a,b,c],_,_=>exact .inr<|.inr<|.inl ⟨a,b,c,rfl⟩
 | [a,b,c,d],_,_=>exact .inr<|.inr<|.inr ⟨a,b,c,d,rfl⟩
theorem adq(h:Rows ss rs):∀(a v1 v2:OD),∃w1 w2,uJ (d8 2 (bu (au 1) (bu (au 2) eG))) cR (aM 1) rs [a,v1,v2] = .ok ss [a,w1,w2]:=by
 induction h with
 | nil=>exact λa v1 v2=>⟨v1,v2,rfl⟩
 | cons _ ih=>
  rename_i s m ss rs _;intro a v1 v2;obtain⟨w1,w2,e⟩:=ih a (Zf s)<|Zf m;refine⟨w1,w2,?_⟩;unfold uJ;show bindR (uJ _ cR (aM 1) rs [a,Zf s,Zf m]) _=_;rw[e]
  rfl
theorem Hu(hx:x∈XS)(h:Rows (gW x) rs):fM 1 3 (iD (aM 0)) (d8 2 (bu (au 1) (bu (au 2) eG))) cR (aM 1) [Zf (.tup rs)] = .ok (.lst (gW x)) [Zf (.tup rs)]:=by obtain⟨w1,w2,e⟩:=adq h (Zf<|.tup rs) none none;exact uy (n:=3) (aG:=[Zf (.tup rs)]) rfl rfl (by exact e) (by unfold gW;rw[Qqz];exact Qqj (o7 x hx) (by decide))
theorem sounds_of(hx:x∈XS)(h:Rows (gW x) rs):d9 [.tup rs]=some (.tup (gW x)):=
 fD (cP<|bz (aR (Hu hx h) cu) rfl)
theorem join_eq:∀x∈XS,pq (.str []) (.lst (gW x))=some (.str x):=by intro x hx;rcases acy hx with ⟨a,rfl⟩|⟨a,b,rfl⟩|⟨a,b,c,rfl⟩|⟨a,b,c,d,rfl⟩<;>rfl
theorem TV(hx:x∈XS)(h:Rows (gW x) rs):je [.tup rs]=some (.str x):=
 fD (cP<|cD rfl (Hu hx h) (join_eq x hx))
theorem aeT(h:a env = .ok ds e)(h':qO ds=some ys):fc a env = .ok ys e:=by
 unfold fc;rw[h];show fG (qO ds) e=_;rw[h']
 rfl
theorem jM(n)(m:Nat)(h0:0<m)(h1:m<1073741824):bf [.lst [.int n],.int m]=some (.int (n % m),.lst [.int (n / m)]):=by
 refine jB (env:=[Zl [.int (n / m)],Zf<|.int m,Zf<|.int<|n % m]) ?_ rfl;unfold jJ;have g:xC [.int n,.int m]=some (.tup [.int (n / m),.int<|n % m]):=by show(if 0<(m:Int)/\(m:Int)<1073741824 then _ else _)=_;rw[if_pos (by omega)]
 refine(aL (e:=[Zl [.int (n / m)],Zf<|.int m,Zf<|.int<|n % m]) ?_).trans rfl;exact bY (bz (by rfl) g) (by rfl)
noncomputable def isT:Option D->Bool
 | some (.bl true)=>true
 | _=>false
theorem yZ(h:isT o=true):o=some (.bl true):=by
 cases o with
 | none=>cases h
 | some d=>cases d with
  | bl b=>cases b with
   | true=>rfl
   | false=>cases h
  | _=>cases h
noncomputable def M(x:List Nat):Nat:=2*2^x.length - 1
def Z5:bU:=aF (aX (aN cA (Zw [35]) (bh 1)) (au 3)) (aY (az dX (aa (fM 4 5 (fc (aa (az cY (aa (bh 3) aj)) aj)) (au 4) (cX (aN gQ (aN QF (ao Qy 2 (bh 4)) (Zi 1)) (Zi 1))) (ao bZ 3 (bh 4))) aj)))
noncomputable def bit(d k:Nat):Bool:=Builtin.bitAnd ((1+(d:Int)) / 2^k) 1 == 1
def sgR(x:List Nat)(d:Nat):D:=.tup ((((List.range (x.length+1)).filter (bit d)).map λk=>(35::x).getD k 0).map λc=>.str [c])
def SG(x:List Nat):List D:=.non::(List.range (M x)).map (sgR x)
theorem adi(a:OD):∀x∈XS,∀d,d<M x->∃e3,Z5 [a,Zs x,Zf (.int (1+d)),Zn] = .rt false (sgR x d) [a,Zs x,Zf (.int (1+d)),e3]:=by
 intro x hx d hd;have hl:=o7 x hx;refine⟨Zs (35::x),?_⟩;unfold Z5;refine(aL<|bY (d:=.str (35::x)) (cD rfl rfl ?_) rfl).trans ?_
 ·unfold cA;exact if_pos<|Qqj (show 1+x.length<=5 by omega) (by decide)
 ·have h:fM 4 5 (fc<|aa (az cY<|aa (bh 3) aj) aj) (au 4) (cX<|aN gQ (aN QF (ao Qy 2<|bh 4)<|Zi 1)<|Zi 1) (ao bZ 3<|bh 4) [a,Zs x,Zf<|.int<|1+(d:Int),Zs (35::x)] = .ok (.lst<|((List.range<|x.length+1).filter<|bit d).map λk=>.str [(35::x).getD k 0]) [a,Zs x,Zf<|.int<|1+(d:Int),Zs (35::x)]:=by
   refine Br (n:=5) (List.range<|x.length+1) (λk=>.int (k:Int)) (bit d) (λk=>.str [(35::x).getD k 0]) ?_ rfl rfl (λk hk=>?_) (λk hk _=>?_) (by rw[List.length_range];exact Qqj (show x.length+1<=5 by omega) (by decide))
   ·exact aeT rfl (Cz<|Qw0 (show(35::x).length<=5 by simp_all) (by decide))
   ·rfl
   ·refine bM (i:=3) rfl rfl rfl ?_;show(qF (35::x) (k:Int)).map _=_;have hk':k<(35::x).length:=Qx0.mp hk;rw[lY (v:=(35::x).getD k 0) (by simp_all)]
    rfl
  refine cP<|bz (aR h cu) ?_;unfold sgR;rw[Qz2]
  rfl
theorem signs(n)(x)(hx:x∈XS):∃r n',m8 [.lst [.int n],.str x]=some (r,.lst [.int n'])/\r∈SG x:=by
 obtain⟨d,hd,e⟩:=dig n 2 (by decide);have t:cX (aN gQ (dM bf 0<|aa (Zi 2) aj)<|Zi 0) [Zl [.int n],Zs x,Zn,Zn] = .ok ((d:Int) == 0) [Zl [.int (n / 2)],Zs x,Zn,Zn]:=by
  rw[<-e]
  rfl
 have hc:d=0\/d=1:=by omega
 rcases hc with rfl|rfl
 ·refine⟨.non,n / 2,jB (env:=[Zl [.int (n / 2)],Zs x,Zn,Zn]) ?_ rfl,Qq3 ..⟩;unfold ni;refine(jU ?_).trans rfl;exact(iQ t).trans rfl
 ·obtain⟨k,hk,ek⟩:=dig (n / 2) (M x) (by unfold M;have:0<2^x.length:=Nat.two_pow_pos _;omega);obtain⟨e3,h3⟩:=adi (Zl [.int (n / 2 / (M x:Int))]) x hx k hk;refine⟨sgR x k,n / 2 / (M x:Int),jB (env:=[Zl [.int (n / 2 / (M x:Int))],Zs x,Zf<|.int<|1+(k:Int),e3]) ?_ rfl,Qqy _<|Qw3.mpr ⟨k,Qx0.mpr hk,rfl⟩⟩;unfold ni;refine(aL (e:=[Zl [.int (n / 2)],Zs x,Zn,Zn]) ?_).trans ?_
  ·exact(fK t).trans rfl
  ·refine(aL (e:=[Zl [.int (n / 2 / (M x:Int))],Zs x,Zf<|.int<|1+n / 2 % (M x:Int),Zn]) ?_).trans ?_
   ·have hM:aN m7 (aN Ye (Zi 2)<|az cY<|aa (bh 1) aj) (Zi 1) [Zl [.int (n / 2)],Zs x,Zn,Zn] = .ok (.int (M x:Int)) [Zl [.int (n / 2)],Zs x,Zn,Zn]:=by
     have hl:=o7 x hx;refine cD (x:=.int<|2*2^x.length) (cD rfl rfl ?_) rfl ?_
     ·unfold Ye gI;simp only;rw[if_pos (Qw2 ⟨Int.natCast_nonneg _,by omega,by decide⟩),Qxw]
     ·show some (D.int<|2*2^x.length - 1)=_;have hp:0<2^x.length:=Nat.two_pow_pos _;have e:((M x:Nat):Int)=2*2^x.length - 1:=by
       unfold M;rw[Int.natCast_sub (by omega),Int.natCast_mul,Int.natCast_pow]
       rfl
      rw[e]
    have ht:bf [.lst [.int (n / 2)],.int (M x:Int)]=some (.int<|n / 2 % (M x:Int),.lst [.int (n / 2 / (M x:Int))]):=by have hl:=o7 x hx;have hp:0<2^x.length:=Nat.two_pow_pos _;have hq:2^x.length<=2^4:=Nat.pow_le_pow_right (by decide) hl;exact jM (n / 2) (M x) (by unfold M;omega) (by unfold M;omega)
    refine bY (cD rfl (gm rfl (aR hM cu) rfl ht) rfl) rfl
   ·rw[ek];exact h3
noncomputable def oth(x:List Nat)(c:Nat):List D:=((x.map (λa=>[a])++[[]]).filter λz=>z != [c]).map .str
def PV(x:List Nat):List (Nat×D):=x.flatMap λc=>(oth x c).map λv=>(c,v)
def one:bU:=aX (ao bZ 1 (dM bf 0 (aa (az cY (aa (bh 1) aj)) aj))) (au 4)
def others:bU:=gr 5 (fM 6 7 (iD (aN cA (az qz (aa (bh 1) aj)) (dF (aa (Zw []) aj)))) (au 6) (cX (ao Gr 6 (bh 4))) (aM 6))
def CK:bU:=rY 2 (aM 4) (ao bZ 5 (dM bf 0 (aa (az cY (aa (bh 5) aj)) aj)))
theorem Xm(a b v3 v5:OD):∀x∈XS,∀c∈x,others [a,Zs x,b,v3,Zs [c],v5] = .nx [a,Zs x,b,v3,Zs [c],Zl (oth x c)]:=by
 intro x hx c hc;have hl:=o7 x hx;unfold others;refine(BX (e:=[a,Zs x,b,v3,Zs [c],v5]) ?_).trans rfl;have h5:(x.map (λa=>[a])++[[]]).length<=5:=by simp_all
 refine Br (x.map (λa=>[a])++[[]]) D.str (λz=>z != [c]) D.str ?_ rfl rfl (λz hz=>rfl) (λz hz _=>rfl) (Qqj h5 (by decide));refine Mx (d:=.lst<|((x.map λa=>[a])++[[]]).map D.str) (cD rfl rfl ?_) rfl;rw[Qxk,Qz2];refine QG (a:=gW x) ?_;unfold gW;rw[Qqz];exact Qqj (Nat.succ_le_succ hl) (by decide)
theorem ad0:∀x∈XS,∀c∈x,(oth x c).length=x.length:=by
 intro x hx c hc;have h1:=List.length_erase_of_mem hc;rw[(Gj hx).nd.erase_eq_filter] at h1;have e:(λz:List Nat=>z != [c]) ∘ (λa=>[a])=λa=>a != c:=by grind
 unfold oth
 grind
theorem zE:∀x∈XS,0<x.length:=λ_ h=>(Gj h).pos
theorem W0{i:Nat}{env e1 e2:Ev.Env}(h1:a env = .ok d e1)(h2:e1[i]? = some (some (o,x0)))(h3:k e1 = .ok kd e2)(h4:e2[i]? = some (Zt (.dct kvs)))(h5:rQ kd=some q)(hz:kvs.length<sizeLine) :
  rY i k a env = .nx (e2.set i (Zt (.dct (putD kvs kd q d)))):=by
 unfold rY;rw[h1];simp[eY]
 simp_all
def adI(kvs:List (D×D))(p:Nat×D):List (D×D):=putD kvs (.str [p.1]) (.inr (strOf [p.1])) p.2
theorem round(n)(x)(hx:x∈XS)(kvs)(hk:kvs.length<=10)(v3 v4 v5:OD):∃p n' v4' v5',p∈PV x/\aF one (aF others CK) [Zl [.int n],Zs x,Zt (.dct kvs),v3,v4,v5] = .nx [Zl [.int n'],Zs x,Zt (.dct (adI kvs p)),v3,v4',v5']:=by
 have hp:=zE x hx;have hl4:=o7 x hx;obtain⟨d,hd,e⟩:=dig n x.length hp;have hc:x[d]∈x:=Qxq hd;have hol:=ad0 x hx x[d] hc;obtain⟨d',hd',e'⟩:=dig (n / (x.length:Int)) x.length hp;have hv:d'<(oth x x[d]).length:=by omega
 refine⟨(x[d],(oth x x[d])[d']),n / (x.length:Int) / (x.length:Int),Zs [x[d]],Zl<|oth x x[d],?_,?_⟩
 ·unfold PV
  simp_all
 ·refine(aL (e:=[Zl [.int (n / (x.length:Int))],Zs x,Zt<|.dct kvs,v3,Zs [x[d]],v5]) ?_).trans ?_
  ·unfold one;refine bY (e:=[Zl [.int (n / (x.length:Int))],Zs x,Zt<|.dct kvs,v3,v4,v5]) ?_ (by rfl);refine bM (y:=.int<|n % (x.length:Int)) (by rfl) ?_ (by rfl) ?_
   ·exact gm (e1:=[Zl [.int n],Zs x,Zt<|.dct kvs,v3,v4,v5]) (by rfl) (by rfl) (by rfl)<|jM n x.length hp (by omega)
   ·show(qF x<|n % (x.length:Int)).map _=_;rw[e,M9 hd]
    rfl
  ·refine(aL<|Xm _ _ _ _ x hx x[d] hc).trans ?_;unfold CK;refine(W0 (e1:=[Zl [.int (n / (x.length:Int) / (x.length:Int))],Zs x,Zt<|.dct kvs,v3,Zs [x[d]],Zl<|oth x x[d]])
    ?_ (by rfl) (by rfl) (by rfl) (by rfl) (Qw0 hk (by decide))).trans rfl
   refine bM (y:=.int<|n / (x.length:Int) % (x.length:Int)) (by rfl) ?_ (by rfl) ?_
   ·refine gm (e1:=[Zl [.int (n / (x.length:Int))],Zs x,Zt<|.dct kvs,v3,Zs [x[d]],Zl (oth x x[d])]) (by rfl) ?_ (by rfl) (jM _ x.length hp (by omega));refine aR ?_ cu;refine bz (by rfl) ?_;show some (D.int ((oth x x[d]).length:Int))=_;rw[hol]
   ·show qF (oth x x[d]) (n / (x.length:Int) % (x.length:Int))=_;rw[e',M9 hv]
def acn(kvs:List (D×D)):Option D:=match lU [.dct kvs] with
 | some (.lst ks)=>if (ks.all λk=>(kZ (.dct kvs) k).isSome) then some (.tup (ks.map λk=>.tup [k,(kZ (.dct kvs) k).getD .non])) else none
 | _=>none
def ajJ:bU:=aY (az dX (aa (fM 6 7 (iD (az lU (aa (bh 2) aj))) (au 6) cR (cI (Zv 6 (aa (ao kZ 2 (bh 6)) aj)))) aj))
theorem Qw(h:lU [.dct kvs]=some (.lst ks)):ks.length<=64:=by
 obtain⟨zs,h1,h2⟩:=Qx1.mp h;split at h2
 ·rename_i hz;cases h2;rw[Qqz,(iY zs).length_eq];omega
 ·cases h2
theorem xN(h:acn kvs=some ch)(a b v3 v4 v5:OD):ajJ [a,b,Zt (.dct kvs),v3,v4,v5] = .rt false ch [a,b,Zt (.dct kvs),v3,v4,v5]:=by
 unfold acn at h;split at h
 ·rename_i ks hs;split at h
  ·rename_i hall;cases h;obtain⟨env',h1,v6,rfl⟩:=Vs (g:=au 6) (e:=cI<|Zv 6<|aa (ao kZ 2<|bh 6) aj) (λenv=>∃v6,env=[a,b,Zt<|.dct kvs,v3,v4,v5,v6]) (λk=>.tup [k,(kZ (.dct kvs) k).getD .non]) ks [a,b,Zt<|.dct kvs,v3,v4,v5,Zn] ⟨none,rfl⟩
    (λk hk env ⟨v6,he⟩=>by
     subst he;obtain⟨v,hv⟩:=Qw8.mp<|Qw1.mp hall k hk;refine⟨_,[a,b,Zt<|.dct kvs,v3,v4,v5,Zf k],rfl,?_,Zf k,rfl⟩;rw[hv];exact o5 (aR (by rfl)<|aR (bM (by rfl) (by rfl) (by rfl) hv) cu) Ev.zz2)
   refine cP<|bz (ds:=[.lst (ks.map λk=>.tup [k,(kZ (.dct kvs) k).getD .non])]) (aR ?_ cu) rfl;refine uy (n:=7) (aG:=[a,b,Zt<|.dct kvs,v3,v4,v5]) ?_ (by rfl) h1 ?_
   ·exact Mx (bz (by rfl) hs) rfl
   ·rw[Qqz];exact Qqj (Qw hs) (by decide)
  ·cases h
 ·cases h
structure Gp(x:List Nat)(kvs:List (D×D))(zs:List Nat):Prop where
 keys:kvs.map (·.1)=zs.map λc=>D.str [c]
 nd:zs.Nodup
 mem:∀c∈zs,c∈x
 vals:∀k v,(k,v)∈kvs->∃c,k = .str [c]/\(c,v)∈PV x
theorem mz(h:strOf a=strOf b):a=b:=by
 have:=Qzx (λs:Str=>s.cps.toList) h
 assumption
theorem yo(q)(d):∀kvs,(Ax kvs q d).map (·.1)=kvs.map (·.1)
 | []=>rfl
 | (k,e)::r=>by
  unfold Ax;rw[Qq2,Qq2,yo q d r]
  grind
theorem Cg:∀{kvs} {k v},(k,v)∈Ax kvs q d->(k,v)∈kvs\/(rQ k=some q/\v=d)
 | [],_,_,h=>by simp[Ax] at h
 | (k',e)::r,k,v,h=>by
  unfold Ax at h;rcases Qq8.mp h with h|h
  ·grind
  ·rcases Cg h with h|h
   all_goals simp_all
theorem yg:∀{kvs},qI kvs q=none->∀k v,(k,v)∈kvs->rQ k≠some q
 | [],_,k,v,hm=>by simp at hm
 | (k',e)::r,h,k,v,hm=>by
  unfold qI at h;split at h
  ·cases h
  ·rename_i hk;rcases Qq8.mp hm with hm|hm
   ·simp_all
   ·exact yg h k v hm
theorem qj:∀{kvs},qI kvs q=some d->∃k,(k,d)∈kvs/\rQ k=some q
 | [],h=>by simp[qI] at h
 | (k',e)::r,h=>by
  unfold qI at h;split at h
  ·simp_all
  ·obtain⟨k,h1,h2⟩:=qj h
   grind
theorem Gp.put(h:Gp x kvs zs)(hp:p∈PV x)(hx:p.1∈x):∃zs',Gp x (adI kvs p) zs'/\0<zs'.length/\zs'.length<=zs.length+1:=by
 unfold adI putD;cases e:qI kvs (.inr<|strOf [p.1]) with
 | none=>
  simp[Option.isSome_none,Bool.false_eq_true,if_false];refine⟨zs++[p.1],⟨?_,?_,λc hc=>?_,λk v hm=>?_⟩,by simp,by simp⟩
  ·rw[Qxk,Qxk,h.keys];rfl
  ·refine List.nodup_append.mpr ⟨h.nd,Qz3.mpr ⟨List.not_mem_nil,.nil⟩,λa ha b hb=>?_⟩;rcases Qq9.mp hb with rfl;rintro rfl;have hm:D.str [p.1]∈kvs.map (·.1):=by rw[h.keys];exact Qw3.mpr ⟨p.1,ha,rfl⟩
   obtain⟨⟨k,v⟩,h1,h2⟩:=Qw3.mp hm;have h2':=h2;subst h2';exact yg e _ _ h1 rfl
  ·rcases Qw7.mp hc with hc|hc
   ·exact h.mem c hc
   ·rw[Qq9.mp hc];exact hx
  ·rcases Qw7.mp hm with hm|hm
   ·exact h.vals k v hm
   ·have:=Qq9.mp hm;cases this;exact⟨p.1,rfl,hp⟩
 | some w=>
  simp[Option.isSome_some,if_true];obtain⟨k0,hk0,_⟩:=qj e;have hne:0<zs.length:=by have:=Qzx List.length h.keys;rw[Qqz,Qqz] at this;rw[<-this];exact List.length_pos_of_mem hk0
  refine⟨zs,⟨by rw[yo];exact h.keys,h.nd,h.mem,λk v hm=>?_⟩,hne,Nat.le_succ _⟩;rcases Cg hm with hm|⟨hk,rfl⟩
  ·exact h.vals k v hm
  ·have hin:k∈(Ax kvs (.inr<|strOf [p.1]) p.2).map (·.1):=Qw3.mpr ⟨_,hm,rfl⟩;rw[yo,h.keys] at hin;obtain⟨c,hc,rfl⟩:=Qw3.mp hin;have:strOf [c]=strOf [p.1]:=by
    have:=Qw4 hk;exact Sum.inr.inj this
   have e2:=mz this;cases e2;exact⟨p.1,rfl,hp⟩
theorem zG(h:p∈PV x):p.1∈x:=by
 unfold PV at h
 grind
theorem uq(zs:List (List Nat)):jx (zs.map D.str)=some zs:=by
 induction zs with
 | nil=>rfl
 | cons z r ih=>
  rw[Qq2];unfold jx
  simp_all
theorem W5(h:Gp x kvs zs)(h4:zs.length<=4):lU [.dct kvs]=some (.lst ((jy (zs.map λc=>[c])).map .str)):=by
 have e:kvs.map (·.1)=(zs.map λc=>[c]).map D.str:=by rw[h.keys,Qz2];rfl
 show(jx<|kvs.map (·.1)).bind _=_;rw[e,uq];show(if _ then _ else _)=_;rw[if_pos];refine⟨by grind,λz hz=>?_⟩;obtain⟨c,_,rfl⟩:=Qw3.mp hz;show 1<=sizeLine
 decide
def prs(kvs:List (D×D))(ks:List D):List D:=ks.map λk=>.tup [k,(kZ (.dct kvs) k).getD .non]
theorem yX(h:Gp x kvs zs)(k)(hk:k∈(jy (zs.map λc=>[c])).map D.str):∃c v,k = .str [c]/\kZ (.dct kvs) k=some v/\(c,v)∈PV x:=by
 obtain⟨z,hz,rfl⟩:=Qw3.mp hk;obtain⟨c,hc,rfl⟩:=Qw3.mp<|(iY _).mem_iff.mp hz;have hm:D.str [c]∈kvs.map (·.1):=by rw[h.keys];exact Qw3.mpr ⟨c,hc,rfl⟩
 obtain⟨⟨k,v⟩,h1,h2⟩:=Qw3.mp hm;have h2':=h2;subst h2';cases e:qI kvs (.inr<|strOf [c]) with
 | none=>exact absurd rfl (yg e _ _ h1)
 | some w=>
  obtain⟨k',h3,h4⟩:=qj e;obtain⟨c',rfl,h5⟩:=h.vals k' w h3;have e2:=Sum.inr.inj<|Qw4 h4;cases mz e2;exact⟨c,w,rfl,e,h5⟩
theorem xO(h:Gp x kvs zs)(h4:zs.length<=4):acn kvs=some (.tup (prs kvs ((jy (zs.map λc=>[c])).map D.str))):=by
 unfold acn;rw[W5 h h4];simp only;rw[if_pos]
 ·rfl
 ·refine Qw1.mpr λk hk=>?_;obtain⟨c,v,_,e,_⟩:=yX h k hk;rw[e];rfl
end mj
namespace Ni
open Ev
def jJ:bU:=mR.jJ
def bf:List D->Option (D×D):=lE 3 jJ
def rB:bU:=aY (aN pq (Zw []) (fM 3 4 (fc (aa (dM bf 0 (aa (ao cA 2 (Zi 1)) aj)) aj)) (au 3) cR (ao bZ 1 (dM bf 0 (aa (az cY (aa (bh 1) aj)) aj)))))
def mH:List D->Option (D×D):=lE 3 rB
open Ev PySem L2
noncomputable abbrev XS:=mj.XS
theorem zE:∀x∈XS,0<x.length:=λ_ h=>(mj.Gj h).pos
open mj (jM)
theorem Mi(P:Ev.Env->Prop)(R:D->Prop):∀ds env,P env->(∀d∈ds,∀env,P env->∃y e1 e2,g d env=some e1/\e e1 = .ok y e2/\P e2/\R y)->∃ys env',uJ g cR e ds env = .ok ys env'/\P env'/\(∀y∈ys,R y)/\ys.length=ds.length
 | [],env,hp,_=>⟨[],env,rfl,hp,λy hy=>by simp at hy,rfl⟩
 | d::ds,env,hp,h=>by
  obtain⟨y,e1,e2,h1,h2,h3,h4⟩:=h d (Qq3 ..) env hp;obtain⟨ys,e3,h5,h6,h7,h8⟩:=Mi P R ds e2 h3 λd' hd=>h d'<|Qqy _ hd;refine⟨y::ys,e3,?_,h6,λz hz=>?_,by simp_all⟩
  ·unfold uJ;rw[h1];show bindR (e e1) _=_;rw[h2];show bindR (uJ g cR e ds e2) _=_;rw[h5]
   rfl
  grind
theorem Ie:∀zs,zQ [] zs=zs.flatten
 | []=>rfl
 | x::r=>by
  show r.foldl (λacc y=>acc++[]++y) x=(x::r).flatten;have go:∀(r:List (List Nat)) x,r.foldl (λacc y=>acc++[]++y) x=x++r.flatten:=by
   intro r
   induction r with
   | nil=>intro x;simp
   | cons y r ih=>simp_all
  rw[go];rfl
theorem uq(zs:List (List Nat)):jx (zs.map D.str)=some zs:=by
 induction zs with
 | nil=>rfl
 | cons z r ih=>
  rw[Qq2];unfold jx
  simp_all
theorem R4{zs:List (List Nat)}(h:∀z∈zs,z.length<=k):(zs.map List.length).sum<=zs.length*k:=by
 induction zs with
 | nil=>simp
 | cons z r ih=>
  rw[Qq2,List.sum_cons,Qqw,Nat.add_mul]
  grind
theorem Yj(h1:zs.length<=100)(h2:∀z∈zs,z.length<=10):joinFits [] zs=true:=by
 refine Qw2 ?_;have:=R4 h2
 grind
theorem join_eq{zs:List (List Nat)}(h1:zs.length<=100)(h2:∀z∈zs,z.length<=10):pq (.str []) (.lst (zs.map .str))=some (.str zs.flatten):=by show(match jx (zs.map D.str) with|some xs=>if joinFits [] xs=true then some (D.str<|zQ [] xs) else none|none=>none)=_;rw[uq];show(if joinFits [] zs=true then _ else _)=_;rw[if_pos (Yj h1 h2),Ie]
theorem U9{x:List Nat}:∀{ys},(∀y∈ys,∃c∈x,y = .str [c])->∃w:List Nat,ys=(w.map λc=>[c]).map D.str/\∀c∈w,c∈x
 | [],_=>⟨[],rfl,λc hc=>by simp at hc⟩
 | y::ys,h=>by
  obtain⟨c,hc,rfl⟩:=h y<|Qq3 ..;obtain⟨w,rfl,hw⟩:=U9 λz hz=>h z<|Qqy _ hz;refine⟨c::w,rfl,λd hd=>?_⟩
  grind
theorem ab0(w:List Nat):(w.map λc=>[c]).flatten=w:=by
 induction w with
 | nil=>rfl
 | cons c r ih=>simp_all
theorem Cz{j:Nat}(h:j<1000):qO [.int j]=some (fJ 0 1 j):=by
 have hf:j6 j=true:=by
  unfold j6
  grind
 unfold qO
 simp_all
theorem qD(h:a env = .ok ds e)(h':qO ds=some ys):fc a env = .ok ys e:=by
 unfold fc;rw[h];show fG (qO ds) e=_;rw[h']
 rfl
theorem word(n)(x)(hx:x∈XS)(m:Nat)(hm:m<=50):∃w n',mH [.lst [.int n],.str x,.int m]=some (.str w,.lst [.int n'])/\(∀c∈w,c∈x)/\w.length<=m:=by
 have hp:=zE x hx;have hl4:=mj.o7 x hx;obtain⟨d,hd,e⟩:=dig n (m+1) (by omega);obtain⟨ys,env',h1,⟨n',v3,rfl⟩,h3,h4⟩:=Mi (g:=au 3) (e:=ao bZ 1<|dM bf 0<|aa (az cY<|aa (bh 1) aj) aj) (λenv=>∃n v3,env=[Zl [.int n],Zs x,Zf<|.int (m:Int),v3]) (λy=>∃c∈x,y = .str [c]) (fJ 0 1 d)
  [Zl [.int (n / ((m+1:Nat):Int))],Zs x,Zf<|.int (m:Int),Zn] ⟨_,_,rfl⟩
  (λs _ env ⟨n,v3,he⟩=>by
   subst he;obtain⟨j,hj,ej⟩:=dig n x.length hp;refine⟨.str [x[j]],[Zl [.int n],Zs x,Zf<|.int (m:Int),Zf s],[Zl [.int (n / (x.length:Int))],Zs x,Zf<|.int (m:Int),Zf s],rfl,?_,⟨_,_,rfl⟩,x[j],Qxq hj,rfl⟩;refine bM (y:=.int<|n % (x.length:Int)) (by rfl) ?_ (by rfl) ?_
   ·exact gm (e1:=[Zl [.int n],Zs x,Zf<|.int (m:Int),Zf s]) (by rfl) (by rfl) (by rfl)<|jM n x.length hp (by omega)
   ·show(qF x<|n % (x.length:Int)).map _=_;rw[ej,M9 hj]
    rfl)
 obtain⟨w,rfl,hw⟩:=U9 h3;have hwl:w.length=d:=by have:=h4;rw[Qqz,Qqz,iu] at this;exact this
 refine⟨w,n',jB (env:=[Zl [.int n'],Zs x,Zf<|.int (m:Int)]) ?_ rfl,hw,by omega⟩;unfold rB;refine cP<|cD (by rfl) (y:=.lst<|(w.map λc=>[c]).map D.str) ?_ ?_
 ·refine uy (n:=4) (aG:=[Zl [.int (n / ((m+1:Nat):Int))],Zs x,Zf<|.int (m:Int)]) ?_ (by rfl) h1 ?_
  ·refine qD (ds:=[.int (n % ((m+1:Nat):Int))]) ?_ (by rw[e];exact Cz (by omega));refine aR ?_ cu;exact gm (e1:=[Zl [.int n],Zs x,Zf (.int (m:Int))]) (by rfl) (by rfl) (by rfl) (jM n (m+1) (by omega) (by omega))
  ·rw[Qqz,Qqz,hwl];exact Qqj (show d<=100 by omega) (by decide)
 ·have:=join_eq (zs:=w.map λc=>[c]) (by grind) (λz hz=>by grind);rw[ab0] at this;exact this
noncomputable def texts(x:List Nat):List (List Nat):=[[],[x.headD 0],[x.getLastD 0],[x.headD 0,x.headD 0],[x.headD 0,x.getLastD 0]]
end Ni
namespace qi
open Ev
def lX:bU:=mR.lX
def jh:LD:=cj 2 lX
def j0:bU:=mR.j0
def tU:LD:=cj 5 j0
def jt:bU:=mR.jt
def oG:LD:=cj 1 jt
def eO:bU:=aF (aX (aM 0) (d8 4 (bu (au 2) (bu (au 3) (bu (au 4) (bu (au 5) eG)))))) (aF (aX (aN bZ (ao bZ 3 (Zi 0)) (Zi 1)) (au 6)) (aF (gr 7 (dF aj)) (aF (aX (Zw [35]) (au 8)) (aF (gU (iD (ao cA 1 (Zw [35]))) (au 9) (aF (cJ (fZ (cX (az jh (Zv 4 (Zv 8 aj)))) (cX (az jh (Zv 5 (Zv 9 aj))))) (iH 7 (aM 6)) bJ) (aF (iH 7 (aM 9)) (aX (aM 9) (au 8))))) (aY (aN pq (Zw []) (zm (aM 7) mq (xG (dY rR (Zi 1))))))))))
def jr:LD:=cj 10 eO
def dU:bU:=aF (aX (aM 0) (d8 4 (bu (au 2) (bu (au 3) (bu (au 4) (bu (au 5) eG)))))) (aF (aX (az uM (aa (bh 3) aj)) (au 6)) (aF (aX (ao cA 1 (Zw [35])) (au 7)) (aF (gr 8 (dF aj)) (aF (aX (Zw [35]) (au 9)) (aF (gU (Uh (Zv 1 aj)) (d8 2 (bu (au 10) (bu (au 11) eG))) (aF (aX (aM 11) (au 12)) (aF (cJ (fZ (cX (ao p7 11 (bh 6))) (fZ (cX (az jh (Zv 4 (Zv 9 aj)))) (cX (az jh (Zv 5 (aa (ao bZ 7 (ao cA 10 (Zi 1))) aj)))))) (aX (ao kZ 6 (bh 11)) (au 12)) bJ) (aF (iH 8 (aM 12)) (cJ (cX (ao gQ 2 (Zw [111,110,99,101]))) (aX (aM 11) (au 9)) (cJ (cX (ao Gr 12 (Zw []))) (aX (aM 12) (au 9)) bJ)))))) (aY (aN pq (Zw []) (bh 8))))))))
def iU:LD:=cj 13 dU
def fj:bU:=mR.fj
def jH:LD:=cj 2 fj
def ig:bU:=mR.ig
def lr:LD:=cj 3 ig
def kJ:bU:=mR.lX
def cT:LD:=cj 2 kJ
def fW:bU:=aF (aX (aN cA (aN cA (Zw [35]) (bh 1)) (Zw [35])) (au 2)) (aF (aX (Zw []) (au 3)) (aF (gU (fc (aa (Zi 1) (aa (az cY (aa (bh 2) aj)) aj))) (au 4) (aF (cJ (fZ (cX (az cT (aa (ao bZ 0 (Zi 2)) (aa (ao bZ 2 (ao m7 4 (Zi 1))) aj)))) (cX (az cT (aa (ao bZ 0 (Zi 3)) (aa (ao bZ 2 (bh 4)) aj))))) (aX (ao cA 3 (aN bZ (aN bZ (ao bZ 0 (Zi 1)) (Zi 0)) (Zi 1))) (au 3)) bJ) (aX (ao cA 3 (ao bZ 2 (bh 4))) (au 3)))) (aY (zY (aM 3) mq (xG (dY rR (Zi 1)))))))
def jf:LD:=cj 5 fW
def dC:bU:=aF (aX (aM 0) (d8 4 (bu (au 2) (bu (au 3) (bu (au 4) (bu (au 5) eG)))))) (aF (cJ (cX (aN gQ (aN bZ (ao bZ 3 (Zi 0)) (Zi 0)) (Zw []))) (aY (az jf (Zv 0 (Zv 1 aj)))) bJ) (aF (aX (az uM (aa (bh 3) aj)) (au 6)) (aF (aX (aN cA (aN cA (Zw [35]) (bh 1)) (Zw [35])) (au 7)) (aF (aX (Zw [35]) (au 8)) (aF (gU (fc (aa (Zi 1) (aa (aN m7 (az cY (aa (bh 7) aj)) (Zi 1)) aj))) (au 9) (aF (aX (ao bZ 7 (ao m7 9 (Zi 1))) (au 10)) (aF (cJ (cX (ao gQ 2 (Zw [97,108,111,110,103]))) (aX (ao bZ 8 (dY rR (Zi 1))) (au 10)) bJ) (cJ (fZ (cX (aN p7 (ao bZ 7 (bh 9)) (bh 6))) (fZ (cX (az cT (Zv 4 (Zv 10 aj)))) (cX (az cT (Zv 5 (aa (ao bZ 7 (ao cA 9 (Zi 1))) aj)))))) (aX (ao cA 8 (ao kZ 6 (ao bZ 7 (bh 9)))) (au 8)) (aX (ao cA 8 (ao bZ 7 (bh 9))) (au 8)))))) (aY (zY (aM 8) (xG (Zi 1)) mq)))))))
def cV:LD:=cj 11 dC
def fV:bU:=mR.fV
def jd:LD:=cj 1 fV
def di:bU:=aF (cJ (cX (ao gQ 0 (Zw [114,105,103,104,116]))) (aY (rJ (az cV (aa (az jd (Zv 1 aj)) (aa (rJ (aM 2)) aj))))) bJ) (aY (az cV (Zv 1 (Zv 2 aj))))
def cW:LD:=cj 3 di
open Ev PySem L2
noncomputable abbrev XS:=mj.XS
open mj (zE o7 Gp PV SG acn prs one others CK xN yX adI jM zG xO)
theorem ake:∀x∈XS,∀p∈PV x,∃t,p.2 = .str t/\t.length<=1/\∀c∈t,c∈x:=by
 intro x hx p hp;obtain⟨c,hc,h⟩:=List.mem_flatMap.mp hp;obtain⟨v,hv,rfl⟩:=Qw3.mp h;obtain⟨t,ht,rfl⟩:=Qw3.mp hv
 grind
abbrev Pr:=Nat×List Nat
noncomputable def encC(p:Pr):D:=.tup [.str [p.1],.str p.2]
inductive Rn (x:List Nat):D->Prop
 | put {c:Nat}:c∈x->Rn x (.tup [.tup [.str [],.str [c]]])
 | chg {ps:List Pr}:0<ps.length->ps.length<=4->(∀p∈ps,p.1∈x/\p.2.length<=1/\∀c∈p.2,c∈x)->Rn x (.tup (ps.map encC))
structure lZ(x:List Nat)(w ch l r:D):Prop where
 way:w = .str [111,110,99,101]\/w = .str [97,108,111,110,103]
 chg:Rn x ch
 left:l∈SG x
 right:r∈SG x
def fit(l:D)(a:Nat):Bool:=mj.isT (jh [l,.str [a]])
theorem DG(a):∀z:List Nat,Ii (.str [a]) (z.map λc=>.str [c])=some (z.contains a)
 | []=>rfl
 | c::z=>by
  rw[Qq2];unfold Ii;rw[DG a z];show some (([c] == [a])||z.contains a)=_;rw[List.contains_cons]
  congr 2
  grind
theorem pA:∀x∈XS,∀l∈SG x,∀a∈35::x,jh [l,.str [a]]=some (.bl (fit l a)):=by
 intro x hx l hl a ha;have h:∃b,jh [l,.str [a]]=some (.bl b):=by
  rcases Qq8.mp hl with rfl|hl
  ·exact⟨true,rfl⟩
  ·obtain⟨d,_,rfl⟩:=Qw3.mp hl;unfold mj.sgR;generalize(((List.range<|x.length+1).filter<|mj.bit d).map λk=>(35::x).getD k 0)=z;refine⟨z.contains a,fD (env:=[Zf (.tup<|z.map λc=>.str [c]),Zs [a]])<|cP ?_⟩;have e:ao En 1 (bh 0) [Zf (.tup<|z.map λc=>.str [c]),Zs [a]] = .ok (.bl<|z.contains a) [Zf (.tup<|z.map λc=>.str [c]),Zs [a]]:=by
    refine bM rfl rfl rfl ?_;show(Option.map D.bl<|Ii (.str [a])<|z.map λc=>.str [c]).or _=_;rw[DG]
    rfl
   assumption
 obtain⟨b,e⟩:=h;unfold fit;rw[e];cases b<;>rfl
open mj (SG eQ)
theorem rH(h:a.length+b.length<=16000000):cA (.str a) (.str b)=some (.str (a++b)):=by show(if a.length+b.length<=sizeLine then _ else _)=_;rw[if_pos (Qqj h (by decide))]
theorem oH(h1:a env = .ok p env)(h2:b env = .ok q env):fZ a b env = .ok (p&&q) env:=by
 unfold fZ;rw[h1];cases p with
 | true=>exact h2
 | false=>rfl
theorem af8{zs:List (List Nat)}(h1:zs.length<=8100000)(h2:∀z∈zs,z.length<=2):pq (.str []) (.lst (zs.map .str))=some (.str zs.flatten):=by
 have hf:joinFits [] zs=true:=by
  refine Qw2 ?_;have:=Ni.R4 h2
  grind
 show(match jx (zs.map D.str) with|some xs=>if joinFits [] xs=true then some (D.str<|zQ [] xs) else none|none=>none)=_;rw[Ni.uq];show(if joinFits [] zs=true then _ else _)=_;rw[if_pos hf,Ni.Ie]
theorem M8{all done rest:List D}(h:all=done++d::rest):all[done.length]? = some d:=by rw[h];simp
theorem getD_get{z:List Nat}(h:n<z.length):z[n]? = some (z.getD n 0):=by simp_all
theorem Ig{n:Nat}(h:n<z.length):bZ (.str z) (.int n)=some (.str [z.getD n 0]):=by
 show(qF z n).map _=_;rw[lY (getD_get h)]
 rfl
theorem agR{z done rest:List _}(h:gW z=done++d::rest):d = .str [z.getD done.length 0]/\done.length<z.length:=by
 have h1:=M8 h;unfold gW at h1
 grind
theorem QZ{α:Type}(xs:List α):cutD xs none (some (-1))=xs.dropLast:=by
 unfold cutD;have e1:HT.gP xs.length xs.length (some<|-1)=((-1)+(xs.length:Int)).toNat:=rfl;have e2:HT.gP xs.length 0 none=0:=rfl;rw[e1,e2,List.drop_zero,List.dropLast_eq_take]
 grind
theorem Yr(xs):xJ xs none (some (-1))=xs.dropLast:=QZ xs
noncomputable abbrev ed(w:List Nat):List Nat:=35::(w++[35])
abbrev sg(w:List Nat)(n:Nat):Nat:=(ed w).getD n 0
section
variable{x w:List Nat}{l r:D}
theorem Ff:(ed w).length=w.length+2:=by simp
theorem vf(hw:∀c∈w,c∈x)(h:n<w.length+2):sg w n∈35::x:=by
 have h1:n<(ed w).length:=by rw[Ff];exact h
 have:sg w n∈ed w:=List.mem_of_getElem?<|getD_get h1;rcases Qq8.mp this with e|e
 ·rw[e];exact Qq3 ..
 ·rcases Qw7.mp e with e|e
  ·exact Qqy _<|hw _ e
  ·rw[Qq9.mp e];exact Qq3 ..
def pc(l r:D)(c:Nat)(w:List Nat)(n:Nat):List (List Nat):=if (fit l (sg w n)&&fit r (sg w (n+1)))=true then [[c]] else []
noncomputable def pin(l r:D)(c:Nat)(w:List Nat):Nat->List (List Nat)
 | 0=>[]
 | n+1=>pin l r c w n++(pc l r c w n++[[sg w (n+1)]])
theorem aaP(c)(n):(pc l r c w n).length<=1/\∀z∈pc l r c w n,z.length=1:=by
 unfold pc;split
 ·exact⟨Qqv _,λz hz=>by rw[Qq9.mp hz];rfl⟩
 ·exact⟨Qxx _,λz hz=>by simp at hz⟩
theorem CN(c):∀n,(pin l r c w n).length<=2*n/\∀z∈pin l r c w n,z.length=1
 | 0=>⟨Qqv _,λz hz=>by simp[pin] at hz⟩
 | n+1=>by
  obtain⟨h1,h2⟩:=CN c n;obtain⟨h3,h4⟩:=aaP (l:=l) (r:=r) (w:=w) c n;unfold pin
  grind
theorem ab1{zs:List (List Nat)}(h:∀z∈zs,z.length=1):zs.flatten.length=zs.length:=by
 induction zs with
 | nil=>rfl
 | cons z t ih=>grind
def inn(l r:D)(c:Nat)(w:List Nat):List Nat:=(pin l r c w w.length++pc l r c w w.length).flatten
theorem CP(c):(pin l r c w (w.length+1)).dropLast=pin l r c w w.length++pc l r c w w.length:=by
 show(pin l r c w w.length++(pc l r c w w.length++[[sg w (w.length+1)]])).dropLast=_
 simp_all
theorem aaI(c):(pin l r c w (w.length+1)).flatten.dropLast=inn l r c w:=by
 show(pin l r c w w.length++(pc l r c w w.length++[[sg w (w.length+1)]])).flatten.dropLast=(pin l r c w w.length++pc l r c w w.length).flatten
 simp_all
variable(hx:x∈XS)(hl:l∈SG x)(hr:r∈SG x)(hw:∀c∈w,c∈x)(hn:w.length<=4000000)
def Zq:bU:=mR.jP
include hx hl hr
theorem acV(ha:a∈35::x)(hs:s∈35::x)(acc)(hac:acc.length<=8100000)(a0 a1 a2 a3:OD) :
  Zq [a0,a1,a2,a3,Zf l,Zf r,Zs [c],Zl acc,Zs [a],Zs [s]] =
   .nx [a0,a1,a2,a3,Zf l,Zf r,Zs [c],Zl (acc++((if (fit l a&&fit r s)=true then [.str [c]] else [])++[.str [s]])),Zs [s],Zs [s]]:=by
 have t:fZ (cX<|az jh<|Zv 4<|Zv 8 aj) (cX<|az jh<|Zv 5<|Zv 9 aj) [a0,a1,a2,a3,Zf l,Zf r,Zs [c],Zl acc,Zs [a],Zs [s]] = .ok (fit l a&&fit r s) [a0,a1,a2,a3,Zf l,Zf r,Zs [c],Zl acc,Zs [a],Zs [s]]:=
  oH (jw<|bz rfl (pA x hx l hl a ha)) (jw<|bz rfl (pA x hx r hr s hs))
 have tl:∀acc,acc.length<=8100001->aF (iH 7<|aM 9) (aX (aM 9)<|au 8) [a0,a1,a2,a3,Zf l,Zf r,Zs [c],Zl acc,Zs [a],Zs [s]] = .nx [a0,a1,a2,a3,Zf l,Zf r,Zs [c],Zl<|acc++[.str [s]],Zs [s],Zs [s]]:=λacc hac=>
  (aL<|eQ (i:=7) (e:=[a0,a1,a2,a3,Zf l,Zf r,Zs [c],Zl acc,Zs [a],Zs [s]]) rfl rfl rfl (Qw0 hac (by decide))).trans rfl
 unfold Zq;cases hc:fit l a&&fit r s with
 | true=>
  rw[hc] at t;rw[if_pos rfl];refine(aL (e:=[a0,a1,a2,a3,Zf l,Zf r,Zs [c],Zl<|acc++[.str [c]],Zs [a],Zs [s]]) ?_).trans ?_
  ·exact(iQ t).trans<|(eQ (i:=7) (e:=[a0,a1,a2,a3,Zf l,Zf r,Zs [c],Zl acc,Zs [a],Zs [s]]) rfl rfl rfl (Qw0 hac (by decide))).trans rfl
  simp_all
 | false=>
  rw[hc] at t;rw[if_neg Qwx];exact(aL<|(fK t).trans rfl).trans (tl acc (by omega))
theorem adP(c n):((pin l r c w (n+1)).map D.str)=(pin l r c w n).map D.str++((if (fit l (sg w n)&&fit r (sg w (n+1)))=true then [.str [c]] else [])++[.str [sg w (n+1)]]):=by
 show(pin l r c w n++(pc l r c w n++[[sg w (n+1)]])).map D.str=_;rw[Qxk,Qxk];unfold pc
 grind
include hw hn
theorem with_put_in(wy)(c):jr [.tup [wy,.tup [.tup [.str [],.str [c]]],l,r],.str w]=some (.str (inn l r c w)):=by
 generalize hR:D.tup [wy,.tup [.tup [.str [],.str [c]]],l,r]=R;generalize hC:D.tup [.tup [.str [],.str [c]]]=ch;obtain⟨e',f1,hd,a9,rfl⟩:=jR (g:=au 9) (gW<|w++[35])
  (λdone env=>done.length<=w.length+1/\∃a9,env=[Zf R,Zs w,Zf wy,Zf ch,Zf l,Zf r,Zs [c],Zl<|(pin l r c w done.length).map .str,Zs [sg w done.length],a9])
  (λdone s rest hall env ⟨hd,a9,he⟩=>by
   subst he;obtain⟨rfl,hdl⟩:=agR hall;have aq4:done.length<w.length+1:=by simp_all
   have hp:=(CN (l:=l) (r:=r) (w:=w) c done.length).1;refine⟨_,_,rfl,acV hx hl hr (s:=sg w<|done.length+1) (vf (w:=w) hw (by omega)) (vf (w:=w) hw (by omega)) _ (by grind) _ _ _ _,by grind,Zs [sg w (done.length+1)],?_⟩;rw[Qq1,Qz1,adP hx hl hr])
  [Zf R,Zs w,Zf wy,Zf ch,Zf l,Zf r,Zs [c],Zl [],Zs [35],Zn] ⟨Qxx _,Zn,rfl⟩
 have hlen:(gW<|w++[35]).length=w.length+1:=by unfold gW;rw[Qqz,Qq1,Qz1]
 rw[hlen] at f1;have hp:=CN (l:=l) (r:=r) (w:=w) c<|w.length+1;refine fD (env:=[Zf R,Zs w,Zf wy,Zf ch,Zf l,Zf r,Zs [c],Zf<|.lst ((pin l r c w (w.length+1)).map .str),Zs [sg w (w.length+1)],a9]) ?_;unfold eO;refine(aL (e:=[Zf R,Zs w,Zf wy,Zf ch,Zf l,Zf r,Zn,Zn,Zn,Zn]) (by rw[<-hR,<-hC];rfl)).trans ?_;refine(aL (e:=[Zf R,Zs w,Zf wy,Zf ch,Zf l,Zf r,Zs [c],Zn,Zn,Zn]) (by rw[<-hC];rfl)).trans ?_;refine(aL rfl).trans ?_;refine(aL rfl).trans ?_;refine(aL ((jl ?_).trans f1)).trans ?_
 ·refine Mx (bM rfl rfl rfl (rH (by grind))) rfl
 ·refine cP (cD rfl (y:=.lst ((pin l r c w w.length++pc l r c w w.length).map .str)) ?_ ?_)
  ·have ec:cutD ((pin l r c w (w.length+1)).map D.str) none (some (-1))=(pin l r c w w.length++pc l r c w w.length).map D.str:=by
    rw[QZ,<-List.map_dropLast,CP c]
   rw[<-ec]
   rfl
  ·rw[<-CP c];unfold inn;rw[<-CP c];refine af8 ?_ λz hz=>?_
   ·grind
   ·rw[hp.2 z (List.dropLast_subset _ hz)];decide
end
section
variable{x w:List Nat}{l r:D}
theorem akU(h:j<16000000):qO [.int 1,.int (j+1:Nat)]=some (fJ 1 1 j):=by
 have hf:j6 ((j+1))=true:=by
  unfold j6
  grind
 have e:(((j+1:Nat):Int) - 1).toNat=j:=by omega
 unfold qO;simp only;rw[if_pos ⟨by decide,hf⟩,e]
theorem step_at{done rest:List D}(h:fJ 1 1 j=done++d::rest):d = .int (done.length+1:Nat)/\done.length<j:=by
 obtain⟨h1,h2⟩:=u0<|M8 h
 grind
def abe:bU:=aF (cJ (fZ (cX (az cT (aa (ao bZ 0 (Zi 2)) (aa (ao bZ 2 (ao m7 4 (Zi 1))) aj)))) (cX (az cT (aa (ao bZ 0 (Zi 3)) (aa (ao bZ 2 (bh 4)) aj))))) (aX (ao cA 3 (aN bZ (aN bZ (ao bZ 0 (Zi 1)) (Zi 0)) (Zi 1))) (au 3)) bJ) (aX (ao cA 3 (ao bZ 2 (bh 4))) (au 3))
theorem agJ(n):m7 (.int (n+1:Nat)) (.int 1)=some (.int n):=by
 show some (D.int<|(n+1) - 1)=_
 simp_all
variable(hx:x∈XS)(hl:l∈SG x)(hr:r∈SG x)(hw:∀c∈w,c∈x)(hn:w.length<=4000000)
include hx hl hr hw hn
theorem aee(wy)(c n)(hnn:n<w.length+1)(f)(hf:f.length<=8100000)(a1:OD) :
  abe [Zf (.tup [wy,.tup [.tup [.str [],.str [c]]],l,r]),a1,Zs (ed w),Zs f,Zf (.int (n+1:Nat))] =
   .nx [Zf (.tup [wy,.tup [.tup [.str [],.str [c]]],l,r]),a1,Zs (ed w),Zs (f++((pc l r c w n).flatten++[sg w (n+1)])),Zf (.int (n+1:Nat))]:=by
 have hp:=aaP (l:=l) (r:=r) (w:=w) c n;have hpf:(pc l r c w n).flatten.length<=1:=by rw[ab1 hp.2];exact hp.1
 have i1:=Ig (z:=ed w) (n:=n) (by rw[Ff];omega);have i2:=Ig (z:=ed w) (n:=n+1) (by rw[Ff];omega);have g2:∀f,ao bZ 2 (bh 4) [Zf (.tup [wy,.tup [.tup [.str [],.str [c]]],l,r]),a1,Zs<|ed w,Zs f,Zf<|.int ((n+1:Nat):Int)] = .ok (.str [sg w (n+1)]) [Zf (.tup [wy,.tup [.tup [.str [],.str [c]]],l,r]),a1,Zs<|ed w,Zs f,Zf<|.int ((n+1:Nat):Int)]:=λf=>
  bM rfl rfl rfl i2
 have tl:∀f,f.length<=8100001->aX (ao cA 3<|ao bZ 2<|bh 4) (au 3) [Zf (.tup [wy,.tup [.tup [.str [],.str [c]]],l,r]),a1,Zs<|ed w,Zs f,Zf<|.int ((n+1:Nat):Int)] = .nx [Zf (.tup [wy,.tup [.tup [.str [],.str [c]]],l,r]),a1,Zs<|ed w,Zs (f++[sg w (n+1)]),Zf (.int ((n+1:Nat):Int))]:=λf hf=>
  bY (bM rfl (g2 f) rfl (rH (by show f.length+1<=16000000;omega))) rfl
 have t:fZ (cX (az cT (aa (ao bZ 0 (Zi 2)) (aa (ao bZ 2 (ao m7 4 (Zi 1))) aj)))) (cX (az cT (aa (ao bZ 0 (Zi 3)) (aa (ao bZ 2 (bh 4)) aj)))) [Zf (.tup [wy,.tup [.tup [.str [],.str [c]]],l,r]),a1,Zs (ed w),Zs f,Zf (.int ((n+1:Nat):Int))] = .ok (fit l (sg w n)&&fit r (sg w (n+1))) [Zf (.tup [wy,.tup [.tup [.str [],.str [c]]],l,r]),a1,Zs (ed w),Zs f,Zf (.int ((n+1:Nat):Int))]:=by
  refine oH (jw (bz ?_ (pA x hx l hl _ (vf (w:=w) hw (by omega))))) (jw (bz ?_ (pA x hx r hr _ (vf (w:=w) hw (by omega)))))
  ·refine aR (d:=l) rfl (aR ?_ cu);exact bM rfl (bM rfl rfl rfl (agJ n)) rfl i1
  ·exact aR (d:=r) rfl (aR (g2 f) cu)
 unfold abe;unfold pc at hpf ⊢;cases hc:fit l (sg w n)&&fit r (sg w (n+1)) with
 | true=>
  rw[hc] at t;rw[if_pos rfl];refine(aL (e:=[Zf (.tup [wy,.tup [.tup [.str [],.str [c]]],l,r]),a1,Zs (ed w),Zs (f++[c]),Zf (.int ((n+1:Nat):Int))]) ?_).trans ?_
  ·exact(iQ t).trans (bY (bM rfl rfl rfl (rH (by show f.length+1<=16000000;omega))) rfl)
  ·rw[tl _ (by rw[Qq1,Qz1];omega),List.append_assoc]
   rfl
 | false=>
  rw[hc] at t;rw[if_neg Qwx];exact(aL ((fK t).trans rfl)).trans (tl f (by omega))
theorem Dt(wy)(c):jf [.tup [wy,.tup [.tup [.str [],.str [c]]],l,r],.str w]=some (.str (inn l r c w)):=by
 obtain⟨e',f1,hd,a9,rfl⟩:=jR (g:=au 4) (fJ 1 1<|w.length+1)
  (λdone env=>done.length<=w.length+1/\∃a9,env=[Zf (.tup [wy,.tup [.tup [.str [],.str [c]]],l,r]),Zs w,Zs<|ed w,Zs<|(pin l r c w done.length).flatten,a9])
  (λdone s rest hall env ⟨hd,a9,he⟩=>by
   subst he;obtain⟨rfl,hdl⟩:=step_at hall;have hp:=CN (l:=l) (r:=r) (w:=w) c done.length;have hpf:=ab1 hp.2;refine⟨_,_,rfl,aee hx hl hr hw hn wy c done.length hdl _ (by omega) _,by grind,Zf<|.int ((done.length+1:Nat):Int),?_⟩;rw[Qq1,Qz1];show _=[_,_,_,Zs<|(pin l r c w done.length++(pc l r c w done.length++[[sg w (done.length+1)]])).flatten,_]
   simp_all)
  [Zf (.tup [wy,.tup [.tup [.str [],.str [c]]],l,r]),Zs w,Zs<|ed w,Zs [],Zn] ⟨Qxx _,Zn,rfl⟩
 rw[iu] at f1;refine fD (env:=[Zf (.tup [wy,.tup [.tup [.str [],.str [c]]],l,r]),Zs w,Zs<|ed w,Zs<|(pin l r c w<|w.length+1).flatten,a9]) ?_;unfold fW;refine(aL (e:=[Zf (.tup [wy,.tup [.tup [.str [],.str [c]]],l,r]),Zs w,Zs<|ed w,Zn,Zn]) ?_).trans ?_
 ·refine bY (e:=[Zf (.tup [wy,.tup [.tup [.str [],.str [c]]],l,r]),Zs w,Zn,Zn,Zn]) ?_ rfl;refine cD (x:=.str<|[35]++w) ?_ rfl (rH (by grind));exact cD rfl rfl (rH (by grind))
 refine(aL rfl).trans ?_;refine(aL ((jl ?_).trans f1)).trans ?_
 ·refine Ni.qD ?_ (akU (by omega));refine aR rfl (aR ?_ cu);refine bz rfl ?_;show some (D.int ((ed w).length:Int))=_;rw[Ff]
 ·refine cP ?_;rw[<-aaI c,<-Yr]
  rfl
end
def Rm(x:List Nat)(kvs:List (D×D)):Prop:=∀k v,(k,v)∈kvs->∃t:List Nat,v = .str t/\t.length<=1/\∀c∈t,c∈x
theorem Rm.put(h:Rm x kvs)(k)(q)(t)(h1:t.length<=1)(h2:∀c∈t,c∈x):Rm x (putD kvs k q (.str t)):=by
 intro k' v hm;unfold putD at hm;split at hm
 ·rcases mj.Cg hm with hm|⟨_,rfl⟩
  ·exact h k' v hm
  simp_all
 ·rcases Qw7.mp hm with hm|hm
  ·exact h k' v hm
  simp_all
theorem Rm.all:∀(ps:List Pr) kvs,Rm x kvs->(∀p∈ps,p.1∈x/\p.2.length<=1/\∀c∈p.2,c∈x)->Rm x (mU kvs (ps.map λp=>(.str [p.1],.str p.2)))
 | [],kvs,h,_=>h
 | p::ps,kvs,h,hp=>by
  have h1:=hp p<|Qq3 ..;exact Rm.all ps _ (h.put (.str [p.1]) (.inr<|strOf [p.1]) p.2 h1.2.1 h1.2.2) λp hm=>hp p<|Qqy _ hm
theorem HN:∀(ps:List Pr),qP (ps.map encC)=some (ps.map λp=>(.str [p.1],.str p.2))
 | []=>rfl
 | p::ps=>by
  rw[Qq2];unfold qP;rw[HN ps]
  rfl
theorem V8{ps:List Pr}(hp:∀p∈ps,p.1∈x/\p.2.length<=1/\∀c∈p.2,c∈x):∃kvs,uM [.tup (ps.map encC)]=some (.dct kvs)/\Rm x kvs:=by
 refine⟨mU []<|ps.map λp=>(.str [p.1],.str p.2),?_,Rm.all ps [] (λk v h=>by simp at h) hp⟩;show(qP<|ps.map encC).map _=_;rw[HN]
 rfl
def look(kvs:List (D×D))(s:Nat):Option (List Nat):=match qI kvs (.inr (strOf [s])) with
 | some (.str t)=>some t
 | _=>none
theorem Vq(h:Rm x kvs)(s):p7 (.str [s]) (.dct kvs)=some (.bl (look kvs s).isSome):=by
 show some (D.bl (qI kvs<|.inr<|strOf [s]).isSome)=_;unfold look;cases e:qI kvs (.inr<|strOf [s]) with
 | none=>rfl
 | some v=>
  obtain⟨k,hk,_⟩:=mj.qj e;obtain⟨t,rfl,_⟩:=h k v hk
  rfl
theorem Dj(h:Rm x kvs)(hs:look kvs s=some t):kZ (.dct kvs) (.str [s])=some (.str t)/\t.length<=1/\∀c∈t,c∈x:=by
 unfold look at hs;split at hs
 ·rename_i u e;cases hs;obtain⟨k,hk,_⟩:=mj.qj e;obtain⟨t',h1,h2⟩:=h k _ hk;cases h1;exact⟨e,h2⟩
 ·cases hs
section
variable{x w:List Nat}{l r:D}{kvs:List (D×D)}
def nw(kvs:List (D×D))(l r:D)(w:List Nat)(near n:Nat):List Nat:=if ((look kvs (sg w (n+1))).isSome&&(fit l near&&fit r (sg w (n+2))))=true then (look kvs (sg w (n+1))).getD [] else [sg w (n+1)]
def jC(al:Bool)(w:List Nat)(made:List (List Nat))(n:Nat):Nat:=if al=true then (35::made.flatten).getLastD 0 else sg w n
noncomputable def cg(al:Bool)(kvs:List (D×D))(l r:D)(w:List Nat):Nat->List (List Nat)
 | 0=>[]
 | n+1=>cg al kvs l r w n++[nw kvs l r w (jC al w (cg al kvs l r w n) n) n]
theorem afN(hw:∀c∈w,c∈x)(h:n<w.length):sg w (n+1)=w.getD n 0/\sg w (n+1)∈x:=by grind
theorem aa2(hk:Rm x kvs)(hw:∀c∈w,c∈x)(h:n<w.length)(near):(nw kvs l r w near n).length<=1/\∀c∈nw kvs l r w near n,c∈x:=by
 unfold nw;split
 ·cases e:look kvs (sg w<|n+1) with
  | none=>exact⟨Qxx _,λc hc=>by simp at hc⟩
  | some t=>exact(Dj hk e).2
 ·exact⟨Qqv _,λc hc=>by rw[Qq9.mp hc];exact(afN hw h).2⟩
theorem JR(al)(hk:Rm x kvs)(hw:∀c∈w,c∈x):∀n,n<=w.length->(cg al kvs l r w n).length=n/\∀z∈cg al kvs l r w n,z.length<=1/\∀c∈z,c∈x
 | 0,_=>⟨rfl,λz hz=>by simp[cg] at hz⟩
 | n+1,h=>by
  obtain⟨h1,h2⟩:=JR al hk hw n (by omega);unfold cg;refine⟨by rw[Qq1,Qz1,h1],λz hz=>?_⟩;rcases Qw7.mp hz with hz|hz
  ·exact h2 z hz
  ·rw[Qq9.mp hz];exact aa2 hk hw (by omega) _
theorem Wb(al)(hk:Rm x kvs)(hw:∀c∈w,c∈x)(h:n<=w.length):(cg al kvs l r w n).flatten.length<=n:=by obtain⟨h1,h2⟩:=JR (l:=l) (r:=r) al hk hw n h;rw[List.length_flatten];have:=Ni.R4 λz hz=>(h2 z hz).1;omega
theorem Qi:∀a z,(a::z).getLastD 0∈a::z
 | a,[]=>Qq3 ..
 | a,b::z=>Qqy _<|Qi b z
theorem PQ(al)(hk:Rm x kvs)(hw:∀c∈w,c∈x)(h:n<=w.length):jC al w (cg al kvs l r w n) n∈35::x:=by
 unfold jC;split
 ·rcases Qq8.mp (Qi 35 (cg al kvs l r w n).flatten) with e|e
  ·rw[e];exact Qq3 ..
  ·obtain⟨z,hz,hc⟩:=List.mem_flatten.mp e;exact Qqy _<|((JR al hk hw n h).2 z hz).2 _ hc
 ·exact vf hw (by omega)
theorem am9(n:Nat):cA (.int n) (.int 1)=some (.int (n+1:Nat)):=rfl
theorem aez(a)(z):bZ (.str (a::z)) (.int (-1))=some (.str [(a::z).getLastD 0]):=by
 have e:qF (a::z) (-1)=some ((a::z).getLastD 0):=by
  unfold qF Vw;rw[if_neg (by decide),if_pos (by grind)];show(a::z)[((-1)+((a::z).length:Int)).toNat]? = _;have e1:((-1)+((a::z).length:Int)).toNat=(a::z).length - 1:=by omega
  rw[e1,<-List.getLast?_eq_getElem?]
  rfl
 show(qF (a::z)<|-1).map _=_;rw[e]
 rfl
theorem acg(a)(z):xJ (a::z) (some 1) none=z:=by
 unfold xJ;have e1:HT.gP (a::z).length (a::z).length none=z.length+1:=rfl;have e2:HT.gP (a::z).length 0 (some 1)=1:=by rfl
 simp_all
theorem Tz(made)(t)(n)(h:t.length<=1):jC true w (made++[t]) (n+1)=if t=[] then jC true w made n else t.headD 0:=by
 unfold jC;rw[if_pos rfl,if_pos rfl]
 match t,h with
 | [],_=>simp_all
 | [a],_=>
  grind
noncomputable def iW(al:Bool):D:=if al=true then .str [97,108,111,110,103] else .str [111,110,99,101]
def Zr:bU:=mR.jz
variable(hx:x∈XS)(hl:l∈SG x)(hr:r∈SG x)(hw:∀c∈w,c∈x)(hn:w.length<=4000000)(hk:Rm x kvs)
include hx hl hr hw hn hk
theorem acW(al)(n)(hnn:n<w.length)(a0 a1 a3 a12:OD) :
  ∃b12,Zr [a0,a1,Zf (iW al),a3,Zf l,Zf r,Zf (.dct kvs),Zs (w++[35]),Zl ((cg al kvs l r w n).map .str),Zs [jC al w (cg al kvs l r w n) n],Zf (.int n),Zs [sg w (n+1)],a12] =
   .nx [a0,a1,Zf (iW al),a3,Zf l,Zf r,Zf (.dct kvs),Zs (w++[35]),Zl ((cg al kvs l r w (n+1)).map .str),Zs [jC al w (cg al kvs l r w (n+1)) (n+1)],Zf (.int n),Zs [sg w (n+1)],b12]:=by
 have hcl:=(JR (l:=l) (r:=r) al hk hw n (by omega)).1;have hnm:=PQ (l:=l) (r:=r) al hk hw (n:=n) (by omega);have hno:=aa2 (l:=l) (r:=r) hk hw hnn<|jC al w (cg al kvs l r w n) n;have hcg:cg al kvs l r w (n+1)=cg al kvs l r w n++[nw kvs l r w (jC al w (cg al kvs l r w n) n) n]:=rfl;have i2:=Ig (z:=w++[35]) (n:=n+1) (by simp_all);have h2m:sg w (n+2)∈35::x:=vf hw (by omega);rw[hcg];generalize hM:cg al kvs l r w n=made at *;generalize hN:jC al w made n=near at *;have hnw:nw kvs l r w near n=if ((look kvs<|sg w<|n+1).isSome&&(fit l near&&fit r (sg w<|n+2)))=true then (look kvs<|sg w<|n+1).getD [] else [sg w (n+1)]:=rfl
 generalize hT:nw kvs l r w near n=t at *;refine⟨Zs t,?_⟩;unfold Zr;refine(aL rfl).trans ?_;refine(aL (e:=[a0,a1,Zf<|iW al,a3,Zf l,Zf r,Zf<|.dct kvs,Zs<|w++[35],Zl<|made.map .str,Zs [near],Zf<|.int (n:Int),Zs [sg w (n+1)],Zs t]) ?_).trans ?_
 ·have tt:fZ (cX<|ao p7 11<|bh 6) (fZ (cX<|az jh<|Zv 4<|Zv 9 aj)<|cX<|az jh<|Zv 5<|aa (ao bZ 7<|ao cA 10<|Zi 1) aj) [a0,a1,Zf<|iW al,a3,Zf l,Zf r,Zf<|.dct kvs,Zs<|w++[35],Zl<|made.map .str,Zs [near],Zf<|.int (n:Int),Zs [sg w (n+1)],Zs [sg w (n+1)]] = .ok ((look kvs<|sg w<|n+1).isSome&&(fit l near&&fit r (sg w<|n+2))) [a0,a1,Zf<|iW al,a3,Zf l,Zf r,Zf<|.dct kvs,Zs<|w++[35],Zl<|made.map .str,Zs [near],Zf<|.int (n:Int),Zs [sg w (n+1)],Zs [sg w (n+1)]]:=by
   refine oH (jw<|bM rfl rfl rfl (Vq hk _))<|oH (jw<|bz rfl (pA x hx l hl _ hnm))<|jw<|bz ?_<|pA x hx r hr _ h2m;refine aR (d:=r) rfl (aR ?_ cu);exact bM rfl (bM rfl rfl rfl (am9 n)) rfl i2
  cases hc:(look kvs<|sg w<|n+1).isSome&&(fit l near&&fit r (sg w<|n+2)) with
  | true=>
   rw[hc] at tt hnw;rw[if_pos rfl] at hnw;obtain⟨u,hu⟩:=Qw8.mp (Qjw.mp hc).1;rw[hu] at hnw;cases hnw;exact(iQ tt).trans<|bY (bM rfl rfl rfl (Dj hk hu).1) rfl
  | false=>
   rw[hc] at tt hnw;rw[if_neg Qwx] at hnw;rw[hnw];exact(fK tt).trans rfl
 refine(aL (e:=[a0,a1,Zf<|iW al,a3,Zf l,Zf r,Zf<|.dct kvs,Zs<|w++[35],Zl<|(made++[t]).map .str,Zs [near],Zf<|.int (n:Int),Zs [sg w (n+1)],Zs t]) ?_).trans ?_
 ·rw[Qxk];exact(eQ (i:=8) (e:=[a0,a1,Zf<|iW al,a3,Zf l,Zf r,Zf<|.dct kvs,Zs<|w++[35],Zl<|made.map .str,Zs [near],Zf<|.int (n:Int),Zs [sg w (n+1)],Zs t]) rfl rfl rfl (by rw[Qqz,hcl];exact Qw0 (show n<=4000000 by omega) (by decide))).trans rfl
 cases al with
 | false=>rfl
 | true=>
  refine(fK (e:=_) rfl).trans ?_;rw[Tz made t n hno.1,hN]
  match t,hno.1 with
  | [],_=>rfl
  | [a],_=>rfl
theorem ae6{done rest:List D}(h:uO w=done++d::rest):d = .tup [.int done.length,.str [sg w (done.length+1)]]/\done.length<w.length:=by
 have h1:=M8 h;unfold uO at h1
 grind
def out(al:Bool)(kvs:List (D×D))(l r:D)(w:List Nat):List Nat:=(cg al kvs l r w w.length).flatten
theorem with_changes(al)(ch)(hd:uM [ch]=some (.dct kvs)):iU [.tup [iW al,ch,l,r],.str w]=some (.str (out al kvs l r w)):=by
 generalize hR:D.tup [iW al,ch,l,r]=R;obtain⟨e',f1,hdl,a10,a11,a12,rfl⟩:=jR (g:=d8 2<|bu (au 10)<|bu (au 11) eG) (uO w)
  (λdone env=>done.length<=w.length/\∃a10 a11 a12,env=[Zf R,Zs w,Zf<|iW al,Zf ch,Zf l,Zf r,Zf<|.dct kvs,Zs<|w++[35],Zl<|(cg al kvs l r w done.length).map .str,Zs [jC al w (cg al kvs l r w done.length) done.length],a10,a11,a12])
  (λdone s rest hall env ⟨hdl,a10,a11,a12,he⟩=>by
   subst he;obtain⟨rfl,hdl⟩:=ae6 hx hl hr hw hn hk hall;obtain⟨b12,hb⟩:=acW hx hl hr hw hn hk al done.length hdl (Zf R) (Zs w) (Zf ch) a12;refine⟨_,_,rfl,hb,by grind,Zf<|.int (done.length:Int),Zs [sg w (done.length+1)],b12,?_⟩
   simp_all)
  [Zf R,Zs w,Zf<|iW al,Zf ch,Zf l,Zf r,Zf<|.dct kvs,Zs<|w++[35],Zl [],Zs [35],Zn,Zn,Zn] ⟨Qxx _,Zn,Zn,Zn,by cases al<;>rfl⟩
 have hlen:(uO w).length=w.length:=by unfold uO;rw[Qqz,List.length_zipIdx]
 rw[hlen] at f1;have hok:=JR (l:=l) (r:=r) al hk hw w.length<|Qqv _;refine fD (env:=[Zf R,Zs w,Zf<|iW al,Zf ch,Zf l,Zf r,Zf<|.dct kvs,Zs<|w++[35],Zl<|(cg al kvs l r w w.length).map .str,Zs [jC al w (cg al kvs l r w w.length) w.length],a10,a11,a12]) ?_;unfold dU;refine(aL (e:=[Zf R,Zs w,Zf<|iW al,Zf ch,Zf l,Zf r,Zn,Zn,Zn,Zn,Zn,Zn,Zn]) (by rw[<-hR];rfl)).trans ?_;refine(aL (e:=[Zf R,Zs w,Zf<|iW al,Zf ch,Zf l,Zf r,Zf<|.dct kvs,Zn,Zn,Zn,Zn,Zn,Zn]) ?_).trans ?_
 ·exact bY (bz rfl hd) rfl
 refine(aL (e:=[Zf R,Zs w,Zf<|iW al,Zf ch,Zf l,Zf r,Zf<|.dct kvs,Zs<|w++[35],Zn,Zn,Zn,Zn,Zn]) ?_).trans ?_
 ·exact bY (bM rfl rfl rfl (rH (by grind))) rfl
 refine(aL rfl).trans ?_;refine(aL rfl).trans ?_;refine(aL<|(jl rfl).trans f1).trans ?_;refine cP<|cD rfl rfl ?_;exact af8 (by omega) λz hz=>Qqj (hok.2 z hz).1 (by decide)
theorem aaR(al):(∀c∈out al kvs l r w,c∈x)/\(out al kvs l r w).length<=2*w.length+1:=by
 unfold out;refine⟨λc hc=>?_,?_⟩
 ·obtain⟨z,hz,hcz⟩:=List.mem_flatten.mp hc;exact((JR al hk hw w.length<|Qqv _).2 z hz).2 c hcz
 ·have:=Wb (l:=l) (r:=r) al hk hw<|Qqv _;omega
end
section
variable{x w:List Nat}{l r:D}
theorem afZ(hc:c∈x)(n):∀z∈pc l r c w n,∀d∈z,d∈x:=by
 unfold pc
 simp_all
theorem aaH(hc:c∈x)(hw:∀c∈w,c∈x):∀n,n<=w.length->∀z∈pin l r c w n,∀d∈z,d∈x
 | 0,_=>λz hz=>by simp[pin] at hz
 | n+1,h=>by
  intro z hz d hd;unfold pin at hz;rcases Qw7.mp hz with hz|hz
  ·exact aaH hc hw n (by omega) z hz d hd
  ·rcases Qw7.mp hz with hz|hz
   ·exact afZ hc n z hz d hd
   ·rw[Qq9.mp hz] at hd;rw[Qq9.mp hd];exact(afN hw (by omega)).2
theorem abK(hc:c∈x)(hw:∀c∈w,c∈x):(∀d∈inn l r c w,d∈x)/\(inn l r c w).length<=2*w.length+1:=by
 unfold inn;refine⟨λd hd=>?_,?_⟩
 ·obtain⟨z,hz,hdz⟩:=List.mem_flatten.mp hd;rcases Qw7.mp hz with hz|hz
  ·exact aaH hc hw w.length (Qqv _) z hz d hdz
  ·exact afZ hc _ z hz d hdz
 ·have h1:=CN (l:=l) (r:=r) (w:=w) c w.length;have h2:=aaP (l:=l) (r:=r) (w:=w) c w.length;rw[ab1 λz hz=>(Qw7.mp hz).elim (h1.2 z)<|h2.2 z,Qq1];omega
end
section
variable{x w:List Nat}{l r:D}{kvs:List (D×D)}
def abh:bU:=aF (aX (ao bZ 7 (ao m7 9 (Zi 1))) (au 10)) (aF (cJ (cX (ao gQ 2 (Zw [97,108,111,110,103]))) (aX (ao bZ 8 (dY rR (Zi 1))) (au 10)) bJ) (cJ (fZ (cX (aN p7 (ao bZ 7 (bh 9)) (bh 6))) (fZ (cX (az cT (Zv 4 (Zv 10 aj)))) (cX (az cT (Zv 5 (aa (ao bZ 7 (ao cA 9 (Zi 1))) aj)))))) (aX (ao cA 8 (ao kZ 6 (ao bZ 7 (bh 9)))) (au 8)) (aX (ao cA 8 (ao bZ 7 (bh 9))) (au 8))))
variable(hx:x∈XS)(hl:l∈SG x)(hr:r∈SG x)(hw:∀c∈w,c∈x)(hn:w.length<=4000000)(hk:Rm x kvs)
include hx hl hr hw hn hk
theorem aef(al)(n)(hnn:n<w.length)(a0 a1 a3 a10:OD) :
  ∃b10,abh [a0,a1,Zf (iW al),a3,Zf l,Zf r,Zf (.dct kvs),Zs (ed w),Zs (35::(cg al kvs l r w n).flatten),Zf (.int (n+1:Nat)),a10] =
   .nx [a0,a1,Zf (iW al),a3,Zf l,Zf r,Zf (.dct kvs),Zs (ed w),Zs (35::(cg al kvs l r w (n+1)).flatten),Zf (.int (n+1:Nat)),b10]:=by
 have hcl:=Wb (l:=l) (r:=r) al hk hw (n:=n) (by omega);have hnm:=PQ (l:=l) (r:=r) al hk hw (n:=n) (by omega);have hno:=aa2 (l:=l) (r:=r) hk hw hnn<|jC al w (cg al kvs l r w n) n;have hcg:cg al kvs l r w (n+1)=cg al kvs l r w n++[nw kvs l r w (jC al w (cg al kvs l r w n) n) n]:=rfl;have i0:=Ig (z:=ed w) (n:=n) (by grind);have i1:=Ig (z:=ed w) (n:=n+1) (by grind);have i2:=Ig (z:=ed w) (n:=n+2) (by simp_all);have h2m:sg w (n+2)∈35::x:=vf hw (by omega);rw[hcg,List.flatten_append];generalize hM:cg al kvs l r w n=made at *;have hnr:jC al w made n=if al=true then (35::made.flatten).getLastD 0 else sg w n:=rfl
 generalize hN:jC al w made n=near at *;have hnw:nw kvs l r w near n=if ((look kvs<|sg w<|n+1).isSome&&(fit l near&&fit r (sg w<|n+2)))=true then (look kvs<|sg w<|n+1).getD [] else [sg w (n+1)]:=rfl
 generalize hT:nw kvs l r w near n=t at *;generalize hF:made.flatten=f at *;refine⟨Zs [near],?_⟩;unfold abh;refine(aL (e:=[a0,a1,Zf<|iW al,a3,Zf l,Zf r,Zf<|.dct kvs,Zs<|ed w,Zs (35::f),Zf<|.int ((n+1:Nat):Int),Zs [sg w n]]) ?_).trans ?_
 ·exact bY (bM rfl (bM rfl rfl rfl (agJ n)) rfl i0) rfl
 refine(aL (e:=[a0,a1,Zf<|iW al,a3,Zf l,Zf r,Zf<|.dct kvs,Zs<|ed w,Zs (35::f),Zf<|.int ((n+1:Nat):Int),Zs [near]]) ?_).trans ?_
 ·cases al with
  | false=>
   rw[if_neg Qwx] at hnr;rw[hnr]
   rfl
  | true=>
   rw[if_pos rfl] at hnr;rw[hnr];exact(iQ (e:=_) rfl).trans<|bY (bM rfl rfl rfl (aez 35 f)) rfl
 have g1:ao bZ 7 (bh 9) [a0,a1,Zf<|iW al,a3,Zf l,Zf r,Zf<|.dct kvs,Zs<|ed w,Zs (35::f),Zf<|.int ((n+1:Nat):Int),Zs [near]] = .ok (.str [sg w (n+1)]) [a0,a1,Zf<|iW al,a3,Zf l,Zf r,Zf<|.dct kvs,Zs<|ed w,Zs (35::f),Zf<|.int ((n+1:Nat):Int),Zs [near]]:=
  bM rfl rfl rfl i1
 have tt:fZ (cX<|aN p7 (ao bZ 7<|bh 9)<|bh 6) (fZ (cX<|az cT<|Zv 4<|Zv 10 aj)<|cX<|az cT<|Zv 5<|aa (ao bZ 7<|ao cA 9<|Zi 1) aj) [a0,a1,Zf<|iW al,a3,Zf l,Zf r,Zf<|.dct kvs,Zs<|ed w,Zs (35::f),Zf<|.int ((n+1:Nat):Int),Zs [near]] = .ok ((look kvs<|sg w<|n+1).isSome&&(fit l near&&fit r (sg w<|n+2))) [a0,a1,Zf<|iW al,a3,Zf l,Zf r,Zf<|.dct kvs,Zs<|ed w,Zs (35::f),Zf<|.int ((n+1:Nat):Int),Zs [near]]:=by refine oH (jw<|cD g1 rfl (Vq hk _))<|oH (jw<|bz rfl (pA x hx l hl _ hnm))<|jw<|bz ?_<|pA x hx r hr _ h2m;refine aR (d:=r) rfl (aR ?_ cu);exact bM rfl (bM rfl rfl rfl (am9<|n+1)) rfl i2
 have hfl:(35::f).length+t.length<=16000000:=by grind
 cases hc:(look kvs<|sg w<|n+1).isSome&&(fit l near&&fit r (sg w<|n+2)) with
 | true=>
  rw[hc] at tt hnw;rw[if_pos rfl] at hnw;obtain⟨u,hu⟩:=Qw8.mp (Qjw.mp hc).1;rw[hu] at hnw;have hnw':t=u:=hnw;have hfu:[t].flatten=u:=by simp_all
  rw[hfu];rw[hnw'] at hfl;exact(iQ tt).trans<|bY (bM rfl (bM rfl g1 rfl (Dj hk hu).1) rfl (rH hfl)) rfl
 | false=>
  rw[hc] at tt hnw;rw[if_neg Qwx] at hnw;have hfu:[t].flatten=[sg w (n+1)]:=by rw[hnw];rfl
  rw[hfu];rw[hnw] at hfl;exact(fK tt).trans<|bY (bM rfl g1 rfl (rH hfl)) rfl
theorem uK(al)(ps:List Pr)(hps:0<ps.length)(hd:uM [.tup (ps.map encC)]=some (.dct kvs)):cV [.tup [iW al,.tup (ps.map encC),l,r],.str w]=some (.str (out al kvs l r w)):=by
 have t0:∀a0 a1 a2 a4 a5,cX (aN gQ (aN bZ (ao bZ 3<|Zi 0)<|Zi 0)<|Zw []) [a0,a1,a2,Zf<|.tup<|ps.map encC,a4,a5,Zn,Zn,Zn,Zn,Zn] = .ok false [a0,a1,a2,Zf<|.tup<|ps.map encC,a4,a5,Zn,Zn,Zn,Zn,Zn]:=by
  intro a0 a1 a2 a4 a5
  match ps,hps with
  | p::ps,_=>
   refine jw<|cD (x:=.str [p.1]) ?_ rfl rfl;refine cD (x:=encC p) ?_ rfl rfl;exact bM rfl rfl rfl (lY (j:=0) rfl)
 generalize hC:D.tup (ps.map encC)=ch at *;generalize hR:D.tup [iW al,ch,l,r]=R;obtain⟨e',f1,hdl,a9,a10,rfl⟩:=jR (g:=au 9) (fJ 1 1 w.length)
  (λdone env=>done.length<=w.length/\∃a9 a10,env=[Zf R,Zs w,Zf<|iW al,Zf ch,Zf l,Zf r,Zf<|.dct kvs,Zs<|ed w,Zs (35::(cg al kvs l r w done.length).flatten),a9,a10])
  (λdone s rest hall env ⟨hdl,a9,a10,he⟩=>by
   subst he;obtain⟨rfl,hdl⟩:=step_at hall;obtain⟨b10,hb⟩:=aef hx hl hr hw hn hk al done.length hdl (Zf R) (Zs w) (Zf ch) a10;refine⟨_,_,rfl,hb,by grind,Zf<|.int ((done.length+1:Nat):Int),b10,?_⟩
   simp_all)
  [Zf R,Zs w,Zf<|iW al,Zf ch,Zf l,Zf r,Zf<|.dct kvs,Zs<|ed w,Zs [35],Zn,Zn] ⟨Qxx _,Zn,Zn,rfl⟩
 rw[iu] at f1;refine fD (env:=[Zf R,Zs w,Zf<|iW al,Zf ch,Zf l,Zf r,Zf<|.dct kvs,Zs<|ed w,Zs (35::(cg al kvs l r w w.length).flatten),a9,a10]) ?_;unfold dC;refine(aL (e:=[Zf R,Zs w,Zf<|iW al,Zf ch,Zf l,Zf r,Zn,Zn,Zn,Zn,Zn]) (by rw[<-hR];rfl)).trans ?_;refine(aL<|(fK<|t0 _ _ _ _ _).trans rfl).trans ?_;refine(aL (e:=[Zf R,Zs w,Zf<|iW al,Zf ch,Zf l,Zf r,Zf<|.dct kvs,Zn,Zn,Zn,Zn]) ?_).trans ?_
 ·exact bY (bz rfl hd) rfl
 refine(aL (e:=[Zf R,Zs w,Zf<|iW al,Zf ch,Zf l,Zf r,Zf<|.dct kvs,Zs<|ed w,Zn,Zn,Zn]) ?_).trans ?_
 ·refine bY (e:=[Zf R,Zs w,Zf<|iW al,Zf ch,Zf l,Zf r,Zf<|.dct kvs,Zn,Zn,Zn,Zn]) ?_ rfl;refine cD (x:=.str<|[35]++w) ?_ rfl (rH (by grind));exact cD rfl rfl (rH (by grind))
 refine(aL rfl).trans ?_;refine(aL ((jl ?_).trans f1)).trans ?_
 ·refine Ni.qD ?_ (akU (by omega));refine aR rfl (aR ?_ cu);refine cD ?_ rfl (agJ _);refine bz rfl ?_;show some (D.int ((ed w).length:Int))=_;rw[Ff]
 ·refine cP ?_;unfold out;generalize(cg al kvs l r w w.length).flatten=z;have e1:∀env,env[8]? = some (Zs (35::z))->zY (aM 8) (xG (Zi 1)) mq env = .ok (.str (xJ (35::z) (some 1) none)) env:=λenv h=>by
   have hv:aM 8 env = .ok (.str (35::z)) env:=by unfold aM;rw[h]
   unfold zY;rw[hv]
   rfl
  rw[acg] at e1
  simp_all
end
theorem afI(h:w = .str [111,110,99,101]\/w = .str [97,108,111,110,103]):∃al,w=iW al:=by
 rcases h with rfl|rfl
 ·exact⟨false,rfl⟩
 ·exact⟨true,rfl⟩
theorem from_left(hx:x∈XS)(h:lZ x wy ch l r)(hw:∀c∈w,c∈x)(hn:w.length<=4000000):∃o,jH [.tup [wy,ch,l,r],.str w]=some (.str o)/\cV [.tup [wy,ch,l,r],.str w]=some (.str o)/\(∀c∈o,c∈x)/\o.length<=2*w.length+1:=by
 obtain⟨al,rfl⟩:=afI h.way;cases h.chg with
 | put hc=>
  rename_i c;refine⟨inn l r c w,?_,?_,abK hc hw⟩
  ·refine fD (env:=[Zf (.tup [iW al,.tup [.tup [.str [],.str [c]]],l,r]),Zs w]) ?_;unfold fj;refine jU ?_;refine(iQ<|jw<|bz rfl rfl).trans ?_;exact cP<|bz rfl (with_put_in hx h.left h.right hw hn _ c)
  ·refine fD (env:=[Zf (.tup [iW al,.tup [.tup [.str [],.str [c]]],l,r]),Zs w,Zf<|iW al,Zf<|.tup [.tup [.str [],.str [c]]],Zf l,Zf r,Zn,Zn,Zn,Zn,Zn]) ?_;unfold dC;refine(aL rfl).trans ?_;refine jU ?_;refine(iQ rfl).trans ?_;exact cP<|bz rfl (Dt hx h.left h.right hw hn _ c)
 | chg h0 h4 hp=>
  rename_i ps;obtain⟨kvs,hd,hk⟩:=V8 hp;refine⟨out al kvs l r w,?_,uK hx h.left h.right hw hn hk al ps h0 hd,aaR hx h.left h.right hw hn hk al⟩;have hpi:oG [.tup [iW al,.tup<|ps.map encC,l,r]]=some (.bl false):=by
   match ps,h0 with
   | p::ps,_=>
    refine fD (env:=[Zf (.tup [iW al,.tup<|(p::ps).map encC,l,r])])<|cP ?_;refine cD (x:=.str [p.1]) ?_ rfl rfl;refine cD (x:=encC p) ?_ rfl rfl;refine cD rfl rfl (lY rfl)
  refine fD (env:=[Zf (.tup [iW al,.tup<|ps.map encC,l,r]),Zs w]) ?_;unfold fj;refine(aL<|(fK<|jw<|bz rfl hpi).trans rfl).trans ?_;exact cP<|bz rfl (with_changes hx h.left h.right hw hn hk al _ hd)
noncomputable def sides:List D:=[.str [108,101,102,116],.str [114,105,103,104,116]]
theorem Hc(hx:x∈XS)(hl:l∈SG x)(hr:r∈SG x)(hw:∀c∈w,c∈x)(hn:w.length<=4000000)(wy)(c):cV [.tup [wy,.tup [.tup [.str [],.str [c]]],l,r],.str w]=some (.str (inn l r c w)):=by refine fD (env:=[Zf (.tup [wy,.tup [.tup [.str [],.str [c]]],l,r]),Zs w,Zf wy,Zf<|.tup [.tup [.str [],.str [c]]],Zf l,Zf r,Zn,Zn,Zn,Zn,Zn]) ?_;unfold dC;refine(aL rfl).trans ?_;refine jU ?_;refine(iQ rfl).trans ?_;exact cP<|bz rfl (Dt hx hl hr hw hn _ c)
theorem Er(hx:x∈XS)(h:lZ x wy ch l r)(hw:∀c∈w,c∈x)(hn:w.length<=4000000):∃o,cV [.tup [wy,ch,l,r],.str w]=some (.str o)/\(∀c∈o,c∈x)/\o.length<=2*w.length+1:=by
 obtain⟨al,rfl⟩:=afI h.way;cases h.chg with
 | put hc=>exact⟨inn l r _ w,Hc hx h.left h.right hw hn _ _,abK hc hw⟩
 | chg h0 h4 hp=>
  obtain⟨kvs,hd,hk⟩:=V8 hp;exact⟨out al kvs l r w,uK hx h.left h.right hw hn hk al _ h0 hd,aaR hx h.left h.right hw hn hk al⟩
theorem agQ{R:D}(h:cV [R,.str w]=some (.str o)):cW [.str [108,101,102,116],R,.str w]=some (.str o):=by refine fD (env:=[Zs [108,101,102,116],Zf R,Zs w]) ?_;unfold di;refine(aL<|(fK (by rfl)).trans rfl).trans ?_;exact cP<|bz rfl h
theorem agP{R Q:D}(ht:jd [R]=some Q)(h:cV [Q,.str w.reverse]=some (.str o)):cW [.str [114,105,103,104,116],R,.str w]=some (.str o.reverse):=by
 have rev:∀{a} {env} {o},a env = .ok (.str o) env->rJ a env = .ok (.str o.reverse) env:=λ{a env o} e=>by unfold rJ;rw[e];rfl
 refine fD (env:=[Zs [114,105,103,104,116],Zf R,Zs w]) ?_;unfold di;refine jU<|(iQ rfl).trans<|cP<|rev ?_;exact bz (aR (bz rfl ht)<|aR (rev rfl) cu) h
theorem acj(hx:x∈XS)(h:lZ x wy ch l r)(hw:∀c∈w,c∈x)(hn:w.length<=4000000):∀s∈sides,∃o,cW [s,.tup [wy,ch,l,r],.str w]=some (.str o)/\(∀c∈o,c∈x)/\o.length<=2*w.length+1:=by
 intro s hs;rcases Qq8.mp hs with rfl|hs
 ·obtain⟨o,h2,h3⟩:=Er hx h hw hn;exact⟨o,agQ h2,h3⟩
 ·rw[Qq9.mp hs];obtain⟨o,h2,h3,h4⟩:=Er hx ⟨h.way,h.chg,h.right,h.left⟩ (λc hc=>hw c<|List.mem_reverse.mp hc) (by simp_all);exact⟨o.reverse,agP rfl h2,λc hc=>h3 c<|List.mem_reverse.mp hc,by simp_all⟩
theorem changed(hx:x∈XS)(h:lZ x wy ch l r)(hw:∀c∈w,c∈x)(hn:w.length<=4000000):∀s∈sides,∃o,lr [s,.tup [wy,ch,l,r],.str w]=some (.str o)/\cW [s,.tup [wy,ch,l,r],.str w]=some (.str o)/\(∀c∈o,c∈x)/\o.length<=2*w.length+1:=by
 intro s hs;rcases Qq8.mp hs with rfl|hs
 ·obtain⟨o,h1,h2,h3⟩:=from_left hx h hw hn;refine⟨o,?_,?_,h3⟩
  ·refine fD (env:=[Zs [108,101,102,116],Zf<|.tup [wy,ch,l,r],Zs w]) ?_;unfold ig;refine(aL<|(fK (by rfl)).trans rfl).trans ?_;exact cP<|bz rfl h1
  ·refine fD (env:=[Zs [108,101,102,116],Zf<|.tup [wy,ch,l,r],Zs w]) ?_;unfold di;refine(aL<|(fK (by rfl)).trans rfl).trans ?_;exact cP<|bz rfl h2
 ·rw[Qq9.mp hs];obtain⟨o,h1,h2,h3,h4⟩:=from_left hx (⟨h.way,h.chg,h.right,h.left⟩:lZ x wy ch r l) (λc hc=>hw c<|List.mem_reverse.mp hc) (by simp_all);have rev:∀{a} {env},a env = .ok (.str o) env->rJ a env = .ok (.str o.reverse) env:=λ{a env} e=>by unfold rJ;rw[e];rfl
  refine⟨o.reverse,?_,?_,λc hc=>h3 c<|List.mem_reverse.mp hc,by simp_all⟩
  ·refine fD (env:=[Zs [114,105,103,104,116],Zf<|.tup [wy,ch,l,r],Zs w]) ?_;unfold ig;refine jU<|(iQ rfl).trans<|cP<|rev ?_;exact bz rfl h1
  ·refine fD (env:=[Zs [114,105,103,104,116],Zf<|.tup [wy,ch,l,r],Zs w]) ?_;unfold di;refine jU<|(iQ rfl).trans<|cP<|rev ?_;exact bz rfl h2
end qi
namespace ye
open Ev
def lX:bU:=mR.lX
def jh:LD:=cj 2 lX
def j0:bU:=mR.j0
def tU:LD:=cj 5 j0
def jt:bU:=mR.jt
def oG:LD:=cj 1 jt
def eO:bU:=qi.eO
def jr:LD:=cj 10 eO
def dU:bU:=qi.dU
def iU:LD:=cj 13 dU
def fj:bU:=qi.fj
def jH:LD:=cj 2 fj
def ig:bU:=qi.ig
def lr:LD:=cj 3 ig
def wg:bU:=aF (aX (aM 0) (d8 2 (bu (au 2) (bu (au 3) eG)))) (aF (gr 4 (dF (Zv 1 aj))) (aF (gU (iD (aM 3)) (au 5) (iH 4 (az lr (Zv 2 (Zv 5 (aa (ao bZ 4 (dY rR (Zi 1))) aj)))))) (aY (az dX (aa (bh 4) aj)))))
def Eu:LD:=cj 6 wg
def wj:bU:=mR.wj
def nQ:LD:=cj 2 wj
def kJ:bU:=mR.lX
def cT:LD:=cj 2 kJ
def fW:bU:=qi.fW
def jf:LD:=cj 5 fW
def dC:bU:=qi.dC
def cV:LD:=cj 11 dC
def fV:bU:=mR.fV
def jd:LD:=cj 1 fV
def di:bU:=qi.di
def cW:LD:=cj 3 di
def kI:bU:=aF (gr 2 (dF (Zv 1 aj))) (aF (gU (iD (ao bZ 0 (Zi 1))) (au 3) (iH 2 (az cW (aa (ao bZ 0 (Zi 0)) (Zv 3 (aa (ao bZ 2 (dY rR (Zi 1))) aj)))))) (aY (az dX (aa (bh 2) aj))))
def jF:LD:=cj 4 kI
open Ev PySem L2
open mj (eQ)
open qi (XS sides lZ rH)
def jn(x:List Nat)(R:D):Prop:=∃wy ch l r,R = .tup [wy,ch,l,r]/\lZ x wy ch l r
def cF(s R:D)(w:List Nat):List Nat:=match qi.cW [s,R,.str w] with
 | some (.str o)=>o
 | _=>[]
section
variable{x:List Nat}{s:D}
theorem am3(hx:x∈XS)(hs:s∈sides){R:D}(hR:jn x R)(hw:∀c∈w,c∈x)(hn:w.length<=4000000) :
  lr [s,R,.str w]=some (.str (cF s R w))/\cW [s,R,.str w]=some (.str (cF s R w))/\(∀c∈cF s R w,c∈x)/\(cF s R w).length<=2*w.length+1:=by
 obtain⟨wy,ch,l,r,rfl,h⟩:=hR;obtain⟨o,h1,h2,h3⟩:=qi.changed hx h hw hn s hs;have e:cF s (.tup [wy,ch,l,r]) w=o:=by unfold cF;rw[h2]
 rw[e];exact⟨h1,h2,h3⟩
theorem am2(hx:x∈XS)(hs:s∈sides){R:D}(hR:jn x R)(hw:∀c∈w,c∈x)(hn:w.length<=4000000) :
  cW [s,R,.str w]=some (.str (cF s R w))/\(∀c∈cF s R w,c∈x)/\(cF s R w).length<=2*w.length+1:=by
 obtain⟨wy,ch,l,r,rfl,h⟩:=hR;obtain⟨o,h1,h3⟩:=qi.acj hx h hw hn s hs;have e:cF s (.tup [wy,ch,l,r]) w=o:=by unfold cF;rw[h1]
 rw[e];exact⟨h1,h3⟩
def fin(s:D)(Rs:List D)(w:List Nat):List Nat:=Rs.foldl (λv R=>cF s R v) w
noncomputable def wB(s:D):List Nat->List D->List (List Nat)
 | w,[]=>[w]
 | w,R::Rs=>w::wB s (cF s R w) Rs
theorem Bx:∀Rs w R,wB s w (Rs++[R])=wB s w Rs++[cF s R (fin s Rs w)]
 | [],w,R=>rfl
 | Q::Rs,w,R=>by
  show w::wB s (cF s Q w) (Rs++[R])=w::wB s (cF s Q w) Rs++[cF s R (fin s Rs<|cF s Q w)];rw[Bx Rs]
  rfl
theorem By:∀Rs w,∃pre,wB s w Rs=pre++[fin s Rs w]
 | [],w=>⟨[],rfl⟩
 | R::Rs,w=>by
  obtain⟨pre,e⟩:=By Rs<|cF s R w;refine⟨w::pre,?_⟩;show w::wB s (cF s R w) Rs=_;rw[e]
  rfl
theorem Km:∀Rs w,(wB s w Rs).length=Rs.length+1
 | [],w=>rfl
 | R::Rs,w=>by show(w::wB s (cF s R w) Rs).length=_;rw[Qqw,Km Rs,Qqw]
theorem Es(hx:x∈XS)(hs:s∈sides):∀Rs w,(∀R∈Rs,jn x R)->(∀c∈w,c∈x)->(w.length+1)*2^Rs.length<=6500001->(∀c∈fin s Rs w,c∈x)/\(fin s Rs w).length+1<=(w.length+1)*2^Rs.length
 | [],w,_,hw,hn=>⟨hw,by show w.length+1<=(w.length+1)*1;omega⟩
 | R::Rs,w,hR,hw,hn=>by
  have h2:(w.length+1)*2^(R::Rs).length=(2*w.length+1+1)*2^Rs.length:=by grind
  have hp:1<=2^Rs.length:=Nat.one_le_two_pow;have hwl:w.length<=4000000:=by have:2*w.length+1+1<=(2*w.length+1+1)*2^Rs.length:=Nat.le_mul_of_pos_right _ hp;omega
  obtain⟨_,h3,h4⟩:=am2 hx hs (hR R<|Qq3 ..) hw hwl;have h5:((cF s R w).length+1)*2^Rs.length<=(2*w.length+1+1)*2^Rs.length:=Nat.mul_le_mul_right _ (by omega);obtain⟨h6,h7⟩:=Es hx hs Rs (cF s R w) (λQ hQ=>hR Q<|Qqy _ hQ) h3 (by omega);refine⟨h6,?_⟩;show(fin s Rs<|cF s R w).length+1<=_;omega
theorem V1(hx:x∈XS)(hs:s∈sides)(Rs)(w)(hR:∀R∈Rs,jn x R)(hw:∀c∈w,c∈x)(hn:(w.length+1)*2^Rs.length<=3250001):(∀c∈fin s Rs w,c∈x)/\(fin s Rs w).length<=4000000:=by
 obtain⟨h1,h2⟩:=Es hx hs Rs w hR hw<|Qqj hn (by decide)
 grind
theorem aaF{Rs done rest:List D}{R:D}(hall:Rs=done++R::rest)(hn:(n+1)*2^Rs.length<=6500001):(n+1)*2^done.length<=3250001:=by
 have hl:done.length+1<=Rs.length:=by simp_all
 have:=Qqj (Nat.mul_le_mul_left (n+1)<|Nat.pow_le_pow_right (by decide) hl) hn;rw[Nat.pow_succ,<-Nat.mul_assoc] at this;omega
theorem Rb{d:D}:qF (ds++[d]) (-1)=some d:=by
 unfold qF Vw;rw[if_neg (by decide),if_pos (by grind)];show(ds++[d])[((-1)+((ds++[d]).length:Int)).toNat]? = _;have e1:((-1)+((ds++[d]).length:Int)).toNat=ds.length:=by grind
 simp_all
theorem Qj(Rs)(w):bZ (.lst ((wB s w Rs).map .str)) (.int (-1))=some (.str (fin s Rs w)):=by obtain⟨pre,e⟩:=By Rs w;rw[e,Qxk];exact Rb
theorem Qh(Rs)(w):bZ (.tup ((wB s w Rs).map .str)) (.int (-1))=some (.str (fin s Rs w)):=by obtain⟨pre,e⟩:=By Rs w;rw[e,Qxk];exact Rb
def agu:bU:=mR.uw
def ah1:bU:=iH 2 (az cW (aa (ao bZ 0 (Zi 0)) (Zv 3 (aa (ao bZ 2 (dY rR (Zi 1))) aj))))
variable(hx:x∈XS)(hs:s∈sides){Rs:List D}(hR:∀R∈Rs,jn x R)(h4:Rs.length<=10){w:List Nat}(hw:∀c∈w,c∈x)(hn:(w.length+1)*2^Rs.length<=6500001)
include hx hs hR h4 hw hn
theorem walk:Eu [.tup [s,.tup Rs],.str w]=some (.tup ((wB s w Rs).map .str)):=by
 generalize hO:D.tup [s,.tup Rs]=O;obtain⟨e',f1,hd,a5,rfl⟩:=jR (g:=au 5) (b:=agu) Rs
  (λdone env=>done.length<=Rs.length/\∃a5,env=[Zf O,Zs w,Zf s,Zf<|.tup Rs,Zl<|(wB s w done).map .str,a5])
  (λdone R rest hall env ⟨hd,a5,he⟩=>by
   subst he;have hm:∀Q∈done,jn x Q:=λQ hQ=>hR Q (by simp_all);have hRm:jn x R:=hR R (by simp_all);obtain⟨q1,q2⟩:=V1 hx hs done w hm hw<|aaF hall hn;obtain⟨c1,_⟩:=am3 hx hs hRm q1 q2;have hl:=Qzx List.length hall;rw[Qq1,Qqw] at hl;refine⟨[Zf O,Zs w,Zf s,Zf<|.tup Rs,Zl<|(wB s w done).map .str,Zf R],[Zf O,Zs w,Zf s,Zf<|.tup Rs,Zl<|(wB s w<|done++[R]).map .str,Zf R],rfl,?_,by simp_all,_,rfl⟩;rw[Bx,Qxk];unfold agu;refine(eQ (i:=4) (e:=[Zf O,Zs w,Zf s,Zf<|.tup Rs,Zl<|(wB s w done).map .str,Zf R]) (by rfl) ?_ (by rfl) (by rw[Qqz,Km];exact Qw0 (show done.length+1<=11 by omega) (by decide))).trans rfl;refine bz (aR (d:=s) (by rfl) (aR (d:=R) (by rfl) (aR ?_ cu))) c1;exact bM (by rfl) (by rfl) (by rfl) (Qj done w))
  [Zf O,Zs w,Zf s,Zf (.tup Rs),Zl [.str w],Zn] ⟨Qxx _,Zn,rfl⟩
 refine fD (env:=[Zf O,Zs w,Zf s,Zf (.tup Rs),Zl ((wB s w Rs).map .str),a5]) ?_;unfold wg;refine(aL (e:=[Zf O,Zs w,Zf s,Zf (.tup Rs),Zn,Zn]) (by rw[<-hO];rfl)).trans ?_;refine(aL (by rfl)).trans ?_;exact(aL ((jl (by rfl)).trans f1)).trans rfl
theorem abj:jF [.tup [s,.tup Rs],.str w]=some (.tup ((wB s w Rs).map .str)):=by
 obtain⟨e',f1,hd,a5,rfl⟩:=jR (g:=au 3) (b:=ah1) Rs
  (λdone env=>done.length<=Rs.length/\∃a5,env=[Zf (.tup [s,.tup Rs]),Zs w,Zl<|(wB s w done).map .str,a5])
  (λdone R rest hall env ⟨hd,a5,he⟩=>by
   subst he;have hm:∀Q∈done,jn x Q:=λQ hQ=>hR Q (by simp_all);have hRm:jn x R:=hR R (by simp_all);obtain⟨q1,q2⟩:=V1 hx hs done w hm hw<|aaF hall hn;obtain⟨c1,_⟩:=am2 hx hs hRm q1 q2;have hl:=Qzx List.length hall;rw[Qq1,Qqw] at hl;refine⟨[Zf (.tup [s,.tup Rs]),Zs w,Zl<|(wB s w done).map .str,Zf R],[Zf (.tup [s,.tup Rs]),Zs w,Zl<|(wB s w<|done++[R]).map .str,Zf R],rfl,?_,by simp_all,_,rfl⟩;rw[Bx,Qxk];refine(eQ (i:=2) (e:=[Zf (.tup [s,.tup Rs]),Zs w,Zl<|(wB s w done).map .str,Zf R]) (by rfl) ?_ (by rfl) (by rw[Qqz,Km];exact Qw0 (show done.length+1<=11 by omega) (by decide))).trans rfl;refine bz (aR (d:=s) (by rfl) (aR (d:=R) (by rfl) (aR ?_ cu))) c1;exact bM (by rfl) (by rfl) (by rfl) (Qj done w))
  [Zf (.tup [s,.tup Rs]),Zs w,Zl [.str w],Zn] ⟨Qxx _,Zn,rfl⟩
 refine fD (env:=[Zf (.tup [s,.tup Rs]),Zs w,Zl ((wB s w Rs).map .str),a5]) ?_;unfold kI;refine(aL (by rfl)).trans ?_;exact(aL ((jl (by rfl)).trans f1)).trans rfl
theorem made:nQ [.tup [s,.tup Rs],.str w]=some (.str (fin s Rs w)):=by refine fD (env:=[Zf (.tup [s,.tup Rs]),Zs w])<|cP ?_;exact cD (bz (by rfl)<|walk hx hs hR h4 hw hn) (by rfl)<|Qh Rs w
end
theorem ab3(h1:a env = .ok d e1)(h2:lo e1 = .ok l e2)(h3:hi e2 = .ok u e3)(h:T9 d l u=some v):JM a lo hi env = .ok v e3:=by
 unfold JM;rw[h1];simp[bindR];rw[h2];simp;rw[h3];simp;rw[h]
 rfl
theorem akT(h:c≠0/\c.natAbs<1073741824/\Builtin.Range.small i j c=true):qO [.int i,.int j,.int c]=some (fJ i c (Builtin.Range.rangeSize i j c).toNat):=by
 unfold qO
 simp_all
end ye
namespace nY
open Ev
def lX:bU:=mR.lX
def jh:LD:=cj 2 lX
def j0:bU:=mR.j0
def tU:LD:=cj 5 j0
def jt:bU:=mR.jt
def oG:LD:=cj 1 jt
def jP:bU:=mR.jP
def eO:bU:=mR.eO
def jr:LD:=cj 10 eO
def jz:bU:=mR.jz
def dU:bU:=mR.dU
def iU:LD:=cj 13 dU
def fj:bU:=mR.fj
def jH:LD:=cj 2 fj
def ig:bU:=mR.ig
def lr:LD:=cj 3 ig
def uw:bU:=mR.uw
def wg:bU:=mR.wg
def Eu:LD:=cj 6 wg
def wj:bU:=mR.wj
def nQ:LD:=cj 2 wj
def kJ:bU:=mR.lX
def cT:LD:=cj 2 kJ
def nO:bU:=mR.nO
def fW:bU:=mR.fW
def jf:LD:=cj 5 fW
def mF:bU:=mR.mF
def dC:bU:=mR.dC
def cV:LD:=cj 11 dC
def fV:bU:=mR.fV
def jd:LD:=cj 1 fV
def di:bU:=mR.di
def cW:LD:=cj 3 di
def pY:bU:=mR.pY
def kI:bU:=mR.kI
def jF:LD:=cj 4 kI
def rD:bU:=aY (aN bZ (az jF (Zv 0 (Zv 1 aj))) (dY rR (Zi 1)))
def gO:LD:=cj 2 rD
def jq:Ev:=mR.jq
def rE:bU:=aY (cI (aa (ao bZ 0 (Zi 0)) (aa (az dX (aa (jq) aj)) aj)))
def iC:LD:=cj 2 rE
open Ev PySem L2
open ye (cF fin jn)
noncomputable def perms(n:Nat):Nat->List (List Nat)
 | 0=>[[]]
 | k+1=>(perms n k).flatMap λr=>((List.range n).filter λi=>!decide (i∈r)).map λi=>r++[i]
theorem d7(n):∀k r,r∈perms n k↔r.length=k/\r.Nodup/\∀i∈r,i<n
 | 0,r=>by
  constructor
  ·intro h;have:r=[]:=by simpa[perms] using h
   subst this;exact⟨rfl,.nil,by simp⟩
  ·rintro⟨h,_⟩;rw[Qz7 h];simp[perms]
 | k+1,r=>by
  unfold perms;rw[List.mem_flatMap];constructor
  ·rintro⟨q,hq,hr⟩;obtain⟨i,hi,rfl⟩:=Qw3.mp hr;obtain⟨h1,h2,h3⟩:=(d7 n k q).mp hq;obtain⟨h4,h5⟩:=List.mem_filter.mp hi;have h5:i ∉ q:=by simpa using h5
   refine⟨by simp[h1],?_,?_⟩
   ·rw[List.nodup_append];refine⟨h2,by simp,λa ha b hb=>?_⟩;rw[Qq9.mp hb];intro e;exact h5<|e ▸ ha
   ·intro j hj;rcases Qw7.mp hj with hj|hj
    ·exact h3 j hj
    ·rw[Qq9.mp hj];exact Qx0.mp h4
  ·rintro⟨h1,h2,h3⟩;obtain⟨q,i,rfl⟩:∃q i,r=q++[i]:=⟨r.dropLast,r.getLast (by intro e;subst e;simp at h1),(List.dropLast_concat_getLast _).symm⟩;rw[List.nodup_append] at h2;refine⟨q,(d7 n k q).mpr ⟨by simpa using h1,h2.1,λj hj=>h3 j (by simp[hj])⟩,Qw3.mpr ⟨i,List.mem_filter.mpr ⟨Qx0.mpr<|h3 i (by simp),?_⟩,rfl⟩⟩;have:=λh=>h2.2.2 i h i (by simp) rfl
   simpa using this
theorem qw(h:r∈perms n k):k<=n:=by obtain⟨h1,h2,h3⟩:=(d7 n k r).mp h;have hs:=λi hi=>Qx0.mpr<|h3 i hi;have:=List.Nodup.length_le_of_subset h2 hs;rw[List.length_range] at this;omega
theorem Tf(h:n<k):perms n k=[]:=by
 cases e:perms n k with
 | nil=>rfl
 | cons r l=>
  have:r∈perms n k:=by rw[e];simp
  have:=qw this;omega
def few(t:List Nat->Bool)(n:Nat):Option (List Nat):=(List.range (n+1)).findSome? λk=>(perms n k).find? t
noncomputable def pick(Rs:List D)(r:List Nat):List D:=r.map λi=>Rs.getD i .non
theorem Hx(k):List.range k∈perms k k:=(d7 _ _ _).mpr ⟨by simp,List.nodup_range,λi hi=>Qx0.mp hi⟩
end nY
section
open Ev PySem L2
local macro_rules | `(tactic| ac_rfl) => `(tactic| simp (maxSteps := 2000000) (disch := (first | ((try simp only [Qqw, List.length_nil, Qq1, Qqz, List.length_range, sizeLine, Nat.reducePow]) <;> omega) | fail)) only [↓sNx, ↓sRt, ↓bR, ↓bO, ↓lR, ↓lO, ↓iT, ↓iF, ↓rS, ↓bB, ↓oS, ↓nS, ↓obS, ↓kNx, ↓vS, ↓wS, ↓lS, ↓eS, ↓pS, ↓cS, ↓alW, ↓al5, ada, zR, zO, aeO, aeZ, lS, adh, adf, aeK, Mu, Mv, aeJ, Qx, amx, amy, ajc, aji, aeE, sNx, sRt, sBk, sCt, agM, ajA, iT, iF, bR, bO, lR, lO, adb, adg, Vb, ZV, ZS, amR, aeY, ab7, ae3, ajv, ab8, aeN, ajx, ab9, rS, ae5, ajy, aeW, amS, bB, aca, aeV, ab4, ajB, oS, ae1, Yo, obS, amP, nS, aeX, ajw, aeQ, aeP, aeU, ab6, ade, abN, ao1, abO, gB, aeC, ajz, aeS, amk, aml, ami, amj, eS, v9, ajt, vS, kNx, kRt, kBk, kCt, alP, alO, wS, ab2, agU, dRt, dNx, envOf, uL, QC, amC, at0, at1, at2, at3, ajr, ajn, El, Uc, ajo, abV, abU, aeF, aeH, aeG, agd, VJ, xB, abW, ajp, JK, Qz, amG, amI, amA, ajb, amE, gt0, gtS, st0, stS, cdT, cdF, Qj7, Option.bind_some, Qq2, List.map_nil, List.replicate_succ, List.replicate_zero, Nat.reduceAdd, Nat.reduceSub, Qqw, List.length_nil, List.cons_append, List.nil_append, Bool.not_true, Bool.not_false, nc0, nc1, nc2, nc3, nc4, nc5, nc6, nc7, nc8, Int.reduceBEq, Nat.reduceBEq, Int.reduceLE, Int.reduceLT, Nat.reduceLeDiff, Nat.reduceLT, Int.reduceAdd, Int.reduceSub, decide_true, decide_false, beq_self_eq_true, adp, xH, aoC, aoD, agV, nRt, R7, pS, cS, alW, al5, ZW, ajf, aje, ajg, ajh, aeR, aiG, Yn, aia, Yk, ajk, als, alu, WY, aex, aew, aiW, aiV, amd, aoz, aev, abD, abC, aeu, aiU, abB, aet, aiS, aes, aiQ, aiO, amb, abz, aer, aiN, aiL, aiK, aiJ, aiH, ama, aep, aeo, aen, aiE, Dy, aiC, aiA, aiz, aix, aiv, al8, aem, ael, aiu, al6, air, aip, ain, al4, aim, aek, aej, ail, aij, al1, aow, al0, aei, aii, aif, aid, alX, aic, alU, aib, alS, *] <;> try rfl)
namespace nY
open Ev PySem L2
open ye (cF fin jn)
open qi (XS sides)
theorem Ma:nQ=ye.nQ:=rfl
theorem Qg:jF=ye.jF:=rfl
abbrev rows(l:List (List Nat)):List D:=l.map bL
theorem HF(n)(hn:n<=5):∀k,(perms n k).length<=5^k
 | 0=>by simp[perms]
 | k+1=>by
  unfold perms;rw[List.length_flatMap];have ih:=HF n hn k;have:∀l:List (List Nat),(l.map λr=>(((List.range n).filter λi=>!decide (i∈r)).map λi=>r++[i]).length).sum<=5*l.length:=by
   intro l
   induction l with
   | nil=>simp
   | cons r l ih=>
    rw[Qq2,List.sum_cons,Qqw];have:(((List.range n).filter λi=>!decide (i∈r)).map λi=>r++[i]).length<=5:=by rw[Qqz];refine Qqj (List.length_filter_le _ _) ?_;rw[List.length_range];exact hn
    omega
  have:=this (perms n k);rw[Nat.pow_succ];omega
theorem gH(n k)(hn:n<=5):(perms n k).length<=3125:=by
 by_cases h:k<=5
 ·exact Qqj (HF n hn k)<|Qqj (Nat.pow_le_pow_right (by decide) h) (by decide)
 ·rw[Tf (by omega)];simp
theorem wO(r)(i:Nat)(hr:r.length<=100):cA (bL r) (.tup [.int i])=some (bL (r++[i])):=by unfold bL;rw[Qxk];exact Mu<|Qqj (by rw[Qqz];show r.length+1<=101;omega) (by decide)
theorem wV{i:Nat}(h:i<Rs.length):bZ (.tup Rs) (.int i)=some (Rs.getD i .non):=by
 rw[uL,atN,Qw9,Qq6 h]
 rfl
theorem Dv(s)(Rs)(r)(h:∀i∈r,i<Rs.length)(hr:r.length<=100):iC [.tup [s,.tup Rs],bL r]=some (.tup [s,.tup (pick Rs r)]):=by
 have hl:jq [Zf (.tup [s,.tup Rs]),Zf<|bL r] = .ok (.lst<|pick Rs r) [Zf (.tup [s,.tup Rs]),Zf<|bL r]:=by
  unfold jq pick;refine o6 r (λi=>.int i) _ (by rfl) rfl rfl (λi hi=>?_) (Qqj hr (by decide));have:=wV<|h i hi;generalize Rs.getD i .non=Z at *;generalize bL r=Q;clear hi h;rw[uL] at this
  ac_rfl
 unfold iC rE;generalize bL r=Q at *;generalize pick Rs r=Z at *;clear h
 ac_rfl
abbrev Pr:=List Nat×List Nat
noncomputable def encP(p:Pr):D:=.tup [.str p.1,.str p.2]
def bk(B:List Pr):D:=.tup (B.map encP)
structure Ok(x:List Nat)(s:D)(Rs:List D):Prop where
 hx:x∈XS
 hs:s∈sides
 hR:∀R∈Rs,jn x R
 h4:Rs.length<=5
theorem Ok.pick(h:Ok x s Rs)(hr:∀i∈r,i<Rs.length)(hl:r.length<=5):Ok x s (pick Rs r):=by refine⟨h.hx,h.hs,λR hR=>?_,by unfold nY.pick;rw[Qqz];exact hl⟩;unfold nY.pick at hR;obtain⟨i,hi,rfl⟩:=Qw3.mp hR;have:=hr i hi;rw[Qw9,Qq6 this];exact h.hR _<|Qxq this
theorem Ok.bound(h:Ok x s Rs){w:List Nat}(hw:w.length<=7):(w.length+1)*2^Rs.length<=301:=by have:2^Rs.length<=32:=Qqj (Nat.pow_le_pow_right (by decide) h.h4) (by decide);exact Qqj (Nat.mul_le_mul (show w.length+1<=8 by omega) this) (by decide)
section
variable{x:List Nat}{s:D}{Rs:List D}(h:Ok x s Rs){w:List Nat}(hw:∀c∈w,c∈x)(hl:w.length<=7)
include h hw hl
theorem made:nQ [.tup [s,.tup Rs],.str w]=some (.str (fin s Rs w)):=by rw[Ma];exact ye.made h.hx h.hs h.hR (by have:=h.h4;omega) hw<|Qqj (h.bound hl) (by decide)
theorem Du:gO [.tup [s,.tup Rs],.str w]=some (.str (fin s Rs w)):=by
 have h1:=ye.abj h.hx h.hs h.hR (by have:=h.h4;omega) hw<|Qqj (h.bound hl) (by decide);rw[<-Qg] at h1;have h2:=ye.Qh (s:=s) Rs w;unfold gO rD;rw[uL] at h2;generalize ye.wB s w Rs=W at *;generalize fin s Rs w=Z at *;clear h hw hl
 ac_rfl
theorem Es:(∀c∈fin s Rs w,c∈x)/\(fin s Rs w).length<=300:=by have h1:=h.bound hl;obtain⟨h2,h3⟩:=ye.Es h.hx h.hs Rs w h.hR hw<|Qqj h1 (by decide);exact⟨h2,by omega⟩
end
end nY
namespace mR
open Ev PySem L2
open mj (mk aba marks wM known eQ Rows isT yZ jM PV Gp SG prs yX xO zG xN one others CK)
open qi (XS sides encC Rn lZ)
theorem U7:bf=mj.bf:=rfl
theorem Vm:jg=mj.jg:=rfl
theorem W3:je=mj.je:=rfl
theorem wN:d9=mj.d9:=rfl
def mt(d:Nat):D:=match mk d with
 | .lst zs=>.tup (cutD zs none (some 4))
 | _=>.non
def MK:List D:=(List.range 32).map mt
inductive my:List D->List D->Prop where
 | nil:my [] []
 | cons {s m:D} {ss rs:List D}:m∈MK->my ss rs->my (s::ss) (.tup [s,m]::rs)
theorem my.snoc(h:my ss rs)(s)(hm:m∈MK):my (ss++[s]) (rs++[.tup [s,m]]):=by
 induction h with
 | nil=>exact .cons hm .nil
 | cons a _ ih=>exact .cons a ih
theorem my.rows(h:my ss rs):Rows ss rs:=by
 induction h with
 | nil=>exact .nil
 | cons _ _ ih=>exact .cons ih
theorem my.take(h:my ss rs):∀n,my (ss.take n) (rs.take n):=by
 induction h with
 | nil=>intro n;simp;exact .nil
 | cons a _ ih=>intro n;cases n with
  | zero=>exact .nil
  | succ n=>exact .cons a<|ih n
noncomputable def XL:List (List Nat):=[[97],[97,98],[97,98,99],[97,101,112,116],[109,110,122],[97,101],[109,110]]
theorem rO:∀x∈XL,x∈XS:=by intro x hx;simp[XL,Qq8,List.not_mem_nil,or_false] at hx;rcases hx with rfl|rfl|rfl|rfl|rfl|rfl|rfl<;>exact mj.anb ⟨by decide,by decide,by decide,by decide⟩
theorem Wn:∀x∈XL,x.take 2∈XL:=by decide
theorem acz:∀x∈XL,oA [.tup (gW x)]=some (.bl true):=by
 have h:(XL.all λx=>isT<|oA [.tup (gW x)])=true:=by decide +kernel
 exact λx hx=>yZ<|Qw1.mp h x hx
theorem aag:∀c∈XL.flatten,∀m∈MK,gk [.tup [.str [c],m]]=some (.bl true):=by
 have h:(XL.flatten.all λc=>MK.all λm=>isT<|gk [.tup [.str [c],m]])=true:=by decide +kernel
 exact λc hc m hm=>yZ<|Qw1.mp (Qw1.mp h c hc) m hm
theorem W9(h:my ss rs):∀r∈rs,∃s∈ss,∃m∈MK,r = .tup [s,m]:=by
 induction h with
 | nil=>intro r hr;cases hr
 | @cons s m ss rs a _ ih=>
  intro r hr;rcases Qq8.mp hr with rfl|hr
  ·exact⟨s,Qq3 ..,m,a,rfl⟩
  ·obtain⟨s',h1,h2⟩:=ih r hr;exact⟨s',Qqy _ h1,h2⟩
theorem is_stock(hx:x∈XL)(h:my (gW x) rs):kE [.tup rs]=some (.bl true):=by
 have hs:=mj.sounds_of (rO x hx) h.rows;rw[<-wN] at hs;have h2:=acz x hx;have hl:rs.length=x.length:=by rw[h.rows.len];simp[gW]
 have h3:=mj.o7 x<|rO x hx;have h4:=mj.zE x<|rO x hx;have hg:∀r∈rs,gk [r]=some (.bl true):=λr hr=>by
  obtain⟨s,h5,m,h6,rfl⟩:=W9 h r hr;unfold gW at h5;obtain⟨c,hc,rfl⟩:=Qw3.mp h5;exact aag c (List.mem_flatten.mpr ⟨x,hx,hc⟩) m h6
 have hc:mW [Zf (.tup rs)] = .ok (.lst<|rs.map λ_=>.bl true) [Zf (.tup rs)]:=by
  unfold mW;refine o6 rs id _ (by rw[List.map_id];rfl) rfl rfl (λr hr=>?_) (Qqj (show rs.length<=4 by omega) (by decide));have:=hg r hr;show az gk (Zv 1 aj) [Zf (.tup rs),Zf r]=_;clear hs h2 hg h
  ac_rfl
 have ha:=zW (λ_:D=>true) rs;rw[show rs.all (λ_=>true)=true by simp] at ha;have l1:decide ((1:Int)<=(rs.length:Int))=true:=Qw2 (by omega);have l2:decide ((rs.length:Int)<=4)=true:=Qw2 (by omega);have ht:fL "tuple" (.tup rs)=some (.bl true):=rfl;unfold kE Fw;clear hg h hl h3 h4 hx;generalize mW=LC at *;generalize rs.map (λ_=>D.bl true)=MM at *
 ac_rfl
def ym:bU:=aF (aX (dM bf 0 (aa (Zi 32) aj)) (au 5)) (aF wM (iH 3 (cI (Zv 4 (aa (az dX (aa (zm (aM 6) mq (xG (Zi 4))) aj)) aj)))))
theorem R5(n)(b v5 v6:OD)(acc)(s)(ha:acc.length<=10):∃m v5' v6',ym [Zl [.int n],b,Zf known,Zl acc,Zf s,v5,v6] = .nx [Zl [.int (n / 32)],b,Zf known,Zl (acc++[.tup [s,m]]),Zf s,v5',v6']/\m∈MK:=by obtain⟨d,hd,e⟩:=dig n 32 (by decide);obtain⟨zs,hz⟩:=aba d hd;refine⟨.tup<|cutD zs none<|some 4,Zf<|.int d,Zf<|.lst zs,?_,Qw3.mpr ⟨d,Qx0.mpr hd,by unfold mt;rw[hz]⟩⟩;unfold ym;refine(aL (e:=[Zl [.int (n / 32)],b,Zf known,Zl acc,Zf s,(Zf<|.int<|n % (32:Nat)),v6]) rfl).trans ?_;rw[e];refine(aL<|marks d hd _ _ _ _ _).trans ?_;rw[hz];exact eQ (e:=[Zl [.int (n / 32)],b,Zf known,Zl acc,Zf s,Zf<|.int d,Zf<|.lst zs]) rfl rfl rfl (Qw0 ha (by decide))
theorem stock(n):∃x rows n',x∈XL/\pB [.lst [.int n]]=some (.tup rows,.lst [.int n'])/\my (gW x) rows:=by
 obtain⟨d,hd,e⟩:=dig n 6 (by decide);obtain⟨x,hx,h1⟩:∃x,x∈XL/\∀m,(λk m=>eY (fG (bZ (.lst [.str [97],.str [97,98],.str [97,98],.str [97,98,99],.str [97,101,112,116],.str [109,110,122]])<|.int k) ([Zl [.int m],Zn,Zn,Zn,Zn,Zn,Zn]:Ev.Env)) λd aG=>HY<|au 1 d aG) (d:Int) m = .nx [Zl [.int m],Zs x,Zn,Zn,Zn,Zn,Zn]:=by
  have hc:d=0\/d=1\/d=2\/d=3\/d=4\/d=5:=by omega
  rcases hc with rfl|rfl|rfl|rfl|rfl|rfl
  ·exact⟨[97],by decide,λm=>rfl⟩
  ·exact⟨[97,98],by decide,λm=>rfl⟩
  ·exact⟨[97,98],by decide,λm=>rfl⟩
  ·exact⟨[97,98,99],by decide,λm=>rfl⟩
  ·exact⟨[97,101,112,116],by decide,λm=>rfl⟩
  ·exact⟨[109,110,122],by decide,λm=>rfl⟩
 have hxl:x.length<=4:=mj.o7 x<|rO x hx;obtain⟨e',f1,n',acc,v4,v5,v6,rfl,hr⟩:=jR (g:=au 4) (b:=ym) (gW x) (λdone env=>∃n acc v4 v5 v6,env=[Zl [.int n],Zs x,Zf known,Zl acc,v4,v5,v6]/\my done acc)
  (λdone s rest hall env ⟨n,acc,v4,v5,v6,he,hr⟩=>by
   subst he;have hd:done.length<=4:=by
    have:=Qzx List.length hall;unfold gW at this
    grind
   obtain⟨m,w5,w6,hb,hm⟩:=R5 n (Zs x) v5 v6 acc s (by rw[hr.rows.len];omega);exact⟨_,_,rfl,hb,n / 32,_,_,_,_,rfl,hr.snoc s hm⟩)
  [Zl [.int (n / 6)],Zs x,Zf known,Zl [],Zn,Zn,Zn] ⟨_,[],_,_,_,rfl,.nil⟩
 refine⟨x,acc,n',hx,jB (env:=[Zl [.int n'],Zs x,Zf known,Zl acc,v4,v5,v6]) ?_ rfl,hr⟩;unfold z9;refine(aL (e:=[Zl [.int (n / 6)],Zs x,Zn,Zn,Zn,Zn,Zn]) ?_).trans ?_
 ·have h2:=h1 (n / 6);rw[<-e] at h2;exact h2
 refine(aL rfl).trans ?_;refine(aL rfl).trans ?_;refine(aL (e:=[Zl [.int n'],Zs x,Zf known,Zl acc,v4,v5,v6]) ?_).trans ?_
 ·exact f1
 ·rfl
open mj (Rows isT yZ jM PV Gp SG prs yX xO zG xN one others CK)
open ye (jn cF fin)
theorem lt1(x y:Nat):([x] < [y])↔x<y:=by
 constructor
 ·intro h;cases h with
  | rel h=>exact h
  | cons h=>exact absurd h<|List.not_lt_nil _
 ·intro h;exact .rel h
noncomputable def up:List Nat->Bool
 | []=>true
 | [_]=>true
 | a::b::r=>decide (a<b)&&up (b::r)
theorem Zy:∀z,((List.range (z.length - 1)).all λi=>decide ([z.getD i 0] < [z.getD (i+1) 0]))=up z
 | []=>rfl
 | [_]=>rfl
 | x::y::r=>by
  have ih:=Zy (y::r);have e:(x::y::r).length - 1=(y::r).length - 1+1:=by simp
  rw[e,List.range_succ_eq_map,List.all_cons,List.all_map];have e2:decide ([(x::y::r).getD 0 0] < [(x::y::r).getD (0+1) 0])=decide (x<y):=by rw[Qj5,decide_eq_true_iff,decide_eq_true_iff];exact lt1 x y
  rw[e2];show _=(decide (x<y)&&up (y::r));rw[<-ih]
  rfl
theorem rises{t:List D->D}(ht:t = .tup\/t = .lst)(hz:z.length<=1000):oA [t (gW z)]=some (.bl (up z)):=by
 unfold oA Wh Dl;have hlen:cY [t (gW z)]=some (.int z.length):=by rcases ht with rfl|rfl<;>simp[cY,gW]
 have hr:qO [.int ((z.length:Int) - 1)]=some ((List.range<|z.length - 1).map λ(i:Nat)=>D.int (i:Int)):=by
  cases z with
  | nil=>rfl
  | cons c r=>
   have e:(((c::r).length:Int) - 1)=((r.length:Nat):Int):=by rw[Qqw];omega
   rw[e,Cz (by simp at hz;omega)]
   rfl
 have h4:=o6 (lo:=1) (n:=2) (it:=fc<|aa (aN m7 (az cY<|aa (bh 0) aj)<|Zi 1) aj) (e:=aN VP (ao bZ 0<|bh 1)<|ao bZ 0<|ao cA 1<|Zi 1) (env:=[(Zf<|t<|gW z)]) (List.range<|z.length - 1) (λi=>.int (i:Int)) (λi=>.bl<|decide ([z.getD i 0] < [z.getD (i+1) 0])) (by ac_rfl) rfl rfl (λi hi=>by
  have hi:=Qx0.mp hi;have g:∀j,j<z.length->bZ (t (gW z)) (.int (j:Int))=some (.str [z.getD j 0]):=λj hj=>by
   rcases ht with rfl|rfl<;>simp[uL,QC,atN,gW,hj]
  have g1:=g i (by omega);have g2:=g (i+1) (by omega);rw[show(((i+1:Nat):Int))=(i:Int)+1 from rfl] at g2
  ac_rfl) (by rw[List.length_range];exact Qqj (show z.length - 1<=1000 by omega) (by decide))
 have h5:=zW (λi=>decide ([z.getD i 0] < [z.getD (i+1) 0])) (List.range (z.length - 1));rw[Zy] at h5
 ac_rfl
theorem Hr:∀{z},(z.map λc=>[c]).Pairwise (·<= ·)->z.Nodup->up z=true
 | [],_,_=>rfl
 | [_],_,_=>rfl
 | a::b::r,h,hn=>by
  have ih:=Hr (Qz6.mp h).2 (Qz3.mp hn).2;have h1:=(Qz6.mp h).1 [b] (by simp);have h2:a≠b:=λe=>(Qz3.mp hn).1 (by simp[e]);show(decide (a<b)&&up (b::r))=true;rw[ih,Bool.and_true,decide_eq_true_iff];have h3:a<=b:=by
   rcases Nat.lt_or_ge b a with h4|h4
   ·exact absurd ((lt1 b a).mpr h4) h1
   ·exact h4
  omega
theorem abY(h:Ii d zs=some b):En d (.tup zs)=some (.bl b):=by
 show(abZ d<|.tup zs).or _=_;have:abZ d (.tup zs)=some (.bl b):=by
  show(Ii d zs).map D.bl=_;rw[h]
  rfl
 rw[this]
 rfl
theorem QD(h:x.contains c=b):En (.str [c]) (.tup (gW x))=some (.bl b):=abY (by rw[gW,qi.DG,h])
theorem amF(x):En (.str []) (.tup (gW x))=some (.bl false):=abY (by
 induction x with
 | nil=>rfl
 | cons c x ih=>
  show(match jj 59 (.str [c]) (.str []),Ii (.str []) (gW x) with|some a,some b=>some (a||b)|_,_=>none)=_;rw[ih]
  rfl)
theorem aci{ps:List qi.Pr}(h0:0<ps.length)(h4:ps.length<=4)(hp:∀p∈ps,p.1∈x/\p.2.length<=1/\(∀c∈p.2,c∈x)/\p.2≠[p.1])(hu:up (ps.map (·.1))=true):eN [.tup (gW x),.tup (ps.map encC)]=some (.bl true):=by
 have cs:∀p∈ps,ie [.tup (gW x),encC p]=some (.bl true):=λp h=>by
  obtain⟨a1,a2,a3,a4⟩:=hp p h;have e1:eZ [encC p]=some (.bl true):=rfl;have e2:En (.str [p.1]) (.tup<|gW x)=some (.bl true):=QD<|List.contains_iff_mem.mpr a1;have e5:Gr (.str [p.1]) (.str p.2)=some (.bl true):=by rw[VJ,Qxj.mpr<|Ne.symm a4];rfl
  match e:p.2,a2 with
  | [],_=>
   have e3:=amF x;rw[e] at e5;have e6:encC p = .tup [.str [p.1],.str []]:=by unfold encC;rw[e]
   rw[e6] at e1 ⊢;unfold ie nU;clear hp a1 a2 a3 a4 e6 e hu;generalize gW x=X at *
   ac_rfl
  | [c],_=>
   have e3:=QD<|List.contains_iff_mem.mpr<|a3 c (by rw[e];simp);rw[e] at e5;have e6:encC p = .tup [.str [p.1],.str [c]]:=by unfold encC;rw[e]
   rw[e6] at e1 ⊢;unfold ie nU;clear hp a1 a2 a3 a4 e6 e hu;generalize gW x=X at *
   ac_rfl
  | a::b::r,h=>simp at h
 have c1:jO [(Zf<|.tup<|gW x),(Zf<|.tup<|ps.map encC)] = .ok (.lst<|ps.map λ_=>.bl true) [(Zf<|.tup<|gW x),(Zf (.tup (ps.map encC)))]:=by
  unfold jO;refine o6 ps encC _ rfl rfl rfl (λp h=>?_) (Qqj (show ps.length<=4 by omega) (by decide));have:=cs p h;show az ie (Zv 0 (Zv 2 aj)) [(Zf (.tup (gW x))),(Zf (.tup (ps.map encC))),Zf (encC p)]=_;generalize encC p=P at *;generalize ps.map encC=PS at *;generalize gW x=X at *;clear cs hp hu h
  ac_rfl
 have c2:jN [(Zf (.tup (gW x))),(Zf (.tup (ps.map encC)))] = .ok (.lst (gW (ps.map (·.1)))) [(Zf (.tup (gW x))),(Zf (.tup (ps.map encC)))]:=by
  unfold jN;have h4:=zp (lo:=2) (n:=4) (it:=iD (aM 1)) (g:=d8 2 (bu (au 2) (bu (au 3) eG))) (c:=cR) (e:=aM 2) (env:=[(Zf (.tup (gW x))),(Zf (.tup (ps.map encC)))]) ps encC (λp=>[Zs [p.1],Zs p.2]) (λ_=>true) (λp=>.str [p.1]) rfl rfl (λp hp=>by
   refine⟨rfl,λvs hv=>?_,rfl,λ_=>rfl⟩
   match vs,hv with
   | [_,_],_=>rfl) (Qqj (show ps.length<=4 by omega) (by decide))
  rw[List.filter_eq_self.mpr (λ_ _=>rfl)] at h4;rw[h4];unfold gW;rw[Qz2]
  rfl
 have ha:=zW (λ_:qi.Pr=>true) ps;rw[show ps.all (λ_=>true)=true by simp] at ha;have hr:=rises (.inr rfl) (z:=ps.map (·.1)) (by rw[Qqz];omega);rw[hu] at hr;have hl:cY [.tup (ps.map encC)]=some (.int (ps.length:Nat)):=by rw[El,Qqz]
 have hn:gQ (.int (ps.length:Nat)) (.int 0)=some (.bl false):=by rw[xB,Qxj.mpr (by omega)]
 have ht:fL "tuple" (.tup (ps.map encC))=some (.bl true):=rfl;have hpo:iB [.tup (gW x),(ps.map encC).headD .non]=some (.bl false):=by
  match ps,h0 with
  | p::r,_=>
   have e1:eZ [.tup [.str [p.1],.str p.2]]=some (.bl true):=rfl;have e2:gQ (.str [p.1]) (.str [])=some (.bl false):=rfl;show iB [.tup (gW x),.tup [.str [p.1],.str p.2]]=_;unfold iB qb;generalize gW x=X at *;clear c1 c2 ha hr hl hn ht hp cs hu
   ac_rfl
 have hix:bZ (.tup (ps.map encC)) (.int 0)=some ((ps.map encC).headD .non):=by
  match ps,h0 with
  | p::r,_=>rw[uL,Qq2,mj.Fy];rfl
 unfold eN qe;generalize(ps.map encC).headD .non=H at *;generalize ps.map encC=PS at *;generalize gW (ps.map (·.1))=SS at *;generalize ps.map (λ_=>D.bl true)=MM at *;generalize jO=L1 at *;generalize jN=L2 at *;generalize gW x=X at *;clear cs hp hu;by_cases h1:ps.length=1
 ·have hn1:gQ (.int (ps.length:Nat)) (.int 1)=some (.bl true):=by rw[xB,h1];rfl
  generalize(ps.length:Int)=N at *;clear h0 h4 h1
  ac_rfl
 ·have hn1:gQ (.int (ps.length:Nat)) (.int 1)=some (.bl false):=by rw[xB,Qxj.mpr (by omega)]
  generalize(ps.length:Int)=N at *;clear h0 h4 h1
  ac_rfl
theorem aaz(hc:c∈x):eN [.tup (gW x),.tup [.tup [.str [],.str [c]]]]=some (.bl true):=by
 have e1:eZ [.tup [.str [],.str [c]]]=some (.bl true):=rfl;have e2:=QD<|List.contains_iff_mem.mpr hc;have e3:iB [.tup (gW x),.tup [.str [],.str [c]]]=some (.bl true):=by
  unfold iB qb;generalize gW x=X at *;have e4:gQ (.str []) (.str [])=some (.bl true):=rfl
  ac_rfl
 unfold eN qe;generalize gW x=X at *;have e4:fL "tuple" (.tup [.tup [.str [],.str [c]]])=some (.bl true):=rfl;have e5:gQ (.int (0+1)) (.int 0)=some (.bl false):=rfl;have e6:gQ (.int (0+1)) (.int 1)=some (.bl true):=rfl
 ac_rfl
theorem Ph(hx:x∈XS):∀ks,(∀k∈ks,∃c v,k = .str [c]/\kZ (.dct kvs) k=some v/\(c,v)∈PV x)->∃ps:List qi.Pr,prs kvs ks=ps.map encC/\ps.length=ks.length/\(∀p∈ps,p.1∈x/\p.2.length<=1/\(∀c∈p.2,c∈x)/\p.2≠[p.1])/\ks=ps.map λp=>.str [p.1]
 | [],_=>⟨[],rfl,rfl,λp hp=>by simp at hp,rfl⟩
 | k::ks,h=>by
  obtain⟨c,v,rfl,e,hv⟩:=h k<|Qq3 ..;obtain⟨t,et,ht⟩:=qi.ake x hx _ hv;have hne:t≠[c]:=by
   obtain⟨c',hc',h'⟩:=List.mem_flatMap.mp hv;obtain⟨v',hv',h2⟩:=Qw3.mp h';cases h2;obtain⟨z,hz,h3⟩:=Qw3.mp hv';have et':v = .str t:=et;rw[et'] at h3;cases h3
   simpa using (List.mem_filter.mp hz).2
  obtain⟨ps,e1,e2,e3,e4⟩:=Ph hx ks λk hk=>h k<|Qqy _ hk;refine⟨(c,t)::ps,?_,by rw[Qqw,Qqw,e2],λp hp=>?_,by rw[Qq2,<-e4]⟩
  ·unfold prs at e1 ⊢;rw[Qq2,e1,e];have et':v = .str t:=et;rw[et']
   rfl
  ·rcases Qq8.mp hp with rfl|hp
   ·exact⟨zG hv,ht.1,ht.2,hne⟩
   ·exact e3 p hp
theorem changes(n)(x)(hx:x∈XS):∃ch n',p8 [.lst [.int n],.str x]=some (ch,.lst [.int n'])/\Rn x ch/\eN [.tup (gW x),ch]=some (.bl true):=by
 obtain⟨d,hd,e⟩:=dig n 5 (by decide);have hp:=mj.zE x hx;have hl4:=mj.o7 x hx;have t:cX (aN gQ (dM bf 0<|aa (Zi 5) aj)<|Zi 0) [Zl [.int n],Zs x,Zn,Zn,Zn,Zn] = .ok ((d:Int) == 0) [Zl [.int (n / 5)],Zs x,Zn,Zn,Zn,Zn]:=by
  rw[<-e]
  rfl
 by_cases h0:d=0
 ·subst h0;obtain⟨j,hj,ej⟩:=dig (n / 5) x.length hp;refine⟨.tup [.tup [.str [],.str [x[j]]]],n / 5 / (x.length:Int),jB (env:=[Zl [.int (n / 5 / (x.length:Int))],Zs x,Zn,Zn,Zn,Zn]) ?_ rfl,.put<|Qxq hj,aaz<|Qxq hj⟩;unfold qd;refine(jU ?_).trans rfl;refine(iQ t).trans ?_;refine cP<|o5 (aR (o5 (aR rfl (aR ?_ cu)) Ev.zz2) cu) Ev.zz1;refine bM (y:=.int<|n / 5 % (x.length:Int)) rfl ?_ rfl ?_
  ·exact gm (e1:=[Zl [.int (n / 5)],Zs x,Zn,Zn,Zn,Zn]) rfl rfl rfl (jM _ x.length hp (by omega))
  ·show(qF x (n / 5 % (x.length:Int))).map _=_;rw[ej,M9 hj]
   rfl
 ·have t0:((d:Int) == 0)=false:=by simp_all
  rw[t0] at t;obtain⟨j,hj,ej⟩:=dig (n / 5) 4 (by decide);obtain⟨ds,hds,hl1,hl2⟩:∃ds,qO [.int (1+(j:Int))]=some ds/\0<ds.length/\ds.length<=4:=by
   have hc:j=0\/j=1\/j=2\/j=3:=by omega
   rcases hc with rfl|rfl|rfl|rfl
   ·exact⟨_,rfl,by decide,by decide⟩
   ·exact⟨_,rfl,by decide,by decide⟩
   ·exact⟨_,rfl,by decide,by decide⟩
   ·exact⟨_,rfl,by decide,by decide⟩
  obtain⟨e',f1,n',kvs,zs,v3,v4,v5,rfl,hk,hz1,hz2⟩:=jR (g:=au 3) (b:=aF one (aF others CK)) ds
   (λdone env=>∃n kvs zs v3 v4 v5,env=[Zl [.int n],Zs x,Zt (.dct kvs),v3,v4,v5]/\Gp x kvs zs/\zs.length<=done.length/\(0<done.length->0<zs.length))
   (λdone s rest hall env ⟨n,kvs,zs,v3,v4,v5,he,hk,hz1,hz2⟩=>by
    subst he;have hdl:done.length<=4:=by grind
    have hkl:kvs.length=zs.length:=by
     have:=Qzx List.length hk.keys
     simp_all
    obtain⟨p,n',w4,w5,hpv,hb⟩:=mj.round n x hx kvs (by omega) (Zf s) v4 v5;obtain⟨zs',hk',z1,z2⟩:=hk.put hpv (zG hpv);exact⟨_,_,rfl,hb,n',_,zs',_,_,_,rfl,hk',by grind,λ_=>z1⟩)
   [Zl [.int (n / 5 / 4)],Zs x,Zt (.dct []),Zn,Zn,Zn] ⟨_,[],[],_,_,_,rfl,⟨rfl,.nil,λc hc=>by simp at hc,λk v h=>by simp at h⟩,Qqv _,λh=>h⟩
  have hz3:zs.length<=4:=Qqj hz1 hl2;have hok:Rn x (.tup (prs kvs ((jy (zs.map λc=>[c])).map D.str)))/\eN [.tup (gW x),.tup (prs kvs ((jy (zs.map λc=>[c])).map D.str))]=some (.bl true):=by
   obtain⟨ps,e1,e2,e3,e4⟩:=Ph hx _ (yX hk);have hl:ps.length=zs.length:=by rw[e2,Qqz,(iY _).length_eq,Qqz]
   have hu:=hz2 hl1;rw[e1];refine⟨.chg (by omega) (by omega) (λp hp=>⟨(e3 p hp).1,(e3 p hp).2.1,(e3 p hp).2.2.1⟩),aci (by omega) (by omega) e3 ?_⟩;have e6:(ps.map (·.1)).map (λc=>[c])=jy (zs.map λc=>[c]):=by
    have:∀a b:List (List Nat),a.map D.str=b.map D.str->a=b:=λa b h=>by
     have:=Qzx (List.map λd=>match d with|D.str z=>z|_=>[]) h
     simpa[Function.comp_def] using this
    exact this _ _ (by rw[e4,Qz2,Qz2];rfl)
   refine Hr (by rw[e6];exact qJ _) ?_;have h7:(jy (zs.map λc=>[c])).Nodup:=(iY _).nodup_iff.mpr (List.pairwise_map.mpr (hk.nd.imp λh e=>h (by simpa using e)));rw[<-e6] at h7;exact(List.pairwise_map.mp h7).imp λh e=>h (by rw[e])
  refine⟨_,n',jB (env:=[Zl [.int n'],Zs x,Zt (.dct kvs),v3,v4,v5]) ?_ rfl,hok⟩;unfold qd;refine(aL ((fK t).trans rfl)).trans ?_;refine(aL (e:=[Zl [.int (n / 5)],Zs x,Zt (.dct []),Zn,Zn,Zn]) rfl).trans ?_;refine(aL (e:=[Zl [.int n'],Zs x,Zt (.dct kvs),v3,v4,v5]) ?_).trans ?_
  ·refine(jl ?_).trans f1;have a1:aa (aN cA (Zi 1) (dM bf 0 (aa (Zi 4) aj))) aj [Zl [.int (n / 5)],Zs x,Zt (.dct []),Zn,Zn,Zn] = .ok [.int (1+n / 5 % 4)] [Zl [.int (n / 5 / 4)],Zs x,Zt (.dct []),Zn,Zn,Zn]:=rfl;unfold fc;rw[a1];show fG (qO [.int (1+n / 5 % ((4:Nat):Int))]) _=_;rw[ej,hds]
   rfl
  ·exact xN (xO hk hz3) _ _ _ _ _
theorem rule(n)(x)(hx:x∈XS):∃w ch l r n',mJ [.lst [.int n],.str x]=some (.tup [w,ch,l,r],.lst [.int n'])/\lZ x w ch l r/\eN [.tup (gW x),ch]=some (.bl true):=by
 obtain⟨d,hd,e⟩:=dig n 2 (by decide);obtain⟨w,hw,h1⟩:∃w,(w = .str [111,110,99,101]\/w = .str [97,108,111,110,103])/\bZ (.lst [.str [111,110,99,101],.str [97,108,111,110,103]]) (.int (d:Int))=some w:=by
  have hc:d=0\/d=1:=by omega
  rcases hc with rfl|rfl
  ·exact⟨_,.inl rfl,rfl⟩
  ·exact⟨_,.inr rfl,rfl⟩
 obtain⟨ch,n1,h2,h3,h4⟩:=changes (n / 2) x hx;obtain⟨l,n2,h5,h6⟩:=mj.signs n1 x hx;obtain⟨r,n3,h7,h8⟩:=mj.signs n2 x hx;refine⟨w,ch,l,r,n3,jB (env:=[Zl [.int n3],Zs x,Zf w,Zf ch]) ?_ rfl,⟨hw,h3,h6,h8⟩,h4⟩;unfold Ft;refine(aL (e:=[Zl [.int (n / 2)],Zs x,Zf w,Zn]) ?_).trans ?_
 ·refine bY (e:=[Zl [.int (n / 2)],Zs x,Zn,Zn]) ?_ rfl;refine cD rfl rfl ?_
  simp_all
 refine(aL (e:=[Zl [.int n1],Zs x,Zf w,Zf ch]) ?_).trans ?_
 ·exact bY (gm (e1:=[Zl [.int (n / 2)],Zs x,Zf w,Zn]) rfl rfl rfl h2) rfl
 ·refine cP<|o5 (aR (d:=w) rfl (aR rfl (aR (d:=l) (e1:=[Zl [.int n2],Zs x,Zf w,Zf ch]) ?_<|aR (d:=r) ?_ cu))) Ev.zz4
  ·exact gm (e1:=[Zl [.int n1],Zs x,Zf w,Zf ch]) rfl rfl rfl h5
  ·exact gm (e1:=[Zl [.int n2],Zs x,Zf w,Zf ch]) rfl rfl rfl h7
theorem Ce:∀x∈XL,∀l∈SG x,m9 [.tup (gW x),l]=some (.bl true):=by
 have h:(XL.all λx=>(SG x).all λl=>isT<|m9 [.tup (gW x),l])=true:=by decide +kernel
 exact λx hx l hl=>yZ<|Qw1.mp (Qw1.mp h x hx) l hl
structure Gm(x:List Nat)(R:D):Prop where
 ok:jn x R
 isr:∀T,d9 [T]=some (.tup (gW x))->mK [T,R]=some (.bl true)
theorem is_rule(hx:x∈XL)(hT:d9 [T]=some (.tup (gW x)))(h:lZ x w ch l r)(hc:eN [.tup (gW x),ch]=some (.bl true)):mK [T,.tup [w,ch,l,r]]=some (.bl true):=by
 have h1:=Ce x hx l h.left;have h2:=Ce x hx r h.right;have h3:En w (.tup [(.str [111,110,99,101]),(.str [97,108,111,110,103])])=some (.bl true):=by rcases h.way with rfl|rfl<;>rfl
 have ht:fL "tuple" (.tup [w,ch,l,r])=some (.bl true):=rfl;unfold mK J0;generalize gW x=X at *;clear h
 ac_rfl
theorem order(n)(x)(hx:x∈XL)(m:Nat)(hm:m<=4):∃s Rs n',pF [.lst [.int n],.str x,.int m]=some (.tup [s,.tup Rs],.lst [.int n'])/\s∈sides/\(∀R∈Rs,Gm x R)/\Rs.length<=m:=by
 obtain⟨d,hd,e⟩:=dig n 2 (by decide);obtain⟨s,hs,h1⟩:∃s,s∈sides/\bZ (.lst [.str [108,101,102,116],.str [114,105,103,104,116]]) (.int (d:Int))=some s:=by
  have hc:d=0\/d=1:=by omega
  rcases hc with rfl|rfl
  ·exact⟨_,Qq3 ..,rfl⟩
  ·exact⟨_,Qqy _<|Qq3 ..,rfl⟩
 obtain⟨j,hj,ej⟩:=dig (n / 2) (m+1) (by omega);obtain⟨Rs,env',g1,⟨n',v4,rfl⟩,g3,g4⟩:=Ni.Mi (g:=au 4) (e:=dM mJ 0<|Zv 1 aj) (λenv=>∃n v4,env=[Zl [.int n],Zs x,(Zf<|.int (m:Int)),Zf s,v4]) (Gm x) (fJ 0 1 j)
  [Zl [.int (n / 2 / ((m+1:Nat):Int))],Zs x,(Zf<|.int (m:Int)),Zf s,Zn] ⟨_,_,rfl⟩
  (λt _ env ⟨n,v4,he⟩=>by
   subst he;obtain⟨wy,ch,l,r,n',h2,h3,h4⟩:=rule n x<|rO x hx;refine⟨.tup [wy,ch,l,r],_,[Zl [.int n'],Zs x,(Zf<|.int (m:Int)),Zf s,Zf t],rfl,?_,⟨_,_,rfl⟩,⟨_,_,_,_,rfl,h3⟩,λT hT=>is_rule hx hT h3 h4⟩;exact gm (e1:=[Zl [.int n],Zs x,(Zf<|.int (m:Int)),Zf s,Zf t]) (by rfl) (by rfl) (by rfl) h2)
 have hl:Rs.length=j:=by rw[iu] at g4;exact g4
 refine⟨s,Rs,n',jB (env:=[Zl [.int n'],Zs x,(Zf (.int (m:Int))),Zf s]) ?_ rfl,hs,g3,by omega⟩;unfold Ac;refine(aL (e:=[Zl [.int (n / 2)],Zs x,(Zf (.int (m:Int))),Zf s]) ?_).trans ?_
 ·refine bY (d:=s) (e:=[Zl [.int (n / 2)],Zs x,(Zf (.int (m:Int))),Zn]) ?_ (by rfl);refine cD (by rfl) (by rfl) ?_
  grind
 refine cP (o5 (aR (d:=s) (by rfl) (aR ?_ cu)) Ev.zz2);refine bz (ds:=[.lst Rs]) (aR ?_ cu) rfl;refine uy (n:=5) (aG:=[Zl [.int (n / 2 / ((m+1:Nat):Int))],Zs x,(Zf (.int (m:Int))),Zf s]) ?_ (by rfl) g1 (by rw[hl];exact Qqj (show j<=4 by omega) (by decide));refine Ni.qD (ds:=[.int (n / 2 % ((m+1:Nat):Int))]) ?_ ?_
 ·have ht:=jM (n / 2) (m+1) (by omega) (by omega);rw[<-U7] at ht;have ha:cA (.int (m:Int)) (.int 1)=some (.int ((m+1:Nat):Int)):=rfl;generalize((m+1:Nat):Int)=M at *;clear g1 g3 h1 ej e
  ac_rfl
 ·rw[ej];exact Ni.Cz (by omega)
open mj (Rows)
open qi (XS sides)
open nY (perms d7 qw gH rows wO pick wV)
theorem is_order(hT:d9 [T]=some (.tup (gW x)))(hs:s∈sides)(h4:Rs.length<=4)(hR:∀R∈Rs,Gm x R):mL [T,.tup [s,.tup Rs]]=some (.bl true):=by
 have c:mX [Zf T,Zf<|.tup [s,.tup Rs],Zf s,Zf<|.tup Rs] = .ok (.lst<|Rs.map λ_=>.bl true) [Zf T,Zf<|.tup [s,.tup Rs],Zf s,Zf<|.tup Rs]:=by
  unfold mX;refine o6 Rs id _ (by rw[List.map_id];rfl) rfl rfl (λR h=>?_) (Qqj h4 (by decide));have:=(hR R h).isr T hT;show az mK (Zv 0<|Zv 4 aj) [Zf T,Zf<|.tup [s,.tup Rs],Zf s,Zf<|.tup Rs,Zf R]=_;clear hR hT hs
  ac_rfl
 have ha:=zW (λ_:D=>true) Rs;rw[show Rs.all (λ_=>true)=true by simp] at ha;have e1:tR s (.tup [(.str [108,101,102,116]),(.str [114,105,103,104,116])])=some (.bl false):=by
  rcases Qq8.mp hs with rfl|hs
  ·rfl
  ·cases Qq9.mp hs
   rfl
 have e2:fL "tuple" (.tup Rs)=some (.bl true):=rfl;have e3:decide ((4:Int)<(Rs.length:Int))=false:=Qwj (by omega);have e4:eZ [.tup [s,.tup Rs]]=some (.bl true):=rfl;unfold mL Fx;generalize Rs.map (λ_=>D.bl true)=MM at *;generalize mX=LC at *;clear hR hT hs
 ac_rfl
def ext(n:Nat)(r:List Nat):List D:=((List.range n).filter λi=>!decide (i∈r)).map λi=>bL (r++[i])
theorem aeL(hn:n<=5)(r):(ext n r).length<=5:=by unfold ext;rw[Qqz];refine Qqj (List.length_filter_le _ _) ?_;rw[List.length_range];exact hn
theorem yK(n k):rows (perms n (k+1))=(perms n k).flatMap (ext n):=by
 show((perms n k).flatMap λr=>((List.range n).filter λi=>!decide (i∈r)).map λi=>r++[i]).map bL=_;rw[List.map_flatMap]
 congr 1
 funext r
 rw[Qz2]
 rfl
theorem ahp(n:Nat)(hn:n<=5)(a1 a2:OD):∀(l:List (List Nat)) acc (a4:OD),(∀r∈l,r.length<=100)->acc.length+5*l.length<=20000->∃b4,
  lV (au 4) jc (l.map bL) [(Zf (.int n)),a1,a2,Zf (.lst acc),a4] = .nx [(Zf (.int n)),a1,a2,(Zf (.lst (acc++l.flatMap (ext n)))),b4]:=by
 intro l
 induction l with
 | nil=>intro acc a4 _ _;exact⟨a4,by rw[List.flatMap_nil,Qxv];rfl⟩
 | cons r l ih=>
  intro acc a4 hr hz;rw[Qqw] at hz;have hx:=aeL hn r;have c:∀v,km [(Zf<|.int (n:Int)),a1,a2,v,Zf<|bL r] = .ok (.lst<|ext n r) [(Zf<|.int (n:Int)),a1,a2,v,Zf<|bL r]:=λv=>by
   unfold km ext;have hrg:=Cz (n:=n) (by omega);refine Br (List.range n) (λi=>.int (i:Int)) (λi=>!decide (i∈r)) (λi=>bL<|r++[i]) ?_ rfl rfl (λi hi=>?_) (λi hi _=>?_) (by rw[List.length_range];exact Qqj hn (by decide))
   ·generalize bL r=RR;clear ih hx hr hz
    ac_rfl
   ·have:=zU i r;have er:bL r = .tup (r.map λ(k:Nat)=>D.int (k:Int)):=rfl;rw[er];clear ih hx hr hz er hrg
    ac_rfl
   ·have:=wO r i<|hr r (by simp);generalize bL (r++[i])=R2 at *;generalize bL r=R1 at *;clear ih hx hr hz hrg
    ac_rfl
  obtain⟨b4,ih⟩:=ih (acc++ext n r) (Zf (bL r)) (λq hq=>hr q (by simp[hq])) (by rw[Qq1];omega);refine⟨b4,?_⟩;have hb:jc [(Zf (.int (n:Int))),a1,a2,Zf (.lst acc),Zf (bL r)] = .nx [(Zf (.int (n:Int))),a1,a2,(Zf (.lst (acc++ext n r))),Zf (bL r)]:=by
   unfold jc;have c:=c (Zf (.lst acc));clear ih hr;have hz2:acc.length+(ext n r).length<=20000:=by omega
   have:=Mv (a:=acc) (b:=ext n r) (Qqj hz2 (by decide));generalize acc++ext n r=AE at *;generalize ext n r=EE at *;generalize bL r=RR at *;clear hz hx
   ac_rfl
  have e1:au 4 (bL r) [(Zf (.int (n:Int))),a1,a2,Zf (.lst acc),a4]=some [(Zf (.int (n:Int))),a1,a2,Zf (.lst acc),Zf (bL r)]:=rfl;rw[Qq2,v9,e1,vS,Dy,hb,kNx,ih,List.flatMap_cons,List.append_assoc]
theorem yN(n:Nat)(hn:n<=5):gY [.int n]=some (.lst (rows (perms n n))):=by
 have go:∀m k a2 a3 a4,∃b2 b3 b4,lV (au 2) gK ((List.range' k m).map λ(i:Nat)=>D.int (i:Int)) [(Zf<|.int (n:Int)),(Zf<|.lst<|rows<|perms n k),a2,a3,a4] = .nx [(Zf<|.int (n:Int)),(Zf<|.lst<|rows<|perms n<|k+m),b2,b3,b4]:=by
  intro m
  induction m with
  | zero=>intro k a2 a3 a4;exact⟨a2,a3,a4,rfl⟩
  | succ m ih=>
   intro k a2 a3 a4;have hz:=gH n k hn;obtain⟨b4,hi⟩:=ahp n hn (Zf<|.lst<|rows<|perms n k) (Zf<|.int (k:Int)) (perms n k) [] a4 (λr hr=>by rw[((d7 _ _ _).mp hr).1];have:=qw hr;omega) (by show 0+_<=_;omega);rw[List.nil_append,<-yK] at hi;obtain⟨b2,b3,b4',ih⟩:=ih (k+1) (Zf (.int (k:Int))) (Zf (.lst (rows (perms n (k+1))))) b4;refine⟨b2,b3,b4',?_⟩;rw[List.range'_succ,Qq2,v9];have hb:gK [(Zf (.int (n:Int))),(Zf (.lst (rows (perms n k)))),(Zf (.int (k:Int))),a3,a4] = .nx [(Zf (.int (n:Int))),(Zf (.lst (rows (perms n (k+1))))),(Zf (.int (k:Int))),(Zf (.lst (rows (perms n (k+1))))),b4]:=by
    unfold gK;have e2:rows (perms n k)=(perms n k).map bL:=rfl;rw[<-e2] at hi;generalize rows (perms n (k+1))=R2 at *;generalize rows (perms n k)=R1 at *;clear ih e2
    ac_rfl
   show uI (gK [(Zf (.int (n:Int))),(Zf (.lst (rows (perms n k)))),(Zf (.int (k:Int))),a3,a4]) _=_;rw[hb,kNx,ih,show k+1+m=k+(m+1) by omega]
 obtain⟨b2,b3,b4,h⟩:=go n 0 none none none;rw[Nat.zero_add,<-List.range_eq_range'] at h;have hr:=Cz (n:=n) (by omega);have e0:rows (perms n 0)=[.tup []]:=rfl;rw[e0] at h;unfold gY rK;generalize rows (perms n n)=RR at *;clear go
 ac_rfl
theorem abi(Rs)(k)(hn:Rs.length<=5)(v:OD)(o):qU [Zf (.tup Rs),(some (o,.lst (rows (perms Rs.length k)))),v] = .ok (.lst (rows (perms Rs.length (k+1)))) [Zf (.tup Rs),(Zf (.lst (rows (perms Rs.length k)))),v]:=by
 unfold qU;rw[yK];have hz:((perms Rs.length k).flatMap<|ext Rs.length).length<=sizeLine:=by rw[<-yK,Qqz];exact Qqj (gH _ (k+1) hn) (by decide)
 unfold ext at hz ⊢;refine ae0 (aG:=[Zf (.tup Rs),(Zf<|.lst<|rows<|perms Rs.length k),v]) 1 1 (perms Rs.length k) bL (λr=>[Zf (bL r)]) (λ_=>List.range Rs.length) (λ_ (i:Nat)=>.int (i:Int)) (λ_ (i:Nat)=>[(Zf<|.int (i:Int))]) (λr i=>!decide (i∈r)) (λr i=>bL<|r++[i]) ?_ rfl rfl (λr hr=>⟨rfl,λu v hu hv=>?_,λv hv=>?_,λi hi=>⟨rfl,λv hv=>?_,?_,λ_=>?_⟩⟩) hz
 ·cases o<;>rfl
 ·match u,hu with
  | [_],_=>rfl
 ·match v,hv with
  | [_],_=>
   have:=Cz (n:=Rs.length) (by omega);clear hz hr;generalize bL r=R1 at *;generalize rows (perms Rs.length k)=R2 at *
   ac_rfl
 ·match v,hv with
  | [_],_=>rfl
 ·have:=zU i r;have er:bL r = .tup (r.map λ(k:Nat)=>D.int (k:Int)):=rfl;rw[er];clear hz hr er;generalize rows (perms Rs.length k)=R2 at *
  ac_rfl
 ·have hl:=((d7 Rs.length k r).mp hr).1;have hk:=qw hr;have:=wO r i (by omega);generalize bL r=R at *;generalize bL (r++[i])=R2 at *;generalize rows (perms Rs.length k)=R3 at *;clear hr hl hk hz
  ac_rfl
theorem aeg(Rs)(r)(h:∀i∈r,i<Rs.length)(hr:r.length<=100)(v1 v2:OD):n8 [Zf (.tup Rs),v1,v2,Zf (bL r)] = .ok (.lst (pick Rs r)) [Zf (.tup Rs),v1,v2,Zf (bL r)]:=by
 unfold n8 pick;refine o6 r (λi=>.int i) _ (by rfl) rfl rfl (λi hi=>?_) (Qqj hr (by decide));have:=wV<|h i hi;generalize Rs.getD i .non=Z at *;generalize bL r=Q;clear hi h;rw[uL] at this
 ac_rfl
theorem layings(Rs)(hn:Rs.length<=5):ux [.tup Rs]=some (.lst ((perms Rs.length Rs.length).map λr=>.tup (pick Rs r))):=by
 have go:∀m k o v,∃o' v',lV (au 2) lM ((List.range' k m).map λ(i:Nat)=>D.int (i:Int)) [Zf (.tup Rs),(some (o,.lst<|rows<|perms Rs.length k)),v] = .nx [Zf (.tup Rs),(some (o',.lst<|rows<|perms Rs.length<|k+m)),v']:=by
  intro m
  induction m with
  | zero=>intro k o v;exact⟨o,v,rfl⟩
  | succ m ih=>
   intro k o v;have h:=abi Rs k hn (Zf<|.int (k:Int)) o;obtain⟨o',v',ih⟩:=ih (k+1) true<|Zf<|.int (k:Int);refine⟨o',v',?_⟩;rw[List.range'_succ,Qq2,v9];have hb:lM [Zf (.tup Rs),(some (o,.lst<|rows<|perms Rs.length k)),(Zf<|.int (k:Int))] = .nx [Zf (.tup Rs),(Zl<|rows<|perms Rs.length<|k+1),(Zf<|.int (k:Int))]:=by
    unfold lM;rw[Vb,h,bO]
    rfl
   show uI (lM [Zf (.tup Rs),(some (o,.lst<|rows<|perms Rs.length k)),(Zf (.int (k:Int)))]) _=_;rw[hb,kNx,ih,show k+1+m=k+(m+1) by omega]
 obtain⟨o',v',h⟩:=go Rs.length 0 false none;rw[Nat.zero_add,<-List.range_eq_range'] at h;have hr:=Cz (n:=Rs.length) (by omega);have e0:rows (perms Rs.length 0)=[.tup []]:=rfl;rw[e0] at h;have hc:n6 [Zf (.tup Rs),(some (o',.lst (rows (perms Rs.length Rs.length)))),v'] = .ok (.lst ((perms Rs.length Rs.length).map λr=>.tup (pick Rs r))) [Zf (.tup Rs),(Zf (.lst (rows (perms Rs.length Rs.length)))),v']:=by
  unfold n6;refine o6 (aG:=[Zf (.tup Rs),(Zf (.lst (rows (perms Rs.length Rs.length)))),v']) (perms Rs.length Rs.length) bL _ (by cases o'<;>rfl) rfl rfl (λr hr=>?_) (Qqj (gH _ _ hn) (by decide));obtain⟨h1,_,h2⟩:=(d7 _ _ _).mp hr;have:=aeg Rs r h2 (by omega) (Zf (.lst (rows (perms Rs.length Rs.length)))) v';generalize rows (perms Rs.length Rs.length)=RR at *;generalize pick Rs r=PR at *;generalize bL r=ER at *;generalize n8=LC at *;clear h h1 h2 go hr
  ac_rfl
 unfold ux JZ;generalize rows (perms Rs.length Rs.length)=RR at *;generalize(perms Rs.length Rs.length).map (λr=>D.tup (pick Rs r))=RE at *;generalize n6=L3 at *;clear go;cases o'<;>ac_rfl
open nY (perms d7 qw gH rows wO pick wV encP bk)
theorem Ma:nQ=nY.nQ:=rfl
theorem tL:gO=nY.gO:=rfl
theorem tM:iC=nY.iC:=rfl
structure BkG(x:List Nat)(B:List nY.Pr):Prop where
 pos:0<B.length
 few:B.length<=6
 wB:∀p∈B,(∀c∈p.1,c∈x)/\p.1.length<=7/\(∀c∈p.2,c∈x)/\p.2.length<=300
noncomputable def num(m:Nat):D->Option Nat
 | .int k=>if 0<=k/\k<(m:Int) then some k.toNat else none
 | _=>none
theorem X3(m:Nat)(h:uC d=true):gj [.int m,d]=some (.bl (num m d).isSome):=by
 cases d with
 | int k=>
  have hw:rn [.int k]=some (.bl true):=rfl;unfold gj pJ;by_cases h0:0<=k
  ·have g0:QB (.int 0) (.int k)=some (.bl true):=by rw[JK,Qw2 h0]
   by_cases h1:k<m
   ·have g1:VP (.int k) (.int m)=some (.bl true):=by rw[Qz,Qw2 h1]
    rw[show num m (.int k)=some k.toNat from if_pos ⟨h0,h1⟩];generalize(m:Int)=M at *;clear h0 h1
    ac_rfl
   ·have g1:VP (.int k) (.int m)=some (.bl false):=by rw[Qz,Qwj h1]
    rw[show num m (.int k)=none from if_neg λh=>h1 h.2];generalize(m:Int)=M at *;clear h0 h1
    ac_rfl
  ·have g0:QB (.int 0) (.int k)=some (.bl false):=by rw[JK,Qwj h0]
   rw[show num m (.int k)=none from if_neg λh=>h0 h.1];generalize(m:Int)=M at *;clear h0
   ac_rfl
 | clo=>cases h
 | _=>rfl
noncomputable def yh(n:Nat):D->Bool
 | .tup ds=>decide (ds.length=n)
 | _=>false
theorem is_row(n:Nat)(h:uC d=true):tV [.int n,d]=some (.bl (yh n d)):=by
 cases d with
 | tup ds=>
  have h1:eF (.tup ds) "tuple" = true:=rfl;have h2:gQ (.int ds.length) (.int n)=some (.bl<|decide (ds.length=n)):=by
   rw[xB]
   congr 2
   rw[Qj5,beq_iff_eq,decide_eq_true_iff];omega
  rw[show yh n (.tup ds)=decide (ds.length=n) from rfl];unfold tV Q8;generalize decide (ds.length=n)=b at *;generalize(n:Int)=N at *
  ac_rfl
 | clo=>cases h
 | _=>rfl
section
variable{x:List Nat}{s:D}{Rs:List D}(h:nY.Ok x s Rs){B:List nY.Pr}(hB:BkG x B)
def pd(s:D)(Rs:List D)(B:List nY.Pr)(p:List Nat×D):Bool:=match num B.length p.2 with
 | some k=>fin s (pick Rs p.1) (B.getD k ([],[])).1 != (B.getD k ([],[])).2
 | none=>false
theorem PL(h:num m d=some k):d = .int k/\k<m:=by
 cases d with
 | int i=>
  unfold num at h;simp only at h;split at h
  ·rename_i h1;cases h;refine⟨?_,by omega⟩;rw[Int.toNat_of_nonneg h1.1]
  ·cases h
 | _=>cases h
theorem Wf(hk:k<B.length):bZ (bk B) (.int k)=some (encP (B.getD k ([],[]))):=by
 unfold bk;rw[uL,atN,Qw9,Qq6 hk,Qw6,Qq6 hk]
 rfl
theorem zip_map{α:Type}(f)(l:List α)(ds):uB (l.map f) ds=(l.zip ds).map λp=>.tup [f p.1,p.2]:=by
 unfold uB;rw[List.zip_map_left,Qz2]
 rfl
include h hB
theorem aeh(r)(hr:r.length<=5)(hi:∀i∈r,i<Rs.length)(d)(hd:uC d=true)(a2 a3:OD):jQ [Zf (.tup [s,.tup Rs]),Zf (bk B),a2,a3,Zf (bL r),Zf d]=if pd s Rs B (r,d)=true then .nx [Zf (.tup [s,.tup Rs]),Zf (bk B),a2,a3,Zf (bL r),Zf d] else .rt false (.bl false) [Zf (.tup [s,.tup Rs]),Zf (bk B),a2,a3,Zf (bL r),Zf d]:=by
 have hll:cY [bk B]=some (.int (B.length:Int)):=by unfold bk;rw[El,Qqz]
 cases hn:num B.length d with
 | none=>
  have hp:pd s Rs B (r,d)=false:=by unfold pd;rw[hn]
  rw[hp,if_neg Qwx];unfold jQ;cases d with
  | int k=>
   have h1:eF (.int k) "int" = true:=rfl;have h2:eF (.int k) "bool" = false:=rfl;unfold num at hn;simp only at hn;split at hn
   ·cases hn
   ·rename_i h3;by_cases h0:0<=k
    ·have g0:QB (.int 0) (.int k)=some (.bl true):=by rw[JK,Qw2 h0]
     have g1:VP (.int k) (.int (B.length:Int))=some (.bl false):=by rw[Qz,Qwj (by omega)]
     generalize(B.length:Int)=M at *;generalize bL r=ER at *;generalize bk B=BB at *;clear h0 h3 hB h hp
     ac_rfl
    ·have g0:QB (.int 0) (.int k)=some (.bl false):=by rw[JK,Qwj h0]
     generalize(B.length:Int)=M at *;generalize bL r=ER at *;generalize bk B=BB at *;clear h0 h3 hB h hp
     ac_rfl
  | bl b=>
   have h1:eF (.bl b) "int" = true:=rfl;have h2:eF (.bl b) "bool" = true:=rfl;generalize bL r=ER at *;generalize bk B=BB at *;clear hB h hp hn
   ac_rfl
  | clo=>cases hd
  | _=>
   all_goals
    generalize bL r=ER at *;generalize bk B=BB at *
    rfl
 | some k=>
  obtain⟨rfl,hk⟩:=PL hn;have hkk:B.getD k ([],[])∈B:=by rw[Qw9,Qq6 hk];exact Qxq hk
  obtain⟨w1,w2,_,_⟩:=hB.wB _ hkk;have hm:=nY.Du (h.pick hi hr) w1 w2;rw[<-tL] at hm;have hl:=nY.Dv s Rs r hi (by omega);rw[<-tM] at hl;have hx:=Wf hk;have h1:eF (.int (k:Int)) "int" = true:=rfl;have h2:eF (.int (k:Int)) "bool" = false:=rfl;have g0:QB (.int 0) (.int (k:Int))=some (.bl true):=by rw[JK,Qw2 (by omega)]
  have g1:VP (.int (k:Int)) (.int (B.length:Int))=some (.bl true):=by rw[Qz,Qw2 (by omega)]
  have hp:pd s Rs B (r,.int (k:Int))=(fin s (pick Rs r) (B.getD k ([],[])).1 != (B.getD k ([],[])).2):=by unfold pd;rw[hn]
  rw[hp];have i0:bZ (encP<|B.getD k ([],[])) (.int 0)=some (.str (B.getD k ([],[])).1):=rfl;have i1:bZ (encP<|B.getD k ([],[])) (.int 1)=some (.str (B.getD k ([],[])).2):=rfl;unfold jQ;generalize B.getD k ([],[])=P at *;have he:=agd (fin s (pick Rs r) P.1) P.2;generalize fin s (pick Rs r) P.1=FF at *;generalize pick Rs r=PP at *;generalize encP P=PE at *;generalize(B.length:Int)=M at *;generalize(k:Int)=K at *;generalize bL r=ER at *;generalize bk B=BB at *;cases hc:FF == P.2
  ·have hb:(FF != P.2)=true:=by rw[bne,hc];rfl
   rw[hc] at he;rw[hb,if_pos rfl];clear h hB hp hn hkk w1 w2 hc hb hi
   ac_rfl
  ·have hb:(FF != P.2)=false:=by rw[bne,hc];rfl
   rw[hc] at he;rw[hb,if_neg Qwx];clear h hB hp hn hkk w1 w2 hc hb hi
   ac_rfl
theorem abk(a2 a3:OD):∀(l:List (List Nat×D)) (v4 v5:OD),(∀p∈l,p.1.length<=5/\(∀i∈p.1,i<Rs.length)/\uC p.2=true)->∃b4 b5,
  lV (d8 2 (bu (au 4) (bu (au 5) eG))) jQ (l.map λp=>.tup [bL p.1,p.2]) [Zf (.tup [s,.tup Rs]),Zf (bk B),a2,a3,v4,v5]=if l.all (pd s Rs B)=true then .nx [Zf (.tup [s,.tup Rs]),Zf (bk B),a2,a3,b4,b5] else .rt false (.bl false) [Zf (.tup [s,.tup Rs]),Zf (bk B),a2,a3,b4,b5]:=by
 intro l
 induction l with
 | nil=>intro v4 v5 _;exact⟨v4,v5,rfl⟩
 | cons p l ih=>
  intro v4 v5 hl;obtain⟨h1,h2,h3⟩:=hl p<|Qq3 ..;have hb:=aeh h hB p.1 h1 h2 p.2 h3 a2 a3;have e1:d8 2 (bu (au 4)<|bu (au 5) eG) (.tup [bL p.1,p.2]) [Zf (.tup [s,.tup Rs]),Zf<|bk B,a2,a3,v4,v5]=some [Zf (.tup [s,.tup Rs]),Zf<|bk B,a2,a3,Zf<|bL p.1,Zf p.2]:=rfl;rw[Qq2,List.all_cons];cases hp:pd s Rs B p
  ·rw[show(p.1,p.2)=p from rfl,hp,if_neg Qwx] at hb;refine⟨(Zf<|bL p.1),Zf p.2,?_⟩;rw[v9,e1,vS,Dy,hb,kRt]
   rfl
  ·rw[show(p.1,p.2)=p from rfl,hp,if_pos rfl] at hb;obtain⟨b4,b5,ih⟩:=ih (Zf<|bL p.1) (Zf p.2)<|λq hq=>hl q<|Qqy _ hq;refine⟨b4,b5,?_⟩;rw[v9,e1,vS,Dy,hb,kNx,ih,Bool.true_and]
end
def sh(s:D)(Rs:List D)(B:List nY.Pr):D->Bool
 | .tup ds=>decide (ds.length=(perms Rs.length Rs.length).length)&&((perms Rs.length Rs.length).zip ds).all (pd s Rs B)
 | _=>false
def pl:D->Bool
 | .tup ds=>ds.all uC
 | .clo _ _=>false
 | _=>true
theorem adO(h:pl d=true):uC d=true:=by cases d<;>first|rfl|cases h
section
variable{x:List Nat}{s:D}{Rs:List D}(h:nY.Ok x s Rs){B:List nY.Pr}(hB:BkG x B)
theorem U0(hd:ds.all uC=true):∀p∈(perms n n).zip ds,p.1.length=n/\(∀i∈p.1,i<n)/\uC p.2=true:=by intro p hp;obtain⟨h1,_,h2⟩:=(d7 _ _ _).mp (Qj6 hp).1;exact⟨h1,h2,Qw1.mp hd _ (Qj6 hp).2⟩
theorem KR(ds):sh s Rs B (.tup ds)=(decide (ds.length=(perms Rs.length Rs.length).length)&&((perms Rs.length Rs.length).zip ds).all (pd s Rs B)):=rfl
include h hB
theorem due(hp:pl paper=true):lq [.tup [s,.tup Rs],bk B,paper]=some (.bl (sh s Rs B paper)):=by
 have h4:=h.h4;have ho:=yN Rs.length (by omega);have hi:bZ (.tup [s,.tup Rs]) (.int 1)=some (.tup Rs):=rfl;have hlo:cY [.lst (rows<|perms Rs.length Rs.length)]=some (.int ((perms Rs.length Rs.length).length:Int)):=by rw[Uc,Qqz]
 cases paper with
 | tup ds=>
  have ht:eF (.tup ds) "tuple" = true:=rfl;have ht':fL "tuple" (.tup ds)=some (.bl true):=rfl;have hlp:cY [.tup ds]=some (.int (ds.length:Int)):=rfl;by_cases hl:ds.length=(perms Rs.length Rs.length).length
  ·have hn:Gr (.int (ds.length:Int)) (.int ((perms Rs.length Rs.length).length:Int))=some (.bl false):=by rw[abW,hl,beq_self_eq_true];rfl
   obtain⟨b4,b5,hf⟩:=abk h hB (Zf<|.tup ds) (Zf<|.lst<|rows<|perms Rs.length Rs.length) ((perms Rs.length Rs.length).zip ds) none none (λp hq=>by
    obtain⟨q1,q2,q3⟩:=U0 (show ds.all uC=true from hp) p hq;exact⟨by omega,q2,q3⟩)
   rw[<-zip_map bL] at hf;have hs:sh s Rs B (.tup ds)=((perms Rs.length Rs.length).zip ds).all (pd s Rs B):=by rw[KR,Qw2 hl,Bool.true_and]
   rw[hs];have hz:Ey (Zv 3<|Zv 2 aj) [Zf (.tup [s,.tup Rs]),Zf<|bk B,Zf<|.tup ds,(Zf<|.lst<|rows<|perms Rs.length Rs.length),Zn,Zn] = .ok (uB (rows<|perms Rs.length Rs.length) ds) [Zf (.tup [s,.tup Rs]),Zf<|bk B,Zf<|.tup ds,(Zf<|.lst<|rows<|perms Rs.length Rs.length),Zn,Zn]:=rfl;unfold lq uA;have hf2:lV (d8 2<|bu (au 4)<|bu (au 5) eG) jQ (uB (rows<|perms Rs.length Rs.length) ds) [Zf (.tup [s,.tup Rs]),Zf<|bk B,Zf<|.tup ds,(Zf<|.lst<|rows<|perms Rs.length Rs.length),Zn,Zn]=_:=hf;clear hf;generalize((perms Rs.length Rs.length).zip ds).all (pd s Rs B)=bb at *;generalize uB (rows (perms Rs.length Rs.length)) ds=ZZ at *;generalize rows (perms Rs.length Rs.length)=RR at *;generalize((perms Rs.length Rs.length).length:Int)=LL at *;generalize bk B=BB at *;generalize(ds.length:Int)=DL at *;clear h hB hp hl h4 hs;cases bb
   ·rw[if_neg Qwx] at hf2
    ac_rfl
   ·rw[if_pos rfl] at hf2
    ac_rfl
  ·have hn:Gr (.int (ds.length:Int)) (.int ((perms Rs.length Rs.length).length:Int))=some (.bl true):=by
    rw[abW,Qxj.mpr (by omega)];rfl
   have hs:sh s Rs B (.tup ds)=false:=by rw[KR,Qwj hl,Bool.false_and]
   rw[hs];unfold lq uA;generalize rows (perms Rs.length Rs.length)=RR at *;generalize((perms Rs.length Rs.length).length:Int)=LL at *;generalize(ds.length:Int)=DL at *;generalize bk B=BB at *;clear h hB hp hl h4 hs
   ac_rfl
 | clo=>cases hp
 | _=>
  all_goals
   unfold lq uA sh;generalize rows (perms Rs.length Rs.length)=RR at *;generalize((perms Rs.length Rs.length).length:Int)=LL at *;generalize bk B=BB at *;clear h hB hp h4
   first
    | (have ht:∀i,eF (.int i) "tuple" = false:=λ_=>rfl;have ht':∀i,fL "tuple" (.int i)=some (.bl false):=λ_=>rfl;ac_rfl;done)
    | (have ht:∀i,eF (.str i) "tuple" = false:=λ_=>rfl;have ht':∀i,fL "tuple" (.str i)=some (.bl false):=λ_=>rfl;ac_rfl;done)
    | (have ht:∀i,eF (.lst i) "tuple" = false:=λ_=>rfl;have ht':∀i,fL "tuple" (.lst i)=some (.bl false):=λ_=>rfl;ac_rfl;done)
    | (have ht:∀i,eF (.bl i) "tuple" = false:=λ_=>rfl;have ht':∀i,fL "tuple" (.bl i)=some (.bl false):=λ_=>rfl;ac_rfl;done)
    | (have ht:∀i,eF (.arr i) "tuple" = false:=λ_=>rfl;have ht':∀i,fL "tuple" (.arr i)=some (.bl false):=λ_=>rfl;ac_rfl;done)
    | (have ht:∀i,eF (.dct i) "tuple" = false:=λ_=>rfl;have ht':∀i,fL "tuple" (.dct i)=some (.bl false):=λ_=>rfl;ac_rfl;done)
    | (have ht:eF .non "tuple" = false:=rfl;have ht':fL "tuple" .non=some (.bl false):=rfl;ac_rfl;done)
    | (ac_rfl;done)
theorem shown(T)(hp:pl paper=true):dB [T,.tup [.tup [s,.tup Rs],bk B],paper]=some (.bl (sh s Rs B paper)):=by
 have h4:=h.h4;have hb:=hB.few;have ho:=layings Rs (by omega);generalize hRR:((perms Rs.length Rs.length).map λr=>D.tup<|pick Rs r)=RR at *;have hlr:RR.length=(perms Rs.length Rs.length).length:=by rw[<-hRR,Qqz]
 have hrow:=is_row RR.length<|adO hp;have hls:=gH Rs.length Rs.length (by omega);have hlo:cY [.lst RR]=some (.int (RR.length:Int)):=rfl;have hlb:cY [bk B]=some (.int (B.length:Int)):=by unfold bk;rw[El,Qqz]
 by_cases hl:yh RR.length paper=true
 ·cases paper with
  | tup ds=>
   have hl':ds.length=RR.length:=Qx8 hl;have hdn:ds.all uC=true:=hp;have hs:sh s Rs B (.tup ds)=((perms Rs.length Rs.length).zip ds).all (pd s Rs B):=by rw[KR,Qw2<|hl'.trans hlr,Bool.true_and]
   have c1:gJ [Zf T,Zf<|.tup [.tup [s,.tup Rs],bk B],Zf<|.tup ds,Zf<|.tup [s,.tup Rs],Zf<|bk B,Zf s,Zf<|.tup Rs,Zf<|.lst RR] = .ok (.lst<|ds.map λd=>.bl (num B.length d).isSome) [Zf T,Zf<|.tup [.tup [s,.tup Rs],bk B],Zf<|.tup ds,Zf<|.tup [s,.tup Rs],Zf<|bk B,Zf s,Zf<|.tup Rs,Zf (.lst RR)]:=by
    unfold gJ;refine o6 ds (λd=>d) _ (by rw[List.map_id'];rfl) rfl rfl (λd hd=>?_) (Qqj (show ds.length<=3125 by omega) (by decide));have:=X3 B.length (Qw1.mp hdn d hd);show az gj (aa (az cY (aa (bh 4) aj)) (Zv 8 aj)) [Zf T,Zf (.tup [.tup [s,.tup Rs],bk B]),Zf (.tup ds),Zf (.tup [s,.tup Rs]),Zf (bk B),Zf s,Zf (.tup Rs),Zf (.lst RR),Zf d]=_;generalize(num B.length d).isSome=NN at *;generalize(B.length:Int)=BL at *;generalize bk B=BB at *;clear h hB hp hl hrow ho hs hlo hls hdn hlr hl' hRR
    ac_rfl
   have a1:=zW (λd=>(num B.length d).isSome) ds;by_cases ha:(ds.all λd=>(num B.length d).isSome)=true
   ·have c2:iZ [Zf T,Zf (.tup [.tup [s,.tup Rs],bk B]),Zf (.tup ds),Zf (.tup [s,.tup Rs]),Zf (bk B),Zf s,Zf (.tup Rs),Zf (.lst RR)] = .ok (.lst (((perms Rs.length Rs.length).zip ds).map λp=>.bl (pd s Rs B p))) [Zf T,Zf (.tup [.tup [s,.tup Rs],bk B]),Zf (.tup ds),Zf (.tup [s,.tup Rs]),Zf (bk B),Zf s,Zf (.tup Rs),Zf (.lst RR)]:=by
     unfold iZ;have hzl:((perms Rs.length Rs.length).zip ds).length<=sizeLine:=Qqj (show _<=3125 by rw[List.length_zip];omega) (by decide);have q:=zp (lo:=8) (n:=10) (it:=Ey (Zv 7 (Zv 2 aj))) (g:=d8 2 (bu (au 8) (bu (au 9) eG))) (c:=cR) (e:=aN Gr (az nQ (aa (cI (Zv 5 (Zv 8 aj))) (aa (aN bZ (ao bZ 4 (bh 9)) (Zi 0)) aj))) (aN bZ (ao bZ 4 (bh 9)) (Zi 1))) (env:=[Zf T,Zf (.tup [.tup [s,.tup Rs],bk B]),Zf (.tup ds),Zf (.tup [s,.tup Rs]),Zf (bk B),Zf s,Zf (.tup Rs),Zf (.lst RR)]) (aG:=[Zf T,Zf (.tup [.tup [s,.tup Rs],bk B]),Zf (.tup ds),Zf (.tup [s,.tup Rs]),Zf (bk B),Zf s,Zf (.tup Rs),Zf (.lst RR)])
      ((perms Rs.length Rs.length).zip ds) (λp=>.tup [.tup (pick Rs p.1),p.2]) (λp=>[(Zf (.tup (pick Rs p.1))),Zf p.2]) (λ_=>true) (λp=>.bl (pd s Rs B p)) (by rw[<-zip_map (λr=>D.tup (pick Rs r)),hRR];rfl) rfl (λp hq=>by
      refine⟨rfl,λvs hv=>?_,rfl,λ_=>?_⟩
      ·match vs,hv with
       | [_,_],_=>rfl
      obtain⟨q1,q2,q3⟩:=U0 hdn p hq;have hns:=Qw1.mp ha p.2 (Qj6 hq).2;obtain⟨r,d⟩:=p;obtain⟨k,hk⟩:=Qw8.mp hns;obtain⟨rfl,hkb⟩:=PL hk;have hkk:B.getD k ([],[])∈B:=by rw[Qw9,Qq6 hkb];exact Qxq hkb
      obtain⟨w1,w2,_,_⟩:=hB.wB _ hkk;have hm:=nY.made (h.pick q2 (show r.length<=5 by simp only at q1;omega)) w1 w2;rw[<-Ma] at hm;have hx:=Wf hkb;have i0:bZ (encP (B.getD k ([],[]))) (.int 0)=some (.str (B.getD k ([],[])).1):=rfl;have i1:bZ (encP (B.getD k ([],[]))) (.int 1)=some (.str (B.getD k ([],[])).2):=rfl;have hpd:pd s Rs B (r,.int (k:Int))=(fin s (pick Rs r) (B.getD k ([],[])).1 != (B.getD k ([],[])).2):=by unfold pd;rw[hk]
      rw[hpd,bne];show aN Gr (az nQ (aa (cI (Zv 5 (Zv 8 aj))) (aa (aN bZ (ao bZ 4 (bh 9)) (Zi 0)) aj))) (aN bZ (ao bZ 4 (bh 9)) (Zi 1)) [Zf T,Zf (.tup [.tup [s,.tup Rs],bk B]),Zf (.tup ds),Zf (.tup [s,.tup Rs]),Zf (bk B),Zf s,Zf (.tup Rs),Zf (.lst RR),(Zf (.tup (pick Rs r))),(Zf (.int (k:Int)))]=_;generalize B.getD k ([],[])=P at *;have he:=VJ (fin s (pick Rs r) P.1) P.2;generalize fin s (pick Rs r) P.1=FF at *;generalize pick Rs r=PP at *;generalize encP P=PE at *;generalize(k:Int)=K at *;generalize bk B=BB at *;generalize(!(FF == P.2))=nn at *;clear h hB hp hl hrow ho hs hlo hls hdn hlr hl' hRR c1 a1 ha hzl hpd hk hns hkk w1 w2 q1 q2 q3 hq
      ac_rfl) hzl
     rw[List.filter_eq_self.mpr (λ_ _=>rfl)] at q;exact q
    have a2:=zW (pd s Rs B) ((perms Rs.length Rs.length).zip ds);rw[ha] at a1;rw[hs];have hl2:yh RR.length (.tup ds)=true:=hl;rw[hl2] at hrow;unfold dB j9;generalize((perms Rs.length Rs.length).zip ds).all (pd s Rs B)=bb at *;generalize(((perms Rs.length Rs.length).zip ds).map λp=>D.bl (pd s Rs B p))=Z2 at *;generalize(ds.map λd=>D.bl (num B.length d).isSome)=Z1 at *;generalize gJ=L1 at *;generalize iZ=L2 at *;generalize(RR.length:Int)=RL at *;generalize(B.length:Int)=BL at *;generalize bk B=BB at *;clear h hB hp hl hs hls hdn hlr hl' hRR hl2 ha
    ac_rfl
   ·have ha':(ds.all λd=>(num B.length d).isSome)=false:=by simpa using ha
    have hs2:((perms Rs.length Rs.length).zip ds).all (pd s Rs B)=false:=by
     obtain⟨d,hd,hd2⟩:=List.all_eq_false.mp ha';obtain⟨i,hi,rfl⟩:=List.getElem_of_mem hd;refine List.all_eq_false.mpr ⟨((perms Rs.length Rs.length)[i]'(by omega),ds[i]),?_,?_⟩
     ·have:((perms Rs.length Rs.length).zip ds)[i]'(by rw[List.length_zip];omega)=((perms Rs.length Rs.length)[i]'(by omega),ds[i]):=List.getElem_zip;rw[<-this];exact Qxq _
     ·unfold pd;cases e:num B.length ds[i] with
      | none=>simp
      | some k=>rw[e] at hd2;simp at hd2
    rw[hs,hs2];rw[ha'] at a1;have hl2:yh RR.length (.tup ds)=true:=hl;rw[hl2] at hrow;unfold dB j9;generalize(ds.map λd=>D.bl (num B.length d).isSome)=Z1 at *;generalize gJ=L1 at *;generalize(RR.length:Int)=RL at *;generalize(B.length:Int)=BL at *;generalize bk B=BB at *;clear h hB hp hl hs hls hdn hlr hl' hRR hl2 ha ha' hs2
    ac_rfl
  | _=>cases hl
 ·have hl':yh RR.length paper=false:=by simpa using hl
  have hs:sh s Rs B paper=false:=by
   cases paper with
   | tup ds=>
    have:=of_decide_eq_false hl';rw[KR,Qwj (by omega),Bool.false_and]
   | _=>rfl
  rw[hs];rw[hl'] at hrow;unfold dB j9;generalize(RR.length:Int)=RL at *;generalize bk B=BB at *;clear h hB hp hl hs hls hlr hl' hRR
  ac_rfl
end
open nY (perms pick encP bk)
section
variable{x:List Nat}{T:D}(hT:d9 [T]=some (.tup (gW x)))
include hT
theorem is_word(hw:∀c∈w,c∈x)(hl:w.length<=1000):gZ [T,.str w]=some (.bl true):=by
 have c:jb [Zf T,Zs w,(Zf<|.tup<|gW x)] = .ok (.lst<|w.map λ_=>.bl true) [Zf T,Zs w,(Zf<|.tup<|gW x)]:=by
  unfold jb;refine o6 w (λc=>.str [c]) _ rfl rfl rfl (λc hc=>?_) (Qqj hl (by decide));have:=QD<|List.contains_iff_mem.mpr<|hw c hc;show ao En 3 (bh 2) [Zf T,Zs w,(Zf<|.tup<|gW x),Zs [c]]=_;generalize gW x=X at *;clear hw
  ac_rfl
 have ha:=zW (λ_:Nat=>true) w;rw[show w.all (λ_=>true)=true by simp] at ha;have ht:eF (.str w) "str" = true:=rfl;have ht':fL "str" (.str w)=some (.bl true):=rfl;unfold gZ zy;generalize gW x=X at *;generalize w.map (λ_=>D.bl true)=MM at *;generalize jb=LC at *;clear hw
 ac_rfl
theorem aa3(hx:35 ∉ x):gZ [T,.str [35]]=some (.bl false):=by
 have h1:En (.str [35]) (.tup<|gW x)=some (.bl false):=QD (by simpa using hx);have ht:eF (.str [35]) "str" = true:=rfl;have ht':fL "str" (.str [35])=some (.bl true):=rfl;have ha:qC [.lst [.bl false]]=some (.bl false):=rfl;have c:jb [Zf T,Zs [35],(Zf<|.tup<|gW x)] = .ok (.lst [.bl false]) [Zf T,Zs [35],(Zf<|.tup<|gW x)]:=by
  unfold jb;refine o6 [35] (λc=>.str [c]) (λ_=>.bl false) rfl rfl rfl (λc hc=>?_) (by decide);cases Qq9.mp hc;show ao En 3 (bh 2) [Zf T,Zs [35],(Zf<|.tup<|gW x),Zs [35]]=_;generalize gW x=X at *
  ac_rfl
 unfold gZ zy;generalize gW x=X at *;generalize jb=LC at *
 ac_rfl
theorem Xk(h1:∀c∈p.1,c∈x)(l1:p.1.length<=1000)(h2:∀c∈p.2,c∈x)(l2:p.2.length<=1000):eV [T,encP p]=some (.bl true):=by
 have w1:=is_word hT h1 l1;have w2:=is_word hT h2 l2;have hp:eZ [.tup [.str p.1,.str p.2]]=some (.bl true):=rfl;unfold eV lW encP;clear h1 h2 hT
 ac_rfl
theorem We(ds)(h1:1<=ds.length)(h2:ds.length<=6)(p)(h:∀d∈ds,eV [T,d]=some (.bl (p d))):dR [T,.tup ds]=some (.bl (ds.all p)):=by
 have c:oh [Zf T,Zf<|.tup ds] = .ok (.lst<|ds.map λd=>.bl<|p d) [Zf T,Zf<|.tup ds]:=by
  unfold oh;refine o6 ds id _ (by rw[List.map_id];rfl) rfl rfl (λd hd=>?_) (Qqj h2 (by decide));have:=h d hd;show az eV (Zv 0<|Zv 2 aj) [Zf T,Zf<|.tup ds,Zf d]=_;clear hT h h1 h2
  ac_rfl
 have ha:=zW p ds;have ht:eF (.tup ds) "tuple" = true:=rfl;have ht':fL "tuple" (.tup ds)=some (.bl true):=rfl;have l1:decide ((1:Int)<=(ds.length:Int))=true:=Qw2 (by omega);have l2:decide ((ds.length:Int)<=6)=true:=Qw2 (by omega);unfold dR zB;generalize ds.all p=b at *;generalize ds.map (λd=>D.bl<|p d)=MM at *;generalize oh=LC at *;clear hT h
 ac_rfl
theorem YC(hB:BkG x B):dR [T,bk B]=some (.bl true):=by
 have:=We hT (B.map encP) (by rw[Qqz];exact hB.pos) (by rw[Qqz];exact hB.few) (λ_=>true) (λd hd=>by
  obtain⟨p,hp,rfl⟩:=Qw3.mp hd;obtain⟨h1,l1,h2,l2⟩:=hB.wB p hp;exact Xk hT h1 (by omega) h2 (by omega))
 rw[show(B.map encP).all (λ_=>true)=true by simp] at this;exact this
theorem xP(h:eV [T,d]=some (.bl false)):dR [T,.tup [d]]=some (.bl false):=by have:=We hT [d] (Qqv _) (show 1<=6 by decide) (λ_=>false) (λd' hd=>by cases Qq9.mp hd;exact h);exact this
omit hT in
theorem YG(h:6<ds.length):dR [T,.tup ds]=some (.bl false):=by
 have ht:eF (.tup ds) "tuple" = true:=rfl;have ht':fL "tuple" (.tup ds)=some (.bl true):=rfl;have l1:decide (1<=(ds.length:Int))=true:=Qw2 (by omega);have l2:decide ((ds.length:Int)<=6)=false:=Qwj (by omega);unfold dR zB;clear h
 ac_rfl
theorem YH(hx:35 ∉ x):dR [T,.tup [.tup [.str [35],.str []]]]=some (.bl false):=by
 refine xP hT ?_;have h1:=aa3 hT hx;have hp:eZ [.tup [.str [35],.str []]]=some (.bl true):=rfl;unfold eV lW;clear hT
 ac_rfl
theorem YF:dR [T,.tup [.tup [.str [],.non]]]=some (.bl false):=by
 refine xP hT ?_;have h1:=is_word hT (w:=[]) (by simp) (by decide);have h2:gZ [T,.non]=some (.bl false):=rfl;have hp:eZ [.tup [.str [],.non]]=some (.bl true):=rfl;unfold eV lW;clear hT
 ac_rfl
theorem YD(w):dR [T,.tup [.str w]]=some (.bl false):=xP hT rfl
theorem Ut(a b c):dR [T,.tup [.tup [a,b,c]]]=some (.bl false):=xP hT rfl
end
section
variable{x:List Nat}{T s:D}{Rs:List D}(hs:s∈sides)(ho:mL [T,.tup [s,.tup Rs]]=some (.bl true))
include hs ho
theorem parts(hb:dR [T,b]=some (.bl v)):pG [T,.tup [.str [111,114,100,101,114],.str [98,111,111,107]],.tup [.tup [s,.tup Rs],b]]=some (.bl v):=by
 have p1:jT [T,.str [111,114,100,101,114],.tup [s,.tup Rs]]=some (.bl true):=by
  unfold jT zA;have:gQ (.str [111,114,100,101,114]) (.str [111,114,100,101,114])=some (.bl true):=rfl;clear hs hb
  ac_rfl
 have p2:jT [T,.str [98,111,111,107],b]=some (.bl v):=by
  unfold jT zA;have e1:gQ (.str [98,111,111,107]) (.str [111,114,100,101,114])=some (.bl false):=rfl;have e2:gQ (.str [98,111,111,107]) (.str [114,117,108,101])=some (.bl false):=rfl;have e3:gQ (.str [98,111,111,107]) (.str [119,111,114,100])=some (.bl false):=rfl;have e4:gQ (.str [98,111,111,107]) (.str [109,97,99,104,105,110,101])=some (.bl false):=rfl;have e5:gQ (.str [98,111,111,107]) (.str [98,111,111,107])=some (.bl true):=rfl;clear hs ho p1
  ac_rfl
 generalize hO:D.tup [s,.tup Rs]=O at *;generalize hK:D.tup [.str [111,114,100,101,114],.str [98,111,111,107]]=KD;have c1:lL [Zf T,Zf KD,Zf<|.tup [O,b]] = .ok (.lst [.bl true,.bl v]) [Zf T,Zf KD,Zf<|.tup [O,b]]:=by
  unfold lL;have q:=zp (n:=5) (it:=QL<|Zv 1<|Zv 2 aj) (g:=d8 2<|bu (au 3)<|bu (au 4) eG) (env:=[Zf T,Zf KD,Zf<|.tup [O,b]]) (aG:=[Zf T,Zf KD,Zf<|.tup [O,b]])
   [(([111,114,100,101,114]:List Nat),O,true),([98,111,111,107],b,v)] (λp=>.tup [.str p.1,p.2.1]) (λp=>[Zs p.1,Zf p.2.1]) (λ_=>true) (λp=>.bl p.2.2) (by rw[<-hK];rfl) rfl (λp hp=>by
   refine⟨rfl,λvs hv=>?_,rfl,λ_=>?_⟩
   ·match vs,hv with
    | [_,_],_=>rfl
   ·show az jT (Zv 0<|Zv 3<|Zv 4 aj) [Zf T,Zf KD,Zf<|.tup [O,b],Zs p.1,Zf p.2.1]=_;have hp':jT [T,.str p.1,p.2.1]=some (.bl p.2.2):=by
     rcases Qq8.mp hp with rfl|hp
     ·exact p1
     ·cases Qq9.mp hp;exact p2
    clear p1 p2 hp hs ho hb hK hO
    ac_rfl) (show 2<=sizeLine by decide)
  exact q
 have c2:lK [Zf T,Zf KD,Zf<|.tup [O,b]] = .ok (.lst [s]) [Zf T,Zf KD,Zf<|.tup [O,b]]:=by
  unfold lK;have q:=zp (n:=5) (it:=QL<|Zv 1<|Zv 2 aj) (g:=d8 2<|bu (au 3)<|bu (au 4) eG) (c:=cX<|ao gQ 3<|Zw [111,114,100,101,114]) (e:=ao bZ 4<|Zi 0) (env:=[Zf T,Zf KD,Zf<|.tup [O,b]]) (aG:=[Zf T,Zf KD,Zf<|.tup [O,b]])
   [(([111,114,100,101,114]:List Nat),O,true),([98,111,111,107],b,false)] (λp=>.tup [.str p.1,p.2.1]) (λp=>[Zs p.1,Zf p.2.1]) (λp=>p.2.2) (λ_=>s) (by rw[<-hK];rfl) rfl (λp hp=>by
   rcases Qq8.mp hp with rfl|hp
   ·refine⟨rfl,λvs hv=>?_,rfl,λ_=>?_⟩
    ·match vs,hv with
     | [_,_],_=>rfl
    ·rw[<-hO]
     rfl
   ·cases Qq9.mp hp;refine⟨rfl,λvs hv=>?_,rfl,λh=>by cases h⟩
    match vs,hv with
    | [_,_],_=>rfl) (show 2<=sizeLine by decide)
  exact q
 have hg:Em (.lst [s])=some (.int 1):=by
  rcases Qq8.mp hs with rfl|hs
  ·rfl
  ·cases Qq9.mp hs
   rfl
 have l1:cY [KD]=some (.int 2):=by rw[<-hK];rfl
 have ha:qC [.lst [.bl true,.bl v]]=some (.bl v):=by cases v<;>rfl
 unfold pG Ad;generalize lL=L1 at *;generalize lK=L2 at *;have l2:cY [.tup [O,b]]=some (.int 2):=rfl;have hn:Gr (.int 2) (.int 2)=some (.bl false):=rfl;generalize D.tup [O,b]=OB at *;clear p1 p2 hs ho hb hO hK;cases v<;>ac_rfl
theorem holds(hk:kE [T]=some (.bl true))(hb:dR [T,b]=some (.bl v))(hq:v=true->dB [T,.tup [.tup [s,.tup Rs],b],paper]=some (.bl q)):Bq [.tup [.str [113,117,97,114,114,101,108],T,.tup [s,.tup Rs],b],paper]=some (.bl (v&&q)):=by
 have hp:=parts hs ho hb;generalize D.tup [s,.tup Rs]=O at *;have g1:tQ ql (.str [113,117,97,114,114,101,108])=some (.bl false):=rfl;have g2:zg wI (.str [113,117,97,114,114,101,108])=some (Yg "quarrel_shown"):=rfl;have g3:zg ql (.str [113,117,97,114,114,101,108])=some (.tup [.str [111,114,100,101,114],.str [98,111,111,107]]):=rfl;have t1:eF (.tup [.str [113,117,97,114,114,101,108],T,O,b]) "tuple" = true:=rfl;have t1':fL "tuple" (.tup [.str [113,117,97,114,114,101,108],T,O,b])=some (.bl true):=rfl;have t2:eF (.str [113,117,97,114,114,101,108]) "str" = true:=rfl;have t2':fL "str" (.str [113,117,97,114,114,101,108])=some (.bl true):=rfl;have s1:Ua (.tup [.str [113,117,97,114,114,101,108],T,O,b]) (some 2) none=some (.tup [O,b]):=rfl;have i0:bZ (.tup [.str [113,117,97,114,114,101,108],T,O,b]) (.int 0)=some (.str [113,117,97,114,114,101,108]):=rfl;have i1:bZ (.tup [.str [113,117,97,114,114,101,108],T,O,b]) (.int 1)=some T:=rfl;have ln:cY [.tup [.str [113,117,97,114,114,101,108],T,O,b]]=some (.int 4):=rfl;have lt:VP (.int 4) (.int 2)=some (.bl false):=rfl;have gf:∀e0 e1 e2 e3 e4 a,QM "quarrel_shown" dB 5 a [e0,e1,e2,e3,e4,Zf<|Yg "quarrel_shown"]=bindR (a [e0,e1,e2,e3,e4,Zf<|Yg "quarrel_shown"]) λds aG=>fG (dB ds) aG:=λe0 e1 e2 e3 e4 a=>by
  unfold QM Yg;exact if_pos rfl
 unfold Bq Wj;generalize D.tup [.str [113,117,97,114,114,101,108],T,O,b]=CL at *;generalize D.tup [.str [111,114,100,101,114],.str [98,111,111,107]]=KD at *;generalize D.tup [O,b]=OB at *;generalize Yg "quarrel_shown" = QS at *;generalize ql=TP at *;generalize wI=TS at *;generalize [113,117,97,114,114,101,108]=QW at *;clear hs ho hb;cases v
 ·clear hq
  ac_rfl
 ·have hq:=hq rfl
  ac_rfl
theorem told(hk:kE [T]=some (.bl true))(u)(hb:dR [T,b]=some (.bl v))(hq:v=true->dB [T,.tup [.tup [s,.tup Rs],b],paper]=some (.bl q)):gM [.tup [.str [113,117,97,114,114,101,108],T,.tup [s,.tup Rs],b],paper,.bl u]=some (.bl ((v&&q) == u)):=by
 have hh:=holds hs ho hk hb hq;have h1:eF (.bl<|v&&q) "bool" = true:=rfl;have h1':fL "bool" (.bl<|v&&q)=some (.bl true):=rfl;have h2:gQ (.bl<|v&&q) (.bl u)=some (.bl<|(v&&q) == u):=by cases(v&&q)<;>cases u<;>rfl
 unfold gM Fq;generalize D.tup [.str [113,117,97,114,114,101,108],T,.tup [s,.tup Rs],b]=CL at *;generalize(v&&q)=w at *;generalize(w == u)=z at *;clear hs ho hb hq
 ac_rfl
end
open nY (perms d7 gH rows pick encP bk)
def bad(s:D)(Rs:List D)(B:List nY.Pr)(r:List Nat):List Nat:=(List.range B.length).filter λk=>fin s (pick Rs r) (B.getD k ([],[])).1 != (B.getD k ([],[])).2
def fst(s:D)(Rs:List D)(B:List nY.Pr)(r:List Nat):Nat:=(bad s Rs B r).headD 0
section
variable{x:List Nat}{s:D}{Rs:List D}(h:nY.Ok x s Rs){B:List nY.Pr}(hB:BkG x B)
include h hB
theorem ajs(r):fst s Rs B r<6:=by
 have h6:=hB.few;unfold fst;cases e:bad s Rs B r with
 | nil=>decide
 | cons k l=>
  have:k∈bad s Rs B r:=by rw[e];exact Qq3 ..
  have:=Qx0.mp (List.mem_filter.mp this).1;show k<6;omega
theorem Xj(r)(hr:r.length<=5)(hi:∀i∈r,i<Rs.length)(acc)(ha:acc.length<=1000)(a4 a5:OD):∃b4 b5,jD [Zf (.tup [s,.tup Rs]),Zf (bk B),Zl acc,Zf (bL r),a4,a5] = .nx [Zf (.tup [s,.tup Rs]),Zf (bk B),(Zl (acc++[.int (fst s Rs B r)])),Zf (bL r),b4,b5]:=by
 have h6:=hB.few;have hl:=nY.Dv s Rs r hi (by omega);rw[<-tM] at hl;have hlb:cY [bk B]=some (.int (B.length:Int)):=by unfold bk;rw[El,Qqz]
 have c:lJ [Zf (.tup [s,.tup Rs]),Zf<|bk B,Zl acc,Zf<|bL r,(Zf<|.tup [s,.tup<|pick Rs r]),a5] = .ok (.lst<|(bad s Rs B r).map λ(k:Nat)=>.int (k:Int)) [Zf (.tup [s,.tup Rs]),Zf<|bk B,Zl acc,Zf<|bL r,(Zf<|.tup [s,.tup<|pick Rs r]),a5]:=by
  unfold lJ bad;have hrg:=Cz (n:=B.length) (by omega);refine Br (List.range B.length) (λk=>.int (k:Int)) (λk=>fin s (pick Rs r) (B.getD k ([],[])).1 != (B.getD k ([],[])).2) (λk=>.int (k:Int)) ?_ rfl rfl (λk hk=>?_) (λk hk _=>rfl) (by rw[List.length_range];exact Qqj (show B.length<=6 from h6) (by decide))
  ·generalize bL r=ER at *;generalize bk B=BB at *;generalize(B.length:Int)=BL at *;clear h hB hl
   ac_rfl
  ·have hkb:=Qx0.mp hk;have hkk:B.getD k ([],[])∈B:=by rw[Qw9,Qq6 hkb];exact Qxq hkb
   obtain⟨w1,w2,_,_⟩:=hB.wB _ hkk;have hm:=nY.Du (h.pick hi hr) w1 w2;rw[<-tL] at hm;have hx:=Wf hkb;have i0:bZ (encP (B.getD k ([],[]))) (.int 0)=some (.str (B.getD k ([],[])).1):=rfl;have i1:bZ (encP (B.getD k ([],[]))) (.int 1)=some (.str (B.getD k ([],[])).2):=rfl;show cX (aN Gr (az gO (Zv 4 (aa (aN bZ (ao bZ 1 (bh 6)) (Zi 0)) aj))) (aN bZ (ao bZ 1 (bh 6)) (Zi 1))) [Zf (.tup [s,.tup Rs]),Zf (bk B),Zl acc,Zf (bL r),(Zf (.tup [s,.tup (pick Rs r)])),a5,(Zf (.int (k:Int)))]=_;generalize B.getD k ([],[])=P at *;rw[bne];have he:=VJ (fin s (pick Rs r) P.1) P.2;generalize fin s (pick Rs r) P.1=FF at *;generalize(!(FF == P.2))=nn at *;generalize pick Rs r=PP at *;generalize encP P=PE at *;generalize(k:Int)=K at *;generalize bL r=ER at *;generalize bk B=BB at *;clear h hB hl hrg hkk hk w1 w2 hi
   ac_rfl
 have hx:bZ (.lst ((bad s Rs B r).map (λ(k:Nat)=>D.int (k:Int))++[.int 0])) (.int 0)=some (.int (fst s Rs B r:Int)):=by
  unfold fst;cases bad s Rs B r with
  | nil=>rfl
  | cons k l=>rw[QC,Qq2,List.cons_append,mj.Fy];rfl
 have hbl:(bad s Rs B r).length<=6:=Qqj (List.length_filter_le _ _) (by rw[List.length_range];exact h6);have hg:=Mv (a:=(bad s Rs B r).map λ(k:Nat)=>D.int (k:Int)) (b:=[.int 0]) (Qqj (show _<=7 by rw[Qqz];show(bad s Rs B r).length+1<=7;omega) (by decide));refine⟨(Zf (.tup [s,.tup (pick Rs r)])),(Zl ((bad s Rs B r).map λ(k:Nat)=>D.int (k:Int))),?_⟩;unfold jD;generalize(bad s Rs B r).map (λ(k:Nat)=>D.int (k:Int))=BD at *;generalize(fst s Rs B r:Int)=FI at *;generalize BD++[.int 0]=B0 at *;generalize pick Rs r=PP at *;generalize bL r=ER at *;generalize bk B=BB at *;generalize lJ=LC at *;clear h hB hi hbl
 ac_rfl
theorem Th:∀(l:List (List Nat)) acc (a3 a4 a5:OD),(∀r∈l,r.length<=5/\∀i∈r,i<Rs.length)->acc.length+l.length<=1000->∃b3 b4 b5,lV (au 3) jD (l.map bL) [Zf (.tup [s,.tup Rs]),Zf (bk B),Zl acc,a3,a4,a5] = .nx [Zf (.tup [s,.tup Rs]),Zf (bk B),(Zl (acc++l.map λr=>.int (fst s Rs B r))),b3,b4,b5]:=by
 intro l
 induction l with
 | nil=>intro acc a3 a4 a5 _ _;exact⟨a3,a4,a5,by simp[List.map_nil,Qxv];rfl⟩
 | cons r l ih=>
  intro acc a3 a4 a5 hr hz;rw[Qqw] at hz;obtain⟨h1,h2⟩:=hr r<|Qq3 ..;obtain⟨c4,c5,hb⟩:=Xj h hB r h1 h2 acc (by omega) a4 a5;obtain⟨b3,b4,b5,ih⟩:=ih (acc++[.int (fst s Rs B r)]) (Zf<|bL r) c4 c5 (λq hq=>hr q<|Qqy _ hq) (by rw[Qq1];show acc.length+1+_<=_;omega);refine⟨b3,b4,b5,?_⟩;have e1:au 3 (bL r) [Zf (.tup [s,.tup Rs]),Zf<|bk B,Zl acc,a3,a4,a5]=some [Zf (.tup [s,.tup Rs]),Zf<|bk B,Zl acc,Zf<|bL r,a4,a5]:=rfl;rw[Qq2,v9,e1,vS,Dy,hb,kNx,ih,Qq2,List.append_assoc]
  rfl
def gR(s:D)(Rs:List D)(B:List nY.Pr):List D:=(perms Rs.length Rs.length).map λr=>.int (fst s Rs B r:Int)
theorem HH(hn:n<=4):(perms n n).length<=256/\0<(perms n n).length:=by
 refine⟨?_,List.length_pos_of_mem<|nY.Hx n⟩
 match n,hn with
 | 0,_=>decide
 | 1,_=>decide
 | 2,_=>decide
 | 3,_=>decide
 | 4,_=>decide
theorem XM(h4:Rs.length<=4):pD [.tup [s,.tup Rs],bk B]=some (.tup (gR s Rs B)):=by
 have ho:=yN Rs.length (by omega);have hp:=(HH h hB h4).1;obtain⟨b3,b4,b5,hf⟩:=Th h hB (perms Rs.length Rs.length) [] none none none (λr hr=>by
  obtain⟨h1,_,h2⟩:=(d7 _ _ _).mp hr;exact⟨by omega,h2⟩) (by show 0+_<=_;omega)
 rw[List.nil_append] at hf;have hf2:lV (au 3) jD (rows<|perms Rs.length Rs.length) [Zf (.tup [s,.tup Rs]),Zf<|bk B,Zl [],Zn,Zn,Zn] = .nx [Zf (.tup [s,.tup Rs]),Zf<|bk B,Zl<|gR s Rs B,b3,b4,b5]:=hf;unfold pD Aa;have hi:bZ (.tup [s,.tup Rs]) (.int 1)=some (.tup Rs):=rfl;generalize gR s Rs B=PD at *;generalize rows (perms Rs.length Rs.length)=RR at *;generalize bk B=BB at *;clear h hB hf hp h4
 ac_rfl
theorem aaQ:∀d∈gR s Rs B,∃k:Nat,k<6/\d = .int k:=by intro d hd;obtain⟨r,_,rfl⟩:=Qw3.mp hd;exact⟨_,ajs h hB r,rfl⟩
end
theorem uY(n)(m)(h0:0<m)(h1:m<=1000):∃(d:Nat) (n':Int),d<m/\bf [.lst [.int n],.int m]=some (.int d,.lst [.int n']):=by obtain⟨d,hd,e⟩:=dig n m h0;exact⟨d,n / m,hd,by rw[U7,mj.jM n m h0 (by omega),e]⟩
noncomputable def Ti(k:Nat):List D:=[.int ((k:Int)+1),.int ((k:Int) - 1),.int 0,.bl ((k:Int) == 1),.int ((k:Int)+2),.non,.str [48+k],.tup [.int (k:Int)]]
theorem akI{k:Nat}(hk:k<6):JF (.int k)=some (.str [48+k]):=by
 match k,hk with
 | 0,_=>rfl
 | 1,_=>rfl
 | 2,_=>rfl
 | 3,_=>rfl
 | 4,_=>rfl
 | 5,_=>rfl
theorem Xn(n){k:Nat}(hk:k<6):∃d n',lg [.lst [.int n],.int k]=some (d,.lst [.int n'])/\uC d=true:=by
 obtain⟨j,n',hj,ht⟩:=uY n 8 (by decide) (by decide);have ht':bf [.lst [.int n],.int 8]=some (.int (j:Int),.lst [.int n']):=ht;have hi:bZ (.lst<|Ti k) (.int (j:Int))=some ((Ti k).getD j .non):=by
  rw[QC,atN,Qw9,Qq6<|show j<(Ti k).length from hj]
  rfl
 have hc:uC ((Ti k).getD j .non)=true:=by
  have hj':j=0\/j=1\/j=2\/j=3\/j=4\/j=5\/j=6\/j=7:=by omega
  rcases hj' with rfl|rfl|rfl|rfl|rfl|rfl|rfl|rfl<;>rfl
 refine⟨(Ti k).getD j .non,n',?_,hc⟩;have h1:eF (.int (k:Int)) "bool" = false:=rfl;have h1':fL "bool" (.int (k:Int))=some (.bl false):=rfl;have h2:eF (.int (k:Int)) "int" = true:=rfl;have h2':fL "int" (.int (k:Int))=some (.bl true):=rfl;have h3:=akI hk;have h4:=xB (k:Int) 1;unfold lg Ab;generalize(Ti k).getD j .non=G at *;unfold Ti at hi;have hl:∀e,((Zf<|.int (k:Int))::(Zl [.int n'])::[(Zf<|.int (j:Int))]=e)->aN bZ (dF<|aa (ao cA 0<|Zi 1)<|aa (ao m7 0<|Zi 1)<|aa (Zi 0)<|aa (ao gQ 0<|Zi 1)<|aa (ao cA 0<|Zi 2)<|aa (j7 .non)<|aa (dY JF<|aM 0)<|aa (cI<|Zv 0 aj) aj) (bh 2) e = .ok G e:=λe he=>by
  subst he;generalize D.str [48+k]=SS at *;generalize((k:Int) == 1)=bb at *;clear hc ht ht' hj hk;generalize(k:Int)=K at *;generalize(j:Int)=J at *
  ac_rfl
 have hl:=hl _ rfl;generalize aN bZ (dF<|aa (ao cA 0<|Zi 1)<|aa (ao m7 0<|Zi 1)<|aa (Zi 0)<|aa (ao gQ 0<|Zi 1)<|aa (ao cA 0<|Zi 2)<|aa (j7 .non)<|aa (dY JF<|aM 0)<|aa (cI<|Zv 0 aj) aj) (bh 2)=EE at *;have hr:∀ev d p r x d0,ev [Zf d0,Zt x,Zn] = .rt false d ((Zf d0)::(Zt p)::r)->sW 3 ev [x,d0]=some (d,p):=λev d p r x d0 h=>by
  show(match ev [Zf d0,Zt x,Zn] with|.rt false d env=>_|.nx env=>_|_=>_)=_;rw[h]
  rfl
 refine hr _ G (.lst [.int n']) [(Zf<|.int (j:Int))] _ _ ?_;clear hr hi h3 h4 hc ht hk hj;generalize(k:Int)=K at *;generalize(j:Int)=J at *
 ac_rfl
open mj (Rows eQ)
theorem Fb{i:Nat}{env e1 e2:Ev.Env}(h0:a0 env = .ok d0 e1)(h1:e1[i]? = some (Zt x0))(h2:a e1 = .ok ds e2)(h3:e2[i]? = some (Zt x))(h4:f (x::d0::ds)=some (d,x')):tW f i a0 a env = .ok d (e2.set i (Zt x')):=by unfold tW;rw[h0];show(match e1[i]? with|some (some (true,_))=>bindR (a e1) λds aG=>_|_=>_)=_;rw[h1];show bindR (a e1) _=_;rw[h2];show(match e2[i]? with|some (some (true,x))=>(match f (x::d0::ds) with|some (d,x')=>R.ok d (e2.set i<|Zt x')|none=>.stuck)|_=>.stuck)=_;rw[h3];show(match f (x::d0::ds) with|some (d,x')=>R.ok d (e2.set i<|Zt x')|none=>.stuck)=_;rw[h4]
theorem yJ(h:ev (tY n x d0 r) = .rt false d env)(h1:env[1]? = some (Zt x')):sW n ev (x::d0::r)=some (d,x'):=by show(match ev (tY n x d0 r) with|.rt false d env=>(match env[1]? with|some (some (true,x'))=>some (d,x')|_=>none)|.nx env=>_|_=>none)=_;rw[h];show(match env[1]? with|some (some (true,x'))=>some (d,x')|_=>none)=_;rw[h1]
theorem am6(n){k:Nat}(hk:k<6):∃d n',mZ [.lst [.int n],.int k,.int 1]=some (d,.lst [.int n'])/\uC d=true:=by
 obtain⟨d,n',h1,h2⟩:=Xn n hk;refine⟨d,n',yJ (env:=[(Zf<|.int k),Zl [.int n'],Zf<|.int 1,Zn,Zn,Zn]) ?_ rfl,h2⟩;unfold uP;refine(jU ?_).trans rfl;refine(iQ (e:=[(Zf<|.int k),Zl [.int n],Zf<|.int 1,Zn,Zn,Zn]) ?_).trans ?_
 ·have e1:gQ (.int 1) (.int 0)=some (.bl false):=rfl;have e2:fL "tuple" (.int k)=some (.bl false):=rfl;have e3:eF (.int k) "tuple" = false:=rfl;generalize(k:Int)=K at *;clear h1 h2 hk
  ac_rfl
 ·exact cP<|Fb rfl rfl rfl rfl h1
def chain:bU:=cJ (cX (ao gQ 4 (Zi 0))) (KH (m5 5 (aM 3))) (cJ (cX (ao gQ 4 (Zi 1))) (BZ 5 (aM 3) (ao bZ 0 (bh 3))) (cJ (cX (ao gQ 4 (Zi 2))) (iH 5 (m5 5 (aM 3))) (cJ (cX (ao gQ 4 (Zi 3))) (aY (aM 5)) (aX (tW mZ 1 (ao bZ 0 (bh 3)) (aa (ao m7 2 (Zi 1)) aj)) (T6 5 (aM 3))))))
theorem aaG(ds){a:Nat}(ha:a<ds.length)(e0 e1 e2 e4:OD):m5 5 (aM 3) [e0,e1,e2,(Zf (.int a)),e4,Zl ds] = .ok ds[a] [e0,e1,e2,(Zf (.int a)),e4,Zl (ds.eraseIdx a)]:=by show(if 0<=(a:Int)/\(a:Int)<ds.length then (match ds[(a:Int).toNat]? with|some y=>R.ok y [e0,e1,e2,(Zf<|.int a),e4,(Zl<|ds.eraseIdx (a:Int).toNat)]|none=>.stuck) else .stuck)=_;rw[if_pos ⟨by omega,by omega⟩,Qxw,Qq6 ha]
theorem ai4(ds){a:Nat}(ha:a<ds.length)(hz:ds.length<=256)(e1 e2 e4:OD):BZ 5 (aM 3) (ao bZ 0 (bh 3)) [Zf (.tup ds),e1,e2,(Zf (.int a)),e4,Zl ds] = .nx [Zf (.tup ds),e1,e2,(Zf (.int a)),e4,Zl (ds.take a++ds[a]::ds.drop a)]:=by have h1:ao bZ 0 (bh 3) [Zf (.tup ds),e1,e2,(Zf<|.int a),e4,Zl ds] = .ok ds[a] [Zf (.tup ds),e1,e2,(Zf<|.int a),e4,Zl ds]:=bM rfl rfl rfl (by rw[uL,atN,Qq6 ha]);unfold BZ;show eY (ao bZ 0 (bh 3) [Zf (.tup ds),e1,e2,(Zf<|.int a),e4,Zl ds]) _=_;rw[h1];show(if 0<=(a:Int)/\(a:Int)<=ds.length/\ds.length<sizeLine then Out.nx [Zf (.tup ds),e1,e2,(Zf<|.int a),e4,(Zl (ds.take (a:Int).toNat++ds[a]::ds.drop (a:Int).toNat))] else .stuck)=_;rw[if_pos ⟨by omega,by omega,Qw0 hz (by decide)⟩,Qxw]
section
variable{ds:List D}(hl:ds.length<=256)(hd:∀d∈ds,∃k:Nat,k<6/\d = .int (k:Int))
include hl hd
theorem X5:∀d∈ds,uC d=true:=λd h=>by
 obtain⟨k,_,rfl⟩:=hd d h
 rfl
theorem ack(n){a p:Nat}(ha:a<ds.length):(chain [Zf (.tup ds),Zl [.int n],Zf (.int 2),(Zf (.int a)),(Zf (.int p)),Zl ds] = .rt false (.lst ds) [Zf (.tup ds),Zl [.int n],Zf (.int 2),(Zf (.int a)),(Zf (.int p)),Zf (.lst ds)])\/∃n' xs,chain [Zf (.tup ds),Zl [.int n],Zf (.int 2),(Zf (.int a)),(Zf (.int p)),Zl ds] = .nx [Zf (.tup ds),Zl [.int n'],Zf (.int 2),(Zf (.int a)),(Zf (.int p)),Zl xs]/\xs.all uC=true:=by
 have hn:=X5 hl hd;have t:∀j b,((p:Int) == (j:Int))=b->cX (ao gQ 4<|j7<|.int (j:Int)) [Zf (.tup ds),Zl [.int n],Zf<|.int 2,(Zf<|.int (a:Int)),(Zf<|.int (p:Int)),Zl ds] = .ok b [Zf (.tup ds),Zl [.int n],Zf<|.int 2,(Zf<|.int (a:Int)),(Zf<|.int (p:Int)),Zl ds]:=λj b h=>jw<|bM rfl rfl rfl (by rw[xB,h]);have f:∀j,p≠j->((p:Int) == (j:Int))=false:=λj h=>Qxj.mpr (by omega);unfold chain;by_cases h0:p=0
 ·refine .inr ⟨n,ds.eraseIdx a,(iQ<|t 0 true (by rw[h0];rfl)).trans ?_,Qw1.mpr λd h=>hn d<|List.mem_of_mem_eraseIdx h⟩;show eY (m5 5 (aM 3) _) _=_;rw[aaG ds ha]
  rfl
 by_cases h1:p=1
 ·refine .inr ⟨n,ds.take a++ds[a]::ds.drop a,(fK<|t 0 false<|f 0 h0).trans<|(iQ<|t 1 true (by rw[h1];rfl)).trans (ai4 ds ha hl _ _ _),Qw1.mpr λd h=>?_⟩;rcases Qw7.mp h with h|h
  ·exact hn d (List.mem_of_mem_take h)
  ·rcases Qq8.mp h with rfl|h
   ·exact hn _ (Qxq ha)
   ·exact hn d (List.mem_of_mem_drop h)
 by_cases h2:p=2
 ·refine .inr ⟨n,ds.eraseIdx a++[ds[a]],(fK (t 0 false (f 0 h0))).trans ((fK (t 1 false (f 1 h1))).trans ((iQ (t 2 true (by rw[h2];rfl))).trans ?_)),Qw1.mpr λd h=>?_⟩
  ·refine(eQ (x0:=ds) (xs:=ds.eraseIdx a) rfl (aaG ds ha _ _ _ _) rfl ?_).trans rfl;exact Qw0 (Qqj (List.length_eraseIdx_le _ _) hl) (by decide)
  ·rcases Qw7.mp h with h|h
   ·exact hn d (List.mem_of_mem_eraseIdx h)
   ·cases Qq9.mp h;exact hn _ (Qxq ha)
 by_cases h3:p=3
 ·exact .inl ((fK (t 0 false (f 0 h0))).trans ((fK (t 1 false (f 1 h1))).trans ((fK (t 2 false (f 2 h2))).trans ((iQ (t 3 true (by rw[h3];rfl))).trans rfl))))
 ·obtain⟨k,hk,ek⟩:=hd _ (Qxq ha);obtain⟨d,n',hb,hc⟩:=am6 n hk;refine .inr ⟨n',ds.set a d,(fK (t 0 false (f 0 h0))).trans ((fK (t 1 false (f 1 h1))).trans ((fK (t 2 false (f 2 h2))).trans ((fK (t 3 false (f 3 h3))).trans ?_))),Qw1.mpr λe h=>?_⟩
  ·refine bY (d:=d) (e:=[Zf (.tup ds),Zl [.int n'],Zf (.int 2),(Zf (.int (a:Int))),(Zf (.int (p:Int))),Zl ds]) (Fb (d0:=.int (k:Int)) (x:=.lst [.int n]) (x0:=.lst [.int n]) (ds:=[.int 1]) (e1:=[Zf (.tup ds),Zl [.int n],Zf (.int 2),(Zf (.int (a:Int))),(Zf (.int (p:Int))),Zl ds]) (e2:=[Zf (.tup ds),Zl [.int n],Zf (.int 2),(Zf (.int (a:Int))),(Zf (.int (p:Int))),Zl ds]) ?_ rfl rfl rfl hb) ?_
   ·exact bM rfl rfl rfl (by rw[uL,atN,Qq6 ha,ek])
   ·show(Vw ds.length (a:Int)).map (λj=>([Zf (.tup ds),Zl [.int n'],Zf (.int 2),(Zf (.int (a:Int))),(Zf (.int (p:Int))),Zl (ds.set j d)]:Ev.Env))=_;rw[show Vw ds.length (a:Int)=some a from by unfold Vw;simp[ha]]
    rfl
  ·rcases List.mem_or_eq_of_mem_set h with h|rfl
   ·exact hn e h
   ·exact hc
theorem apa(h0:0<ds.length)(n):∃d n',rm [.lst [.int n],.tup ds,.int 2]=some (d,.lst [.int n'])/\pl d=true:=by
 obtain⟨a,n1,ha,ht1⟩:=uY n ds.length h0 (by omega);obtain⟨p,n2,_,ht2⟩:=uY n1 12 (by decide) (by decide);have e0:iI (cX<|ao gQ 2<|Zi 0) (iI (cZ<|cX<|dY (fL "tuple")<|aM 0)<|cX<|ao gQ 0<|cI aj) [Zf (.tup ds),Zl [.int n],Zf<|.int 2,Zn,Zn,Zn] = .ok false [Zf (.tup ds),Zl [.int n],Zf<|.int 2,Zn,Zn,Zn]:=by
  have e1:gQ (.int 2) (.int 0)=some (.bl false):=rfl;have e2:fL "tuple" (.tup ds)=some (.bl true):=rfl;have e3:eF (.tup ds) "tuple" = true:=rfl;have e4:gQ (.tup ds) (.tup [])=some (.bl false):=by
   match ds,h0 with
   | d::r,_=>rfl
  clear ht1 ht2 hd hl h0
  ac_rfl
 have head:∀rest,aF (cJ (iI (cX<|ao gQ 2<|Zi 0)<|iI (cZ<|cX<|dY (fL "tuple")<|aM 0)<|cX<|ao gQ 0<|cI aj) (aY<|tW lg 1 (aM 0) aj) bJ) (aF (aX (dM bf 1<|aa (az cY<|aa (bh 0) aj) aj)<|au 3)<|aF (aX (dM bf 1<|aa (Zi 12) aj)<|au 4)<|aF (gr 5<|dY Ek<|aM 0) rest) [Zf (.tup ds),Zl [.int n],Zf<|.int 2,Zn,Zn,Zn]=rest [Zf (.tup ds),Zl [.int n2],Zf<|.int 2,(Zf<|.int (a:Int)),(Zf<|.int (p:Int)),Zl ds]:=λrest=>by
  refine(aL<|(fK e0).trans rfl).trans ?_;refine(aL (e:=[Zf (.tup ds),Zl [.int n1],Zf<|.int 2,(Zf<|.int (a:Int)),Zn,Zn]) ?_).trans ?_
  ·exact bY (Ev.V3 (e1:=[Zf (.tup ds),Zl [.int n],Zf<|.int 2,Zn,Zn,Zn]) rfl rfl rfl ht1) rfl
  refine(aL (e:=[Zf (.tup ds),Zl [.int n2],Zf<|.int 2,(Zf<|.int (a:Int)),(Zf<|.int (p:Int)),Zn]) ?_).trans ?_
  ·exact bY (Ev.V3 (x:=.lst [.int n1]) (ds:=[.int 12]) (e1:=[Zf (.tup ds),Zl [.int n1],Zf<|.int 2,(Zf<|.int (a:Int)),Zn,Zn]) rfl rfl rfl ht2) rfl
  exact aL rfl
 rcases ack hl hd n2 (p:=p) ha with h|⟨n',xs,h,hx⟩
 ·refine⟨.lst ds,n2,yJ (env:=[Zf (.tup ds),Zl [.int n2],Zf<|.int 2,(Zf<|.int (a:Int)),(Zf<|.int (p:Int)),Zf<|.lst ds]) ?_ rfl,rfl⟩;exact(head<|aF chain<|aY<|az dX<|aa (bh 5) aj).trans<|jU h
 ·refine⟨.tup xs,n',yJ (env:=[Zf (.tup ds),Zl [.int n'],Zf<|.int 2,(Zf<|.int (a:Int)),(Zf<|.int (p:Int)),Zl xs]) ?_ rfl,hx⟩;exact(head<|aF chain<|aY<|az dX<|aa (bh 5) aj).trans<|(aL h).trans rfl
end
def ad7:dq:=(aa (cI aj) (aa (ao VN 3 (Zi 7)) (aa (az qz (aa (bh 3) aj)) (aa (cI (aa (aN bZ (ao bZ 3 (Zi 0)) (Zi 0)) aj)) (aa (cI (aa (aN cA (ao bZ 3 (Zi 0)) (cI (aa (Zw []) aj))) aj)) (aa (cI (aa (cI (aa (Zw [35]) (aa (Zw []) aj))) aj)) (aa (cI (aa (cI (aa (Zw []) (aa (j7 .non) aj))) aj)) (aa (j7 .non) aj))))))))
structure anl(x:List Nat)(T s:D)(Rs:List D)(B:List nY.Pr):Prop where
 xl:x∈XL
 snd:d9 [T]=some (.tup (gW x))
 WY:kE [T]=some (.bl true)
 sd:s∈sides
 ok:nY.Ok x s Rs
 ord:mL [T,.tup [s,.tup Rs]]=some (.bl true)
 bk:BkG x B
 few:Rs.length<=4
section
variable{x:List Nat}{T s:D}{Rs:List D}{B:List nY.Pr}(h:anl x T s Rs B)
include h
theorem tell(hp:pl p=true):gM [D.tup [.str [113,117,97,114,114,101,108],T,.tup [s,.tup Rs],bk B],p,.bl (sh s Rs B p)]=some (.bl true):=by have:=told h.sd h.ord h.WY (sh s Rs B p) (YC h.snd h.bk)<|λ_=>shown h.ok h.bk T hp;rw[this,Bool.true_and,beq_self_eq_true]
theorem ZM(hp:pl p=true)(hs:sh s Rs B p=false):gM [D.tup [.str [113,117,97,114,114,101,108],T,.tup [s,.tup Rs],bk B],p,.bl false]=some (.bl true):=by
 have:=tell h hp
 rwa [hs] at this
theorem ZL(hb:dR [T,b]=some (.bl false)):gM [D.tup [.str [113,117,97,114,114,101,108],T,.tup [s,.tup Rs],b],p,.bl false]=some (.bl true):=
 told h.sd h.ord h.WY (q:=true) false hb (λh=>by cases h)
theorem edge:35 ∉ x:=(mj.Gj<|rO x h.xl).ne
theorem aon(e0 a6 a7 a8 P C:OD):∃os,ad7 [e0,Zf T,Zf (.tup [s,.tup Rs]),Zf (bk B),P,C,a6,a7,a8] = .ok os [e0,Zf T,Zf (.tup [s,.tup Rs]),Zf (bk B),P,C,a6,a7,a8]/\os.length<=8/\∀d∈os,dR [T,d]=some (.bl false):=by
 have hb:=h.bk;have he:=edge h
 match B,hb.pos with
 | p::r,_=>
  have hl:=hb.few;have e1:VN (bk (p::r)) (.int 7)=some (.tup (List.replicate 7<|(p::r).map encP).flatten):=by show(abX (.tup<|(p::r).map encP)<|.int 7).or (JG (.tup<|(p::r).map encP)<|.int 7)=_;show JG (.tup<|(p::r).map encP) (.int 7)=_;exact if_pos ⟨by decide,by decide,by simp,Qqj (show _<=42 by rw[Qqz];exact Nat.mul_le_mul_right 7 hl) (by decide)⟩
  have l7:6<(List.replicate 7<|(p::r).map encP).flatten.length:=by simp;omega
  have e2:qz [bk (p::r)]=some (.lst<|(p::r).map encP):=rfl;have e3:bZ (bk (p::r)) (.int 0)=some (encP p):=Wf (by simp);have e4:bZ (encP p) (.int 0)=some (.str p.1):=rfl;have e5:cA (encP p) (.tup [.str []])=some (.tup [.str p.1,.str p.2,.str []]):=Mu Ev.zz3;refine⟨[.tup [],.tup (List.replicate 7<|(p::r).map encP).flatten,.lst<|(p::r).map encP,.tup [.str p.1],.tup [.tup [.str p.1,.str p.2,.str []]],.tup [.tup [.str [35],.str []]],.tup [.tup [.str [],.non]],.non],?_,Qqv _,λd hd=>?_⟩
  ·unfold ad7;generalize(List.replicate 7<|(p::r).map encP).flatten=M7 at *;generalize D.tup [.str p.1,.str p.2,.str []]=P3 at *;generalize(p::r).map encP=PR at *;generalize encP p=PE at *;generalize bk (p::r)=BB at *;clear hb he h hl l7
   ac_rfl
  ·rcases Qq8.mp hd with rfl|hd
   ·rfl
   rcases Qq8.mp hd with rfl|hd
   ·exact YG l7
   rcases Qq8.mp hd with rfl|hd
   ·rfl
   rcases Qq8.mp hd with rfl|hd
   ·exact YD h.snd _
   rcases Qq8.mp hd with rfl|hd
   ·exact Ut h.snd _ _ _
   rcases Qq8.mp hd with rfl|hd
   ·exact YH h.snd he
   rcases Qq8.mp hd with rfl|hd
   ·exact YF h.snd
   cases Qq9.mp hd
   rfl
theorem turn(n)(a6 a7 a8:OD):∃n' b7,lQ [Zl [.int n],Zf T,Zf (.tup [s,.tup Rs]),Zf (bk B),(Zf (.tup (gR s Rs B))),Zf (D.tup [.str [113,117,97,114,114,101,108],T,.tup [s,.tup Rs],bk B]),a6,a7,a8] = .nx [Zl [.int n'],Zf T,Zf (.tup [s,.tup Rs]),Zf (bk B),(Zf (.tup (gR s Rs B))),Zf (D.tup [.str [113,117,97,114,114,101,108],T,.tup [s,.tup Rs],bk B]),a6,b7,a8]:=by
 have h0:=(HH h.ok h.bk h.few);obtain⟨d,n',hb,hp⟩:=apa (by unfold gR;rw[Qqz];exact h0.1) (aaQ h.ok h.bk) (by unfold gR;rw[Qqz];exact h0.2) n;have ht:=tell h hp;have hd:=due h.ok h.bk hp;refine⟨n',Zf d,?_⟩;have e1:tW rm 0 (aM 4) (aa (Zi 2) aj) [Zl [.int n],Zf T,Zf<|.tup [s,.tup Rs],Zf<|bk B,(Zf<|.tup<|gR s Rs B),Zf<|D.tup [.str [113,117,97,114,114,101,108],T,.tup [s,.tup Rs],bk B],a6,a7,a8] = .ok d [Zl [.int n'],Zf T,Zf<|.tup [s,.tup Rs],Zf<|bk B,(Zf<|.tup<|gR s Rs B),Zf<|D.tup [.str [113,117,97,114,114,101,108],T,.tup [s,.tup Rs],bk B],a6,a7,a8]:=Fb rfl rfl rfl rfl hb;unfold lQ;generalize D.tup [.str [113,117,97,114,114,101,108],T,.tup [s,.tup Rs],bk B]=CC at *;generalize D.tup [s,.tup Rs]=OO at *;generalize D.tup (gR s Rs B)=PP at *;generalize sh s Rs B d=S at *;generalize bk B=BB at *;clear h h0 hb
 ac_rfl
theorem aaW(n)(d)(hd:dR [T,d]=some (.bl false))(a6 a7:OD):lN [Zl [.int n],Zf T,Zf (.tup [s,.tup Rs]),Zf (bk B),(Zf (.tup (gR s Rs B))),Zf (D.tup [.str [113,117,97,114,114,101,108],T,.tup [s,.tup Rs],bk B]),a6,a7,Zf d] = .nx [Zl [.int n],Zf T,Zf (.tup [s,.tup Rs]),Zf (bk B),(Zf (.tup (gR s Rs B))),Zf (D.tup [.str [113,117,97,114,114,101,108],T,.tup [s,.tup Rs],bk B]),a6,a7,Zf d]:=by
 have ht:=ZL h (p:=.tup<|gR s Rs B) hd;unfold lN;generalize D.tup [.str [113,117,97,114,114,101,108],T,.tup [s,.tup Rs],bk B]=CC at *;generalize D.tup [s,.tup Rs]=OO at *;generalize D.tup (gR s Rs B)=PP at *;generalize bk B=BB at *;clear h hd
 ac_rfl
theorem right(n):∃n',pC [.lst [.int n],T,.tup [s,.tup Rs],bk B]=some (.bl true,.lst [.int n']):=by
 have hpl:pl (.tup<|gR s Rs B)=true:=Qw1.mpr λd hd=>by
  obtain⟨k,_,rfl⟩:=aaQ h.ok h.bk d hd
  rfl
 have hpp:=XM h.ok h.bk h.few;have ht:=tell h hpl;have hdu:=due h.ok h.bk hpl;obtain⟨e1,f1,n1,c6,c7,rfl⟩:=xE (g:=au 6) (b:=lQ) (λenv=>∃n a6 a7,env=[Zl [.int n],Zf T,Zf<|.tup [s,.tup Rs],Zf<|bk B,(Zf<|.tup<|gR s Rs B),Zf<|D.tup [.str [113,117,97,114,114,101,108],T,.tup [s,.tup Rs],bk B],a6,a7,Zn]) (fJ 0 1 5)
  (λt _ env ⟨n,a6,a7,he⟩=>by
   subst he;obtain⟨n',b7,hb⟩:=turn h n (Zf t) a7 none;exact⟨_,_,rfl,hb,n',_,_,rfl⟩)
  [Zl [.int n],Zf T,Zf<|.tup [s,.tup Rs],Zf<|bk B,(Zf<|.tup<|gR s Rs B),Zf<|D.tup [.str [113,117,97,114,114,101,108],T,.tup [s,.tup Rs],bk B],Zn,Zn,Zn] ⟨n,Zn,Zn,rfl⟩
 obtain⟨os,ho,hz,hos⟩:=aon h (Zl [.int n1]) c6 c7 none (Zf<|.tup<|gR s Rs B)<|Zf<|D.tup [.str [113,117,97,114,114,101,108],T,.tup [s,.tup Rs],bk B];obtain⟨e2,f2,c8,rfl⟩:=xE (g:=au 8) (b:=lN) (λenv=>∃a8,env=[Zl [.int n1],Zf T,Zf<|.tup [s,.tup Rs],Zf<|bk B,(Zf<|.tup<|gR s Rs B),Zf<|D.tup [.str [113,117,97,114,114,101,108],T,.tup [s,.tup Rs],bk B],c6,c7,a8]) os
  (λd hd env ⟨a8,he⟩=>by
   subst he;exact⟨_,_,rfl,aaW h n1 d (hos d hd) c6 c7,_,rfl⟩)
  [Zl [.int n1],Zf T,Zf<|.tup [s,.tup Rs],Zf<|bk B,(Zf<|.tup<|gR s Rs B),Zf<|D.tup [.str [113,117,97,114,114,101,108],T,.tup [s,.tup Rs],bk B],c6,c7,Zn] ⟨none,rfl⟩
 have t1:=ZM h (p:=.lst<|gR s Rs B) rfl rfl;have t2:=ZM h (p:=.non) rfl rfl;have hit:iD (dF ad7) [Zl [.int n1],Zf T,Zf<|.tup [s,.tup Rs],Zf<|bk B,(Zf<|.tup<|gR s Rs B),Zf<|D.tup [.str [113,117,97,114,114,101,108],T,.tup [s,.tup Rs],bk B],c6,c7,Zn] = .ok os [Zl [.int n1],Zf T,Zf<|.tup [s,.tup Rs],Zf<|bk B,(Zf<|.tup<|gR s Rs B),Zf<|D.tup [.str [113,117,97,114,114,101,108],T,.tup [s,.tup Rs],bk B],c6,c7,Zn]:=by
  have hz':os.length<=sizeLine:=Qqj hz (by decide);generalize D.tup [.str [113,117,97,114,114,101,108],T,.tup [s,.tup Rs],bk B]=CC at *;generalize D.tup [s,.tup Rs]=OO at *;generalize D.tup (gR s Rs B)=PP at *;generalize bk B=BB at *;generalize ad7=OE at *;clear h hos f1 f2
  ac_rfl
 have hl:qz [.tup (gR s Rs B)]=some (.lst<|gR s Rs B):=rfl;refine⟨n1,?_⟩;have hr:ug [Zl [.int n],Zf T,Zf<|.tup [s,.tup Rs],Zf<|bk B,Zn,Zn,Zn,Zn,Zn] = .rt false (.bl true) [Zl [.int n1],Zf T,Zf<|.tup [s,.tup Rs],Zf<|bk B,(Zf<|.tup<|gR s Rs B),Zf<|D.tup [.str [113,117,97,114,114,101,108],T,.tup [s,.tup Rs],bk B],c6,c7,c8]:=by
  unfold ug;refine(aL (e:=[Zl [.int n],Zf T,Zf<|.tup [s,.tup Rs],Zf<|bk B,(Zf<|.tup<|gR s Rs B),Zn,Zn,Zn,Zn]) ?_).trans ?_
  ·refine bY (d:=.tup<|gR s Rs B) (e:=[Zl [.int n],Zf T,Zf<|.tup [s,.tup Rs],Zf<|bk B,Zn,Zn,Zn,Zn,Zn]) (bz (ds:=[.tup [s,.tup Rs],bk B]) ?_ hpp) rfl
   rfl
  refine(aL (e:=[Zl [.int n],Zf T,Zf<|.tup [s,.tup Rs],Zf<|bk B,(Zf (.tup (gR s Rs B))),Zf (D.tup [.str [113,117,97,114,114,101,108],T,.tup [s,.tup Rs],bk B]),Zn,Zn,Zn]) (by rfl)).trans ?_;refine(aL (e:=[Zl [.int n],Zf T,Zf (.tup [s,.tup Rs]),Zf (bk B),(Zf (.tup (gR s Rs B))),Zf (D.tup [.str [113,117,97,114,114,101,108],T,.tup [s,.tup Rs],bk B]),Zn,Zn,Zn]) ((fK (e:=[Zl [.int n],Zf T,Zf (.tup [s,.tup Rs]),Zf (bk B),(Zf (.tup (gR s Rs B))),Zf (D.tup [.str [113,117,97,114,114,101,108],T,.tup [s,.tup Rs],bk B]),Zn,Zn,Zn]) ?_).trans rfl)).trans ?_
  ·have e1:az lq (Zv 2 (Zv 3 (Zv 4 aj))) [Zl [.int n],Zf T,Zf (.tup [s,.tup Rs]),Zf (bk B),(Zf (.tup (gR s Rs B))),Zf (D.tup [.str [113,117,97,114,114,101,108],T,.tup [s,.tup Rs],bk B]),Zn,Zn,Zn] = .ok (.bl (sh s Rs B (.tup (gR s Rs B)))) [Zl [.int n],Zf T,Zf (.tup [s,.tup Rs]),Zf (bk B),(Zf (.tup (gR s Rs B))),Zf (D.tup [.str [113,117,97,114,114,101,108],T,.tup [s,.tup Rs],bk B]),Zn,Zn,Zn]:=bz (ds:=[.tup [s,.tup Rs],bk B,.tup (gR s Rs B)]) (by rfl) hdu;exact JP (jw (bz (ds:=[D.tup [.str [113,117,97,114,114,101,108],T,.tup [s,.tup Rs],bk B],.tup (gR s Rs B),.bl (sh s Rs B (.tup (gR s Rs B)))]) (e:=[Zl [.int n],Zf T,Zf (.tup [s,.tup Rs]),Zf (bk B),(Zf (.tup (gR s Rs B))),Zf (D.tup [.str [113,117,97,114,114,101,108],T,.tup [s,.tup Rs],bk B]),Zn,Zn,Zn]) (aR (e1:=[Zl [.int n],Zf T,Zf (.tup [s,.tup Rs]),Zf (bk B),(Zf (.tup (gR s Rs B))),Zf (D.tup [.str [113,117,97,114,114,101,108],T,.tup [s,.tup Rs],bk B]),Zn,Zn,Zn]) (by rfl) (aR (e1:=[Zl [.int n],Zf T,Zf (.tup [s,.tup Rs]),Zf (bk B),(Zf (.tup (gR s Rs B))),Zf (D.tup [.str [113,117,97,114,114,101,108],T,.tup [s,.tup Rs],bk B]),Zn,Zn,Zn]) (by rfl) (aR e1 cu))) ht))
  refine(aL ((jl (by rfl)).trans f1)).trans ?_;refine(aL ((jl hit).trans f2)).trans ?_;refine cP ((ae4 (e:=[Zl [.int n1],Zf T,Zf (.tup [s,.tup Rs]),Zf (bk B),(Zf (.tup (gR s Rs B))),Zf (D.tup [.str [113,117,97,114,114,101,108],T,.tup [s,.tup Rs],bk B]),c6,c7,c8]) ?_).trans ?_)
  ·exact bz (aR rfl (aR (bz (aR rfl cu) hl) (aR rfl cu))) t1
  ·exact bz (aR rfl (aR rfl (aR rfl cu))) t2
 exact jB hr rfl
end
section
variable{x:List Nat}{s:D}{Rs:List D}(hx:x∈XS)(h:nY.Ok x s Rs)(h4:Rs.length<=4)
def PrG(x:List Nat)(p:nY.Pr):Prop:=(∀c∈p.1,c∈x)/\p.1.length<=7/\(∀c∈p.2,c∈x)/\p.2.length<=300
include hx h h4
theorem YB(n)(B)(hB:B.length<=100)(a5 a6 a7:OD):∃n' p b6 b7,mY [Zl [.int n],Zf (.tup [s,.tup Rs]),Zs x,Zl (B.map encP),(Zf (.lst (rows (perms Rs.length Rs.length)))),a5,a6,a7] = .nx [Zl [.int n'],Zf (.tup [s,.tup Rs]),Zs x,(Zl ((B++[p]).map encP)),(Zf (.lst (rows (perms Rs.length Rs.length)))),a5,b6,b7]/\PrG x p:=by
 obtain⟨w,n1,hw,w1,w2⟩:=Ni.word n x hx 5 (by decide);obtain⟨hp1,hp0⟩:=(show(perms Rs.length Rs.length).length<=256/\0<(perms Rs.length Rs.length).length from by
  refine⟨?_,List.length_pos_of_mem<|nY.Hx _⟩;generalize Rs.length=m at h4
  match m,h4 with
  | 0,_=>decide
  | 1,_=>decide
  | 2,_=>decide
  | 3,_=>decide
  | 4,_=>decide)
 obtain⟨j,n2,hj,ht⟩:=uY n1 (perms Rs.length Rs.length).length hp0 (by omega);obtain⟨q,n3,_,hq⟩:=uY n2 4 (by decide) (by decide);obtain⟨r1,_,r2⟩:=(d7 _ _ _).mp<|Qxq hj;have hl:=nY.Dv s Rs (perms Rs.length Rs.length)[j] r2 (by omega);rw[<-tM] at hl;have ok:=h.pick r2 (by omega);have hm:=nY.Du ok w1 (by omega);rw[<-tL] at hm;have hf:=nY.Es ok w1 (by omega);have hi:bZ (.lst<|rows<|perms Rs.length Rs.length) (.int (j:Int))=some (bL (perms Rs.length Rs.length)[j]):=by
  rw[QC,atN,Qw6,Qq6 hj]
  rfl
 have hlen:cY [.lst (rows<|perms Rs.length Rs.length)]=some (.int ((perms Rs.length Rs.length).length:Int)):=by rw[Uc,Qqz]
 generalize(perms Rs.length Rs.length)[j]=r at *;generalize fin s (pick Rs r) w=f at *;have hz:(B.map encP).length<sizeLine:=Qw0 (by rw[Qqz];exact hB) (by decide);have g1:dM mH 0 (Zv 2<|aa (Zi 5) aj) [Zl [.int n],Zf<|.tup [s,.tup Rs],Zs x,Zl<|B.map encP,(Zf<|.lst<|rows<|perms Rs.length Rs.length),a5,a6,a7] = .ok (.str w) [Zl [.int n1],Zf<|.tup [s,.tup Rs],Zs x,Zl<|B.map encP,(Zf<|.lst<|rows<|perms Rs.length Rs.length),a5,a6,a7]:=gm (e1:=[Zl [.int n],Zf<|.tup [s,.tup Rs],Zs x,Zl<|B.map encP,(Zf<|.lst<|rows<|perms Rs.length Rs.length),a5,a6,a7]) rfl rfl rfl hw;have g2:az gO (aa (az iC (Zv 1 (aa (ao bZ 4 (dM bf 0 (aa (az cY (aa (bh 4) aj)) aj))) aj))) (Zv 6 aj)) [Zl [.int n1],Zf (.tup [s,.tup Rs]),Zs x,Zl (B.map encP),(Zf (.lst (rows (perms Rs.length Rs.length)))),a5,Zs w,a7] = .ok (.str f) [Zl [.int n2],Zf (.tup [s,.tup Rs]),Zs x,Zl (B.map encP),(Zf (.lst (rows (perms Rs.length Rs.length)))),a5,Zs w,a7]:=by refine bz (ds:=[.tup [s,.tup (pick Rs r)],.str w]) (aR (e1:=[Zl [.int n2],Zf (.tup [s,.tup Rs]),Zs x,Zl (B.map encP),(Zf (.lst (rows (perms Rs.length Rs.length)))),a5,Zs w,a7]) (bz (ds:=[.tup [s,.tup Rs],bL r]) (aR (by rfl) (aR ?_ cu)) hl) (by rfl)) hm;refine bM (y:=.int (j:Int)) rfl ?_ rfl hi;exact gm (x:=.lst [.int n1]) (x0:=.lst [.int n1]) (ds:=[.int ((perms Rs.length Rs.length).length:Int)]) (e1:=[Zl [.int n1],Zf (.tup [s,.tup Rs]),Zs x,Zl (B.map encP),(Zf (.lst (rows (perms Rs.length Rs.length)))),a5,Zs w,a7]) (by rfl) (aR (bz (ds:=[.lst (rows (perms Rs.length Rs.length))]) (by rfl) hlen) cu) (by rfl) ht
 have g3:cX (aN gQ (dM bf 0 (aa (Zi 4) aj)) (Zi 0)) [Zl [.int n2],Zf (.tup [s,.tup Rs]),Zs x,Zl (B.map encP),(Zf (.lst (rows (perms Rs.length Rs.length)))),a5,Zs w,Zs f] = .ok ((q:Int) == 0) [Zl [.int n3],Zf (.tup [s,.tup Rs]),Zs x,Zl (B.map encP),(Zf (.lst (rows (perms Rs.length Rs.length)))),a5,Zs w,Zs f]:=
  jw (cD (Ev.V3 (x:=.lst [.int n2]) (ds:=[.int 4]) (e1:=[Zl [.int n2],Zf (.tup [s,.tup Rs]),Zs x,Zl (B.map encP),(Zf (.lst (rows (perms Rs.length Rs.length)))),a5,Zs w,Zs f]) rfl rfl rfl hq) rfl (xB _ _))
 have fin:∀m v,iH 3 (cI (Zv 6 (Zv 7 aj))) [Zl [.int m],Zf (.tup [s,.tup Rs]),Zs x,Zl (B.map encP),(Zf (.lst (rows (perms Rs.length Rs.length)))),a5,Zs w,Zs v] = .nx [Zl [.int m],Zf (.tup [s,.tup Rs]),Zs x,(Zl ((B++[(w,v)]).map encP)),(Zf (.lst (rows (perms Rs.length Rs.length)))),a5,Zs w,Zs v]:=λm v=>by
  rw[Qxk];exact(eQ (i:=3) (d:=encP (w,v)) (xs:=B.map encP) (x0:=B.map encP) (e:=[Zl [.int m],Zf (.tup [s,.tup Rs]),Zs x,Zl (B.map encP),(Zf (.lst (rows (perms Rs.length Rs.length)))),a5,Zs w,Zs v]) rfl (o5 (ds:=[.str w,.str v]) rfl Ev.zz2) rfl hz).trans rfl
 unfold mY;by_cases h0:q=0
 ·obtain⟨v,n4,hv,v1,v2⟩:=Ni.word n3 x hx 5 (by decide);have t:((q:Int) == 0)=true:=by rw[h0];rfl
  rw[t] at g3;refine⟨n4,(w,v),Zs w,Zs v,?_,w1,by show w.length<=7;omega,v1,by show v.length<=300;omega⟩;refine(aL (bY g1 rfl)).trans ((aL (bY g2 rfl)).trans ((aL (e:=[Zl [.int n4],Zf (.tup [s,.tup Rs]),Zs x,Zl (B.map encP),(Zf (.lst (rows (perms Rs.length Rs.length)))),a5,Zs w,Zs v]) ((iQ g3).trans (bY (d:=.str v) (e:=[Zl [.int n4],Zf (.tup [s,.tup Rs]),Zs x,Zl (B.map encP),(Zf (.lst (rows (perms Rs.length Rs.length)))),a5,Zs w,Zs f]) ?_ rfl))).trans (fin n4 v)));exact gm (e1:=[Zl [.int n3],Zf (.tup [s,.tup Rs]),Zs x,Zl (B.map encP),(Zf (.lst (rows (perms Rs.length Rs.length)))),a5,Zs w,Zs f]) rfl rfl rfl hv
 ·have t:((q:Int) == 0)=false:=Qxj.mpr (by omega);rw[t] at g3;refine⟨n3,(w,f),Zs w,Zs f,?_,w1,by show w.length<=7;omega,hf.1,hf.2⟩;exact(aL (bY g1 rfl)).trans ((aL (bY g2 rfl)).trans ((aL ((fK g3).trans rfl)).trans (fin n3 f)))
theorem abm(n):∃B n',o4 [.lst [.int n],.tup [s,.tup Rs],.str x]=some (bk B,.lst [.int n'])/\BkG x B:=by
 obtain⟨m,n1,hm,ht⟩:=uY n 6 (by decide) (by decide);have ho:=yN Rs.length (by omega);obtain⟨e',f1,n',B,a5,a6,a7,rfl,hl,hB⟩:=jR (g:=au 5) (b:=mY) (fJ 0 1<|1+m) (λdone env=>∃n B a5 a6 a7,env=[Zl [.int n],Zf<|.tup [s,.tup Rs],Zs x,Zl<|B.map encP,(Zf<|.lst<|rows<|perms Rs.length Rs.length),a5,a6,a7]/\B.length=done.length/\∀p∈B,PrG x p)
  (λdone d rest hall env ⟨n,B,a5,a6,a7,he,hb,hp⟩=>by
   subst he;have hdl:done.length<=6:=by have:=Qzx List.length hall;rw[iu,Qq1,Qqw] at this;omega
   obtain⟨n',p,b6,b7,h1,h2⟩:=YB hx h h4 n B (by omega) (Zf d) a6 a7;refine⟨_,_,rfl,h1,n',B++[p],_,_,_,rfl,by rw[Qq1,Qq1,hb];rfl,λq hq=>?_⟩;rcases Qw7.mp hq with hq|hq
   ·exact hp q hq
   ·cases Qq9.mp hq;exact h2)
  [Zl [.int n1],Zf<|.tup [s,.tup Rs],Zs x,Zl<|[],(Zf<|.lst<|rows<|perms Rs.length Rs.length),Zn,Zn,Zn] ⟨n1,[],Zn,Zn,Zn,rfl,rfl,λp hp=>by cases hp⟩
 rw[iu] at hl;refine⟨B,n',jB (env:=[Zl [.int n'],Zf<|.tup [s,.tup Rs],Zs x,Zl<|B.map encP,(Zf<|.lst<|rows<|perms Rs.length Rs.length),a5,a6,a7]) ?_ rfl,by omega,by omega,hB⟩;unfold Fv;refine(aL (e:=[Zl [.int n],Zf<|.tup [s,.tup Rs],Zs x,Zl [],Zn,Zn,Zn,Zn]) (by rfl)).trans ?_;refine(aL (e:=[Zl [.int n],Zf<|.tup [s,.tup Rs],Zs x,Zl<|[],(Zf<|.lst<|rows<|perms Rs.length Rs.length),Zn,Zn,Zn])<|bY (d:=.lst<|rows<|perms Rs.length Rs.length) (e:=[Zl [.int n],Zf<|.tup [s,.tup Rs],Zs x,Zl [],Zn,Zn,Zn,Zn]) (bz (ds:=[.int (Rs.length:Int)]) (by rfl) ho) (by rfl)).trans ?_;refine(aL<|(jl (e:=[Zl [.int n1],Zf<|.tup [s,.tup Rs],Zs x,Zl ([]),(Zf (.lst (rows (perms Rs.length Rs.length)))),Zn,Zn,Zn]) (ds:=fJ 0 1 (1+m)) ?_).trans f1).trans rfl;refine Ni.qD (ds:=[.int (1+(m:Int))]) ?_ ?_
 ·refine aR (cD (x:=.int 1) (y:=.int (m:Int)) rfl ?_ rfl) cu;exact Ev.V3 (x:=.lst [.int n]) (ds:=[.int 6]) (e1:=[Zl [.int n],Zf (.tup [s,.tup Rs]),Zs x,Zl ([]),(Zf (.lst (rows (perms Rs.length Rs.length)))),Zn,Zn,Zn]) rfl rfl rfl ht
 ·have:=Ni.Cz (j:=1+m) (by omega);rw[<-this]
  congr 3
end
end mR
end
namespace mR
open Ev PySem L2
open mj (Rows eQ)
open qi (XS sides)
open ye (jn cF fin)
open nY (perms pick encP bk)
theorem take2{α:Type}(xs:List α):cutD xs none (some 2)=xs.take 2:=by
 unfold cutD;rw[HT.aad,show(some 2)=some ((2:Nat):Int) from rfl,HT.Vd,List.drop_zero,Nat.sub_zero];rcases Nat.le_total 2 xs.length with h|h
 ·rw[Nat.min_eq_left h]
 ·rw[Nat.min_eq_right h,Qjq<|Qqv _,Qjq h]
theorem aoc(xs):T9 (.tup xs) none (some 2)=some (.tup (xs.take 2)):=by
 show(if HT.gP xs.length 0 none=0/\HT.gP xs.length xs.length (some (2:Nat))=xs.length then some (D.tup xs) else some (.tup<|cutD xs none<|some 2))=_;rw[take2,HT.Vd];split
 ·rename_i h;rw[Qjq (by omega)]
 ·rfl
theorem fine(hx:x∈XL)(hr:my (gW x) rs)(hs:s∈sides)(hR:∀R∈Rs,Gm x R)(h4:Rs.length<=4)(hB:BkG x B):anl x (.tup rs) s Rs B:=by have hT:=mj.sounds_of (rO x hx) hr.rows;rw[<-wN] at hT;exact⟨hx,hT,is_stock hx hr,hs,⟨rO x hx,hs,λR h=>(hR R h).ok,by omega⟩,is_order hT hs h4 hR,hB,h4⟩
def cut:bU:=aF (aX (JM (aM 3) mq (xG (Zi 2))) (au 3)) (aF (aX (JN (aM 4) mq (xG (Zi 2))) (au 4)) (aX (cI (aa (ao bZ 5 (Zi 0)) (aa (az dX (aa (Qf) aj)) aj))) (au 5)))
theorem ajH(A0 K0:OD)(p q)(hx:x∈XL):∃Qs q',cut [A0,K0,Zl [.int p],Zf (.tup rs),Zs x,Zf (.tup [s,.tup Rs]),Zl [.int q]] = .nx [A0,K0,Zl [.int p],(Zf (.tup (rs.take 2))),Zs (x.take 2),Zf (.tup [s,.tup Qs]),Zl [.int q']]/\(∀R∈Qs,Gm (x.take 2) R)/\Qs.length<=4:=by
 have hy:=Wn x hx;have s2:=take2 x;generalize x.take 2=y at *;obtain⟨Qs,env',g1,⟨q',v7,rfl⟩,g3,g4⟩:=Ni.Mi (g:=au 7) (e:=dM mJ 6<|Zv 4 aj) (λenv=>∃n v4,env=[A0,K0,Zl [.int p],(Zf<|.tup<|rs.take 2),Zs y,Zf<|.tup [s,.tup Rs],Zl [.int n],v4]) (Gm y) (fJ 0 1 4)
  [A0,K0,Zl [.int p],(Zf<|.tup<|rs.take 2),Zs y,Zf<|.tup [s,.tup Rs],Zl [.int q],Zn] ⟨_,_,rfl⟩
  (λt _ env ⟨n,v4,he⟩=>by
   subst he;obtain⟨wy,ch,l,r,n',h2,h3,h4⟩:=rule n y<|rO y hy;refine⟨.tup [wy,ch,l,r],_,[A0,K0,Zl [.int p],(Zf<|.tup<|rs.take 2),Zs y,Zf<|.tup [s,.tup Rs],Zl [.int n'],Zf t],rfl,?_,⟨_,_,rfl⟩,⟨_,_,_,_,rfl,h3⟩,λT hT=>is_rule hy hT h3 h4⟩;exact gm (e1:=[A0,K0,Zl [.int p],(Zf<|.tup<|rs.take 2),Zs y,Zf<|.tup [s,.tup Rs],Zl [.int n],Zf t]) (by rfl) (by rfl) (by rfl) h2)
 rw[iu] at g4;refine⟨Qs,q',?_,g3,by omega⟩;unfold cut;refine(aL (e:=[A0,K0,Zl [.int p],(Zf<|.tup<|rs.take 2),Zs x,Zf<|.tup [s,.tup Rs],Zl [.int q]]) ?_).trans ?_
 ·exact bY (d:=.tup<|rs.take 2) (e:=[A0,K0,Zl [.int p],Zf<|.tup rs,Zs x,Zf<|.tup [s,.tup Rs],Zl [.int q]]) (ye.ab3 (by rfl) (by rfl) (by rfl)<|aoc rs) (by rfl)
 refine(aL (e:=[A0,K0,Zl [.int p],(Zf<|.tup<|rs.take 2),Zs y,Zf<|.tup [s,.tup Rs],Zl [.int q]]) ?_).trans ?_
 ·refine bY (d:=.str y) (e:=[A0,K0,Zl [.int p],(Zf<|.tup<|rs.take 2),Zs x,Zf<|.tup [s,.tup Rs],Zl [.int q]]) ?_ (by rfl);show fG (some<|D.str<|cutD x none<|some 2) _=_;rw[s2]
  rfl
 refine bY (d:=.tup [s,.tup Qs]) (e:=[A0,K0,Zl [.int p],(Zf<|.tup<|rs.take 2),Zs y,Zf<|.tup [s,.tup Rs],Zl [.int q']]) (o5 (aR (d:=s) (by rfl)<|aR ?_ cu) Ev.zz2) (by rfl);refine bz (ds:=[.lst Qs]) (aR ?_ cu) rfl;exact uy (n:=8) (aG:=[A0,K0,Zl [.int p],(Zf (.tup (rs.take 2))),Zs y,Zf (.tup [s,.tup Rs]),Zl [.int q]]) (ds:=fJ 0 1 4) (by rfl) (by rfl) g1 (Qqj (show Qs.length<=4 by omega) (by decide))
theorem abn(ns)(hl:ns.length<=63)(hb:UW ns)(k)(h0:0<=k)(h1:k<=400)(a2 a3 a4 a5 a6:OD):∃b2 b3 b4 b5 b6,xf [(Zf (.arr (ns.map .int))),Zf (.int k),a2,a3,a4,a5,a6] = .nx [(Zf (.arr (ns.map .int))),Zf (.int k),b2,b3,b4,b5,b6]:=by
 obtain⟨p,hp⟩:=mj.pack ns hl hb k h0 (by omega);rw[<-Vm] at hp;obtain⟨x,rs,n,hx,hst,hr⟩:=stock p;obtain⟨s,Rs,n1,hor,hs,hRs,hRl⟩:=order n x hx 3 (by decide);obtain⟨q,hq⟩:=mj.pack ns hl hb (k+2) (by omega) (by omega);rw[<-Vm] at hq;obtain⟨j,q1,_,hj⟩:=uY q 8 (by decide) (by decide);have hsn:=mj.TV (rO x hx) hr.rows;rw[<-W3] at hsn;have end_:∀{x} {rs} {Rs} q1,x∈XL->my (gW x) rs->(∀R∈Rs,Gm x R)->Rs.length<=4->∃q2,cJ (cZ<|cX<|dM pC 6<|Zv 3<|Zv 5<|aa (dM o4 6<|Zv 5<|Zv 4 aj) aj) (aY<|j7<|.bl false) bJ [(Zf<|.arr<|ns.map .int),Zf<|.int k,Zl [.int n1],Zf<|.tup rs,Zs x,Zf<|.tup [s,.tup Rs],Zl [.int q1]] = .nx [(Zf<|.arr<|ns.map .int),Zf<|.int k,Zl [.int n1],Zf<|.tup rs,Zs x,Zf<|.tup [s,.tup Rs],Zl [.int q2]]:=λ{x rs Rs} q1 hx hr hR h4=>by
  obtain⟨B,q2,hbk,hB⟩:=abm (rO x hx) ⟨rO x hx,hs,λR h=>(hR R h).ok,by omega⟩ h4 q1;obtain⟨q3,hri⟩:=right (fine hx hr hs hR h4 hB) q2;refine⟨q3,?_⟩;generalize((Zf<|.arr<|ns.map .int):OD)=A0;have g1:dM o4 6 (Zv 5<|Zv 4 aj) [A0,Zf<|.int k,Zl [.int n1],Zf<|.tup rs,Zs x,Zf<|.tup [s,.tup Rs],Zl [.int q1]] = .ok (bk B) [A0,Zf<|.int k,Zl [.int n1],Zf<|.tup rs,Zs x,Zf<|.tup [s,.tup Rs],Zl [.int q2]]:=gm (x:=.lst [.int q1]) (x0:=.lst [.int q1]) (ds:=[.tup [s,.tup Rs],.str x]) (e1:=[A0,Zf<|.int k,Zl [.int n1],Zf<|.tup rs,Zs x,Zf<|.tup [s,.tup Rs],Zl [.int q1]]) (by rfl) (by rfl) (by rfl) hbk;refine(fK (e:=[A0,Zf<|.int k,Zl [.int n1],Zf<|.tup rs,Zs x,Zf<|.tup [s,.tup Rs],Zl [.int q3]])<|JP (b:=true)<|jw ?_).trans rfl;exact gm (x:=.lst [.int q2]) (x0:=.lst [.int q1]) (ds:=[.tup rs,.tup [s,.tup Rs],bk B]) (e1:=[A0,Zf<|.int k,Zl [.int n1],Zf<|.tup rs,Zs x,Zf<|.tup [s,.tup Rs],Zl [.int q2]]) (by rfl) (aR (by rfl)<|aR (by rfl)<|aR g1 cu) (by rfl) hri
 generalize hA:((Zf<|.arr<|ns.map .int):OD)=A0 at *;have g:cX (aN gQ (dM bf 6<|aa (Zi 8) aj)<|Zi 0) [A0,Zf<|.int k,Zl [.int n1],Zf<|.tup rs,Zs x,Zf<|.tup [s,.tup Rs],Zl [.int q]] = .ok ((j:Int) == 0) [A0,Zf<|.int k,Zl [.int n1],Zf<|.tup rs,Zs x,Zf<|.tup [s,.tup Rs],Zl [.int q1]]:=
  jw (cD (gm (x:=.lst [.int q]) (x0:=.lst [.int q]) (ds:=[.int 8]) (e1:=[A0,Zf<|.int k,Zl [.int n1],Zf<|.tup rs,Zs x,Zf<|.tup [s,.tup Rs],Zl [.int q]]) (by rfl) (by rfl) (by rfl) hj) (by rfl)<|xB _ _)
 have start:∀rest,aF (gr 2<|az jg<|Zv 0<|Zv 1 aj) (aF (aX (dM pB 2 aj)<|au 3)<|aF (aX (az je<|Zv 3 aj)<|au 4)<|aF (aX (dM pF 2<|Zv 4<|aa (Zi 3) aj)<|au 5)<|aF (gr 6<|az jg<|Zv 0<|aa (ao cA 1<|Zi 2) aj) rest) [A0,Zf<|.int k,a2,a3,a4,a5,a6]=rest [A0,Zf<|.int k,Zl [.int n1],Zf<|.tup rs,Zs x,Zf<|.tup [s,.tup Rs],Zl [.int q]]:=λrest=>by
  refine(aL (e:=[A0,Zf<|.int k,Zl [.int p],a3,a4,a5,a6]) ?_).trans ?_
  ·rw[<-hA];exact(BX<|bz (by rfl) hp).trans rfl
  refine(aL (e:=[A0,Zf<|.int k,Zl [.int n],Zf<|.tup rs,a4,a5,a6]) ?_).trans ?_
  ·exact bY (d:=.tup rs) (e:=[A0,Zf<|.int k,Zl [.int n],a3,a4,a5,a6]) (gm (x:=.lst [.int p]) (x0:=.lst [.int p]) (ds:=[]) (e1:=[A0,Zf (.int k),Zl [.int p],a3,a4,a5,a6]) (by rfl) (by rfl) (by rfl) hst) (by rfl)
  refine(aL (e:=[A0,Zf (.int k),Zl [.int n],Zf (.tup rs),Zs x,a5,a6]) ?_).trans ?_
  ·exact bY (bz (ds:=[.tup rs]) (by rfl) hsn) (by rfl)
  refine(aL (e:=[A0,Zf (.int k),Zl [.int n1],Zf (.tup rs),Zs x,Zf (.tup [s,.tup Rs]),a6]) ?_).trans ?_
  ·exact bY (gm (by rfl) (by rfl) (by rfl) hor) (by rfl)
  refine(aL (e:=[A0,Zf (.int k),Zl [.int n1],Zf (.tup rs),Zs x,Zf (.tup [s,.tup Rs]),Zl [.int q]]) ?_).trans rfl;rw[<-hA];exact(BX (bz (by rfl) hq)).trans rfl
 unfold xf;by_cases hz:j=0
 ·rw[show((j:Int) == 0)=true by rw[hz];rfl] at g;obtain⟨Qs,q2,hc,hQ,hQl⟩:=ajH A0 (Zf (.int k)) n1 q1 (rs:=rs) (s:=s) (Rs:=Rs) hx;have hr2:my (gW (x.take 2)) (rs.take 2):=by
   have:=hr.take 2
   rwa [show(gW x).take 2=gW (x.take 2) from(List.map_take ..).symm] at this
  obtain⟨q3,he⟩:=end_ q2 (Wn x hx) hr2 hQ hQl;refine⟨_,_,_,_,_,(start _).trans ((aL ((iQ g).trans hc)).trans he)⟩
 ·rw[show((j:Int) == 0)=false from Qxj.mpr (by omega)] at g;obtain⟨q3,he⟩:=end_ q1 hx hr hRs (by omega);exact⟨_,_,_,_,_,(start _).trans ((aL ((fK g).trans rfl)).trans he)⟩
theorem ZK(ns:List Int)(hl:ns.length<=63)(hb:UW ns):V2 [.arr (ns.map .int)]=some (.bl true):=by
 have hlen:az cY (aa (bh 0) aj) [(Zf (D.arr (ns.map .int))),Zn,Zn,Zn,Zn,Zn,Zn] = .ok (.int (ns.length:Int)) [(Zf (D.arr (ns.map .int))),Zn,Zn,Zn,Zn,Zn,Zn]:=by
  show R.ok (D.int ((ns.map D.int).length:Int)) _=_
  simp_all
 obtain⟨ds,hds,hk⟩:∃ds,fc (aa (Zi 0) (aa (az Yi (aa (Zi 1) (aa (az Yh (aa (az cY (aa (bh 0) aj)) (aa (Zi 36) aj))) aj))) (aa (Zi 6) aj))) [(Zf (D.arr (ns.map .int))),Zn,Zn,Zn,Zn,Zn,Zn] = .ok ds [(Zf (D.arr (ns.map .int))),Zn,Zn,Zn,Zn,Zn,Zn]/\∀d∈ds,∃k:Int,d = .int k/\0<=k/\k<=400:=by
  generalize hE:([(Zf (D.arr (ns.map .int))),Zn,Zn,Zn,Zn,Zn,Zn]:Ev.Env)=env at hlen ⊢;have a1:aa (Zi 0) (aa (az Yi (aa (Zi 1) (aa (az Yh (aa (az cY (aa (bh 0) aj)) (aa (Zi 36) aj))) aj))) (aa (Zi 6) aj)) env = .ok [.int 0,.int (if (if (36:Int)<ns.length then 36 else (ns.length:Int)) > 1 then (if (36:Int)<ns.length then 36 else (ns.length:Int)) else 1),.int 6] env:=
   aR (by rfl) (aR (bz (aR (by rfl) (aR (bz (aR hlen (by rfl)) (by rfl)) cu)) (by rfl)) (by rfl))
  generalize hm:(if (if (36:Int)<ns.length then 36 else (ns.length:Int)) > 1 then (if (36:Int)<ns.length then 36 else (ns.length:Int)) else 1)=m at a1;have hm1:1<=m/\m<=36:=by omega
  obtain⟨j,rfl⟩:∃j:Nat,m=(j:Int):=⟨m.toNat,by omega⟩;have hsm:(6:Int)≠0/\(6:Int).natAbs<1073741824/\Builtin.Range.small 0 (j:Int) 6=true:=by
   refine⟨by decide,by decide,?_⟩;have hall:((List.range 51).all λj=>Builtin.Range.small 0 (j:Int) 6)=true:=by rfl
   grind
  have hsz:(Builtin.Range.rangeSize 0 (j:Int) 6).toNat<=20:=by
   have hall:((List.range 51).all λj=>decide ((Builtin.Range.rangeSize 0 (j:Int) 6).toNat<=20))=true:=by rfl
   grind
  refine⟨fJ 0 6 (Builtin.Range.rangeSize 0 (j:Int) 6).toNat,Ni.qD a1 (ye.akT hsm),λd hd=>?_⟩;unfold fJ at hd
  grind
 obtain⟨e',f1,b1,b2,b3,b4,b5,b6,rfl⟩:=xE (g:=au 1) (b:=xf) (λenv=>∃b1 b2 b3 b4 b5 b6,env=[(Zf (.arr (ns.map .int))),b1,b2,b3,b4,b5,b6]) ds
  (λd hd env ⟨b1,b2,b3,b4,b5,b6,he⟩=>by
   subst he;obtain⟨k,rfl,h0,h1⟩:=hk d hd;obtain⟨c2,c3,c4,c5,c6,hb⟩:=abn ns hl hb k h0 h1 b2 b3 b4 b5 b6;exact⟨_,_,rfl,hb,_,_,_,_,_,_,rfl⟩)
  [(Zf (.arr (ns.map .int))),Zn,Zn,Zn,Zn,Zn,Zn] ⟨_,_,_,_,_,_,rfl⟩
 refine fD (env:=[(Zf (.arr (ns.map .int))),b1,b2,b3,b4,b5,b6]) ?_;unfold agj;refine(aL ?_).trans rfl;exact(jl hds).trans f1
open PySem PySem.Spec PyProof.Rows L2 Ev
theorem all_mk{P:Program}{w:World}{K:Fg}{h:Heap}{mg:Str->Option Value}{fa:Addr}(X:K.In h)(G:h.Ns mainGlobals mg)(hfa:mg "law" = some (.ref fa))
  {agE:Tok} {WW:Tok} {BW:Tok} {Kz:Tok} {Ky:Tok} {Kw:Tok} {GC:Tok} {Qv:Addr} {abS:Nat} {Yd:Array (Option Value)} {Yc Yb:Tok} {VH:Addr} {aeD:Nat} {abR:Array (Option Value)} {abQ abP:Tok} {xA:Addr} {Qt:Nat} {JC Jz Jx Jv Jt Jr Jp Jm Jk Ji Eh Ef Ec Ea:Tok} {Jg Je Jc Ja IV Iw Iu Ip Im Ik DX DR DP v8:Value} {T5:Nat} {Qn:Array (Option Value)} {DK:Addr} {xn xm:Tok} {xx:Addr} {Qq:Nat} {JB Jy Jw Ju Js Jq Jo Jl Jj Jh Eg Ed Eb DY:Tok} {Jf Jd Jb IW IK Iv Ir Io Il Ij DW DQ DN vZ:Value}
  (afH:PySem.W.nsIn K mainGlobals "all" = some none) (Zg:PySem.W.nsIn K mainGlobals "bool" = some none) (Ze:PySem.W.nsIn K mainGlobals "dict" = some none) (Nk:PySem.W.nsIn K mainGlobals "divmod" = some none) (zH:PySem.W.nsIn K mainGlobals "enumerate" = some none) (afG:PySem.W.nsIn K mainGlobals "int" = some none) (wu:PySem.W.nsIn K mainGlobals "isinstance" = some none) (afF:PySem.W.nsIn K mainGlobals "len" = some none) (Zd:PySem.W.nsIn K mainGlobals "list" = some none) (afE:PySem.W.nsIn K mainGlobals "max" = some none) (afD:PySem.W.nsIn K mainGlobals "min" = some none) (U4:PySem.W.nsIn K mainGlobals "range" = some none) (Nj:PySem.W.nsIn K mainGlobals "sorted" = some none) (afC:PySem.W.nsIn K mainGlobals "str" = some none) (U3:PySem.W.nsIn K mainGlobals "tuple" = some none) (afB:PySem.W.nsIn K mainGlobals "zip" = some none) (m6:∀d:D,PySem.W.kitOne K (.type (Ws d)) (.type "bool")=some (eF d "bool")) (qW:∀d:D,PySem.W.kitOne K (.type (Ws d)) (.type "int")=some (eF d "int")) (ph:∀d:D,PySem.W.kitOne K (.type (Ws d)) (.type "str")=some (eF d "str")) (dO:∀d:D,PySem.W.kitOne K (.type (Ws d)) (.type "tuple")=some (eF d "tuple")) (T8:PySem.W.nsIn K mainGlobals "EDGE" = some (some (.str "#" agE))) (zf:PySem.W.nsIn K mainGlobals "LETTERS" = some (some (.str "abcdefghijklmnopqrstuvwxyz" WW))) (oZ:PySem.W.nsIn K mainGlobals "MOST_LETTERS" = some (some (.int 8 BW))) (qZ:PySem.W.nsIn K mainGlobals "MOST_MARKS" = some (some (.int 4 Kz))) (qY:PySem.W.nsIn K mainGlobals "MOST_PAIRS" = some (some (.int 6 Ky))) (qX:PySem.W.nsIn K mainGlobals "MOST_RULES" = some (some (.int 4 Kw))) (pZ:PySem.W.nsIn K mainGlobals "MOST_SOUNDS" = some (some (.int 4 GC))) (Mp:PySem.W.nsIn K mainGlobals "SIDES" = some (some (.ref Qv))) (il:K.lookup Qv=some ⟨.type "tuple",none,.seq #[.str "left" Yc,.str "right" Yb] abS,Yd⟩) (T7:PySem.W.nsIn K mainGlobals "WAYS" = some (some (.ref VH))) (ou:K.lookup VH=some ⟨.type "tuple",none,.seq #[.str "once" abQ,.str "along" abP] aeD,abR⟩) (Mr:PySem.W.nsIn K mainGlobals "PARTS" = some (some (.ref xA))) (Ej:(xA == sysModules)=false) (qy:K.lookup xA=some ⟨.type "dict",none,.dict #[⟨PyData.keyHash w.params (strOf [109,97,107,101,115]),.str (strOf [109,97,107,101,115]) JC,Jg⟩,⟨PyData.keyHash w.params (strOf [109,97,99,104,105,110,101]),.str (strOf [109,97,99,104,105,110,101]) Jz,Je⟩,⟨PyData.keyHash w.params (strOf [97,108,105,107,101]),.str (strOf [97,108,105,107,101]) Jx,Jc⟩,⟨PyData.keyHash w.params (strOf [112,97,114,116,101,100]),.str (strOf [112,97,114,116,101,100]) Jv,Ja⟩,⟨PyData.keyHash w.params (strOf [110,111,32,115,111,117,114,99,101]),.str (strOf [110,111,32,115,111,117,114,99,101]) Jt,IV⟩,⟨PyData.keyHash w.params (strOf [101,110,100,108,101,115,115]),.str (strOf [101,110,100,108,101,115,115]) Jr,Iw⟩,⟨PyData.keyHash w.params (strOf [110,111,32,99,111,109,109,111,110]),.str (strOf [110,111,32,99,111,109,109,111,110]) Jp,Iu⟩,⟨PyData.keyHash w.params (strOf [97,99,116,115]),.str (strOf [97,99,116,115]) Jm,Ip⟩,⟨PyData.keyHash w.params (strOf [110,101,118,101,114]),.str (strOf [110,101,118,101,114]) Jk,Im⟩,⟨PyData.keyHash w.params (strOf [109,97,107,101,115,32,119,97,121]),.str (strOf [109,97,107,101,115,32,119,97,121]) Ji,Ik⟩,⟨PyData.keyHash w.params (strOf [116,97,107,101,115]),.str (strOf [116,97,107,101,115]) Eh,DX⟩,⟨PyData.keyHash w.params (strOf [110,111,32,119,97,121]),.str (strOf [110,111,32,119,97,121]) Ef,DR⟩,⟨PyData.keyHash w.params (strOf [110,111,32,116,97,107,105,110,103]),.str (strOf [110,111,32,116,97,107,105,110,103]) Ec,DP⟩,⟨PyData.keyHash w.params (strOf [113,117,97,114,114,101,108]),.str (strOf [113,117,97,114,114,101,108]) Ea,v8⟩] Qt, #[]⟩) (vX:v8 = .ref DK) (vW:K.lookup DK=some ⟨.type "tuple",none,.seq #[.str (strOf [111,114,100,101,114]) xn,.str (strOf [98,111,111,107]) xm] T5,Qn⟩) (Mq:PySem.W.nsIn K mainGlobals "SHOWN" = some (some (.ref xx))) (Ei:(xx == sysModules)=false) (tO:K.lookup xx=some ⟨.type "dict",none,.dict #[⟨PyData.keyHash w.params (strOf [109,97,107,101,115]),.str (strOf [109,97,107,101,115]) JB,Jf⟩,⟨PyData.keyHash w.params (strOf [109,97,99,104,105,110,101]),.str (strOf [109,97,99,104,105,110,101]) Jy,Jd⟩,⟨PyData.keyHash w.params (strOf [97,108,105,107,101]),.str (strOf [97,108,105,107,101]) Jw,Jb⟩,⟨PyData.keyHash w.params (strOf [112,97,114,116,101,100]),.str (strOf [112,97,114,116,101,100]) Ju,IW⟩,⟨PyData.keyHash w.params (strOf [110,111,32,115,111,117,114,99,101]),.str (strOf [110,111,32,115,111,117,114,99,101]) Js,IK⟩,⟨PyData.keyHash w.params (strOf [101,110,100,108,101,115,115]),.str (strOf [101,110,100,108,101,115,115]) Jq,Iv⟩,⟨PyData.keyHash w.params (strOf [110,111,32,99,111,109,109,111,110]),.str (strOf [110,111,32,99,111,109,109,111,110]) Jo,Ir⟩,⟨PyData.keyHash w.params (strOf [97,99,116,115]),.str (strOf [97,99,116,115]) Jl,Io⟩,⟨PyData.keyHash w.params (strOf [110,101,118,101,114]),.str (strOf [110,101,118,101,114]) Jj,Il⟩,⟨PyData.keyHash w.params (strOf [109,97,107,101,115,32,119,97,121]),.str (strOf [109,97,107,101,115,32,119,97,121]) Jh,Ij⟩,⟨PyData.keyHash w.params (strOf [116,97,107,101,115]),.str (strOf [116,97,107,101,115]) Eg,DW⟩,⟨PyData.keyHash w.params (strOf [110,111,32,119,97,121]),.str (strOf [110,111,32,119,97,121]) Ed,DQ⟩,⟨PyData.keyHash w.params (strOf [110,111,32,116,97,107,105,110,103]),.str (strOf [110,111,32,116,97,107,105,110,103]) Eb,DN⟩,⟨PyData.keyHash w.params (strOf [113,117,97,114,114,101,108]),.str (strOf [113,117,97,114,114,101,108]) DY,vZ⟩] Qq, #[]⟩) (vY:PySem.W.nsIn K mainGlobals "quarrel_shown" = some (some vZ)) (Ka:FA K "is_name" yF) (Gh:FA K "is_sound" vL) (Wl:FA K "rises" Ld) (J9:FA K "is_pair" yE) (Aq:FA K "are_marks" sV) (pL:FA K "is_marked_sound" lD) (Ae:FA K "sounds_of" rZ) (Gf:FA K "is_stock" vJ) (J5:FA K "is_word" yx) (rN:FA K "changes_sound" nG) (uR:FA K "puts_one_in" pN) (uW:FA K "are_changes" pR) (An:FA K "are_signs" sS) (J7:FA K "is_rule" yC) (Gi:FA K "is_order" vM) (acx:FA K "fits" S6) (Rg:FA K "turned" Cw) (J1:FA K "puts_in" yt) (uQ:FA K "with_put_in" pM) (uh:FA K "with_changes" oM) (Am:FA K "from_left" sO) (Kd:FA K "changed" yH) (acv:FA K "walk" SQ) (acw:FA K "made" S5) (Ge:FA K "is_whole" vI) (pK:FA K "is_number_below" lC) (Rh:FA K "is_row" Cy) (J6:FA K "is_step" yz) (Gg:FA K "is_state" vK) (xX:FA K "is_machine" qN) (um:FA K "is_told_pair" oO) (Kc:FA K "is_book" yG) (J8:FA K "is_part" yD) (Ao:FA K "are_parts" sU) (J3:FA K "layings" yu) (kh:FA K "quarrel_shown" nA) (Wm:FA K "holds" Le) (Al:FA K "_law_mixed" sJ) (FT:FA K "_law_pack" vB) (FP:FA K "_law_take" vq) (Af:FA K "_law_stock" sr) (xV:FA K "_law_sounds" qL) (Ag:FA K "_law_signs" su) (uT:FA K "_law_changes" pO) (FQ:FA K "_law_rule" vA) (Ak:FA K "_law_order" sI) (Fz:FA K "_law_word" vm) (Ga:FA K "_law_fits" vG) (xW:FA K "_law_put_in" qM) (uU:FA K "_law_changed" pP) (xU:FA K "_law_turned" qK) (uV:FA K "_law_by_side" pQ) (FJ:FA K "_law_walk" vo) (FW:FA K "_law_made" vC) (Aj:FA K "_law_other" sH) (Gd:FA K "_law_bent" oN) (FN:FA K "_law_told" vp) (rM:FA K "_law_orderings" nD) (FZ:FA K "_law_laid" vD) (J4:FA K "_law_due" yw) (Ai:FA K "_law_paper" sG) (Gb:FA K "_law_book" vH) (Ah:FA K "_law_right" sE) (agl:FA K "law" aab) :
  ∃fd:FuncData,(∀(s:Shared) (v:Value),BindsTo s fd ⟨[v],[]⟩ [("_law_script",v)])/\∀base:Heap,K.In base->base.Ns mainGlobals mg->oE P w K mg base Gs 11 fa fd ["_law_script"] (jV K 1 V2):=
 agl.law X G hfa (λs v=>.of_eq rfl) λbase F=>aju ⟨uD X G afH,
  uD X G Zg,
  uD X G Ze,
  uD X G Nk,
  uD X G zH,
  uD X G afG,
  uD X G wu,
  uD X G afF,
  uD X G Zd,
  uD X G afE,
  uD X G afD,
  uD X G U4,
  uD X G Nj,
  uD X G afC,
  uD X G U3,
  uD X G afB,
  m6,
  qW,
  ph,
  dO,
  VG X G T8 (by decide +kernel) (by decide),
  VG X G zf (by decide +kernel) (by decide),
  xr X G oZ,
  xr X G qZ,
  xr X G qY,
  xr X G qX,
  xr X G pZ,
  Qu X G Mp il (.str (by decide +kernel) (by decide)) (.str (by decide +kernel) (by decide)),
  Qu X G T7 ou (.str (by decide +kernel) (by decide)) (.str (by decide +kernel) (by decide)),
  ⟨xA,_,Qt,Qj1 X G Mr,Ej,qy,⟨JC,Jg,_,rfl,(λ_ h=>nomatch h),⟨Jz,Je,_,rfl,(λ_ h=>nomatch h),⟨Jx,Jc,_,rfl,(λ_ h=>nomatch h),⟨Jv,Ja,_,rfl,(λ_ h=>nomatch h),⟨Jt,IV,_,rfl,(λ_ h=>nomatch h),⟨Jr,Iw,_,rfl,(λ_ h=>nomatch h),⟨Jp,Iu,_,rfl,(λ_ h=>nomatch h),⟨Jm,Ip,_,rfl,(λ_ h=>nomatch h),⟨Jk,Im,_,rfl,(λ_ h=>nomatch h),⟨Ji,Ik,_,rfl,(λ_ h=>nomatch h),⟨Eh,DX,_,rfl,(λ_ h=>nomatch h),⟨Ef,DR,_,rfl,(λ_ h=>nomatch h),⟨Ec,DP,_,rfl,(λ_ h=>nomatch h),⟨Ea,v8,_,rfl,(λ_ h=>by cases h;subst vX;exact ZJ (zs:=[[111,114,100,101,114],[98,111,111,107]]) (ts:=[xn,xm]) vW rfl rfl (by decide)),rfl⟩⟩⟩⟩⟩⟩⟩⟩⟩⟩⟩⟩⟩⟩,by decide +kernel⟩,
  ⟨xx,_,Qq,Qj1 X G Mq,Ei,tO,⟨JB,Jf,_,rfl,(λ_ h=>nomatch h),⟨Jy,Jd,_,rfl,(λ_ h=>nomatch h),⟨Jw,Jb,_,rfl,(λ_ h=>nomatch h),⟨Ju,IW,_,rfl,(λ_ h=>nomatch h),⟨Js,IK,_,rfl,(λ_ h=>nomatch h),⟨Jq,Iv,_,rfl,(λ_ h=>nomatch h),⟨Jo,Ir,_,rfl,(λ_ h=>nomatch h),⟨Jl,Io,_,rfl,(λ_ h=>nomatch h),⟨Jj,Il,_,rfl,(λ_ h=>nomatch h),⟨Jh,Ij,_,rfl,(λ_ h=>nomatch h),⟨Eg,DW,_,rfl,(λ_ h=>nomatch h),⟨Ed,DQ,_,rfl,(λ_ h=>nomatch h),⟨Eb,DN,_,rfl,(λ_ h=>nomatch h),⟨DY,vZ,_,rfl,(λ_ h=>by cases h;exact kh.valAt vY),rfl⟩⟩⟩⟩⟩⟩⟩⟩⟩⟩⟩⟩⟩⟩,by decide +kernel⟩,
  kh.val X G,
  Ka.a1 X G,
  Gh.a1 X G,
  Wl.a1 X G,
  J9.a1 X G,
  Aq.a1 X G,
  pL.a1 X G,
  Ae.a1 X G,
  Gf.a1 X G,
  J5.a2 X G,
  rN.a2 X G,
  uR.a2 X G,
  uW.a2 X G,
  An.a2 X G,
  J7.a2 X G,
  Gi.a2 X G,
  acx.a2 X G,
  Rg.a1 X G,
  J1.a1 X G,
  uQ.a2 X G,
  uh.a2 X G,
  Am.a2 X G,
  Kd.a3 X G,
  acv.a2 X G,
  acw.a2 X G,
  Ge.a1 X G,
  pK.a2 X G,
  Rh.a2 X G,
  J6.a3 X G,
  Gg.a3 X G,
  xX.a2 X G,
  um.a2 X G,
  Kc.a2 X G,
  J8.a3 X G,
  Ao.a3 X G,
  J3.a1 X G,
  kh.a3 X G,
  Wm.a2 X G,
  Al.a1 X G,
  FT.a2 X G,
  FP.a2 X G,
  Af.a1 X G,
  xV.a1 X G,
  Ag.a2 X G,
  uT.a2 X G,
  FQ.a2 X G,
  Ak.a3 X G,
  Fz.a3 X G,
  Ga.a2 X G,
  xW.a2 X G,
  uU.a2 X G,
  xU.a1 X G,
  uV.a3 X G,
  FJ.a2 X G,
  FW.a2 X G,
  Aj.a2 X G,
  Gd.a3 X G,
  FN.a3 X G,
  rM.a1 X G,
  FZ.a2 X G,
  J4.a3 X G,
  Ai.a2 X G,
  Gb.a3 X G,
  Ah.a4 X G⟩ F
end mR
theorem PySem.W.Fast.tw11843464596934021322:True:=trivial
theorem PySem.W.Fast.tw4739824932151877581:True:=trivial
theorem PySem.W.Fast.tw5010847955752254285:True:=trivial
theorem PySem.W.Fast.tw15725143781396947479:True:=trivial
theorem PySem.W.Fast.tw4289574363963808904:True:=trivial
theorem PySem.W.Fast.tw12033530643403961918:True:=trivial
theorem PySem.W.Fast.tw7491918978003078017:True:=trivial
theorem PySem.W.Fast.tw15023224127931922539:True:=trivial
theorem PySem.W.Fast.tw1481979265923057081:True:=trivial
theorem PySem.W.Fast.tw4776895076956152892:True:=trivial
theorem PySem.W.Fast.tw14709485808505649969:True:=trivial
theorem PySem.W.Fast.tw16537761252672318807:True:=trivial
theorem PySem.W.Fast.tw5730263404932731486:True:=trivial
theorem PySem.W.Fast.tw15775319920854592241:True:=trivial
theorem PySem.W.Fast.tw9437484523045241968:True:=trivial
theorem PySem.W.Fast.tw11873058814496928806:True:=trivial
theorem PySem.W.Fast.tw1510538436973931650:True:=trivial
theorem PySem.W.Fast.tw115819352468461007:True:=trivial
theorem PySem.W.Fast.tw15072282031675047568:True:=trivial
theorem PySem.W.Fast.tw5305425728894348749:True:=trivial
theorem PySem.W.Fast.tw11436641683369743992:True:=trivial
theorem PySem.W.Fast.tw15516781267732790672:True:=trivial
theorem PySem.W.Fast.tw15010469097053099941:True:=trivial
theorem PySem.W.Fast.tw1828911034380744620:True:=trivial
theorem PySem.W.Fast.tw3328165224858800568:True:=trivial
theorem PySem.W.Fast.tw4542023391419559209:True:=trivial
theorem PySem.W.Fast.tw18185297948188070014:True:=trivial
theorem PySem.W.Fast.tw2055421734866817740:True:=trivial
theorem PySem.W.Fast.tw6522737031686078040:True:=trivial
theorem PySem.W.Fast.tw2242931975848993831:True:=trivial
theorem PySem.W.Fast.tw12506187277892381283:True:=trivial
theorem PySem.W.Fast.tw5356109675930078092:True:=trivial
theorem PySem.W.Fast.tw9577166639150024744:True:=trivial
theorem PySem.W.Fast.tw13702600755077019699:True:=trivial
theorem PySem.W.Fast.tw4991526804431585740:True:=trivial
theorem PySem.W.Fast.tw668144535401476875:True:=trivial
theorem PySem.W.Fast.tw4626053644309482622:True:=trivial
theorem PySem.W.Fast.tw3034342131200272418:True:=trivial
theorem PySem.W.Fast.tw2812958533760698833:True:=trivial
theorem PySem.W.Fast.tw6940562658508418217:True:=trivial
theorem PySem.W.Fast.tw15541126234219582571:True:=trivial
theorem PySem.W.Fast.tw12136449480980025655:True:=trivial
theorem PySem.W.Fast.tw13352996871507604150:True:=trivial
theorem PySem.W.Fast.tw4564158870843341312:True:=trivial
theorem PySem.W.Fast.tw11914466381279042195:True:=trivial
theorem PySem.W.Fast.tw8966615090939098394:True:=trivial
theorem PySem.W.Fast.tw5983684364977917089:True:=trivial
theorem PySem.W.Fast.tw4848674062749690019:True:=trivial
theorem PySem.W.Fast.tw18387434194104652797:True:=trivial
theorem PySem.W.Fast.tw1431338912985311137:True:=trivial
theorem PySem.W.Fast.tw17100934951364543244:True:=trivial
theorem PySem.W.Fast.tw10228535027710187260:True:=trivial
theorem PySem.W.Fast.tw14961100063586538057:True:=trivial
theorem PySem.W.Fast.tw17319505945323458336:True:=trivial
theorem PySem.W.Fast.tw14268601254870726752:True:=trivial
theorem PySem.W.Fast.tw18328392239932160440:True:=trivial
theorem PySem.W.Fast.tw4758221286248055890:True:=trivial
theorem PySem.W.Fast.tw5277328990459880685:True:=trivial
theorem PySem.W.Fast.tw3933523200063379021:True:=trivial
theorem PySem.W.Fast.tw116701763675026527:True:=trivial
theorem PySem.W.Fast.tw5576942994192557412:True:=trivial
theorem PySem.W.Fast.tw8867752577432828123:True:=trivial
theorem PySem.W.Fast.tw10253914288086579145:True:=trivial
theorem PySem.W.Fast.tw16538091994140673076:True:=trivial
theorem PySem.W.Fast.tw11675715090253495889:True:=trivial
theorem PySem.W.Fast.tw1061540151248501235:True:=trivial
theorem PySem.W.Fast.tw15789881317628487957:True:=trivial
theorem PySem.W.Fast.tw8116295885546249327:True:=trivial
theorem PySem.W.Fast.tw9342177603107466792:True:=trivial
theorem PySem.W.Fast.tw9214447782970256285:True:=trivial
theorem PySem.W.Fast.tw6399670760399174685:True:=trivial
theorem PySem.W.Fast.tw6810355214928438910:True:=trivial
theorem PySem.W.Fast.tw11009376163790103850:True:=trivial
theorem PySem.W.Fast.tw912089381363496958:True:=trivial
theorem PySem.W.Fast.tw6119288328513961704:True:=trivial
theorem PySem.W.Fast.tw9881236966250122816:True:=trivial
theorem PySem.W.Fast.tw2800852742660919003:True:=trivial
theorem PySem.W.Fast.tw14289855267965684086:True:=trivial
theorem PySem.W.Fast.tw15934009990404520769:True:=trivial
theorem PySem.W.Fast.tw16438622554383516992:True:=trivial
theorem PySem.W.Fast.tw7600598993512043836:True:=trivial
theorem PySem.W.Fast.tw11783004109260410858:True:=trivial
theorem PySem.W.Fast.tw7120970939844240167:True:=trivial
theorem PySem.W.Fast.tw15534367052580105226:True:=trivial
theorem PySem.W.Fast.tw6098725399001837624:True:=trivial
theorem PySem.W.Fast.tw17866137795051824112:True:=trivial
theorem PySem.W.Fast.tw17383418411998874898:True:=trivial
theorem PySem.W.Fast.tw10801409855939455498:True:=trivial
theorem PySem.W.Fast.tw10925542551646677051:True:=trivial
theorem PySem.W.Fast.tw20582582489517208:True:=trivial
theorem PySem.W.Fast.tw4120290306070783776:True:=trivial
theorem PySem.W.Fast.tw15407832701393359177:True:=trivial
theorem PySem.W.Fast.tw10353479125066170062:True:=trivial
theorem PySem.W.Fast.tw12874401412983990514:True:=trivial
theorem PySem.W.Fast.tw650013709734291712:True:=trivial
theorem PySem.W.Fast.tw11041588558919509162:True:=trivial
theorem PySem.W.Fast.tw2829206093578120528:True:=trivial
theorem PySem.W.Fast.tw13136305968880284570:True:=trivial
theorem PySem.W.Fast.tw12572726451988660644:True:=trivial
theorem PySem.W.Fast.tw17138779653814170543:True:=trivial
theorem PySem.W.Fast.tw12677314230492108620:True:=trivial
theorem PySem.W.Fast.tw17075145686297190509:True:=trivial
theorem PySem.W.Fast.tw1734530046130409232:True:=trivial
theorem PySem.W.Fast.tw791100578308071815:True:=trivial
theorem PySem.W.Fast.tw9195964836833993413:True:=trivial
theorem PySem.W.Fast.tw18080440644084095550:True:=trivial
theorem PySem.W.Fast.tw15852212349316985328:True:=trivial
theorem PySem.W.Fast.tw12613993985069184733:True:=trivial
theorem PySem.W.Fast.tw12622886493975371051:True:=trivial
theorem PySem.W.Fast.tw721230131929508775:True:=trivial
theorem PySem.W.Fast.tw4251125722102254777:True:=trivial
theorem PySem.W.Fast.tw11683605888552994443:True:=trivial
theorem PySem.W.Fast.tw5197078071382461924:True:=trivial
theorem PySem.W.Fast.tw2826822773379447140:True:=trivial
theorem PySem.W.Fast.tw7518237192338747959:True:=trivial
theorem PySem.W.Fast.tw11236314305973123805:True:=trivial
theorem PySem.W.Fast.tw7277449261399147693:True:=trivial
theorem PySem.W.Fast.tw13759507712968719590:True:=trivial
theorem PySem.W.Fast.tw16449375493631464013:True:=trivial
theorem PySem.W.Fast.tw6795448296517158219:True:=trivial
open PySem PySem.W PyProof.Rows
set_option maxRecDepth 100000 in
set_option maxHeartbeats 0 in
theorem PySem.Challenge.cw_soundrules_k65_quarrels_judged_holds : PySem.Challenge.rw_soundrules_k65_quarrels_judged.Holds := by
 w_on;o_law;k_head;(case hw=>w_witness2)
 k_fill
 refine Ev.akv (l:=PySem.Challenge.rw_soundrules_k65_quarrels_judged) (k:=11) (x:="_law_script") (f:=mR.V2) rfl (by decide) rfl ⟨rfl,by decide,by decide⟩ (λw h Y=>PySem.W.km_in_of Y) mR.ZK ?F
 case F=>
  intro w mg fa h KX G hmg
  refine' mR.all_mk KX G hmg ?afH ?Zg ?Ze ?Nk ?zH ?afG ?wu ?afF ?Zd ?afE ?afD ?U4 ?Nj ?afC ?U3 ?afB ?m6 ?qW ?ph ?dO ?T8 ?zf ?oZ ?qZ ?qY ?qX ?pZ ?Mp ?il ?T7 ?ou ?Mr ?Ej ?qy ?vX ?vW ?Mq ?Ei ?tO ?vY ?Ka ?Gh ?Wl ?J9 ?Aq ?pL ?Ae ?Gf ?J5 ?rN ?uR ?uW ?An ?J7 ?Gi ?acx ?Rg ?J1 ?uQ ?uh ?Am ?Kd ?acv ?acw ?Ge ?pK ?Rh ?J6 ?Gg ?xX ?um ?Kc ?J8 ?Ao ?J3 ?kh ?Wm ?Al ?FT ?FP ?Af ?xV ?Ag ?uT ?FQ ?Ak ?Fz ?Ga ?xW ?uU ?xU ?uV ?FJ ?FW ?Aj ?Gd ?FN ?rM ?FZ ?J4 ?Ai ?Gb ?Ah ?agl
  (case m6=>(intro d;cases d with|clo=>(show PySem.W.kitOne _ (.type "NoneType") (.type "bool")=some false;kit_is)|non=>(show PySem.W.kitOne _ (.type "NoneType") (.type "bool")=some false;kit_is)|bl=>(show PySem.W.kitOne _ (.type "bool") (.type "bool")=some true;kit_is)|int=>(show PySem.W.kitOne _ (.type "int") (.type "bool")=some false;kit_is)|str=>(show PySem.W.kitOne _ (.type "str") (.type "bool")=some false;kit_is)|tup=>(show PySem.W.kitOne _ (.type "tuple") (.type "bool")=some false;kit_is)|lst=>(show PySem.W.kitOne _ (.type "list") (.type "bool")=some false;kit_is)|arr=>(show PySem.W.kitOne _ (.type "list") (.type "bool")=some false;kit_is)|dct=>(show PySem.W.kitOne _ (.type "dict") (.type "bool")=some false;kit_is)|z6=>(show PySem.W.kitOne _ (.type "dict") (.type "bool")=some false;kit_is)))
  (case qW=>(intro d;cases d with|clo=>(show PySem.W.kitOne _ (.type "NoneType") (.type "int")=some false;kit_is)|non=>(show PySem.W.kitOne _ (.type "NoneType") (.type "int")=some false;kit_is)|bl=>(show PySem.W.kitOne _ (.type "bool") (.type "int")=some true;kit_is)|int=>(show PySem.W.kitOne _ (.type "int") (.type "int")=some true;kit_is)|str=>(show PySem.W.kitOne _ (.type "str") (.type "int")=some false;kit_is)|tup=>(show PySem.W.kitOne _ (.type "tuple") (.type "int")=some false;kit_is)|lst=>(show PySem.W.kitOne _ (.type "list") (.type "int")=some false;kit_is)|arr=>(show PySem.W.kitOne _ (.type "list") (.type "int")=some false;kit_is)|dct=>(show PySem.W.kitOne _ (.type "dict") (.type "int")=some false;kit_is)|z6=>(show PySem.W.kitOne _ (.type "dict") (.type "int")=some false;kit_is)))
  (case ph=>(intro d;cases d with|clo=>(show PySem.W.kitOne _ (.type "NoneType") (.type "str")=some false;kit_is)|non=>(show PySem.W.kitOne _ (.type "NoneType") (.type "str")=some false;kit_is)|bl=>(show PySem.W.kitOne _ (.type "bool") (.type "str")=some false;kit_is)|int=>(show PySem.W.kitOne _ (.type "int") (.type "str")=some false;kit_is)|str=>(show PySem.W.kitOne _ (.type "str") (.type "str")=some true;kit_is)|tup=>(show PySem.W.kitOne _ (.type "tuple") (.type "str")=some false;kit_is)|lst=>(show PySem.W.kitOne _ (.type "list") (.type "str")=some false;kit_is)|arr=>(show PySem.W.kitOne _ (.type "list") (.type "str")=some false;kit_is)|dct=>(show PySem.W.kitOne _ (.type "dict") (.type "str")=some false;kit_is)|z6=>(show PySem.W.kitOne _ (.type "dict") (.type "str")=some false;kit_is)))
  (case dO=>(intro d;cases d with|clo=>(show PySem.W.kitOne _ (.type "NoneType") (.type "tuple")=some false;kit_is)|non=>(show PySem.W.kitOne _ (.type "NoneType") (.type "tuple")=some false;kit_is)|bl=>(show PySem.W.kitOne _ (.type "bool") (.type "tuple")=some false;kit_is)|int=>(show PySem.W.kitOne _ (.type "int") (.type "tuple")=some false;kit_is)|str=>(show PySem.W.kitOne _ (.type "str") (.type "tuple")=some false;kit_is)|tup=>(show PySem.W.kitOne _ (.type "tuple") (.type "tuple")=some true;kit_is)|lst=>(show PySem.W.kitOne _ (.type "list") (.type "tuple")=some false;kit_is)|arr=>(show PySem.W.kitOne _ (.type "list") (.type "tuple")=some false;kit_is)|dct=>(show PySem.W.kitOne _ (.type "dict") (.type "tuple")=some false;kit_is)|z6=>(show PySem.W.kitOne _ (.type "dict") (.type "tuple")=some false;kit_is)))
  (case T8=>k_is)
  (case zf=>k_is)
  (case oZ=>k_is)
  (case qZ=>k_is)
  (case qY=>k_is)
  (case qX=>k_is)
  (case pZ=>k_is)
  (case Mp=>k_is)
  (case il=>k_is)
  (case T7=>k_is)
  (case ou=>k_is)
  (case Mr=>k_is)
  (case Ej=>rfl)
  (case qy=>k_is)
  (case vX=>rfl)
  (case vW=>k_is)
  (case Mq=>k_is)
  (case Ei=>rfl)
  (case tO=>k_is)
  (case vY=>k_is)
  all_goals first|k_is|(refine' Ev.FA.mk ?a ?l ?c ?k;(case a=>k_is);(case l=>k_is);(case c=>k_is);(case k=>k_is))|(refine' Ev.FC.mk ?a ?l ?c ?k ?lc ?v;(case a=>k_is);(case l=>k_is);(case c=>k_is);(case k=>k_is);(case lc=>k_is);(case v=>exact rfl))
