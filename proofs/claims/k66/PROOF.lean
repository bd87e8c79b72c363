import PyProof.Rows.All
import Wide.All
import OpenK.AllK
import Wide.FinOn
import Lean
import PyProof.EqAt
import PyProof.EqKinds
import PyProof.TupleCall
import PyProof.TupleKey
import PyProof.DictRoadsH
import PyProof.FactsAll.bool_1
import PyProof.AttrMissHeap
import KE.KDictOf
import PyProof.ListMulRoad
import PyProof.FactsAll.tuple_2
import KE.KSortTup
import PyProof.TupleOfSeq
import PyProof.Rows.SortRuns
import PyProof.ListRange
import PyProof.DictTable
import PyProof.Rows.TupTab
import PyProof.FactsAll.range_1
import KE.KDictList
import PyProof.SetRoads
import PyProof.DictTruth
import PyProof.RulesTry
import KE.KIsAll
import KE.KTryDeep
import PyProof.ExcArgsOwn
import PyProof.ExcAttrAll.ValueError
import PyProof.InstStoreFacts
import PyProof.ExcInit
import PyProof.SumAnyB
import PyProof.ToksMono
import PyProof.StrReplace2
import PySem.Challenge.RW_soundrules_k66_things_that_are_none
noncomputable section
set_option Elab.async false
set_option linter.all false
set_option maxRecDepth 100000
set_option maxHeartbeats 4000000
theorem Qqq:type_of% @PySem.wpAny_bind:=@PySem.wpAny_bind
theorem Qqx:type_of% @PySem.Heap.get?_push_of_some:=@PySem.Heap.get?_push_of_some
theorem Qqz:type_of% @List.length_map:=@List.length_map
theorem Qqj:type_of% @List.length_append:=@List.length_append
theorem Qqk:type_of% @List.mem_cons_of_mem:=@List.mem_cons_of_mem
theorem Qqv:type_of% @List.length_cons:=@List.length_cons
theorem Qqw:type_of% @List.mem_cons_self:=@List.mem_cons_self
theorem Qqy:type_of% @Nat.le_trans:=@Nat.le_trans
theorem Qq0:type_of% @Nat.le_refl:=@Nat.le_refl
theorem Qq1:type_of% @PySem.wpAny_pure:=@PySem.wpAny_pure
theorem Qq2:type_of% @List.mem_cons:=@List.mem_cons
theorem Qq3:type_of% @PySem.Heap.lt_size:=@PySem.Heap.lt_size
theorem Qq4:type_of% @List.mem_singleton:=@List.mem_singleton
theorem Qq5:type_of% @List.getElem?_set_ne:=@List.getElem?_set_ne
theorem Qq6:type_of% @List.mem_append:=@List.mem_append
theorem Qq7:type_of% @List.map_cons:=@List.map_cons
theorem Qq8:type_of% @PySem.Heap.get?_push_size:=@PySem.Heap.get?_push_size
theorem Qq9:type_of% @List.getElem?_eq_some_iff:=@List.getElem?_eq_some_iff
theorem Qwq:type_of% @List.size_toArray:=@List.size_toArray
theorem Qwx:type_of% @Nat.lt_of_lt_of_le:=@Nat.lt_of_lt_of_le
theorem Qwz:type_of% @List.mem_append_right:=@List.mem_append_right
theorem Qwj:type_of% @decide_eq_false:=@decide_eq_false
theorem Qwk:type_of% @List.all_eq_true:=@List.all_eq_true
theorem Qwv:type_of% @List.mem_map:=@List.mem_map
theorem Qww:type_of% @Nat.ne_of_lt:=@Nat.ne_of_lt
theorem Qwy:type_of% @Option.map_eq_some_iff:=@Option.map_eq_some_iff
theorem Qw0:type_of% @Bool.false_ne_true:=@Bool.false_ne_true
theorem Qw1:type_of% @List.append_nil:=@List.append_nil
theorem Qw2:type_of% @Option.some.inj:=@Option.some.inj
theorem Qw3:type_of% @List.length_nil:=@List.length_nil
theorem Qw4:type_of% @List.length_replicate:=@List.length_replicate
theorem Qw5:type_of% @Nat.le_of_ble_eq_true:=@Nat.le_of_ble_eq_true
theorem Qw6:type_of% @beq_eq_false_iff_ne:=@beq_eq_false_iff_ne
theorem Qw7:type_of% @PySem.wpAny_mono:=@PySem.wpAny_mono
theorem Qw8:type_of% @of_decide_eq_true:=@of_decide_eq_true
theorem Qw9:type_of% @Option.isSome_iff_exists:=@Option.isSome_iff_exists
theorem Qxq:type_of% @Nat.lt_of_le_of_lt:=@Nat.lt_of_le_of_lt
theorem Qxx:type_of% @Nat.zero_le:=@Nat.zero_le
theorem Qxz:type_of% @List.map_append:=@List.map_append
theorem Qxj:type_of% @List.nodup_cons:=@List.nodup_cons
theorem Qxk:type_of% @decide_eq_true:=@decide_eq_true
theorem Qxv:type_of% @List.getElem?_set_self:=@List.getElem?_set_self
theorem Qxw:type_of% @List.not_mem_nil:=@List.not_mem_nil
theorem Qxy:type_of% @Option.bind_eq_some_iff:=@Option.bind_eq_some_iff
theorem Qx0:type_of% @PySem.wpAny_truthy_bool:=@PySem.wpAny_truthy_bool
theorem Qx1:type_of% @List.pairwise_cons:=@List.pairwise_cons
theorem Qx2:type_of% @List.length_set:=@List.length_set
theorem Qx3:type_of% @Nat.lt_irrefl:=@Nat.lt_irrefl
theorem Qx4:type_of% @List.getElem?_eq_getElem:=@List.getElem?_eq_getElem
theorem Qx5:type_of% @List.getElem?_map:=@List.getElem?_map
theorem Qx6:type_of% @List.append_assoc:=@List.append_assoc
theorem Qx7:type_of% @congrArg:=@congrArg
theorem Qx8:type_of% @PyProof.Rows.callWith_type1:=@PyProof.Rows.callWith_type1
theorem Qx9:type_of% @PySem.wpAny_callSpecial?_slot:=@PySem.wpAny_callSpecial?_slot
theorem Qzq:type_of% @PySem.wpAny_field:=@PySem.wpAny_field
theorem Qzx:type_of% @PySem.wpAny_call_entry:=@PySem.wpAny_call_entry
theorem Qzz:type_of% @PyProof.Rows.slot_tuple_getitem:=@PyProof.Rows.slot_tuple_getitem
theorem Qzj:type_of% @List.length_singleton:=@List.length_singleton
theorem Qzk:type_of% @List.map_map:=@List.map_map
theorem Qzv:type_of% @List.length_take:=@List.length_take
theorem Qzw:type_of% @Bool.and_eq_true:=@Bool.and_eq_true
theorem Qzy:type_of% @PySem.W.mg_of:=@PySem.W.mg_of
theorem Qz0:type_of% @PySem.wpAny_seqItems:=@PySem.wpAny_seqItems
theorem Qz1:type_of% @PySem.wpAny_newObj_type:=@PySem.wpAny_newObj_type
theorem Qz2:type_of% @Int.toNat_natCast:=@Int.toNat_natCast
theorem Qz3:type_of% @Array.length_toList:=@Array.length_toList
theorem Qz4:type_of% @Nat.ne_of_gt:=@Nat.ne_of_gt
theorem Qz5:type_of% @PySem.wpAny_setField_rec:=@PySem.wpAny_setField_rec
theorem Qz6:type_of% @List.getElem?_append_left:=@List.getElem?_append_left
theorem Qz7:type_of% @PySem.Heap.size_push:=@PySem.Heap.size_push
theorem Qz8:type_of% @List.drop_eq_getElem_cons:=@List.drop_eq_getElem_cons
theorem Qz9:type_of% @Bool.and_eq_true_iff:=@Bool.and_eq_true_iff
theorem Qjq:type_of% @Option.some.injEq:=@Option.some.injEq
theorem Qjx:type_of% @List.foldl_cons:=@List.foldl_cons
theorem Qjz:type_of% @PySem.wpAny_holding:=@PySem.wpAny_holding
theorem Qjj:type_of% @PySem.mem_of_lookup:=@PySem.mem_of_lookup
theorem Qjk:type_of% @List.lookup_cons:=@List.lookup_cons
theorem Qjv:type_of% @List.mem_range:=@List.mem_range
theorem Qjw:type_of% @List.find?_cons:=@List.find?_cons
theorem Qjy:type_of% @Nat.le_of_lt:=@Nat.le_of_lt
theorem Qj0:type_of% @Option.map_some:=@Option.map_some
theorem Qj1:type_of% @Nat.le_of_succ_le:=@Nat.le_of_succ_le
theorem Qj2:type_of% @List.forIn_nil:=@List.forIn_nil
theorem Qj3:type_of% @List.map_nil:=@List.map_nil
abbrev qx(x:PySem.Str):Prop:=(x == ("__debug__" : PySem.Str))=false
abbrev Bt(x:PySem.Str):Prop:=(x == ("__classdict__" : PySem.Str))=false
open PySem PySem.Spec PyProof.Rows in
abbrev sEn(e:Expr)(E:PySem.Env):Prop:=starEach [e] E=(false,eval e E)::starEach [] E
namespace L2
open PySem PySem.Spec PyProof.Rows
inductive NK where
 | num (i:Int)
 | txt (x:Str)
 | tup (xs:List NK)
noncomputable instance:DecidableEq NK:=λ_ _=>Classical.propDecidable _
mutual
noncomputable def Xy(h:Heap):NK->Value->Prop
 | .num i,v=>(∃t,v = .int i t)\/∃b:Bool,v = .bool b/\i=if b then 1 else 0
 | .txt x,v=>∃t,v = .str x t
 | .tup ks,v=>∃a o items n,v = .ref a/\h.get? a=some o/\o.cls = .type "tuple"/\o.data = .seq items n/\wN h ks items.toList
noncomputable def wN(h:Heap):List NK->List Value->Prop
 | [],vs=>vs=[]
 | k::ks,vs=>∃v r,vs=v::r/\Xy h k v/\wN h ks r
end
mutual
noncomputable def NK.dep:NK->Nat
 | .num _=>0
 | .txt _=>0
 | .tup ks=>1+NK.Uq ks
noncomputable def NK.Uq:List NK->Nat
 | []=>0
 | k::ks=>max (NK.dep k) (NK.Uq ks)
end
mutual
noncomputable def NK.draws:NK->Nat
 | .num _=>1
 | .txt _=>1
 | .tup ks=>NK.G7 ks+1
noncomputable def NK.G7:List NK->Nat
 | []=>0
 | k::ks=>NK.draws k+NK.G7 ks
end
section
variable(P:Program)(w:World)
mutual
noncomputable def NK.hash:NK->Int
 | .num i=>hashInt i
 | .txt x=>(strKind P w).hash x
 | .tup ks=>reduceHash (Builtin.Tuple.tupleHashOf (NK.hashes ks))
noncomputable def NK.hashes:List NK->List Int
 | []=>[]
 | k::ks=>NK.hash k::NK.hashes ks
end
end
theorem wN.length:∀{ks} {vs},wN h ks vs->vs.length=ks.length
 | [],_,e=>by cases e;rfl
 | k::ks,_,e=>by obtain⟨v,r,rfl,_,q⟩:=e;rw[Qqv,Qqv,q.length]
theorem wN.get:∀{ks} {vs} {j:Nat} {v},wN h ks vs->vs[j]? = some v->∃k,ks[j]? = some k/\Xy h k v
 | [],_,_,_,e,g=>by cases e;simp at g
 | k::ks,_,j,v,e,g=>by
  obtain⟨u,r,rfl,h1,h2⟩:=e;cases j with
  | zero=>simp_all
  | succ j=>obtain⟨k',e1,e2⟩:=wN.get h2 (j:=j) (by simpa using g);exact⟨k',by simpa using e1,e2⟩
theorem NK.Ny:∀{ks} {j:Nat} {k},ks[j]? = some k->k.dep<=NK.Uq ks
 | [],_,_,e=>by simp at e
 | c::ks,j,k,e=>by
  unfold NK.Uq;cases j with
  | zero=>simp at e;subst e;exact Nat.le_max_left _ _
  | succ j=>exact Qqy (NK.Ny (j:=j) (by simpa using e)) (Nat.le_max_right _ _)
mutual
theorem Xy.inj{h:Heap}:∀{x y:NK} {v:Value},Xy h x v->Xy h y v->x=y
 | .num i,.num j,v,a,b=>by
  rcases a with ⟨t,rfl⟩|⟨c,rfl,rfl⟩
  ·rcases b with ⟨t',e⟩|⟨c,e,_⟩
   all_goals simp_all
  ·rcases b with ⟨t',e⟩|⟨c,e,rfl⟩
   all_goals simp_all
 | .num i,.txt x,v,a,b=>by obtain⟨t,rfl⟩:=b;rcases a with ⟨t',e⟩|⟨c,e,_⟩<;>cases e
 | .num i,.tup ks,v,a,b=>by obtain⟨_,_,_,_,rfl,_⟩:=b;rcases a with ⟨t',e⟩|⟨c,e,_⟩<;>cases e
 | .txt x,.num i,v,a,b=>by obtain⟨t,rfl⟩:=a;rcases b with ⟨t',e⟩|⟨c,e,_⟩<;>cases e
 | .txt x,.txt y,v,a,b=>by obtain⟨t,rfl⟩:=a;obtain⟨t',e⟩:=b;cases e;rfl
 | .txt x,.tup ks,v,a,b=>by obtain⟨t,rfl⟩:=a;obtain⟨_,_,_,_,e,_⟩:=b;cases e
 | .tup ks,.num i,v,a,b=>by obtain⟨_,_,_,_,rfl,_⟩:=a;rcases b with ⟨t',e⟩|⟨c,e,_⟩<;>cases e
 | .tup ks,.txt y,v,a,b=>by obtain⟨_,_,_,_,rfl,_⟩:=a;obtain⟨t',e⟩:=b;cases e
 | .tup ks,.tup ls,v,a,b=>by
  obtain⟨p,o,items,n,rfl,h1,_,h3,h4⟩:=a;obtain⟨p',o',items',n',e,h1',_,h3',h4'⟩:=b;cases e;rw[h1] at h1';cases h1';rw[h3] at h3';cases h3';rw[wN.inj h4 h4']
theorem wN.inj{h:Heap}:∀{x y:List NK} {v:List Value},wN h x v->wN h y v->x=y
 | [],[],_,_,_=>rfl
 | [],k::ks,_,a,b=>by cases a;obtain⟨_,_,e,_⟩:=b;cases e
 | k::ks,[],_,a,b=>by cases b;obtain⟨_,_,e,_⟩:=a;cases e
 | k::ks,l::ls,_,a,b=>by
  obtain⟨v,r,rfl,h1,h2⟩:=a;obtain⟨v',r',e,h1',h2'⟩:=b;cases e;rw[Xy.inj h1 h1',wN.inj h2 h2']
end
mutual
theorem Xy.keeps{h h':Heap}{d:Addr}{o:Obj}{es ep}(ho:h.get? d=some o)(hd:o.data = .dict es ep)(hs:Heap.SameBut d h h'):∀{k:NK} {v:Value},Xy h k v->Xy h' k v
 | .num _,_,e=>e
 | .txt _,_,e=>e
 | .tup ks,_,e=>by
  obtain⟨a,o',items,n,rfl,h1,h2,h3,h4⟩:=e;have hne:a≠d:=by grind
  exact⟨a,o',items,n,rfl,(hs.2 a hne).trans h1,h2,h3,wN.keeps ho hd hs h4⟩
theorem wN.keeps{h h':Heap}{d:Addr}{o:Obj}{es ep}(ho:h.get? d=some o)(hd:o.data = .dict es ep)(hs:Heap.SameBut d h h'):∀{ks:List NK} {vs:List Value},wN h ks vs->wN h' ks vs
 | [],_,e=>e
 | k::ks,_,e=>by obtain⟨v,r,rfl,h1,h2⟩:=e;exact⟨v,r,rfl,Xy.keeps ho hd hs h1,wN.keeps ho hd hs h2⟩
end
section
variable{P:Program}{w:World}
theorem acC(h:Q (hashInt (if b then 1 else 0)) { s with toks:=s.toks+1 }):wpAny (model P w) A (pyHash (.bool b)) Q E s:=by
 have hT:s.TypeIs (.bool b) "bool":=rfl;have hr:=rawHash_range (if b then 1 else 0);unfold pyHash;have hv:[Value.bool b].any Value.onHeap=false:=rfl;refine Qqq ?_;rw[cRoomFor,if_neg (by simp_all)];refine Qq1 ?_;refine Qqq (wpAny_specialOf hT F.slot_bool_hash.lookup ?_);show wpAny _ _ (if (some (Value.builtin "int.__hash__") == some Value.none)=true then _ else _) Q E s;rw[if_neg (by simp_all)];refine Qqq (wpAny_specialOf hT F.slot_bool_hash.lookup ?_);show wpAny _ _ (callSpecialIfBoundUnlessNone? (.bool b) "__hash__" _ >>= _) Q E s;refine Qqq (wpAny_callSpecialIfBoundUnlessNone?_slot hT F.slot_bool_hash
  (Qzx F.slot_bool_hash hT entry_int_hash
   (show wpAny _ _ (do ret (<-mkInt (rawHash (if b then 1 else 0)))) _ _ s from wpAny_ret_mkInt ?_) (args_int_hash _)))
 show wpAny _ _ (if (decide (-(2:Int)^63<=rawHash (if b then 1 else 0))&&decide (rawHash (if b then 1 else 0)<2^63))=true then _ else _) Q E _;rw[if_pos (by simp_all)];exact Qq1 h
mutual
theorem afi:∀(k:NK) (v:Value) (A:Around) (E:Value->Shared->Prop) (s:Shared) (Q:Int->Shared->Prop),A.units+k.dep<cLine->Xy s.heap k v->Q (k.hash P w) { s with toks:=s.toks+k.draws }->wpAny (model P w) A (pyHash v) Q E s
 | .num i,v,A,E,s,Q,hu,e,h=>by
  rcases e with ⟨t,rfl⟩|⟨b,rfl,rfl⟩
  ·exact wpAny_pyHash_int h
  ·exact acC h
 | .txt x,v,A,E,s,Q,hu,e,h=>by
  obtain⟨t,rfl⟩:=e;exact wpAny_pyHash_str h
 | .tup ks,v,A,E,s,Q,hu,e,h=>by
  obtain⟨a,o,items,n,rfl,ho,hc,hd,hi⟩:=e;have hT:s.TypeIs (.ref a) "tuple":=⟨o,ho,hc⟩;have aom:(NK.tup ks).dep=1+NK.Uq ks:=by rw[NK.dep]
  rw[aom] at hu;have hu0:A.units<cLine:=by omega
  have hin:A.in1.units+NK.Uq ks<cLine:=by grind
  unfold pyHash
  first|unfold pyHashByItsType|skip
  first|refine Qqq (wpAny_cRoomFor_or (.inr hu0) ?_)|skip
  refine Qqq (wpAny_specialOf hT F.slot_tuple_hash.lookup ?_);show wpAny _ _ (if (some (Value.builtin "tuple.__hash__") == some Value.none)=true then _ else _) Q E s;rw[if_neg (by simp_all)];refine Qqq (wpAny_specialOf hT F.slot_tuple_hash.lookup ?_);show wpAny _ _ (callSpecialIfBoundUnlessNone? (.ref a) "__hash__" _ >>= _) Q E s;refine Qqq (wpAny_callSpecialIfBoundUnlessNone?_slot hT F.slot_tuple_hash (Qzx F.slot_tuple_hash hT F.entry_tuple_hash ?_ (F.args_tuple_hash_1 _)));show wpAny _ _ (Builtin.Tuple.tupleItemsOf (.ref a) >>= _) _ _ s;refine Qqq (wpAny_tupleItemsOf ho hd ?_);refine Qqq ?_;rw[<-Array.forIn_toList];refine Wm ks items.toList A.in1 _ s _ _ #[] hin hi (λx b s' R q=>?_) ?_
  ·first
    | exact Qqq (Qw7 q (λz s2 hz=>Qq1 hz) λ_ _ z=>z)
    | exact Qqq (Qw7 q (λz s2 hz=>Qqq (Qq1 (Qq1 hz))) λ_ _ z=>z)
  ·show wpAny _ _ (retInt (Builtin.Tuple.tupleHashOf ((#[]:Array Int).toList++NK.hashes P w ks))) _ _ _;have hh:(NK.tup ks).hash P w=reduceHash (Builtin.Tuple.tupleHashOf (NK.hashes P w ks)):=by rfl
   have hdr:(NK.tup ks).draws=NK.G7 ks+1:=by rfl
   rw[hh,hdr] at h;rw[show(#[]:Array Int).toList++NK.hashes P w ks=NK.hashes P w ks from rfl];refine wpAny_ret_mkInt ?_;show wpAny _ _ (if (decide (-(2:Int)^63<=Builtin.Tuple.tupleHashOf (NK.hashes P w ks))&&decide (Builtin.Tuple.tupleHashOf (NK.hashes P w ks)<2^63))=true then _ else _) Q E _;unfold reduceHash at h;by_cases hr:(decide (-(2:Int)^63<=Builtin.Tuple.tupleHashOf (NK.hashes P w ks))&&decide (Builtin.Tuple.tupleHashOf (NK.hashes P w ks)<2^63))=true
   ·rw[if_pos hr];rw[if_pos hr] at h;exact Qq1 (by assumption)
   ·rw[if_neg hr];rw[if_neg hr] at h;exact Qqq (wpAny_rule (Qq1 (by assumption)))
theorem Wm:∀(ks:List NK) (vs:List Value) (A:Around) (E:Value->Shared->Prop) (s:Shared) (body:Value->Array Int->Sem (ForInStep (Array Int))) (Q:Array Int->Shared->Prop) (acc:Array Int),A.units+NK.Uq ks<cLine->wN s.heap ks vs->
  (∀x b s' (R:ForInStep (Array Int)->Shared->Prop),wpAny (model P w) A (pyHash x) (λz s2=>R (.yield (b.push z)) s2) E s'->wpAny (model P w) A (body x b) R E s')->
  Q (acc.toList++NK.hashes P w ks).toArray { s with toks:=s.toks+NK.G7 ks }->wpAny (model P w) A (forIn vs acc body) Q E s
 | [],vs,A,E,s,body,Q,acc,hu,e,hb,q=>by
  cases e;rw[Qj2];refine Qq1 ?_;have:(acc.toList++NK.hashes P w []).toArray=acc:=by rw[NK.hashes];simp
  rw[this] at q
  assumption
 | k::ks,vs,A,E,s,body,Q,acc,hu,e,hb,q=>by
  obtain⟨v,r,rfl,h1,h2⟩:=e;have aom:NK.Uq (k::ks)=max k.dep (NK.Uq ks):=by rfl
  rw[aom] at hu;rw[List.forIn_cons];refine Qqq (hb v acc s _ (afi k v A E s _ (by omega) h1 ?_));refine Wm ks r A E { s with toks:=s.toks+k.draws } body Q (acc.push (k.hash P w)) (by omega) h2 hb ?_;have e1:NK.hashes P w (k::ks)=k.hash P w::NK.hashes P w ks:=by rfl
  have e2:NK.G7 (k::ks)=k.draws+NK.G7 ks:=by rfl
  grind
end
theorem aq1:∀n x y u v A s,x.dep<=n->A.units+n+1<cLine->Xy s.heap x u->Xy s.heap y v->SeqAt.EqAt A s u v (decide (x=y))
 | n,.num i,.num j,u,v,A,s,hn,hu,hx,hy=>by
  have e:decide (NK.num i=NK.num j)=(i == j):=by grind
  rw[e];rcases hx with ⟨t,rfl⟩|⟨b,rfl,rfl⟩
  ·rcases hy with ⟨t',rfl⟩|⟨c,rfl,rfl⟩
   ·exact SeqAt.EqAt.int_int i t j t'
   ·exact SeqAt.EqAt.int_bool i t c
  ·rcases hy with ⟨t',rfl⟩|⟨c,rfl,rfl⟩
   ·exact SeqAt.EqAt.bool_int b j t'
   ·have:((if b then (1:Int) else 0) == (if c then 1 else 0))=(b == c):=by grind
    rw[this];exact SeqAt.EqAt.bool_bool b c
 | n,.num i,.txt z,u,v,A,s,hn,hu,hx,hy=>by
  rw[Qwj (λe=>by cases e)];obtain⟨t,rfl⟩:=hy;rcases hx with ⟨t',rfl⟩|⟨b,rfl,rfl⟩
  ·exact SeqAt.EqAt.int_str i t' _ t
  ·exact SeqAt.EqAt.bool_str b _ t
 | n,.num i,.tup ks,u,v,A,s,hn,hu,hx,hy=>by
  rw[Qwj (λe=>by cases e)];obtain⟨a,o,items,m,rfl,h1,h2,h3,_⟩:=hy;have p:s.heap.IsTuple a items:=⟨o,h1,h2,m,h3⟩;rcases hx with ⟨t',rfl⟩|⟨b,rfl,rfl⟩
  ·exact SeqAt.EqAt.int_tuple i t' p (by omega)
  ·exact SeqAt.EqAt.bool_tuple b p (by omega)
 | n,.txt z,.num i,u,v,A,s,hn,hu,hx,hy=>by
  rw[Qwj (λe=>by cases e)];obtain⟨t,rfl⟩:=hx;rcases hy with ⟨t',rfl⟩|⟨b,rfl,rfl⟩
  ·exact SeqAt.EqAt.str_int _ t i t'
  ·exact SeqAt.EqAt.str_bool _ t b
 | n,.txt z,.txt z',u,v,A,s,hn,hu,hx,hy=>by
  have e:decide (NK.txt z=NK.txt z')=(z == z'):=by grind
  rw[e];obtain⟨t,rfl⟩:=hx;obtain⟨t',rfl⟩:=hy;exact SeqAt.EqAt.str_str _ t _ t'
 | n,.txt z,.tup ks,u,v,A,s,hn,hu,hx,hy=>by
  rw[Qwj (λe=>by cases e)];obtain⟨t,rfl⟩:=hx;obtain⟨a,o,items,m,rfl,h1,h2,h3,_⟩:=hy;have p:s.heap.IsTuple a items:=⟨o,h1,h2,m,h3⟩;exact SeqAt.EqAt.str_tuple _ t p (by omega)
 | n,.tup ks,.num i,u,v,A,s,hn,hu,hx,hy=>by
  rw[Qwj (λe=>by cases e)];obtain⟨a,o,items,m,rfl,h1,h2,h3,_⟩:=hx;have p:s.heap.IsTuple a items:=⟨o,h1,h2,m,h3⟩;rcases hy with ⟨t',rfl⟩|⟨b,rfl,rfl⟩
  ·exact SeqAt.EqAt.tuple_int i t' p (by omega)
  ·exact SeqAt.EqAt.tuple_bool b p (by omega)
 | n,.tup ks,.txt z,u,v,A,s,hn,hu,hx,hy=>by
  rw[Qwj (λe=>by cases e)];obtain⟨a,o,items,m,rfl,h1,h2,h3,_⟩:=hx;have p:s.heap.IsTuple a items:=⟨o,h1,h2,m,h3⟩;obtain⟨t,rfl⟩:=hy;exact SeqAt.EqAt.tuple_str _ t p (by omega)
 | 0,.tup ks,.tup ls,u,v,A,s,hn,hu,hx,hy=>by
  rw[NK.dep] at hn;omega
 | n+1,.tup ks,.tup ls,u,v,A,s,hn,hu,hx,hy=>by
  have hx0:=hx;have hy0:=hy;obtain⟨a,o,items,m,rfl,h1,h2,h3,h4⟩:=hx;obtain⟨a',o',items',m',rfl,h1',h2',h3',h4'⟩:=hy;have p:s.heap.IsTuple a items:=⟨o,h1,h2,m,h3⟩;have p':s.heap.IsTuple a' items':=⟨o',h1',h2',m',h3'⟩;rw[NK.dep] at hn;by_cases haa:a=a'
  ·subst haa;rw[Qxk (Xy.inj hx0 hy0)];exact SeqAt.EqAt.same _
  ·refine SeqAt.EqAt.of_refs haa ?_;have l1:=h4.length;have l2:=h4'.length;rw[Qz3] at l1 l2;have hu0:A.units<cLine:=by omega
   have:=SeqAt.RcAt.tuples (e:=λj=>decide (ks[j]? = ls[j]?)) p p' hu0 λj q1 q2=>?_
   ·have e:((List.range (min items.size items'.size)).all (λj=>decide (ks[j]? = ls[j]?))&&items.size == items'.size)=decide (NK.tup ks=NK.tup ls):=by
     rw[Bool.eq_iff_iff];simp only[Qzw,Qwk,Qjv,decide_eq_true_eq,beq_iff_eq,NK.tup.injEq];constructor
     ·rintro⟨g1,g2⟩;apply List.ext_getElem?
      grind
     simp_all
    simp_all
   ·have g1:items.toList[j]? = some items[j]:=by simp
    have g2:items'.toList[j]? = some items'[j]:=by simp
    obtain⟨k,r1,r2⟩:=h4.get g1;obtain⟨l,r3,r4⟩:=h4'.get g2;have e:decide (ks[j]? = ls[j]?)=decide (k=l):=by simp_all
    rw[e];exact aq1 n k l _ _ A.in1 s (Qqy (NK.Ny r1) (by omega)) (by grind) r2 r4
theorem aaO:∀n k v A E s Q,k.dep<=n->Xy s.heap k v->Q true s->wpAny (model P w) A (eqIsQuiet n v) Q E s
 | n,.num i,v,A,E,s,Q,hn,e,h=>by
  rcases e with ⟨t,rfl⟩|⟨b,rfl,rfl⟩
  ·rw[eqIsQuiet_byValue n rfl];exact Qq1 h
  ·rw[eqIsQuiet_byValue n rfl];exact Qq1 h
 | n,.txt x,v,A,E,s,Q,hn,e,h=>by
  obtain⟨t,rfl⟩:=e;rw[eqIsQuiet_byValue n rfl];exact Qq1 h
 | 0,.tup ks,v,A,E,s,Q,hn,e,h=>by
  rw[NK.dep] at hn;omega
 | n+1,.tup ks,v,A,E,s,Q,hn,e,h=>by
  obtain⟨a,o,items,m,rfl,ho,hc,hd,hi⟩:=e;rw[NK.dep] at hn;have hT:s.TypeIs (.ref a) "tuple":=⟨o,ho,hc⟩;unfold eqIsQuiet;refine Qqq (wpAny_specialOf hT F.slot_tuple_eq.lookup ?_);show wpAny _ _ (isInstance (.ref a) (.type "tuple") >>= _) _ _ s;refine Qqq (wpAny_isInstance hT isSubtype_tuple_tuple ?_);simp only[Bool.not_true,Bool.false_eq_true,if_false];refine Qqq (Qz0 ho hd ?_);refine Qqq ?_;show wpAny _ _ (forIn items _ _) _ _ s;rw[<-Array.forIn_toList];refine wpAny_forIn_list _ (λrest r s'=>r.1=none/\s'=s/\∀v∈rest,∃k:NK,k.dep<=n/\Xy s.heap k v) _ ?_ ?_ _ _ ⟨rfl,rfl,λv hv=>?_⟩
  ·rintro v rest r s' ⟨hr,rfl,hall⟩;obtain⟨k,hk1,hk2⟩:=hall v Qqw;refine Qqq (aaO n k v A E _ _ hk1 hk2 ?_);simp only[Bool.not_true,Bool.false_eq_true,if_false];exact Qq1 ⟨rfl,rfl,λu hu'=>hall u (Qqk _ hu')⟩
  ·rintro⟨r1,r2⟩ s' ⟨hr,rfl,_⟩;simp only at hr;subst hr;exact Qq1 h
  ·obtain⟨j,hj,rfl⟩:=List.mem_iff_getElem.mp hv;obtain⟨k,r1,r2⟩:=hi.get (Qx4 hj);exact⟨k,Qqy (NK.Ny r1) (by omega),r2⟩
noncomputable def afe(P:Program)(w:World):HeapKind P w NK where
 is:=λh k a=>Xy h k (.ref a)/\k.dep<=8
 hash:=NK.hash P w
 draws:=NK.draws
 room:=λA=>A.units+10<cLine
 inj:=λhx hy=>hx.1.inj hy.1
 keeps:=λx ho hd hs=>⟨x.1.keeps ho hd hs,x.2⟩
 pyHash:=λhu hk h=>afi _ _ _ _ _ _ (by omega) hk.1 h
 eqBool:=λhu hx hy h=>aq1 8 _ _ _ _ _ _ hx.2 (by omega) hx.1 hy.1 P w _ _ h
 quiet:=λhk h=>aaO 8 _ _ _ _ _ _ hk.2 hk.1 h
end
abbrev Key:=Sum Int Str
noncomputable def My:Key->Value->Bool
 | .inl k,v=>Value.isInt k v
 | .inr x,v=>Value.isStrOf x v
noncomputable def aun(w:World):Key->Int
 | .inl k=>hashInt k
 | .inr x=>hashStr w x
theorem gY:∀{k} {v},My k v=true->(∃i t,k=Sum.inl i/\v=Value.int i t)\/(∃x t,k=Sum.inr x/\v=Value.str x t)
 | .inl i,v,h=>by
  obtain⟨t,e⟩:=Value.isInt_shape (k:=i) (v:=v) h;exact .inl ⟨i,t,rfl,e⟩
 | .inr x,v,h=>by
  obtain⟨t,e⟩:=Value.isStrOf_shape (x:=x) (v:=v) h;exact .inr ⟨x,t,rfl,e⟩
theorem acn(i)(t):My (.inl i) (.int i t)=true:=by simp[My,Value.isInt]
theorem ack(x)(t):My (.inr x) (.str x t)=true:=by simp[My,Value.isStrOf]
theorem anm(a b):decide ((Sum.inl a:Key)=Sum.inl b)=(a == b):=by
 by_cases e:a=b
 ·subst e;simp
 ·have h:¬(Sum.inl a:Key)=Sum.inl b:=λq=>e (Sum.inl.inj q);rw[Qwj h];exact(Qw6.mpr e).symm
theorem anj(a b):decide ((Sum.inr a:Key)=Sum.inr b)=decide (a=b):=by
 by_cases e:a=b
 ·subst e;simp
 ·have h:¬(Sum.inr a:Key)=Sum.inr b:=λq=>e (Sum.inr.inj q);rw[Qwj h,Qwj e]
theorem anl(a)(b):decide ((Sum.inl a:Key)=Sum.inr b)=false:=Qwj (λq=>nomatch q)
theorem ank(a)(b):decide ((Sum.inr a:Key)=Sum.inl b)=false:=Qwj (λq=>nomatch q)
def cN(prog:Program)(w:World):PySem.KeyKind prog w Key where
 is:=My
 hash:=aun w
 inj:=λv a b ha hb=>by
  rcases gY ha with ⟨i,t,rfl,rfl⟩|⟨x,t,rfl,rfl⟩
  ·rcases gY hb with ⟨j,u,rfl,e⟩|⟨y,u,rfl,e⟩
   ·injection e with e1 _;rw[e1]
   ·exact nomatch e
  ·rcases gY hb with ⟨j,u,rfl,e⟩|⟨y,u,rfl,e⟩
   ·exact nomatch e
   ·injection e with e1 _;rw[e1]
 byValue:=λk v h=>by
  rcases gY h with ⟨i,t,rfl,rfl⟩|⟨x,t,rfl,rfl⟩<;>rfl
 pyHash:=λhv h=>by
  rcases gY hv with ⟨i,t,rfl,rfl⟩|⟨x,t,rfl,rfl⟩
  ·exact wpAny_pyHash_int h
  ·exact wpAny_pyHash_str h
 eqBool:=λhu hv h=>by
  rcases gY hu with ⟨i,t,rfl,rfl⟩|⟨x,t,rfl,rfl⟩
  ·rcases gY hv with ⟨j,u,rfl,rfl⟩|⟨y,u,rfl,rfl⟩
   ·rw[anm] at h;exact wpAny_eqBool_int h
   ·rw[anl] at h;exact SeqAt.EqAt.int_str i t y u _ _ _ _ h
  ·rcases gY hv with ⟨j,u,rfl,rfl⟩|⟨y,u,rfl,rfl⟩
   ·rw[ank] at h;exact SeqAt.EqAt.str_int x t j u _ _ _ _ h
   ·rw[anj] at h;exact wpAny_eqBool_str h
 «strs»:=λk x t v h=>by
  rcases gY h with ⟨i,u,rfl,e⟩|⟨y,u,rfl,e⟩
  ·exact nomatch e
  ·injection e with e1 _
   subst e1;cases v<;>rfl
theorem Wr(prog)(w)(i)(t):(cN prog w).is (.inl i) (.int i t)=true:=acn i t
theorem Wq(prog)(w)(x)(t):(cN prog w).is (.inr x) (.str x t)=true:=ack x t
inductive V where
 | non|bl (b:Bool)|int (i:Int)|str (x:Str)|byt (b:Array UInt8)|flt (b:UInt64)|ref (a:Addr)|ty (n:String)
 deriving DecidableEq
def RelV:V->Value->Prop
 | .non,u=>u=Value.none
 | .bl b,u=>u=Value.bool b
 | .int i,u=>∃t,u=Value.int i t
 | .str x,u=>∃t,u=Value.str x t
 | .byt b,u=>∃t,u=Value.bytes b t
 | .flt b,u=>∃t,u=Value.float b t
 | .ref a,u=>u=Value.ref a
 | .ty n,u=>u=Value.type n
abbrev Vals:List V->List Value->Prop:=Paired RelV
theorem Vals.length(r:Vals xs us):xs.length=us.length:=Paired.length r
theorem Vals.get:∀{xs} {us} {i:Nat} {x},Vals xs us->xs[i]? = some x->∃u,us[i]? = some u/\RelV x u
 | _,_,_,_,.nil,e=>by simp at e
 | _,_,0,_,.cons r _,e=>by simp at e;subst e;exact⟨_,rfl,r⟩
 | _,_,i+1,x,.cons _ t,e=>by
  obtain⟨u,h1,h2⟩:=Vals.get (i:=i) (x:=x) t (by simpa using e);exact⟨u,by simpa using h1,h2⟩
theorem Vals.set(r:RelV x u):∀{xs} {us} i,Vals xs us->Vals (xs.set i x) (us.set i u)
 | _,_,_,.nil=>.nil
 | _,_,0,.cons _ t=>.cons r t
 | _,_,i+1,.cons q t=>.cons q<|Vals.set r i t
theorem Vals.append:∀{xs ys} {us ws},Vals xs us->Vals ys ws->Vals (xs++ys) (us++ws)
 | _,_,_,_,.nil,s=>s
 | _,_,_,_,.cons r t,s=>.cons r<|Vals.append t s
theorem Vals.take:∀{xs} {us} n,Vals xs us->Vals (xs.take n) (us.take n)
 | _,_,0,_=>.nil
 | _,_,_+1,.nil=>.nil
 | _,_,n+1,.cons r t=>.cons r<|Vals.take n t
theorem Vals.drop:∀{xs} {us} n,Vals xs us->Vals (xs.drop n) (us.drop n)
 | _,_,0,r=>r
 | _,_,_+1,.nil=>.nil
 | _,_,n+1,.cons _ t=>Vals.drop n t
def PJ:Option V->Option Value->Prop
 | some v,some u=>RelV v u
 | none,none=>True
 | _,_=>False
def KV{κ:Type}:List (κ×V)->List (κ×Value)->Prop:=Paired λ(p:κ×V) (q:κ×Value)=>p.1=q.1/\RelV p.2 q.2
noncomputable def kV:Key->V
 | .inl i=>.int i
 | .inr x=>.str x
inductive HO where
 /-- a list -/
 | lst (xs:List V)
 /-- a tuple (never changes) -/
 | tup (xs:List V)
 /-- a dict whose keys are ints and texts;one whose keys are tuples of ints and texts (the empty one is both) -/
 | dK (kvs:List (Key×V))|dT (kvs:List (List Key×V))|dN (kvs:List (NK×V×V))
 /-- a set of ints: its members,its size -/
 | set (S:Int->Bool) (n:Nat)
 /-- an instance of the class at C,its dict at dx,its attributes -/
 | ins (C dx:Addr) (fs:List (Str×V))
 /-- the dict of the instance at x -/
 | own (x:Addr)
 /-- the dict of an exception -/
 | xd (fs:List (Str×V))
 /-- a bound method,f of x -/
 | met (f x:Addr)
 /-- a range object lo,lo+1,.. below hi -/
 | rng (lo hi:Int)
 /-- a thing that is known to the object (the script;a dict while a loop walks it): read,never written while it is so -/
 | qP (o:Obj) (u:HO)
 /-- a code object's table -/
 | tbl (ps:Array Value)
 /-- a code object's table: whatever it holds,the codes made at these places are known and bear these names -/
 | tab (qs:List (Pos×Str))
 /-- any other thing,by what is true of its one object (a def of one's own: api a S n:=HO.ext λh=>..) -/
 | ext (φ:Heap->Prop)
abbrev Hp:=Addr->Option HO
noncomputable def upd(H:Hp)(a:Addr)(o:HO):Hp:=λb=>if b=a then some o else H b
theorem bz:upd H a o a=some o:=by unfold upd;rw[if_pos rfl]
theorem bT(h:b≠a):upd H a o b=H b:=by unfold upd;rw[if_neg h]
theorem aat:upd (upd H a o) a u=upd H a u:=by funext b;unfold upd;split<;>rfl
theorem aqZ{H:Hp}(h:H a=some o)(h':H b=some u)(d:o≠u):a≠b:=by intro e;subst e;rw[h] at h';exact d<|Qw2 h'
theorem dR{H:Hp}(h:H a=some o)(h':H b=none):a≠b:=by intro e;subst e;rw[h] at h';cases h'
def J1(h:Heap)(a:Addr)(items:Array Value):Prop:=∃o,h.get? a=some o/\o.cls = .type "tuple"/\(∃n,o.data = .seq items n)/\o.dict=none
theorem J1.is(x:J1 h a items):IsTup h a items:=let ⟨o,h1,h2,h3,_⟩:=x;⟨o,h1,h2,h3⟩
theorem J1.new(h:Heap)(items):J1 (h.push { cls:=.type "tuple",data:=.seq items }) h.objs.size items:=⟨_,Qq8 _ rfl,rfl,⟨_,rfl⟩,rfl⟩
section
variable(P:Program)(w:World)
def jt(H:Hp)(h:Heap)(a:Addr):HO->Prop
 | .lst xs=>xs.length<=sizeLine/\∃(its:List Value) (n:Nat),Vals xs its/\h.get? a=some { cls:=.type "list",data:=.seq its.toArray n }
 | .tup xs=>xs.length<=sizeLine/\∃its:List Value,Vals xs its/\J1 h a its.toArray
 | .dK kvs=>kvs.length<=sizeLine/\(a == sysModules)=false/\∃vs,KV kvs vs/\h.DictOf (cN P w) a vs
 | .dT kvs=>kvs.length<=sizeLine/\(a == sysModules)=false/\∃xs:List (List Key×Addr×Value),
   Paired (λ(p:List Key×V) (q:List Key×Addr×Value)=>p.1=q.1/\H q.2.1=some (.tup (p.1.map kV))/\RelV p.2 q.2.2) kvs xs/\
   ∃o es ep,h.get? a=some o/\o.ExactDict/\o.data = .dict es ep/\es.toList=xs.map (entryOfKey (tupleKind (cN P w)))/\(xs.map (·.1)).Nodup
 | .dN kvs=>kvs.length<=sizeLine/\(a == sysModules)=false/\∃xs:List (NK×Addr×Value),
   Paired (λ(p:NK×V×V) (q:NK×Addr×Value)=>p.1=q.1/\p.2.1 = .ref q.2.1/\RelV p.2.2 q.2.2) kvs xs/\
   ∃o es ep,h.get? a=some o/\o.ExactDict/\o.data = .dict es ep/\es.toList=xs.map (entryOfKey (afe P w))/\(xs.map (·.1)).Nodup
 | .set S n=>h.SetOf (intKind P w) a S n
 | .ins C dx fs=>H dx=some (.own a)/\fs.length<=1000/\dx≠a/\h.get? a=some (PySem.W.instObj C dx)/\
   ∃mA,h.Ns1 dx mA/\(∀f,PJ (fs.lookup f) (mA f))/\PySem.Within mA (fs.map (·.1))
 | .own _=>∃o,h.get? a=some o
 | .xd fs=>∃mA,h.Ns1 a mA/\∀f,PJ (fs.lookup f) (mA f)
 | .rng lo hi=>∃t u v,h.get? a=some { cls:=.type "range",data:=.fields #[.int lo t,.int hi u,.int 1 v] }
 | .qP o u=>h.get? a=some o/\jt H h a u
 | .tbl ps=>h.get? a=some { cls:=.none,data:=.fields ps }
 | .tab qs=>∃ps:Array Value,h.get? a=some { cls:=.none,data:=.fields ps }/\TriplesOk ps.toList/\∀q∈qs,codeAmong q.1 ps.toList=none\/∃(c:Addr) (o:Obj) (u:HO) (vs:Array Value) (t:Tok),codeAmong q.1 ps.toList=some (.ref c)/\H c=some (.qP o u)/\o.data = .fields vs/\vs[1]? = some (.str q.2 t)
 | .met f x=>h.get? a=some (PySem.W.methodObj (.ref f) (.ref x))
 | .ext φ=>φ h/\(∃o,h.get? a=some o)/\∀h1 h2:Heap,φ h1->(∀o,h1.get? a=some o->h2.get? a=some o)->φ h2
def Ak(H:Hp)(h:Heap):Prop:=∀a o,H a=some o->jt P w H h a o
end
section
variable{P:Program}{w:World}{H H':Hp}{h h':Heap}{a:Addr}{o:HO}
theorem jt.lt(x:jt P w H h a o):a<h.objs.size:=by
 cases o with
 | lst xs=>obtain⟨_,_,_,_,e⟩:=x;exact Qq3 e
 | tup xs=>obtain⟨_,_,_,p⟩:=x;exact p.is.lt
 | dK kvs=>obtain⟨_,_,_,_,o,_,_,e,_⟩:=x;exact Qq3 e
 | dT kvs=>obtain⟨_,_,_,_,o,_,_,e,_⟩:=x;exact Qq3 e
 | dN kvs=>obtain⟨_,_,_,_,o,_,_,e,_⟩:=x;exact Qq3 e
 | set S n=>obtain⟨o,_,_,_,e,_⟩:=x;exact Qq3 e
 | ins C dx fs=>obtain⟨_,_,_,e,_⟩:=x;exact Qq3 e
 | own y=>obtain⟨_,e⟩:=x;exact Qq3 e
 | xd fs=>obtain⟨_,⟨_,_,_,e,_⟩,_⟩:=x;exact Qq3 e
 | rng lo hi=>obtain⟨_,_,_,e⟩:=x;exact Qq3 e
 | qP ob u=>obtain⟨e,_⟩:=x;exact Qq3 e
 | tbl ps=>exact Qq3<|show h.get? a=some _ from x
 | tab qs=>obtain⟨_,e,_⟩:=x;exact Qq3 e
 | met f y=>exact Qq3<|show h.get? a=some _ from x
 | ext φ=>obtain⟨_,⟨_,e⟩,_⟩:=x;exact Qq3 e
theorem Paired.ane{α β:Type}{F G:α->β->Prop}:∀{l₁} {l₂},Paired F l₁ l₂->(∀a b,F a b->G a b)->Paired G l₁ l₂
 | _,_,.nil,_=>.nil
 | _,_,.cons r t,f=>.cons (f _ _ r)<|Paired.ane t f
theorem jt.stay(x:jt P w H h a o)(k:∀b u,(b=a\/H b=some (.own a))->h.get? b=some u->h'.get? b=some u)
  (ho:∀b,H b=some (.own a)->H' b=some (.own a)) (ht:∀b xs,H b=some (.tup xs)->H' b=some (.tup xs))
  (hz:∀b o u vs,o.data = .fields vs->H b=some (.qP o u)->H' b=some (.qP o u):=by intro _ _ _ _ _ q;exact q):jt P w H' h' a o:=by
 induction o with
 | lst xs=>obtain⟨z,its,n,r,e⟩:=x;exact⟨z,its,n,r,k _ _ (.inl rfl) e⟩
 | tup xs=>obtain⟨z,its,r,ob,e,c⟩:=x;exact⟨z,its,r,ob,k _ _ (.inl rfl) e,c⟩
 | dK kvs=>obtain⟨z,y,vs,r,ob,es,ep,e,c⟩:=x;exact⟨z,y,vs,r,ob,es,ep,k _ _ (.inl rfl) e,c⟩
 | dT kvs=>
  obtain⟨z,y,xs,r,ob,es,ep,e,c⟩:=x;exact⟨z,y,xs,Paired.ane r λp q z=>⟨z.1,ht _ _ z.2.1,z.2.2⟩,ob,es,ep,k _ _ (.inl rfl) e,c⟩
 | dN kvs=>obtain⟨z,y,xs,r,ob,es,ep,e,c⟩:=x;exact⟨z,y,xs,r,ob,es,ep,k _ _ (.inl rfl) e,c⟩
 | set S n=>obtain⟨ob,es,ep,t,e,c⟩:=x;exact⟨ob,es,ep,t,k _ _ (.inl rfl) e,c⟩
 | ins C dx fs=>
  obtain⟨d,z,ne,e,mA,⟨od,es,ep,e2,c⟩,r⟩:=x;exact⟨ho _ d,z,ne,k _ _ (.inl rfl) e,mA,⟨od,es,ep,k _ _ (.inr d) e2,c⟩,r⟩
 | own y=>obtain⟨ob,e⟩:=x;exact⟨ob,k _ _ (.inl rfl) e⟩
 | xd fs=>obtain⟨mA,⟨od,es,ep,e,c⟩,r⟩:=x;exact⟨mA,⟨od,es,ep,k _ _ (.inl rfl) e,c⟩,r⟩
 | rng lo hi=>obtain⟨t,u,v,e⟩:=x;exact⟨t,u,v,k _ _ (.inl rfl) e⟩
 | qP ob u ih=>obtain⟨e,q⟩:=x;exact⟨k _ _ (.inl rfl) e,ih q⟩
 | tbl ps=>
  have e:=x;exact k a _ (.inl rfl) e
 | tab qs=>
  obtain⟨ps,e,t,r⟩:=x;refine⟨ps,k a _ (.inl rfl) e,t,λq hq=>?_⟩;rcases r q hq with z|⟨c,o,u,vs,t,h1,h2,h3,h4⟩
  ·exact .inl z
  ·exact .inr ⟨c,o,u,vs,t,h1,hz c o u vs h3 h2,h3,h4⟩
 | met f y=>
  have e:=x;show h'.get? a=some (PySem.W.methodObj (.ref f)<|.ref y);exact k a _ (.inl rfl) e
 | ext φ=>obtain⟨p,⟨o,e⟩,st⟩:=x;exact⟨st _ _ p λo q=>k _ _ (.inl rfl) q,⟨o,k _ _ (.inl rfl) e⟩,st⟩
theorem Ak.lt(x:Ak P w H h)(e:H a=some o):a<h.objs.size:=(x a o e).lt
theorem Ak.fresh(x:Ak P w H h)(e:h.objs.size<=a):H a=none:=by
 cases q:H a with
 | none=>rfl
 | some u=>exact absurd (Qwx (x.lt q) e)<|Qx3 _
theorem Ak.kept(x:Ak P w H h)(k:∀b u,h.get? b=some u->h'.get? b=some u):Ak P w H h':=λa o e=>
 (x a o e).stay (λb u _ q=>k b u q) (λ_ q=>q) λ_ _ q=>q
theorem Ak.laid(x:Ak P w H h)(k:∀b u,h.get? b=some u->h'.get? b=some u)(hp:h.objs.size<=a)(new:jt P w (upd H a o) h' a o):Ak P w (upd H a o) h':=λb u e=>by
 have hn:=x.fresh hp;by_cases hb:b=a
 ·subst hb;rw[bz] at e;cases e;exact new
 ·rw[bT hb] at e;exact(x b u e).stay (λc v _ q=>k c v q) (λc q=>by rw[bT (dR q hn)];exact q) (λc xs q=>by rw[bT (dR q hn)];exact q) λc _ _ _ _ q=>by rw[bT (dR q hn)];exact q
end
def Rd(H:Hp)(a:Addr)(u:HO):Prop:=H a=some u\/∃o,H a=some (.qP o u)
theorem Rd.ok(r:Rd H a u)(x:Ak P w H h):jt P w H h a u:=by
 rcases r with r|⟨o,r⟩
 ·exact x a u r
 ·obtain⟨_,q⟩:=x a _ r;exact q
def Mut:Option HO->Prop
 | some (.lst _)=>True
 | some (.dK _)=>True
 | some (.dT _)=>True
 | some (.dN _)=>True
 | some (.set _ _)=>True
 | some (.ins _ _ _)=>True
 | some (.ext _)=>True
 | _=>False
section
variable{P:Program}{w:World}{H:Hp}{h h':Heap}{x e:Addr}{o':HO}
theorem Ak.write(ok:Ak P w H h)(mu:Mut (H x))(he:e=x\/H e=some (.own x))(k:∀b u,b≠e->h.get? b=some u->h'.get? b=some u)(heo:∃u,h'.get? e=some u)
  (new:jt P w (upd H x o') h' x o'):Ak P w (upd H x o') h':=λb u q=>by
 have aqV:∀c y,H c=some (.own y)->c≠x:=λc y r z=>by subst z;rw[r] at mu;exact mu
 have aud:∀c xs,H c=some (.tup xs)->c≠x:=λc xs r z=>by subst z;rw[r] at mu;exact mu
 by_cases hb:b=x
 ·subst hb;rw[bz] at q;cases q;exact new
 ·rw[bT hb] at q;by_cases hbe:b=e
  ·have q':H b=some (.own x):=by
    rcases he with z|z
    ·exact absurd (hbe.trans z) hb
    ·rw[hbe];exact z
   rw[q] at q';cases q';obtain⟨v,hv⟩:=heo;exact⟨v,by rw[hbe];exact hv⟩
  ·refine(ok b u q).stay (λc v hc r=>k c v ?_ r) (λc r=>by rw[bT (aqV c b r)];exact r) (λc xs r=>by rw[bT (aud c xs r)];exact r) λc _ _ _ _ r=>by rw[bT (λz=>by subst z;rw[r] at mu;exact mu)];exact r
   rcases hc with rfl|hc
   ·exact hbe
   ·rintro rfl;rcases he with z|z
    ·exact aqV c b hc z
    ·rw[hc] at z;cases z;exact hb rfl
end
structure Un(fs ex:List Addr)(H H':Hp)(h h':Heap):Prop where
 keep:∀b o,h.get? b=some o->H b=none->b ∉ fs->b ∉ ex->h'.get? b=some o
 slot:∀b o,h.get? b=some o->H b=none->b∈fs->b ∉ ex->∃sl,h'.get? b=some { o with slots:=sl }
 free:∀b o,h.get? b=some o->H b=none->b ∉ ex->H' b=none
 there:∀b o,h.get? b=some o->b ∉ ex->∃o',h'.get? b=some o'
 tups:∀b xs,H b=some (.tup xs)->H' b=some (.tup xs)
 JW:∀b o u,H b=some (.qP o u)->H' b=some (.qP o u)
 SN:∀b ps,H b=some (.tbl ps)->∃more,H' b=some (.tbl (ps++more))
 tabs:∀b qs,H b=some (.tab qs)->H' b=some (.tab qs)
section
variable{fs fs' ex ex':List Addr}{H H1 H2:Hp}{h h1 h2 h':Heap}{a x e:Addr}{o:HO}
theorem Un.any(u:Un fs ex H H1 h h1)(q:h.get? b=some ob)(n:H b=none)(hx:b ∉ ex):∃sl,h1.get? b=some { ob with slots:=sl }:=by
 by_cases hb:b∈fs
 ·exact u.slot b ob q n hb hx
 ·exact⟨ob.slots,u.keep b ob q n hb hx⟩
theorem Un.kept(k:∀b u,h.get? b=some u->h'.get? b=some u):Un fs ex H H h h':=
 ⟨λb ob q _ _ _=>k b ob q,λb ob q _ _ _=>⟨ob.slots,k b ob q⟩,λ_ _ _ n _=>n,λb ob q _=>⟨ob,k b ob q⟩,λ_ _ q=>q,λ_ _ _ q=>q,λ_ ps q=>⟨#[],by rw[q];simp⟩,λ_ _ q=>q⟩
theorem Un.refl:Un fs ex H H h h:=Un.kept λ_ _ q=>q
theorem Un.laid(k:∀b u,h.get? b=some u->h'.get? b=some u)(hp:h.objs.size<=a)(hn:H a=none):Un fs ex H (upd H a o) h h' where
 keep:=λb u q _ _ _=>k b u q
 slot:=λb u q _ _ _=>⟨u.slots,k b u q⟩
 free:=λb u q n _=>by rw[bT (Qww<|Qwx (Qq3 q) hp)];exact n
 there:=λb u q _=>⟨u,k b u q⟩
 tups:=λb xs q=>by rw[bT (dR q hn)];exact q
 JW:=λb u xs q=>by rw[bT (dR q hn)];exact q
 SN:=λb ps q=>⟨#[],by rw[bT (dR q hn),q];simp⟩
 tabs:=λb qs q=>by rw[bT (dR q hn)];exact q
theorem Un.write(mu:Mut (H x))(he:e=x\/H e=some (.own x))(k:∀b u,b≠e->h.get? b=some u->h'.get? b=some u)(heo:∃u,h'.get? e=some u):Un fs ex H (upd H x o) h h':=by
 have hx:∀b,H b=none->b≠x:=λb n z=>by subst z;rw[n] at mu;exact mu
 have hb:∀b,H b=none->b≠e:=λb n z=>by
  subst z;rcases he with r|r
  ·exact hx b n r
  ·rw[n] at r;cases r
 have hm:∀b u,H b=some u->¬Mut (some u)->b≠x:=λb u q nm z=>by subst z;rw[q] at mu;exact nm mu
 refine⟨λb u q n _ _=>k b u (hb b n) q,λb u q n _ _=>⟨u.slots,k b u (hb b n) q⟩,λb u q n _=>by rw[bT (hx b n)];exact n,λb u q _=>?_,
  λb xs q=>by rw[bT (hm b _ q λz=>z)];exact q,λb u xs q=>by rw[bT (hm b _ q λz=>z)];exact q,λb ps q=>⟨#[],by rw[bT (hm b _ q λz=>z),q];simp⟩,λb qs q=>by rw[bT (hm b _ q λz=>z)];exact q⟩
 by_cases hbe:b=e
 ·subst hbe;exact heo
 ·exact⟨u,k b u hbe q⟩
end
noncomputable def trk(h:Heap)(H:Hp):List Addr:=(List.range h.objs.size).filter λa=>(H a).isSome
def Pk(h:Heap)(H:Hp):Heap:=PySem.W.hideAll h (trk h H)
theorem acB(h)(H):(Pk h H).objs.size=h.objs.size:=PySem.W.hideAll_size _ _
theorem afS(e:h.get? b=some o)(n:H b=none):(Pk h H).get? b=some o:=
 PySem.W.hideAll_get _ e λhm=>by
  have q:=(List.mem_filter.mp hm).2;rw[n] at q;simp at q
theorem aiJ(e:(Pk h H).get? b=some o):h.get? b=some o/\H b=none:=by
 have e':=PySem.W.of_hideAll (trk h H) e;refine⟨e',?_⟩;cases q:H b with
 | none=>rfl
 | some x=>
  have hm:b∈trk h H:=List.mem_filter.mpr ⟨Qjv.mpr<|Qq3 e',by simp[q]⟩;have z:(Pk h H).get? b=none:=PySem.W.hideAll_none (trk h H) hm;rw[z] at e;cases e
noncomputable def aj4(g h:Heap)(L:Addr):List (Addr×Obj):=(List.range h.objs.size).filterMap λa=>if a=L\/(g.get? a).isSome=true then none else (h.get? a).map λo=>(a,o)
def rest(g h:Heap)(L d:Addr):List (Addr×Obj):=(aj4 g h L).filter λp=>decide (p.1≠d)
structure Mod(K:PySem.W.Frag)(mg:Str->Option Value)(base:Heap):Prop where
 qT:K.In base
 glob:base.Ns mainGlobals mg
 blt:∃mb,base.Ns builtinsNs mb/\∀x:Str,x ≠ "__name__"->mb x=bootBuiltins x
 nolimit:base.NoLimit
structure Cx where
 prog:Program
 w:World
 K:PySem.W.Frag
 mg:Str->Option Value
 base:Heap
 A:Around
 N:List Str
 s₀:Shared
 H₀:Hp
 env:Env
 outer:List Env
 stack:List Env
 ex:List Addr
 fn:Str->Bool
 calm:Bool
 pn:List (Addr×Obj)
 xe:Value->Shared->Prop
noncomputable def frs(l:List Env):List Addr:=l.filterMap (·.frame)
abbrev Cx.fs(X:Cx):List Addr:=frs X.outer
def Hg(sc:Scope)(x:Str):Prop:=sc.names.lookup x=some .local\/sc.names.lookup x=some .cell\/sc.names.lookup x=some .free
def Loc(sc:Scope)(x:Str):Prop:=sc.names.lookup x=some .local\/sc.names.lookup x=some .cell
def Look(env:Env)(h:Heap)(m:Str->Option Value)(x:Str)(u:Value):Prop:=
 (env.kindOf x=some .local/\m x=some u)\/((env.kindOf x=some .cell\/env.kindOf x=some .free)/\∃c,env.cells.lookup x=some c/\h.IsCell c (some u))
structure Cx.Ok(X:Cx):Prop where
 mod:Mod X.K X.mg X.base
 kind:X.env.scope.kind = .function
 glob:X.env.globals=mainGlobals
 blt:X.env.builtins=builtinsNs
 above:X.s₀.heap.objs.size<=X.env.locals
 inj:∀x y c,X.env.cells.lookup x=some c->X.env.cells.lookup y=some c->x=y
 has:∀x,(X.env.kindOf x=some .cell\/X.env.kindOf x=some .free)->∃c,X.env.cells.lookup x=some c
 cab:∀x c,X.fn x=true->X.env.cells.lookup x=some c->X.s₀.heap.objs.size<=c
 hd:X.calm=true->X.A.handled=none
 frames:X.A.frames=some X.stack
 U0:X.stack=X.outer\/(X.stack=X.env::X.outer/\X.env.frame=some X.env.locals)
 exf:∀b∈X.ex,b≠X.env.locals/\∀x c,X.env.cells.lookup x=some c->c≠b
 bs:∀b o,X.base.get? b=some o->X.s₀.heap.get? b=some o/\X.H₀ b=none
 bsz:X.base.objs.size<=X.s₀.heap.objs.size
 afb:∀b o,X.base.get? b=some o->b ∉ X.ex
 acN:∀b∈X.ex,b ∉ X.fs
 Nr:X.s₀.heap.FunFrames X.base X.outer
 frf:∀b∈X.fs,X.H₀ b=none
structure Inv(X:Cx)(pins:List (Addr×Obj))(σ:List (Option V))(H:Hp)(s:Shared):Prop where
 ok:X.Ok
 os:s.os=X.s₀.os
 bare:AllBare s.gens
 base:Un X.fs X.ex X.H₀ H X.s₀.heap s.heap
 loc:∃m,s.heap.Ns X.env.locals m/\∀(i:Nat) (x:Str) (v:V),X.N[i]? = some x->σ[i]? = some (some v)->Hg X.env.scope x->∃u,RelV v u/\Look X.env s.heap m x u
 cell:∀x c,X.env.cells.lookup x=some c->∃v,s.heap.IsCell c v
 free:H X.env.locals=none
 yI:∀x c,X.env.cells.lookup x=some c->H c=none\/(X.fn x=false/\∃o u,H c=some (.qP o u))
 pin:∀p∈X.pn++pins,s.heap.get? p.1=some p.2/\H p.1=none/\p.1≠X.env.locals/\p.1 ∉ X.fs/\∀v,p.2.data ≠ .cell v
 hok:Ak X.prog X.w H s.heap
 len:σ.length=X.N.length
section
variable{X:Cx}{pins:List (Addr×Obj)}{σ:List (Option V)}{H H':Hp}{s:Shared}{h':Heap}
theorem Cx.Ok.auf(ok:X.Ok)(e:X.base.get? b=some o):b ∉ X.fs:=λhb=>by
 have:=(ok.Nr.mem hb).1;rw[e] at this;cases this
theorem Inv.bs(I:Inv X pins σ H s):∀b o,X.base.get? b=some o->s.heap.get? b=some o/\H b=none:=λb o e=>
 ⟨I.base.keep b o (I.ok.bs b o e).1 (I.ok.bs b o e).2 (I.ok.auf e)<|I.ok.afb b o e,I.base.free b o (I.ok.bs b o e).1 (I.ok.bs b o e).2<|I.ok.afb b o e⟩
theorem Inv.bk(I:Inv X pins σ H s):∀b o,X.base.get? b=some o->s.heap.get? b=some o:=λb o e=>(I.bs b o e).1
theorem Inv.mod(I:Inv X pins σ H s):Mod X.K X.mg X.base:=I.ok.mod
theorem Inv.Zo(I:Inv X pins σ H s):X.K.In s.heap:=I.ok.mod.qT.keeps I.bk
theorem Inv.lt(I:Inv X pins σ H s):X.env.locals<s.heap.objs.size:=let ⟨_,hn,_⟩:=I.loc;hn.lt
theorem Inv.sz(I:Inv X pins σ H s):X.s₀.heap.objs.size<=s.heap.objs.size:=Qqy I.ok.above<|Qjy I.lt
theorem Inv.aue(I:Inv X pins σ H s){a:Addr}(h:s.heap.objs.size<=a):a ∉ X.fs:=λhb=>by
 obtain⟨_,o,ho,_⟩:=I.ok.Nr.mem hb;exact absurd (Qwx (Qq3 ho)<|Qqy I.sz h)<|Qx3 _
theorem Inv.cne(I:Inv X pins σ H s):∀x c,X.env.cells.lookup x=some c->c≠X.env.locals:=λx c e z=>by
 obtain⟨v,o,ho,hd⟩:=I.cell x c e;obtain⟨m,⟨o',es,ep,ho',hd',_⟩,_⟩:=I.loc;rw[z,ho'] at ho;cases ho;rw[hd'] at hd;cases hd
theorem Inv.Nr(I:Inv X pins σ H s):s.heap.FunFrames X.base X.outer:=by
 have all:∀l,(∀b∈frs l,b∈X.fs)->X.s₀.heap.FunFrames X.base l->s.heap.FunFrames X.base l:=by
  intro l
  induction l with
  | nil=>intro _ _;trivial
  | cons env r ih=>
   intro hs hl;obtain⟨hk,⟨L,o,hf,hn,ho,hd⟩,hr⟩:=hl;have hL:=hs L (by unfold frs;rw[List.filterMap_cons,hf];exact Qqw);obtain⟨sl,e⟩:=I.base.slot L o ho (I.ok.frf L hL) hL λz=>I.ok.acN L z hL;exact⟨hk,⟨L,_,hf,hn,e,hd⟩,ih (λb hb=>hs b (by unfold frs;rw[List.filterMap_cons,hf];exact Qqk _ hb)) hr⟩
 exact all X.outer (λ_ hb=>hb) I.ok.Nr
theorem Inv.stack(I:Inv X pins σ H s):s.heap.FunFrames X.base X.stack:=by
 rcases I.ok.U0 with e|⟨e,hf⟩
 ·rw[e];exact I.Nr
 ·rw[e];obtain⟨m,hn,_⟩:=I.loc;refine .cons (by rw[I.ok.kind];decide) hf hn ?_ I.Nr;exact Heap.get?_none_of_le<|Qqy I.ok.bsz I.ok.above
theorem Inv.Yo(I:Inv X pins σ H s):∀b∈frs X.stack,b∈X.env.locals::X.fs:=λb hb=>by
 rcases I.ok.U0 with e|⟨e,hf⟩
 ·rw[e] at hb;exact Qqk _ hb
 ·rw[e] at hb;unfold frs at hb;rw[List.filterMap_cons,hf] at hb;exact hb
theorem Inv.aaB(I:Inv X pins σ H s):∀b∈frs X.stack,H b=none:=λb hb=>by
 rcases Qq2.mp (I.Yo b hb) with e|hb
 ·rw[e];exact I.free
 ·obtain⟨_,o,ho,_⟩:=I.ok.Nr.mem hb;exact I.base.free b o ho (I.ok.frf b hb) λz=>I.ok.acN b z hb
theorem Inv.step{ch:List Addr}(I:Inv X pins σ H s)
  (hch:∀b∈ch,(b∈X.ex\/X.s₀.heap.objs.size<=b)/\b≠X.env.locals/\(∀x c,X.env.cells.lookup x=some c->c≠b)/\∀p∈X.pn++pins,p.1≠b)
  (keep:∀b o,b≠X.env.locals->b ∉ X.fs->b ∉ ch->s.heap.get? b=some o->H b=none->h'.get? b=some o)
  (slot:∀b o,b≠X.env.locals->b∈X.fs->b ∉ ch->s.heap.get? b=some o->H b=none->∃sl,h'.get? b=some { o with slots:=sl }) (free:∀b o,b ∉ ch->s.heap.get? b=some o->H b=none->H' b=none)
  (there:∀b o,b ∉ ch->s.heap.get? b=some o->∃o',h'.get? b=some o')
  (tups:∀b xs,H b=some (.tup xs)->H' b=some (.tup xs)) (JW:∀b o u,H b=some (.qP o u)->H' b=some (.qP o u)) (SN:∀b ps,H b=some (.tbl ps)->∃more,H' b=some (.tbl (ps++more)))
  (ns:∀m,s.heap.Ns X.env.locals m->h'.Ns X.env.locals m) (hok:Ak X.prog X.w H' h') (hg:AllBare g')
  (tabs:∀b qs,H b=some (.tab qs)->H' b=some (.tab qs):=by intro _ _ q;exact q) :
  Inv X pins σ H' { s with heap:=h',gens:=g',drawn:=d',toks:=t' }:=by
 have neL:∀b o,X.s₀.heap.get? b=some o->b≠X.env.locals:=λb o e=>Qww<|Qwx (Qq3 e) I.ok.above;have neC:∀b o,X.s₀.heap.get? b=some o->b ∉ X.ex->b ∉ ch:=λb o e hx hb=>by
  rcases(hch b hb).1 with z|z
  ·exact hx z
  ·exact absurd (Qwx (Qq3 e) z)<|Qx3 _
 have cellK:∀x c,X.env.cells.lookup x=some c->∀v,s.heap.IsCell c v->h'.IsCell c v:=λx c e v ⟨o,ho,hd⟩=>by
  have nch:=λz=>(hch c z).2.2.1 x c e rfl;rcases I.yI x c e with hn|⟨_,fo,fu,hz⟩
  ·by_cases hc:c∈X.fs
   ·obtain⟨sl,q⟩:=slot c o (I.cne x c e) hc nch ho hn;exact⟨_,q,hd⟩
   ·exact⟨o,keep c o (I.cne x c e) hc nch ho hn,hd⟩
  ·have e1:=(I.hok c _ hz).1;rw[ho] at e1;cases e1;exact⟨o,(hok c _<|JW c o fu hz).1,hd⟩
 refine⟨I.ok,I.os,hg,⟨λb o e n hb hx=>?_,λb o e n hb hx=>?_,λb o e n hx=>?_,λb o e hx=>?_,λb xs e=>tups b xs<|I.base.tups b xs e,λb o xs e=>JW b o xs<|I.base.JW b o xs e,λb ps e=>?_,λb qs e=>tabs b qs<|I.base.tabs b qs e⟩,?_,λx c e=>?_,?_,λx c e=>?_,λp hp=>?_,hok,I.len⟩
 ·exact keep b o (neL b o e) hb (neC b o e hx) (I.base.keep b o e n hb hx)<|I.base.free b o e n hx
 ·obtain⟨sl,e1⟩:=I.base.slot b o e n hb hx;obtain⟨sl',e2⟩:=slot b _ (neL b o e) hb (neC b o e hx) e1<|I.base.free b o e n hx;exact⟨sl',e2⟩
 ·obtain⟨o',e1⟩:=I.base.there b o e hx;exact free b o' (neC b o e hx) e1<|I.base.free b o e n hx
 ·obtain⟨o',e1⟩:=I.base.there b o e hx;exact there b o' (neC b o e hx) e1
 ·obtain⟨m1,e1⟩:=I.base.SN b ps e;obtain⟨m2,e2⟩:=SN b _ e1;exact⟨m1++m2,by rw[e2,Array.append_assoc]⟩
 ·obtain⟨m,hn,hl⟩:=I.loc;refine⟨m,ns m hn,λi x v e1 e2 e3=>?_⟩;obtain⟨u,r,l⟩:=hl i x v e1 e2 e3;refine⟨u,r,?_⟩;rcases l with l|⟨k,c,e,z⟩
  ·exact .inl l
  ·exact .inr ⟨k,c,e,cellK x c e _ z⟩
 ·obtain⟨v,z⟩:=I.cell x c e;exact⟨v,cellK x c e v z⟩
 ·obtain⟨m,⟨o,_,_,ho,_⟩,_⟩:=I.loc;exact free _ o (λz=>(hch _ z).2.1 rfl) ho I.free
 ·rcases I.yI x c e with hn|⟨h1,fo,fu,hz⟩
  ·obtain⟨v,o,ho,hd⟩:=I.cell x c e;exact .inl<|free c o (λz=>(hch c z).2.2.1 x c e rfl) ho hn
  ·exact .inr ⟨h1,fo,fu,JW c fo fu hz⟩
 ·obtain⟨e,n,ne,nf,d⟩:=I.pin p hp;have nch:=λz=>(hch p.1 z).2.2.2 p hp rfl;exact⟨keep p.1 p.2 ne nf nch e n,free p.1 p.2 nch e n,ne,nf,d⟩
theorem Inv.un(I:Inv X pins σ H s)(u:Un X.fs [] H H' s.heap h')(hok:Ak X.prog X.w H' h'):Inv X pins σ H' { s with heap:=h',toks:=t' }:=by
 obtain⟨m,⟨o,es,ep,ho,r⟩,_⟩:=id I.loc;obtain⟨sl,hL⟩:=u.any ho I.free (by simp);exact I.step (ch:=[]) (λ_ z=>nomatch z) (λb o _ hb _ e n=>u.keep b o e n hb (by simp)) (λb o _ hb _ e n=>u.slot b o e n hb (by simp)) (λb o _ e n=>u.free b o e n (by simp)) (λb o _ e=>u.there b o e (by simp)) u.tups u.JW u.SN (λm' hm=>by
  obtain⟨o',es',ep',ho',r'⟩:=hm;rw[ho] at ho';cases ho';exact⟨_,es',ep',hL,r'⟩) hok I.bare u.tabs
theorem Inv.call(I:Inv X pins σ H s)(u:Un (frs X.stack) ch H H' s.heap h')(hok:Ak X.prog X.w H' h')(hg:AllBare g')
  (hch:∀b∈ch,(b∈X.ex\/X.s₀.heap.objs.size<=b)/\b≠X.env.locals/\(∀x c,X.env.cells.lookup x=some c->c≠b)/\∀p∈X.pn++pins,p.1≠b) :
  Inv X pins σ H' { s with heap:=h',gens:=g',drawn:=d',toks:=t' }:=by
 obtain⟨m,⟨o,es,ep,ho,r⟩,_⟩:=id I.loc;obtain⟨sl,hL⟩:=u.any ho I.free λz=>(hch _ z).2.1 rfl;exact I.step hch (λb o hL hb hc e n=>u.keep b o e n (λz=>(Qq2.mp<|I.Yo b z).elim hL hb) hc) (λb o _ _ hc e n=>u.any e n hc) (λb o hc e n=>u.free b o e n hc) (λb o hc e=>u.there b o e hc) u.tups u.JW u.SN (λm' hm=>by
  obtain⟨o',es',ep',ho',r'⟩:=hm;rw[ho] at ho';cases ho';exact⟨_,es',ep',hL,r'⟩) hok hg u.tabs
theorem Inv.turned(I:Inv X pins σ H s)(k:∀b o,b≠it->s.heap.get? b=some o->h'.get? b=some o)(hn:H it=none)(hL:it≠X.env.locals)
  (h1:it∈X.ex\/X.s₀.heap.objs.size<=it) (h2:∀x c,X.env.cells.lookup x=some c->c≠it) (h3:∀p∈X.pn++pins,p.1≠it):Inv X pins σ H { s with heap:=h',toks:=t' }:=by
 have nit:∀b u,H b=some u->b≠it:=λb u e z=>by rw[z,hn] at e;cases e
 refine I.step (ch:=[it]) (λb hb=>?_) (λb o _ _ hc e _=>k b o (λz=>hc (by simp[z])) e) (λb o _ _ hc e _=>⟨o.slots,k b o (λz=>hc (by simp[z])) e⟩) (λ_ _ _ _ n=>n)
  (λb o hc e=>⟨o,k b o (λz=>hc (by simp[z])) e⟩) (λ_ _ e=>e) (λ_ _ _ e=>e) (λb ps e=>⟨#[],by rw[e];simp⟩) (λm hm=>?_) (λb u e=>?_) I.bare
 ·have e:b=it:=by simpa using hb
  subst e;exact⟨h1,hL,h2,h3⟩
 ·obtain⟨o,es,ep,ho,r⟩:=hm;exact⟨o,es,ep,k _ o (Ne.symm hL) ho,r⟩
 ·refine(I.hok b u e).stay (λc v hc q=>k c v ?_ q) (λ_ q=>q) λ_ _ q=>q;rcases hc with z|z
  ·rw[z];exact nit b u e
  ·exact nit c _ z
theorem Inv.tok(I:Inv X pins σ H s)(t):Inv X pins σ H { s with toks:=t }:=I.un Un.refl I.hok
theorem Inv.kept(I:Inv X pins σ H s)(k:∀b u,s.heap.get? b=some u->h'.get? b=some u):Inv X pins σ H { s with heap:=h',toks:=t' }:=I.un (Un.kept k)<|I.hok.kept k
theorem Inv.laid{a:Addr}(I:Inv X pins σ H s)(k:∀b u,s.heap.get? b=some u->h'.get? b=some u)(hp:s.heap.objs.size<=a)(new:jt X.prog X.w (upd H a o) h' a o) :
  Inv X pins σ (upd H a o) { s with heap:=h',toks:=t' }:=I.un (Un.laid k hp<|I.hok.fresh hp)<|I.hok.laid k hp new
theorem Inv.write(I:Inv X pins σ H s)(mu:Mut (H x))(he:e=x\/H e=some (.own x))(k:∀b u,b≠e->s.heap.get? b=some u->h'.get? b=some u)(heo:∃u,h'.get? e=some u)
  (new:jt X.prog X.w (upd H x o) h' x o):Inv X pins σ (upd H x o) { s with heap:=h',toks:=t' }:=I.un (Un.write mu he k heo)<|I.hok.write mu he k heo new
theorem Inv.aaJ(I:Inv X pins σ H s)(h:∀p∈akM,s.heap.get? p.1=some p.2/\H p.1=none/\p.1≠X.env.locals/\p.1 ∉ X.fs/\∀v,p.2.data ≠ .cell v):Inv X akM σ H s:=
 ⟨I.ok,I.os,I.bare,I.base,I.loc,I.cell,I.free,I.yI,λp hp=>(Qq6.mp hp).elim (λz=>I.pin p<|List.mem_append_left _ z)<|h p,I.hok,I.len⟩
theorem Wk{N:List Str}(hN:N.Nodup){i j:Nat}(a:N[i]? = some x)(b:N[j]? = some x):i=j:=by obtain⟨h1,e1⟩:=Qq9.mp a;obtain⟨h2,e2⟩:=Qq9.mp b;exact(List.getElem_inj hN).mp<|e1.trans e2.symm
theorem Qd(I:Inv X pins σ H s)(hN:X.N.Nodup)(hi:X.N[i]? = some x)(hx:Loc X.env.scope x)(r:RelV v u)
  (h:∀s',Inv X pins (σ.set i (some v)) H s'->(∃a,Heap.SameBut a s.heap s'.heap/\(a=X.env.locals\/X.env.cells.lookup x=some a))->Q () s') (hf:X.fn x=true\/X.env.scope.names.lookup x=some .local:=by first|exact .inl rfl|exact .inr rfl|assumption):wpAny M A (storeName X.env x u) Q E s:=by
 obtain⟨m,hn,hl⟩:=id I.loc;have hcls:(X.env.scope.kind == .class||(X.env.scope.kind == .module&&X.env.locals != X.env.globals))=false:=by rw[I.ok.kind];rfl
 have hiσ:i<σ.length:=by rw[I.len];exact(Qq9.mp hi).1
 have cne:=I.cne;have tracked:∀{a} {h'},(∃o,s.heap.get? a=some o/\H a=none)->Heap.SameBut a s.heap h'->Ak X.prog X.w H h':=λ{a h'} ha hs b ob e=>by
  obtain⟨_,_,hfree⟩:=ha;refine(I.hok b ob e).stay (λc w' hc q=>(hs.2 c ?_).trans q) (λ_ q=>q) λ_ _ q=>q;rintro rfl;rcases hc with rfl|hc
  ·rw[hfree] at e;cases e
  ·rw[hfree] at hc;cases hc
 rcases hx with hk|hk
 ·refine wpAny_storeName_local hk hn (λh' hn' hs=>?_) hcls;obtain⟨oL,_,_,hoL,_⟩:=id hn;refine h _ ⟨I.ok,I.os,I.bare,⟨λb o e n hb hx=>?_,λb o e n hb hx=>?_,I.base.free,λb o e hx=>?_,I.base.tups,I.base.JW,I.base.SN,I.base.tabs⟩,⟨_,hn',λj y v' e1 e2 e3=>?_⟩,λy c e=>?_,I.free,I.yI,λp hp=>?_,tracked ⟨oL,hoL,I.free⟩ hs,by simpa using I.len⟩ ⟨_,hs,.inl rfl⟩
  ·exact(hs.2 b<|Qww<|Qwx (Qq3 e) I.ok.above).trans<|I.base.keep b o e n hb hx
  ·obtain⟨sl,e1⟩:=I.base.slot b o e n hb hx;exact⟨sl,(hs.2 b<|Qww<|Qwx (Qq3 e) I.ok.above).trans e1⟩
  ·obtain⟨o',e1⟩:=I.base.there b o e hx;exact⟨o',(hs.2 b<|Qww<|Qwx (Qq3 e) I.ok.above).trans e1⟩
  ·by_cases hj:j=i
   ·subst hj;rw[hi] at e1;cases e1;rw[Qxv hiσ] at e2;cases e2;exact⟨u,r,.inl ⟨hk,by simp⟩⟩
   ·rw[Qq5 (Ne.symm hj)] at e2;obtain⟨u',r',q⟩:=hl j y v' e1 e2 e3;refine⟨u',r',?_⟩;rcases q with ⟨k,e⟩|⟨k,c,e,z⟩
    ·refine .inl ⟨k,?_⟩;have:y≠x:=λe=>hj<|Wk hN e1<|e ▸ hi;simp[this,e]
    ·exact .inr ⟨k,c,e,z.sameBut hs<|cne y c e⟩
  ·obtain⟨w',z⟩:=I.cell y c e;exact⟨w',z.sameBut hs<|cne y c e⟩
  ·obtain⟨e,n,ne,nf,d⟩:=I.pin p hp;exact⟨(hs.2 p.1 ne).trans e,n,ne,nf,d⟩
 ·have hfn:X.fn x=true:=by
   rcases hf with z|z
   ·exact z
   ·rw[z] at hk;cases hk
  obtain⟨c,hc⟩:=I.ok.has x<|.inl hk;obtain⟨w',z⟩:=I.cell x c hc;refine wpAny_storeName_cell I.ok.kind hk hc z<|λh' hc' hs=>?_;obtain⟨oc,hoc,auH⟩:=id z;refine h { s with heap:=h' } ⟨I.ok,I.os,I.bare,⟨λb o e n hb hx=>?_,λb o e n hb hx=>?_,I.base.free,λb o e hx=>?_,I.base.tups,I.base.JW,I.base.SN,I.base.tabs⟩,⟨m,hn.sameBut hs<|Ne.symm<|cne x c hc,λj y v' e1 e2 e3=>?_⟩,λy c' e=>?_,I.free,I.yI,λp hp=>?_,tracked ⟨oc,hoc,(I.yI x c hc).resolve_right λz=>by rw[hfn] at z;cases z.1⟩ hs,by simpa using I.len⟩ ⟨c,hs,.inr hc⟩
  ·exact(hs.2 b<|Qww<|Qwx (Qq3 e)<|I.ok.cab x c hfn hc).trans<|I.base.keep b o e n hb hx
  ·obtain⟨sl,e1⟩:=I.base.slot b o e n hb hx;exact⟨sl,(hs.2 b<|Qww<|Qwx (Qq3 e)<|I.ok.cab x c hfn hc).trans e1⟩
  ·obtain⟨o',e1⟩:=I.base.there b o e hx;exact⟨o',(hs.2 b<|Qww<|Qwx (Qq3 e)<|I.ok.cab x c hfn hc).trans e1⟩
  ·by_cases hj:j=i
   ·subst hj;rw[hi] at e1;cases e1;rw[Qxv hiσ] at e2;cases e2;exact⟨u,r,.inr ⟨.inl hk,c,hc,hc'⟩⟩
   ·rw[Qq5 (Ne.symm hj)] at e2;obtain⟨u',r',q⟩:=hl j y v' e1 e2 e3;refine⟨u',r',?_⟩;rcases q with q|⟨k,c',e,z'⟩
    ·exact .inl q
    ·refine .inr ⟨k,c',e,z'.sameBut hs ?_⟩;rintro rfl;exact hj<|Wk hN e1<|I.ok.inj _ _ _ e hc ▸ hi
  ·by_cases hcc:c'=c
   ·subst hcc;exact⟨_,hc'⟩
   ·obtain⟨w2,z2⟩:=I.cell y c' e;exact⟨w2,z2.sameBut hs hcc⟩
  ·obtain⟨e,n,ne,nf,d⟩:=I.pin p hp;refine⟨(hs.2 p.1 ?_).trans e,n,ne,nf,d⟩;intro q;rw[q,hoc] at e;have q':=Qw2 e;exact d w' (by rw[<-q'];exact auH)
theorem KC(I:Inv X pins σ H s)(hN:X.N.Nodup)(hi:X.N[i]? = some x)(hx:Loc X.env.scope x)(r:RelV v u)
  (h:∀s',Inv X pins (σ.set i (some v)) H s'->Q () s') (hf:X.fn x=true\/X.env.scope.names.lookup x=some .local:=by first|exact .inl rfl|exact .inr rfl|assumption):wpAny M A (storeName X.env x u) Q E s:=
 Qd I hN hi hx r (λs' I' _=>h s' I') hf
theorem Inv.call'(I:Inv X pins σ H s)(ho:s'.os=s.os)(u:Un (frs X.stack) ch H H' s.heap s'.heap)(hok:Ak X.prog X.w H' s'.heap)(hg:AllBare s'.gens)
  (hch:∀b∈ch,(b∈X.ex\/X.s₀.heap.objs.size<=b)/\b≠X.env.locals/\(∀x c,X.env.cells.lookup x=some c->c≠b)/\∀p∈X.pn++pins,p.1≠b):Inv X pins σ H' s':=by
 obtain⟨h',g',d',t',o'⟩:=s';have e:=ho;subst e;exact I.call u hok hg hch
end
abbrev XK:=Value->Option Addr->Hp->Prop
abbrev St:=List (Option V)
abbrev VK:=V->Hp->Prop
abbrev TE:=St->Hp->VK->Prop
abbrev TT:=St->Hp->(Bool->Hp->Prop)->Prop
abbrev TA:=St->Hp->(List V->Hp->Prop)->Prop
structure Ends where
 nx:St->Hp->Prop
 rt:VK
 bk:St->Hp->Prop:=λ_ _=>False
 ct:St->Hp->Prop:=λ_ _=>False
abbrev TS:=Ends->St->Hp->Prop
inductive EP (X:Cx) (pins:List (Addr×Obj)) (σ:St) (Q:VK) (u:Value) (s':Shared):Prop
 | mk (v:V) (H':Hp) (_:Inv X pins σ H' s') (_:RelV v u) (_:Q v H'):EP X pins σ Q u s'
inductive TP (X:Cx) (pins:List (Addr×Obj)) (σ:St) (Q:Bool->Hp->Prop) (b:Bool) (s':Shared):Prop
 | mk (H':Hp) (_:Inv X pins σ H' s') (_:Q b H'):TP X pins σ Q b s'
inductive AP (X:Cx) (pins:List (Addr×Obj)) (σ:St) (Q:List V->Hp->Prop) (us:List Value) (s':Shared):Prop
 | mk (vs:List V) (H':Hp) (_:Inv X pins σ H' s') (_:Vals vs us) (_:Q vs H'):AP X pins σ Q us s'
def SP(X:Cx)(pins:List (Addr×Obj))(D:Ends)(f:Flow)(s':Shared):Prop:=
 match f with
 | .next=>∃σ' H',Inv X pins σ' H' s'/\D.nx σ' H'
 | .brk=>∃σ' H',Inv X pins σ' H' s'/\D.bk σ' H'
 | .cont=>∃σ' H',Inv X pins σ' H' s'/\D.ct σ' H'
 | .ret u=>∃v σ' H',Inv X pins σ' H' s'/\RelV v u/\D.rt v H'
def PE(X:Cx)(e:Expr)(t:TE):Prop:=
 ∀(pins:List (Addr×Obj)) (s:Shared) (σ:St) (H:Hp) (Q:VK),Inv X pins σ H s->t σ H Q->wpAny (model X.prog X.w) X.A (eval e X.env) (EP X pins σ Q) X.xe s
def PT(X:Cx)(e:Expr)(t:TT):Prop:=
 ∀(pins:List (Addr×Obj)) (s:Shared) (σ:St) (H:Hp) (Q:Bool->Hp->Prop),Inv X pins σ H s->t σ H Q->wpAny (model X.prog X.w) X.A (isTrue e X.env (eval e X.env)) (TP X pins σ Q) X.xe s
def PW(X:Cx)(e:Expr)(t:TT):Prop:=
 ∀(whole:Sem Value) (pins:List (Addr×Obj)) (s:Shared) (σ:St) (H:Hp) (Q:Bool->Hp->Prop),Inv X pins σ H s->t σ H Q->wpAny (model X.prog X.w) X.A (isTrue e X.env whole) (TP X pins σ Q) X.xe s
theorem PW.pt(h:PW X e t):PT X e t:=h _
def PA(X:Cx)(es:List Expr)(t:TA):Prop:=
 ∀(pos:Pos) (pins:List (Addr×Obj)) (s:Shared) (σ:St) (H:Hp) (Q:List V->Hp->Prop),Inv X pins σ H s->t σ H Q->wpAny (model X.prog X.w) X.A (spliced (backTo pos (starEach es X.env))) (AP X pins σ Q) X.xe s
def PS(X:Cx)(st:Stmt)(t:TS):Prop:=
 ∀(pins:List (Addr×Obj)) (s:Shared) (σ:St) (H:Hp) (D:Ends),Inv X pins σ H s->t D σ H->wpAny (model X.prog X.w) X.A (exec st X.env) (SP X pins D) X.xe s
def Xx(X:Cx)(st:List Stmt)(t:TS):Prop:=
 ∀(pins:List (Addr×Obj)) (s:Shared) (σ:St) (H:Hp) (D:Ends),Inv X pins σ H s->t D σ H->wpAny (model X.prog X.w) X.A (execs st X.env) (SP X pins D) X.xe s
theorem gP{α:Type}{t:Sem α}{Q Q':α->Shared->Prop}(h:wpAny M A t Q E s)(hQ:∀a s,Q a s->Q' a s):wpAny M A t Q' E s:=Qw7 h hQ λ_ _ x=>x
section
variable{X:Cx}
def adX(i:Nat):TE:=λσ H Q=>∃v,σ[i]? = some (some v)/\Q v H
def tC(v:V):TE:=λ_ H Q=>Q v H
theorem lH{pos:Pos}(hN:X.N[i]? = some x)(hv:Hg X.env.scope x)(hd:qx x:=by decide)(hcd:Bt x:=by decide):PE X (.Name x pos) (adX i):=by
 intro pins s σ H Q I h;obtain⟨v,e,h⟩:=h;obtain⟨m,hn,hl⟩:=I.loc;obtain⟨u,r,l⟩:=hl i x v hN e hv;have fin:EP X pins σ Q u s:=⟨v,H,I,r,h⟩;rcases l with ⟨hk,hm⟩|⟨hk,c,hc,hcell⟩
 ·exact wpAny_Name (wpAny_loadName_local I.ok.kind hk hn hm fin) hd
 ·rcases hk with hk|hk
  ·exact wpAny_Name (wpAny_loadName_cell I.ok.kind hk hc hcell fin) hd
  ·exact wpAny_Name (wpAny_loadName_free I.ok.kind hk hc hcell fin hcd) hd
theorem aeQ{i j pos}:PE X (.Constant (.int i) j pos) (tC (.int i)):=λ_ _ _ H _ I h=>wpAny_Constant_int ⟨.int i,H,I.tok _,⟨_,rfl⟩,h⟩
theorem aqF{b j pos}:PE X (.Constant (.bool b) j pos) (tC (.bl b)):=λ_ _ _ H _ I h=>Constant_bool ⟨.bl b,H,I,rfl,h⟩
theorem amt{j pos}:PE X (.Constant .none j pos) (tC .non):=λ_ _ _ H _ I h=>Constant_none ⟨.non,H,I,rfl,h⟩
theorem amo{x j pos}:PE X (.Constant (.str x) j pos) (tC (.str x)):=λ_ _ _ H _ I h=>Calls.Constant_str ⟨.str x,H,I.tok _,⟨_,rfl⟩,h⟩
def Gl(X:Cx)(x:Str):Prop:=X.env.kindOf x=some .globalImplicit
theorem Ub{σ:St}(I:Inv X pins σ H s)(hg:Gl X x)(hm:X.mg x=some u)(h:Q u s)
  (hd:qx x:=by decide):wpAny (model X.prog X.w) X.A (eval (.Name x pos) X.env) Q E s:=
 Calls.Name_function_global I.ok.kind hg (Calls.loadGlobal_global (by rw[I.ok.glob];exact I.mod.glob.keeps I.bk) hm h) hd
theorem zG{E:Value->Shared->Prop}{σ:St}{pos:Pos}(I:Inv X pins σ H s)(hg:Gl X x)(hm:X.mg x=none)(hv:bootBuiltins x=some u)(h:Q u s)
  (hn:x ≠ "__name__":=by decide) (hd:qx x:=by decide):wpAny (model X.prog X.w) X.A (eval (.Name x pos) X.env) Q E s:=by
 obtain⟨mb,h1,h2⟩:=I.mod.blt;exact Calls.Name_function_global I.ok.kind hg (Calls.loadGlobal_builtin (by rw[I.ok.glob];exact I.mod.glob.keeps I.bk) hm (by rw[I.ok.blt];exact h1.keeps I.bk) ((h2 x hn).trans hv) h) hd
theorem TY(hg:Gl X x)(hm:X.mg x=some u)(r:RelV v u)(hd:qx x:=by decide):PE X (.Name x pos) (tC v):=
 λ_ _ _ H _ I h=>Ub I hg hm ⟨v,H,I,r,h⟩ hd
theorem aiB{pos:Pos}(hg:Gl X x)(hm:X.mg x=none)(hv:bootBuiltins x=some u)(r:RelV v u)(hn:x ≠ "__name__":=by decide)(hd:qx x:=by decide):PE X (.Name x pos) (tC v):=
 λ_ _ _ H _ I h=>zG I hg hm hv ⟨v,H,I,r,h⟩ hn hd
variable{a b:Expr}{ta tb:TE}{pos:Pos}
def PC(X:Cx)(op:CmpOp)(a b:Expr)(t:TE):Prop:=
 ∀(pins:List (Addr×Obj)) (s:Shared) (σ:St) (H:Hp) (Q:VK),Inv X pins σ H s->t σ H Q->
  wpAny (model X.prog X.w) X.A (eval a X.env) (λv s₁=>wpAny (model X.prog X.w) X.A (eval b X.env) (λu s₂=>wpAny (model X.prog X.w) X.A (compareOp op v u) (EP X pins σ Q) X.xe s₂) X.xe s₁) X.xe s
def tB(t:TE):TT:=λσ H Q=>t σ H λx H1=>∃c,x = .bl c/\Q c H1
theorem amg(h:PC X op a b t)(h1:behindInMarks op b=false:=by first|exact aqX _ (by decide) (by decide)|rfl):PT X (.Compare a [op] [b] pos) (tB t):=by intro pins s σ H Q I hw;refine wpAny_isTrue_Compare1 (gP (h pins s σ H _ I hw) λv s1 h1=>gP h1 λu s2 h2=>gP h2 λc s3 ⟨x,H1,I1,r1,q1⟩=>?_) h1;obtain⟨d,rfl,q⟩:=q1;cases r1;exact Qx0 ⟨H1,I1,q⟩
theorem ame(h:PE X e t)(he:∀whole,isTrue e X.env whole=(do let v <-whole;standAt e.pos;holding [v] (truthy v)):=by intro _;rfl):PT X e (tB t):=by intro pins s σ H Q I hw;refine isTrue_plain (gP (h pins s σ H _ I hw) λv s1 ⟨x,H1,I1,r1,q1⟩=>?_)<|he _;obtain⟨d,rfl,q⟩:=q1;cases r1;exact Qx0 ⟨H1,I1,q⟩
variable{tA tB':TT}{rest:List Expr}
def atL(t u:TT):TT:=λσ H Q=>t σ H λc H1=>if c=true then u σ H1 Q else Q false H1
def tOr(t u:TT):TT:=λσ H Q=>t σ H λc H1=>if c=true then Q true H1 else u σ H1 Q
def atD(t:TT):TT:=λσ H Q=>t σ H λc H1=>Q (!c) H1
theorem pw_and1(ha:PT X a tA):PW X (.BoolOp .And [a] pos) tA:=by
 intro wh pins s σ H Q I h;refine isTrue_and<|gP (ha pins s σ H Q I h) λc s1 e=>?_;cases c with
 | true=>exact isTrue_and_nil e
 | false=>exact e
theorem pw_or1(ha:PT X a tA):PW X (.BoolOp .Or [a] pos) tA:=by
 intro wh pins s σ H Q I h;refine isTrue_or<|gP (ha pins s σ H Q I h) λc s1 e=>?_;cases c with
 | false=>exact isTrue_or_nil e
 | true=>exact e
theorem pw_and(ha:PT X a tA)(hb:PW X (.BoolOp .And (b::rest) pos) tB'):PW X (.BoolOp .And (a::b::rest) pos) (atL tA tB'):=by
 intro wh pins s σ H Q I h;refine isTrue_and<|gP (ha pins s σ H _ I h) λc s1 ⟨H1,I1,q1⟩=>?_;cases c with
 | true=>exact hb wh pins s1 σ H1 Q I1 q1
 | false=>exact⟨H1,I1,q1⟩
theorem pw_or(ha:PT X a tA)(hb:PW X (.BoolOp .Or (b::rest) pos) tB'):PW X (.BoolOp .Or (a::b::rest) pos) (tOr tA tB'):=by
 intro wh pins s σ H Q I h;refine isTrue_or<|gP (ha pins s σ H _ I h) λc s1 ⟨H1,I1,q1⟩=>?_;cases c with
 | true=>exact⟨H1,I1,q1⟩
 | false=>exact hb wh pins s1 σ H1 Q I1 q1
theorem amf(ha:PT X a tA):PT X (.UnaryOp .Not a pos) (atD tA):=by intro pins s σ H Q I h;exact isTrue_not<|gP (ha pins s σ H (λc H1=>Q (!c) H1) I h) λc s1 ⟨H1,I1,q1⟩=>⟨H1,I1,q1⟩
def apV(ta tb:TE):TE:=λσ H Q=>ta σ H λx H1=>∃c,x = .bl c/\if c=true then tb σ H1 Q else Q (.bl false) H1
def atB(ta tb:TE):TE:=λσ H Q=>ta σ H λx H1=>∃c,x = .bl c/\if c=true then Q (.bl true) H1 else tb σ H1 Q
def apR(ta:TE):TE:=λσ H Q=>ta σ H λx H1=>∃c,x = .bl c/\Q (.bl (!c)) H1
theorem amr{op}(h:PE X a t):PE X (.BoolOp op [a] pos) t:=λpins s σ H Q I hw=>BoolOp_one<|h pins s σ H Q I hw
theorem amv(ha:PE X a ta)(hb:PE X (.BoolOp .And (b::rest) pos) tb):PE X (.BoolOp .And (a::b::rest) pos) (apV ta tb):=by
 intro pins s σ H Q I h;refine BoolOp_and<|gP (ha pins s σ H _ I h) λv s1 ⟨x,H1,I1,r1,q1⟩=>?_;obtain⟨c,rfl,q1⟩:=q1;cases r1;refine Qx0 ?_;cases c with
 | true=>exact hb pins s1 σ H1 Q I1 q1
 | false=>exact⟨.bl false,H1,I1,rfl,q1⟩
theorem aqD(ha:PE X a ta)(hb:PE X (.BoolOp .Or (b::rest) pos) tb):PE X (.BoolOp .Or (a::b::rest) pos) (atB ta tb):=by
 intro pins s σ H Q I h;refine BoolOp_or<|gP (ha pins s σ H _ I h) λv s1 ⟨x,H1,I1,r1,q1⟩=>?_;obtain⟨c,rfl,q1⟩:=q1;cases r1;refine Qx0 ?_;cases c with
 | false=>exact hb pins s1 σ H1 Q I1 q1
 | true=>exact⟨.bl true,H1,I1,rfl,q1⟩
theorem ams(ha:PE X a ta):PE X (.UnaryOp .Not a pos) (apR ta):=by intro pins s σ H Q I h;refine UnaryOp_<|gP (ha pins s σ H _ I h) λv s1 ⟨x,H1,I1,r1,q1⟩=>?_;obtain⟨c,rfl,q1⟩:=q1;cases r1;exact not_of<|Qx0 ⟨.bl<|!c,H1,I1,rfl,q1⟩
end
def uR(K:PySem.W.Frag)(H:Hp)(a:Addr)(xs:List V):Prop:=
 Rd H a (.lst xs)\/
  ∃(o:Obj) (its:Array Value) (n:Nat),K.lookup a=some o/\o.cls = .type "list"/\o.dict=none/\o.data = .seq its n/\its.size<=sizeLine/\Vals xs its.toList
def qe(K:PySem.W.Frag)(H:Hp)(a:Addr)(xs:List V):Prop:=
 Rd H a (.tup xs)\/
  ∃(o:Obj) (its:Array Value) (n:Nat),K.lookup a=some o/\o.cls = .type "tuple"/\o.dict=none/\o.data = .seq its n/\its.size<=sizeLine/\Vals xs its.toList
noncomputable def au9:Value->Option V
 | .none=>some .non
 | .bool b=>some (.bl b)
 | .int i _=>some (.int i)
 | .str x _=>some (.str x)
 | .bytes b _=>some (.byt b)
 | .float b _=>some (.flt b)
 | .ref a=>some (.ref a)
 | .type n=>some (.ty n)
 | _=>none
theorem RelV.abs(r:RelV x u):au9 u=some x:=by
 cases x with
 | non=>cases r;rfl
 | bl _=>cases r;rfl
 | int _=>obtain⟨t,rfl⟩:=r;rfl
 | str _=>obtain⟨t,rfl⟩:=r;rfl
 | byt _=>obtain⟨t,rfl⟩:=r;rfl
 | flt _=>obtain⟨t,rfl⟩:=r;rfl
 | ref _=>cases r;rfl
 | ty _=>cases r;rfl
theorem RelV.inj(r:RelV x u)(q:RelV y u):x=y:=Qw2<|r.abs.symm.trans q.abs
theorem Vals.inj:∀{xs ys} {us},Vals xs us->Vals ys us->xs=ys
 | _,_,_,.nil,.nil=>rfl
 | _,_,_,.cons r t,.cons r' t'=>by rw[r.inj r',Vals.inj t t']
section
variable{X:Cx}{pins:List (Addr×Obj)}{σ:St}{H:Hp}{s:Shared}{a:Addr}{xs ys:List V}
theorem uR.of{K:PySem.W.Frag}(h:H a=some (.lst xs)):uR K H a xs:=.inl<|.inl h
theorem qe.of{K:PySem.W.Frag}(h:H a=some (.tup xs)):qe K H a xs:=.inl<|.inl h
theorem Inv.list(I:Inv X pins σ H s)(h:uR X.K H a xs):∃its,Vals xs its/\PlainL s.heap a its.toArray/\xs.length<=sizeLine:=by
 rcases h with h|⟨o,its,n,hk,hc,hd,hs,hz,r⟩
 ·obtain⟨z,its,n,r,e⟩:=h.ok I.hok;exact⟨its,r,⟨_,n,e,rfl,rfl,rfl⟩,z⟩
 ·refine⟨its.toList,r,⟨o,n,I.Zo a o hk,hc,hd,by simpa using hs⟩,?_⟩;have e:=r.length;simp[Qz3] at e;omega
theorem Inv.tuple(I:Inv X pins σ H s)(h:qe X.K H a xs):∃its,Vals xs its/\IsTup s.heap a its.toArray/\xs.length<=sizeLine:=by
 rcases h with h|⟨o,its,n,hk,hc,hdn,hs,hz,r⟩
 ·obtain⟨z,its,r,p⟩:=h.ok I.hok;exact⟨its,r,p.is,z⟩
 ·refine⟨its.toList,r,⟨o,I.Zo a o hk,hc,n,by simpa using hs⟩,?_⟩;have e:=r.length;simp[Qz3] at e;omega
theorem Inv.afn(I:Inv X pins σ H s)(h:uR X.K H a xs)(h':uR X.K H a ys):xs=ys:=by
 obtain⟨its,r,⟨o,n,e,_,_,d⟩,_⟩:=I.list h;obtain⟨its',r',⟨o',n',e',_,_,d'⟩,_⟩:=I.list h';rw[e] at e';cases e';rw[d] at d';injection d' with d1 _
 have:its=its':=by simpa using Qx7 Array.toList d1
 subst this;exact r.inj r'
theorem Inv.Dl(I:Inv X pins σ H s)(h:qe X.K H a xs)(h':qe X.K H a ys):xs=ys:=by
 obtain⟨its,r,⟨o,e,_,n,d⟩,_⟩:=I.tuple h;obtain⟨its',r',⟨o',e',_,n',d'⟩,_⟩:=I.tuple h';rw[e] at e';cases e';rw[d] at d';injection d' with d1 _
 have:its=its':=by simpa using Qx7 Array.toList d1
 subst this;exact r.inj r'
end
abbrev Cx.wish(X:Cx)(E:Value->Shared->Prop):Cx:={ X with xe:=E }
abbrev Cx.nox(X:Cx):Cx:=X.wish λ_ _=>False
theorem Cx.Ok.wish{X:Cx}(ok:X.Ok)(E):(X.wish E).Ok:=
 ⟨ok.mod,ok.kind,ok.glob,ok.blt,ok.above,ok.inj,ok.has,ok.cab,ok.hd,ok.frames,ok.U0,ok.exf,ok.bs,ok.bsz,ok.afb,ok.acN,ok.Nr,ok.frf⟩
theorem Cx.Ok.wQ{X:Cx}(ok:(X.wish E).Ok):X.Ok:=
 ⟨ok.mod,ok.kind,ok.glob,ok.blt,ok.above,ok.inj,ok.has,ok.cab,ok.hd,ok.frames,ok.U0,ok.exf,ok.bs,ok.bsz,ok.afb,ok.acN,ok.Nr,ok.frf⟩
section
variable{X:Cx}{pins:List (Addr×Obj)}{σ:St}{H:Hp}{s:Shared}{E:Value->Shared->Prop}
theorem Inv.wish(I:Inv X pins σ H s)(E):Inv (X.wish E) pins σ H s:=⟨I.ok.wish E,I.os,I.bare,I.base,I.loc,I.cell,I.free,I.yI,I.pin,I.hok,I.len⟩
theorem Inv.wQ(I:Inv (X.wish E) pins σ H s):Inv X pins σ H s:=⟨I.ok.wQ,I.os,I.bare,I.base,I.loc,I.cell,I.free,I.yI,I.pin,I.hok,I.len⟩
theorem SP.wQ(h:SP (X.wish E) pins D f s'):SP X pins D f s':=by
 cases f with
 | next=>obtain⟨σ',H',I,q⟩:=h;exact⟨σ',H',I.wQ,q⟩
 | brk=>obtain⟨σ',H',I,q⟩:=h;exact⟨σ',H',I.wQ,q⟩
 | cont=>obtain⟨σ',H',I,q⟩:=h;exact⟨σ',H',I.wQ,q⟩
 | ret u=>obtain⟨v,σ',H',I,r,q⟩:=h;exact⟨v,σ',H',I.wQ,r,q⟩
theorem Xx.nox{st:List Stmt}(h:Xx X.nox st t):Xx X st t:=λpins s σ H D I hw=>
 Qw7 (h pins s σ H D (I.wish _) hw) (λ_ _ q=>q.wQ) λ_ _ z=>False.elim z
end
section
variable{X:Cx}{st:Stmt}{rest:List Stmt}{t u:TS}{e:Expr}{te:TE}{pos:Pos}
def apS:TS:=λD σ H=>D.nx σ H
def atx(t u:TS):TS:=λD σ H=>t { D with nx:=u D } σ H
theorem aim:Xx X [] apS:=λ_ _ σ H _ I h=>wpAny_execs_nil ⟨σ,H,I,h⟩
theorem aeF(h1:PS X st t)(h2:Xx X rest u):Xx X (st::rest) (atx t u):=by
 intro pins s σ H D I h;refine wpAny_execs_cons<|gP (h1 pins s σ H { D with nx:=u D } I h) λf s1 q=>?_;cases f with
 | next=>
  obtain⟨σ',H',I',q⟩:=q;exact h2 pins s1 σ' H' D I' q
 | ret v=>exact q
 | brk=>exact q
 | cont=>exact q
theorem ail(h1:PS X st t):Xx X [st] t:=by
 intro pins s σ H D I h;refine wpAny_execs_cons<|gP (h1 pins s σ H D I h) λf s1 q=>?_;cases f with
 | next=>exact wpAny_execs_nil q
 | ret v=>exact q
 | brk=>exact q
 | cont=>exact q
theorem Inv.quiet{σ:St}(I:Inv X pins σ H s):interactive X.env=false:=by simp[interactive,I.ok.kind]
def apT(te:TE):TS:=λD σ H=>te σ H λ_ H1=>D.nx σ H1
theorem ain(he:PE X e te)(hs:swapsWith e none pos.line X.env=pure false:=by rfl):PS X (.Expr e pos) (apT te):=by intro pins s σ H D I h;exact wpAny_Expr_any (gP (he pins s σ H _ I h) λv s1 ⟨x,H1,I1,r1,q1⟩=>⟨σ,H1,I1,q1⟩) I.quiet hs
def atA(te:TE):TS:=λD σ H=>te σ H D.rt
theorem aeI(he:PE X e te):PS X (.Return (some e) pos) (atA te):=by intro pins s σ H D I h;exact wpAny_Return_some<|gP (he pins s σ H _ I h) λv s1 ⟨x,H1,I1,r1,q1⟩=>⟨x,σ,H1,I1,r1,q1⟩
def atG(c:TT)(t u:TS):TS:=λD σ H=>c σ H λb H1=>if b=true then t D σ H1 else u D σ H1
theorem aqy(hc:PT X c tc)(ha:Xx X a t)(hb:Xx X b u):PS X (.If c a b pos) (atG tc t u):=by
 intro pins s σ H D I h;refine wpAny_If<|gP (hc pins s σ H _ I h) λd s1 ⟨H1,I1,q1⟩=>?_;cases d with
 | true=>exact ha pins s1 σ H1 D I1 q1
 | false=>exact hb pins s1 σ H1 D I1 q1
end
abbrev TG:=V->St->Hp->(St->Hp->Prop)->Prop
abbrev TGs:=List V->St->Hp->(St->Hp->Prop)->Prop
def PG(X:Cx)(target:Expr)(t:TG):Prop:=
 ∀(pins:List (Addr×Obj)) (s:Shared) (σ:St) (H:Hp) (v:V) (u:Value) (Q:St->Hp->Prop),Inv X pins σ H s->RelV v u->t v σ H Q->
  wpAny (model X.prog X.w) X.A (assign target X.env u) (λ_ s'=>∃σ' H',Inv X pins σ' H' s'/\Q σ' H') X.xe s
def PGs(X:Cx)(ts:List Expr)(t:TGs):Prop:=
 ∀(pins:List (Addr×Obj)) (s:Shared) (σ:St) (H:Hp) (vs:List V) (us:List Value) (Q:St->Hp->Prop),Inv X pins σ H s->Vals vs us->t vs σ H Q->
  wpAny (model X.prog X.w) X.A (assignInOrder ((assignEach ts X.env).map (·.2)) us) (λ_ s'=>∃σ' H',Inv X pins σ' H' s'/\Q σ' H') X.xe s
abbrev UW:=V->V->V->Hp->(Hp->Prop)->Prop
def asw(X:Cx)(t:UW):Prop:=
 ∀(pins:List (Addr×Obj)) (s:Shared) (σ:St) (H:Hp) (o i v:V) (ov iv u:Value) (Q:Hp->Prop),Inv X pins σ H s->RelV o ov->RelV i iv->RelV v u->t o i v H Q->
  wpAny (model X.prog X.w) X.A (setItem ov iv u) (λ_ s'=>∃H',Inv X pins σ H' s'/\Q H') X.xe s
section
variable{X:Cx}{pos:Pos}
def W3(i:Nat):TG:=λv σ H Q=>Q (σ.set i (some v)) H
theorem aix(hN:X.N.Nodup)(hi:X.N[i]? = some x)(hx:Loc X.env.scope x)(hf:X.fn x=true\/X.env.scope.names.lookup x=some .local:=by first|exact .inl rfl|exact .inr rfl|assumption):PG X (.Name x pos) (W3 i):=by intro pins s σ H v u Q I r h;exact wpAny_assign_Name<|KC I hN hi hx r (λs' I'=>⟨_,H,I',h⟩) hf
def auV:TGs:=λvs σ H Q=>vs=[]/\Q σ H
def ar6(t:TG)(u:TGs):TGs:=λvs σ H Q=>∃v r,vs=v::r/\t v σ H λσ' H'=>u r σ' H' Q
theorem aiw:PGs X [] auV:=by intro pins s σ H vs us Q I r h;obtain⟨e,h⟩:=h;subst e;cases r;exact assignInOrder_nil ⟨σ,H,I,h⟩
theorem aeN(h1:PG X e t)(h2:PGs X es u)
  (hs:(assignEach (e::es) X.env).map (·.2)=assign e X.env::(assignEach es X.env).map (·.2):=by rfl):PGs X (e::es) (ar6 t u):=by
 intro pins s σ H vs us Q I r h;obtain⟨v,vr,e1,h⟩:=h;subst e1;cases r with
 | cons r rr=>
  rw[hs];refine assignInOrder_cons<|gP (h1 pins s σ H _ _ _ I r h) λ_ s1 ⟨σ1,H1,I1,q1⟩=>?_;exact h2 pins s1 σ1 H1 _ _ Q I1 rr q1
def auU(K:PySem.W.Frag)(n:Nat)(t:TGs):TG:=λv σ H Q=>∃a xs,v = .ref a/\qe K H a xs/\xs.length=n/\t xs σ H Q
theorem amm{k:Nat}(hc:X.calm=true)(h:PGs X es t)
  (hn:(assignEach es X.env).length=n:=by rfl) (hst:(assignEach es X.env).findIdx? (·.1)=none:=by rfl):PG X (.Tuple es k pos) (auU X.K n t):=by
 intro pins s σ H v u Q I r hw;obtain⟨a,xs,e1,hq,hl,hw⟩:=hw;subst e1;cases r;obtain⟨its,rv,ht,hz⟩:=I.tuple hq;refine assign_Tuple_tuple (I.ok.hd hc) ht (by simp[hn,<-hl,rv.length]) hst λh' hx=>?_;have I1:Inv X pins σ H { s with heap:=h' }:=I.kept λb o e=>hx b o (Qww<|Qq3 e) e;exact h pins _ σ H xs _ Q I1 (by simpa using rv) hw
def xJ(to ti:TE)(t:UW):TG:=λv σ H Q=>to σ H λo H1=>ti σ H1 λi H2=>t o i v H2 λH3=>Q σ H3
theorem amn(ho:PE X o to)(hi:PE X i ti)(hs:asw X t)
  (ha:∀v,assign (.Subscript o i pos) X.env v=(do
   let ov <-holding [v] (eval o X.env)
   let iv <-holding [v,ov] (eval i X.env)
   standAt pos
   holding [v,ov,iv] (setItem ov iv v)
   release [v,ov,iv] []):=by intro _;rfl):PG X (.Subscript o i pos) (xJ to ti t):=by
 intro pins s σ H v u Q I r h;rw[ha];refine Qqq<|Qjz<|gP (ho pins s σ H _ I h) λov s1 ⟨x,H1,I1,r1,q1⟩=>?_;refine Qqq<|Qjz<|gP (hi pins s1 σ H1 _ I1 q1) λiv s2 ⟨y,H2,I2,r2,q2⟩=>?_;refine Qqq<|wpAny_standAt<|Qqq<|Qjz<|gP (hs pins s2 σ H2 x y v ov iv u _ I2 r1 r2 r q2) λ_ s3 ⟨H3,I3,q3⟩=>?_;exact wpAny_release ⟨σ,H3,I3,q3⟩
def ahD(te:TE)(g:TG):TS:=λD σ H=>te σ H λx H1=>g x σ H1 D.nx
theorem ami(he:PE X e te)(hg:PG X tg g)(hs:swapsWithSole [tg] e pos.line X.env=pure false:=by rfl)(hw:swappedStores [tg] e X.env=pure none:=by rfl)
  (h1:(assignEach [tg] X.env).map (·.2)=[assign tg X.env]:=by rfl):PS X (.Assign [tg] e pos) (ahD te g):=by
 intro pins s σ H D I h;refine wpAny_Assign_stores (gP (he pins s σ H _ I h) λv s1 ⟨x,H1,I1,r1,q1⟩=>?_) hs hw;rw[h1];exact gP (hg pins s1 σ H1 x v _ I1 r1 q1) λ_ s2 q=>q
theorem aeH(hN:X.N.Nodup)(hi:X.N[i]? = some x)(hx:Loc X.env.scope x)(he:PE X e te)(hs:swapsWith e (some (.Name x pos')) pos.line X.env=pure false:=by rfl)(hf:X.fn x=true\/X.env.scope.names.lookup x=some .local:=by first|exact .inl rfl|exact .inr rfl|assumption) :
  PS X (.Assign [.Name x pos'] e pos) (ahD te (W3 i)):=by
 intro pins s σ H D I h;refine wpAny_Assign_Name (gP (he pins s σ H _ I h) λv s1 ⟨y,H1,I1,r1,q1⟩=>?_) hs;exact KC I1 hN hi hx r1 (λs2 I2=>⟨_,H1,I2,q1⟩) hf
end
structure It where
 go:Nat->Hp->Prop
 yld:Nat->Hp->V->Hp->Prop
 stop:Nat->Hp->Prop
def wO(X:Cx)(pins:List (Addr×Obj))(H:Hp)(b:Addr):Prop:=
 H b=none/\b≠X.env.locals/\b ∉ X.fs/\(b∈X.ex\/X.s₀.heap.objs.size<=b)/\(∀x c,X.env.cells.lookup x=some c->c≠b)/\∀p∈X.pn++pins,p.1≠b
theorem Inv.acL{σ:St}{b:Addr}(I:Inv X pins σ H s)(hb:s.heap.objs.size<=b)(hn:H' b=none):wO X pins H' b:=by
 refine⟨hn,Qz4<|Qwx I.lt hb,I.aue hb,.inr<|Qqy I.sz hb,λx c e z=>?_,λp hp z=>?_⟩
 ·obtain⟨v,q⟩:=I.cell x c e;exact absurd (Qwx q.lt (by rw[z];exact hb))<|Qx3 _
 ·exact absurd (Qwx (Qq3 (I.pin p hp).1) (by rw[z];exact hb))<|Qx3 _
structure Turn(P:Program)(w:World)(K:PySem.W.Frag)(tg:Expr)(J:It)(fp:List Addr)(it:Addr)(tn:Nat->Heap->Prop):Prop where
 mem:it∈fp
 obj:∀i h,tn i h->∀b∈fp,∃o,h.get? b=some o/\∀v,o.data ≠ .cell v
 keep:∀i h h',tn i h->(∀b∈fp,∀o,h.get? b=some o->h'.get? b=some o)->tn i h'
 item:∀(X:Cx),X.prog=P->X.w=w->X.K=K->X.calm=true->∀(i:Nat) (pins:List (Addr×Obj)) (s:Shared) (σ:St) (H:Hp) (E:Value->Shared->Prop),Inv X pins σ H s->(∀b∈fp,wO X pins H b)->tn i s.heap->J.go i H->
  wpAny (model P w) X.A (pyNext (.ref it)) (λr s1=>∃u,r=some u/\
   wpAny (model P w) X.A (letOwnedTupleGo tg (.ref it) u) (λ_ s2=>∃x H',Inv X pins σ H' s2/\RelV x u/\J.yld i H x H'/\tn (i+1) s2.heap/\∀b∈fp,H' b=none) E s1) E s
 done:∀(X:Cx),X.prog=P->X.w=w->X.K=K->X.calm=true->∀(i:Nat) (pins:List (Addr×Obj)) (s:Shared) (σ:St) (H:Hp) (E:Value->Shared->Prop),Inv X pins σ H s->(∀b∈fp,wO X pins H b)->tn i s.heap->J.stop i H->
  wpAny (model P w) X.A (pyNext (.ref it)) (λr s1=>r=none/\Inv X pins σ H s1) E s
 self:∀(A:Around) (i:Nat) (s:Shared) (Q:Value->Shared->Prop) (E:Value->Shared->Prop),tn i s.heap->Q (.ref it) s->wpAny (model P w) A (pyIter (.ref it)) Q E s
abbrev TI:=St->Hp->(It->Hp->Prop)->Prop
def PIE(X:Cx)(pins:List (Addr×Obj))(σ:St)(tg:Expr)(R:It->Hp->Prop)(itv:Value)(s2:Shared):Prop:=
 ∃(it:Addr) (fp:List Addr) (tn:Nat->Heap->Prop) (J:It) (H':Hp),itv = .ref it/\Inv X pins σ H' s2/\Turn X.prog X.w X.K tg J fp it tn/\tn 0 s2.heap/\(∀b∈fp,wO X pins H' b)/\R J H'
def PI(X:Cx)(tg iter:Expr)(wi:TI):Prop:=
 ∀(pins:List (Addr×Obj)) (s:Shared) (σ:St) (H:Hp) (R:It->Hp->Prop),Inv X pins σ H s->wi σ H R->
  wpAny (model X.prog X.w) X.A (eval iter X.env) (λv s1=>wpAny (model X.prog X.w) X.A (pyIter v) (PIE X pins σ tg R) X.xe s1) X.xe s
theorem Rk(ho : s.heap.get? it = some o)(hc : o.cls = .type n)(hd : o.data = .fields vs)
    (hn : ["enumerate", "zip", "dict_itemiterator", "dict_reverseitemiterator", "odict_iterator", "itertools.zip_longest", "itertools.pairwise"].contains n = false) (hQ : Q () s) : wpAny M A (letOwnedTupleGo tg (.ref it) u) Q E s := by
  unfold letOwnedTupleGo;cases tg <;> first
    | exact Qq1 hQ
    | (cases u <;> first
        | exact Qq1 hQ
        | (refine Qqq<|wpAny_load ho ?_
           rw [hc, hd];show wpAny M A (if (["enumerate", "zip", "dict_itemiterator", "dict_reverseitemiterator", "odict_iterator", "itertools.zip_longest", "itertools.pairwise"].contains n && vs[0]? == some (rawInt _)) = true then _ else _) Q E s;rw [if_neg (by intro h; rw [hn, Bool.false_and] at h; cases h)];exact Qq1 hQ))
noncomputable def Itl(K:PySem.W.Frag)(a:Addr):It:=
 ⟨λi H=>∃xs x,uR K H a xs/\xs[i]? = some x,λi H x H'=>H'=H/\∀xs,uR K H a xs->xs[i]? = some x,λi H=>∃xs,uR K H a xs/\xs.length<=i⟩
noncomputable def Itt(K:PySem.W.Frag)(a:Addr):It:=
 ⟨λi H=>∃xs x,qe K H a xs/\xs[i]? = some x,λi H x H'=>H'=H/\∀xs,qe K H a xs->xs[i]? = some x,λi H=>∃xs,qe K H a xs/\xs.length<=i⟩
noncomputable def Itr(lo:Int)(n:Nat):It:=⟨λi _=>i<n,λi H x H'=>H'=H/\x = .int (lo+i),λi _=>n<=i⟩
theorem abo{P:Program}{w:World}{K:PySem.W.Frag}{tg:Expr}(a it:Addr):Turn P w K tg (Itl K a) [it] it (λi h=>h.IsListIter it a i) where
 mem:=by simp
 obj:=λi h st b hb=>by
  have e:b=it:=by simpa using hb
  subst e;obtain⟨o,e,c,d⟩:=st;exact⟨o,e,λv z=>by rw[d] at z;cases z⟩
 keep:=λi h h' st k=>st.at λo e=>k it (by simp) o e
 item:=by intro X hP hw hK hc i pins s σ H E I hf st hg;subst hP hw hK;obtain⟨xs,x,hq,hx⟩:=hg;obtain⟨its,rv,p,hz⟩:=I.list hq;obtain⟨u,hu,ru⟩:=rv.get hx;obtain⟨f0,f1,f2,f3,f4,f5⟩:=hf it (by simp);refine wpAny_pyNext_list_item st p.isList (by simpa using hu) λh' st' sb=>?_;have I1:Inv X pins σ H { s with heap:=h' }:=I.turned (λb o hb e=>(sb.2 b hb).trans e) f0 f1 f3 f4 f5;obtain⟨o,e,c,d⟩:=id st';exact⟨u,rfl,Rk e c d (by decide) ⟨x,H,I1,ru,⟨rfl,λys hy=>by rw[I.afn hy hq];exact hx⟩,st',λb hb=>(hf b hb).1⟩⟩
 done:=by intro X hP hw hK hc i pins s σ H E I hf st hg;subst hP hw hK;obtain⟨xs,hq,hx⟩:=hg;obtain⟨its,rv,p,hz⟩:=I.list hq;obtain⟨f0,f1,f2,f3,f4,f5⟩:=hf it (by simp);have hl:=rv.length;exact wpAny_pyNext_list_end (I.ok.hd hc) st p.isList (by simp;omega) λh' eb=>⟨rfl,I.turned (λb o hb e=>eb b o hb e) f0 f1 f3 f4 f5⟩
 self:=λ_ _ _ _ _ st h=>wpAny_pyIter_listiter st h
theorem XX{P:Program}{w:World}{K:PySem.W.Frag}{tg:Expr}(a it:Addr):Turn P w K tg (Itt K a) [it] it (λi h=>h.IsTupleIter it a i) where
 mem:=by simp
 obj:=λi h st b hb=>by
  have e:b=it:=by simpa using hb
  subst e;obtain⟨o,e,c,d⟩:=st;exact⟨o,e,λv z=>by rw[d] at z;cases z⟩
 keep:=λi h h' st k=>st.at λo e=>k it (by simp) o e
 item:=by intro X hP hw hK hc i pins s σ H E I hf st hg;subst hP hw hK;obtain⟨xs,x,hq,hx⟩:=hg;obtain⟨its,rv,p,hz⟩:=I.tuple hq;obtain⟨u,hu,ru⟩:=rv.get hx;obtain⟨f0,f1,f2,f3,f4,f5⟩:=hf it (by simp);refine wpAny_pyNext_tuple_item st p (by simpa using hu) λh' st' sb=>?_;have I1:Inv X pins σ H { s with heap:=h' }:=I.turned (λb o hb e=>(sb.2 b hb).trans e) f0 f1 f3 f4 f5;obtain⟨o,e,c,d⟩:=id st';exact⟨u,rfl,Rk e c d (by decide) ⟨x,H,I1,ru,⟨rfl,λys hy=>by rw[I.Dl hy hq];exact hx⟩,st',λb hb=>(hf b hb).1⟩⟩
 done:=by intro X hP hw hK hc i pins s σ H E I hf st hg;subst hP hw hK;obtain⟨xs,hq,hx⟩:=hg;obtain⟨its,rv,p,hz⟩:=I.tuple hq;obtain⟨f0,f1,f2,f3,f4,f5⟩:=hf it (by simp);have hl:=rv.length;exact wpAny_pyNext_tuple_end (I.ok.hd hc) st p (by simp;omega) λh' eb=>⟨rfl,I.turned (λb o hb e=>eb b o hb e) f0 f1 f3 f4 f5⟩
 self:=λ_ _ _ _ _ st h=>wpAny_pyIter_tupleiter st h
theorem X6{P:Program}{w:World}{K:PySem.W.Frag}{tg:Expr}(it:Addr)(lo:Int)(n:Nat):Turn P w K tg (Itr lo n) [it] it (λi h=>IsRangeIter h it (lo+(i:Nat)*1) ((n:Int) - (i:Nat)) 1) where
 mem:=by simp
 obj:=λi h st b hb=>by
  have e:b=it:=by simpa using hb
  subst e;exact⟨_,st,λv z=>by
   have z':=z;cases z'⟩
 keep:=λi h h' st k=>k it (by simp) _ st
 item:=by intro X hP hw hK hc i pins s σ H E I hf st hg;subst hP hw hK;obtain⟨f0,f1,f2,f3,f4,f5⟩:=hf it (by simp);have W:=Walks.range (prog:=X.prog) (w:=X.w) (I.ok.hd hc) it lo 1 n;refine W.item i s _ _ hg st λv h' tk hv st' kk=>?_;obtain⟨t,rfl⟩:=hv;have I1:Inv X pins σ H { s with heap:=h',toks:=tk }:=I.turned (λb o hb e=>kk b o (by simpa using hb) e) f0 f1 f3 f4 f5;refine⟨_,rfl,Rk st' rfl rfl (by decide) ⟨.int<|lo+i,H,I1,⟨t,?_⟩,⟨rfl,rfl⟩,st',λb hb=>(hf b hb).1⟩⟩;rw[Int.mul_one]
 done:=by intro X hP hw hK hc i pins s σ H E I hf st hg;subst hP hw hK;obtain⟨f0,f1,f2,f3,f4,f5⟩:=hf it (by simp);exact wpAny_pyNext_range_end (I.ok.hd hc) st (by have:n<=i:=hg;omega) λh' eb=>⟨rfl,I.turned (λb o hb e=>eb b o hb e) f0 f1 f3 f4 f5⟩
 self:=λ_ _ _ _ _ st h=>wpAny_pyIter_rangeiter st h
section
variable{X:Cx}{tg:Expr}
theorem ael{σ:St}{lo hi:Int}(I:Inv X pins σ H s)(h1 : -(2^62)<=lo)(h2:lo<2^62)(h3 : -(2^62)<=hi)(h4:hi<2^62)
  (q:R (Itr lo (hi - lo).toNat) H):wpAny (model X.prog X.w) X.A (pyIter (.ref s.heap.objs.size)) (PIE X pins σ tg R) E { s with heap:=s.heap.push { cls:=.type "range",data:=.fields #[.int lo t,.int hi u,.int 1 v] },toks:=tk }:=by
 refine wpAny_pyIter_range (IsRange.new ..) (small_one h1 h2 h3 h4) ?_;have I1:Inv X pins σ H { s with heap:=s.heap.push { cls:=.type "range",data:=.fields #[.int lo t,.int hi u,.int 1 v] },toks:=tk }:=I.kept λb o e=>Qqx _ e;refine⟨(s.heap.push { cls:=.type "range",data:=.fields #[.int lo t,.int hi u,.int 1 v] }).objs.size,[(s.heap.push { cls:=.type "range",data:=.fields #[.int lo t,.int hi u,.int 1 v] }).objs.size],_,_,H,rfl,
  I1.kept λb o e=>Qqx _ e,X6 _ lo (hi - lo).toNat,?_,λb hb=>?_,q⟩
 ·have e1:lo+(0:Nat)*1=lo:=by simp
  have e2:((hi - lo).toNat) - (0:Nat)=Builtin.Range.rangeSize lo hi 1:=by rw[rangeSize_one];split<;>omega
  show IsRangeIter _ _ (lo+(0:Nat)*1) ((((hi - lo).toNat:Nat):Int) - ((0:Nat):Int)) 1;rw[e1,e2];exact Qq8 _ rfl
 ·have e:b=(s.heap.push { cls:=.type "range",data:=.fields #[.int lo t,.int hi u,.int 1 v] }).objs.size:=by simpa using hb
  subst e;exact I1.acL (Qq0 _)<|I1.hok.fresh<|Qq0 _
def arM(ta:TA):TI:=λσ H R=>ta σ H λvs H1=>∃j:Int,vs=[.int j]/\-(2^62)<=j/\j<2^62/\R (Itr 0 j.toNat) H1
theorem abS(hg:Gl X "range")(hm:X.mg "range" = none)(ha:PA X [a] ta)(hs:starEach [a] X.env=[(false,eval a X.env)]:=by rfl):PI X tg (.Call (.Name "range" p) [a] [] pos) (arM ta):=by
 intro pins s σ H R I h;refine Call_<|zG I hg hm boot_range<|Qx8 (gP (ha pos pins s σ H _ I h) λus s1 ⟨vs,H1,I1,r1,q1⟩=>?_) hs rfl;obtain⟨j,e,q1,q2,q⟩:=q1;subst e;cases r1 with
 | cons r rr=>
  cases rr;obtain⟨t,rfl⟩:=r;exact call_range_1<|ael I1 (by omega) (by omega) q1 q2 (by simpa using q)
def atH(wi:TI)(g:TG)(tb:TS):TS:=λD σ H=>wi σ H λJ H1=>∃W:Nat->Nat->St->Hp->Prop,(∃m,W 0 m σ H1)/\∀i m σ H,W i m σ H->
 (J.stop i H/\D.nx σ H)\/(J.go i H/\∃N:St->Hp->Prop,(∀σ' H',N σ' H'->∃m',m'<m/\W (i+1) m' σ' H')/\∀x H',J.yld i H x H'->g x σ H' λσ2 H2=>tb { D with nx:=N,ct:=N,bk:=D.nx } σ2 H2)
noncomputable def Ek(fp:List Addr)(h:Heap):List (Addr×Obj):=fp.filterMap λb=>(h.get? b).map λo=>(b,o)
theorem pq(hb:b∈fp)(e:h.get? b=some o):(b,o)∈Ek fp h:=List.mem_filterMap.mpr ⟨b,hb,by rw[e];rfl⟩
theorem ab4(hp:p∈Ek fp h):p.1∈fp/\h.get? p.1=some p.2:=by
 obtain⟨b,hb,e⟩:=List.mem_filterMap.mp hp;cases q:h.get? b with
 | none=>rw[q] at e;cases e
 | some o=>
  rw[q] at e;have e':=Qw2 e;subst e';exact⟨hb,q⟩
theorem Inv.pinned{σ:St}(I:Inv X pins σ H s)(hf:∀b∈fp,wO X pins H b)(ho:∀b∈fp,∃o,s.heap.get? b=some o/\∀v,o.data ≠ .cell v):Inv X (pins++Ek fp s.heap) σ H s:=
 I.aaJ λp hp=>(Qq6.mp hp).elim (λz=>I.pin p<|Qwz _ z) λz=>by
  obtain⟨hb,e⟩:=ab4 z;obtain⟨f0,f1,f2,_⟩:=hf p.1 hb;obtain⟨o,e',d⟩:=ho p.1 hb;rw[e] at e';cases e';exact⟨e,f0,f1,f2,d⟩
theorem Inv.wR{σ:St}(I:Inv X (pins++pl) σ H s):Inv X pins σ H s:=I.aaJ λp hp=>I.pin p<|Qwz _<|List.mem_append_left _ hp
theorem amh(hp:PassesOwn (model X.prog X.w) X.A X.env X.xe)(hc:X.calm=true)(hi:PI X tg iter wi)(hg:PG X tg g)(hb:Xx X body tb)
  (hs:∀x,foldedSetIterable iter X.env x=pure x:=by intro _;rfl):PS X (.For tg iter body [] pos) (atH wi g tb):=by
 intro pins s σ H D I h;refine wpAny_For (gP (hi pins s σ H _ I h) λv s1 h1=>gP h1 λitv s2 h2=>?_) hs;obtain⟨it,fp,tn,J,H2,e,I2,T,st2,f2,W,⟨m0,w0⟩,turn⟩:=h2;subst e
 -- what stays true of the iterator's objects through the loop
 have stat:∀{H'},(∀b∈fp,H' b=none)->∀b∈fp,wO X pins H' b:=λhn b hb=>⟨hn b hb,(f2 b hb).2⟩;refine codeAny_forLoop_any (λn s'=>∃i σ' H',Inv X pins σ' H' s'/\tn i s'.heap/\(∀b∈fp,H' b=none)/\W i n σ' H') ?_ m0 ⟨0,σ,H2,I2,st2,λb hb=>(f2 b hb).1,w0⟩;rintro n s3 ⟨i,σ3,H3,I3,st3,fr3,w3⟩;rcases turn i n σ3 H3 w3 with ⟨stop,qn⟩|⟨go,N,hN,step⟩
 ·refine wpAny_passesOwn hp<|gP (T.done X rfl rfl rfl hc i pins s3 σ3 H3 X.xe I3 (stat fr3) st3 stop) λr s4 ⟨hr,I4⟩=>?_;subst hr;exact wpAny_execs_nil ⟨σ3,H3,I4,qn⟩
 ·refine wpAny_passesOwn hp<|gP (T.item X rfl rfl rfl hc i pins s3 σ3 H3 X.xe I3 (stat fr3) st3 go) λr s4 ⟨u,hr,h4⟩=>?_;subst hr;refine wpAny_passesOwn hp<|gP h4 λ_ s5 ⟨x,H5,I5,r5,y5,st5,fr5⟩=>?_;have I5':=I5.pinned (stat fr5)<|T.obj _ _ st5;refine wpAny_passesOwn hp<|gP (hg _ s5 σ3 H5 x u _ I5' r5<|step x H5 y5) λ_ s6 ⟨σ6,H6,I6,q6⟩=>?_;refine wpAny_passesOwn hp<|gP (hb _ s6 σ6 H6 _ I6 q6) λf s7 q7=>?_;have again:∀{σ7} {H7},Inv X (pins++Ek fp s5.heap) σ7 H7 s7->N σ7 H7->∃m,m<n/\∃i σ' H',Inv X pins σ' H' s7/\tn i s7.heap/\(∀b∈fp,H' b=none)/\W i m σ' H':=λ{σ7 H7} I7 n7=>by
   obtain⟨m',hm,w7⟩:=hN σ7 H7 n7;refine⟨m',hm,i+1,σ7,H7,I7.wR,T.keep _ _ _ st5 λb hb o e=>(I7.pin (b,o)<|Qwz _<|Qwz _<|pq hb e).1,λb hb=>?_,w7⟩;obtain⟨o,e,d⟩:=T.obj _ _ st5 b hb;exact(I7.pin (b,o)<|Qwz _<|Qwz _<|pq hb e).2.1
  cases f with
  | next=>obtain⟨σ7,H7,I7,n7⟩:=q7;exact again I7 n7
  | cont=>obtain⟨σ7,H7,I7,n7⟩:=q7;exact again I7 n7
  | brk=>obtain⟨σ7,H7,I7,q7⟩:=q7;exact⟨σ7,H7,I7.wR,q7⟩
  | ret v=>obtain⟨x7,σ7,H7,I7,r7,q7⟩:=q7;exact⟨x7,σ7,H7,I7.wR,r7,q7⟩
end
abbrev R2:=V->V->Hp->VK->Prop
def qu(X:Cx)(f:Value->Value->Sem Value)(r:R2):Prop:=
 ∀(pins:List (Addr×Obj)) (s:Shared) (σ:St) (H:Hp) (x y:V) (v u:Value) (Q:VK),Inv X pins σ H s->RelV x v->RelV y u->r x y H Q->
  wpAny (model X.prog X.w) X.A (f v u) (EP X pins σ Q) X.xe s
def UnR(X:Cx)(f:Value->Sem Value)(r:V->Hp->VK->Prop):Prop:=
 ∀(pins:List (Addr×Obj)) (s:Shared) (σ:St) (H:Hp) (x:V) (v:Value) (Q:VK),Inv X pins σ H s->RelV x v->r x H Q->
  wpAny (model X.prog X.w) X.A (f v) (EP X pins σ Q) X.xe s
def lW(X:Cx)(f:Value)(r:List V->Hp->VK->Prop):Prop:=
 ∀(pins:List (Addr×Obj)) (s:Shared) (σ:St) (H:Hp) (xs:List V) (us:List Value) (Q:VK),Inv X pins σ H s->Vals xs us->r xs H Q->
  wpAny (model X.prog X.w) X.A (call f us) (EP X pins σ Q) X.xe s
def tOp(r:R2)(ta tb:TE):TE:=λσ H Q=>ta σ H λx H1=>tb σ H1 λy H2=>r x y H2 Q
def tUn(r:V->Hp->VK->Prop)(ta:TE):TE:=λσ H Q=>ta σ H λx H1=>r x H1 Q
def rI(C:Int->Int->Prop)(g:Int->Int->V):R2:=λx y H Q=>∃i j,x = .int i/\y = .int j/\C i j/\Q (g i j) H
def XD(g:Int->Int->V):R2:=λx y H Q=>∃i j,x = .int i/\y = .int j/\Q (g i j) H
def rU(g:Int->V):V->Hp->VK->Prop:=λx H Q=>∃i,x = .int i/\Q (g i) H
section
variable{X:Cx}{a b c:Expr}{ta tb tc:TE}{pos:Pos}
theorem ao6(ha:PE X a ta)(hb:PE X b tb){σ:St}{R:V->V->Hp->Prop}(I:Inv X pins σ H s)
  (h:ta σ H λx H1=>tb σ H1 λy H2=>R x y H2) {f:Value->Value->Sem Value}
  (hf:∀v u s2 x y H2,Inv X pins σ H2 s2->RelV x v->RelV y u->R x y H2->wpAny (model X.prog X.w) X.A (f v u) Q X.xe s2) :
  wpAny (model X.prog X.w) X.A (eval a X.env) (λv s₁=>wpAny (model X.prog X.w) X.A (eval b X.env) (λu s₂=>wpAny (model X.prog X.w) X.A (f v u) Q X.xe s₂) X.xe s₁) X.xe s:=by
 refine gP (ha pins s σ H _ I h) λv s1 ⟨x,H1,I1,r1,q1⟩=>?_;refine gP (hb pins s1 σ H1 _ I1 q1) λu s2 ⟨y,H2,I2,r2,q2⟩=>?_;exact hf v u s2 x y H2 I2 r1 r2 q2
theorem aeP(ho:qu X (binaryOp op) r)(ha:PE X a ta)(hb:PE X b tb):PE X (.BinOp a op b pos) (tOp r ta tb):=by intro pins s σ H Q I h;exact wpAny_BinOp<|ao6 ha hb I h λv u s2 x y H2 I2 rx ry q=>ho pins s2 σ H2 x y v u Q I2 rx ry q
theorem akN(ho:UnR X (unaryOp op) r)(ha:PE X a ta):PE X (.UnaryOp op a pos) (tUn r ta):=by intro pins s σ H Q I h;exact UnaryOp_<|gP (ha pins s σ H _ I h) λv s1 ⟨x,H1,I1,r1,q1⟩=>ho pins s1 σ H1 x v Q I1 r1 q1
theorem opI{g:Int->Int->Int}
  (rule:∀i j t u s Q E,C i j->Q (.int (g i j) s.toks) { s with toks:=s.toks+1 }->wpAny (model X.prog X.w) X.A (f (.int i t) (.int j u)) Q E s) :
  qu X f (rI C λi j=>.int (g i j)):=by
 intro pins s σ H x y v u Q I rx ry h;obtain⟨i,j,rfl,rfl,hc,q⟩:=h;obtain⟨t,rfl⟩:=rx;obtain⟨t',rfl⟩:=ry;exact rule i j t t' s _ _ hc ⟨.int<|g i j,H,I.tok _,⟨_,rfl⟩,q⟩
theorem amO{g:Int->Int->Int}
  (rule:∀i j t u s Q E,Q (.int (g i j) s.toks) { s with toks:=s.toks+1 }->wpAny (model X.prog X.w) X.A (f (.int i t) (.int j u)) Q E s) :
  qu X f (XD λi j=>.int (g i j)):=by
 intro pins s σ H x y v u Q I rx ry h;obtain⟨i,j,rfl,rfl,q⟩:=h;obtain⟨t,rfl⟩:=rx;obtain⟨t',rfl⟩:=ry;exact rule i j t t' s _ _ ⟨.int<|g i j,H,I.tok _,⟨_,rfl⟩,q⟩
theorem amP{g:Int->Int->Bool}
  (rule:∀i j t u s Q E,Q (.bool (g i j)) s->wpAny (model X.prog X.w) X.A (f (.int i t) (.int j u)) Q E s) :
  qu X f (XD λi j=>.bl (g i j)):=by
 intro pins s σ H x y v u Q I rx ry h;obtain⟨i,j,rfl,rfl,q⟩:=h;obtain⟨t,rfl⟩:=rx;obtain⟨t',rfl⟩:=ry;exact rule i j t t' s _ _ ⟨.bl<|g i j,H,I,rfl,q⟩
def asF(i j:Int):Prop:=0<j/\j<1073741824
def akm(i j:Int):Prop:=0<=j/\j<=1000000/\i.natAbs<2^64
theorem XR(k):(0:Int)<=2^k:=by rw[two_pow_cast];exact Int.natCast_nonneg _
theorem amN:qu X (binaryOp .Add) (XD λi j=>.int (i+j)):=amO λ_ _ _ _ _ _ _ q=>add_int q
theorem amA:qu X (binaryOp .Sub) (XD λi j=>.int (i - j)):=amO λ_ _ _ _ _ _ _ q=>sub_int q
theorem amF:qu X (binaryOp .Mod) (rI (λ_ j=>0<j) λi j=>.int (i % j)):=opI λi j _ _ _ _ _ hc q=>by
 have h1:=hc;exact mod_int' (by omega) (by rw[Int.fmod_eq_emod_of_nonneg i (by omega)];exact q)
theorem amD:qu X (binaryOp .Pow) (rI akm λi j=>.int (i^j.toNat)):=opI λ_ _ _ _ _ _ _ hc q=>pow_int_small hc.1 hc.2.1 hc.2.2 q
theorem amC:qu X (binaryOp .LShift) (rI akm λi j=>.int (i*2^j.toNat)):=opI λ_ _ _ _ _ _ _ hc q=>lshift_int_small hc.1 hc.2.1 hc.2.2 q
theorem amB:qu X (binaryOp .RShift) (rI (λ_ j=>0<=j) λi j=>.int (i / 2^j.toNat)):=opI λi j _ _ _ _ _ hc q=>
 rshift_int hc (by rw[Int.fdiv_eq_ediv_of_nonneg i (XR _)];exact q)
theorem amM:qu X (binaryOp .BitAnd) (XD λi j=>.int (Builtin.bitAnd i j)):=amO λ_ _ _ _ _ _ _ q=>and_int q
theorem unI{g:Int->Int}
  (rule:∀i t s Q E,Q (.int (g i) s.toks) { s with toks:=s.toks+1 }->wpAny (model X.prog X.w) X.A (f (.int i t)) Q E s) :
  UnR X f (rU λi=>.int (g i)):=by
 intro pins s σ H x v Q I rx h;obtain⟨i,rfl,q⟩:=h;obtain⟨t,rfl⟩:=rx;exact rule i t s _ _ ⟨.int<|g i,H,I.tok _,⟨_,rfl⟩,q⟩
theorem adN:UnR X (unaryOp .USub) (rU λi=>.int (-i)):=unI λ_ _ _ _ _ q=>neg_int q
end
theorem aoV:decide (V.bl i=V.bl j)=(i == j):=by rw[Bool.eq_iff_iff];simp
section
variable{X:Cx}{a b c:Expr}{ta tb tc:TE}{pos:Pos}
theorem Ae{σ:St}(I:Inv X pins σ H s)(q:Q (.bl k) H)(e:k=k'):EP X pins σ Q (.bool k') s:=by subst e;exact⟨.bl k,H,I,rfl,q⟩
theorem aqG:qu X (compareOp .Lt) (XD λi j=>.bl (decide (i<j))):=amP λ_ _ _ _ _ _ _ q=>lt_int q
theorem aqH:qu X (compareOp .LtE) (XD λi j=>.bl (decide (i<=j))):=amP λ_ _ _ _ _ _ _ q=>le_int q
theorem aqI:qu X (compareOp .Gt) (XD λi j=>.bl (decide (j<i))):=amP λ_ _ _ _ _ _ _ q=>gt_int q
theorem ab1:qu X (compareOp .Lt) (λx y H Q=>∃i j,x = .str i/\y = .str j/\Q (.bl (decide (i.cps.toList<j.cps.toList))) H):=by intro pins s σ H x y v u Q I rx ry h;obtain⟨i,j,rfl,rfl,q⟩:=h;obtain⟨t,rfl⟩:=rx;obtain⟨t',rfl⟩:=ry;exact lt_str<|Ae I q rfl
theorem ab3:qu X (compareOp .In) (λx y H Q=>∃i j,x = .str i/\y = .str j/\Q (.bl (!(Builtin.Str.occurrences j i 0 j.length 1).isEmpty)) H):=by intro pins s σ H x y v u Q I rx ry h;obtain⟨i,j,rfl,rfl,q⟩:=h;obtain⟨t,rfl⟩:=rx;obtain⟨t',rfl⟩:=ry;exact in_str<|Ae I q rfl
theorem amH:qu X (compareOp .Is) (λx y H Q=>y = .non/\Q (.bl (decide (x = .non))) H):=by
 intro pins s σ H x y v u Q I rx ry h;obtain⟨rfl,q⟩:=h;cases ry;refine is_none_gen<|Ae I q ?_;cases x<;>first
  | (cases rx;rfl)
  | (obtain⟨t,rfl⟩:=rx;rfl)
theorem aiE:qu X (compareOp .IsNot) (λx y H Q=>y = .non/\Q (.bl (!decide (x = .non))) H):=by
 intro pins s σ H x y v u Q I rx ry h;obtain⟨rfl,q⟩:=h;cases ry;refine isnot_none_gen<|Ae I q ?_;cases x<;>first
  | (cases rx;rfl)
  | (obtain⟨t,rfl⟩:=rx;rfl)
theorem T3:qu X (compareOp .NotIn) (λx y H Q=>∃i j,x = .str i/\y = .str j/\Q (.bl (!(!(Builtin.Str.occurrences j i 0 j.length 1).isEmpty))) H):=by intro pins s σ H x y v u Q I rx ry h;obtain⟨i,j,rfl,rfl,q⟩:=h;obtain⟨t,rfl⟩:=rx;obtain⟨t',rfl⟩:=ry;exact notIn_str<|Ae I q rfl
theorem qu.or(h:qu X f r)(h':qu X f r'):qu X f (λx y H Q=>r x y H Q\/r' x y H Q):=by
 intro pins s σ H x y v u Q I rx ry q;rcases q with q|q
 ·exact h pins s σ H x y v u Q I rx ry q
 ·exact h' pins s σ H x y v u Q I rx ry q
theorem aaK(ho:qu X (compareOp op) r)(ha:PE X a ta)(hb:PE X b tb)(hm:behindInMarks op b=false):PE X (.Compare a [op] [b] pos) (tOp r ta tb):=by intro pins s σ H Q I h;exact wpAny_Compare1 (ao6 ha hb I h λv u s2 x y H2 I2 rx ry q=>ho pins s2 σ H2 x y v u Q I2 rx ry q) hm
def akC(t:TE):TT:=λσ H Q=>t σ H λx H'=>∃k,x = .bl k/\Q k H'
theorem aaI(ho:qu X (compareOp op) r)(ha:PE X a ta)(hb:PE X b tb)(hm:behindInMarks op b=false):PT X (.Compare a [op] [b] pos) (akC (tOp r ta tb)):=by
 intro pins s σ H Q I h;refine wpAny_isTrue_Compare1 (gP (ha pins s σ H _ I h) λv s1 ⟨x,H1,I1,r1,q1⟩=>gP (hb pins s1 σ H1 _ I1 q1) λu s2 ⟨y,H2,I2,r2,q2⟩=>
  gP (ho pins s2 σ H2 x y v u _ I2 r1 r2 q2) λc s3 ⟨z,H3,I3,r3,k,e,q3⟩=>?_) hm
 subst e;cases r3;exact Qx0 ⟨H3,I3,q3⟩
def Yl(r r':R2)(ta tb tc:TE):TE:=λσ H Q=>ta σ H λx H1=>tb σ H1 λy H2=>r x y H2 λz H3=>∃k,z = .bl k/\
 (if k=true then tc σ H3 λw' H4=>r' y w' H4 Q else Q (.bl false) H3)
theorem aeS(ho:qu X (compareOp op) r)(ho':qu X (compareOp op') r')(ha:PE X a ta)(hb:PE X b tb)(hc:PE X c tc)
  (hm:lastMarks [op,op'] [b,c]=false:=by with_unfolding_all rfl):PE X (.Compare a [op,op'] [b,c] pos) (Yl r r' ta tb tc):=by
 intro pins s σ H Q I h;refine Compare_chain (gP (ha pins s σ H _ I h) λv s1 ⟨x,H1,I1,r1,q1⟩=>chain_link (gP (hb pins s1 σ H1 _ I1 q1) λu s2 ⟨y,H2,I2,r2,q2⟩=>
  gP (ho pins s2 σ H2 x y v u _ I2 r1 r2 q2) λd s3 ⟨z,H3,I3,r3,k,e,q3⟩=>?_)) hm
 subst e;cases r3;refine Qx0 ?_;cases k with
 | false=>exact ite_ff ⟨.bl false,H3,I3,rfl,q3⟩
 | true=>exact ite_tt<|chain_last<|gP (hc pins s3 σ H3 _ I3 q3) λw' s4 ⟨z',H4,I4,r4,q4⟩=>ho' pins s4 σ H4 y z' u w' Q I4 r2 r4 q4
theorem aeE(ho:qu X (compareOp op) r)(ho':qu X (compareOp op') r')(ha:PE X a ta)(hb:PE X b tb)(hc:PE X c tc)
  (hm:lastMarks [op,op'] [b,c]=false:=by with_unfolding_all rfl):PT X (.Compare a [op,op'] [b,c] pos) (akC (Yl r r' ta tb tc)):=by
 intro pins s σ H Q I h;refine isTrue_chain (gP (ha pins s σ H _ I h) λv s1 ⟨x,H1,I1,r1,q1⟩=>test_link (gP (hb pins s1 σ H1 _ I1 q1) λu s2 ⟨y,H2,I2,r2,q2⟩=>
  gP (ho pins s2 σ H2 x y v u _ I2 r1 r2 q2) λd s3 ⟨z,H3,I3,r3,k,e,q3⟩=>?_)) hm
 subst e;cases r3;refine Qx0 ?_;cases k with
 | false=>
  obtain⟨k',e',q'⟩:=q3;cases e';exact ite_ff ⟨H3,I3,q'⟩
 | true=>
  refine ite_tt<|test_last<|gP (hc pins s3 σ H3 _ I3 q3) λw' s4 ⟨z',H4,I4,r4,q4⟩=>gP (ho' pins s4 σ H4 y z' u w' _ I4 r2 r4 q4) λd' s5 ⟨z2,H5,I5,r5,k2,e2,q5⟩=>?_;subst e2;cases r5;exact Qx0 ⟨H5,I5,q5⟩
theorem aoi{κ:Type}{kvs:List (κ×V)}{vs:List (κ×Value)}(r:KV kvs vs):(!vs.isEmpty) = !kvs.isEmpty:=by cases r<;>rfl
theorem aoh(r:Vals xs its):(!its.toArray.isEmpty) = !xs.isEmpty:=by cases r<;>simp
theorem Ml:sizeLine<2^63:=by rw[sizeLine_eq];decide
theorem Y8:qu X (binaryOp .Add) (λx y H Q=>∃i j,x = .str i/\y = .str j/\i.length+j.length<=sizeLine/\Q (.str (i++j)) H):=by intro pins s σ H x y v u Q I rx ry h;obtain⟨i,j,rfl,rfl,hz,q⟩:=h;obtain⟨t,rfl⟩:=rx;obtain⟨t',rfl⟩:=ry;exact add_str (λt' tk=>⟨.str<|i++j,H,I.tok _,⟨_,rfl⟩,q⟩) hz
theorem vals1(r:Vals [x] us):∃u,us=[u]/\RelV x u:=by
 cases r with
 | cons r1 r2=>cases r2;exact⟨_,rfl,r1⟩
theorem vals2(r:Vals [x,y] us):∃u w',us=[u,w']/\RelV x u/\RelV y w':=by
 cases r with
 | cons r1 r2=>
  cases r2 with
  | cons r3 r4=>cases r4;exact⟨_,_,rfl,r1,r3⟩
theorem acZ(hc:X.calm=true):lW X (.builtin "max") (λxs H Q=>∃i j,xs=[.int i,.int j]/\Q (.int (if j > i then j else i)) H):=by
 intro pins s σ H xs us Q I r h;obtain⟨i,j,rfl,q⟩:=h;obtain⟨u,w',rfl,⟨t,rfl⟩,⟨t',rfl⟩⟩:=vals2 r;refine max_two_ints (I.ok.hd hc) λh' tk k=>⟨_,H,I.kept k,?_,q⟩;by_cases hj:j > i
 ·rw[if_pos hj,if_pos hj];exact⟨_,rfl⟩
 ·rw[if_neg hj,if_neg hj];exact⟨_,rfl⟩
theorem acY(hc:X.calm=true):lW X (.builtin "min") (λxs H Q=>∃i j,xs=[.int i,.int j]/\Q (.int (if j<i then j else i)) H):=by
 intro pins s σ H xs us Q I r h;obtain⟨i,j,rfl,q⟩:=h;obtain⟨u,w',rfl,⟨t,rfl⟩,⟨t',rfl⟩⟩:=vals2 r;refine min_two_ints (I.ok.hd hc) λh' tk k=>⟨_,H,I.kept k,?_,q⟩;by_cases hj:j<i
 ·rw[if_pos hj,if_pos hj];exact⟨_,rfl⟩
 ·rw[if_neg hj,if_neg hj];exact⟨_,rfl⟩
def asA(K:PySem.W.Frag)(x:V)(H:Hp)(n:Nat):Prop:=
 match x with
 | .str y=>y.length<=sizeLine/\n=y.length
 | .byt y=>y.size<=sizeLine/\n=y.size
 | .ref p=>(∃xs,uR K H p xs/\n=xs.length)\/∃xs,qe K H p xs/\n=xs.length
 | _=>False
theorem agC:lW X (.builtin "len") (λxs H Q=>∃x n,xs=[x]/\asA X.K x H n/\Q (.int n) H):=by
 intro pins s σ H xs us Q I r h;obtain⟨x,n,rfl,e,q⟩:=h;obtain⟨u,rfl,rx⟩:=vals1 r;have hl:=Ml;have hs:=sizeLine_eq;cases x with
 | str y=>
  obtain⟨t,rfl⟩:=rx;obtain⟨hy,e'⟩:y.length<=sizeLine/\n=y.length:=e;subst e';exact len_str (by omega) ⟨.int _,H,I.tok _,⟨_,rfl⟩,q⟩
 | byt y=>
  obtain⟨t,rfl⟩:=rx;obtain⟨hy,e'⟩:y.size<=sizeLine/\n=y.size:=e;subst e';exact PySem.W.len_bytes (by omega) ⟨.int _,H,I.tok _,⟨_,rfl⟩,q⟩
 | ref p=>
  cases rx;have e':=e;rcases e' with ⟨xs,hx,e'⟩|⟨xs,hx,e'⟩
  ·subst e';obtain⟨its,r',pl,hz⟩:=I.list hx;have hlen:=r'.length;exact Calls.call_len_list pl.isList (by simp[Qwq];omega) ⟨.int xs.length,H,I.tok _,⟨_,by simp only[Qwq];rw[hlen]⟩,q⟩
  ·subst e';obtain⟨its,r',pl,hz⟩:=I.tuple hx;have hlen:=r'.length;exact len_tuple pl (by simp[Qwq];omega) ⟨.int xs.length,H,I.tok _,⟨_,by simp only[Qwq];rw[hlen]⟩,q⟩
 | _=>exact e.elim
theorem Xj:lW X (.builtin "divmod") (λxs H Q=>∃i j,xs=[.int i,.int j]/\asF i j/\∀p,H p=none->Q (.ref p) (upd H p (.tup [.int (i / j),.int (i % j)]))):=by intro pins s σ H xs us Q I r h;obtain⟨i,j,rfl,⟨h1,h2⟩,q⟩:=h;obtain⟨u,w',rfl,⟨t,rfl⟩,⟨t',rfl⟩⟩:=vals2 r;refine divmod_int (by omega) ?_<|.inl<|PyProof.noPylong_small (by omega);rw[Int.fdiv_eq_ediv_of_nonneg i (by omega),Int.fmod_eq_emod_of_nonneg i (by omega)];have hn:=I.hok.fresh<|Qq0 _;refine⟨.ref s.heap.objs.size,_,?_,rfl,q _ hn⟩;refine I.laid (λb o e=>Qqx _ e) (Qq0 _) ⟨by simp[Qqv,Qw3];rw[sizeLine_eq];decide,[.int (i / j) s.toks,.int (i % j)<|s.toks+1],.cons ⟨_,rfl⟩<|.cons ⟨_,rfl⟩ .nil,?_⟩;exact⟨_,Qq8 s.heap rfl,rfl,⟨0,rfl⟩,rfl⟩
end
theorem PJ.some_of(r:PJ (some v) o):∃u,o=some u/\RelV v u:=by
 cases o with
 | none=>exact r.elim
 | some u=>exact⟨u,rfl,r⟩
structure jr(k:Nat)(A:Around):Prop where
 hd:A.handled=none
 dp:A.depth+3*k+5<recursionLimit
 un:A.units+16*k+200<cLine
theorem jr.mono(r:jr k A)(h:j<=k):jr j A:=⟨r.hd,by have:=r.dp;omega,by have:=r.un;omega⟩
theorem jr.deeper(r:jr (k+1) A)(env):jr k (A.deeper env):=
 ⟨r.hd,by have:=r.dp;show A.depth+1+3*k+5<_;omega,by have:=r.un;show A.units+3+16*k+200<_;omega⟩
theorem jr.depth(r:jr k A):A.depth<recursionLimit:=by have:=r.dp;omega
theorem jr.units(r:jr k A):A.units+64<cLine:=by have:=r.un;omega
def alI:TA:=λ_ H Q=>Q [] H
def Hn(ta:TE)(tr:TA):TA:=λσ H Q=>ta σ H λx H1=>tr σ H1 λxs H2=>Q (x::xs) H2
section
variable{X:Cx}{e:Expr}{es:List Expr}{te:TE}{t:TA}{pos:Pos}
theorem xu:PA X [] alI:=λ_ _ _ _ H Q I h=>Calls.spliced_nil ⟨[],H,I,.nil,h⟩
theorem jj(ha:PE X e te)(hr:PA X es t)(hs:starEach (e::es) X.env=(false,eval e X.env)::starEach es X.env:=by rfl):PA X (e::es) (Hn te t):=by intro pos pins s σ H Q I h;rw[hs];show wpAny _ _ (spliced ((false,eval e X.env)::backTo pos (starEach es X.env))) _ _ s;refine Calls.spliced_cons<|gP (ha pins s σ H _ I h) λu s1 ⟨x,H1,I1,r1,q1⟩=>?_;exact gP (hr pos pins s1 σ H1 _ I1 q1) λus s2 ⟨xs,H2,I2,r2,q2⟩=>⟨x::xs,H2,I2,.cons r1 r2,q2⟩
def atw(t:TA):TE:=λσ H Q=>t σ H λxs H1=>xs.length<=sizeLine/\∀p,H1 p=none->Q (.ref p) (upd H1 p (.tup xs))
def atE(t:TA):TE:=λσ H Q=>t σ H λxs H1=>xs.length<=sizeLine/\∀p,H1 p=none->Q (.ref p) (upd H1 p (.lst xs))
theorem aeO{x1}(h:PA X es t):PE X (.Tuple es x1 pos) (atw t):=by intro pins s σ H Q I hq;refine wpAny_Tuple_spliced<|gP (h pos pins s σ H _ I hq) λus s1 ⟨xs,H1,I1,r,z,q⟩=>⟨by rw[<-r.length];exact z,?_⟩;have hf:=I1.hok.fresh<|Qq0 _;refine⟨.ref s1.heap.objs.size,upd H1 s1.heap.objs.size<|.tup xs,I1.laid (λb u e=>Qqx _ e) (Qq0 _) ?_,rfl,q _ hf⟩;exact⟨z,us,r,J1.new _ _⟩
theorem amu(h:PA X es t):PE X (.List es pos) (atE t):=by intro pins s σ H Q I hq;refine wpAny_List_spliced<|gP (h pos pins s σ H _ I hq) λus s1 ⟨xs,H1,I1,r,z,q⟩=>⟨by rw[<-r.length];exact z,?_⟩;have hf:=I1.hok.fresh<|Qq0 _;refine⟨.ref s1.heap.objs.size,upd H1 s1.heap.objs.size<|.lst xs,I1.laid (λb u e=>Qqx _ e) (Qq0 _) ?_,rfl,q _ hf⟩;exact⟨z,us,0,r,Qq8 _ rfl⟩
end
abbrev Sp:=List V->Hp->VK->XK->Prop
abbrev CXT:=List Env->Hp->Shared->XK->Value->Shared->Prop
structure akl(P:Program)(w:World)(K:PySem.W.Frag)(mg:Str->Option Value)(base:Heap)(A:Around)(outer:List Env)(s:Shared)(H:Hp):Prop where
 frames:A.frames=some outer
 mod:Mod K mg base
 bs:∀b o,base.get? b=some o->s.heap.get? b=some o/\H b=none
 bsz:base.objs.size<=s.heap.objs.size
 Nr:s.heap.FunFrames base outer
 frf:∀b∈frs outer,H b=none
 hok:Ak P w H s.heap
 bare:AllBare s.gens
def CE(outer:List Env)(P:Program)(w:World)(H:Hp)(s:Shared)(Q:VK)(u:Value)(s':Shared):Prop:=
 ∃v H',s'.os=s.os/\AllBare s'.gens/\Un (frs outer) [] H H' s.heap s'.heap/\Ak P w H' s'.heap/\RelV v u/\Q v H'
def CR(CX:CXT)(outer:List Env)(P:Program)(w:World)(H:Hp)(s:Shared)(Q:VK)(E:XK)(r:Result)(s':Shared):Prop:=
 match r with
 | .ok (.ret u)=>CE outer P w H s Q u s'
 | .ok _=>False
 | .error e=>CX outer H s E e s'
structure pP(P:Program)(w:World)(K:PySem.W.Frag)(mg:Str->Option Value)(base:Heap)(CX:CXT)(k:Nat)(f:Addr)(fd:FuncData)(ps:List Str)(sp:Sp):Prop where
 len:∀vs H Q E,sp vs H Q E->vs.length=ps.length
 run:∀(A:Around) (outer:List Env) (s:Shared) (H:Hp) (args:Args) (us:List Value) (vs:List V) (Q:VK) (E:XK),jr k A->akl P w K mg base A outer s H->BindsTo s fd args (ps.zip us)->Vals vs us->sp vs H Q E->
  codeAny (model P w) A (.call (.ref f) args) (CR CX outer P w H s Q E) s
section
variable{X:Cx}{pins:List (Addr×Obj)}{σ:St}{H:Hp}{s s':Shared}
theorem Inv.env0(I:Inv X pins σ H s):akl X.prog X.w X.K X.mg X.base X.A X.stack s H:=
 ⟨I.ok.frames,I.ok.mod,I.bs,Qqy I.ok.bsz I.sz,I.stack,I.aaB,I.hok,I.bare⟩
theorem Inv.after(I:Inv X pins σ H s)(h:CE X.stack X.prog X.w H s Q u s'):EP X pins σ Q u s':=by obtain⟨v,H',os,bare,un,hok,r,q⟩:=h;obtain⟨hh,g,d,t,os'⟩:=s';obtain rfl:os'=s.os:=os;exact⟨v,H',I.call un hok bare<|λb z=>absurd z (by simp),r,q⟩
end
def Qc(sp:Sp)(Xc:List V)(E:XK)(t:TA):TE:=λσ H Q=>t σ H λvs H1=>sp (vs++Xc) H1 Q E
def Binds(K:PySem.W.Frag)(fd:FuncData)(ps:List Str)(ds:List Value):Prop:=
 ∀(s:Shared) (us:List Value),K.In s.heap->(us++ds).length=ps.length->BindsTo s fd ⟨us,[]⟩ (ps.zip (us++ds))
theorem Binds.all{K:PySem.W.Frag}(h:∀us,us.length=ps.length->bindArgs fd ⟨us,[]⟩=pure (ps.zip us)):Binds K fd ps []:=λs us _ hl=>by
 rw[Qw1] at hl ⊢;exact .of_eq<|h us hl
def Passes(CX:CXT)(X:Cx)(E:XK):Prop:=∀(pins:List (Addr×Obj)) (σ:St) (H:Hp) (s:Shared) (e:Value) (s':Shared),Inv X pins σ H s->CX X.stack H s E e s'->X.xe e s'
section
variable{X:Cx}{CX:CXT}{k:Nat}{f C:Addr}{fd:FuncData}{ps:List Str}{sp:Sp}{Xc:List V}{ds:List Value}{E:XK}{x m:Str}{p pos apos:Pos}{e o:Expr}{es:List Expr}{ta:TE}{t:TA}
theorem TQ{σ:St}(F:pP X.prog X.w X.K X.mg X.base CX k f fd ps sp)(hr:jr k X.A)(hb:Binds X.K fd ps ds)(hd:Vals Xc ds)(hx:Passes CX X E)
  (I:Inv X pins σ H s) (r:Vals vs us) (h:sp (vs++Xc) H Q E):wpAny (model X.prog X.w) X.A (call (.ref f) us) (EP X pins σ Q) X.xe s:=by
 have r2:=r.append hd;have hl:(us++ds).length=ps.length:=by rw[<-r2.length];exact F.len _ _ _ _ h
 refine wpAny_call<|codeAny_mono (F.run X.A X.stack s H ⟨us,[]⟩ (us++ds) (vs++Xc) Q E hr I.env0 (hb s us I.Zo hl) r2 h) λr s' hq=>?_;cases r with
 | error e=>exact hx pins σ H s e s' I hq
 | ok fl=>
  cases fl with
  | ret u=>exact I.after hq
  | next=>exact False.elim hq
  | brk=>exact False.elim hq
  | cont=>exact False.elim hq
theorem Ka(F:pP X.prog X.w X.K X.mg X.base CX k f fd ps sp)(hr:jr k X.A)(hg:Gl X x)(hm:X.mg x=some (.ref f))(hk:PySem.W.keepIn X.K (.ref f)=true)(hb:Binds X.K fd ps ds)(hd:Vals Xc ds)(hx:Passes CX X E)
  (ha:PA X (e::es) t) (hdb:qx x:=by decide) (he:starEach (e::es) X.env=(false,eval e X.env)::starEach es X.env:=by rfl) (hpl:(backTo pos (starEach es X.env)).any (·.1)=false:=by rfl) :
  PE X (.Call (.Name x p) (e::es) [] pos) (Qc sp Xc E t):=by
 intro pins s σ H Q I h;refine wpAny_Call_Name_kw<|Ub I hg hm ?_ hdb;refine PySem.W.callWith_K I.ok.mod.qT hk (gP (ha pos pins s σ H _ I h) λus s1 ⟨vs,H1,I1,r,q⟩=>⟨I1.Zo,?_⟩) he hpl;exact TQ F hr hb hd hx I1 r q
end
structure bf(N P:List Str)(sc:Scope):Prop where
 kind:sc.kind = .function
 co:sc.isCoroutine=false
 gen:sc.isGenerator=false
 nd:N.Nodup
 pre:N.take P.length=P
 par:∀x∈P,sc.names.lookup x=some .local\/sc.names.lookup x=some .cell
 am5:∀y∈sc.names,y.2 ≠ .free
theorem Rt{kindOf:Str->Option NameKind}:∀{binds} {m},(∀v,(x,v) ∉ binds)->bindL kindOf binds m x=m x
 | [],_,_=>rfl
 | (n,v)::r,m,h=>by
  unfold bindL;rw[Rt λw hw=>h w<|Qqk _ hw];split
  ·have:x≠n:=by rintro rfl;exact h v Qqw
   simp[this]
  ·rfl
theorem Rv{kindOf:Str->Option NameKind}:∀{binds} {m},(∀v,(x,v) ∉ binds)->bindC kindOf binds m x=m x
 | [],_,_=>rfl
 | (n,v)::r,m,h=>by
  unfold bindC;rw[Rv λw hw=>h w<|Qqk _ hw];split
  ·rfl
  ·have:x≠n:=by rintro rfl;exact h v Qqw
   simp[this]
theorem Ru{kindOf:Str->Option NameKind}:∀{P:List Str} {vs} {i:Nat} {m},P.Nodup->P[i]? = some x->vs[i]? = some v->kindOf x=some .local->
  bindL kindOf (P.zip vs) m x=some v
 | [],_,_,_,_,h,_,_=>by simp at h
 | _::_,[],_,_,_,_,h,_=>by simp at h
 | p::P,w::vs,0,m,nd,h1,h2,hk=>by
  simp at h1 h2;subst h1;subst h2;show bindL kindOf ((p,w)::P.zip vs) m p=_;unfold bindL;rw[Rt λv hv=>(Qxj.mp nd).1 (List.of_mem_zip hv).1,if_pos hk];simp
 | p::P,w::vs,i+1,m,nd,h1,h2,hk=>by
  show bindL kindOf ((p,w)::P.zip vs) m x=_;unfold bindL;exact Ru (Qxj.mp nd).2 (by simpa using h1) (by simpa using h2) hk
theorem Rw{kindOf:Str->Option NameKind}:∀{P:List Str} {vs} {i:Nat} {m},P.Nodup->P[i]? = some x->vs[i]? = some v->kindOf x≠some .local->
  bindC kindOf (P.zip vs) m x=some v
 | [],_,_,_,_,h,_,_=>by simp at h
 | _::_,[],_,_,_,_,h,_=>by simp at h
 | p::P,w::vs,0,m,nd,h1,h2,hk=>by
  simp at h1 h2;subst h1;subst h2;show bindC kindOf ((p,w)::P.zip vs) m p=_;unfold bindC;rw[Rv λv hv=>(Qxj.mp nd).1 (List.of_mem_zip hv).1,if_neg hk];simp
 | p::P,w::vs,i+1,m,nd,h1,h2,hk=>by
  show bindC kindOf ((p,w)::P.zip vs) m x=_;unfold bindC;exact Rw (Qxj.mp nd).2 (by simpa using h1) (by simpa using h2) hk
noncomputable def start(N:List Str)(vs:List V):St:=vs.map some++List.replicate (N.length - vs.length) none
noncomputable def Ag(CX:CXT)(P:Program)(w:World)(K:PySem.W.Frag)(mg:Str->Option Value)(base:Heap)(N:List Str)(qual:Str)(scope:Scope)(f:Addr)(cd:Value)(A:Around)(outer:List Env)(s:Shared)(H:Hp)(E:XK):Cx where
 prog:=P
 w:=w
 K:=K
 mg:=mg
 base:=base
 A:=A.deeper (envOfC qual scope s.heap.objs.size f cd)
 N:=N
 s₀:=s
 H₀:=H
 env:=envOfC qual scope s.heap.objs.size f cd
 outer:=outer
 stack:=envOfC qual scope s.heap.objs.size f cd::outer
 ex:=[]
 calm:=true
 fn:=λ_=>true
 pn:=[]
 xe:=λe s'=>wpAny (model P w) (A.deeper (envOfC qual scope s.heap.objs.size f cd)) (leaving (envOfC qual scope s.heap.objs.size f cd) e) (λ_ s''=>CX outer H s E e s'') (λe' s''=>CX outer H s E e' s'') s'
theorem NB{sc:Scope}(h:sc.names.lookup x=some .cell):∃c,(cellsFrom n sc.names []).lookup x=some c:=by have q:=PySem.W.cellsFrom_some sc.names n []<|.inl h;exact Qw9.mp q
theorem QC{K:PySem.W.Frag}
  (S:bf N ps scope) (hd:A.handled=none) (e0:akl P w K mg base A outer s H) (hl:vs.length=ps.length) (r:Vals vs us)
  (x:InCallC s s.heap.objs.size (bindL (envOfC qual scope s.heap.objs.size f cd).kindOf (ps.zip us) λ_=>none) (cellsFrom (s.heap.objs.size+1) scope.names []) (bindC (envOfC qual scope s.heap.objs.size f cd).kindOf (ps.zip us) λ_=>none) s1) :
  Inv (Ag CX P w K mg base N qual scope f cd A outer s H E) [] (start N vs) H s1:=by
 have hpl:ps.length<=N.length:=by have:=Qx7 List.length S.pre;rw[Qzv] at this;omega
 obtain⟨h1,tk,rfl,hk⟩:=x.done;have noA:∀b,b ∉ (Ag CX P w K mg base N qual scope f cd A outer s H E).ex:=λb z=>absurd (show b∈([]:List Addr) from z) (by simp);refine⟨⟨e0.mod,S.kind,rfl,rfl,Qq0 _,λy z c h1 h2=>?_,λy hy=>?_,λy c _ h=>?_,λ_=>hd,Around.frames_deeper e0.frames,.inr ⟨rfl,rfl⟩,λb z=>absurd z<|noA b,e0.bs,e0.bsz,λb _ _=>noA b,λb z=>absurd z<|noA b,e0.Nr,e0.frf⟩,
  rfl,e0.bare,Un.kept hk,⟨_,x.toInCall.ns,λi y v h1 h2 h3=>?_⟩,λy c h=>⟨_,x.cell y c h⟩,e0.hok.fresh<|Qq0 _,λy c h=>?_,λp hp=>absurd (show p∈([]:List (Addr×Obj)) from hp) (by simp),e0.hok.kept hk,?_⟩
 ·exact name_of_addr x.apart (Qjj h1)<|Qjj h2
 ·have hy:=hy;rcases hy with hy|hy
  ·exact NB hy
  ·exact absurd rfl (S.am5 _<|Qjj hy)
 ·exact Qjy<|x.above y c<|Qjj h
 ·have hi:i<vs.length:=by
   unfold start at h2;by_cases hi:i<vs.length
   ·exact hi
   ·rw[List.getElem?_append_right (by simpa using hi)] at h2;rw[List.getElem?_replicate] at h2;split at h2<;>cases h2
  have ha:vs[i]? = some v:=by
   unfold start at h2;rw[Qz6 (by simpa using hi),Qx5] at h2;cases e:vs[i]? with
   | none=>rw[e] at h2;cases h2
   | some a=>rw[e] at h2;cases h2;rfl
  obtain⟨u,hu,rv⟩:=r.get ha;have hp:ps[i]? = some y:=by rw[<-S.pre,List.getElem?_take_of_lt (by omega)];exact h1
  have ndP:ps.Nodup:=by rw[<-S.pre];exact S.nd.sublist<|List.take_sublist _ _
  refine⟨u,rv,?_⟩;rcases S.par y (List.mem_of_getElem? hp) with k|k
  ·exact .inl ⟨k,Ru ndP hp hu k⟩
  ·obtain⟨c,e⟩:=NB k;refine .inr ⟨.inl k,c,e,?_⟩;have q:=x.cell y c e;rw[Rw ndP hp hu (by show scope.names.lookup y≠_;rw[k];decide)] at q;exact q
 ·exact .inl<|e0.hok.fresh<|Qjy<|x.above y c<|Qjj h
 ·unfold start;show _=N.length;rw[Qqj,Qqz,Qw4];omega
theorem ala{K:PySem.W.Frag}{dV kV doc pm cdv ct oc:Value}
  (lk:K.lookup f=some ⟨oc,od,.func (PySem.W.fnOf name qual params body scope dV kV doc pm an cdv ct),osl⟩) (hcd:PySem.W.codeIn K cdv qual=true) (S:bf N ps scope)
  (len:∀vs H Q E,sp vs H Q E->vs.length=ps.length)
  (hbody:∀A outer s H vs Q E,jr k (A.deeper (envOfC qual scope s.heap.objs.size f cdv))->sp vs H Q E->
   ∃t,Xx (Ag CX P w K mg base N qual scope f cdv A outer s H E) body t/\t { nx:=λ_ H'=>Q .non H',rt:=Q } (start N vs) H) :
  pP P w K mg base CX (k+1) f (PySem.W.fnOf name qual params body scope dV kV doc pm an cdv ct) ps sp:=by
 refine⟨len,λA outer s H args us vs Q E hr e0 hb r hsp=>?_⟩;have hl:=len _ _ _ _ hsp;have KX:=e0.mod.qT.keeps λb o e=>(e0.bs b o e).1;have lim:=e0.mod.nolimit.keeps λb o e=>(e0.bs b o e).1;have hkind:∀y∈ps.zip us,scope.names.lookup y.1=some .local\/(scope.names.lookup y.1=some .cell/\((cellsFrom (s.heap.objs.size+1) scope.names []).lookup y.1).isSome=true):=λ⟨n,v⟩ hy=>by
  rcases S.par n (List.of_mem_zip hy).1 with q|q
  ·exact .inl q
  ·exact .inr ⟨q,PySem.W.cellsFrom_some _ _ _<|.inl q⟩
 refine codeAny_call_function hr.depth (KX _ _ lk) rfl S.co S.gen rfl (PySem.W.codeRec_of KX hcd) (hb _ _ _ _ ?_);refine wpAny_newFunctionEnv_cells S.kind hkind λenv he s1 x=>?_;subst he;refine⟨lim.keeps x.toInCall.keep,codeAny_func ?_⟩;obtain⟨t,ht,hq⟩:=hbody A outer s H vs Q E (hr.deeper _) hsp;have I:Inv (Ag CX P w K mg base N qual scope f cdv A outer s H E) [] (start N vs) H s1:=QC S hr.hd e0 hl r x;refine Qw7 (ht [] s1 (start N vs) H _ I hq) (λfl s' hs=>?_) λe s' hs=>hs;have fin:∀{σ'} {H'} {v} {u},Inv (Ag CX P w K mg base N qual scope f cdv A outer s H E) [] σ' H' s'->RelV v u->Q v H'->CE outer P w H s Q u s':=
  λ{σ' H' v u} J rv q=>⟨v,H',J.os,J.bare,J.base,J.hok,rv,q⟩
 cases fl with
 | ret u=>
  obtain⟨v,σ',H',J,rv,q⟩:=hs;exact fin J rv q
 | next=>
  obtain⟨σ',H',J,q⟩:=hs;exact fin (v:=V.non) J rfl q
 | brk=>
  obtain⟨_,_,_,q⟩:=hs;exact False.elim q
 | cont=>
  obtain⟨_,_,_,q⟩:=hs;exact False.elim q
section
variable{X:Cx}{x:Str}{p pos:Pos}{e:Expr}{es:List Expr}{t:TA}{id T:String}{r:List V->Hp->VK->Prop}
def tCB(r:List V->Hp->VK->Prop)(t:TA):TE:=λσ H Q=>t σ H λvs H1=>r vs H1 Q
theorem Lk(hc:lW X (.builtin id) r)(hg:Gl X x)(hm:X.mg x=none)(hv:bootBuiltins x=some (.builtin id))(ha:PA X (e::es) t)(hn:x ≠ "__name__":=by decide)(hdb:qx x:=by decide)
  (he:starEach (e::es) X.env=(false,eval e X.env)::starEach es X.env:=by rfl) (hpl:(backTo pos (starEach es X.env)).any (·.1)=false:=by rfl):PE X (.Call (.Name x p) (e::es) [] pos) (tCB r t):=by
 intro pins s σ H Q I h;refine wpAny_Call_Name_kw<|zG I hg hm hv ?_ hn hdb;exact PyProof.Rows.callWith_builtin1 (gP (ha pos pins s σ H _ I h) λus s1 ⟨vs,H1,I1,r1,q1⟩=>hc pins s1 σ H1 vs us Q I1 r1 q1) he hpl
theorem abT(hc:lW X (.type T) r)(hg:Gl X x)(hm:X.mg x=none)(hv:bootBuiltins x=some (.type T))(ha:PA X (e::es) t)(hn:x ≠ "__name__":=by decide)(hdb:qx x:=by decide)
  (he:starEach (e::es) X.env=(false,eval e X.env)::starEach es X.env:=by rfl) (hpl:(backTo pos (starEach es X.env)).any (·.1)=false:=by rfl):PE X (.Call (.Name x p) (e::es) [] pos) (tCB r t):=by
 intro pins s σ H Q I h;refine wpAny_Call_Name_kw<|zG I hg hm hv ?_ hn hdb;exact Qx8 (gP (ha pos pins s σ H _ I h) λus s1 ⟨vs,H1,I1,r1,q1⟩=>hc pins s1 σ H1 vs us Q I1 r1 q1) he hpl
end
end L2
namespace HT
open PySem PyProof.Rows
section
variable{prog:Program}{w:World}{A:Around}{E:Value->Shared->Prop}{s:Shared}
theorem ajW(ht:IsTup s.heap t vs.toArray)(hb:IsTup s.heap b ws.toArray)(hv:vs≠[])
  (h1:ws=[]->Q (.ref t) s) (h2:ws≠[]->Q (.ref s.heap.objs.size) { s with heap:=s.heap.push { cls:=.type "tuple",data:=.seq (vs++ws).toArray } })
  (hsz:vs.length+ws.length<=sizeLine):wpAny (model prog w) A (binaryOp .Add (.ref t) (.ref b)) Q E s:=by
 obtain⟨⟨cls,dd,data,sl⟩,ho,hc,n,hd⟩:=id ht;obtain⟨⟨cls2,dd2,data2,sl2⟩,ho2,hc2,n2,hd2⟩:=id hb;simp at hc hd hc2 hd2;subst hc hd hc2 hd2;have e:vs.toArray++ws.toArray=(vs++ws).toArray:=by simp
 by_cases hw:ws=[]
 ·exact concat_meets ⟨_,ho,rfl⟩ ⟨_,ho2,rfl⟩ noFill_tuple_add seq_tuple_add PySem.F.slot_tuple_add PySem.F.entry_tuple_add (PySem.F.args_tuple_add_2 _ _)
   (tuple_addW1 t b vs.toArray ws.toArray n n2 dd dd2 sl sl2 (by simpa using hv) (by simp[hw])) ⟨ho,ho2,h1 hw⟩
 ·refine concat_meets ⟨_,ho,rfl⟩ ⟨_,ho2,rfl⟩ noFill_tuple_add seq_tuple_add PySem.F.slot_tuple_add PySem.F.entry_tuple_add (PySem.F.args_tuple_add_2 _ _)
   (tuple_addW2 t b vs.toArray ws.toArray n n2 dd dd2 sl sl2 (by simpa using hv) (by simpa using hw) (by rw[Qwq,Qwq];exact hsz)) ⟨ho,ho2,?_⟩
  rw[e];exact h2 hw
noncomputable def gQ(n d:Nat):Option Int->Nat
 | none=>d
 | some v=>if v<0 then (v+(n:Int)).toNat else min v.toNat n
theorem ahX(n d k:Nat):gQ n d (some k)=min k n:=by show(if k<0 then (k+(n:Int)).toNat else min (k:Int).toNat n)=min k n;rw[if_neg (by omega),Qz2]
theorem TJ(n d)(hd:d<=n)(o):gQ n d o<=n:=by
 cases o with
 | none=>exact hd
 | some v=>
  show(if v<0 then (v+n).toNat else min v.toNat n)<=n;by_cases hv:v<0
  ·rw[if_pos hv];omega
  ·rw[if_neg hv];exact Nat.min_le_right _ _
theorem aa7(v)(n d:Nat):(if v<0 then max (v+(n:Int)) 0 else min v n)=(gQ n d (some v)):=by
 show(if v<0 then max (v+n) 0 else min v n)=(if v<0 then (v+n).toNat else min v.toNat n);by_cases hv:v<0
 ·simp only[if_pos hv];omega
 ·simp[if_neg hv];omega
theorem aad(lo hi)(n:Nat):Builtin.Slice.sliceAdjust lo hi 1 n=(((gQ n 0 lo):Int),((gQ n n hi):Int)):=by
 have h1:¬(1<0):=by omega
 unfold Builtin.Slice.sliceAdjust;simp only[h1,if_false];refine Prod.ext ?_ ?_
 ·cases lo with
  | none=>rfl
  | some v=>exact aa7 v n 0
 ·cases hi with
  | none=>rfl
  | some v=>exact aa7 v n n
theorem Y0(i j:Nat):Builtin.Slice.slicePlaces i j 1=j - i:=by
 unfold Builtin.Slice.slicePlaces;have h1:1 > 0:=by omega
 simp[h1,if_true,Int.ediv_one];split<;>omega
theorem KN(p:IsPart v o)(h:Q o s):wpAny (model prog w) A (Builtin.Slice.slicePartIndex v) Q E s:=by
 cases p with
 | none=>exact slicePart_none h
 | int i t=>exact slicePart_int h
theorem uF{lo hi:Option Int}{Q:Int×Int×Nat->Shared->Prop}(hs:s.heap.IsSliceOf sl vl vu .none)(pl:IsPart vl lo)(pu:IsPart vu hi)
  (h:Q ((gQ n 0 lo),1,gQ n n hi - gQ n 0 lo) s):wpAny (model prog w) A (Builtin.Slice.sliceApplied (.ref sl) (pure n)) Q E s:=by
 obtain⟨os,hos,hcs,hds⟩:=id hs;unfold Builtin.Slice.sliceApplied Builtin.Slice.sliceFields;refine Qqq<|Qqq<|Qzq hos hds rfl (Qqq<|Qzq hos hds rfl (Qqq<|Qzq hos hds rfl (Qq1 ?_)));refine Qqq<|slicePart_none ?_;show wpAny _ _ (if (1 == 0)=true then _ else _) _ _ s;rw[if_neg (by decide)];refine Qqq<|KN pl<|Qqq<|KN pu<|Qqq<|Qq1 ?_;show wpAny _ _ (match Builtin.Slice.sliceAdjust lo hi 1 n with|(lo,hi)=>pure (lo,(1:Int),Builtin.Slice.slicePlaces lo hi 1)) _ _ s;rw[aad lo hi n];show wpAny _ _ (pure (((gQ n 0 lo):Int),1,Builtin.Slice.slicePlaces (gQ n 0 lo) (gQ n n hi) 1)) _ _ s;rw[Y0];exact Qq1 h
theorem aeM(xs:Array Value)(i k:Nat):((List.range k).filterMap λ(m:Nat)=>xs[(i+(m:Int)*1).toNat]?).toArray=((xs.toList.drop i).take k).toArray:=by
 have e:(λ(m:Nat)=>xs[(i+(m:Int)*1).toNat]?)=λm=>xs[i+m]?:=by
  funext m
  have:(i+(m:Int)*1).toNat=i+m:=by omega
  rw[this]
 rw[e];have:=pick_run xs i k;rw[List.filterMap_map] at this;have e2:((λx=>xs[x]?) ∘ λx=>i+x)=λm=>xs[i+m]?:=rfl;rw[e2] at this;rw[this]
theorem Cp{lo hi:Option Int}(ht:IsTup s.heap t items)(hs:s.heap.IsSliceOf sl vl vu .none)(pl:IsPart vl lo)(pu:IsPart vu hi)
  (hw:¬(gQ items.size 0 lo=0/\gQ items.size items.size hi=items.size))
  (h:Q (.ref s.heap.objs.size) { s with heap:=s.heap.push { cls:=.type "tuple",data:=.seq ((items.toList.drop (gQ items.size 0 lo)).take (gQ items.size items.size hi - gQ items.size 0 lo)).toArray } })
  (hsz:items.size<=sizeLine):wpAny (model prog w) A (getItem (.ref t) (.ref sl)) Q E s:=by
 have aaU:sizeOk (.seq ((items.toList.drop<|gQ items.size 0 lo).take<|gQ items.size items.size hi - gQ items.size 0 lo).toArray):=by show((items.toList.drop<|gQ items.size 0 lo).take<|gQ items.size items.size hi - gQ items.size 0 lo).toArray.size<=sizeLine;rw[Qwq,Qzv,List.length_drop,Qz3];omega
 have hj:gQ items.size items.size hi<=items.size:=TJ _ _ (Qq0 _) hi;obtain⟨os,hos,hcs,hds⟩:=id hs;have hTs:s.TypeIs (.ref sl) "slice":=⟨os,hos,hcs⟩;unfold getItem
 try with_reducible refine Qjz ?_
 first|refine Qqq (Qq1 ?_)|skip
 refine Qqq<|wpAny_sequenceKey ht.typeIs (by decide) ?_;refine Qqq (Qx9 ht.typeIs Qzz
  (Qzx Qzz ht.typeIs entry_tuple_getitem ?_<|args_tuple_getitem _ _))
 show wpAny _ _ (Builtin.Tuple.tupleItemsOf (.ref t) >>= _) _ _ s;refine Qqq<|tupleItemsOf_ ht ?_;refine Qqq<|wpAny_typeOf hTs ?_;rw[if_pos (by decide)];refine Qqq<|uF hs pl pu ?_;have hno:¬((((gQ items.size 0 lo:Nat):Int) == 0&&(1:Int) == 1&&(gQ items.size items.size hi - gQ items.size 0 lo) == items.size)=true):=by intro q;rw[Qzw,Qzw] at q;have q1:=eq_of_beq q.1.1;have q2:=eq_of_beq q.2;exact hw ⟨by omega,by omega⟩
 show wpAny _ _ (if (((gQ items.size 0 lo:Nat):Int) == 0&&(1:Int) == 1&&(gQ items.size items.size hi - gQ items.size 0 lo) == items.size)=true then _ else _) _ _ s;rw[if_neg hno,aeM]
 first
  | exact Qqq<|Qz1 (Qq1 ⟨_,rfl,Qq1 h⟩) aaU
  | exact Qqq<|Qz1 (Qqq<|Qq1<|Qq1 ⟨_,rfl,Qq1 h⟩) aaU
  | exact Qqq<|Qqq<|Qz1 (Qq1<|Qq1 ⟨_,rfl,Qq1 h⟩) aaU
  | exact Qqq<|Qqq<|Qz1 (Qq1 ⟨_,rfl,Qq1 h⟩) aaU
end
end HT
namespace L2
open PySem PySem.Spec PyProof.Rows
abbrev TO:=St->Hp->(Option Int->Hp->Prop)->Prop
def PO(X:Cx)(e:Option Expr)(t:TO):Prop:=
 ∀(pins:List (Addr×Obj)) (s:Shared) (σ:St) (H:Hp) (Q:Option Int->Hp->Prop),Inv X pins σ H s->t σ H Q->
  wpAny (model X.prog X.w) X.A (evalPart e X.env) (λu s'=>∃o H',Inv X pins σ H' s'/\IsPart u o/\Q o H') X.xe s
def ahC:TO:=λ_ H Q=>Q none H
def apQ(t:TE):TO:=λσ H Q=>t σ H λx H1=>∃i,x = .int i/\Q (some i) H1
section
variable{X:Cx}{e:Expr}{te:TE}{lo hi:Option Expr}{tl th:TO}{pos p2:Pos}
theorem air:PO X none ahC:=by intro pins s σ H Q I h;rw[evalPart_none];exact Qq1 ⟨none,H,I,.none,h⟩
theorem aiq(h:PE X e te):PO X (some e) (apQ te):=by intro pins s σ H Q I hw;rw[evalPart_some];refine gP (h pins s σ H _ I hw) λu s1 ⟨x,H1,I1,r1,q1⟩=>?_;obtain⟨i,rfl,q⟩:=q1;obtain⟨t,rfl⟩:=r1;exact⟨some i,H1,I1,.int i t,q⟩
def SlR(X:Cx)(r:V->Option Int->Option Int->Hp->VK->Prop):Prop:=
 ∀(pins:List (Addr×Obj)) (s:Shared) (σ:St) (H:Hp) (x:V) (v vl vu:Value) (lo hi:Option Int) (sl:Addr) (Q:VK),Inv X pins σ H s->RelV x v->s.heap.IsSliceOf sl vl vu .none->IsPart vl lo->IsPart vu hi->r x lo hi H Q->
  ∃T id,typeLookup (.type T) "__getitem__" = pure (some (.builtin id))/\s.TypeIs v T/\wpAny (model X.prog X.w) X.A (getItem v (.ref sl)) (EP X pins σ Q) X.xe s
theorem SlR.or(h:SlR X r)(h':SlR X r'):SlR X (λx lo hi H Q=>r x lo hi H Q\/r' x lo hi H Q):=by
 intro pins s σ H x v vl vu lo hi sl Q I rx hs pl pu q;rcases q with q|q
 ·exact h pins s σ H x v vl vu lo hi sl Q I rx hs pl pu q
 ·exact h' pins s σ H x v vl vu lo hi sl Q I rx hs pl pu q
def tSl(r:V->Option Int->Option Int->Hp->VK->Prop)(te:TE)(tl th:TO):TE:=λσ H Q=>te σ H λx H1=>tl σ H1 λl H2=>th σ H2 λu H3=>r x l u H3 Q
theorem V6(hr:SlR X r)(he:PE X e te)(hl:PO X lo tl)(hu:PO X hi th):PE X (.Subscript e (.Slice lo hi none p2) pos) (tSl r te tl th):=by intro pins s σ H Q I h;refine Subscript_<|gP (he pins s σ H _ I h) λv s1 ⟨x,H1,I1,r1,q1⟩=>?_;refine wpAny_Slice<|gP (hl pins s1 σ H1 _ I1 q1) λvl s2 ⟨l,H2,I2,pl,q2⟩=>gP (hu pins s2 σ H2 _ I2 q2) λvu s3 ⟨u,H3,I3,pu,q3⟩=>?_;rw[evalPart_none];refine Qq1 ?_;have I4:Inv X pins σ H3 { s3 with heap:=s3.heap.push { cls:=.type "slice",data:=.fields #[vl,vu,.none] } }:=I3.kept λb ob q=>Qqx _ q;obtain⟨T,id,hT,ht,hg⟩:=hr pins { s3 with heap:=s3.heap.push { cls:=.type "slice",data:=.fields #[vl,vu,.none] } } σ H3 x v vl vu l u s3.heap.objs.size Q I4 r1 (Heap.IsSliceOf.new ..) pl pu q3;show wpAny (model X.prog X.w) X.A (subscriptTail e (.Slice lo hi none p2) v<|.ref s3.heap.objs.size) (EP X pins σ Q) X.xe { s3 with heap:=s3.heap.push { cls:=.type "slice",data:=.fields #[vl,vu,.none] } };exact tail_any ht hT hg (by with_unfolding_all rfl)
def JZ(xs:List V)(lo hi:Option Int):List V:=(xs.drop (HT.gQ xs.length 0 lo)).take (HT.gQ xs.length xs.length hi - HT.gQ xs.length 0 lo)
theorem Jc(xs)(lo hi):(JZ xs lo hi).length<=xs.length:=by unfold JZ;rw[Qzv,List.length_drop];omega
def al3(K:PySem.W.Frag):V->Option Int->Option Int->Hp->VK->Prop:=λx lo hi H Q=>∃a xs,x = .ref a/\qe K H a xs/\
 ¬(HT.gQ xs.length 0 lo=0/\HT.gQ xs.length xs.length hi=xs.length)/\∀p,H p=none->Q (.ref p) (upd H p (.tup (JZ xs lo hi)))
theorem Ys:SlR X (al3 X.K):=by
 intro pins s σ H x v vl vu lo hi sl Q I rx hs pl pu h;obtain⟨a,xs,rfl,hx,hw,q⟩:=h;cases rx;obtain⟨its,r,ht,hz⟩:=I.tuple hx;have hlen:its.toArray.size=xs.length:=by rw[Qwq];exact r.length.symm
 refine⟨"tuple",_,PyProof.Rows.slot_tuple_getitem.lookup,ht.typeIs,?_⟩;refine HT.Cp ht hs pl pu (by rw[hlen];exact hw) ?_ (by rw[hlen];exact hz);rw[hlen];refine⟨.ref s.heap.objs.size,_,I.laid (λb ob q=>Qqx _ q) (Qq0 _) ?_,rfl,q _<|I.hok.fresh<|Qq0 _⟩;exact⟨Qqy (Jc xs lo hi) hz,_,(r.drop<|HT.gQ xs.length 0 lo).take<|HT.gQ xs.length xs.length hi - HT.gQ xs.length 0 lo,J1.new _ _⟩
def akJ(K:PySem.W.Frag):R2:=λx y H Q=>∃a b xs ys,x = .ref a/\y = .ref b/\qe K H a xs/\qe K H b ys/\xs≠[]/\xs.length+ys.length<=sizeLine/\
 (ys=[]->Q (.ref a) H)/\(ys≠[]->∀p,H p=none->Q (.ref p) (upd H p (.tup (xs++ys))))
theorem Vals.Br(r:Vals xs us):us=[]↔xs=[]:=by
 cases r with
 | nil=>simp
 | cons _ _=>simp
theorem aiH:qu X (binaryOp .Add) (akJ X.K):=by intro pins s σ H x y v u Q I rx ry h;obtain⟨a,b,xs,ys,rfl,rfl,ha,hb,hx,hz,q1,q2⟩:=h;cases rx;cases ry;obtain⟨its,r1,p1,_⟩:=I.tuple ha;obtain⟨its2,r2,p2,_⟩:=I.tuple hb;refine HT.ajW p1 p2 (λz=>hx<|r1.Br.mp z) (λz=>⟨.ref a,H,I,rfl,q1<|r2.Br.mp z⟩) (λz=>?_) (by rw[<-r1.length,<-r2.length];exact hz);refine⟨.ref s.heap.objs.size,_,I.laid (λb ob q=>Qqx _ q) (Qq0 _) ?_,rfl,q2 (λw=>z<|r2.Br.mpr w) _<|I.hok.fresh<|Qq0 _⟩;exact⟨by rw[Qqj];exact hz,_,r1.append r2,J1.new _ _⟩
end
noncomputable def ixN(n:Nat)(i:Int):Option Nat:=if 0<=i then (if i<n then some i.toNat else none) else if -(n:Int)<=i then some (i+n).toNat else none
def uO{α:Type}(xs:List α)(i:Int):Option α:=(ixN xs.length i).bind λj=>xs[j]?
theorem aaR(h:ixN n i=some j):seqIndex? i n=some j/\j<n/\-n<=i/\i<n:=by
 unfold ixN at h;by_cases h0:0<=i
 ·rw[if_pos h0] at h;by_cases h1:i<n
  ·rw[if_pos h1] at h;have e:=Qw2 h;exact⟨by rw[seqIndex_of h0 h1,e],by omega,by omega,h1⟩
  ·rw[if_neg h1] at h;cases h
 ·rw[if_neg h0] at h;by_cases h1 : -n<=i
  ·rw[if_pos h1] at h;have e:=Qw2 h;exact⟨by rw[seqIndex_neg (by omega) h1,e],by omega,h1,by omega⟩
  ·rw[if_neg h1] at h;cases h
theorem UL{α:Type}{xs:List α}{v:α}(h:uO xs i=some v):∃j,seqIndex? i xs.length=some j/\xs[j]? = some v/\j<xs.length/\-xs.length<=i/\i<xs.length:=by
 unfold uO at h;cases e:ixN xs.length i with
 | none=>rw[e] at h;cases h
 | some j=>
  rw[e] at h;obtain⟨h1,h2,h3,h4⟩:=aaR e;exact⟨j,h1,h,h2,h3,h4⟩
theorem oE{α:Type}{xs:List α}{j:Nat}{v:α}(h:xs[j]? = some v):uO xs j=some v:=by
 have hj:=(Qq9.mp h).1;have e:ixN xs.length j=some j:=by unfold ixN;rw[if_pos (by omega),if_pos (by omega)];simp
 unfold uO;rw[e];exact h
def Dg(b:Expr):Prop:=∀o i,subscripted b false o i=operate [o,i] (getItem o i)
def IxR(X:Cx)(r:R2):Prop:=
 ∀(value slice:Expr) (pins:List (Addr×Obj)) (s:Shared) (σ:St) (H:Hp) (x y:V) (v u:Value) (Q:VK),Inv X pins σ H s->RelV x v->RelV y u->r x y H Q->
  subscripted slice false v u=operate [v,u] (getItem v u)->wpAny (model X.prog X.w) X.A (subscriptTail value slice v u) (EP X pins σ Q) X.xe s
def MtR(X:Cx)(id:String)(r:V->List V->Hp->VK->Prop):Prop:=
 ∀(pins:List (Addr×Obj)) (s:Shared) (σ:St) (H:Hp) (x:V) (xs:List V) (v:Value) (us:List Value) (Q:VK),Inv X pins σ H s->RelV x v->Vals xs us->r x xs H Q->
  wpAny (model X.prog X.w) X.A (call (.builtin id) (v::us)) (EP X pins σ Q) X.xe s
section
variable{X:Cx}{a b:Expr}{ta tb:TE}{pos:Pos}
theorem IxR.or(h:IxR X r)(h':IxR X r'):IxR X (λx y H Q=>r x y H Q\/r' x y H Q):=by
 intro value slice pins s σ H x y v u Q I rx ry q hs;rcases q with q|q
 ·exact h value slice pins s σ H x y v u Q I rx ry q hs
 ·exact h' value slice pins s σ H x y v u Q I rx ry q hs
theorem akO(hr:IxR X r)(ha:PE X a ta)(hb:PE X b tb)(hs:Dg b):PE X (.Subscript a b pos) (tOp r ta tb):=by intro pins s σ H Q I h;exact Subscript_<|ao6 ha hb I h λv u s2 x y H2 I2 rx ry q=>hr a b pins s2 σ H2 x y v u Q I2 rx ry q<|hs _ _
def aql(K:PySem.W.Frag):R2:=λx y H Q=>∃p xs i v,x = .ref p/\y = .int i/\uR K H p xs/\uO xs i=some v/\Q v H
def aqj(K:PySem.W.Frag):R2:=λx y H Q=>∃p xs i v,x = .ref p/\y = .int i/\qe K H p xs/\uO xs i=some v/\Q v H
def aqk:R2:=λx y H Q=>∃z i c,x = .str z/\y = .int i/\z.length<=sizeLine/\uO z.cps.toList i=some c/\Q (.str ⟨#[c]⟩) H
theorem ajb:IxR X (aql X.K):=by
 intro value slice pins s σ H x y v u Q I rx ry h hs;obtain⟨p,xs,i,z,rfl,rfl,hq,he,q⟩:=h;cases rx;obtain⟨t,rfl⟩:=ry;obtain⟨its,r,pl,hz⟩:=I.list hq;obtain⟨j,h1,h2,h3,h4,h5⟩:=UL he;obtain⟨w,ew,rw'⟩:=r.get h2;have hl:=r.length;have hn:=Ml;have fin:EP X pins σ Q w s:=⟨z,H,I,rw',q⟩;by_cases h0:0<=i
 ·have hj:i.toNat=j:=by
   rw[seqIndex_of h0 h5] at h1;exact Qw2 h1
  exact item_listR pl.isList h0 (by omega) (by rw[hj];simpa using ew) fin hs
 ·have hj:(i+its.toArray.size).toNat=j:=by
   rw[seqIndex_neg (by omega) h4] at h1;rw[Qwq,<-hl];exact Qw2 h1
  exact subscriptTail_builtinR pl.isList.typeIs slot_list_getitem.lookup
   (wpAny_getItem_list_neg pl.isList (by omega) (by rw[Qwq]<;>omega) (by omega) (by rw[hj];simpa using ew) ⟨rfl,fin⟩) hs
theorem aod:IxR X (aqj X.K):=by
 intro value slice pins s σ H x y v u Q I rx ry h hs;obtain⟨p,xs,i,z,rfl,rfl,hq,he,q⟩:=h;cases rx;obtain⟨t,rfl⟩:=ry;obtain⟨its,r,pl,hz⟩:=I.tuple hq;obtain⟨j,h1,h2,h3,h4,h5⟩:=UL he;obtain⟨w,ew,rw'⟩:=r.get h2;have hl:=r.length;have hn:=Ml;have fin:EP X pins σ Q w s:=⟨z,H,I,rw',q⟩;exact subscriptTail_builtinR pl.typeIs slot_tuple_getitem.lookup
  (getItem_tuple pl (by omega) (by omega) (by rw[Qwq,<-hl];exact h1) (by simpa using ew) ⟨rfl,fin⟩) hs
theorem aoe:IxR X aqk:=by
 intro value slice pins s σ H x y v u Q I rx ry h hs;obtain⟨z,i,c,rfl,rfl,hz,he,q⟩:=h;obtain⟨t,rfl⟩:=rx;obtain⟨t',rfl⟩:=ry;obtain⟨j,h1,h2,h3,h4,h5⟩:=UL he;have hl:z.cps.toList.length=z.length:=by simp[Str.length]
 rw[hl] at h1 h4 h5;have hn:=Ml;exact tail_any (typeIs_str s z t) slot_str_getitem.lookup (getItem_str (by
  have e1:decide (i < -(2^63))=false:=Qwj (by omega);have e2:decide (i ≥ 2^63)=false:=Qwj (by omega);rw[e1,e2,Bool.or_false]) (by rw[h1];simpa using h2) ⟨.str ⟨#[c]⟩,H,I.tok _,⟨_,rfl⟩,q⟩) hs
def rIx(K:PySem.W.Frag):R2:=λx y H Q=>aql K x y H Q\/aqj K x y H Q\/aqk x y H Q
theorem afN:IxR X (rIx X.K):=ajb.or<|aod.or aoe
theorem Zk(its:List Value)(n j)(u):Obj.mapSeq (·.setIfInBounds j u) { cls:=.type "list",data:=.seq its.toArray n } = { cls:=.type "list",data:=.seq (its.set j u).toArray n }:=by simp[Obj.mapSeq]
theorem Inv.lst{σ:St}(I:Inv X pins σ H s)(h:H p=some (.lst xs)) :
  ∃its n,Vals xs its/\s.heap.get? p=some { cls:=.type "list",data:=.seq its.toArray n }/\xs.length<=sizeLine:=by
 obtain⟨z,its,n,r,e⟩:=I.hok p _ h;exact⟨its,n,r,e,z⟩
theorem Inv.ang{σ:St}{its its':List Value}(I:Inv X pins σ H s)(h:H p=some (.lst xs))
  (ho:s.heap.get? p=some { cls:=.type "list",data:=.seq its.toArray n }) (hf:f { cls:=.type "list",data:=.seq its.toArray n } = { cls:=.type "list",data:=.seq its'.toArray n' }) (r:Vals ys its') (hz:ys.length<=sizeLine) (t) :
  Inv X pins σ (upd H p (.lst ys)) { s with heap:=s.heap.update p f,toks:=t }:=by
 have e:(s.heap.update p f).get? p=some { cls:=.type "list",data:=.seq its'.toArray n' }:=by rw[Heap.get?_update_self f ho (by rw[hf]<;>rfl),hf]
 refine I.write (by rw[h];trivial) (.inl rfl) (λb u hb q=>(Heap.get?_update_other _ _<|Ne.symm hb).trans q) ⟨_,e⟩ ?_;exact⟨hz,its',n',r,e⟩
def aqf:V->V->V->Hp->(Hp->Prop)->Prop:=λo i v H Q=>∃p xs k j,o = .ref p/\i = .int k/\H p=some (.lst xs)/\ixN xs.length k=some j/\Q (upd H p (.lst (xs.set j v)))
theorem set_list:asw X aqf:=by
 intro pins s σ H o i v ov iv u Q I ro ri rv h;obtain⟨p,xs,k,j,rfl,rfl,hp,hj,q⟩:=h;cases ro;obtain⟨t,rfl⟩:=ri;obtain⟨its,n,r,ho,hz⟩:=I.lst hp;obtain⟨h1,h2,h3,h4⟩:=aaR hj;have hl:=r.length;have hn:=Ml;have I':=
  I.ang hp ho (Zk its n j u) (r.set rv j) (by rw[Qx2];exact hz) s.toks
 by_cases h0:0<=k
 ·have hk:k.toNat=j:=by
   rw[seqIndex_of h0 h4] at h1;exact Qw2 h1
  exact PySem.W.ki_setAt ho h0 (by omega) (by rw[Qwq,<-hl];exact h4) (by rw[hk];exact⟨_,I',q⟩)
 ·have hk:(k+its.toArray.size).toNat=j:=by
   rw[seqIndex_neg (by omega) h3] at h1;rw[Qwq,<-hl];exact Qw2 h1
  exact PySem.W.ki_setBack ho (by omega) (by rw[Qwq,<-hl];exact h3) (by omega) (by rw[hk];exact⟨_,I',q⟩)
theorem Th(lo hi)(n):(sliceBounds lo hi none n).1=(HT.gQ n 0 lo)/\(sliceBounds lo hi none n).2.1=(HT.gQ n n hi)/\(sliceBounds lo hi none n).2.2=1:=by
 refine⟨?_,?_,rfl⟩
 ·cases lo with
  | none=>simp[sliceBounds,HT.gQ]
  | some i=>
   simp[sliceBounds,HT.gQ,Option.getD_none,show(1:Int) > 0 by decide,if_true];by_cases h:i<0
   ·simp[h,if_true]<;>omega
   ·simp[h,if_false]<;>omega
 ·cases hi with
  | none=>simp[sliceBounds,HT.gQ]
  | some i=>
   simp[sliceBounds,HT.gQ,Option.getD_none,show(1:Int) > 0 by decide,if_true];by_cases h:i<0
   ·simp[h,if_true]<;>omega
   ·simp[h,if_false]<;>omega
theorem Ow(its:List Value)(lo hi):slicePick its.toArray lo hi none=((its.drop (HT.gQ its.length 0 lo)).take (HT.gQ its.length its.length hi - HT.gQ its.length 0 lo)).toArray:=by obtain⟨h1,h2,h3⟩:=Th lo hi its.toArray.size;unfold slicePick;rw[h1,h2,h3];simp only[sliceRange_one,pick_run,Qwq]<;>rfl
def aqe(K:PySem.W.Frag):V->Option Int->Option Int->Hp->VK->Prop:=λx lo hi H Q=>∃a xs,x = .ref a/\uR K H a xs/\∀p,H p=none->Q (.ref p) (upd H p (.lst (JZ xs lo hi)))
theorem aaC:SlR X (aqe X.K):=by intro pins s σ H x v vl vu lo hi sl Q I rx hs pl pu h;obtain⟨a,xs,rfl,hx,q⟩:=h;cases rx;obtain⟨its,r,ht,hz⟩:=I.list hx;have hlen:=r.length;refine⟨"list",_,slot_list_getitem.lookup,ht.isList.typeIs,?_⟩;refine wpAny_getItem_list_slice ht.isList hs pl pu .none (by simp) ?_ (by rw[Qwq]<;>omega);rw[Ow,<-hlen];refine⟨.ref s.heap.objs.size,_,I.laid (λb ob q=>Qqx _ q) (Qq0 _) ?_,rfl,q _<|I.hok.fresh<|Qq0 _⟩;exact⟨Qqy (Jc xs lo hi) hz,_,0,(r.drop<|HT.gQ xs.length 0 lo).take<|HT.gQ xs.length xs.length hi - HT.gQ xs.length 0 lo,Qq8 _ rfl⟩
theorem lW.or(h:lW X f r)(h':lW X f r'):lW X f (λxs H Q=>r xs H Q\/r' xs H Q):=by
 intro pins s σ H xs us Q I rs q;rcases q with q|q
 ·exact h pins s σ H xs us Q I rs q
 ·exact h' pins s σ H xs us Q I rs q
theorem Uu:lW X (.type "list") (λxs H Q=>∃p ys,xs=[.ref p]/\(uR X.K H p ys\/qe X.K H p ys)/\∀l,H l=none->Q (.ref l) (upd H l (.lst ys))):=by
 intro pins s σ H xs us Q I r h;obtain⟨p,ys,rfl,hq,q⟩:=h;obtain⟨u,rfl,rx⟩:=vals1 r;cases rx;have fin:∀its,Vals ys its->ys.length<=sizeLine->∀h' c',(∀b o',s.heap.get? b=some o'->h'.get? b=some o')->
   h'.get? s.heap.objs.size=some { cls:=.type "list",dict:=none,data:=.seq its.toArray c',slots:=#[] }->EP X pins σ Q (.ref s.heap.objs.size) { s with heap:=h' }:=λits r' hz h' c' kp e=>
  ⟨.ref s.heap.objs.size,_,I.laid kp (Qq0 _)<|show jt X.prog X.w _ h' _ (.lst ys) from⟨hz,its,c',r',e⟩,rfl,q _<|I.hok.fresh<|Qq0 _⟩
 rcases hq with hq|hq
 ·obtain⟨its,r',pl,hz⟩:=I.list hq;have hlen:=r'.length;obtain⟨o,ho,hc,n,hd⟩:=pl.isList;exact call_list_seq p (.inl rfl) ho hc hd (λh' c' kp e=>fin its r' hz h' c' kp e) (by simp[Qwq]<;>omega)
 ·obtain⟨its,r',pl,hz⟩:=I.tuple hq;have hlen:=r'.length;obtain⟨o,ho,hc,n,hd⟩:=pl;exact call_list_seq p (.inr rfl) ho hc hd (λh' c' kp e=>fin its r' hz h' c' kp e) (by simp[Qwq]<;>omega)
theorem Pq:lW X (.type "tuple") (λxs H Q=>∃p ys,xs=[.ref p]/\((uR X.K H p ys/\∀l,H l=none->Q (.ref l) (upd H l (.tup ys)))\/(qe X.K H p ys/\Q (.ref p) H))):=by
 intro pins s σ H xs us Q I r h;obtain⟨p,ys,rfl,h⟩:=h;obtain⟨u,rfl,rx⟩:=vals1 r;cases rx;rcases h with ⟨hq,q⟩|⟨hq,q⟩
 ·obtain⟨its,r',pl,hz⟩:=I.list hq;have hlen:=r'.length;refine call_tuple_list pl.isList (λh' kp=>?_) (by simp[Qwq]<;>omega);have I1:Inv X pins σ H { s with heap:=h' }:=I.kept kp;have I2:Inv X pins σ (upd H h'.objs.size<|.tup ys) { s with heap:=h'.push { cls:=.type "tuple",data:=.seq its.toArray } }:=
   I1.laid (λb o e=>Qqx _ e) (Qq0 _) (show jt X.prog X.w _ _ _ (.tup ys) from⟨hz,its,r',J1.new _ _⟩)
  exact⟨.ref h'.objs.size,_,I2,rfl,q _<|I1.hok.fresh<|Qq0 _⟩
 ·obtain⟨its,r',pl,hz⟩:=I.tuple hq;exact call_tuple_same pl ⟨.ref p,H,I,rfl,q⟩
def tyV(K:PySem.W.Frag)(T:String)(x:V)(H:Hp):Prop:=match x with
 | .str _=>T = "str"
 | .int _=>T = "int"
 | .ref p=>(T = "list"/\∃xs,uR K H p xs)\/(T = "tuple"/\∃o,K.lookup p=some o/\o.cls = .type "tuple"/\o.dict=none)\/
   (T = "dict"/\((∃kvs,H p=some (.dK kvs))\/∃kvs,H p=some (.dT kvs)))\/(T = "set"/\∃S n,H p=some (.set S n))
 | _=>False
theorem alz{σ:St}(I:Inv X pins σ H s)(r:RelV x v)(ty:tyV X.K T x H) :
  s.TypeIs v T/\∀a,v = .ref a->∃ob,s.heap.get? a=some ob/\ob.dict=none:=by
 cases x with
 | str z=>
  obtain⟨t,rfl⟩:=r;cases ty;exact⟨typeIs_str s z t,λ_ e=>nomatch e⟩
 | int i=>
  obtain⟨t,rfl⟩:=r;cases ty;exact⟨typeIs_int s i t,λ_ e=>nomatch e⟩
 | ref p=>
  cases r;rcases ty with ⟨rfl,xs,hq⟩|⟨rfl,o,hk,hc,hd⟩|⟨rfl,hk⟩|⟨rfl,S,n,hk⟩
  ·obtain⟨its,_,pl,_⟩:=I.list hq;refine⟨pl.isList.typeIs,λa e=>?_⟩;cases e;obtain⟨o,n,e,c,hd,_⟩:=pl;exact⟨o,e,hd⟩
  ·refine⟨⟨o,I.Zo p o hk,hc⟩,λa e=>?_⟩;cases e;exact⟨o,I.Zo _ o hk,hd⟩
  ·have z:∃o,s.heap.get? p=some o/\o.ExactDict:=by
    rcases hk with ⟨kvs,hk⟩|⟨kvs,hk⟩
    ·obtain⟨_,_,_,_,o,_,_,e,ex,_⟩:=I.hok p _ hk;exact⟨o,e,ex⟩
    ·obtain⟨_,_,_,_,o,_,_,e,ex,_⟩:=I.hok p _ hk;exact⟨o,e,ex⟩
   obtain⟨o,e,ex⟩:=z;refine⟨⟨o,e,ex.1⟩,λa e2=>?_⟩;cases e2;exact⟨o,e,ex.2.1⟩
  ·obtain⟨o,_,_,_,e,ex,_⟩:=I.hok p _ hk;refine⟨⟨o,e,ex.1⟩,λa e2=>?_⟩;cases e2;exact⟨o,e,ex.2.1⟩
 | _=>exact False.elim ty
def tBM(K:PySem.W.Frag)(T:String)(r:V->List V->Hp->VK->Prop)(to:TE)(t:TA):TE:=λσ H Q=>to σ H λx H1=>tyV K T x H1/\t σ H1 λxs H2=>r x xs H2 Q
variable{o e:Expr}{es:List Expr}{to:TE}{t:TA}{name:Str}{apos cpos:Pos}{T id:String}{r:V->List V->Hp->VK->Prop}
theorem akP(pa:PlainAttrs T)(slot:Slot T name id)(hty:typeOf (.builtin id)=pure (.type "method_descriptor"))(hm:MtR X id r)(ho:PE X o to)(ha:PA X (e::es) t)
  (hbase:attributeBase o name X.env (eval o X.env)=eval o X.env:=by rfl)
  (hfew:((backTo cpos (starEach (e::es) X.env)).all (λx=>!x.1)&&(backToKw cpos (keywordEach [] X.env)).all (λx=>x.1.isSome)
   && decide ((e::es).length+([]:List Keyword).length+(if ([]:List Keyword).isEmpty then 0 else 1)<30))=true:=by rfl)
  (hline:(apos.endLine == cpos.line)=true:=by rfl) (hs:starEach (e::es) X.env=(false,eval e X.env)::starEach es X.env:=by rfl) (hplain:(backTo cpos (starEach es X.env)).any (·.1)=false:=by rfl) :
  PE X (.Call (.Attribute o name apos) (e::es) [] cpos) (tBM X.K T r to t):=by
 intro pins s σ H Q I h;refine wpAny_Call_method_late hbase hfew hline rfl (gP (ho pins s σ H _ I h) λv s1 ⟨x,H1,I1,r1,ty,q1⟩=>?_);obtain⟨h1,h2⟩:=alz I1 r1 ty;refine⟨T,id,pa,slot,hty,h1,h2,?_⟩;have hA:=ha cpos pins s1 σ H1 _ I1 q1;rw[hs] at hA ⊢;refine Calls.callWith_builtin (by show(false||(backTo cpos<|starEach es X.env).any (·.1))=false;rw[hplain]<;>rfl)<|Calls.evalArgs_plain ?_;exact gP hA λus s2 ⟨vs,H2,I2,r2,q2⟩=>hm pins s2 σ H2 x vs v us Q I2 r1 r2 q2
end
def MtM(X:Cx)(id:String)(r:V->List V->Hp->VK->Prop):Prop:=
 ∀(pins:List (Addr×Obj)) (s:Shared) (σ:St) (H:Hp) (x:V) (xs:List V) (v:Value) (us:List Value) (Q:VK),Inv X pins σ H s->RelV x v->Vals xs us->r x xs H Q->
  wpAny (model X.prog X.w) X.A (call (.builtin id) (v::us)) (EP X pins σ Q) X.xe s
theorem Vals.one:∀{x} {us},Vals [x] us->∃u,us=[u]/\RelV x u
 | _,_,.cons r .nil=>⟨_,rfl,r⟩
theorem Vals.two:∀{x y} {us},Vals [x,y] us->∃u v,us=[u,v]/\RelV x u/\RelV y v
 | _,_,_,.cons r (.cons q .nil)=>⟨_,_,rfl,r,q⟩
section
variable{X:Cx}{pins:List (Addr×Obj)}{σ:St}{H:Hp}{s:Shared}{l b:Addr}{xs ys zs:List V}
theorem Inv.auj{its its':List Value}(I:Inv X pins σ H s)(hH:H l=some (.lst xs))
  (e:s.heap.get? l=some { cls:=.type "list",data:=.seq its.toArray n }) (hf:f its.toArray=its'.toArray) (hv:Vals ys its') (hz:ys.length<=sizeLine) :
  Inv X pins σ (upd H l (.lst ys)) { s with heap:=s.heap.update l (Obj.mapSeq f),toks:=t' }:=by
 have q:=PySem.IsL.update e f;rw[hf] at q;refine I.write (by rw[hH];exact trivial) (.inl rfl) (λb' u hb hu=>(Heap.get?_update_other s.heap (Obj.mapSeq f)<|Ne.symm hb).trans hu) ⟨_,q⟩ ?_;exact⟨hz,its',_,hv,q⟩
theorem Inv.aq5(I:Inv X pins σ H s)(hv:Vals ys its)(hz:ys.length<=sizeLine) :
  Inv X pins σ (upd H s.heap.objs.size (.lst ys)) { s with heap:=s.heap.push { cls:=.type "list",data:=.seq its.toArray },toks:=t' }:=
 I.laid (λ_ _ q=>Qqx _ q) (Qq0 _) ⟨hz,its,0,hv,Qq8 _ rfl⟩
theorem Inv.fresh(I:Inv X pins σ H s):H s.heap.objs.size=none:=I.hok.fresh<|Qq0 _
theorem Inv.anh(I:Inv X pins σ H s)(hH:H l=some (.lst xs)):xs.length<=sizeLine/\∃its n,Vals xs its/\xs.length=its.length/\s.heap.get? l=some { cls:=.type "list",data:=.seq its.toArray n }:=by obtain⟨z,its,n,r,e⟩:=I.hok l _ hH;exact⟨z,its,n,r,r.length,e⟩
theorem aqW(h:n<=sizeLine):Builtin.List.listTooLong n=false:=by unfold Builtin.List.listTooLong;exact Qwj (by omega)
end
section
variable{X:Cx}{prog:Program}{w:World}{A:Around}{E:Value->Shared->Prop}{s:Shared}
def ah3:V->List V->Hp->VK->Prop:=λx vs H Q=>∃l xs y,x = .ref l/\vs=[y]/\H l=some (.lst xs)/\xs.length<sizeLine/\Q .non (upd H l (.lst (xs++[y])))
theorem Qt:MtM X "list.append" ah3:=by intro pins s σ H x vs v us Q I rx rv h;obtain⟨l,xs,y,rfl,rfl,hH,hz,q⟩:=h;cases rx;obtain⟨u,rfl,ru⟩:=rv.one;obtain⟨z,its,n,r,hl,e⟩:=I.anh hH;refine call_meets F.slot_list_append ⟨_,e,rfl⟩ F.entry_list_append (F.args_list_append_2 _ _) (PySem.list_append l its.toArray n u (by rw[Qwq];omega)) ⟨e,?_⟩;refine⟨.non,_,I.auj hH e (by simp) (r.append<|.cons ru .nil) ?_,rfl,q⟩;rw[Qqj,Qzj];omega
def aqp:R2:=λx y H Q=>∃l b xs zs,x = .ref l/\y = .ref b/\H l=some (.lst xs)/\H b=some (.lst zs)/\xs.length+zs.length<=sizeLine/\∀p,H p=none->Q (.ref p) (upd H p (.lst (xs++zs)))
theorem ae2:qu X (binaryOp .Add) aqp:=by
 intro pins s σ H x y v u Q I rx ry h;obtain⟨l,b,xs,zs,rfl,rfl,hH,hB,hz,q⟩:=h;cases rx;cases ry;obtain⟨z,its,n,r,hl,e⟩:=I.anh hH;obtain⟨z2,its2,n2,r2,hl2,e2⟩:=I.anh hB;refine PySem.P.add_list e e2 ?_ (by rw[Qwq,Qwq];omega);have ea:its.toArray++its2.toArray=(its++its2).toArray:=by simp
 rw[ea];exact⟨.ref _,_,I.aq5 (r.append r2) (by rw[Qqj];omega),rfl,q _ I.fresh⟩
set_option maxRecDepth 100000 in
end
end L2
namespace Att
open PySem PySem.W PySem.Calls PyProof.Rows
theorem JV:∀ns vs,WellAll P h vs (ns.map WData.int)->IntsAre vs ns:=by
 intro ns
 induction ns with
 | nil=>
  intro vs w;rw[Qj3] at w;cases w;exact .nil
 | cons n ns ih=>
  intro vs w;rw[Qq7] at w;cases w with
  | cons a b=>
   cases a;exact .cons _ _<|ih _ b
theorem abI{l:OpenLaw}(hn:l.most=some n)
  (hpre:l.row.toRowW.claim.pre args=true) (hwl:WellAll P h vals args) :
  ∃a vs ns,vals=[Value.ref a]/\args=[WData.list (ns.map WData.int)]/\h.get? a=some { cls:=.type "list",data:=.seq vs.toArray }/\IntsAre vs ns/\ns.length<=n:=by
 have hsh:=(pre_splitW hpre).1;have hc:l.pre.holds [] { args:=args }=true:=(pre_splitW hpre).2;obtain⟨d,r,rfl,h1,h2⟩:=hasAllW_cons hsh;obtain rfl:=hasAllW_nil h2;obtain⟨xs,rfl,h3⟩:=hasW_list h1;obtain⟨ns,rfl⟩:=items_int h3;have hlen:ns.length<=n:=by
  unfold OpenLaw.pre at hc;have h4:(WTm.not<|.lt (.lit<|.int n)<|.len<|.arg 0).holds [] { args:=[.list (ns.map .int)] }=true:=by have h4:=(holds_andW hc).1;rw[hn] at h4;exact h4
  have h5:=condW_of h4<|w_not<|w_lt w_lit<|w_len_list<|w_arg rfl;rw[Qqz] at h5;refine Nat.le_of_not_lt λq=>?_;have q':n<ns.length:=by omega
  first
   | (rw[Qxk q'] at h5;exact absurd h5 (by decide))
   | (simp at h5;omega)
 cases hwl with
 | cons w1 w2=>
  cases w2;cases w1 with
  | list ho hall=>exact⟨_,_,ns,rfl,rfl,ho,JV ns _ hall,hlen⟩
theorem abQ(l:OpenLaw)(args):l.row.toRowW.claim.post args (.bool true) args=true:=
 postW_of
  (show WShape.has [] (.bool true) .bool=true by first|rfl|decide|simp[WShape.has,WShape.arms,WShape.armsAll])
  (show(WTm.eq .res<|.lit<|.bool true).value [] { args:=args,res:=some<|.bool true,after:=args }=some (.bool<|true == true) from w_eq_bool (w_res rfl) w_lit) rfl
end Att
namespace L2
open PySem PySem.Spec PyProof.Rows
theorem PN:∀{vs} {ns},IntsAre vs ns->Vals (ns.map V.int) vs
 | _,_,.nil=>.nil
 | _,_,.cons n t h=>.cons ⟨t,rfl⟩<|PN h
noncomputable def iY(s:Stmt):Arguments:=match s with
 | .FunctionDef _ a _ _ _ _ _ _ _ _=>a
 | _=>{ posonlyargs:=[],args:=[],vararg:=none,kwonlyargs:=[],kw_defaults:=[],kwarg:=none,defaults:=[] }
noncomputable def dB(s:Stmt):List Stmt:=match s with
 | .FunctionDef _ _ b _ _ _ _ _ _ _=>b
 | _=>[]
noncomputable def aG(s:Stmt):Scope:=match s with
 | .FunctionDef _ _ _ _ _ _ sc _ _ _=>sc
 | _=>{ kind:=.function,names:=[],isGenerator:=false,isCoroutine:=false }
abbrev yR:CXT:=λ_ _ _ _ _ _=>False
abbrev E0:XK:=λ_ _ _=>False
theorem Hq:Passes yR X E0:=λ_ _ _ _ _ _ _ h=>h.elim
structure Fun(K:PySem.W.Frag)(x qual:Str)(st:Stmt)(f:Addr)(fd:FuncData):Prop where
 ex:∃(oc:Value) (od:Option Addr) (kV doc pm:Value) (an:Option Addr) (cdv ct:Value) (osl:Array (Option Value)),
  fd=PySem.W.fnOf x qual (iY st) (dB st) (aG st) .none kV doc pm an cdv ct/\K.lookup f=some ⟨oc,od,.func fd,osl⟩/\PySem.W.codeIn K cdv qual=true
 kp:PySem.W.keepIn K (.ref f)=true
section
variable{P:Program}{w:World}{K:PySem.W.Frag}{mg:Str->Option Value}{base:Heap}
theorem Fun.ok{st:Stmt}(F:Fun K x qual st f fd)(S:bf N ps (aG st))(len:∀vs H Q E,sp vs H Q E->vs.length=ps.length)
  (hbody:∀cdv A outer s H vs Q E,jr k (A.deeper (envOfC qual (aG st) s.heap.objs.size f cdv))->sp vs H Q E->
   ∃t,Xx (Ag yR P w K mg base N qual (aG st) f cdv A outer s H E).nox (dB st) t/\t { nx:=λ_ H'=>Q .non H',rt:=Q } (start N vs) H):pP P w K mg base yR (k+1) f fd ps sp:=by
 obtain⟨oc,od,kV,doc,pm,an,cdv,ct,osl,rfl,lk,hcd⟩:=F.ex;refine ala lk hcd S len λA outer s H vs Q E hr hsp=>?_;obtain⟨t,h,q⟩:=hbody cdv A outer s H vs Q E hr hsp;exact⟨t,h.nox,q⟩
theorem Fun.binds{st:Stmt}(F:Fun K x qual st f fd)
  (h:∀kV doc pm an cdv ct us,us.length=ps.length->bindArgs (PySem.W.fnOf x qual (iY st) (dB st) (aG st) .none kV doc pm an cdv ct) ⟨us,[]⟩=pure (ps.zip us)):Binds K fd ps []:=by
 obtain⟨oc,od,kV,doc,pm,an,cdv,ct,osl,rfl,lk,hcd⟩:=F.ex;exact .all<|h kV doc pm an cdv ct
theorem Nt{st:Stmt}{kV doc pm cdv ct:Value}(l:K.lookup f=some ⟨oc,od,.func (PySem.W.fnOf x qual (iY st) (dB st) (aG st) .none kV doc pm an cdv ct),osl⟩)
  (c:PySem.W.codeIn K cdv qual=true) (k:PySem.W.keepIn K (.ref f)=true):Fun K x qual st f (PySem.W.fnOf x qual (iY st) (dB st) (aG st) .none kV doc pm an cdv ct):=⟨⟨oc,od,kV,doc,pm,an,cdv,ct,osl,rfl,l,c⟩,k⟩
end
theorem arE{A B:Prop}(h:B):if false=true then A else B:=by rw[if_neg Qw0];exact h
theorem arD{A B:Prop}(h:A):if true=true then A else B:=by rw[if_pos rfl];exact h
def aX(H H':Hp):Prop:=∀b o,H b=some o->H' b=some o
theorem aX.refl(H):aX H H:=λ_ _ h=>h
theorem aX.trans(a:aX H H1)(b:aX H1 H2):aX H H2:=λc o h=>b c o<|a c o h
theorem aX.free(e:aX H H')(h:H' l=Option.none):H l=Option.none:=by
 cases q:H l with
 | none=>rfl
 | some o=>
  rw[e l o q] at h;cases h
theorem aX.seq{K:PySem.W.Frag}(e:aX H H')(h:uR K H a xs):uR K H' a xs:=by
 rcases h with (h|⟨o,h⟩)|h
 ·exact .inl<|.inl<|e _ _ h
 ·exact .inl<|.inr ⟨o,e _ _ h⟩
 ·exact .inr h
section
variable{κ:Type}[DecidableEq κ]
noncomputable def Ar(kvs:List (κ×V))(k:κ):Option V:=(kvs.find? λkv=>decide (kv.1=k)).map (·.2)
noncomputable def putK(kvs:List (κ×V))(k:κ)(v:V):List (κ×V):=
 if (kvs.any λkv=>decide (kv.1=k))=true then kvs.map (λkv=>if kv.1=k then (kv.1,v) else kv) else kvs++[(k,v)]
theorem Ao{k:κ}(e:p.1=k):Ar (p::r) k=some p.2:=by simp[Ar,Qjw,e]
theorem Aq{k:κ}(e:¬p.1=k):Ar (p::r) k=Ar r k:=by simp[Ar,Qjw,e]
theorem Ko(k):∀kvs:List (κ×V),(kvs.any λkv=>decide (kv.1=k))=(Ar kvs k).isSome
 | []=>rfl
 | p::r=>by
  rw[List.any_cons];by_cases e:p.1=k
  ·simp[Ao e,Qxk e,Bool.true_or,Option.isSome_some]
  ·rw[Aq e,Qwj e,Bool.false_or];exact Ko k r
theorem xF(kvs)(k:κ)(v):(putK kvs k v).length<=kvs.length+1:=by
 unfold putK;split
 ·rw[Qqz];omega
 ·rw[Qqj,Qqv,Qw3];omega
theorem PJ.Ew(r:PJ o u):o.isSome=u.isSome:=by
 cases o with
 | none=>cases u with
  | none=>rfl
  | some _=>exact r.elim
 | some _=>cases u with
  | none=>exact r.elim
  | some _=>rfl
theorem KV.val(r:KV kvs vs)(k:κ):PJ (Ar kvs k) (valueAt vs k):=by
 unfold KV at r
 induction r with
 | nil=>exact True.intro
 | @cons p q ps qs h t ih=>
  obtain⟨h1,h2⟩:=h;by_cases e:p.1=k
  ·have e':=h1.symm.trans e;have b:valueAt (q::qs) k=some q.2:=by simp[valueAt,Qjw,e']
   rw[Ao e,b];exact h2
  ·have e':¬q.1=k:=λz=>e<|h1.trans z;have b:valueAt (q::qs) k=valueAt qs k:=by simp[valueAt,Qjw,e']
   rw[Aq e,b];exact ih
theorem KV.any(r:KV kvs vs)(k:κ):(kvs.any λkv=>decide (kv.1=k))=vs.any λkv=>decide (kv.1=k):=by
 unfold KV at r
 induction r with
 | nil=>rfl
 | cons h t ih=>rw[List.any_cons,List.any_cons,ih,h.1]
theorem KV.repl(r:KV kvs vs)(k:κ)(ry:RelV y u) :
  KV (kvs.map λkv=>if kv.1=k then (kv.1,y) else kv) (vs.map λkv=>if kv.1=k then (kv.1,u) else kv):=by
 unfold KV at r ⊢
 induction r with
 | nil=>exact .nil
 | @cons p q ps qs h t ih=>
  rw[Qq7,Qq7];refine .cons ?_ ih;obtain⟨h1,h2⟩:=h;by_cases e:p.1=k
  ·rw[if_pos e,if_pos<|h1.symm.trans e];exact⟨h1,ry⟩
  ·rw[if_neg e,if_neg<|λz=>e<|h1.trans z];exact⟨h1,h2⟩
theorem KV.put(r:KV kvs vs)(k:κ)(ry:RelV y u):KV (putK kvs k y) (stored vs k u):=by
 unfold putK stored;rw[r.any k];by_cases e:(vs.any λkv=>decide (kv.1=k))=true
 ·rw[if_pos e,if_pos e];exact r.repl k ry
 ·rw[if_neg e,if_neg e];exact Paired.snoc r ⟨rfl,ry⟩
theorem KV.keys{vs:List (κ×Value)}(r:KV kvs vs):kvs.map (·.1)=vs.map (·.1):=by
 unfold KV at r
 induction r with
 | nil=>rfl
 | cons h t ih=>rw[Qq7,Qq7,ih,h.1]
theorem KV.length{vs:List (κ×Value)}(r:KV kvs vs):kvs.length=vs.length:=Paired.length r
end
theorem Bx(r:RelV (kV k) u):(cN P w).is k u=true:=by
 cases k with
 | inl i=>obtain⟨t,e⟩:=(show ∃t,u=Value.int i t from r);subst e;exact Wr P w i t
 | inr x=>obtain⟨t,e⟩:=(show ∃t,u=Value.str x t from r);subst e;exact Wq P w x t
theorem QB:∀{ks} {us},Vals (ks.map kV) us->ItemsAre (cN P w) ks us
 | [],_,r=>by rw[Qj3] at r;cases r;exact .nil
 | k::ks,_,r=>by
  rw[Qq7] at r;cases r with
  | cons h t=>exact .cons (Bx h)<|QB t
abbrev KT(H:Hp):List (List Key×V)->List (List Key×Addr×Value)->Prop:=Paired λp q=>p.1=q.1/\H q.2.1=some (.tup (p.1.map kV))/\RelV p.2 q.2.2
theorem KT.val(r:KT H kvs xs)(k):PJ (Ar kvs k) ((atKey xs k).map (·.2)):=by
 induction r with
 | nil=>exact True.intro
 | @cons p q ps qs h t ih=>
  obtain⟨h1,_,h2⟩:=h;by_cases e:p.1=k
  ·have e':=h1.symm.trans e;have b:atKey (q::qs) k=some q.2:=by simp[atKey,Qjw,e']
   rw[Ao e,b];exact h2
  ·have e':¬q.1=k:=λz=>e<|h1.trans z;have b:atKey (q::qs) k=atKey qs k:=by simp[atKey,Qjw,e']
   rw[Aq e,b];exact ih
theorem KT.repl(r:KT H kvs xs)(k)(ry:RelV y u) :
  KT H (kvs.map λkv=>if kv.1=k then (kv.1,y) else kv) (xs.map (putAt k u)):=by
 induction r with
 | nil=>exact .nil
 | @cons p q ps qs h t ih=>
  rw[Qq7,Qq7];refine .cons ?_ ih;obtain⟨h1,h2,h3⟩:=h;unfold putAt;by_cases e:p.1=k
  ·rw[if_pos e,if_pos<|h1.symm.trans e];exact⟨h1,h2,ry⟩
  ·rw[if_neg e,if_neg<|λz=>e<|h1.trans z];exact⟨h1,h2,h3⟩
theorem KT.put(r:KT H kvs xs)(k)(hb:H b=some (.tup (k.map kV)))(ry:RelV y u) :
  KT H (putK kvs k y) (storedH xs k b u):=by
 have e:(kvs.any λkv=>decide (kv.1=k))=(atKey xs k).isSome:=by rw[Ko,(r.val k).Ew,Option.isSome_map]
 unfold putK storedH;rw[e];by_cases q:(atKey xs k).isSome=true
 ·rw[if_pos q,if_pos q];exact r.repl k ry
 ·rw[if_neg q,if_neg q];exact Paired.snoc r ⟨rfl,hb,ry⟩
theorem KT.keeps(r:KT H kvs xs)(ht:∀b ys,H b=some (.tup ys)->H' b=some (.tup ys)):KT H' kvs xs:=
 Paired.ane r λ_ _ z=>⟨z.1,ht _ _ z.2.1,z.2.2⟩
section
variable{P:Program}{w:World}{H:Hp}{h:Heap}{a:Addr}
theorem akF(ok:Ak P w H h)(e:Rd H a u):jt P w H h a u:=e.ok ok
theorem Xd(ok:Ak P w H h)(e:Rd H a (.dK kvs)):kvs.length<=sizeLine/\(a == sysModules)=false/\∃vs,KV kvs vs/\h.DictOf (cN P w) a vs:=
 show jt P w H h a (.dK kvs) from akF ok e
theorem asf(ok:Ak P w H h)(e:H a=some (.dK kvs)):kvs.length<=sizeLine/\(a == sysModules)=false/\∃vs,KV kvs vs/\h.DictOf (cN P w) a vs:=Xd ok<|.inl e
theorem Ug(ok:Ak P w H h)(e:H a=some (.tup (ks.map kV))):(tupleKind (cN P w)).is h ks a:=by obtain⟨_,its,r,o,h1,h2,⟨n,h3⟩,_⟩:=(show jt P w H h a (.tup<|ks.map kV) from ok a _ e);exact⟨o,its.toArray,n,h1,h2,h3,by simpa using QB r⟩
theorem aa5(ok:Ak P w H h)(e:Rd H a (.dT kvs)):kvs.length<=sizeLine/\(a == sysModules)=false/\
  ∃xs,KT H kvs xs/\h.DictOfH (tupleKind (cN P w)) a xs:=by
 obtain⟨z,y,xs,r,o,es,ep,h1,h2,h3,h4,h5⟩:=(show jt P w H h a (.dT kvs) from akF ok e);refine⟨z,y,xs,r,o,es,ep,h1,h2,h3,h4,λx hx=>?_,h5⟩;have all:∀{l} {m},KT H l m->∀x∈m,(tupleKind<|cN P w).is h x.1 x.2.1:=by
  intro l m q
  induction q with
  | nil=>intro x hx;exact nomatch hx
  | @cons p q ps qs hq t ih=>
   intro x hx;rcases Qq2.mp hx with e|hx
   ·subst e;exact Ug ok (by rw[<-hq.1];exact hq.2.1)
   ·exact ih x hx
 exact all r x hx
theorem ase(ok:Ak P w H h)(e:H a=some (.dT kvs)):kvs.length<=sizeLine/\(a == sysModules)=false/\
  ∃xs,KT H kvs xs/\h.DictOfH (tupleKind (cN P w)) a xs:=aa5 ok<|.inl e
end
def adf(H:Hp)(a:Addr)(y:V)(r:Option V):Prop:=
 (∃kvs k,Rd H a (.dK kvs)/\y=kV k/\r=Ar kvs k)\/∃kvs k b,Rd H a (.dT kvs)/\y = .ref b/\H b=some (.tup (k.map kV))/\r=Ar kvs k
def agY(H:Hp)(a:Addr)(y v:V)(H':Hp):Prop:=
 (∃kvs k,H a=some (.dK kvs)/\y=kV k/\kvs.length<sizeLine/\H'=upd H a (.dK (putK kvs k v)))\/
 ∃kvs k b,H a=some (.dT kvs)/\y = .ref b/\H b=some (.tup (k.map kV))/\kvs.length<sizeLine/\H'=upd H a (.dT (putK kvs k v))
theorem agY.k{k:Key}(e:H a=some (.dK kvs))(hl:kvs.length<sizeLine):agY H a (kV k) v (upd H a (.dK (putK kvs k v))):=.inl ⟨kvs,k,e,rfl,hl,rfl⟩
section
variable{X:Cx}{pins:List (Addr×Obj)}{σ:St}{H:Hp}{s:Shared}{a:Addr}{y v:V}{u r:Value}{o:Option V}{A:Around}{E:Value->Shared->Prop}
theorem Inv.big(I:Inv X pins σ H s):sysModules<s.heap.objs.size:=by have h:=(I.mod.glob.keeps I.bk).lt;exact Nat.lt_trans (by decide) h
theorem acU(hu:A.units+1<cLine)(I:Inv X pins σ H s)(g:adf H a y (some v))(ry:RelV y u)(h:∀w' s',Inv X pins σ H s'->RelV v w'->Q w' s') :
  wpAny (model X.prog X.w) A (getItem (.ref a) u) Q E s:=by
 rcases g with ⟨kvs,k,e,ey,l⟩|⟨kvs,k,b,e,ey,eb,l⟩
 ·subst ey;obtain⟨z,hd,vs,rel,dd⟩:=Xd I.hok e;obtain⟨w',hw,rw'⟩:=PJ.some_of (by rw[l];exact rel.val k);exact wpAny_getItem_of (Bx ry) dd.mapOf hw<|h w' _ (I.tok _) rw'
 ·subst ey;cases ry;obtain⟨z,hd,xs,rel,dd⟩:=aa5 I.hok e;obtain⟨w',hw,rw'⟩:=PJ.some_of (by rw[l];exact rel.val k);obtain⟨p,hp,hp2⟩:=Qwy.mp hw;refine wpAny_getItem_heap (tupleKind_room_in1 hu) (Ug I.hok eb) dd hp ?_;rw[hp2];exact h w' _ (I.tok _) rw'
theorem au2(hu:A.units+1<cLine)(I:Inv X pins σ H s)(g:adf H a y o)(ry:RelV y u)(h:∀s',Inv X pins σ H s'->Q (.bool o.isSome) s') :
  wpAny (model X.prog X.w) A (compareOp .In u (.ref a)) Q E s:=by
 rcases g with ⟨kvs,k,e,ey,l⟩|⟨kvs,k,b,e,ey,eb,l⟩
 ·subst ey;obtain⟨z,hd,vs,rel,dd⟩:=Xd I.hok e;refine wpAny_in_of (Bx ry) hd dd.mapOf ?_;rw[<-(rel.val k).Ew,<-l];exact h _<|I.tok _
 ·subst ey;cases ry;obtain⟨z,hd,xs,rel,dd⟩:=aa5 I.hok e;refine wpAny_in_heap (tupleKind_room_in1 hu) (Ug I.hok eb) hd dd ?_;have q:=(rel.val k).Ew;rw[Option.isSome_map] at q;rw[<-q,<-l];exact h _<|I.tok _
theorem aa6(I:Inv X pins σ H s)(mu:Mut (H a))(hs:Heap.SameBut a s.heap h')(he:∃q,h'.get? a=some q)(new:jt X.prog X.w (upd H a ob) h' a ob) :
  Inv X pins σ (upd H a ob) { s with heap:=h',toks:=t' }:=
 I.write mu (.inl rfl) (λb q hb z=>(hs.2 b hb).trans z) he new
theorem aoR(z:kvs.length<=sizeLine)(hd:(a == sysModules)=false)(rel:KV kvs vs)(dd:h'.DictOf (cN P w) a vs) :
  jt P w H' h' a (.dK kvs):=⟨z,hd,vs,rel,dd⟩
theorem acT(hu:A.units+1<cLine)(I:Inv X pins σ H s)(g:agY H a y v H')(ry:RelV y u)(rv:RelV v r)(h:∀s',Inv X pins σ H' s'->Q () s') :
  wpAny (model X.prog X.w) A (setItem (.ref a) u r) Q E s:=by
 rcases g with ⟨kvs,k,e,ey,l,eH⟩|⟨kvs,k,b,e,ey,eb,l,eH⟩
 ·subst ey eH;obtain⟨z,hd,vs,rel,dd⟩:=asf I.hok e;have hz:vs.length<=sizeLine:=by rw[<-rel.length];exact z
  have hl:(putK kvs k v).length<=sizeLine:=by have:=xF kvs k v;omega
  refine wpAny_setItem_pairs (Bx ry) dd λh' dd' hs=>h _ ?_;have he:∃q,h'.get? a=some q:=let ⟨q,_,_,hq,_⟩:=dd';⟨q,hq⟩
  exact aa6 I (by rw[e];exact True.intro) hs he<|aoR hl hd (rel.put k rv) dd'
 ·subst ey eH;cases ry;obtain⟨z,hd,xs,rel,dd⟩:=ase I.hok e;have hz:xs.length<=sizeLine:=by rw[<-Paired.length rel];exact z
  have hl:(putK kvs k v).length<=sizeLine:=by have:=xF kvs k v;omega
  refine wpAny_setItem_heap (tupleKind_room_in1 hu) (Ug I.hok eb) dd λh' dd' hs=>h _ ?_;obtain⟨q,es,ep,hq,h2,h3,h4,_,h5⟩:=dd';refine aa6 I (by rw[e];exact True.intro) hs ⟨q,hq⟩ ⟨hl,hd,_,(rel.put k eb rv).keeps λc ys ec=>?_,q,es,ep,hq,h2,h3,h4,h5⟩;rw[bT (aqZ ec e<|λz=>nomatch z)];exact ec
end
def agU(i:Expr):Prop:=∀ov iv,subscripted i false ov iv=operate [ov,iv] (getItem ov iv)
theorem aaz{T id:String}
  (hl:typeLookup (.type T) "__getitem__" = pure (some (.builtin id))) (hs:agU slice)
  (h:wpAny (model prog w) A (eval value env) (λo s₁=>wpAny (model prog w) A (eval slice env) (λi s₂=>s₂.TypeIs o T/\wpAny (model prog w) A (getItem o i) Q E s₂) E s₁) E s) :
  wpAny (model prog w) A (eval (.Subscript value slice pos) env) Q E s:=by
 refine Subscript_<|Qw7 h (λo s₁ h₁=>Qw7 h₁ (λi s₂ h₂=>?_) λ_ _ x=>x) λ_ _ x=>x;obtain⟨hT,h₂⟩:=h₂;unfold subscriptTail;refine Qqq ?_;rw[getitemInPython_of_ne hT.not_modules];refine Qqq<|wpAny_specialOf hT hl ?_;have fin:wpAny (model prog w) A (subscripted slice false o i) (λr s₃=>wpAny (model prog w) A (letTemporaryGo value o r >>= λ_=>pure r) Q E s₃) E s₂:=by rw[hs o i];exact wpAny_operating<|Qw7 h₂ (λr s₃ h₃=>Qqq<|wpAny_letTemporaryGo<|Qq1 h₃) λ_ _ x=>x
 first
  | exact Qq1<|Qqq fin
  | exact Qqq<|Qq1<|Qqq fin
  | exact Qqq fin
theorem Xe{σ:St}(I:Inv X pins σ H s)(g:adf H a y o):s.TypeIs (.ref a) "dict":=by
 rcases g with ⟨kvs,k,e,_,_⟩|⟨kvs,k,b,e,_,_,_⟩
 ·obtain⟨_,_,vs,_,dd⟩:=Xd I.hok e;exact dd.typeIs
 ·obtain⟨_,_,xs,_,dd⟩:=aa5 I.hok e;exact dd.typeIs
def apU(td ty:TE):TE:=λσ H Q=>td σ H λx H1=>ty σ H1 λy H2=>∃a v,x = .ref a/\adf H2 a y (some v)/\Q v H2
def ap7(td ty tv:TE):TS:=λD σ H=>tv σ H λv H1=>td σ H1 λx H2=>ty σ H2 λy H3=>∃a H4,x = .ref a/\agY H3 a y v H4/\D.nx σ H4
section
variable{X:Cx}{o i e value:Expr}{pos pos' tpos:Pos}{td ty tv:TE}
theorem aiA(hu:X.A.units+1<cLine)(ho:PE X o td)(hi:PE X i ty)(hs:agU i):PE X (.Subscript o i pos) (apU td ty):=by intro pins s σ H Q I h;refine aaz PySem.F.slot_dict_getitem.lookup hs<|gP (ho pins s σ H _ I h) λu s1 ⟨x,H1,I1,rx,q1⟩=>gP (hi pins s1 σ H1 _ I1 q1) λiv s2 ⟨y,H2,I2,ry,a,v,ex,g,q2⟩=>?_;subst ex;obtain rfl:u=Value.ref a:=rx;exact⟨Xe I2 g,acU hu I2 g ry λw' s3 I3 rw'=>⟨v,H2,I3,rw',q2⟩⟩
theorem aio(hu:X.A.units+1<cLine)(ho:PE X o td)(hi:PE X i ty)(hv:PE X value tv)(hs:swapsWith value (some (.Subscript o i pos')) pos.line X.env=pure false) :
  PS X (.Assign [.Subscript o i pos'] value pos) (ap7 td ty tv):=by
 intro pins s σ H D I h;refine wpAny_Assign_Subscript (gP (hv pins s σ H _ I h) λr s1 ⟨v,H1,I1,rv,q1⟩=>gP (ho pins s1 σ H1 _ I1 q1) λu s2 ⟨x,H2,I2,rx,q2⟩=>gP (hi pins s2 σ H2 _ I2 q2) λiv s3 ⟨y,H3,I3,ry,a,H4,ex,g,q3⟩=>?_) hs;subst ex;obtain rfl:u=Value.ref a:=rx;exact acT hu I3 g ry rv λs4 I4=>⟨σ,H4,I4,q3⟩
end
theorem agp(h:Heap)(hb:sysModules<h.objs.size):jt P w H (h.push { cls:=.type "dict",data:=.dict #[] }) h.objs.size (.dK []):=
 ⟨Qxx _,Qw6.mpr<|Ne.symm<|Qww hb,[],.nil,Heap.DictOf.new h⟩
def alJ:TE:=λ_ H Q=>∀p,H p=none->Q (.ref p) (upd H p (.dK []))
section
variable{X:Cx}{pos:Pos}
theorem aeR:PE X (.Dict [] [] pos) alJ:=λpins s σ H Q I h=>
 wpAny_Dict_empty ⟨.ref s.heap.objs.size,_,I.laid (λ_ _ q=>Qqx _ q) (Qq0 _)<|agp s.heap I.big,rfl,h _<|I.hok.fresh<|Qq0 _⟩
end
noncomputable def ir(env:Env):List (Str×NameKind)->List (Str×Addr)->List (Str×Addr)
 | [],acc=>acc
 | (n,k)::r,acc=>if k == .free then ir env r ((n,(env.cells.lookup n).getD 0)::acc) else ir env r acc
theorem Nz(f)
  (hf:∀n k cs,f (n,k) cs=if k == .free then (do let a <-cellOf env n;pure (.yield ((n,a)::cs))) else pure (.yield cs)) :
  ∀names acc,(∀n,(n,NameKind.free)∈names->∃c,env.cells.lookup n=some c)->forIn names acc f=pure (ir env names acc)
 | [],acc,_=>by rfl
 | (n,k)::r,acc,h=>by
  have ih:=Nz f hf r;have hr:=λm hm=>h m<|Qqk _ hm;rw[List.forIn_cons,hf];cases hk:k == NameKind.free with
  | true=>
   have hk':k = .free:=by simp_all
   obtain⟨c,hc⟩:=h n (by simp_all);rw[if_pos rfl];unfold cellOf;rw[hc];simp[pure_bind];rw[ih _ hr]
   conv=>rhs;unfold ir
   simp_all
  | false=>
   rw[if_neg (by simp)];simp[pure_bind];rw[ih _ hr]
   conv=>rhs;unfold ir
   simp_all
theorem vU(h:∀n,(n,NameKind.free)∈scope.names->∃c,env.cells.lookup n=some c):closureFor scope env=pure (ir env scope.names []):=by
 simp only[closureFor];rw[Nz _ (λn k cs=>by rfl) _ _ h]
 rfl
theorem CG:∀names acc x c,(∀n,(n,NameKind.free)∈names->∃c,env.cells.lookup n=some c)->
  (∀y d,acc.lookup y=some d->env.cells.lookup y=some d)->(ir env names acc).lookup x=some c->env.cells.lookup x=some c
 | [],acc,x,c,_,ha,h=>ha x c h
 | (n,k)::r,acc,x,c,hn,ha,h=>by
  have hr:=λm hm=>hn m<|Qqk _ hm;unfold ir at h;split at h
  ·rename_i hk;have hk':k = .free:=by simp_all
   obtain⟨d,hd⟩:=hn n (by simp_all);refine CG r _ x c hr (λy e he=>?_) h
   grind
  ·exact CG r acc x c hr ha h
theorem G9:∀names acc x,(acc.lookup x).isSome=true->((ir env names acc).lookup x).isSome=true
 | [],acc,x,h=>h
 | (n,k)::r,acc,x,h=>by
  unfold ir;split
  ·refine G9 r _ x ?_
   simp_all
  ·exact G9 r acc x h
theorem Cz:∀names acc x,(x,NameKind.free)∈names->((ir env names acc).lookup x).isSome=true
 | [],acc,x,h=>nomatch h
 | (n,k)::r,acc,x,h=>by
  unfold ir;rcases Qq2.mp h with e|h
  ·obtain⟨e1,e2⟩:=Prod.mk.inj e;subst e1 e2;rw[if_pos (by rfl)];refine G9 r _ x ?_
   simp_all
  ·split
   ·exact Cz r _ x h
   ·exact Cz r acc x h
theorem jd:∀names n acc,cellsFrom n names acc=cellsFrom n names []++acc
 | [],n,acc=>rfl
 | (x,k)::r,n,acc=>by
  unfold cellsFrom;split
  ·rw[jd r (n+1) ((x,n)::acc),jd r (n+1) [(x,n)],Qx6]
   rfl
  ·exact jd r n acc
theorem uo:∀names n x c,(x,c)∈cellsFrom n names []->(x,NameKind.cell)∈names
 | [],n,x,c,h=>nomatch h
 | (y,k)::r,n,x,c,h=>by
  unfold cellsFrom at h;split at h
  ·rename_i hk;have hk':k = .cell:=by simp_all
   rw[jd] at h;rcases Qq6.mp h with h|h
   ·exact Qqk _<|uo r _ x c h
   simp_all
  ·exact Qqk _<|uo r _ x c h
theorem zF{α:Type}:∀(l m:List (Str×α)) x,(l++m).lookup x=match l.lookup x with|some v=>some v|none=>m.lookup x
 | [],m,x=>rfl
 | (k,v)::r,m,x=>by
  grind
theorem Mj{α:Type}:∀(l:List (Str×α)) x,(∀v,(x,v) ∉ l)->l.lookup x=none
 | [],x,_=>rfl
 | (k,v)::r,x,h=>by
  grind
theorem lookup_mem{α:Type}:∀(l:List (Str×α)) x v,l.lookup x=some v->(x,v)∈l
 | [],x,v,h=>nomatch h
 | (k,w)::r,x,v,h=>by
  rw[Qjk] at h;cases e:x == k with
  | true=>
   simp_all
  | false=>
   rw[e] at h;exact Qqk _<|lookup_mem r x v h
theorem jT{α:Type}:∀(l:List (Str×α)) x v,(l.map (·.1)).Nodup->(x,v)∈l->l.lookup x=some v
 | [],x,v,_,h=>nomatch h
 | (k,w)::r,x,v,nd,h=>by
  rw[Qjk];have nd':=Qxj.mp nd;rcases Qq2.mp h with e|h
  ·simp_all
  ·have hne:¬x=k:=λe=>nd'.1 (by simp_all);have hb:(x == k)=false:=by simp_all
   rw[hb];exact jT r x v nd'.2 h
theorem Hu
  (hQ:∀h',h'.Ns s.heap.objs.size (λ_=>none)->(∀b o,s.heap.get? b=some o->h'.get? b=some o)->CellsOk h' (s.heap.objs.size+1) (cellsFrom (s.heap.objs.size+1) scope.names [])->
   Q { scope,locals:=s.heap.objs.size,globals,cells:=cellsFrom (s.heap.objs.size+1) scope.names cl,qual,func:=none,code:=outer.code,frame:=outer.frame,builtins:=outer.builtins } { s with heap:=h' }) :
  wpAny M A (newFunctionEnv scope globals cl [] qual none .none (some outer)) Q E s:=by
 simp only[newFunctionEnv,Option.isSome_some,if_true];refine Qqq<|wpAny_alloc ?_;refine Qqq<|wpAny_layCells _ (λname kind cells=>by rfl) _ _ _ _ ?_;have ok:=cellsFrom_ok scope.names (s.heap.push { cls:=.type "dict",data:=.dict #[] }) (s.heap.objs.size+1) [] ⟨λ_ _ hm=>(nomatch hm),List.Pairwise.nil⟩ (by simp_all);rw[Qz7] at ok;rw[show({ s with heap:=s.heap.push { cls:=.type "dict",data:=.dict #[] } }:Shared).heap.objs.size=s.heap.objs.size+1 from Qz7 ..];refine Qqq ?_;rw[Qj2];refine Qq1<|Qq1<|hQ _ ?_ ?_ ?_
 ·exact(Heap.Ns.new s.heap<|.type "dict").keeps<|pushCells_keeps _ _
 ·exact λb o e=>pushCells_keeps _ _ b o<|Qqx _ e
 ·exact ok
noncomputable def cxC(X:Cx)(scope:Scope)(N':List Str)(cells:List (Str×Addr))(C:Addr)(s0:Shared)(H0:Hp)(fp:List Addr):Cx:=
 { X with N:=N',s₀:=s0,H₀:=H0,env:=compEnvC scope cells C X.env,outer:=X.stack,stack:=X.stack,ex:=fp,fn:=λx=>decide (scope.names.lookup x=some .cell),pn:=[],xe:=λ_ _=>False }
theorem xD{env:Env}:∀(names:List (Str×NameKind)) x,
  (names.map λ(n,k)=>if (k == NameKind.free&&env.scope.kind == .function&&env.kindOf n == some .cell) then (n,NameKind.cell) else (n,k)).lookup x =
   (names.lookup x).map λk=>if (k == NameKind.free&&env.scope.kind == .function&&env.kindOf x == some .cell) then NameKind.cell else k
 | [],x=>rfl
 | (n,k)::r,x=>by
  show List.lookup x ((if (k == NameKind.free&&env.scope.kind == .function&&env.kindOf n == some .cell)=true then (n,NameKind.cell) else (n,k))::_)=_;cases hx:x == n with
  | true=>
   have e:x=n:=by simpa using hx
   subst e;simp[Qjk,hx,Qj0];split<;>simp[Qjk]
  | false=>
   simp only[Qjk,hx];rw[<-xD r x];split<;>simp[Qjk,hx]
noncomputable def agx(names:List (Str×NameKind)):List Str->List Str->Bool
 | _,[]=>true
 | [],_::_=>false
 | x'::N',x::N=>((names.lookup x').isNone||(x' == x&&names.lookup x' == some .free))&&agx names N' N
theorem Xh:∀{N' N},agx names N' N=true->∀i x,i<N.length->N'[i]? = some x->(names.lookup x).isSome=true->N[i]? = some x/\names.lookup x=some .free
 | _,[],_,i,x,h,_,_=>absurd h<|Nat.not_lt_zero _
 | [],_::_,h,_,_,_,_,_=>by cases h
 | x'::N',y::N,h,i,x,hi,e,hs=>by
  unfold agx at h;have h1:=(Qz9.mp h).1;have h2:=(Qz9.mp h).2;cases i with
  | zero=>
   have e':x'=x:=by simpa using e
   subst e';rcases Bool.or_eq_true_iff.mp h1 with q|q
   ·cases z:names.lookup x' with
    | none=>simp_all
    | some k=>simp_all
   grind
  | succ i=>exact Xh h2 i x (by simp_all) (by simpa using e) hs
structure mV(X:Cx)(scope:Scope)(N':List Str):Prop where
 kind:scope.kind = .function
 nd:(scope.names.map (·.1)).Nodup
 free:∀x∈scope.names,x.2 = .free->X.env.kindOf x.1=some .cell\/X.env.kindOf x.1=some .free
 chk:agx scope.names N' X.N=true
 len:X.N.length<=N'.length
def PIf(X:Cx)(ifs:List Expr)(t:TT):Prop:=
 ∀(pins:List (Addr×Obj)) (s:Shared) (σ:St) (H:Hp) (Q:Bool->Hp->Prop),Inv X pins σ H s->t σ H Q->
  wpAny (model X.prog X.w) X.A (forIn ifs true λc r=>if r=true then do let ok <-isTrue c X.env (eval c X.env);pure (ForInStep.yield ok) else pure (ForInStep.yield r)) (TP X pins σ Q) X.xe s
theorem aiu:PIf X [] (λ_ H Q=>Q true H):=λpins s σ H Q I h=>by
 rw[Qj2];exact Qq1 ⟨H,I,h⟩
theorem ait(h:PT X c t):PIf X [c] t:=λpins s σ H Q I hw=>by
 rw[List.forIn_cons,if_pos rfl];refine Qqq<|Qqq<|gP (h pins s σ H Q I hw) λb s' q=>?_;refine Qq1 ?_;show wpAny _ _ (forIn [] b _) _ _ _;rw[Qj2];exact Qq1 q
noncomputable def xr(n:Nat)(σ:St):St:=σ++List.replicate n none
def tLC(n:Nat)(wi:TI)(g:TG)(tc:TT)(te:TE):TE:=λσ H Q=>wi σ H λJ H1=>∀d,H1 d=none->∃W:Nat->Nat->St->Hp->Prop,(∃m,W 0 m (xr (n - σ.length) σ) (upd H1 d (.lst [])))/\∀i m σ' H',W i m σ' H'->
 (J.stop i H'/\Q (.ref d) H')\/(J.go i H'/\∃N:St->Hp->Prop,(∀σ2 H2,N σ2 H2->∃m',m'<m/\W (i+1) m' σ2 H2)/\∀x H2,J.yld i H' x H2->g x σ' H2 λσ3 H3=>tc σ3 H3 λb H4=>
  if b=true then te σ3 H4 λy H5=>∃ys,H5 d=some (.lst ys)/\ys.length<sizeLine/\N σ3 (upd H5 d (.lst (ys++[y]))) else N σ3 H4)
section
variable{prog:Program}{w:World}{A:Around}{R:Result->Shared->Prop}{s:Shared}
theorem Us(I:Nat->Shared->Prop)
  (turn:∀n s,I n s->wpAny (model prog w) A (pyNext it) (λr s₁=>match r with
   | none=>R (.ok .next) s₁
   | some v=>wpAny (model prog w) A (letOwnedTupleGo target it v) (λ_ s₁'=>wpAny (model prog w) A (assign target env v) (λ_ s₂=>
     wpAny (model prog w) A (forIn ifs true λc r=>if r=true then do let ok <-isTrue c env (eval c env);pure (ForInStep.yield ok) else pure (ForInStep.yield r)) (λok s₃=>
      if ok=true then wpAny (model prog w) A (eval elt env) (λx s₄=>
       wpAny (model prog w) A (call (.builtin "list.append") [acc,x]) (λ_ s₅=>∃m,m<n/\I m s₅) (λ_ _=>False) s₄) (λ_ _=>False) s₃
      else ∃m,m<n/\I m s₃) (λ_ _=>False) s₂) (λ_ _=>False) s₁') (λ_ _=>False) s₁) (λ_ _=>False) s)
  (n) (h:I n s) :
  codeAny (model prog w) A (.compLoop (.ListComp elt [⟨target,iter,ifs,0⟩] scope pos) 0 it acc env) R s:=by
 refine codeAny_loop rfl I (λn s hI=>?_) n h;show wpAny _ A ((compTurn (.ListComp elt [⟨target,iter,ifs,0⟩] scope pos) 0 it acc env).onRaise<|λx=>do noteFrame x env;theTreesLotGoes x) _ _ s;refine wpAny_noted ?_;rw[compTurn_list];refine Qqq<|wpAny_standAt<|Qqq<|Qw7 (turn n s hI) (λr s₁ h₁=>?_) λ_ _ h'=>h'.elim;cases r with
 | none=>exact Qq1 h₁
 | some v=>
  refine Qqq<|Qw7 h₁ (λ_ s₁' h₁'=>?_) λ_ _ h'=>h'.elim;refine Qqq<|Qw7 h₁' (λ_ s₂ h₂=>Qqq<|Qw7 h₂ (λok s₃ h₃=>?_) λ_ _ h'=>h'.elim) λ_ _ h'=>h'.elim;cases ok with
  | false=>exact Qq1 ⟨rfl,h₃⟩
  | true=>
   exact Qqq<|Qqq<|Qw7 h₃ (λx s₄ h₄=>Qqq<|Qw7 h₄ (λ_ s₅ h₅=>Qq1<|Qq1 ⟨rfl,h₅⟩) λ_ _ h'=>h'.elim) λ_ _ h'=>h'.elim
end
theorem Wx{σ:St}{fp:List Addr}(ok:mV X scope N')(I:Inv X pins σ H s)(hf:∀b∈fp,wO X pins H b)(hlt:∀b∈fp,b<s.heap.objs.size)
  (hn:h'.Ns s.heap.objs.size (λ_=>none)) (hk:∀b o,s.heap.get? b=some o->h'.get? b=some o) (co:CellsOk h' (s.heap.objs.size+1) (cellsFrom (s.heap.objs.size+1) scope.names [])) :
  Inv (cxC X scope N' (cellsFrom (s.heap.objs.size+1) scope.names (ir X.env scope.names [])) s.heap.objs.size s H fp) [] (xr (N'.length - σ.length) σ) H { s with heap:=h' }:=by
 have hfree:∀n,(n,NameKind.free)∈scope.names->∃c,X.env.cells.lookup n=some c:=λn hm=>I.ok.has n<|ok.free _ hm rfl
 -- the cells by name
 have vV:∀x c,(cellsFrom (s.heap.objs.size+1) scope.names<|ir X.env scope.names []).lookup x=some c->
   ((x,c)∈cellsFrom (s.heap.objs.size+1) scope.names []/\(cellsFrom (s.heap.objs.size+1) scope.names []).lookup x=some c)\/((cellsFrom (s.heap.objs.size+1) scope.names []).lookup x=none/\X.env.cells.lookup x=some c):=λx c e=>by
  rw[jd,zF] at e;cases q:(cellsFrom (s.heap.objs.size+1) scope.names []).lookup x with
  | some d=>rw[q] at e;cases e;exact .inl ⟨lookup_mem _ _ _ q,rfl⟩
  | none=>rw[q] at e;exact .inr ⟨rfl,CG _ _ x c hfree (λy d h=>by simp at h) e⟩
 have Lp:∀x c,(x,c)∈cellsFrom (s.heap.objs.size+1) scope.names []->s.heap.objs.size+1<=c:=λx c h=>(co.empty x c h).2;have aeY:∀x c,X.env.cells.lookup x=some c->c<s.heap.objs.size:=λx c h=>let ⟨v,q⟩:=I.cell x c h;q.lt
 have Ue:∀x,(relabel scope X.env).names.lookup x=(scope.names.lookup x).map λk=>if (k == NameKind.free&&X.env.scope.kind == .function&&X.env.kindOf x == some .cell) then NameKind.cell else k:=λx=>xD _ _
 have WQ:∀x,(x,NameKind.cell)∈scope.names->∃c,(cellsFrom (s.heap.objs.size+1) scope.names []).lookup x=some c:=λx hx=>by
  have q:=PySem.W.cellsFrom_some scope.names (s.heap.objs.size+1) []<|.inl<|jT _ _ _ ok.nd hx;exact Qw9.mp q
 have fpC:∀b∈fp,∀x c,(cellsFrom (s.heap.objs.size+1) scope.names<|ir X.env scope.names []).lookup x=some c->c≠b:=λb hb x c e=>by
  rcases vV x c e with ⟨h1,_⟩|⟨_,h2⟩
  ·have h3:=Lp x c h1;have h4:=hlt b hb;rintro rfl;exact absurd (Qwx h4<|Qj1 h3)<|Qx3 _
  ·exact(hf b hb).2.2.2.2.1 x c h2
 refine⟨⟨I.ok.mod,ok.kind,I.ok.glob,I.ok.blt,Qq0 _,λx y c h1 h2=>?_,λx hx=>?_,λx c hx e=>?_,I.ok.hd,I.ok.frames,.inl rfl,λb hb=>⟨Qww<|hlt b hb,λx c e=>fpC b hb x c e⟩,I.bs,Qqy I.ok.bsz I.sz,λb o e hb=>?_,λb hb=>?_,I.stack,I.aaB⟩,
  rfl,I.bare,Un.kept hk,⟨_,hn,λi x v e1 e2 e3=>?_⟩,λx c e=>?_,I.hok.fresh<|Qq0 _,λx c e=>?_,λp hp=>absurd (show p∈([]:List (Addr×Obj)) from hp) (by simp),I.hok.kept hk,?_⟩
 ·-- one name a cell
  rcases vV x c h1 with ⟨p1,_⟩|⟨_,p2⟩
  ·rcases vV y c h2 with ⟨q1,_⟩|⟨_,q2⟩
   ·exact name_of_addr co.apart p1 q1
   ·exact absurd (Qwx (aeY y c q2)<|Qj1<|Lp x c p1)<|Qx3 _
  ·rcases vV y c h2 with ⟨q1,_⟩|⟨_,q2⟩
   ·exact absurd (Qwx (aeY x c p2)<|Qj1<|Lp y c q1)<|Qx3 _
   ·exact I.ok.inj x y c p2 q2
 ·-- each cell name has one
  show ∃c,(cellsFrom (s.heap.objs.size+1) scope.names<|ir X.env scope.names []).lookup x=some c;have hx:(relabel scope X.env).names.lookup x=some .cell\/(relabel scope X.env).names.lookup x=some .free:=hx;rw[Ue] at hx;cases q:scope.names.lookup x with
  | none=>rw[q] at hx;rcases hx with hx|hx<;>cases hx
  | some k=>
   rw[q] at hx;rw[jd,zF];cases z:(cellsFrom (s.heap.objs.size+1) scope.names []).lookup x with
   | some d=>exact⟨d,rfl⟩
   | none=>
    have hkf:k = .free:=by
     cases k with
     | free=>rfl
     | cell=>obtain⟨c,hc⟩:=WQ x<|lookup_mem _ _ _ q;rw[hc] at z;cases z
     | _=>rcases hx with hx|hx<;>simp at hx
    subst hkf;exact Qw9.mp<|Cz _ _ x<|lookup_mem _ _ _ q
 ·-- its own cells are new
  have hx':scope.names.lookup x=some .cell:=Qw8 hx;rcases vV x c e with ⟨p1,_⟩|⟨p1,_⟩
  ·exact Qj1<|Lp x c p1
  ·obtain⟨d,hd⟩:=WQ x<|lookup_mem _ _ _ hx';rw[hd] at p1;cases p1
 ·rcases(hf b hb).2.2.2.1 with z|z
  ·exact I.ok.afb b o e z
  ·have h1:=Qq3 e;have h2:=I.ok.bsz;exact absurd (Qwx h1<|Qqy h2 z)<|Qx3 _
 ·intro hm;rcases Qq2.mp (I.Yo b hm) with z|z
  ·exact(hf b hb).2.1 z
  ·exact(hf b hb).2.2.1 z
 ·-- the names
  have hiσ:i<σ.length:=by
   by_cases hi:i<σ.length
   ·exact hi
   ·unfold xr at e2;rw[List.getElem?_append_right (by omega),List.getElem?_replicate] at e2;split at e2<;>cases e2
  have e2':σ[i]? = some (some v):=by
   unfold xr at e2
   rwa [Qz6 hiσ] at e2
  have vis:(scope.names.lookup x).isSome=true:=by
   have e3:(relabel scope X.env).names.lookup x=some .local\/(relabel scope X.env).names.lookup x=some .cell\/(relabel scope X.env).names.lookup x=some .free:=e3;rw[Ue] at e3;cases q:scope.names.lookup x with
   | none=>rw[q] at e3;rcases e3 with z|z|z<;>cases z
   | some k=>rfl
  obtain⟨hN,hfr⟩:=Xh ok.chk i x (by rw[<-I.len];exact hiσ) e1 vis;have hm:=lookup_mem _ _ _ hfr;have hkk:=ok.free _ hm rfl;obtain⟨m,hns,hl⟩:=I.loc;obtain⟨u,ru,lk⟩:=hl i x v hN e2'<|hkk.elim (λz=>.inr<|.inl z) λz=>.inr<|.inr z;refine⟨u,ru,.inr ⟨?_,?_⟩⟩
  ·show(relabel scope X.env).names.lookup x=some .cell\/(relabel scope X.env).names.lookup x=some .free;rw[Ue,hfr];by_cases hc:(NameKind.free == NameKind.free&&X.env.scope.kind == .function&&X.env.kindOf x == some .cell)=true
   ·left;rw[Qj0,if_pos hc]
   ·right;rw[Qj0,if_neg hc]
  ·rcases lk with ⟨hl1,_⟩|⟨_,c,hc,hcell⟩
   ·rcases hkk with z|z<;>(rw[z] at hl1;cases hl1)
   ·refine⟨c,?_,hcell.keeps hk⟩;show(cellsFrom (s.heap.objs.size+1) scope.names<|ir X.env scope.names []).lookup x=some c;rw[jd,zF];have hno:(cellsFrom (s.heap.objs.size+1) scope.names []).lookup x=none:=Mj _ _ λd hd=>by
     have h1:=jT _ _ _ ok.nd<|uo _ _ _ _ hd;rw[hfr] at h1;cases h1
    rw[hno];obtain⟨d,hd⟩:=Qw9.mp<|Cz scope.names [] x hm;have h2:=CG _ _ x d hfree (λy d h=>by simp at h) hd;rw[hc] at h2;show(ir X.env scope.names []).lookup x=some c;rw[hd,h2]
 ·rcases vV x c e with ⟨p1,_⟩|⟨_,p2⟩
  ·exact⟨_,(co.empty x c p1).1⟩
  ·obtain⟨v,q⟩:=I.cell x c p2;exact⟨v,q.keeps hk⟩
 ·rcases vV x c e with ⟨p1,_⟩|⟨p0,p2⟩
  ·exact .inl<|I.hok.fresh<|Qj1<|Lp x c p1
  ·rcases I.yI x c p2 with z|⟨_,z⟩
   ·exact .inl z
   ·refine .inr ⟨?_,z⟩;show decide (scope.names.lookup x=some .cell)=false;refine Qwj λq=>?_;obtain⟨d,hd⟩:=NB q;rw[p0] at hd;cases hd
 ·show(xr (N'.length - σ.length) σ).length=N'.length;unfold xr;rw[Qqj,Qw4];have h1:=ok.len;have h2:=I.len;omega
abbrev ji(X:Cx)(scope:Scope)(N':List Str)(X':Cx):Prop:=
 ∃(cells:List (Str×Addr)) (C:Addr) (s0:Shared) (H0:{ H:Hp // ∀b qs,X.H₀ b=some (.tab qs)->H b=some (.tab qs) }) (fp:List Addr),X'=cxC X scope N' cells C s0 H0.1 fp
theorem Rq
  (ok:mV X scope N') (hc:X.calm=true)
  (bg:∀X',ji X scope N' X'->PG X' tg g) (bc:∀X',ji X scope N' X'->PIf X' ifs tc) (be:∀X',ji X scope N' X'->PE X' elt te)
  {σ:St} {Q:VK} (I2:Inv X pins σ H2 s2) (T:Turn X.prog X.w X.K tg J fp it tn) (st2:tn 0 s2.heap) (f2:∀b∈fp,wO X pins H2 b)
  (q:∀d,H2 d=none->∃W:Nat->Nat->St->Hp->Prop,(∃m,W 0 m (xr (N'.length - σ.length) σ) (upd H2 d (.lst [])))/\∀i m σ' H',W i m σ' H'->
   (J.stop i H'/\Q (.ref d) H')\/(J.go i H'/\∃N:St->Hp->Prop,(∀σ2 H2,N σ2 H2->∃m',m'<m/\W (i+1) m' σ2 H2)/\∀x H2,J.yld i H' x H2->g x σ' H2 λσ3 H3=>tc σ3 H3 λb H4=>
    if b=true then te σ3 H4 λy H5=>∃ys,H5 d=some (.lst ys)/\ys.length<sizeLine/\N σ3 (upd H5 d (.lst (ys++[y]))) else N σ3 H4))
  (fin:∀d C m s' H',Inv X pins σ H' s'->Q (.ref d) H'->s'.heap.Ns C m->H' C=none->C≠X.env.locals->X.s₀.heap.objs.size<=C->(∀x c,X.env.cells.lookup x=some c->c≠C)->(∀p∈X.pn++pins,p.1≠C)->
   compPost (model X.prog X.w) X.A X.xe use QQ (.ref d) C (.ok .next) s') :
  wpAny (model X.prog X.w) X.A (newList []) (λacc s₃=>wpAny (model X.prog X.w) X.A (newFunctionEnv scope X.env.globals (ir X.env scope.names []) [] X.env.qual none .none (some X.env)) (λcenv s₄=>
   codeAny (model X.prog X.w) X.A (.compStart (.ListComp elt [⟨tg,iter,ifs,0⟩] scope pos) 0 (.ref it) acc { cenv with scope:=relabel scope X.env }) (compPost (model X.prog X.w) X.A X.xe use QQ acc cenv.locals) s₄) X.xe s₃) X.xe s2:=by
 have hd2:H2 s2.heap.objs.size=none:=I2.fresh;refine Qz1<|Hu λh' hns hkeep hco=>?_
 -- the state behind the list
 obtain⟨W,⟨m0,w0⟩,turn⟩:=q s2.heap.objs.size hd2;have I3:Inv X pins σ (upd H2 s2.heap.objs.size<|.lst []) { s2 with heap:=s2.heap.push { cls:=.type "list",data:=.seq ([]:List Value).toArray } }:=I2.aq5 (t':=s2.toks) .nil<|Qxx _;have lt2:∀b∈fp,b<s2.heap.objs.size:=λb hb=>by
  obtain⟨o,e,_⟩:=T.obj _ _ st2 b hb;exact Qq3 e
 have f3:∀b∈fp,wO X pins (upd H2 s2.heap.objs.size<|.lst []) b:=λb hb=>by
  refine⟨?_,(f2 b hb).2⟩;rw[bT (Qww<|lt2 b hb)];exact(f2 b hb).1
 have lt3:∀b∈fp,b<({ s2 with heap:=s2.heap.push { cls:=.type "list",data:=.seq ([]:List Value).toArray } }:Shared).heap.objs.size:=λb hb=>by
  show b<(s2.heap.push _).objs.size;rw[Qz7];exact Nat.lt_succ_of_lt<|lt2 b hb
 have st3:tn 0 h':=T.keep _ _ _ st2 λb hb o e=>hkeep b o<|Qqx _ e;have I4:=Wx (fp:=fp) ok I3 f3 lt3 hns hkeep hco;generalize hs3:({ s2 with heap:=s2.heap.push { cls:=.type "list",data:=.seq ([]:List Value).toArray } }:Shared)=s3 at *;have sz3:s3.heap.objs.size=s2.heap.objs.size+1:=by rw[<-hs3];exact Qz7 ..
 generalize hX':cxC X scope N' (cellsFrom (s3.heap.objs.size+1) scope.names<|ir X.env scope.names []) s3.heap.objs.size s3 (upd H2 s2.heap.objs.size<|.lst []) fp=X' at I4;have at':ji X scope N' X':=⟨_,_,_,⟨_,I3.base.tabs⟩,_,hX'.symm⟩;have hg:=bg X' at';have hif:=bc X' at';have he:=be X' at';have eP:X'.prog=X.prog:=by rw[<-hX'];rfl
 have eW:X'.w=X.w:=by rw[<-hX'];rfl
 have eK:X'.K=X.K:=by rw[<-hX'];rfl
 have eA:X'.A=X.A:=by rw[<-hX'];rfl
 have eC:X'.calm=true:=by rw[<-hX'];exact hc
 have eX:X'.xe=λ_ _=>False:=by rw[<-hX'];rfl
 have ePn:X'.pn=[]:=by rw[<-hX'];rfl
 have eEx:X'.ex=fp:=by rw[<-hX'];rfl
 have eL:X'.env.locals=s3.heap.objs.size:=by rw[<-hX'];rfl
 have eFs:X'.fs=frs X.stack:=by rw[<-hX'];rfl
 have aoQ:compEnvC scope (cellsFrom (s3.heap.objs.size+1) scope.names<|ir X.env scope.names []) s3.heap.objs.size X.env=X'.env:=by rw[<-hX'];rfl
 have eS0:X'.s₀=s3:=by rw[<-hX'];rfl
 have eH0:X'.H₀=upd H2 s2.heap.objs.size (.lst []):=by rw[<-hX'];rfl
 -- what is true of the iterator's objects in the block
 have stat:∀{H'},(∀b∈fp,H' b=none)->∀b∈fp,wO X' [] H' b:=λ{H'} hn b hb=>by
  refine⟨hn b hb,?_,?_,.inl (by rw[eEx];exact hb),λx c e=>?_,λp hp=>?_⟩
  ·rw[eL];exact Qww<|lt3 b hb
  ·have:=I4.ok.acN b (by rw[eEx];exact hb);exact this
  ·exact(I4.ok.exf b (by rw[eEx];exact hb)).2 x c e
  ·rw[ePn] at hp;exact absurd hp (by simp)
 -- the outer context again
 have back:∀σ' H' s',Inv X' [] σ' H' s'->Inv X pins σ H' s':=λσ' H' s' J'=>by
  have hb:=J'.base;rw[eFs,eEx,eS0,eH0] at hb;have hos:=J'.os;rw[eS0] at hos;have hok:=J'.hok;rw[eP,eW] at hok;exact I3.call' (ch:=fp) hos hb hok J'.bare λb hbm=>⟨(f3 b hbm).2.2.2.1,(f3 b hbm).2.1,(f3 b hbm).2.2.2.2.1,(f3 b hbm).2.2.2.2.2⟩
 have loop:∀s4,s4 = { s3 with heap:=h' }->codeAny (model X.prog X.w) X.A (.compLoop (.ListComp elt [⟨tg,iter,ifs,0⟩] scope pos) 0 (.ref it) (.ref s2.heap.objs.size) X'.env) (compPost (model X.prog X.w) X.A X.xe use QQ (.ref s2.heap.objs.size) s3.heap.objs.size) s4:=by
  rintro s4 rfl;refine Us (λn s'=>∃i σ' H',Inv X' [] σ' H' s'/\tn i s'.heap/\(∀b∈fp,H' b=none)/\W i n σ' H') ?_ m0 ⟨0,_,_,I4,st3,λb hb=>(f3 b hb).1,w0⟩;rintro n s5 ⟨i,σ5,H5,I5,st5,fr5,w5⟩;rcases turn i n σ5 H5 w5 with ⟨stop,qn⟩|⟨go,N,hN,step⟩
  ·have td:=T.done X' eP eW eK eC i [] s5 σ5 H5 (λ_ _=>False) I5 (stat fr5) st5 stop;rw[eA] at td;refine gP td λr s6 ⟨hr,I6⟩=>?_;subst hr;obtain⟨mC,hnC,_⟩:=id I6.loc;rw[eL] at hnC;have lc:X.env.locals<s3.heap.objs.size:=by
    have:=I3.lt;exact this
   refine fin _ _ mC s6 H5 (back _ _ _ I6) qn hnC ?_ (Qz4 lc) I3.sz (λx c e=>?_) (λp hp=>?_)
   ·have:=I6.free;rw[eL] at this;exact this
   ·obtain⟨v,z⟩:=I3.cell x c e;exact Qww z.lt
   ·exact Qww (Qq3 (I3.pin p hp).1)
  ·have ti:=T.item X' eP eW eK eC i [] s5 σ5 H5 (λ_ _=>False) I5 (stat fr5) st5 go;rw[eA] at ti;refine gP ti λr s6 ⟨u,hr,h6⟩=>?_;subst hr;refine gP h6 λ_ s7 ⟨x,H7,I7,r7,y7,st7,fr7⟩=>?_;have I7':=I7.pinned (stat fr7) (T.obj _ _ st7);have hg':=hg _ s7 σ5 H7 x u _ I7' r7 (step x H7 y7);rw[eP,eW,eA,eX] at hg';refine gP hg' λ_ s8 ⟨σ8,H8,I8,q8⟩=>?_;have afR:=hif _ s8 σ8 H8 _ I8 q8;rw[eP,eW,eA,eX] at afR;refine gP afR λb s9 ⟨H9,I9,q9⟩=>?_;have again:∀{σz} {Hz} {sz},Inv X' ([]++Ek fp s7.heap) σz Hz sz->N σz Hz->∃m,m<n/\∃i σ' H',Inv X' [] σ' H' sz/\tn i sz.heap/\(∀b∈fp,H' b=none)/\W i m σ' H':=λ{σz Hz sz} Iz nz=>by
    obtain⟨m',hm,wz⟩:=hN σz Hz nz;refine⟨m',hm,i+1,σz,Hz,Iz.wR,T.keep _ _ _ st7 λb hb o e=>(Iz.pin (b,o) (Qwz _ (Qwz _ (pq hb e)))).1,λb hb=>?_,wz⟩;obtain⟨o,e,d⟩:=T.obj _ _ st7 b hb;exact(Iz.pin (b,o) (Qwz _ (Qwz _ (pq hb e)))).2.1
   cases b with
   | false=>
    rw[if_neg Qw0] at q9 ⊢;exact again I9 q9
   | true=>
    rw[if_pos rfl] at q9 ⊢;have he':=he _ s9 σ8 H9 _ I9 q9;rw[eP,eW,eA,eX] at he';refine gP he' λy sa ⟨yv,Ha,Ia,ra,ys,hys,hlen,qa⟩=>?_;have ap:=Qt (X:=X') _ sa σ8 Ha (.ref s2.heap.objs.size) [yv] (.ref s2.heap.objs.size) [y] (λv H'=>v = .non/\N σ8 H') Ia rfl (.cons ra .nil) ⟨_,ys,yv,rfl,rfl,hys,hlen,rfl,qa⟩;rw[eP,eW,eA,eX] at ap;refine gP ap λ_ sb ⟨vb,Hb,Ib,rb,_,nb⟩=>?_;exact again Ib nb
 show codeAny _ _ (.compStart _ 0 (.ref it) (.ref s2.heap.objs.size) (compEnvC scope (cellsFrom (s3.heap.objs.size+1) scope.names (ir X.env scope.names [])) s3.heap.objs.size X.env)) (compPost (model X.prog X.w) X.A X.xe use QQ (.ref s2.heap.objs.size) s3.heap.objs.size) _;rw[aoQ];exact codeAny_compStart_list (loop _ rfl) (T.self X.A 0 _ _ _ st3 (loop _ rfl))
theorem aqE
  (ok:mV X scope N') (hc:X.calm=true) (hi:PI X tg iter wi)
  (bg:∀X',ji X scope N' X'->PG X' tg g) (bc:∀X',ji X scope N' X'->PIf X' ifs tc) (be:∀X',ji X scope N' X'->PE X' elt te)
  (hs:∀x,foldedSetIterable iter X.env x=pure x:=by intro _;rfl) :
  PE X (.ListComp elt [⟨tg,iter,ifs,0⟩] scope pos) (tLC N'.length wi g tc te):=by
 intro pins s σ H Q I h;rw[eval_ListComp];have hfree:∀n,(n,NameKind.free)∈scope.names->∃c,X.env.cells.lookup n=some c:=λn hm=>I.ok.has n<|ok.free _ hm rfl;refine wpAny_comprehension_free rfl hs (vU hfree) ok.kind (λx hx hl=>jT _ _ _ ok.nd (by grind)) ?_;refine gP (hi pins s σ H _ I h) λv s1 h1=>gP h1 λitv s2 h2=>?_;obtain⟨it,fp,tn,J,H2,e,I2,T,st2,f2,q⟩:=h2;subst e;refine Rq ok hc bg bc be I2 T st2 f2 q λd C m s' H' I' hq hn hC hL h0 hcell hpin=>?_;refine⟨m,hn,λh' hs'=>?_⟩;have I'':Inv X pins σ H' { s' with heap:=h',toks:=s'.toks }:=I'.turned (λb o hb e=>(hs'.2 b hb).trans e) hC hL (.inr h0) hcell hpin;exact⟨.ref d,H',I'',rfl,hq⟩
theorem aeG{pos spos py:Pos}
  (ok:mV X scope N') (hc:X.calm=true) (hi:PI X tg iter wi)
  (bg:∀X',ji X scope N' X'->PG X' tg g) (bc:∀X',ji X scope N' X'->PIf X' ifs tc) (be:∀X',ji X scope N' X'->PE X' elt te)
  (hN:X.N.Nodup) (hy:X.N[i]? = some y) (hx:Loc X.env.scope y)
  (hsw:swapsWith (.ListComp elt [⟨tg,iter,ifs,0⟩] scope pos) (some (.Name y py)) spos.line X.env=pure true)
  (hf:X.fn y=true\/X.env.scope.names.lookup y=some .local:=by first|exact .inl rfl|exact .inr rfl|assumption)
  (hs:∀x,foldedSetIterable iter X.env x=pure x:=by intro _;rfl) :
  PS X (.Assign [.Name y py] (.ListComp elt [⟨tg,iter,ifs,0⟩] scope pos) spos) (ahD (tLC N'.length wi g tc te) (W3 i)):=by
 intro pins s σ H D I h;rw[exec_Assign_Name_used _ _ _ _ hsw];refine Qqq<|wpAny_standAt<|Qqq ?_;have hfree:∀n,(n,NameKind.free)∈scope.names->∃c,X.env.cells.lookup n=some c:=λn hm=>I.ok.has n<|ok.free _ hm rfl;show wpAny _ X.A (do let _ <-comprehension (.ListComp elt [⟨tg,iter,ifs,0⟩] scope pos) scope X.env _ (newList []) false (eval iter X.env) (some<|assign (.Name y py) X.env)) _ _ s;refine Qqq<|Qw7 (wpAny_comprehension_free rfl hs (vU hfree) ok.kind (λx hx hl=>jT _ _ _ ok.nd (by rw[<-hl];exact hx)) ?_) (λ_ s' hq=>Qq1<|Qq1 hq) λ_ _ e=>e;refine gP (hi pins s σ H _ I h) λv s1 h1=>gP h1 λitv s2 h2=>?_;obtain⟨it,fp,tn,J,H2,e,I2,T,st2,f2,q⟩:=h2;subst e;refine Rq (Q:=λx H1=>W3 i x σ H1 D.nx) ok hc bg bc be I2 T st2 f2 q λd C m s' H' I' hq hn hC hL h0 hcell hpin=>?_;refine wpAny_assign_Name<|Qd (v:=.ref d) I' hN hy hx rfl (λs'' I'' sb=>?_) hf;obtain⟨a,hsb,ha⟩:=sb;have haC:C≠a:=by
  rcases ha with z|z
  ·rw[z];exact hL
  ·exact(hcell y a z).symm
 refine⟨m,hn.sameBut hsb haC,λh' hs'=>?_⟩;have I3:Inv X pins (σ.set i<|some<|.ref d) H' { s'' with heap:=h',toks:=s''.toks }:=I''.turned (λb o hb e=>(hs'.2 b hb).trans e) hC hL (.inr h0) hcell hpin;exact⟨_,H',I3,hq⟩
noncomputable def inS(ys:List Str):Key->Bool
 | .inr x=>decide (x∈ys)
 | .inl _=>false
def SetT(P:Program)(w:World)(a:Addr)(ys:List Str):HO:=.ext λh=>h.SetOf (cN P w) a (inS ys) ys.length
noncomputable def aae(ys:List Str)(x:Str):List Str:=if x∈ys then ys else ys++[x]
theorem aeb(x:h.SetOf (cN P w) a (λ_=>false) 0):jt P w H h a (SetT P w a []):=by
 refine⟨(show(λ_=>false)=inS [] from funext λk=>by cases k<;>simp[inS]) ▸ x,?_,λh1 h2 y kk=>?_⟩
 ·obtain⟨o,_,_,_,e,_⟩:=x;exact⟨o,e⟩
 ·obtain⟨o,es,ep,t,e,r⟩:=y;exact⟨o,es,ep,t,kk o e,r⟩
theorem ahS(x:h.SetOf (cN P w) a (inS ys) ys.length):jt P w H h a (SetT P w a ys):=by
 refine⟨x,?_,λh1 h2 y kk=>?_⟩
 ·obtain⟨o,_,_,_,e,_⟩:=x;exact⟨o,e⟩
 ·obtain⟨o,es,ep,t,e,r⟩:=y;exact⟨o,es,ep,t,kk o e,r⟩
theorem Yv{h:Heap}(x:h.SetOf (cN P w) a S n)(e:∀k,S k=S' k)(hn:n=n'):h.SetOf (cN P w) a S' n':=by obtain rfl:S=S':=funext e;exact hn ▸ x
theorem aec{σ:St}(hH:H a=some (SetT X.prog X.w a ys))(I:Inv X pins σ H s)(r:RelV (.str z) u)(hz:ys.length<64) :
  wpAny (model X.prog X.w) X.A (call (.builtin "set.add") [.ref a,u]) (λ_ s'=>Inv X pins σ (upd H a (SetT X.prog X.w a (aae ys z))) s') E s:=by
 have x:=(I.hok a _ hH).1;obtain⟨t,rfl⟩:∃t,u = .str z t:=r;refine call_set_add (Bx (k:=.inr z)<|show RelV (.str z) _ from⟨t,rfl⟩) rfl x (Qxq (Nat.succ_le_of_lt hz) (by decide)) λh' hs so=>?_;refine I.write (by rw[hH];trivial) (.inl rfl) (λb q hb zz=>(hs.2 b hb).trans zz) ?_<|ahS<|Yv so (λk=>?_) ?_
 ·obtain⟨o,_,_,_,e,_⟩:=so;exact⟨o,e⟩
 ·unfold aae;cases k<;>by_cases hm:z∈ys<;>simp_all [inS]<;>grind
 ·unfold aae;by_cases hm:z∈ys<;>simp[hm,inS]
def tSC(P:Program)(w:World)(n:Nat)(wi:TI)(g:TG)(tc:TT)(te:TE):TE:=λσ H Q=>wi σ H λJ H1=>∀d,H1 d=none->∃W:Nat->Nat->St->Hp->Prop,(∃m,W 0 m (xr (n - σ.length) σ) (upd H1 d (SetT P w d [])))/\∀i m σ' H',W i m σ' H'->
 (J.stop i H'/\Q (.ref d) H')\/(J.go i H'/\∃N:St->Hp->Prop,(∀σ2 H2,N σ2 H2->∃m',m'<m/\W (i+1) m' σ2 H2)/\∀x H2,J.yld i H' x H2->g x σ' H2 λσ3 H3=>tc σ3 H3 λb H4=>
  if b=true then te σ3 H4 λy H5=>∃ys z,y = .str z/\H5 d=some (SetT P w d ys)/\ys.length<64/\N σ3 (upd H5 d (SetT P w d (aae ys z))) else N σ3 H4)
section
variable{prog:Program}{w:World}{A:Around}{R:Result->Shared->Prop}{s:Shared}
theorem Ur :
  compTurn (.SetComp elt [⟨target,iter,ifs,0⟩] scope pos) 0 it acc env=(do
   standAt iter.pos
   match <-pyNext it with
   | none=>pure (Fin.done Flow.next)
   | some v=>do
    letOwnedTupleGo target it v
    assign target env v
    let mut ok:=true
    for c in ifs do
     if ok then ok <-PySem.isTrue c env (eval c env)
    if ok then
     (do
      let v <-eval elt env
      standAt elt.pos
      let _ <-call (.builtin "set.add") [acc,v]
      pure ())
    again (.compLoop (.SetComp elt [⟨target,iter,ifs,0⟩] scope pos) 0 it acc env)):=by rfl
theorem Pn(I:Nat->Shared->Prop)
  (turn:∀n s,I n s->wpAny (model prog w) A (pyNext it) (λr s₁=>match r with
   | none=>R (.ok .next) s₁
   | some v=>wpAny (model prog w) A (letOwnedTupleGo target it v) (λ_ s₁'=>wpAny (model prog w) A (assign target env v) (λ_ s₂=>
     wpAny (model prog w) A (forIn ifs true λc r=>if r=true then do let ok <-isTrue c env (eval c env);pure (ForInStep.yield ok) else pure (ForInStep.yield r)) (λok s₃=>
      if ok=true then wpAny (model prog w) A (eval elt env) (λx s₄=>
       wpAny (model prog w) A (call (.builtin "set.add") [acc,x]) (λ_ s₅=>∃m,m<n/\I m s₅) (λ_ _=>False) s₄) (λ_ _=>False) s₃
      else ∃m,m<n/\I m s₃) (λ_ _=>False) s₂) (λ_ _=>False) s₁') (λ_ _=>False) s₁) (λ_ _=>False) s)
  (n) (h:I n s) :
  codeAny (model prog w) A (.compLoop (.SetComp elt [⟨target,iter,ifs,0⟩] scope pos) 0 it acc env) R s:=by
 refine codeAny_loop rfl I (λn s hI=>?_) n h;show wpAny _ A ((compTurn (.SetComp elt [⟨target,iter,ifs,0⟩] scope pos) 0 it acc env).onRaise<|λx=>do noteFrame x env;theTreesLotGoes x) _ _ s;refine wpAny_noted ?_;rw[Ur];refine Qqq<|wpAny_standAt<|Qqq<|Qw7 (turn n s hI) (λr s₁ h₁=>?_) λ_ _ h'=>h'.elim;cases r with
 | none=>exact Qq1 h₁
 | some v=>
  refine Qqq<|Qw7 h₁ (λ_ s₁' h₁'=>?_) λ_ _ h'=>h'.elim;refine Qqq<|Qw7 h₁' (λ_ s₂ h₂=>Qqq<|Qw7 h₂ (λok s₃ h₃=>?_) λ_ _ h'=>h'.elim) λ_ _ h'=>h'.elim;cases ok with
  | false=>exact Qq1 ⟨rfl,h₃⟩
  | true=>
   exact Qqq<|Qqq<|Qw7 h₃ (λx s₄ h₄=>Qqq<|wpAny_standAt<|Qqq<|Qw7 h₄ (λ_ s₅ h₅=>Qq1<|Qq1 ⟨rfl,h₅⟩) λ_ _ h'=>h'.elim) λ_ _ h'=>h'.elim
theorem Z6(h0:codeAny (model prog w) A (.compLoop (.SetComp elt [⟨target,iter,ifs,0⟩] scope pos) 0 it acc env) R s)
  (h:wpAny (model prog w) A (pyIter it) (λit' s'=>codeAny (model prog w) A (.compLoop (.SetComp elt [⟨target,iter,ifs,0⟩] scope pos) 0 it' acc env) R s')
   (notedBy (model prog w) A env λx s'=>R (.error x) s') s) :
  codeAny (model prog w) A (.compStart (.SetComp elt [⟨target,iter,ifs,0⟩] scope pos) 0 it acc env) R s:=by
 refine codeAny_of_tree ?_;show wpAny _ _ ((compStart (.SetComp elt [⟨target,iter,ifs,0⟩] scope pos) 0 it acc env).onRaise<|λx=>do noteFrame x env;standAt theWindowsPlace) _ _ s;refine wpAny_notedAt ?_;unfold compStart;show wpAny _ _ (ask >>= _) _ _ s;refine Qqq<|wpAny_askSetting<|wpAny_ite ?_;split
 ·first|exact Qqq (Qq1<|Qq1<|And.intro rfl h0)|exact Qq1<|And.intro rfl h0
 ·refine Qqq<|wpAny_rule ?_;show wpAny _ _ (standAt iter.pos >>= _) _ _ s;exact Qqq<|wpAny_standAt<|Qqq<|Qw7 h (λit' s' h'=>Qq1<|And.intro rfl h') λ_ _ x=>x
end
theorem Z5
  (ok:mV X scope N') (hc:X.calm=true)
  (bg:∀X',ji X scope N' X'->PG X' tg g) (bc:∀X',ji X scope N' X'->PIf X' ifs tc) (be:∀X',ji X scope N' X'->PE X' elt te)
  {σ:St} {Q:VK} (I2:Inv X pins σ H2 s2) (T:Turn X.prog X.w X.K tg J fp it tn) (st2:tn 0 s2.heap) (f2:∀b∈fp,wO X pins H2 b)
  (q:∀d,H2 d=none->∃W:Nat->Nat->St->Hp->Prop,(∃m,W 0 m (xr (N'.length - σ.length) σ) (upd H2 d (SetT X.prog X.w d [])))/\∀i m σ' H',W i m σ' H'->
   (J.stop i H'/\Q (.ref d) H')\/(J.go i H'/\∃N:St->Hp->Prop,(∀σ2 H2,N σ2 H2->∃m',m'<m/\W (i+1) m' σ2 H2)/\∀x H2,J.yld i H' x H2->g x σ' H2 λσ3 H3=>tc σ3 H3 λb H4=>
    if b=true then te σ3 H4 λy H5=>∃ys z,y = .str z/\H5 d=some (SetT X.prog X.w d ys)/\ys.length<64/\N σ3 (upd H5 d (SetT X.prog X.w d (aae ys z))) else N σ3 H4))
  (fin:∀d C m s' H',Inv X pins σ H' s'->Q (.ref d) H'->s'.heap.Ns C m->H' C=none->C≠X.env.locals->X.s₀.heap.objs.size<=C->(∀x c,X.env.cells.lookup x=some c->c≠C)->(∀p∈X.pn++pins,p.1≠C)->
   compPost (model X.prog X.w) X.A X.xe use QQ (.ref d) C (.ok .next) s') :
  wpAny (model X.prog X.w) X.A (newSet (.type "set")) (λacc s₃=>wpAny (model X.prog X.w) X.A (newFunctionEnv scope X.env.globals (ir X.env scope.names []) [] X.env.qual none .none (some X.env)) (λcenv s₄=>
   codeAny (model X.prog X.w) X.A (.compStart (.SetComp elt [⟨tg,iter,ifs,0⟩] scope pos) 0 (.ref it) acc { cenv with scope:=relabel scope X.env }) (compPost (model X.prog X.w) X.A X.xe use QQ acc cenv.locals) s₄) X.xe s₃) X.xe s2:=by
 have hd2:H2 s2.heap.objs.size=none:=I2.fresh;refine wpAny_newSet_of (knd:=cN X.prog X.w) λled auF=>Hu λh' hns hkeep hco=>?_
 -- the state behind the list
 obtain⟨W,⟨m0,w0⟩,turn⟩:=q s2.heap.objs.size hd2;have I3:Inv X pins σ (upd H2 s2.heap.objs.size<|SetT X.prog X.w s2.heap.objs.size []) { s2 with heap:=s2.heap.push { cls:=.type "set",data:=.set #[] 0 (.fresh 0 0 led) } }:=I2.laid (t':=s2.toks) (λ_ _ q=>Qqx _ q) (Qq0 _)<|aeb auF;have lt2:∀b∈fp,b<s2.heap.objs.size:=λb hb=>by
  obtain⟨o,e,_⟩:=T.obj _ _ st2 b hb;exact Qq3 e
 have f3:∀b∈fp,wO X pins (upd H2 s2.heap.objs.size<|SetT X.prog X.w s2.heap.objs.size []) b:=λb hb=>by
  refine⟨?_,(f2 b hb).2⟩;rw[bT (Qww<|lt2 b hb)];exact(f2 b hb).1
 have lt3:∀b∈fp,b<({ s2 with heap:=s2.heap.push { cls:=.type "set",data:=.set #[] 0 (.fresh 0 0 led) } }:Shared).heap.objs.size:=λb hb=>by
  show b<(s2.heap.push _).objs.size;rw[Qz7];exact Nat.lt_succ_of_lt<|lt2 b hb
 have st3:tn 0 h':=T.keep _ _ _ st2 λb hb o e=>hkeep b o<|Qqx _ e;have I4:=Wx (fp:=fp) ok I3 f3 lt3 hns hkeep hco;generalize hs3:({ s2 with heap:=s2.heap.push { cls:=.type "set",data:=.set #[] 0 (.fresh 0 0 led) } }:Shared)=s3 at *;have sz3:s3.heap.objs.size=s2.heap.objs.size+1:=by rw[<-hs3];exact Qz7 ..
 generalize hX':cxC X scope N' (cellsFrom (s3.heap.objs.size+1) scope.names<|ir X.env scope.names []) s3.heap.objs.size s3 (upd H2 s2.heap.objs.size<|SetT X.prog X.w s2.heap.objs.size []) fp=X' at I4;have at':ji X scope N' X':=⟨_,_,_,⟨_,I3.base.tabs⟩,_,hX'.symm⟩;have hg:=bg X' at';have hif:=bc X' at';have he:=be X' at';have eP:X'.prog=X.prog:=by rw[<-hX'];rfl
 have eW:X'.w=X.w:=by rw[<-hX'];rfl
 have eK:X'.K=X.K:=by rw[<-hX'];rfl
 have eA:X'.A=X.A:=by rw[<-hX'];rfl
 have eC:X'.calm=true:=by rw[<-hX'];exact hc
 have eX:X'.xe=λ_ _=>False:=by rw[<-hX'];rfl
 have ePn:X'.pn=[]:=by rw[<-hX'];rfl
 have eEx:X'.ex=fp:=by rw[<-hX'];rfl
 have eL:X'.env.locals=s3.heap.objs.size:=by rw[<-hX'];rfl
 have eFs:X'.fs=frs X.stack:=by rw[<-hX'];rfl
 have aoQ:compEnvC scope (cellsFrom (s3.heap.objs.size+1) scope.names<|ir X.env scope.names []) s3.heap.objs.size X.env=X'.env:=by rw[<-hX'];rfl
 have eS0:X'.s₀=s3:=by rw[<-hX'];rfl
 have eH0:X'.H₀=upd H2 s2.heap.objs.size (SetT X.prog X.w s2.heap.objs.size []):=by rw[<-hX'];rfl
 -- what is true of the iterator's objects in the block
 have stat:∀{H'},(∀b∈fp,H' b=none)->∀b∈fp,wO X' [] H' b:=λ{H'} hn b hb=>by
  refine⟨hn b hb,?_,?_,.inl (by rw[eEx];exact hb),λx c e=>?_,λp hp=>?_⟩
  ·rw[eL];exact Qww<|lt3 b hb
  ·have:=I4.ok.acN b (by rw[eEx];exact hb);exact this
  ·exact(I4.ok.exf b (by rw[eEx];exact hb)).2 x c e
  ·rw[ePn] at hp;exact absurd hp (by simp)
 -- the outer context again
 have back:∀σ' H' s',Inv X' [] σ' H' s'->Inv X pins σ H' s':=λσ' H' s' J'=>by
  have hb:=J'.base;rw[eFs,eEx,eS0,eH0] at hb;have hos:=J'.os;rw[eS0] at hos;have hok:=J'.hok;rw[eP,eW] at hok;exact I3.call' (ch:=fp) hos hb hok J'.bare λb hbm=>⟨(f3 b hbm).2.2.2.1,(f3 b hbm).2.1,(f3 b hbm).2.2.2.2.1,(f3 b hbm).2.2.2.2.2⟩
 have loop:∀s4,s4 = { s3 with heap:=h' }->codeAny (model X.prog X.w) X.A (.compLoop (.SetComp elt [⟨tg,iter,ifs,0⟩] scope pos) 0 (.ref it) (.ref s2.heap.objs.size) X'.env) (compPost (model X.prog X.w) X.A X.xe use QQ (.ref s2.heap.objs.size) s3.heap.objs.size) s4:=by
  rintro s4 rfl;refine Pn (λn s'=>∃i σ' H',Inv X' [] σ' H' s'/\tn i s'.heap/\(∀b∈fp,H' b=none)/\W i n σ' H') ?_ m0 ⟨0,_,_,I4,st3,λb hb=>(f3 b hb).1,w0⟩;rintro n s5 ⟨i,σ5,H5,I5,st5,fr5,w5⟩;rcases turn i n σ5 H5 w5 with ⟨stop,qn⟩|⟨go,N,hN,step⟩
  ·have td:=T.done X' eP eW eK eC i [] s5 σ5 H5 (λ_ _=>False) I5 (stat fr5) st5 stop;rw[eA] at td;refine gP td λr s6 ⟨hr,I6⟩=>?_;subst hr;obtain⟨mC,hnC,_⟩:=id I6.loc;rw[eL] at hnC;have lc:X.env.locals<s3.heap.objs.size:=by
    have:=I3.lt;exact this
   refine fin _ _ mC s6 H5 (back _ _ _ I6) qn hnC ?_ (Qz4 lc) I3.sz (λx c e=>?_)<|λp hp=>?_
   ·have:=I6.free;rw[eL] at this;exact this
   ·obtain⟨v,z⟩:=I3.cell x c e;exact Qww z.lt
   ·exact Qww<|Qq3 (I3.pin p hp).1
  ·have ti:=T.item X' eP eW eK eC i [] s5 σ5 H5 (λ_ _=>False) I5 (stat fr5) st5 go;rw[eA] at ti;refine gP ti λr s6 ⟨u,hr,h6⟩=>?_;subst hr;refine gP h6 λ_ s7 ⟨x,H7,I7,r7,y7,st7,fr7⟩=>?_;have I7':=I7.pinned (stat fr7)<|T.obj _ _ st7;have hg':=hg _ s7 σ5 H7 x u _ I7' r7<|step x H7 y7;rw[eP,eW,eA,eX] at hg';refine gP hg' λ_ s8 ⟨σ8,H8,I8,q8⟩=>?_;have afR:=hif _ s8 σ8 H8 _ I8 q8;rw[eP,eW,eA,eX] at afR;refine gP afR λb s9 ⟨H9,I9,q9⟩=>?_;have again:∀{σz} {Hz} {sz},Inv X' ([]++Ek fp s7.heap) σz Hz sz->N σz Hz->∃m,m<n/\∃i σ' H',Inv X' [] σ' H' sz/\tn i sz.heap/\(∀b∈fp,H' b=none)/\W i m σ' H':=λ{σz Hz sz} Iz nz=>by
    obtain⟨m',hm,wz⟩:=hN σz Hz nz;refine⟨m',hm,i+1,σz,Hz,Iz.wR,T.keep _ _ _ st7 λb hb o e=>(Iz.pin (b,o)<|Qwz _<|Qwz _<|pq hb e).1,λb hb=>?_,wz⟩;obtain⟨o,e,d⟩:=T.obj _ _ st7 b hb;exact(Iz.pin (b,o)<|Qwz _<|Qwz _<|pq hb e).2.1
   cases b with
   | false=>
    rw[if_neg Qw0] at q9 ⊢;exact again I9 q9
   | true=>
    rw[if_pos rfl] at q9 ⊢;have he':=he _ s9 σ8 H9 _ I9 q9;rw[eP,eW,eA,eX] at he';refine gP he' λy sa ⟨yv,Ha,Ia,ra,ys,z,hyz,hys,hlen,qa⟩=>?_;subst hyz;have ap:=aec (X:=X') (E:=λ_ _=>False) (eP ▸ eW ▸ hys) Ia ra hlen;rw[eP,eW,eA] at ap;exact gP ap λ_ sb Ib=>again Ib qa
 show codeAny _ _ (.compStart _ 0 (.ref it) (.ref s2.heap.objs.size)<|compEnvC scope (cellsFrom (s3.heap.objs.size+1) scope.names<|ir X.env scope.names []) s3.heap.objs.size X.env) (compPost (model X.prog X.w) X.A X.xe use QQ (.ref s2.heap.objs.size) s3.heap.objs.size) _;rw[aoQ];exact Z6 (loop _ rfl)<|T.self X.A 0 _ _ _ st3<|loop _ rfl
theorem aqC
  (ok:mV X scope N') (hc:X.calm=true) (hi:PI X tg iter wi)
  (bg:∀X',ji X scope N' X'->PG X' tg g) (bc:∀X',ji X scope N' X'->PIf X' ifs tc) (be:∀X',ji X scope N' X'->PE X' elt te)
  (hs:∀x,foldedSetIterable iter X.env x=pure x:=by intro _;rfl) :
  PE X (.SetComp elt [⟨tg,iter,ifs,0⟩] scope pos) (tSC X.prog X.w N'.length wi g tc te):=by
 intro pins s σ H Q I h;rw[arm_eval_SetComp];have hfree:∀n,(n,NameKind.free)∈scope.names->∃c,X.env.cells.lookup n=some c:=λn hm=>I.ok.has n<|ok.free _ hm rfl;refine wpAny_comprehension_free rfl hs (vU hfree) ok.kind (λx hx hl=>jT _ _ _ ok.nd (by grind)) ?_;refine gP (hi pins s σ H _ I h) λv s1 h1=>gP h1 λitv s2 h2=>?_;obtain⟨it,fp,tn,J,H2,e,I2,T,st2,f2,q⟩:=h2;subst e;refine Z5 ok hc bg bc be I2 T st2 f2 q λd C m s' H' I' hq hn hC hL h0 hcell hpin=>?_;refine⟨m,hn,λh' hs'=>?_⟩;have I'':Inv X pins σ H' { s' with heap:=h',toks:=s'.toks }:=I'.turned (λb o hb e=>(hs'.2 b hb).trans e) hC hL (.inr h0) hcell hpin;exact⟨.ref d,H',I'',rfl,hq⟩
end L2
namespace Ev
open PySem PySem.Spec PyProof.Rows L2
inductive D where
 | non
 | bl (b:Bool)
 | int (i:Int)
 | str (x:List Nat)
 | tup (xs:List D)
 | lst (xs:List D)
 | arr (xs:List D)
 | dct (kvs:List (D×D))
 | G8 (kvs:List (D×D))
 | clo (st:Stmt) (ds:List D)
 deriving Inhabited
abbrev Fg:=PySem.W.Frag
noncomputable def strOf(x:List Nat):Str:=⟨x.toArray⟩
def wL:D->Option Key
 | .int i=>some (.inl i)
 | .str x=>some (.inr (strOf x))
 | _=>none
mutual
noncomputable def nkD:D->Option NK
 | .int i=>some (.num i)
 | .bl b=>some (.num (if b then 1 else 0))
 | .str x=>some (.txt (strOf x))
 | .tup xs=>(aqY xs).map .tup
 | _=>none
noncomputable def aqY:List D->Option (List NK)
 | []=>some []
 | d::ds=>match nkD d,aqY ds with
  | some k,some ks=>some (k::ks)
  | _,_=>none
end
noncomputable def defName(s:Stmt):Str:=match s with
 | .FunctionDef n _ _ _ _ _ _ _ _ _=>n
 | _=>""
def freeOf(s:Stmt):List Str:=(((aG s).names.filter (·.2 == .free)).map (·.1)).reverse
def apu(F:Hp)(c:Addr)(v:V):Prop:=∃(o:Obj) (u:HO) (w:Value),F c=some (.qP o u)/\o.data = .cell (some w)/\RelV v w
def Dh(F:Hp):List (Str×Addr)->List V->Prop
 | [],vs=>vs=[]
 | (_,c)::r,vs=>∃v vs',vs=v::vs'/\apu F c v/\Dh F r vs'
def apt(F:Hp)(c:Addr)(q:Str):Prop:=∃(o:Obj) (u:HO) (vs:Array Value) (t:Tok),F c=some (.qP o u)/\o.data = .fields vs/\vs[1]? = some (.str q t)
def ave(F:Hp)(st:Stmt)(a:Addr)(vs:List V):Prop:=∃(u:HO) (q:Str) (cl:List (Str×Addr)) (doc pm ctv:Value) (c:Addr),
 F a=some (.qP (PySem.W.fnMade (defName st) q (iY st) (dB st) (aG st) cl doc pm c ctv) u)/\apt F c q/\cl.map (·.1)=freeOf st/\(cl.map (·.2)).Nodup/\Dh F cl vs
theorem aX.cells(e:aX F F'):∀{cl} {vs},Dh F cl vs->Dh F' cl vs
 | [],_,h=>h
 | (_,c)::r,_,⟨v,vs',h0,⟨o,u,w,h1,h2⟩,h3⟩=>⟨v,vs',h0,⟨o,u,w,e _ _ h1,h2⟩,aX.cells e h3⟩
def Mark(K:Fg)(st:Stmt)(a:Addr):Prop:=∃(n:Str) (p:Pos) (oc:Value) (od:Option Addr) (fd:FuncData) (sl:Array (Option Value)),st = .Global [n] p/\PySem.W.nsIn K mainGlobals n=some (some (.ref a))/\K.lookup a=some ⟨oc,od,.func fd,sl⟩
def ExcAt(K:Fg)(F:Hp)(st:Stmt)(a:Addr)(vs:List V):Prop:=∃(n:Str) (r:List Str) (p:Pos) (o:Obj) (u:HO) (c:Addr) (fs:Array Value),st = .Nonlocal (n::r) p/\PySem.W.nsIn K mainGlobals n=some (some (.ref c))/\F a=some (.qP o u)/\o.cls = .ref c/\o.data = .fields fs/\
 (r=[]/\vs=[]\/∃(x:Str) (v:V) (w:Value) (dx:Addr) (od:Obj) (ud:HO) (m:Str->Option Value),r=[x]/\vs=[v]/\RelV v w/\o.dict=some dx/\F dx=some (.qP od ud)/\(∀h:Heap,h.get? dx=some od->h.Ns dx m)/\m x=some w)
theorem aX.excAt{K:Fg}{st:Stmt}(e:aX F F')(h:ExcAt K F st a vs):ExcAt K F' st a vs:=by
 obtain⟨n,r,p,o,u,c,fs,h1,h2,h3,h4,h5,h6⟩:=h;refine⟨n,r,p,o,u,c,fs,h1,h2,e _ _ h3,h4,h5,?_⟩;rcases h6 with h6|⟨x,v,w,dx,od,ud,m,q1,q2,q3,q4,q5,q6⟩
 ·exact .inl h6
 ·exact .inr ⟨x,v,w,dx,od,ud,m,q1,q2,q3,q4,e _ _ q5,q6⟩
noncomputable def Ww(st:Stmt):Bool:=match st with
 | .Global _ _=>true
 | .Nonlocal _ _=>true
 | _=>false
def Clo(K:Fg)(F:Hp)(st:Stmt)(a:Addr)(vs:List V):Prop:=ave F st a vs/\Ww st=false\/Mark K st a\/ExcAt K F st a vs
theorem aX.clo{K:Fg}{st:Stmt}(e:aX F F')(h:Clo K F st a vs):Clo K F' st a vs:=by
 rcases h with ⟨h,hg⟩|h|h
 rotate_left
 ·exact .inr<|.inl h
 ·exact .inr<|.inr<|aX.excAt e h
 refine .inl ⟨?_,hg⟩;obtain⟨u,q,cl,doc,pm,ctv,c,h1,⟨o,u2,ws,t,h2,h3⟩,h4,h5,h6⟩:=h;exact⟨u,q,cl,doc,pm,ctv,c,e _ _ h1,⟨o,u2,ws,t,e _ _ h2,h3⟩,h4,h5,aX.cells e h6⟩
mutual
noncomputable def Rep(K:Fg)(F:Hp):D->V->Prop
 | .non,v=>v = .non
 | .bl b,v=>v = .bl b
 | .int i,v=>v = .int i
 | .str x,v=>v = .str (strOf x)/\x.length<=sizeLine
 | .tup xs,v=>xs.length<=sizeLine/\∃a vs,v = .ref a/\qe K F a vs/\cD K F xs vs
 | .lst xs,v=>xs.length<=sizeLine/\∃a vs,v = .ref a/\F a=some (.lst vs)/\cD K F xs vs
 | .arr xs,v=>xs.length<=sizeLine/\∃a vs,v = .ref a/\uR K F a vs/\cD K F xs vs
 | .dct kvs,v=>kvs.length<=sizeLine/\∃a ks,v = .ref a/\Rd F a (.dK ks)/\gh K F kvs ks
 | .G8 kvs,v=>kvs.length<=sizeLine/\∃a ks,v = .ref a/\Rd F a (.dN ks)/\wJ K F kvs ks
 | .clo st ds,v=>∃a vs,v = .ref a/\Clo K F st a vs/\cD K F ds vs
noncomputable def cD(K:Fg)(F:Hp):List D->List V->Prop
 | [],vs=>vs=[]
 | d::ds,vs=>∃v r,vs=v::r/\Rep K F d v/\cD K F ds r
noncomputable def gh(K:Fg)(F:Hp):List (D×D)->List (Key×V)->Prop
 | [],vs=>vs=[]
 | (k,d)::ds,vs=>∃q v r,vs=(q,v)::r/\wL k=some q/\Rep K F d v/\gh K F ds r
noncomputable def wJ(K:Fg)(F:Hp):List (D×D)->List (NK×V×V)->Prop
 | [],vs=>vs=[]
 | (k,d)::ds,vs=>∃q u v r,vs=(q,u,v)::r/\nkD k=some q/\q.dep<=8/\Rep K F k u/\Rep K F d v/\wJ K F ds r
end
theorem aX.rd(e:aX F F')(h:Rd F a u):Rd F' a u:=by
 rcases h with h|⟨o,h⟩
 ·exact .inl<|e _ _ h
 ·exact .inr ⟨o,e _ _ h⟩
theorem aX.tupK{K:Fg}(e:aX F F')(h:qe K F a xs):qe K F' a xs:=by
 rcases h with h|h
 ·exact .inl<|aX.rd e h
 ·exact .inr h
mutual
theorem Rep.mono{K:Fg}{F F':Hp}(e:aX F F'):∀(d:D) (v:V),Rep K F d v->Rep K F' d v
 | .non,_,h=>h
 | .bl _,_,h=>h
 | .int _,_,h=>h
 | .str _,_,h=>h
 | .tup xs,v,h=>by
  obtain⟨z,a,vs,rfl,h1,h2⟩:=h;exact⟨z,a,vs,rfl,aX.tupK e h1,cD.mono e xs vs h2⟩
 | .lst xs,v,h=>by
  obtain⟨z,a,vs,rfl,h1,h2⟩:=h;exact⟨z,a,vs,rfl,e _ _ h1,cD.mono e xs vs h2⟩
 | .arr xs,v,h=>by
  obtain⟨z,a,vs,rfl,h1,h2⟩:=h;exact⟨z,a,vs,rfl,e.seq h1,cD.mono e xs vs h2⟩
 | .dct kvs,v,h=>by
  obtain⟨z,a,ks,rfl,h1,h2⟩:=h;exact⟨z,a,ks,rfl,aX.rd e h1,gh.mono e kvs ks h2⟩
 | .G8 kvs,v,h=>by
  obtain⟨z,a,ks,rfl,h1,h2⟩:=h;exact⟨z,a,ks,rfl,aX.rd e h1,wJ.mono e kvs ks h2⟩
 | .clo st ds,v,h=>by
  obtain⟨a,vs,rfl,h1,h2⟩:=h;exact⟨a,vs,rfl,aX.clo e h1,cD.mono e ds vs h2⟩
theorem cD.mono{K:Fg}{F F':Hp}(e:aX F F'):∀(ds:List D) (vs:List V),cD K F ds vs->cD K F' ds vs
 | [],_,h=>h
 | d::ds,vs,h=>by
  obtain⟨v,r,rfl,h1,h2⟩:=h;exact⟨v,r,rfl,Rep.mono e d v h1,cD.mono e ds r h2⟩
theorem gh.mono{K:Fg}{F F':Hp}(e:aX F F'):∀(ds:List (D×D)) (vs:List (Key×V)),gh K F ds vs->gh K F' ds vs
 | [],_,h=>h
 | (k,d)::ds,vs,h=>by
  obtain⟨q,v,r,rfl,h0,h1,h2⟩:=h;exact⟨q,v,r,rfl,h0,Rep.mono e d v h1,gh.mono e ds r h2⟩
theorem wJ.mono{K:Fg}{F F':Hp}(e:aX F F'):∀(ds:List (D×D)) (vs:List (NK×V×V)),wJ K F ds vs->wJ K F' ds vs
 | [],_,h=>h
 | (k,d)::ds,vs,h=>by
  obtain⟨q,u,v,r,rfl,h0,h3,h4,h1,h2⟩:=h;exact⟨q,u,v,r,rfl,h0,h3,Rep.mono e k u h4,Rep.mono e d v h1,wJ.mono e ds r h2⟩
end
theorem cD.length{K:Fg}:∀{ds} {vs},cD K F ds vs->vs.length=ds.length
 | [],_,h=>by cases h;rfl
 | d::ds,vs,h=>by
  obtain⟨v,r,rfl,_,h2⟩:=h;rw[Qqv,Qqv,h2.length]
theorem cD.get{K:Fg}:∀{ds} {vs} {i:Nat} {d},cD K F ds vs->ds[i]? = some d->∃v,vs[i]? = some v/\Rep K F d v
 | [],_,_,_,_,e=>by simp at e
 | c::ds,vs,i,d,h,e=>by
  obtain⟨v,r,rfl,h1,h2⟩:=h;cases i with
  | zero=>simp_all
  | succ i=>obtain⟨u,e1,e2⟩:=cD.get h2 (by simpa using e);exact⟨u,by simpa using e1,e2⟩
theorem cD.append{K:Fg}:∀{ds es} {vs ws},cD K F ds vs->cD K F es ws->cD K F (ds++es) (vs++ws)
 | [],es,vs,ws,h,g=>by cases h;exact g
 | d::ds,es,vs,ws,h,g=>by
  obtain⟨v,r,rfl,h1,h2⟩:=h;exact⟨v,r++ws,rfl,h1,cD.append h2 g⟩
theorem cD.drop{K:Fg}:∀n {ds} {vs},cD K F ds vs->cD K F (ds.drop n) (vs.drop n)
 | 0,_,_,h=>h
 | _+1,[],_,h=>by cases h;exact rfl
 | n+1,d::ds,vs,h=>by
  obtain⟨v,r,rfl,_,h2⟩:=h;exact cD.drop n h2
theorem cD.take{K:Fg}:∀n {ds} {vs},cD K F ds vs->cD K F (ds.take n) (vs.take n)
 | 0,_,_,_=>rfl
 | _+1,[],_,h=>by cases h;exact rfl
 | n+1,d::ds,vs,h=>by
  obtain⟨v,r,rfl,h1,h2⟩:=h;exact⟨v,r.take n,rfl,h1,cD.take n h2⟩
theorem cD.set{K:Fg}(hd:Rep K F d v):∀i {ds} {vs},cD K F ds vs->cD K F (ds.set i d) (vs.set i v)
 | _,[],_,h=>by cases h;exact rfl
 | 0,c::ds,vs,h=>by
  obtain⟨u,r,rfl,_,h2⟩:=h;exact⟨v,r,rfl,hd,h2⟩
 | i+1,c::ds,vs,h=>by
  obtain⟨u,r,rfl,h1,h2⟩:=h;exact⟨u,r.set i v,rfl,h1,cD.set hd i h2⟩
theorem cD.one{K:Fg}(h:Rep K F d v):cD K F [d] [v]:=⟨v,[],rfl,h,rfl⟩
abbrev Env:=List (Option (Bool×D))
inductive R (α:Type) where
 | ok (a:α) (env:Env)
 | stuck
abbrev Ev:=Env->R D
abbrev gR:=Env->R Bool
abbrev d7:=Env->R (List D)
structure Cfg where
 K:Fg
 fx:Nat->Option Addr
def qt(K:Fg)(F H:Hp):D->Addr->Prop
 | .lst xs,a=>xs.length<=sizeLine/\∃vs,H a=some (.lst vs)/\cD K F xs vs
 | .dct kvs,a=>kvs.length<=sizeLine/\∃ks,H a=some (.dK ks)/\gh K F kvs ks
 | .G8 kvs,a=>kvs.length<=sizeLine/\∃ks,H a=some (.dN ks)/\wJ K F kvs ks
 | _,_=>False
theorem qt.mono{K:Fg}(e:aX F F')(k:H' a=H a)(h:qt K F H d a):qt K F' H' d a:=by
 cases d with
 | lst xs=>obtain⟨z,vs,h1,h2⟩:=h;exact⟨z,vs,k.trans h1,cD.mono e _ _ h2⟩
 | dct kvs=>obtain⟨z,ks,h1,h2⟩:=h;exact⟨z,ks,k.trans h1,gh.mono e _ _ h2⟩
 | G8 kvs=>obtain⟨z,ks,h1,h2⟩:=h;exact⟨z,ks,k.trans h1,wJ.mono e _ _ h2⟩
 | _=>exact h
theorem qt.some{K:Fg}(h:qt K F H d a):∃o,H a=some o:=by
 cases d with
 | lst xs=>obtain⟨z,vs,h1,h2⟩:=h;exact⟨_,h1⟩
 | dct kvs=>obtain⟨z,ks,h1,h2⟩:=h;exact⟨_,h1⟩
 | G8 kvs=>obtain⟨z,ks,h1,h2⟩:=h;exact⟨_,h1⟩
 | _=>exact h.elim
def lX(K:Fg)(F H:Hp)(d:D)(v:V):Prop:=Rep K F d v\/∃a,v = .ref a/\qt K F H d a
theorem lX.rep{K:Fg}(s:aX F H)(h:lX K F H d v):Rep K H d v:=by
 rcases h with h|⟨a,rfl,h⟩
 ·exact Rep.mono s d v h
 ·cases d with
  | lst xs=>obtain⟨z,vs,h1,h2⟩:=h;exact⟨z,a,vs,rfl,h1,cD.mono s _ _ h2⟩
  | dct kvs=>obtain⟨z,ks,h1,h2⟩:=h;exact⟨z,a,ks,rfl,.inl h1,gh.mono s _ _ h2⟩
  | G8 kvs=>obtain⟨z,ks,h1,h2⟩:=h;exact⟨z,a,ks,rfl,.inl h1,wJ.mono s _ _ h2⟩
  | _=>exact h.elim
theorem lX.lst{K:Fg}(s:aX F H)(h:lX K F H (.lst xs) v):xs.length<=sizeLine/\∃a vs,v = .ref a/\H a=some (.lst vs)/\cD K F xs vs:=by
 rcases h with ⟨z,a,vs,rfl,h1,h2⟩|⟨a,rfl,z,vs,h1,h2⟩
 ·exact⟨z,a,vs,rfl,s _ _ h1,h2⟩
 ·exact⟨z,a,vs,rfl,h1,h2⟩
theorem lX.arr{K:Fg}(s:aX F H)(h:lX K F H (.arr xs) v):xs.length<=sizeLine/\∃a vs,v = .ref a/\uR K H a vs/\cD K F xs vs:=by
 rcases h with ⟨z,a,vs,rfl,h1,h2⟩|⟨a,rfl,h⟩
 ·exact⟨z,a,vs,rfl,s.seq h1,h2⟩
 ·exact h.elim
theorem lX.tup{K:Fg}(s:aX F H)(h:lX K F H (.tup xs) v):xs.length<=sizeLine/\∃a vs,v = .ref a/\qe K H a vs/\qe K F a vs/\cD K F xs vs:=by
 rcases h with ⟨z,a,vs,rfl,h1,h2⟩|⟨a,rfl,h⟩
 ·exact⟨z,a,vs,rfl,aX.tupK s h1,h1,h2⟩
 ·exact h.elim
theorem lX.int{K:Fg}(h:lX K F H (.int i) v):v = .int i:=by
 rcases h with h|⟨a,rfl,h⟩
 ·exact h
 ·exact h.elim
theorem lX.bl{K:Fg}(h:lX K F H (.bl i) v):v = .bl i:=by
 rcases h with h|⟨a,rfl,h⟩
 ·exact h
 ·exact h.elim
theorem lX.non{K:Fg}(h:lX K F H .non v):v = .non:=by
 rcases h with h|⟨a,rfl,h⟩
 ·exact h
 ·exact h.elim
theorem lX.str{K:Fg}(h:lX K F H (.str x) v):v = .str (strOf x)/\x.length<=sizeLine:=by
 rcases h with h|⟨a,rfl,h⟩
 ·exact h
 ·exact h.elim
structure Rel(C:Cfg)(Pr F:Hp)(env:Env)(σ:L2.St)(H:Hp):Prop where
 pr:aX Pr H
 fr:aX F H
 len:env.length=σ.length
 val:∀(i:Nat) (d:D),env[i]? = some (some (false,d))->∃v,σ[i]? = some (some v)/\Rep C.K F d v
 own:∀(i:Nat) (d:D),env[i]? = some (some (true,d))->∃a,σ[i]? = some (some (V.ref a))/\qt C.K F H d a/\F a=none/\Pr a=none
 apart:∀(i j:Nat) (d e:D) (a:Addr),env[i]? = some (some (true,d))->env[j]? = some (some (true,e))->σ[i]? = some (some (V.ref a))->σ[j]? = some (some (V.ref a))->i=j
 dj:∀b o,F b=some o->Pr b=none
 fix:∀i a,C.fx i=some a->σ[i]? = some (some (V.ref a))
theorem qg(h:H a=none):aX H (upd H a o):=λb u e=>by
 rw[bT (dR e h)];exact e
theorem Rel.new(r:Rel C Pr F env σ H)(h:H a=none):Rel C Pr (upd F a o) env σ (upd H a o)/\aX F (upd F a o):=by
 have hF:=r.fr.free h;have s1:aX F (upd F a o):=qg hF;refine⟨⟨r.pr.trans<|qg h,λb u e=>?_,r.len,λi d e1=>?_,λi d e1=>?_,r.apart,λb u e=>?_,r.fix⟩,s1⟩
 ·by_cases hb:b=a
  ·subst hb;rw[bz] at e ⊢;exact e
  ·rw[bT hb] at e ⊢;exact r.fr b u e
 ·obtain⟨v,h1,h2⟩:=r.val i d e1;exact⟨v,h1,Rep.mono s1 d v h2⟩
 ·obtain⟨b,h1,h2,h3,h4⟩:=r.own i d e1;obtain⟨u,hu⟩:=h2.some;have hb:=dR hu h;exact⟨b,h1,h2.mono s1<|bT hb,by rw[bT hb];exact h3,h4⟩
 ·by_cases hb:b=a
  ·subst hb;exact r.pr.free h
  ·rw[bT hb] at e;exact r.dj b u e
theorem Rel.fresh(r:Rel C Pr F env σ H)(h:H a=none):Rel C Pr F env σ (upd H a o):=by refine⟨r.pr.trans<|qg h,r.fr.trans<|qg h,r.len,r.val,λi d e1=>?_,r.apart,r.dj,r.fix⟩;obtain⟨b,h1,h2,h3,h4⟩:=r.own i d e1;obtain⟨u,hu⟩:=h2.some;have hb:=dR hu h;exact⟨b,h1,h2.mono (aX.refl F)<|bT hb,h3,h4⟩
theorem Rel.aside(r:Rel C Pr F env σ H)(h:H a=none):Rel C (upd Pr a o) F env σ (upd H a o):=by
 have r':=r.fresh (o:=o) h;have hF:=r.fr.free h;refine⟨λb u e=>?_,r'.fr,r.len,r.val,λi d e1=>?_,r.apart,λb u e=>?_,r.fix⟩
 ·by_cases hb:b=a
  ·subst hb;rw[bz] at e ⊢;exact e
  ·rw[bT hb] at e ⊢;exact r.pr b u e
 ·obtain⟨b,h1,h2,h3,h4⟩:=r'.own i d e1;obtain⟨b',h1',h2',_⟩:=r.own i d e1;rw[h1] at h1';cases h1';obtain⟨u,hu⟩:=h2'.some;have hb:=dR hu h;exact⟨b,h1,h2,h3,by rw[bT hb];exact h4⟩
 ·have hb:b≠a:=λz=>by simp_all
  rw[bT hb];exact r.dj b u e
theorem Rel.turn(r:Rel C Pr F env σ H)(h:Pr a=some o):Rel C (upd Pr a u) F env σ (upd H a u):=by
 have hF:F a=none:=by
  cases e:F a with
  | none=>rfl
  | some w=>have:=r.dj a w e;rw[h] at this;cases this
 refine⟨λb w e=>?_,λb w e=>?_,r.len,r.val,λi d e1=>?_,r.apart,λb w e=>?_,r.fix⟩
 ·by_cases hb:b=a
  ·subst hb;rw[bz] at e ⊢;exact e
  ·rw[bT hb] at e ⊢;exact r.pr b w e
 ·have hb:b≠a:=λz=>by simp_all
  rw[bT hb];exact r.fr b w e
 ·obtain⟨b,h1,h2,h3,h4⟩:=r.own i d e1;have hb:b≠a:=λz=>by simp_all
  exact⟨b,h1,h2.mono (aX.refl F)<|bT hb,h3,by rw[bT hb];exact h4⟩
 ·have hb:b≠a:=λz=>by simp_all
  rw[bT hb];exact r.dj b w e
theorem Rel.less(r:Rel C Pr F env σ H)(s:aX yE Pr):Rel C yE F env σ H:=
 ⟨s.trans r.pr,r.fr,r.len,r.val,λi d e=>let ⟨b,h1,h2,h3,h4⟩:=r.own i d e;⟨b,h1,h2,h3,s.free h4⟩,r.apart,λb o e=>s.free<|r.dj b o e,r.fix⟩
theorem Rel.freeze(r:Rel C Pr F env σ H)(h:env[i]? = some (some (true,d))) :
  ∃F' v,Rel C Pr F' (env.set i (some (false,d))) σ H/\aX F F'/\σ[i]? = some (some v)/\Rep C.K F' d v:=by
 obtain⟨a,h1,h2,h3,h4⟩:=r.own i d h;obtain⟨o,ho⟩:=h2.some;have s1:aX F (upd F a o):=qg h3;have hi:=(Qq9.mp h).1;have rep:Rep C.K (upd F a o) d (.ref a):=by
  cases d with
  | lst xs=>obtain⟨z,vs,g1,g2⟩:=h2;rw[ho] at g1;cases g1;exact⟨z,a,vs,rfl,bz,cD.mono s1 _ _ g2⟩
  | dct kvs=>obtain⟨z,ks,g1,g2⟩:=h2;rw[ho] at g1;cases g1;exact⟨z,a,ks,rfl,.inl bz,gh.mono s1 _ _ g2⟩
  | G8 kvs=>obtain⟨z,ks,g1,g2⟩:=h2;rw[ho] at g1;cases g1;exact⟨z,a,ks,rfl,.inl bz,wJ.mono s1 _ _ g2⟩
  | _=>exact h2.elim
 refine⟨upd F a o,.ref a,⟨r.pr,λb u e=>?_,by rw[Qx2];exact r.len,λj e he=>?_,λj e he=>?_,λj k e f b hj hk g1 g2=>?_,λb u e=>?_,r.fix⟩,s1,h1,rep⟩
 ·by_cases hb:b=a
  ·subst hb;rw[bz] at e;cases e;exact ho
  ·rw[bT hb] at e;exact r.fr b u e
 ·by_cases hj:j=i
  ·simp_all
  ·rw[Qq5 (Ne.symm hj)] at he;obtain⟨v,g1,g2⟩:=r.val j e he;exact⟨v,g1,Rep.mono s1 e v g2⟩
 ·by_cases hj:j=i
  ·simp_all
  ·rw[Qq5 (Ne.symm hj)] at he;obtain⟨b,g1,g2,g3,g4⟩:=r.own j e he;have hb:b≠a:=λz=>hj<|r.apart j i e d a he h (by simp_all) h1;exact⟨b,g1,g2.mono s1 rfl,by rw[bT hb];exact g3,g4⟩
 ·have nj:j≠i:=λz=>by simp_all
  have nk:k≠i:=λz=>by simp_all
  rw[Qq5 (Ne.symm nj)] at hj;rw[Qq5 (Ne.symm nk)] at hk;exact r.apart j k e f b hj hk g1 g2
 ·by_cases hb:b=a
  ·simp_all
  ·rw[bT hb] at e;exact r.dj b u e
inductive tE (C:Cfg) (ev:Ev) (σ:L2.St) (H:Hp) (Q:L2.VK):Prop
 | mk (Pr F:Hp) (env env':Env) (d:D) (_:Rel C Pr F env σ H) (_:ev env = .ok d env') (_:∀v H' F',Rel C Pr F' env' σ H'->aX F F'->Rep C.K F' d v->Q v H'):tE C ev σ H Q
inductive tRd (C:Cfg) (ev:Ev) (σ:L2.St) (H:Hp) (Q:L2.VK):Prop
 | mk (Pr F:Hp) (env env':Env) (d:D) (_:Rel C Pr F env σ H) (_:ev env = .ok d env') (_:∀v H' F',Rel C Pr F' env' σ H'->aX F F'->lX C.K F' H' d v->Q v H'):tRd C ev σ H Q
inductive tT (C:Cfg) (ev:gR) (σ:L2.St) (H:Hp) (Q:Bool->Hp->Prop):Prop
 | mk (Pr F:Hp) (env env':Env) (b:Bool) (_:Rel C Pr F env σ H) (_:ev env = .ok b env') (_:∀H' F',Rel C Pr F' env' σ H'->aX F F'->Q b H'):tT C ev σ H Q
inductive tA (C:Cfg) (ev:d7) (σ:L2.St) (H:Hp) (Q:List L2.V->Hp->Prop):Prop
 | mk (Pr F:Hp) (env env':Env) (ds:List D) (_:Rel C Pr F env σ H) (_:ev env = .ok ds env') (_:∀vs H' F',Rel C Pr F' env' σ H'->aX F F'->cD C.K F' ds vs->Q vs H'):tA C ev σ H Q
def PX(X:Cx)(C:Cfg)(e:Expr)(ev:Ev):Prop:=PE X e (tE C ev)
def PXB(X:Cx)(C:Cfg)(e:Expr)(ev:Ev):Prop:=PE X e (tRd C ev)
def PXT(X:Cx)(C:Cfg)(e:Expr)(ev:gR):Prop:=PT X e (tT C ev)
def PXA(X:Cx)(C:Cfg)(es:List Expr)(ev:d7):Prop:=PA X es (tA C ev)
theorem _root_.L2.PE.imp{X:Cx}{e:Expr}{t t':TE}(h:PE X e t)(i:∀σ H Q,t' σ H Q->t σ H Q):PE X e t':=λpins s σ H Q I q=>h pins s σ H Q I<|i σ H Q q
theorem _root_.L2.PT.imp{X:Cx}{e:Expr}{t t':TT}(h:PT X e t)(i:∀σ H Q,t' σ H Q->t σ H Q):PT X e t':=λpins s σ H Q I q=>h pins s σ H Q I<|i σ H Q q
theorem _root_.L2.PW.imp{X:Cx}{e:Expr}{t t':TT}(h:PW X e t)(i:∀σ H Q,t' σ H Q->t σ H Q):PW X e t':=λwhole pins s σ H Q I q=>h whole pins s σ H Q I<|i σ H Q q
theorem _root_.L2.PA.imp{X:Cx}{e:List Expr}{t t':TA}(h:PA X e t)(i:∀σ H Q,t' σ H Q->t σ H Q):PA X e t':=λpos pins s σ H Q I q=>h pos pins s σ H Q I<|i σ H Q q
theorem _root_.L2.PS.imp{X:Cx}{e:Stmt}{t t':TS}(h:PS X e t)(i:∀D σ H,t' D σ H->t D σ H):PS X e t':=λpins s σ H D I q=>h pins s σ H D I<|i D σ H q
theorem _root_.L2.Xx.imp{X:Cx}{e:List Stmt}{t t':TS}(h:Xx X e t)(i:∀D σ H,t' D σ H->t D σ H):Xx X e t':=λpins s σ H D I q=>h pins s σ H D I<|i D σ H q
noncomputable def bindR{α β:Type}(x:R α)(f:α->Env->R β):R β:=match x with
 | .ok a env=>f a env
 | .stuck=>.stuck
noncomputable def fX{α:Type}(o:Option α)(env:Env):R α:=match o with
 | some a=>.ok a env
 | none=>.stuck
theorem bj{α β:Type}{x:R α}{f:α->Env->R β}{b:β}(h:bindR x f = .ok b env'):∃a aO,x = .ok a aO/\f a aO = .ok b env':=by
 cases x with
 | ok a aO=>exact⟨a,aO,rfl,h⟩
 | stuck=>cases h
theorem eY{α:Type}{o:Option α}{a:α}(h:fX o env = .ok a env'):o=some a/\env'=env:=by
 cases o with
 | some b=>cases h;exact⟨rfl,rfl⟩
 | none=>cases h
section
variable{X:Cx}{C:Cfg}{pos:Pos}
noncomputable def aJ(i:Nat):Ev:=λenv=>match env[i]? with
 | some (some (false,d))=>.ok d env
 | some (some (true,d))=>.ok d (env.set i (some (false,d)))
 | _=>.stuck
theorem al7(i)(hN:X.N[i]? = some x)(hv:Hg X.env.scope x)(hd:qx x:=by decide)(hcd:Bt x:=by decide):PX X C (.Name x pos) (aJ i):=by
 refine(lH hN hv hd hcd).imp λσ H Q h=>?_;obtain⟨Pr,F,env,env',d,r,e,q⟩:=h;unfold aJ at e;split at e
 ·rename_i d' hd';cases e;obtain⟨v,h1,h2⟩:=r.val i d hd';exact⟨v,h1,q v H F r (aX.refl F) h2⟩
 ·rename_i d' hd';cases e;obtain⟨F',v,r',s',h1,h2⟩:=r.freeze hd';exact⟨v,h1,q v H F' r' s' h2⟩
 ·cases e
theorem PX.b(h:PX X C e ev):PXB X C e ev:=PE.imp h λσ H Q hq=>by
 obtain⟨Pr,F,env,env',d,r,e,q⟩:=hq;exact⟨Pr,F,env,env',d,r,e,λv H' F' r' s' p'=>q v H' F' r' s'<|.inl p'⟩
noncomputable def bI(i:Nat):Ev:=λenv=>match env[i]? with
 | some (some (_,d))=>.ok d env
 | _=>.stuck
theorem Rel.rd(r:Rel C Pr F env σ H){i:Nat}(h:env[i]? = some (some (o,d))):∃v,σ[i]? = some (some v)/\lX C.K F H d v:=by
 cases o with
 | true=>obtain⟨a,h1,h2,_⟩:=r.own i d h;exact⟨_,h1,.inr ⟨a,rfl,h2⟩⟩
 | false=>obtain⟨v,h1,h2⟩:=r.val i d h;exact⟨v,h1,.inl h2⟩
theorem aif(i)(hN:X.N[i]? = some x)(hv:Hg X.env.scope x)(hd:qx x:=by decide)(hcd:Bt x:=by decide):PXB X C (.Name x pos) (bI i):=by
 refine(lH hN hv hd hcd).imp λσ H Q h=>?_;obtain⟨Pr,F,env,env',d,r,e,q⟩:=h;unfold bI at e;split at e
 ·rename_i o' d' hd';cases e;obtain⟨v,h1,h2⟩:=r.rd hd';exact⟨v,h1,q v H F r (aX.refl F) h2⟩
 ·cases e
noncomputable def iB(d:D):Ev:=λenv=>.ok d env
theorem amc:PX X C (.Constant (.int i) j pos) (iB (.int i)):=aeQ.imp λσ H Q h=>by
 obtain⟨Pr,F,env,env',d,r,e,q⟩:=h;cases e;exact q _ _ F r (aX.refl F) rfl
theorem aqx:PX X C (.Constant (.bool b) j pos) (iB (.bl b)):=aqF.imp λσ H Q h=>by
 obtain⟨Pr,F,env,env',d,r,e,q⟩:=h;cases e;exact q _ _ F r (aX.refl F) rfl
theorem ama:PX X C (.Constant .none j pos) (iB .non):=amt.imp λσ H Q h=>by
 obtain⟨Pr,F,env,env',d,r,e,q⟩:=h;cases e;exact q _ _ F r (aX.refl F) rfl
noncomputable def ao:d7:=λenv=>.ok [] env
def aa(a:Ev)(r:d7):d7:=λenv=>bindR (a env) λd aO=>bindR (r aO) λds fP=>.ok (d::ds) fP
theorem aaH:PXA X C [] ao:=xu.imp λσ H Q h=>by
 obtain⟨Pr,F,env,env',d,r,e,q⟩:=h;cases e;exact q _ _ F r (aX.refl F) rfl
theorem V3(ha:PX X C e a)(hr:PXA X C es r)(hs:starEach (e::es) X.env=(false,eval e X.env)::starEach es X.env:=by rfl):PXA X C (e::es) (aa a r):=
 (jj ha hr hs).imp λσ H Q h=>by
  obtain⟨Pr,F,env,env',ds,rl,e,q⟩:=h;obtain⟨d1,aO,e1,e2⟩:=bj e;obtain⟨ds2,fP,e3,e4⟩:=bj e2;cases e4;refine⟨Pr,F,env,aO,d1,rl,e1,λv H1 F1 r1 s1 p1=>?_⟩;refine⟨Pr,F1,aO,env',ds2,r1,e3,λvs H2 F2 r2 s2 p2=>?_⟩;exact q _ H2 F2 r2 (s1.trans s2) ⟨v,vs,rfl,Rep.mono s2 d1 v p1,p2⟩
def aF(r:d7):Ev:=λenv=>bindR (r env) λds aO=>if ds.length<=sizeLine then .ok (.tup ds) aO else .stuck
def cC(r:d7):Ev:=λenv=>bindR (r env) λds aO=>if ds.length<=sizeLine then .ok (.lst ds) aO else .stuck
def aP(g:D->D->Option D)(a b:Ev):Ev:=λenv=>bindR (a env) λx aO=>bindR (b aO) λy fP=>fX (g x y) fP
def gH(g:D->Option D)(a:Ev):Ev:=λenv=>bindR (a env) λx aO=>fX (g x) aO
def uC(C:Cfg)(r:R2)(g:D->D->Option D):Prop:=∀(Pr F:Hp) (env:Env) (σ:L2.St) (H:Hp) (x y d:D) (vx vy:V) (Q:VK),Rel C Pr F env σ H->lX C.K F H x vx->lX C.K F H y vy->g x y=some d->
 (∀v H' F',Rel C Pr F' env σ H'->aX F F'->Rep C.K F' d v->Q v H')->r vx vy H Q
def UnD(C:Cfg)(r:V->Hp->VK->Prop)(g:D->Option D):Prop:=∀(Pr F:Hp) (env:Env) (σ:L2.St) (H:Hp) (x d:D) (vx:V) (Q:VK),Rel C Pr F env σ H->lX C.K F H x vx->g x=some d->
 (∀v H' F',Rel C Pr F' env σ H'->aX F F'->Rep C.K F' d v->Q v H')->r vx H Q
theorem Uv(o:uC C r g)(σ)(H)(Q)(h:tE C (aP g a b) σ H Q):tOp r (tE C a) (tRd C b) σ H Q:=by obtain⟨Pr,F,env,env',d,rl,e,q⟩:=h;obtain⟨x,aO,e1,e2⟩:=bj e;obtain⟨y,fP,e3,e4⟩:=bj e2;obtain⟨e5,rfl⟩:=eY e4;refine⟨Pr,F,env,aO,x,rl,e1,λvx H1 F1 r1 s1 p1=>⟨Pr,F1,aO,env',y,r1,e3,λvy H2 F2 r2 s2 p2=>?_⟩⟩;exact o Pr F2 env' σ H2 x y d vx vy Q r2 (.inl<|Rep.mono s2 x vx p1) p2 e5 λv H3 F3 r3 s3 p3=>q v H3 F3 r3 ((s1.trans s2).trans s3) p3
def aA(g:D->D->Option D)(i:Nat)(b:Ev):Ev:=λenv=>match env[i]? with
 | some (some (_,_))=>bindR (b env) λy fP=>(match fP[i]? with
  | some (some (_,x))=>fX (g x y) fP
  | _=>.stuck)
 | _=>.stuck
theorem CP(o:uC C r g)(σ)(H)(Q)(h:tE C (aA g i b) σ H Q):tOp r (adX i) (tRd C b) σ H Q:=by
 obtain⟨Pr,F,env,env',d,rl,e,q⟩:=h;unfold aA at e;split at e
 ·rename_i o0 d0 h0;obtain⟨v,hv,_⟩:=rl.rd h0;obtain⟨y,fP,e1,e2⟩:=bj e;split at e2
  ·rename_i o2 x h2;obtain⟨e5,rfl⟩:=eY e2;refine⟨v,hv,Pr,F,env,env',y,rl,e1,λvy H2 F2 r2 s2 p2=>?_⟩;obtain⟨v',hv',p⟩:=r2.rd h2;rw[hv] at hv';cases hv';exact o Pr F2 env' σ H2 x y d v vy Q r2 p p2 e5 λv H3 F3 r3 s3 p3=>q v H3 F3 r3 (s2.trans s3) p3
  ·cases e2
 ·cases e
theorem aqu(ho:qu X (binaryOp op) r)(o:uC C r g)(ha:PX X C x a)(hb:PXB X C y b):PX X C (.BinOp x op y pos) (aP g a b):=
 (aeP ho ha hb).imp (Uv o)
theorem al9{px:Pos}(i)(hN:X.N[i]? = some x)(hv:Hg X.env.scope x)(ho:qu X (binaryOp op) r)(o:uC C r g)(hb:PXB X C y b)
  (hd:qx x:=by decide) (hcd:Bt x:=by decide):PX X C (.BinOp (.Name x px) op y pos) (aA g i b):=
 (aeP ho (lH hN hv hd hcd) hb).imp (CP o)
theorem amd(ho:qu X (compareOp op) r)(o:uC C r g)(ha:PX X C x a)(hb:PXB X C y b)(hm:behindInMarks op y=false):PX X C (.Compare x [op] [y] pos) (aP g a b):=
 (aaK ho ha hb hm).imp (Uv o)
theorem aqs(ho:UnR X (unaryOp op) r)(o:UnD C r g)(ha:PX X C x a):PX X C (.UnaryOp op x pos) (gH g a):=
 (akN ho ha).imp λσ H Q h=>by
  obtain⟨Pr,F,env,env',d,rl,e,q⟩:=h;obtain⟨x,aO,e1,e2⟩:=bj e;obtain⟨e3,rfl⟩:=eY e2;exact⟨Pr,F,env,env',x,rl,e1,λvx H1 F1 r1 s1 p1=>o Pr F1 env' σ H1 x d vx Q r1 (.inl p1) e3 λv H3 F3 r3 s3 p3=>q v H3 F3 r3 (s1.trans s3) p3⟩
def eN(a:Ev):gR:=λenv=>bindR (a env) λd aO=>match d with
 | .bl b=>.ok b aO
 | _=>.stuck
theorem Vv(h:tT C (eN a) σ H Q):tE C a σ H λx H'=>∃k,x = .bl k/\Q k H':=by
 obtain⟨Pr,F,env,env',b,rl,e,q⟩:=h;obtain⟨d,aO,e1,e2⟩:=bj e;refine⟨Pr,F,env,aO,d,rl,e1,λv H1 F1 r1 s1 p1=>?_⟩;cases d with
 | bl c=>cases e2;exact⟨_,p1,q H1 F1 r1 s1⟩
 | _=>cases e2
theorem ah6(ho:qu X (compareOp op) r)(o:uC C r g)(ha:PX X C x a)(hb:PXB X C y b)(hm:behindInMarks op y=false):PXT X C (.Compare x [op] [y] pos) (eN (aP g a b)):=
 (aaI ho ha hb hm).imp λσ H Q h=>by
  have h1:=Vv h;exact Uv o σ H _ h1
def eU(a:gR):gR:=λenv=>bindR (a env) λb aO=>.ok (!b) aO
def gF(a b:gR):gR:=λenv=>bindR (a env) λc aO=>if c=true then b aO else .ok false aO
def lF(a b:gR):gR:=λenv=>bindR (a env) λc aO=>if c=true then .ok true aO else b aO
def PXW(X:Cx)(C:Cfg)(e:Expr)(ev:gR):Prop:=PW X e (tT C ev)
theorem PXW.pt(h:PXW X C e a):PXT X C e a:=PW.pt h
def gf(a b:Ev):Ev:=λenv=>bindR (a env) λc aO=>match c with
 | .bl true=>b aO
 | .bl false=>.ok (.bl false) aO
 | _=>.stuck
def acP(a b:Ev):Ev:=λenv=>bindR (a env) λc aO=>match c with
 | .bl true=>.ok (.bl true) aO
 | .bl false=>b aO
 | _=>.stuck
def age(a:Ev):Ev:=λenv=>bindR (a env) λc aO=>match c with
 | .bl b=>.ok (.bl (!b)) aO
 | _=>.stuck
def auX(t:gR)(a b:Ev):Ev:=λenv=>bindR (t env) λc aO=>if c=true then a aO else b aO
end
noncomputable def Jb(f:D->D->Option Bool):List D->List D->Option Bool
 | [],[]=>some true
 | x::xs,y::ys=>match f x y,Jb f xs ys with
  | some a,some b=>some (a&&b)
  | _,_=>none
 | [],_::_=>some false
 | _::_,[]=>some false
noncomputable def od:D->Option Bool
 | .dct _=>none
 | .G8 _=>none
 | .clo _ _=>none
 | .arr _=>none
 | _=>some false
noncomputable def jJ:Nat->D->D->Option Bool
 | 0,_,_=>none
 | n+1,d,e=>match d with
  | .tup xs=>match e with|.tup ys=>Jb (jJ n) xs ys|_=>od e
  | .lst xs=>match e with|.lst ys=>Jb (jJ n) xs ys|_=>od e
  | .non=>match e with|.non=>some true|_=>od e
  | .bl a=>match e with|.bl b=>some (a == b)|.int b=>some ((if a then 1 else 0) == b)|_=>od e
  | .int a=>match e with|.bl b=>some (a == (if b then 1 else 0))|.int b=>some (a == b)|_=>od e
  | .str a=>match e with|.str b=>some (a == b)|_=>od e
  | _=>none
mutual
noncomputable def Sh(h:Heap):D->Value->Prop
 | .non,u=>u = .none
 | .bl b,u=>u = .bool b
 | .int i,u=>∃t,u = .int i t
 | .str x,u=>∃t,u = .str (strOf x) t
 | .tup xs,u=>∃a its,u = .ref a/\IsTup h a its.toArray/\Sg h xs its
 | .lst xs,u=>∃a its,u = .ref a/\PlainL h a its.toArray/\Sg h xs its
 | .arr xs,u=>∃a its,u = .ref a/\PlainL h a its.toArray/\Sg h xs its
 | .dct _,u=>∃a o,u = .ref a/\h.get? a=some o/\o.ExactDict
 | .G8 _,u=>∃a o,u = .ref a/\h.get? a=some o/\o.ExactDict
 | .clo _ _,u=>∃a,u = .ref a
noncomputable def Sg(h:Heap):List D->List Value->Prop
 | [],us=>us=[]
 | d::ds,us=>∃u r,us=u::r/\Sh h d u/\Sg h ds r
end
theorem Sg.length:∀{ds} {us},Sg h ds us->us.length=ds.length
 | [],_,e=>by cases e;rfl
 | d::ds,us,e=>by obtain⟨u,r,rfl,_,h2⟩:=e;rw[Qqv,Qqv,h2.length]
section
variable{X:Cx}{pins:List (Addr×Obj)}{σ:L2.St}{H:Hp}{s:Shared}
mutual
theorem Rep.sh(I:Inv X pins σ H s):∀(d:D) (v:V) (u:Value),Rep X.K H d v->RelV v u->Sh s.heap d u
 | .non,_,_,h,r=>by cases h;exact r
 | .bl _,_,_,h,r=>by cases h;exact r
 | .int _,_,_,h,r=>by cases h;exact r
 | .str _,_,_,h,r=>by obtain⟨h,_⟩:=h;cases h;exact r
 | .tup xs,v,u,h,r=>by
  obtain⟨z,a,vs,rfl,h1,h2⟩:=h;cases r;obtain⟨its,rv,p,_⟩:=I.tuple h1;exact⟨a,its,rfl,p,cD.sh I xs vs its h2 rv⟩
 | .lst xs,v,u,h,r=>by
  obtain⟨z,a,vs,rfl,h1,h2⟩:=h;cases r;obtain⟨its,rv,p,_⟩:=I.list (uR.of h1);exact⟨a,its,rfl,p,cD.sh I xs vs its h2 rv⟩
 | .arr xs,v,u,h,r=>by
  obtain⟨z,a,vs,rfl,h1,h2⟩:=h;cases r;obtain⟨its,rv,p,_⟩:=I.list h1;exact⟨a,its,rfl,p,cD.sh I xs vs its h2 rv⟩
 | .dct kvs,v,u,h,r=>by
  obtain⟨z,a,ks,rfl,h1,h2⟩:=h;cases r;obtain⟨_,_,vs,_,o,_,_,e,ex,_⟩:=h1.ok I.hok;exact⟨a,o,rfl,e,ex⟩
 | .G8 kvs,v,u,h,r=>by
  obtain⟨z,a,ks,rfl,h1,h2⟩:=h;cases r;obtain⟨_,_,vs,_,o,_,_,e,ex,_⟩:=h1.ok I.hok;exact⟨a,o,rfl,e,ex⟩
 | .clo st ds,v,u,h,r=>by
  obtain⟨a,vs,rfl,h1,h2⟩:=h;cases r;exact⟨a,rfl⟩
theorem cD.sh(I:Inv X pins σ H s):∀(ds:List D) (vs:List V) (us:List Value),cD X.K H ds vs->Vals vs us->Sg s.heap ds us
 | [],_,_,h,r=>by cases h;cases r;exact rfl
 | d::ds,vs,us,h,r=>by
  obtain⟨v,rr,rfl,h1,h2⟩:=h;cases r with
  | cons q qs=>exact⟨_,_,rfl,Rep.sh I d v _ h1 q,cD.sh I ds rr _ h2 qs⟩
end
end
theorem aay(p:IsTup h a xs)(q:IsTup h a ys):xs=ys:=by
 obtain⟨o,e,_,n,d⟩:=p;obtain⟨o',e',_,n',d'⟩:=q
 simp_all
theorem aaP(p:PlainL h a xs)(q:PlainL h a ys):xs=ys:=by
 obtain⟨o,e,_,n,d⟩:=p.isList;obtain⟨o',e',_,n',d'⟩:=q.isList
 simp_all
theorem J6(p:IsTup h a xs)(q:PlainL h a ys):False:=by
 obtain⟨o,e,c,n,d⟩:=p;obtain⟨o',e',c',n',d'⟩:=q.isList
 simp_all
theorem Xb:∀n d e u b,Sh h d u->Sh h e u->jJ n d e=some b->b=true
 | 0,_,_,_,_,_,_,hb=>by simp[jJ,od] at hb
 | n+1,d,e,u,b,hd,he,hb=>by
  have all:∀xs ys us b,Sg h xs us->Sg h ys us->Jb (jJ n) xs ys=some b->b=true:=by
   intro xs
   induction xs with
   | nil=>
    intro ys us b h1 h2 hb;cases h1;cases ys with
    | nil=>simp[Jb] at hb;exact hb
    | cons y ys=>obtain⟨u,r,q,_⟩:=h2;cases q
   | cons x xs ih=>
    intro ys us b h1 h2 hb;obtain⟨u,r,rfl,h3,h4⟩:=h1;cases ys with
    | nil=>cases h2
    | cons y ys=>
     obtain⟨u',r',q,h5,h6⟩:=h2;cases q;unfold Jb at hb;cases q1:jJ n x y with
     | none=>simp_all
     | some c=>
      cases q2:Jb (jJ n) xs ys with
      | none=>simp_all
      | some c'=>
       rw[q1,q2] at hb;have e1:=Xb n x y u c h3 h5 q1
       grind
  cases d with
  | non=>cases hd;cases e<;>simp[Sh] at he;simp[jJ,od] at hb;exact hb
  | bl c=>cases hd;cases e<;>simp[Sh] at he;subst he;simp[jJ,od] at hb;exact hb
  | int i=>obtain⟨t,rfl⟩:=hd;cases e<;>simp[Sh] at he;subst he;simp[jJ,od] at hb;exact hb
  | str x=>
   obtain⟨t,rfl⟩:=hd;cases e with
   | str y=>
    obtain⟨t',q⟩:=he;injection q with q1 _
    unfold strOf at q1;injection q1 with q2
    have q3:=Qx7 Array.toList q2;simp at q3;subst q3;simp[jJ,od] at hb;exact hb
   | _=>simp[Sh] at he
  | tup xs=>
   obtain⟨a,its,rfl,p,hs⟩:=hd;cases e with
   | tup ys=>
    obtain⟨a',its',q,p',hs'⟩:=he;cases q;have e2:its=its':=by simpa using aay p p'
    subst e2;exact all xs ys its b hs hs' (by assumption)
   | lst ys=>
    obtain⟨a',its',q,p',hs'⟩:=he;cases q;exact(J6 p p').elim
   | dct kvs=>simp[jJ,od] at hb
   | G8 kvs=>simp[jJ,od] at hb
   | clo _ _=>simp[jJ,od] at hb
   | arr kvs=>simp[jJ,od] at hb
   | _=>simp[Sh] at he
  | lst xs=>
   obtain⟨a,its,rfl,p,hs⟩:=hd;cases e with
   | lst ys=>
    obtain⟨a',its',q,p',hs'⟩:=he;cases q;have e2:its=its':=by simpa using aaP p p'
    subst e2;exact all xs ys its b hs hs' (by assumption)
   | tup ys=>
    obtain⟨a',its',q,p',hs'⟩:=he;cases q;exact(J6 p' p).elim
   | dct kvs=>simp[jJ,od] at hb
   | G8 kvs=>simp[jJ,od] at hb
   | clo _ _=>simp[jJ,od] at hb
   | arr kvs=>simp[jJ,od] at hb
   | _=>simp[Sh] at he
  | dct kvs=>cases e<;>simp[jJ,od] at hb
  | G8 kvs=>cases e<;>simp[jJ,od] at hb
  | clo _ _=>cases e<;>simp[jJ,od] at hb
  | arr kvs=>cases e<;>simp[jJ,od] at hb
theorem aa3:∀n d d' e u b b',Sh h d u->Sh h d' u->jJ n d e=some b->jJ n d' e=some b'->b=b'
 | 0,_,_,_,_,_,_,_,_,hb,_=>by simp[jJ,od] at hb
 | n+1,d,d',e,u,b,b',hd,hd',hb,hb'=>by
  have all:∀xs xs' ys us b b',Sg h xs us->Sg h xs' us->Jb (jJ n) xs ys=some b->Jb (jJ n) xs' ys=some b'->b=b':=by
   intro xs
   induction xs with
   | nil=>
    intro xs' ys us b b' h1 h2 hb hb';cases h1;cases xs' with
    | nil=>simp_all
    | cons y ys=>obtain⟨u,r,q,_⟩:=h2;cases q
   | cons x xs ih=>
    intro xs' ys us b b' h1 h2 hb hb';obtain⟨u,r,rfl,h3,h4⟩:=h1;cases xs' with
    | nil=>cases h2
    | cons x' xs'=>
     obtain⟨u',r',q,h5,h6⟩:=h2;cases q;cases ys with
     | nil=>simp[Jb] at hb hb';rw[hb,hb']
     | cons y ys=>
      unfold Jb at hb hb';cases q1:jJ n x y with
      | none=>simp_all
      | some c=>
       cases q2:Jb (jJ n) xs ys with
       | none=>simp_all
       | some c2=>
        cases q3:jJ n x' y with
        | none=>simp_all
        | some c3=>
         cases q4:Jb (jJ n) xs' ys with
         | none=>simp_all
         | some c4=>
          rw[q1,q2] at hb;rw[q3,q4] at hb';have e1:=aa3 n x x' y u c c3 h3 h5 q1 q3
          grind
  cases d with
  | non=>cases hd;cases d'<;>simp[Sh] at hd';rw[hb] at hb';exact Qw2 hb'
  | bl c=>cases hd;cases d'<;>simp[Sh] at hd';subst hd';rw[hb] at hb';exact Qw2 hb'
  | int i=>obtain⟨t,rfl⟩:=hd;cases d'<;>simp[Sh] at hd';subst hd';rw[hb] at hb';exact Qw2 hb'
  | str x=>
   obtain⟨t,rfl⟩:=hd;cases d' with
   | str y=>
    obtain⟨t',q⟩:=hd';injection q with q1 _
    unfold strOf at q1
    simp_all
   | _=>simp[Sh] at hd'
  | tup xs=>
   obtain⟨a,its,rfl,p,hs⟩:=hd;cases d' with
   | tup xs'=>
    obtain⟨a',its',q,p',hs'⟩:=hd';cases q;have e2:its=its':=by simpa using aay p p'
    subst e2;cases e with
    | tup ys=>exact all xs xs' ys its b b' hs hs' (by assumption) (by assumption)
    | _=>first|(simp[jJ,od] at hb;done)|(simp only[jJ,od,Qjq] at hb hb';rw[<-hb,<-hb'])
   | lst ys=>
    obtain⟨a',its',q,p',hs'⟩:=hd';cases q;exact(J6 p p').elim
   | dct kvs=>cases e<;>simp[jJ,od] at hb'
   | G8 kvs=>cases e<;>simp[jJ,od] at hb'
   | clo _ _=>cases e<;>simp[jJ,od] at hb'
   | arr kvs=>cases e<;>simp[jJ,od] at hb'
   | _=>simp[Sh] at hd'
  | lst xs=>
   obtain⟨a,its,rfl,p,hs⟩:=hd;cases d' with
   | lst xs'=>
    obtain⟨a',its',q,p',hs'⟩:=hd';cases q;have e2:its=its':=by simpa using aaP p p'
    subst e2;cases e with
    | lst ys=>exact all xs xs' ys its b b' hs hs' (by assumption) (by assumption)
    | _=>first|(simp[jJ,od] at hb;done)|(simp only[jJ,od,Qjq] at hb hb';rw[<-hb,<-hb'])
   | tup ys=>
    obtain⟨a',its',q,p',hs'⟩:=hd';cases q;exact(J6 p' p).elim
   | dct kvs=>cases e<;>simp[jJ,od] at hb'
   | G8 kvs=>cases e<;>simp[jJ,od] at hb'
   | clo _ _=>cases e<;>simp[jJ,od] at hb'
   | arr kvs=>cases e<;>simp[jJ,od] at hb'
   | _=>simp[Sh] at hd'
  | dct kvs=>cases e<;>simp[jJ,od] at hb
  | G8 kvs=>cases e<;>simp[jJ,od] at hb
  | clo _ _=>cases e<;>simp[jJ,od] at hb
  | arr kvs=>cases e<;>simp[jJ,od] at hb
theorem Dq(x y):(strOf x == strOf y)=(x == y):=by
 rw[Bool.eq_iff_iff];simp[beq_iff_eq];constructor
 ·intro e;unfold strOf at e
  simp_all
 simp_all
theorem aa4:∀{f} {xs ys},xs.length≠ys.length->∀b,Jb f xs ys=some b->b=false
 | f,[],[],h,b,e=>absurd rfl h
 | f,[],_::_,_,b,e=>by simp[Jb] at e;exact e
 | f,_::_,[],_,b,e=>by simp[Jb] at e;exact e
 | f,x::xs,y::ys,h,b,e=>by
  unfold Jb at e;cases h1:f x y with
  | none=>simp_all
  | some c=>
   cases h2:Jb f xs ys with
   | none=>simp_all
   | some d=>
    rw[h1,h2] at e;have:=aa4 (by simpa using h) d h2
    simp_all
theorem Z4:∀{f} xs ys b,Jb f xs ys=some b->∃e,(∀j x y,xs[j]? = some x->ys[j]? = some y->f x y=some (e j))/\b=((List.range (min xs.length ys.length)).all e&&xs.length == ys.length)
 | f,[],ys,b,h=>by
  refine⟨λ_=>true,λj x y hx=>by simp at hx,?_⟩;cases ys with
  | nil=>simp[Jb] at h;simp[h.symm]
  | cons y ys=>simp[Jb] at h;simp[h.symm]
 | f,x::xs,[],b,h=>by
  refine⟨λ_=>true,λj x y _ hy=>by simp at hy,?_⟩;simp[Jb] at h;simp[h.symm]
 | f,x::xs,y::ys,b,h=>by
  unfold Jb at h;cases h1:f x y with
  | none=>simp_all
  | some c=>
   cases h2:Jb f xs ys with
   | none=>simp_all
   | some d=>
    rw[h1,h2] at h;obtain⟨e,he,hd⟩:=Z4 xs ys d h2;refine⟨λj=>match j with|0=>c|j+1=>e j,λj x' y' hx hy=>?_,?_⟩
    ·grind
    ·have hb:b=(c&&d):=by simp_all
     have hm:min (x::xs).length (y::ys).length=min xs.length ys.length+1:=by simp_all
     rw[hb,hd,hm,List.range_succ_eq_map,List.all_cons,List.all_map,Bool.and_assoc]
     grind
theorem J8:∀{ds} {us} {j:Nat} {u},Sg h ds us->us[j]? = some u->∃d,ds[j]? = some d/\Sh h d u
 | [],_,_,_,e,g=>by cases e;simp at g
 | d::ds,us,j,u,e,g=>by
  obtain⟨v,r,rfl,h1,h2⟩:=e;cases j with
  | zero=>simp_all
  | succ j=>obtain⟨c,e1,e2⟩:=J8 h2 (by simpa using g);exact⟨c,by simpa using e1,e2⟩
theorem By{f:Nat->Bool}(H:∀x y u v b,Sh s.heap x u->Sh s.heap y v->jJ n x y=some b->SeqAt.EqAt A s u v b)(hs:Sg s.heap xs its)(hs':Sg s.heap ys its')(hf:∀j x y,xs[j]? = some x->ys[j]? = some y->jJ n x y=some (f j))
  (j) (h1:j<its.toArray.size) (h2:j<its'.toArray.size):SeqAt.EqAt A s its.toArray[j] its'.toArray[j] (f j):=by
 have g1:its[j]? = some its.toArray[j]:=by simp_all
 have g2:its'[j]? = some its'.toArray[j]:=by simp_all
 obtain⟨x,q1,q2⟩:=J8 hs g1;obtain⟨y,q3,q4⟩:=J8 hs' g2
 grind
theorem SM(H:∀x y u v b,Sh s.heap x u->Sh s.heap y v->jJ n x y=some b->SeqAt.EqAt A.in1 s u v b)(p:IsTup s.heap a its.toArray)(p':IsTup s.heap a' its'.toArray)(hs:Sg s.heap xs its)(hs':Sg s.heap ys its')(h:Jb (jJ n) xs ys=some b)(hu0:A.units<cLine):SeqAt.RcAt A s (.ref a) (.ref a') b/\SeqAt.RcNeAt A s (.ref a) (.ref a') (!b):=by
 obtain⟨f,hf,hb⟩:=Z4 xs ys b h;have l1:=hs.length;have l2:=hs'.length;have k1:=SeqAt.RcAt.tuples p p' hu0<|By H hs hs' hf;have k2:=SeqAt.RcNeAt.tuples p p' hu0<|By H hs hs' hf
 simp_all
theorem T9(H:∀x y u v b,Sh s.heap x u->Sh s.heap y v->jJ n x y=some b->SeqAt.EqAt A.in1 s u v b)(p:PlainL s.heap a its.toArray)(p':PlainL s.heap a' its'.toArray)(hs:Sg s.heap xs its)(hs':Sg s.heap ys its')(h:Jb (jJ n) xs ys=some b)(hu0:A.units<cLine):SeqAt.RcAt A s (.ref a) (.ref a') b/\SeqAt.RcNeAt A s (.ref a) (.ref a') (!b):=by
 have l1:=hs.length;have l2:=hs'.length;by_cases hl:xs.length=ys.length
 ·obtain⟨f,hf,hb⟩:=Z4 xs ys b h;have k1:=SeqAt.RcAt.lists p.isList p'.isList (by simp_all) hu0<|By H hs hs' hf;have k2:=SeqAt.RcNeAt.lists p.isList p'.isList (by simp_all) hu0<|By H hs hs' hf
  simp_all
 ·have:=aa4 hl b h;subst this;have hz:(its.toArray.size != its'.toArray.size)=true:=by simp_all
  exact⟨SeqAt.RcAt.lists_lengths p.isList p'.isList hz hu0,SeqAt.RcNeAt.lists_lengths p.isList p'.isList hz hu0⟩
theorem Z3:∀n d e u v b A s,Sh s.heap d u->Sh s.heap e v->jJ n d e=some b->A.units+n<cLine->SeqAt.EqAt A s u v b:=by
 intro n
 induction n with
 | zero=>intro _ _ _ _ _ _ _ _ _ h;simp[jJ,od] at h
 | succ n ih=>
  intro d e u v b A s hd he h hu;have hu0:A.units<cLine:=by omega
  have hin:A.in1.units+n<cLine:=by grind
  have H:=λx y u v b q1 q2 q3=>ih x y u v b A.in1 s q1 q2 q3 hin;have same:∀a,u = .ref a->v = .ref a->SeqAt.EqAt A s u v b:=λa e1 e2=>by
   subst e1 e2;rw[Xb _ _ _ _ b hd he h];exact SeqAt.EqAt.same _
  cases d<;>cases e
  case non.non=>cases hd;cases he;simp[jJ,od] at h;subst h;exact SeqAt.EqAt.same _
  case tup.tup=>
   have h0:=same;obtain⟨a,r,rfl,p,hs⟩:=hd;obtain⟨a',r',rfl,p',hs'⟩:=he;by_cases haa:a=a'
   ·simp_all
   ·exact SeqAt.EqAt.of_refs haa (SM H p p' hs hs' h hu0).1
  case lst.lst=>
   have h0:=same;obtain⟨a,r,rfl,p,hs⟩:=hd;obtain⟨a',r',rfl,p',hs'⟩:=he;by_cases haa:a=a'
   ·simp_all
   ·exact SeqAt.EqAt.of_refs haa (T9 H p p' hs hs' h hu0).1
  clear same
  all_goals first|(simp[jJ,od] at h;done)|skip
  all_goals
   first|obtain⟨t,rfl⟩:=hd|obtain⟨a,r,rfl,p,hs⟩:=hd|cases hd
   first|obtain⟨t',rfl⟩:=he|obtain⟨a',r',rfl,p',hs'⟩:=he|cases he
   simp[jJ,od,Qjq] at h;subst h
  exact SeqAt.EqAt.none_bool _;exact SeqAt.EqAt.none_int _ _;exact SeqAt.EqAt.none_str _ _;exact SeqAt.EqAt.none_tuple p' hu0;exact SeqAt.EqAt.none_list p'.isList hu0;exact SeqAt.EqAt.bool_none _;exact SeqAt.EqAt.bool_bool _ _;exact SeqAt.EqAt.bool_int _ _ _;exact SeqAt.EqAt.bool_str _ _ _;exact SeqAt.EqAt.bool_tuple _ p' hu0;exact SeqAt.EqAt.bool_list _ p'.isList hu0;exact SeqAt.EqAt.int_none _ _;exact SeqAt.EqAt.int_bool _ _ _;exact SeqAt.EqAt.int_int _ _ _ _;exact SeqAt.EqAt.int_str _ _ _ _;exact SeqAt.EqAt.int_tuple _ _ p' hu0;exact SeqAt.EqAt.int_list _ _ p'.isList hu0;exact SeqAt.EqAt.str_none _ _;exact SeqAt.EqAt.str_bool _ _ _;exact SeqAt.EqAt.str_int _ _ _ _;rw[<-Dq];exact SeqAt.EqAt.str_str _ _ _ _;exact SeqAt.EqAt.str_tuple _ _ p' hu0;exact SeqAt.EqAt.str_list _ _ p'.isList hu0;exact SeqAt.EqAt.tuple_none p hu0;exact SeqAt.EqAt.tuple_bool _ p hu0;exact SeqAt.EqAt.tuple_int _ _ p hu0;exact SeqAt.EqAt.tuple_str _ _ p hu0;exact SeqAt.EqAt.tuple_list p p'.isList hu0;exact SeqAt.EqAt.list_none p.isList hu0;exact SeqAt.EqAt.list_bool _ p.isList hu0;exact SeqAt.EqAt.list_int _ _ p.isList hu0;exact SeqAt.EqAt.list_str _ _ p.isList hu0;exact SeqAt.EqAt.list_tuple p.isList p' hu0
theorem aqc(n)(d e)(u v)(b)(A)(s)(hd:Sh s.heap d u)(he:Sh s.heap e v)(h:jJ (n+1) d e=some b)(hu:A.units+(n+1)<cLine):SeqAt.RcAt A s u v b:=by
 have hu0:A.units<cLine:=by omega
 have hin:A.in1.units+n<cLine:=by show A.units+1+n<cLine;omega
 have H:=λx y u v b q1 q2 q3=>Z3 n x y u v b A.in1 s q1 q2 q3 hin;cases d<;>cases e
 case tup.tup=>
  obtain⟨a,r,rfl,p,hs⟩:=hd;obtain⟨a',r',rfl,p',hs'⟩:=he;exact(SM H p p' hs hs' h hu0).1
 case lst.lst=>
  obtain⟨a,r,rfl,p,hs⟩:=hd;obtain⟨a',r',rfl,p',hs'⟩:=he;exact(T9 H p p' hs hs' h hu0).1
 all_goals first|(simp[jJ,od] at h;done)|skip
 all_goals
  first|obtain⟨t,rfl⟩:=hd|obtain⟨a,r,rfl,p,hs⟩:=hd|cases hd
  first|obtain⟨t',rfl⟩:=he|obtain⟨a',r',rfl,p',hs'⟩:=he|cases he
  simp[jJ,od,Qjq] at h;subst h
 exact SeqAt.RcAt.none_none;exact SeqAt.RcAt.none_bool _;exact SeqAt.RcAt.none_int _ _;exact SeqAt.RcAt.none_str _ _;exact SeqAt.RcAt.none_tuple p' hu0;exact SeqAt.RcAt.none_list p'.isList hu0;exact SeqAt.RcAt.bool_none _;exact SeqAt.RcAt.bool_bool _ _;exact SeqAt.RcAt.bool_int _ _ _;exact SeqAt.RcAt.bool_str _ _ _;exact SeqAt.RcAt.bool_tuple _ p' hu0;exact SeqAt.RcAt.bool_list _ p'.isList hu0;exact SeqAt.RcAt.int_none _ _;exact SeqAt.RcAt.int_bool _ _ _;exact SeqAt.RcAt.int_int _ _ _ _;exact SeqAt.RcAt.int_str _ _ _ _;exact SeqAt.RcAt.int_tuple _ _ p' hu0;exact SeqAt.RcAt.int_list _ _ p'.isList hu0;exact SeqAt.RcAt.str_none _ _;exact SeqAt.RcAt.str_bool _ _ _;exact SeqAt.RcAt.str_int _ _ _ _;rw[<-Dq];exact SeqAt.RcAt.str_str _ _ _ _;exact SeqAt.RcAt.str_tuple _ _ p' hu0;exact SeqAt.RcAt.str_list _ _ p'.isList hu0;exact SeqAt.RcAt.tuple_none p hu0;exact SeqAt.RcAt.tuple_bool _ p hu0;exact SeqAt.RcAt.tuple_int _ _ p hu0;exact SeqAt.RcAt.tuple_str _ _ p hu0;exact SeqAt.RcAt.tuple_list p p'.isList hu0;exact SeqAt.RcAt.list_none p.isList hu0;exact SeqAt.RcAt.list_bool _ p.isList hu0;exact SeqAt.RcAt.list_int _ _ p.isList hu0;exact SeqAt.RcAt.list_str _ _ p.isList hu0;exact SeqAt.RcAt.list_tuple p.isList p' hu0
theorem ah2(n)(d e)(u v)(b)(A)(s)(hd:Sh s.heap d u)(he:Sh s.heap e v)(h:jJ (n+1) d e=some b)(hu:A.units+(n+1)<cLine):SeqAt.RcNeAt A s u v (!b):=by
 have hu0:A.units<cLine:=by omega
 have hin:A.in1.units+n<cLine:=by show A.units+1+n<cLine;omega
 have H:=λx y u v b q1 q2 q3=>Z3 n x y u v b A.in1 s q1 q2 q3 hin;cases d<;>cases e
 case tup.tup=>
  obtain⟨a,r,rfl,p,hs⟩:=hd;obtain⟨a',r',rfl,p',hs'⟩:=he;exact(SM H p p' hs hs' h hu0).2
 case lst.lst=>
  obtain⟨a,r,rfl,p,hs⟩:=hd;obtain⟨a',r',rfl,p',hs'⟩:=he;exact(T9 H p p' hs hs' h hu0).2
 all_goals first|(simp[jJ,od] at h;done)|skip
 all_goals
  first|obtain⟨t,rfl⟩:=hd|obtain⟨a,r,rfl,p,hs⟩:=hd|cases hd
  first|obtain⟨t',rfl⟩:=he|obtain⟨a',r',rfl,p',hs'⟩:=he|cases he
  simp[jJ,od,Qjq] at h;subst h
 exact SeqAt.RcNeAt.none_none;exact SeqAt.RcNeAt.none_bool _;exact SeqAt.RcNeAt.none_int _ _;exact SeqAt.RcNeAt.none_str _ _;exact SeqAt.RcNeAt.none_tuple p' hu0;exact SeqAt.RcNeAt.none_list p'.isList hu0;exact SeqAt.RcNeAt.bool_none _;exact SeqAt.RcNeAt.bool_bool _ _;exact SeqAt.RcNeAt.bool_int _ _ _;exact SeqAt.RcNeAt.bool_str _ _ _;exact SeqAt.RcNeAt.bool_tuple _ p' hu0;exact SeqAt.RcNeAt.bool_list _ p'.isList hu0;exact SeqAt.RcNeAt.int_none _ _;exact SeqAt.RcNeAt.int_bool _ _ _;exact SeqAt.RcNeAt.int_int _ _ _ _;exact SeqAt.RcNeAt.int_str _ _ _ _;exact SeqAt.RcNeAt.int_tuple _ _ p' hu0;exact SeqAt.RcNeAt.int_list _ _ p'.isList hu0;exact SeqAt.RcNeAt.str_none _ _;exact SeqAt.RcNeAt.str_bool _ _ _;exact SeqAt.RcNeAt.str_int _ _ _ _;rw[<-Dq];exact SeqAt.RcNeAt.str_str _ _ _ _;exact SeqAt.RcNeAt.str_tuple _ _ p' hu0;exact SeqAt.RcNeAt.str_list _ _ p'.isList hu0;exact SeqAt.RcNeAt.tuple_none p hu0;exact SeqAt.RcNeAt.tuple_bool _ p hu0;exact SeqAt.RcNeAt.tuple_int _ _ p hu0;exact SeqAt.RcNeAt.tuple_str _ _ p hu0;exact SeqAt.RcNeAt.tuple_list p p'.isList hu0;exact SeqAt.RcNeAt.list_none p.isList hu0;exact SeqAt.RcNeAt.list_bool _ p.isList hu0;exact SeqAt.RcNeAt.list_int _ _ p.isList hu0;exact SeqAt.RcNeAt.list_str _ _ p.isList hu0;exact SeqAt.RcNeAt.list_tuple p.isList p' hu0
section
variable{X:Cx}{C:Cfg}
def aqo(K:Fg):R2:=λx y H Q=>∃dx dy b,Rep K H dx x/\Rep K H dy y/\jJ 60 dx dy=some b/\Q (.bl b) H
def aqg(K:Fg):R2:=λx y H Q=>∃dx dy b,Rep K H dx x/\Rep K H dy y/\jJ 60 dx dy=some b/\Q (.bl (!b)) H
theorem amL(hu:X.A.units+60<cLine):qu X (compareOp .Eq) (aqo X.K):=by intro pins s σ H x y v u Q I rx ry h;obtain⟨dx,dy,b,h1,h2,h3,q⟩:=h;exact aqc 59 dx dy v u b X.A s (Rep.sh I dx x v h1 rx) (Rep.sh I dy y u h2 ry) h3 hu X.prog X.w X.xe _ ⟨.bl b,H,I,rfl,q⟩
theorem amE(hu:X.A.units+60<cLine):qu X (compareOp .NotEq) (aqg X.K):=by intro pins s σ H x y v u Q I rx ry h;obtain⟨dx,dy,b,h1,h2,h3,q⟩:=h;exact ah2 59 dx dy v u b X.A s (Rep.sh I dx x v h1 rx) (Rep.sh I dy y u h2 ry) h3 hu X.prog X.w X.xe _ ⟨.bl<|!b,H,I,rfl,q⟩
def jb(x y:D):Option D:=(jJ 60 x y).map .bl
def Up(x y:D):Option D:=(jJ 60 x y).map λb=>.bl (!b)
theorem aqU:uC C (aqo C.K) jb:=by
 intro Pr F env σ H x y d vx vy Q r hx hy h q;unfold jb at h;cases e:jJ 60 x y with
 | none=>simp_all
 | some b=>
  rw[e] at h;cases h;exact⟨x,y,b,hx.rep r.fr,hy.rep r.fr,e,q _ H F r (aX.refl F) rfl⟩
theorem aqO:uC C (aqg C.K) Up:=by
 intro Pr F env σ H x y d vx vy Q r hx hy h q;unfold Up at h;cases e:jJ 60 x y with
 | none=>simp_all
 | some b=>
  rw[e] at h;cases h;exact⟨x,y,b,hx.rep r.fr,hy.rep r.fr,e,q _ H F r (aX.refl F) rfl⟩
noncomputable def Wy(x:D):List D->Option Bool
 | []=>some false
 | y::ys=>match jJ 59 y x,Wy x ys with
  | some a,some b=>some (a||b)
  | _,_=>none
theorem aaS(x):∀ys b,Wy x ys=some b->(∀y∈ys,∃c,jJ 59 y x=some c)/\(b=true ↔ ∃y∈ys,jJ 59 y x=some true)
 | [],b,h=>by simp[Wy] at h;subst h;simp
 | y::ys,b,h=>by
  unfold Wy at h;cases h1:jJ 59 y x with
  | none=>simp_all
  | some c=>
   cases h2:Wy x ys with
   | none=>simp_all
   | some d=>
    rw[h1,h2] at h;obtain⟨i1,i2⟩:=aaS x ys d h2
    grind
open Classical in
noncomputable def Px(h:Heap)(x:D)(u:Value):Bool:=decide (∃y,Sh h y u/\jJ 59 y x=some true)
open Classical in
theorem UT(hy:Sh h y u)(e:jJ 59 y x=some c):Px h x u=c:=by
 unfold Px;cases c with
 | true=>exact Qxk ⟨y,hy,e⟩
 | false=>
  refine Qwj ?_;rintro⟨z,hz,e'⟩;have:=aa3 59 z y x u true false hz hy e' e;cases this
theorem Ey(hx:Sh s.heap x v)(hs:Sg s.heap ys us)(h:Wy x ys=some b)(hu:A.units+59<cLine) :
  (∀w,w∈us.toArray->SeqAt.EqAt A s w v (Px s.heap x w))/\us.toArray.any (Px s.heap x)=b:=by
 obtain⟨h1,h2⟩:=aaS x ys b h;have item:∀w∈us,∃y∈ys,Sh s.heap y w:=λw hw=>by
  obtain⟨j,hj,e⟩:=List.mem_iff_getElem.mp hw;obtain⟨d,e1,e2⟩:=J8 hs (show us[j]? = some w by rw[Qx4 hj,e]);exact⟨d,List.mem_of_getElem? e1,e2⟩
 have back:∀{ys} {us},Sg s.heap ys us->∀y∈ys,∃w∈us,Sh s.heap y w:=by
  intro ys
  induction ys with
  | nil=>intro us _ y hy;cases hy
  | cons z zs ih=>
   intro us hs y hy;obtain⟨w,r,rfl,g1,g2⟩:=hs;rcases Qq2.mp hy with rfl|hy
   ·exact⟨w,Qqw,g1⟩
   ·obtain⟨w',m,g⟩:=ih g2 y hy;exact⟨w',Qqk _ m,g⟩
 refine⟨λw hw=>?_,?_⟩
 ·obtain⟨y,hy,sy⟩:=item w (by simpa using hw);obtain⟨c,hc⟩:=h1 y hy;rw[UT sy hc];exact Z3 59 y x w v c A s sy hx hc hu
 ·rw[List.any_toArray,Bool.eq_iff_iff,h2,List.any_eq_true];constructor
  ·rintro⟨w,hw,e⟩;obtain⟨y,hy,sy⟩:=item w hw;obtain⟨c,hc⟩:=h1 y hy;rw[UT sy hc] at e;subst e;exact⟨y,hy,hc⟩
  ·rintro⟨y,hy,e⟩;obtain⟨w,hw,sy⟩:=back hs y hy;exact⟨w,hw,UT sy e⟩
noncomputable def VF:D->Option (List D)
 | .tup xs=>some xs
 | .lst xs=>some xs
 | .arr xs=>some xs
 | _=>none
def abN(K:Fg)(neg:Bool):R2:=λx y H Q=>∃dx dy ys b,Rep K H dx x/\Rep K H dy y/\VF dy=some ys/\Wy dx ys=some b/\Q (.bl (if neg then !b else b)) H
theorem amJ(hu:X.A.units+61<cLine):qu X (compareOp .In) (abN X.K false):=by
 intro pins s σ H x y v u Q I rx ry h;obtain⟨dx,dy,ys,b,h1,h2,h3,h4,q⟩:=h;have hx:=Rep.sh I dx x v h1 rx;have hy:=Rep.sh I dy y u h2 ry;have hin:X.A.in1.units+59<cLine:=by grind
 cases dy with
 | tup zs=>
  cases h3;obtain⟨a,its,rfl,p,hs⟩:=hy;obtain⟨g1,g2⟩:=Ey hx hs h4 hin;refine SeqAt.in_tupleAt (Px s.heap dx) p g1 ⟨.bl _,H,I,rfl,?_⟩
  simp_all
 | lst zs=>
  cases h3;obtain⟨a,its,rfl,p,hs⟩:=hy;obtain⟨g1,g2⟩:=Ey hx hs h4 hin;refine SeqAt.in_listAt (Px s.heap dx) p.isList g1 ⟨.bl _,H,I,rfl,?_⟩
  simp_all
 | arr zs=>
  cases h3;obtain⟨a,its,rfl,p,hs⟩:=hy;obtain⟨g1,g2⟩:=Ey hx hs h4 hin;refine SeqAt.in_listAt (Px s.heap dx) p.isList g1 ⟨.bl _,H,I,rfl,?_⟩
  simp_all
 | _=>cases h3
theorem abZ(hu:X.A.units+61<cLine):qu X (compareOp .NotIn) (abN X.K true):=by
 intro pins s σ H x y v u Q I rx ry h;obtain⟨dx,dy,ys,b,h1,h2,h3,h4,q⟩:=h;have hx:=Rep.sh I dx x v h1 rx;have hy:=Rep.sh I dy y u h2 ry;have hin:X.A.in1.units+59<cLine:=by grind
 cases dy with
 | tup zs=>
  cases h3;obtain⟨a,its,rfl,p,hs⟩:=hy;obtain⟨g1,g2⟩:=Ey hx hs h4 hin;refine SeqAt.notIn_tupleAt (Px s.heap dx) p g1 ⟨.bl _,H,I,rfl,?_⟩
  simp_all
 | lst zs=>
  cases h3;obtain⟨a,its,rfl,p,hs⟩:=hy;obtain⟨g1,g2⟩:=Ey hx hs h4 hin;refine SeqAt.notIn_listAt (Px s.heap dx) p.isList g1 ⟨.bl _,H,I,rfl,?_⟩
  simp_all
 | arr zs=>
  cases h3;obtain⟨a,its,rfl,p,hs⟩:=hy;obtain⟨g1,g2⟩:=Ey hx hs h4 hin;refine SeqAt.notIn_listAt (Px s.heap dx) p.isList g1 ⟨.bl _,H,I,rfl,?_⟩
  simp_all
 | _=>cases h3
end
theorem uC.or(h:uC C r g)(h':uC C r' g'):uC C (λx y H Q=>r x y H Q\/r' x y H Q) (λx y=>(g x y).or (g' x y)):=by
 intro Pr F env σ H x y d vx vy Q rl hx hy e q;have e:(g x y).or (g' x y)=some d:=e;cases e1:g x y with
 | some c=>
  rw[e1] at e;cases e;exact .inl<|h Pr F env σ H x y d vx vy Q rl hx hy e1 q
 | none=>
  rw[e1] at e;exact .inr<|h' Pr F env σ H x y d vx vy Q rl hx hy e q
section
variable{X:Cx}{C:Cfg}
def af6(x y:D):Option D:=match VF y with
 | some ys=>(Wy x ys).map .bl
 | none=>none
def Uo(x y:D):Option D:=match VF y with
 | some ys=>(Wy x ys).map λb=>.bl (!b)
 | none=>none
theorem am2:uC C (abN C.K false) af6:=by
 intro Pr F env σ H x y d vx vy Q r hx hy h q;unfold af6 at h;cases e1:VF y with
 | none=>simp_all
 | some ys=>
  rw[e1] at h;cases e:Wy x ys with
  | none=>simp_all
  | some b=>
   simp[e,Qj0] at h;cases h;exact⟨x,y,ys,b,hx.rep r.fr,hy.rep r.fr,e1,e,q _ H F r (aX.refl F) rfl⟩
theorem ab6:uC C (abN C.K true) Uo:=by
 intro Pr F env σ H x y d vx vy Q r hx hy h q;unfold Uo at h;cases e1:VF y with
 | none=>simp_all
 | some ys=>
  rw[e1] at h;cases e:Wy x ys with
  | none=>simp_all
  | some b=>
   simp[e,Qj0] at h;cases h;exact⟨x,y,ys,b,hx.rep r.fr,hy.rep r.fr,e1,e,q _ H F r (aX.refl F) rfl⟩
noncomputable def aoD(x y:D):Option D:=match x,y with
 | .str [c],.str z=>some (.bl (decide (c∈z)))
 | _,_=>none
noncomputable def Um(x y:D):Option D:=match x,y with
 | .str [c],.str z=>some (.bl (!decide (c∈z)))
 | _,_=>none
abbrev aqm:R2:=λx y H Q=>∃i j,x = .str i/\y = .str j/\Q (.bl (!(Builtin.Str.occurrences j i 0 j.length 1).isEmpty)) H
abbrev aaE:R2:=λx y H Q=>∃i j,x = .str i/\y = .str j/\Q (.bl (!(!(Builtin.Str.occurrences j i 0 j.length 1).isEmpty))) H
theorem one_sign(c)(z):(!(Builtin.Str.occurrences (strOf z) (strOf [c]) 0 (strOf z).length 1).isEmpty)=decide (c∈z):=by
 have:=StrLaws.found_one (strOf z) c
 assumption
theorem am1:uC C aqm aoD:=by
 intro Pr F env σ H x y d vx vy Q r hx hy h q;unfold aoD at h;split at h
 ·rename_i c z;cases h;obtain⟨rfl,_⟩:=hx.str;obtain⟨rfl,_⟩:=hy.str;refine⟨_,_,rfl,rfl,?_⟩;rw[one_sign];exact q _ H F r (aX.refl F) rfl
 ·cases h
theorem ab5:uC C aaE Um:=by
 intro Pr F env σ H x y d vx vy Q r hx hy h q;unfold Um at h;split at h
 ·rename_i c z;cases h;obtain⟨rfl,_⟩:=hx.str;obtain⟨rfl,_⟩:=hy.str;refine⟨_,_,rfl,rfl,?_⟩;rw[one_sign];exact q _ H F r (aX.refl F) rfl
 ·cases h
def xK(x y:D):Option D:=(af6 x y).or (aoD x y)
def Ac(x y:D):Option D:=(Uo x y).or (Um x y)
abbrev aqn(K:Fg):R2:=λx y H Q=>abN K false x y H Q\/aqm x y H Q
abbrev aaF(K:Fg):R2:=λx y H Q=>abN K true x y H Q\/aaE x y H Q
theorem amK(hu:X.A.units+61<cLine):qu X (compareOp .In) (aqn X.K):=(amJ hu).or ab3
theorem ab0(hu:X.A.units+61<cLine):qu X (compareOp .NotIn) (aaF X.K):=(abZ hu).or T3
theorem aqS:uC C (aqn C.K) xK:=am2.or am1
theorem ae3:uC C (aaF C.K) Ac:=ab6.or ab5
def isPlain(x:V):Prop:=x = .non\/∃b,x = .bl b
theorem amI:qu X (compareOp .Is) (λx y H Q=>isPlain y/\Q (.bl (decide (x=y))) H):=by
 intro pins s σ H x y v u Q I rx ry h;obtain⟨hp,q⟩:=h;rcases hp with rfl|⟨b,rfl⟩
 ·exact amH pins s σ H x .non v u Q I rx ry ⟨rfl,q⟩
 ·cases ry;refine wpAny_is_plain ?_<|Ae I q ?_
  ·cases x<;>first|(cases rx;rfl)|(obtain⟨t,rfl⟩:=rx;rfl)
  ·cases x with
   | bl c=>cases rx;cases b<;>cases c<;>rfl
   | _=>first|(cases rx;rfl)|(obtain⟨t,rfl⟩:=rx;rfl)
theorem ab2:qu X (compareOp .IsNot) (λx y H Q=>isPlain y/\Q (.bl (!decide (x=y))) H):=by
 intro pins s σ H x y v u Q I rx ry h;obtain⟨hp,q⟩:=h;rcases hp with rfl|⟨b,rfl⟩
 ·exact aiE pins s σ H x .non v u Q I rx ry ⟨rfl,q⟩
 ·cases ry;refine wpAny_isNot_plain ?_<|Ae I q ?_
  ·cases x<;>first|(cases rx;rfl)|(obtain⟨t,rfl⟩:=rx;rfl)
  ·cases x with
   | bl c=>cases rx;cases b<;>cases c<;>rfl
   | _=>first|(cases rx;rfl)|(obtain⟨t,rfl⟩:=rx;rfl)
noncomputable def isD:D->D->Option Bool
 | .non,.non=>some true
 | .bl a,.bl b=>some (a == b)
 | _,.non=>some false
 | _,.bl _=>some false
 | _,_=>none
def gIs(x y:D):Option D:=(isD x y).map .bl
def Nm(x y:D):Option D:=(isD x y).map λb=>.bl (!b)
theorem ak2(hx:lX C.K F H x vx)(hy:lX C.K F H y vy)(h:isD x y=some b):isPlain vy/\decide (vx=vy)=b:=by
 have at4:∀a,¬(V.ref a=V.non):=λa e=>by cases e
 cases y with
 | non=>
  obtain rfl:=hy.non;refine⟨.inl rfl,?_⟩;cases x with
  | non=>obtain rfl:=hx.non;simp[isD] at h;simp[h]
  | bl c=>obtain rfl:=hx.bl;simp[isD] at h;simp[h]
  | int i=>obtain rfl:=hx.int;simp[isD] at h;simp[h]
  | str z=>obtain⟨rfl,_⟩:=hx.str;simp[isD] at h;simp[h]
  | tup xs=>rcases hx with ⟨_,a,_,rfl,_⟩|⟨a,rfl,_⟩<;>(simp[isD] at h;simp[h])
  | lst xs=>rcases hx with ⟨_,a,_,rfl,_⟩|⟨a,rfl,_⟩<;>(simp[isD] at h;simp[h])
  | arr xs=>rcases hx with ⟨_,a,_,rfl,_⟩|⟨a,rfl,_⟩<;>(simp[isD] at h;simp[h])
  | dct xs=>rcases hx with ⟨_,a,_,rfl,_⟩|⟨a,rfl,_⟩<;>(simp[isD] at h;simp[h])
  | G8 xs=>rcases hx with ⟨_,a,_,rfl,_⟩|⟨a,rfl,_⟩<;>(simp[isD] at h;simp[h])
  | clo st xs=>rcases hx with ⟨a,_,rfl,_⟩|⟨a,rfl,_⟩<;>(simp[isD] at h;simp[h])
 | bl k=>
  obtain rfl:=hy.bl;refine⟨.inr ⟨k,rfl⟩,?_⟩;cases x with
  | non=>obtain rfl:=hx.non;simp[isD] at h;simp[h]
  | bl c=>obtain rfl:=hx.bl;simp[isD,Qjq] at h;rw[<-h,aoV]
  | int i=>obtain rfl:=hx.int;simp[isD] at h;simp[h]
  | str z=>obtain⟨rfl,_⟩:=hx.str;simp[isD] at h;simp[h]
  | tup xs=>rcases hx with ⟨_,a,_,rfl,_⟩|⟨a,rfl,_⟩<;>(simp[isD] at h;simp[h])
  | lst xs=>rcases hx with ⟨_,a,_,rfl,_⟩|⟨a,rfl,_⟩<;>(simp[isD] at h;simp[h])
  | arr xs=>rcases hx with ⟨_,a,_,rfl,_⟩|⟨a,rfl,_⟩<;>(simp[isD] at h;simp[h])
  | dct xs=>rcases hx with ⟨_,a,_,rfl,_⟩|⟨a,rfl,_⟩<;>(simp[isD] at h;simp[h])
  | G8 xs=>rcases hx with ⟨_,a,_,rfl,_⟩|⟨a,rfl,_⟩<;>(simp[isD] at h;simp[h])
  | clo st xs=>rcases hx with ⟨a,_,rfl,_⟩|⟨a,rfl,_⟩<;>(simp[isD] at h;simp[h])
 | _=>cases x<;>simp[isD] at h
theorem aqR:uC C (λx y H Q=>isPlain y/\Q (.bl (decide (x=y))) H) gIs:=by
 intro Pr F env σ H x y d vx vy Q r hx hy h q;unfold gIs at h;cases e:isD x y with
 | none=>simp_all
 | some b=>
  rw[e] at h;cases h;obtain⟨h1,h2⟩:=ak2 hx hy e;exact⟨h1,by rw[h2];exact q _ H F r (aX.refl F) rfl⟩
theorem ae5:uC C (λx y H Q=>isPlain y/\Q (.bl (!decide (x=y))) H) Nm:=by
 intro Pr F env σ H x y d vx vy Q r hx hy h q;unfold Nm at h;cases e:isD x y with
 | none=>simp_all
 | some b=>
  rw[e] at h;cases h;obtain⟨h1,h2⟩:=ak2 hx hy e;exact⟨h1,by rw[h2];exact q _ H F r (aX.refl F) rfl⟩
noncomputable def gI(c:Int->Int->Bool)(f:Int->Int->D)(x y:D):Option D:=match x,y with
 | .int i,.int j=>if c i j=true then some (f i j) else none
 | _,_=>none
theorem ae7(hc:∀i j,c i j=true->Cd i j)(hf:∀i j F,Rep C.K F (f i j) (g i j)):uC C (rI Cd g) (gI c f):=by
 intro Pr F env σ H x y d vx vy Q r hx hy h q;unfold gI at h;split at h
 ·rename_i i j;split at h
  ·rename_i hcc;cases h;obtain rfl:=hx.int;obtain rfl:=hy.int;exact⟨i,j,rfl,rfl,hc i j hcc,q _ H F r (aX.refl F)<|hf i j F⟩
  ·cases h
 ·cases h
theorem Wb(hf:∀i j F,Rep C.K F (f i j) (g i j)):uC C (XD g) (gI (λ_ _=>true) f):=by
 intro Pr F env σ H x y d vx vy Q r hx hy h q;unfold gI at h;split at h
 ·rename_i i j;rw[if_pos rfl] at h;cases h;obtain rfl:=hx.int;obtain rfl:=hy.int;exact⟨i,j,rfl,rfl,q _ H F r (aX.refl F)<|hf i j F⟩
 ·cases h
noncomputable def pU(i j:Int):Bool:=decide (Builtin.Int.intBits i+Builtin.Int.intBits j<=134217728)
theorem aiG:qu X (binaryOp .Mult) (rI (λi j=>pU i j=true) λi j=>.int (i*j)):=
 opI λi j _ _ _ _ _ hc q=>mul_int q<|mulOk_of_bits (Qq0 _) (Qq0 _)<|Qw8 hc
def Ad:D->D->Option D:=gI pU λi j=>.int (i*j)
def xJ:D->D->Option D:=gI (λ_ _=>true) λi j=>.int (i - j)
def aox:D->D->Option D:=gI (λ_ j=>decide (0<j)) λi j=>.int (i % j)
def Z0:D->D->Option D:=gI (λi j=>decide (0<=j/\j<=1000000/\i.natAbs<2^64)) λi j=>.int (i^j.toNat)
def acG:D->D->Option D:=gI (λi j=>decide (0<=j/\j<=1000000/\i.natAbs<2^64)) λi j=>.int (i*2^j.toNat)
def W2:D->D->Option D:=gI (λ_ j=>decide (0<=j)) λi j=>.int (i / 2^j.toNat)
def W5:D->D->Option D:=gI (λ_ _=>true) λi j=>.int (Builtin.bitAnd i j)
theorem amX:uC C (rI (λi j=>pU i j=true) λi j=>.int (i*j)) Ad:=ae7 (λ_ _ h=>h) λ_ _ _=>rfl
theorem amT:uC C (XD λi j=>.int (i - j)) xJ:=Wb λ_ _ _=>rfl
theorem amY:uC C (rI (λ_ j=>0<j) λi j=>.int (i % j)) aox:=ae7 (λ_ _ h=>Qw8 h) λ_ _ _=>rfl
theorem amW:uC C (rI akm λi j=>.int (i^j.toNat)) Z0:=ae7 (λi j h=>(show 0<=j/\j<=1000000/\i.natAbs<2^64 from Qw8 h)) λ_ _ _=>rfl
theorem amV:uC C (rI akm λi j=>.int (i*2^j.toNat)) acG:=ae7 (λi j h=>(show 0<=j/\j<=1000000/\i.natAbs<2^64 from Qw8 h)) λ_ _ _=>rfl
theorem amU:uC C (rI (λ_ j=>0<=j) λi j=>.int (i / 2^j.toNat)) W2:=ae7 (λ_ _ h=>Qw8 h) λ_ _ _=>rfl
theorem am3:uC C (XD λi j=>.int (Builtin.bitAnd i j)) W5:=Wb λ_ _ _=>rfl
abbrev aqh:R2:=λx y H Q=>∃i j,x = .str i/\y = .str j/\Q (.bl (decide (i.cps.toList<j.cps.toList))) H
def arX:D->D->Option D:=gI (λ_ _=>true) λi j=>.bl (decide (i<j))
noncomputable def aoy(x y:D):Option D:=match x,y with
 | .str a,.str b=>some (.bl (decide (a<b)))
 | _,_=>none
def gLt(x y:D):Option D:=(arX x y).or (aoy x y)
def gLe:D->D->Option D:=gI (λ_ _=>true) λi j=>.bl (decide (i<=j))
def gGt:D->D->Option D:=gI (λ_ _=>true) λi j=>.bl (decide (j<i))
def gGe:D->D->Option D:=gI (λ_ _=>true) λi j=>.bl (decide (j<=i))
theorem amZ:uC C aqh aoy:=by
 intro Pr F env σ H x y d vx vy Q r hx hy h q;unfold aoy at h;split at h
 ·cases h;obtain⟨rfl,_⟩:=hx.str;obtain⟨rfl,_⟩:=hy.str;exact⟨_,_,rfl,rfl,q _ H F r (aX.refl F) (by rfl)⟩
 ·cases h
abbrev aqi:R2:=λx y H Q=>XD (λi j=>.bl (decide (i<j))) x y H Q\/aqh x y H Q
theorem amG:qu X (compareOp .Lt) aqi:=aqG.or ab1
theorem am0:uC C (XD λi j=>.bl (decide (i<j))) arX:=Wb λ_ _ _=>rfl
theorem aqP:uC C aqi gLt:=am0.or amZ
theorem aqQ:uC C (XD λi j=>.bl (decide (i<=j))) gLe:=Wb λ_ _ _=>rfl
theorem aqT:uC C (XD λi j=>.bl (decide (j<i))) gGt:=Wb λ_ _ _=>rfl
def aes(K:Fg):R2:=λx y H Q=>∃a b ys,x = .ref a/\y = .ref b/\qe K H a []/\qe K H b ys/\Q (.ref b) H
theorem ae1:qu X (binaryOp .Add) (aes X.K):=by
 intro pins s σ H x y v u Q I rx ry h;obtain⟨a,b,ys,rfl,rfl,ha,hb,q⟩:=h;cases rx;cases ry;obtain⟨its,r1,p1,_⟩:=I.tuple ha;obtain⟨its2,r2,p2,_⟩:=I.tuple hb;cases r1;obtain⟨⟨cls,dd,data,sl⟩,ho,hc,n,hd⟩:=id p1;obtain⟨⟨cls2,dd2,data2,sl2⟩,ho2,hc2,n2,hd2⟩:=id p2;simp at hc hd hc2 hd2;subst hc hd hc2 hd2;exact concat_meets ⟨_,ho,rfl⟩ ⟨_,ho2,rfl⟩ noFill_tuple_add seq_tuple_add PySem.F.slot_tuple_add PySem.F.entry_tuple_add (PySem.F.args_tuple_add_2 _ _)
  (tuple_addW0 a b [].toArray its2.toArray n n2 dd dd2 sl sl2 (by simp)) ⟨ho,ho2,⟨.ref b,H,I,rfl,q⟩⟩
abbrev aqq:R2:=λx y H Q=>∃i j,x = .str i/\y = .str j/\i.length+j.length<=sizeLine/\Q (.str (i++j)) H
abbrev aqr(K:Fg):R2:=λx y H Q=>XD (λi j=>.int (i+j)) x y H Q\/aqq x y H Q\/aqp x y H Q\/akJ K x y H Q\/aes K x y H Q
theorem aiI:qu X (binaryOp .Add) (aqr X.K):=amN.or<|Y8.or<|ae2.or<|aiH.or ae1
noncomputable def bJ(x y:D):Option D:=match x,y with
 | .int i,.int j=>some (.int (i+j))
 | .str a,.str b=>if a.length+b.length<=sizeLine then some (.str (a++b)) else none
 | .lst a,.lst b=>if a.length+b.length<=sizeLine then some (.lst (a++b)) else none
 | .tup a,.tup b=>if a.length+b.length<=sizeLine then some (.tup (a++b)) else none
 | _,_=>none
theorem Te(a b):strOf a++strOf b=strOf (a++b):=by show(⟨(strOf a).cps++(strOf b).cps⟩:Str)=_;unfold strOf;simp
theorem uY(a):(strOf a).length=a.length:=by rfl
theorem am4:uC C (aqr C.K) bJ:=by
 intro Pr F env σ H x y d vx vy Q r hx hy h q;unfold bJ at h;split at h
 ·cases h;obtain rfl:=hx.int;obtain rfl:=hy.int;exact .inl ⟨_,_,rfl,rfl,q _ H F r (aX.refl F) rfl⟩
 ·split at h
  ·rename_i hz;cases h;obtain⟨rfl,_⟩:=hx.str;obtain⟨rfl,_⟩:=hy.str;refine .inr<|.inl ⟨_,_,rfl,rfl,by assumption,?_⟩;rw[Te];exact q _ H F r (aX.refl F) ⟨rfl,by simp_all⟩
  ·cases h
 ·split at h
  ·rename_i hz;cases h;obtain⟨_,a,vs,rfl,h1,h2⟩:=hx.lst r.fr;obtain⟨_,b,ws,rfl,h3,h4⟩:=hy.lst r.fr;refine .inr<|.inr<|.inl ⟨a,b,vs,ws,rfl,rfl,h1,h3,by rw[h2.length,h4.length];exact hz,λp hp=>?_⟩;obtain⟨r2,s2⟩:=r.new hp;exact q _ _ _ r2 s2 ⟨by simp_all,p,_,rfl,bz,cD.mono s2 _ _<|h2.append h4⟩
  ·cases h
 ·split at h
  ·rename_i hz;cases h;obtain⟨z1,a,vs,rfl,h1,f1,h2⟩:=hx.tup r.fr;obtain⟨z2,b,ws,rfl,h3,f3,h4⟩:=hy.tup r.fr;by_cases hv:vs=[]
   ·subst hv;have e1:=h2.length.symm;have e2:=List.eq_nil_of_length_eq_zero e1;subst e2;refine .inr<|.inr<|.inr<|.inr ⟨a,b,ws,rfl,rfl,h1,h3,?_⟩;exact q _ H F r (aX.refl F) ⟨z2,b,ws,rfl,f3,h4⟩
   ·refine .inr<|.inr<|.inr<|.inl ⟨a,b,vs,ws,rfl,rfl,h1,h3,hv,by rw[h2.length,h4.length];exact hz,λhw=>?_,λhw p hp=>?_⟩
    ·subst hw;have e1:=h4.length.symm;have e2:=List.eq_nil_of_length_eq_zero e1;subst e2;rw[Qw1] at q;exact q _ H F r (aX.refl F) ⟨z1,a,vs,rfl,f1,h2⟩
    ·obtain⟨r2,s2⟩:=r.new hp;exact q _ _ _ r2 s2 ⟨by simp_all,p,_,rfl,qe.of bz,cD.mono s2 _ _<|h2.append h4⟩
  ·cases h
 ·cases h
def XC(K:Fg)(F H:Hp):List D->List V->Prop
 | [],vs=>vs=[]
 | d::ds,vs=>∃v r,vs=v::r/\lX K F H d v/\XC K F H ds r
inductive tAB (C:Cfg) (ev:d7) (σ:L2.St) (H:Hp) (Q:List L2.V->Hp->Prop):Prop
 | mk (Pr F:Hp) (env env':Env) (ds:List D) (_:Rel C Pr F env σ H) (_:ev env = .ok ds env') (_:∀vs H' F',Rel C Pr F' env' σ H'->aX F F'->XC C.K F' H' ds vs->Q vs H'):tAB C ev σ H Q
def aki(X:Cx)(C:Cfg)(es:List Expr)(ev:d7):Prop:=PA X es (tAB C ev)
def CallD(C:Cfg)(r:List V->Hp->VK->Prop)(g:List D->Option D):Prop:=∀(Pr F:Hp) (env:Env) (σ:L2.St) (H:Hp) (ds:List D) (d:D) (vs:List V) (Q:VK),Rel C Pr F env σ H->XC C.K F H ds vs->g ds=some d->
 (∀v H' F',Rel C Pr F' env σ H'->aX F F'->Rep C.K F' d v->Q v H')->r vs H Q
def az(g:List D->Option D)(a:d7):Ev:=λenv=>bindR (a env) λds aO=>fX (g ds) aO
theorem aba(o:CallD C r g)(σ)(H)(Q)(h:tE C (az g a) σ H Q):tCB r (tAB C a) σ H Q:=by obtain⟨Pr,F,env,env',d,rl,e,q⟩:=h;obtain⟨ds,aO,e1,e2⟩:=bj e;obtain⟨e3,rfl⟩:=eY e2;exact⟨Pr,F,env,env',ds,rl,e1,λvs H1 F1 r1 s1 p1=>o Pr F1 env' σ H1 ds d vs Q r1 p1 e3 λv H2 F2 r2 s2 p2=>q v H2 F2 r2 (s1.trans s2) p2⟩
theorem uG{p pos:Pos}{id:String}(hc:lW X (.builtin id) r)(o:CallD C r g)(hg:Gl X x)(hm:X.mg x=none)(hv:bootBuiltins x=some (.builtin id))(ha:aki X C (e::es) a)
  (hn:x ≠ "__name__":=by decide) (hdb:qx x:=by decide) (he:starEach (e::es) X.env=(false,eval e X.env)::starEach es X.env:=by rfl) (hpl:(backTo pos (starEach es X.env)).any (·.1)=false:=by rfl) :
  PX X C (.Call (.Name x p) (e::es) [] pos) (az g a):=(Lk hc hg hm hv ha hn hdb he hpl).imp<|aba o
theorem Ej{p pos:Pos}(hc:lW X (.type T) r)(o:CallD C r g)(hg:Gl X x)(hm:X.mg x=none)(hv:bootBuiltins x=some (.type T))(ha:aki X C (e::es) a)
  (hn:x ≠ "__name__":=by decide) (hdb:qx x:=by decide) (he:starEach (e::es) X.env=(false,eval e X.env)::starEach es X.env:=by rfl) (hpl:(backTo pos (starEach es X.env)).any (·.1)=false:=by rfl) :
  PX X C (.Call (.Name x p) (e::es) [] pos) (az g a):=(abT hc hg hm hv ha hn hdb he hpl).imp<|aba o
theorem sG{K:Fg}(h:XC K F H [d] vs):∃v,vs=[v]/\lX K F H d v:=by
 obtain⟨v,r,rfl,h1,h2⟩:=h;cases h2
 simp_all
theorem Z9{K:Fg}(h:XC K F H [d,e] vs):∃v w,vs=[v,w]/\lX K F H d v/\lX K F H e w:=by obtain⟨v,r,rfl,h1,h2⟩:=h;obtain⟨w,rfl,h3⟩:=sG h2;exact⟨v,w,rfl,h1,h3⟩
noncomputable def dM:List D->Option D
 | [.str x]=>some (.int x.length)
 | [.tup xs]=>some (.int xs.length)
 | [.lst xs]=>some (.int xs.length)
 | [.arr xs]=>some (.int xs.length)
 | _=>none
theorem ao2:CallD C (λxs H Q=>∃x n,xs=[x]/\asA C.K x H n/\Q (.int n) H) dM:=by
 intro Pr F env σ H ds d vs Q r hs h q;unfold dM at h;split at h
 ·cases h;obtain⟨v,rfl,hv⟩:=sG hs;obtain⟨rfl,hz⟩:=hv.str;exact⟨_,_,rfl,⟨by assumption,(uY _).symm⟩,q _ H F r (aX.refl F) rfl⟩
 ·cases h;obtain⟨v,rfl,hv⟩:=sG hs;obtain⟨_,a,ws,rfl,h1,_,h2⟩:=hv.tup r.fr;exact⟨_,_,rfl,.inr ⟨ws,h1,h2.length.symm⟩,q _ H F r (aX.refl F) rfl⟩
 ·cases h;obtain⟨v,rfl,hv⟩:=sG hs;obtain⟨_,a,ws,rfl,h1,h2⟩:=hv.lst r.fr;exact⟨_,_,rfl,.inl ⟨ws,uR.of h1,h2.length.symm⟩,q _ H F r (aX.refl F) rfl⟩
 ·cases h;obtain⟨v,rfl,hv⟩:=sG hs;obtain⟨_,a,ws,rfl,h1,h2⟩:=hv.arr r.fr;exact⟨_,_,rfl,.inl ⟨ws,h1,h2.length.symm⟩,q _ H F r (aX.refl F) rfl⟩
 ·cases h
noncomputable def iz:List D->Option D
 | [.tup xs]=>some (.tup xs)
 | [.lst xs]=>some (.tup xs)
 | _=>none
abbrev aem(K:Fg):List V->Hp->VK->Prop:=λxs H Q=>∃p ys,xs=[.ref p]/\((uR K H p ys/\∀l,H l=none->Q (.ref l) (upd H l (.tup ys)))\/(qe K H p ys/\Q (.ref p) H))
theorem agB:CallD C (aem C.K) iz:=by
 intro Pr F env σ H ds d vs Q r hs h q;unfold iz at h;split at h
 ·cases h;obtain⟨v,rfl,hv⟩:=sG hs;obtain⟨z,a,ws,rfl,h1,f1,h2⟩:=hv.tup r.fr;exact⟨a,ws,rfl,.inr ⟨h1,q _ H F r (aX.refl F) ⟨z,a,ws,rfl,f1,h2⟩⟩⟩
 ·cases h;obtain⟨v,rfl,hv⟩:=sG hs;obtain⟨z,a,ws,rfl,h1,h2⟩:=hv.lst r.fr;refine⟨a,ws,rfl,.inl ⟨uR.of h1,λl hl=>?_⟩⟩;obtain⟨r2,s2⟩:=r.new hl;exact q _ _ _ r2 s2 ⟨z,l,ws,rfl,qe.of bz,cD.mono s2 _ _ h2⟩
 ·cases h
noncomputable def signs(x:List Nat):List D:=x.map λc=>.str [c]
abbrev aeo:List V->Hp->VK->Prop:=λxs H Q=>∃z,xs=[.str z]/\z.length<=sizeLine/\∀l,H l=none->Q (.ref l) (upd H l (.lst (z.cps.toList.map λc=>V.str ⟨#[c]⟩)))
theorem Z7(hh:X.calm=true):lW X (.type "list") aeo:=by
 intro pins s σ H xs us Q I r h;obtain⟨z,rfl,hz,q⟩:=h;obtain⟨u,rfl,⟨t,rfl⟩⟩:=vals1 r;refine call_list_str (I.ok.hd hh) z t (λh' tk acc' c' kp e hacc=>?_) hz;refine⟨.ref s.heap.objs.size,_,I.laid kp (Qq0 _)<|show jt X.prog X.w _ h' _ (.lst<|z.cps.toList.map λc=>V.str ⟨#[c]⟩) from⟨?_,acc'.toList,c',?_,by simpa using e⟩,rfl,q _<|I.hok.fresh<|Qq0 _⟩
 ·simpa[Str.length] using hz
 ·obtain⟨hsz,hit⟩:=hacc;have go:∀(cs:List Nat) vs,vs.length=cs.length->(∀(j:Nat) v,vs[j]? = some v->∃c u,cs[j]? = some c/\v=Value.str ⟨#[c]⟩ u)->Vals (cs.map λc=>V.str ⟨#[c]⟩) vs:=by
   intro cs
   induction cs with
   | nil=>intro vs hl _;rw[List.eq_nil_of_length_eq_zero hl];exact .nil
   | cons c cs ih=>
    intro vs hl hv;cases vs with
    | nil=>simp at hl
    | cons v vs=>
     obtain⟨c',u,e1,e2⟩:=hv 0 v rfl;simp at e1;subst e1 e2;exact .cons ⟨u,rfl⟩<|ih vs (by simp_all) λj w hw=>by simpa using hv (j+1) w (by simpa using hw)
  refine go _ _ (by simpa using hsz) λj v hv=>?_;obtain⟨c,u,e1,e2⟩:=hit j v (by simp_all)
  simp_all
def jN:List D->Option D
 | [.tup xs]=>some (.lst xs)
 | [.lst xs]=>some (.lst xs)
 | [.str x]=>some (.lst (signs x))
 | _=>none
abbrev aep(K:Fg):List V->Hp->VK->Prop:=λxs H Q=>(∃p ys,xs=[.ref p]/\(uR K H p ys\/qe K H p ys)/\∀l,H l=none->Q (.ref l) (upd H l (.lst ys)))\/aeo xs H Q
theorem Z8(hh:X.calm=true):lW X (.type "list") (aep X.K):=Uu.or<|Z7 hh
theorem Lf{K:Fg}:∀x,cD K F (signs x) (x.map λc=>V.str ⟨#[c]⟩)
 | []=>rfl
 | c::x=>⟨_,_,rfl,⟨rfl,by rw[sizeLine_eq];simp⟩,Lf x⟩
theorem ajU:CallD C (aep C.K) jN:=by
 intro Pr F env σ H ds d vs Q r hs h q;unfold jN at h;split at h
 ·cases h;obtain⟨v,rfl,hv⟩:=sG hs;obtain⟨z,a,ws,rfl,h1,f1,h2⟩:=hv.tup r.fr;refine .inl ⟨a,ws,rfl,.inr h1,λl hl=>?_⟩;obtain⟨r2,s2⟩:=r.new hl;exact q _ _ _ r2 s2 ⟨z,l,ws,rfl,bz,cD.mono s2 _ _ h2⟩
 ·cases h;obtain⟨v,rfl,hv⟩:=sG hs;obtain⟨z,a,ws,rfl,h1,h2⟩:=hv.lst r.fr;refine .inl ⟨a,ws,rfl,.inl<|uR.of h1,λl hl=>?_⟩;obtain⟨r2,s2⟩:=r.new hl;exact q _ _ _ r2 s2 ⟨z,l,ws,rfl,bz,cD.mono s2 _ _ h2⟩
 ·rename_i x;cases h;obtain⟨v,rfl,hv⟩:=sG hs;obtain⟨rfl,hz⟩:=hv.str;refine .inr ⟨_,rfl,by assumption,λl hl=>?_⟩;obtain⟨r2,s2⟩:=r.new hl;refine q _ _ _ r2 s2 ⟨by simpa[signs] using hz,l,_,rfl,bz,?_⟩;have e:(strOf x).cps.toList=x:=by rfl
  rw[e];exact Lf x
 ·cases h
noncomputable def acI:List D->Option D
 | [.int i,.int j]=>some (.int (if j > i then j else i))
 | _=>none
noncomputable def acH:List D->Option D
 | [.int i,.int j]=>some (.int (if j<i then j else i))
 | _=>none
theorem ao1:CallD C (λxs H Q=>∃i j,xs=[.int i,.int j]/\Q (.int (if j > i then j else i)) H) acI:=by
 intro Pr F env σ H ds d vs Q r hs h q;unfold acI at h;split at h
 ·cases h;obtain⟨v,w,rfl,hv,hw⟩:=Z9 hs;obtain rfl:=hv.int;obtain rfl:=hw.int;exact⟨_,_,rfl,q _ H F r (aX.refl F) rfl⟩
 ·cases h
theorem ao0:CallD C (λxs H Q=>∃i j,xs=[.int i,.int j]/\Q (.int (if j<i then j else i)) H) acH:=by
 intro Pr F env σ H ds d vs Q r hs h q;unfold acH at h;split at h
 ·cases h;obtain⟨v,w,rfl,hv,hw⟩:=Z9 hs;obtain rfl:=hv.int;obtain rfl:=hw.int;exact⟨_,_,rfl,q _ H F r (aX.refl F) rfl⟩
 ·cases h
noncomputable def Cu:List D->Option D
 | [.int i,.int j]=>if 0<j/\j<1073741824 then some (.tup [.int (i / j),.int (i % j)]) else none
 | _=>none
theorem acX:CallD C (λxs H Q=>∃i j,xs=[.int i,.int j]/\asF i j/\∀p,H p=none->Q (.ref p) (upd H p (.tup [.int (i / j),.int (i % j)]))) Cu:=by
 intro Pr F env σ H ds d vs Q r hs h q;unfold Cu at h;split at h
 ·split at h
  ·rename_i hj;cases h;obtain⟨v,w,rfl,hv,hw⟩:=Z9 hs;obtain rfl:=hv.int;obtain rfl:=hw.int;refine⟨_,_,rfl,hj,λp hp=>?_⟩;obtain⟨r2,s2⟩:=r.new hp;exact q _ _ _ r2 s2 ⟨by rw[sizeLine_eq];simp,p,_,rfl,qe.of bz,⟨_,_,rfl,rfl,_,_,rfl,rfl,rfl⟩⟩
  ·cases h
 ·cases h
noncomputable def tyD:D->String
 | .non=>"NoneType"
 | .bl _=>"bool"
 | .int _=>"int"
 | .str _=>"str"
 | .tup _=>"tuple"
 | .lst _=>"list"
 | .arr _=>"list"
 | .dct _=>"dict"
 | .G8 _=>"dict"
 | .clo _ _=>"NoneType"
def sY(d:D)(T:String):Bool:=tyD d == T||(tyD d == "bool" && T == "int")
theorem aog(qT:X.K.In s.heap)(nc:∀st ds,d ≠ .clo st ds)(h:Sh s.heap d u)(e:PySem.W.kitOne X.K (.type (tyD d)) c=some b)(q:∀tk,Q (.bool b) { s with toks:=tk }) :
  wpAny (model X.prog X.w) A (call (.builtin "isinstance") [u,c]) Q E s:=by
 cases d with
 | non=>cases h;exact PySem.W.kia_one PySem.W.kitx_none qT True.intro e (λz=>nomatch z) q
 | bl y=>cases h;exact PySem.W.kia_one PySem.W.kitx_bool qT True.intro e (λz=>nomatch z) q
 | int i=>obtain⟨t,rfl⟩:=h;exact PySem.W.kia_one PySem.W.kitx_int qT True.intro e (λz=>nomatch z) q
 | str y=>obtain⟨t,rfl⟩:=h;exact PySem.W.kia_one PySem.W.kitx_str qT True.intro e (λz=>nomatch z) q
 | tup xs=>
  obtain⟨a,its,rfl,p,_⟩:=h;obtain⟨o,h1,h2,_⟩:=p;exact PySem.W.kia_one PySem.W.kitx_tuple qT ⟨o,h1,h2⟩ e (λz=>nomatch z) q
 | lst xs=>
  obtain⟨a,its,rfl,p,_⟩:=h;obtain⟨o,h1,h2,_⟩:=p.isList;exact PySem.W.kia_one PySem.W.kitx_list qT ⟨o,h1,h2⟩ e (λz=>nomatch z) q
 | arr xs=>
  obtain⟨a,its,rfl,p,_⟩:=h;obtain⟨o,h1,h2,_⟩:=p.isList;exact PySem.W.kia_one PySem.W.kitx_list qT ⟨o,h1,h2⟩ e (λz=>nomatch z) q
 | dct kvs=>
  obtain⟨a,o,rfl,h1,h2⟩:=h;exact PySem.W.kia_one PySem.W.kitx_dict qT ⟨o,h1,h2.1⟩ e (λz=>nomatch z) q
 | G8 kvs=>
  obtain⟨a,o,rfl,h1,h2⟩:=h;exact PySem.W.kia_one PySem.W.kitx_dict qT ⟨o,h1,h2.1⟩ e (λz=>nomatch z) q
 | clo st ds=>simp_all
def f9(T:String)(d:D):Option D:=match d with
 | .clo _ _=>none
 | _=>some (.bl (sY d T))
theorem ajo(h:f9 T d=some e):(∀st ds,d ≠ .clo st ds)/\e = .bl (sY d T):=by cases d<;>simp[f9] at h<;>simp_all
theorem agD(hk:∀d,PySem.W.kitOne X.K (.type (tyD d)) (.type T)=some (sY d T)) :
  lW X (.builtin "isinstance") (λxs H Q=>∃d x,xs=[x,.ty T]/\(∀st ds,d ≠ .clo st ds)/\Rep X.K H d x/\Q (.bl (sY d T)) H):=by
 intro pins s σ H xs us Q I r h;obtain⟨d,x,rfl,nc,hr,q⟩:=h;obtain⟨u,w,rfl,r1,r2⟩:=vals2 r;cases r2;exact aog I.Zo nc (Rep.sh I d x u hr r1) (hk d) λtk=>⟨.bl _,H,I.tok tk,rfl,q⟩
noncomputable def xX:List D->Option (List Bool)
 | []=>some []
 | .bl b::r=>(xX r).map (b :: ·)
 | _=>none
theorem V0{K:Fg}:∀{ds} {bs} {vs},xX ds=some bs->cD K F ds vs->vs=bs.map V.bl
 | [],bs,vs,h,hr=>by simp[xX] at h;subst h;cases hr;rfl
 | d::ds,bs,vs,h,hr=>by
  obtain⟨v,r,rfl,h1,h2⟩:=hr;cases d with
  | bl b=>
   simp only[xX] at h;cases e:xX ds with
   | none=>simp_all
   | some cs=>
    rw[e] at h;cases h;cases h1;rw[V0 e h2]
    rfl
  | _=>simp[xX] at h
theorem Vc:∀{bs:List Bool} {us},Vals (bs.map V.bl) us->us=bs.map Value.bool
 | [],_,.nil=>rfl
 | b::bs,_,.cons r t=>by
  cases r;rw[Vc t]
  rfl
theorem Py(bs:List Bool):(List.range bs.length).all (λi=>bs.getD i true)=bs.all id:=by
 induction bs with
 | nil=>rfl
 | cons b bs ih=>
  rw[Qqv,List.range_succ_eq_map,List.all_cons,List.all_map,List.all_cons];simp[List.getD_cons_zero,id]
  congr 1
theorem ac2(hc:X.calm=true):lW X (.builtin "all") (λxs H Q=>∃(p:Addr) (bs:List Bool),xs=[.ref p]/\uR X.K H p (bs.map V.bl)/\Q (.bl (bs.all id)) H):=by
 intro pins s σ H xs us Q I r h;obtain⟨p,bs,rfl,hq,q⟩:=h;obtain⟨u,rfl,rx⟩:=vals1 r;cases rx;obtain⟨its,rv,pl,_⟩:=I.list hq;have e:=Vc rv;subst e;refine call_all_walk<|wpAny_pyIter_list pl.isList ?_;have hlt:p<s.heap.objs.size:=by obtain⟨o,e,_⟩:=pl.isList;exact Qq3 e
 refine⟨s.heap.objs.size,_,_,_,_,_,λi=>bs.getD i true,rfl,Walks.list (show X.A.in1.handled=none from I.ok.hd hc) s.heap.objs.size p (Qww hlt) (bs.map Value.bool).toArray,⟨⟨_,Qq8 _ rfl,rfl,rfl⟩,by obtain⟨o,e,rr⟩:=pl.isList;exact⟨o,Qqx _ e,rr⟩⟩,?_,λh' tk hk=>?_⟩
 ·intro i v s' Q' E' hv hq';have hv:=hv;rw[List.getElem?_toArray,Qx5] at hv;cases hb:bs[i]? with
  | none=>simp_all
  | some b=>
   rw[hb] at hv;cases hv;refine Qx0 ?_
   simp_all
 ·have I1:Inv X pins σ H { s with heap:=h',toks:=tk }:=I.kept λb o e=>hk b o (by simp;exact Qww<|Qq3 e)<|Qqx _ e;refine⟨.bl _,H,I1,rfl,?_⟩;have e2:(bs.map Value.bool).toArray.size=bs.length:=by simp
  rw[e2,Py];exact q
def wM:List D->Option D
 | [.lst ds]=>(xX ds).map λbs=>.bl (bs.all id)
 | _=>none
theorem ao3:CallD C (λxs H Q=>∃(p:Addr) (bs:List Bool),xs=[.ref p]/\uR C.K H p (bs.map V.bl)/\Q (.bl (bs.all id)) H) wM:=by
 intro Pr F env σ H ds d vs Q r hs h q;unfold wM at h;split at h
 ·rename_i es;cases e:xX es with
  | none=>simp_all
  | some bs=>
   rw[e] at h;cases h;obtain⟨v,rfl,hv⟩:=sG hs;obtain⟨z,a,ws,rfl,h1,h2⟩:=hv.lst r.fr;have e2:=V0 e h2;subst e2;exact⟨a,bs,rfl,uR.of h1,q _ H F r (aX.refl F) rfl⟩
 ·cases h
noncomputable def jY:List D->Option (List (List Nat))
 | []=>some []
 | .str x::r=>(jY r).map (x :: ·)
 | _=>none
noncomputable def Hv(sep:List Nat):List (List Nat)->List Nat
 | []=>[]
 | x::r=>r.foldl (λacc y=>acc++sep++y) x
theorem afL(sep)(xs):Txt.join (strOf sep) (xs.map strOf)=strOf (Hv sep xs):=by
 unfold Txt.join;unfold Builtin.Str.glued;cases xs with
 | nil=>rfl
 | cons x r=>
  show⟨(r.map strOf).foldl (λacc p=>acc++(strOf sep).cps++p.cps) (strOf x).cps⟩=strOf (r.foldl (λacc y=>acc++sep++y) x);have go:∀(r:List (List Nat)) x,(r.map strOf).foldl (λacc p=>acc++(strOf sep).cps++p.cps) (strOf x).cps=(strOf<|r.foldl (λacc y=>acc++sep++y) x).cps:=by
   intro r
   induction r with
   | nil=>intro x;rfl
   | cons y r ih=>
    intro x;rw[Qq7,Qjx,Qjx];rw[<-ih (x++sep++y)]
    congr 1
    simp[strOf]
  rw[go]
theorem Eg{K:Fg}:∀{ds} {xs} {vs},jY ds=some xs->cD K F ds vs->vs=xs.map λx=>V.str (strOf x)
 | [],bs,vs,h,hr=>by simp[jY] at h;subst h;cases hr;rfl
 | d::ds,bs,vs,h,hr=>by
  obtain⟨v,r,rfl,h1,h2⟩:=hr;cases d with
  | str b=>
   simp only[jY] at h;cases e:jY ds with
   | none=>simp_all
   | some cs=>
    rw[e] at h;cases h;cases h1.1;rw[Eg e h2]
    rfl
  | _=>simp[jY] at h
theorem Dj:∀{xs:List (List Nat)} {us},Vals (xs.map λx=>V.str (strOf x)) us->StrsAre us (xs.map strOf)
 | [],_,.nil=>.nil
 | x::xs,_,.cons r t=>by
  obtain⟨k,rfl⟩:=r;exact .cons _ k<|Dj t
noncomputable def joinFits(sep:List Nat)(xs:List (List Nat)):Bool:=decide ((xs.map List.length).sum+xs.length*sep.length<=16777216)
def rJoin(K:Fg):V->List V->Hp->VK->Prop:=λx vs H Q=>∃sep xs p,x = .str (strOf sep)/\vs=[.ref p]/\uR K H p (xs.map λx=>V.str (strOf x))/\joinFits sep xs=true/\Q (.str (strOf (Hv sep xs))) H
theorem aiP:MtR X "str.join" (rJoin X.K):=by
 intro pins s σ H x vs v us Q I rx rv h;obtain⟨sep,xs,p,rfl,rfl,hq,hf,q⟩:=h;obtain⟨t,rfl⟩:=rx;obtain⟨u,rfl,ru⟩:=vals1 rv;cases ru;obtain⟨its,r,pl,_⟩:=I.list hq;have hs:=Dj r;refine join_list pl.isList (by simpa using hs) ?_ λt' k=>?_
 ·have hf':=Qw8 hf;have e:((xs.map strOf).map (·.length))=xs.map List.length:=by
   rw[Qzk]
   rfl
  rw[e,uY,Qqz];exact hf'
 ·rw[afL];exact⟨.str _,H,I.tok k,⟨t',rfl⟩,q⟩
theorem Vw(sep):∀(r:List (List Nat)) x,(r.foldl (λacc y=>acc++sep++y) x).length=x.length+(r.map List.length).sum+r.length*sep.length
 | [],x=>by simp
 | y::r,x=>by
  rw[Qjx,Vw sep r,Qqj,Qqj,Qq7,List.sum_cons,Qqv,Nat.add_mul];omega
theorem afM(h:joinFits sep xs=true):(Hv sep xs).length<=sizeLine:=by
 have h':=Qw8 h;rw[sizeLine_eq];cases xs with
 | nil=>simp[Hv]
 | cons x r=>
  show(r.foldl (λacc y=>acc++sep++y) x).length<=_;rw[Vw];rw[Qq7,List.sum_cons,Qqv,Nat.add_mul] at h';omega
def sZ(x y:D):Option D:=match x,y with
 | .str sep,.lst ds=>(match jY ds with
  | some xs=>if joinFits sep xs=true then some (.str (Hv sep xs)) else none
  | none=>none)
 | _,_=>none
theorem aii{apos cpos:Pos}(hK:X.K=C.K)(ho:PX X C o a)(he:PXB X C e b)(hbase:attributeBase o "join" X.env (eval o X.env)=eval o X.env:=by rfl)
  (hs:sEn e X.env:=by rfl)
  (hfew:((backTo cpos (starEach [e] X.env)).all (λx=>!x.1)&&(backToKw cpos (keywordEach [] X.env)).all (λx=>x.1.isSome)
   && decide ([e].length+([]:List Keyword).length+(if ([]:List Keyword).isEmpty then 0 else 1)<30))=true:=by rfl)
  (hline:(apos.endLine == cpos.line)=true:=by rfl) (hplain:(backTo cpos (starEach [] X.env)).any (·.1)=false:=by rfl) :
  PX X C (.Call (.Attribute o "join" apos) [e] [] cpos) (aP sZ a b):=by
 refine(akP PySem.F.plainAttrs_str PySem.F.slot_str_join PySem.F.type_str_join aiP ho (jj he xu hs) hbase hfew hline hs hplain).imp λσ H Q h=>?_;obtain⟨Pr,F,env,env',d,rl,e0,q⟩:=h;obtain⟨x,aO,e1,e2⟩:=bj e0;obtain⟨y,fP,e3,e4⟩:=bj e2;obtain⟨e5,rfl⟩:=eY e4;unfold sZ at e5;split at e5
 ·rename_i sep ds;split at e5
  ·rename_i xs hxs;split at e5
   ·rename_i hf;cases e5;refine⟨Pr,F,env,aO,_,rl,e1,λvx H1 F1 r1 s1 p1=>?_⟩;obtain⟨rfl,_⟩:=p1;refine⟨rfl,Pr,F1,aO,env',_,r1,e3,λvy H2 F2 r2 s2 p2=>?_⟩;obtain⟨z,l,ws,rfl,h1,h2⟩:=p2.lst r2.fr;have e6:=Eg hxs h2;subst e6;exact⟨sep,xs,l,rfl,rfl,uR.of h1,hf,q _ H2 F2 r2 (s1.trans s2) ⟨rfl,afM hf⟩⟩
   ·cases e5
  ·cases e5
 ·cases e5
end
theorem Rel.put(r:Rel C Pr F env σ H)(hfx:C.fx i=none)(p:Rep C.K F d v):Rel C Pr F (env.set i (some (false,d))) (σ.set i (some v)) H:=by
 refine⟨r.pr,r.fr,by rw[Qx2,Qx2];exact r.len,λj e he=>?_,λj e he=>?_,λj k e f b hj hk g1 g2=>?_,r.dj,λj a hj=>?_⟩
 ·by_cases hji:j=i
  ·subst hji;have hl:j<env.length:=by
    grind
   rw[Qxv hl] at he;cases he;exact⟨v,Qxv (by rw[<-r.len];exact hl),p⟩
  ·rw[Qq5 (Ne.symm hji)] at he ⊢;exact r.val j e he
 ·by_cases hji:j=i
  ·grind
  ·rw[Qq5 (Ne.symm hji)] at he ⊢;exact r.own j e he
 ·have nn:∀j e,(env.set i<|some (false,d))[j]? = some (some (true,e))->j≠i:=λj e he z=>by
   grind
  have nj:=nn j e hj;have nk:=nn k f hk;rw[Qq5 (Ne.symm nj)] at hj g1;rw[Qq5 (Ne.symm nk)] at hk g2;exact r.apart j k e f b hj hk g1 g2
 ·have hji:j≠i:=λz=>by simp_all
  rw[Qq5 (Ne.symm hji)];exact r.fix j a hj
structure New(K:Fg)(Pr F:Hp)(env:Env)(σ:L2.St)(H:Hp)(d:D)(a:Addr):Prop where
 own:qt K F H d a
 nF:F a=none
 nP:Pr a=none
 ap:∀(j:Nat) (e:D),env[j]? = some (some (true,e))->σ[j]? = some (some (V.ref a))->False
theorem New.of(r:Rel C Pr F env σ H)(h:H a=none)(ho:qt C.K F (upd H a o) d a):New C.K Pr F env σ (upd H a o) d a:=
 ⟨ho,r.fr.free h,r.pr.free h,λj e he hs=>by
  obtain⟨b,h1,h2,_⟩:=r.own j e he;rw[hs] at h1;cases h1;obtain⟨u,hu⟩:=h2.some
  simp_all⟩
theorem Rel.aeD(r:Rel C Pr F env σ H)(hfx:C.fx i=none)(n:New C.K Pr F env σ H d a):Rel C Pr F (env.set i (some (true,d))) (σ.set i (some (.ref a))) H:=by
 have same:∀j x,(env.set i<|some (true,d))[j]? = some (some x)->j=i->x=(true,d)/\j<env.length:=λj x he z=>by
  subst z;have hl:j<env.length:=by
   have:=(Qq9.mp he).1
   rwa [Qx2] at this
  rw[Qxv hl] at he;cases he;exact⟨rfl,hl⟩
 refine⟨r.pr,r.fr,by rw[Qx2,Qx2];exact r.len,λj e he=>?_,λj e he=>?_,λj k e f b hj hk g1 g2=>?_,r.dj,λj a hj=>?_⟩
 ·by_cases hji:j=i
  ·have:=(same j _ he hji).1;cases this
  ·rw[Qq5 (Ne.symm hji)] at he ⊢;exact r.val j e he
 ·by_cases hji:j=i
  ·obtain⟨z,hl⟩:=same j _ he hji;cases z;subst hji;exact⟨a,Qxv (by rw[<-r.len];exact hl),n.own,n.nF,n.nP⟩
  ·rw[Qq5 (Ne.symm hji)] at he ⊢;exact r.own j e he
 ·by_cases nj:j=i
  ·by_cases nk:k=i
   ·rw[nj,nk]
   ·obtain⟨z,hl⟩:=same j _ hj nj;subst nj;rw[Qxv (by rw[<-r.len];exact hl)] at g1;cases g1;rw[Qq5 (Ne.symm nk)] at hk g2;exact(n.ap k f hk g2).elim
  ·rw[Qq5 (Ne.symm nj)] at hj g1;by_cases nk:k=i
   ·obtain⟨z,hl⟩:=same k _ hk nk;subst nk;rw[Qxv (by rw[<-r.len];exact hl)] at g2;cases g2;exact(n.ap j e hj g1).elim
   ·rw[Qq5 (Ne.symm nk)] at hk g2;exact r.apart j k e f b hj hk g1 g2
 ·have hji:j≠i:=λz=>by rw[z,hfx] at hj;cases hj
  rw[Qq5 (Ne.symm hji)];exact r.fix j a hj
theorem Rel.keep(r:Rel C Pr F env σ H)(n:New C.K Pr F env σ H d a):∃F',Rel C Pr F' env σ H/\aX F F'/\Rep C.K F' d (.ref a):=by
 obtain⟨o,ho⟩:=n.own.some;have s1:aX F (upd F a o):=qg n.nF;have rep:Rep C.K (upd F a o) d (.ref a):=by
  have h2:=n.own;cases d with
  | lst xs=>obtain⟨z,vs,g1,g2⟩:=h2;rw[ho] at g1;cases g1;exact⟨z,a,vs,rfl,bz,cD.mono s1 _ _ g2⟩
  | dct kvs=>obtain⟨z,ks,g1,g2⟩:=h2;rw[ho] at g1;cases g1;exact⟨z,a,ks,rfl,.inl bz,gh.mono s1 _ _ g2⟩
  | G8 kvs=>obtain⟨z,ks,g1,g2⟩:=h2;rw[ho] at g1;cases g1;exact⟨z,a,ks,rfl,.inl bz,wJ.mono s1 _ _ g2⟩
  | _=>exact h2.elim
 refine⟨upd F a o,⟨r.pr,λb u e=>?_,r.len,λj e he=>?_,λj e he=>?_,r.apart,λb u e=>?_,r.fix⟩,s1,rep⟩
 ·by_cases hb:b=a
  ·subst hb;rw[bz] at e;cases e;exact ho
  ·rw[bT hb] at e;exact r.fr b u e
 ·obtain⟨v,g1,g2⟩:=r.val j e he;exact⟨v,g1,Rep.mono s1 e v g2⟩
 ·obtain⟨b,g1,g2,g3,g4⟩:=r.own j e he;have hb:b≠a:=λz=>by subst z;exact n.ap j e he g1
  exact⟨b,g1,g2.mono s1 rfl,by rw[bT hb];exact g3,g4⟩
 ·by_cases hb:b=a
  ·subst hb;exact n.nP
  ·rw[bT hb] at e;exact r.dj b u e
theorem Rel.write(r:Rel C Pr F env σ H)(h:env[i]? = some (some (true,d)))(hs:σ[i]? = some (some (V.ref a)))(ho:qt C.K F (upd H a u) d' a) :
  Rel C Pr F (env.set i (some (true,d'))) σ (upd H a u):=by
 obtain⟨a',h1,h2,h3,h4⟩:=r.own i d h;rw[hs] at h1;cases h1;have hi:=(Qq9.mp h).1;have ne:∀j e b,j≠i->env[j]? = some (some (true,e))->σ[j]? = some (some<|V.ref b)->b≠a:=λj e b hj he g z=>hj<|r.apart j i e d a he h (by simp_all) hs;refine⟨λb w e=>?_,λb w e=>?_,by rw[Qx2];exact r.len,λj e he=>?_,λj e he=>?_,λj k e f b hj hk g1 g2=>?_,r.dj,r.fix⟩
 ·have hb:b≠a:=λz=>by simp_all
  rw[bT hb];exact r.pr b w e
 ·have hb:b≠a:=λz=>by simp_all
  rw[bT hb];exact r.fr b w e
 ·by_cases hj:j=i
  ·simp_all
  ·rw[Qq5 (Ne.symm hj)] at he;exact r.val j e he
 ·by_cases hj:j=i
  ·simp_all
  ·rw[Qq5 (Ne.symm hj)] at he;obtain⟨b,g1,g2,g3,g4⟩:=r.own j e he;exact⟨b,g1,g2.mono (aX.refl F)<|bT<|ne j e b hj he g1,g3,g4⟩
 ·have un:∀(j:Nat) e,(env.set i<|some (true,d'))[j]? = some (some (true,e))->∃e',env[j]? = some (some (true,e')):=λj e he=>by
   grind
  obtain⟨e',hj'⟩:=un j e hj;obtain⟨f',hk'⟩:=un k f hk;exact r.apart j k e' f' b hj' hk' g1 g2
inductive tN (C:Cfg) (ev:Ev) (σ:L2.St) (H:Hp) (Q:L2.VK):Prop
 | mk (Pr F:Hp) (env env':Env) (d:D) (_:Rel C Pr F env σ H) (_:ev env = .ok d env') (_:∀a H' F',Rel C Pr F' env' σ H'->aX F F'->New C.K Pr F' env' σ H' d a->Q (.ref a) H'):tN C ev σ H Q
def PXN(X:Cx)(C:Cfg)(e:Expr)(ev:Ev):Prop:=PE X e (tN C ev)
section
variable{X:Cx}{C:Cfg}{pos:Pos}
theorem PXN.px(h:PXN X C e ev):PX X C e ev:=PE.imp h λσ H Q hq=>by
 obtain⟨Pr,F,env,env',d,r,e,q⟩:=hq;refine⟨Pr,F,env,env',d,r,e,λa H' F' r' s' n'=>?_⟩;obtain⟨F2,r2,s2,p2⟩:=r'.keep n';exact q _ _ F2 r2 (s'.trans s2) p2
theorem aaG(h:PXA X C es r):PXN X C (.List es pos) (cC r):=(amu h).imp λσ H Q hq=>by
 obtain⟨Pr,F,env,env',d,rl,e,q⟩:=hq;obtain⟨ds,aO,e1,e2⟩:=bj e;split at e2
 ·rename_i hz;cases e2;refine⟨Pr,F,env,env',ds,rl,e1,λvs H1 F1 r1 s1 p1=>⟨by rw[p1.length];exact hz,λp hp=>?_⟩⟩;exact q _ _ F1 (r1.fresh hp) s1<|New.of r1 hp ⟨hz,vs,bz,p1⟩
 ·cases e2
abbrev GV:=D->Env->Option Env
abbrev GVs:=List D->Env->Option Env
inductive tG (C:Cfg) (lo:Nat) (gv:GV) (v:L2.V) (σ:L2.St) (H:Hp) (Q:L2.St->Hp->Prop):Prop
 | mk (Pr F:Hp) (env env':Env) (d:D) (_:Rel C Pr F env σ H) (_:Rep C.K F d v) (_:gv d env=some env') (_:∀σ' H' F',Rel C Pr F' env' σ' H'->aX F F'->σ'.take lo=σ.take lo->Q σ' H'):tG C lo gv v σ H Q
inductive tGs (C:Cfg) (lo:Nat) (gv:GVs) (vs:List L2.V) (σ:L2.St) (H:Hp) (Q:L2.St->Hp->Prop):Prop
 | mk (Pr F:Hp) (env env':Env) (ds:List D) (_:Rel C Pr F env σ H) (_:cD C.K F ds vs) (_:gv ds env=some env') (_:∀σ' H' F',Rel C Pr F' env' σ' H'->aX F F'->σ'.take lo=σ.take lo->Q σ' H'):tGs C lo gv vs σ H Q
def PXG(X:Cx)(C:Cfg)(lo:Nat)(e:Expr)(gv:GV):Prop:=PG X e (tG C lo gv)
def apn(X:Cx)(C:Cfg)(lo:Nat)(es:List Expr)(gv:GVs):Prop:=PGs X es (tGs C lo gv)
theorem _root_.L2.PG.imp{X:Cx}{e:Expr}{t t':TG}(h:PG X e t)(i:∀v σ H Q,t' v σ H Q->t v σ H Q):PG X e t':=λpins s σ H v u Q I r q=>h pins s σ H v u Q I r<|i v σ H Q q
theorem _root_.L2.PGs.imp{X:Cx}{e:List Expr}{t t':TGs}(h:PGs X e t)(i:∀v σ H Q,t' v σ H Q->t v σ H Q):PGs X e t':=λpins s σ H v u Q I r q=>h pins s σ H v u Q I r<|i v σ H Q q
noncomputable def aq(i:Nat):GV:=λd env=>some (env.set i (some (false,d)))
theorem aeA{lo i:Nat}(hN:X.N.Nodup)(hi:X.N[i]? = some x)(hx:Loc X.env.scope x)(hlo:lo<=i)(hfx:C.fx i=none)(hf:X.fn x=true\/X.env.scope.names.lookup x=some .local:=by first|exact .inl rfl|exact .inr rfl|assumption):PXG X C lo (.Name x pos) (aq i):=
 (aix hN hi hx hf).imp λv σ H Q h=>by
  obtain⟨Pr,F,env,env',d,r,p,e,q⟩:=h;cases e;exact q _ _ F (r.put hfx p) (aX.refl F) (by rw[List.take_set_of_le hlo])
noncomputable def cQ:GVs:=λds env=>if ds.isEmpty then some env else none
noncomputable def aN(g:GV)(gs:GVs):GVs:=λds env=>match ds with
 | d::r=>(g d env).bind λe1=>gs r e1
 | []=>none
theorem aez{lo:Nat}:apn X C lo [] cQ:=aiw.imp λv σ H Q h=>by
 obtain⟨Pr,F,env,env',ds,r,p,e,q⟩:=h;cases ds with
 | nil=>cases e;cases p;exact⟨rfl,q _ _ F r (aX.refl F) rfl⟩
 | cons d ds=>cases e
noncomputable def cO(n:Nat)(gs:GVs):GV:=λd env=>match d with
 | .tup ds=>if ds.length=n then gs ds env else none
 | _=>none
theorem aie{lo:Nat}{k:Nat}(hc:X.calm=true)(hK:X.K=C.K)(h:apn X C lo es gs)
  (hn:(assignEach es X.env).length=n:=by rfl) (hst:(assignEach es X.env).findIdx? (·.1)=none:=by rfl):PXG X C lo (.Tuple es k pos) (cO n gs):=(amm hc h hn hst).imp λv σ H Q h=>by
 obtain⟨Pr,F,env,env',d,r,p,e,q⟩:=h;cases d with
 | tup ds=>
  obtain⟨z,a,vs,rfl,h1,h2⟩:=p;unfold cO at e;simp only at e;split at e
  ·rename_i hl;rw[hK];exact⟨a,vs,rfl,aX.tupK r.fr h1,by rw[h2.length];exact hl,Pr,F,env,env',ds,r,h2,e,q⟩
  ·cases e
 | _=>cases e
def ajh(i:Nat)(ix:Ev):GV:=λd env=>match env[i]? with
 | some (some (_,_))=>(match ix env with
  | .ok (.int k) aO=>(match aO[i]? with
   | some (some (true,.lst xs))=>(ixN xs.length k).map λj=>aO.set i (some (true,.lst (xs.set j d)))
   | _=>none)
  | _=>none)
 | _=>none
theorem al6{lo i:Nat}(hN:X.N[i]? = some x)(hv:Hg X.env.scope x)(h:PX X C ix ev)
  (ha:∀v,assign (.Subscript (.Name x px) ix pos) X.env v=(do
   let ov <-holding [v] (eval (.Name x px) X.env)
   let iv <-holding [v,ov] (eval ix X.env)
   standAt pos
   holding [v,ov,iv] (setItem ov iv v)
   release [v,ov,iv] []):=by intro _;rfl)
  (hd:qx x:=by decide) (hcd:Bt x:=by decide):PXG X C lo (.Subscript (.Name x px) ix pos) (ajh i ev):=
 (amn (lH hN hv hd hcd) h set_list ha).imp λv σ H Q hq=>by
  obtain⟨Pr,F,env,env',d,r,p,e,q⟩:=hq;unfold ajh at e;split at e
  ·rename_i o0 d0 h0;obtain⟨v0,hv0,_⟩:=r.rd h0;split at e
   ·rename_i k aO e1;split at e
    ·rename_i xs h2;obtain⟨j,hj,e3⟩:=Qwy.mp e;subst e3;refine⟨v0,hv0,Pr,F,env,aO,.int k,r,e1,λvi H1 F1 r1 s1 p1=>?_⟩;cases p1;obtain⟨a,g1,⟨z,vs,g2,g3⟩,g4,g5⟩:=r1.own i _ h2;rw[hv0] at g1;cases g1;refine⟨a,vs,k,j,rfl,rfl,g2,by rw[g3.length];exact hj,?_⟩;refine q σ _ F1 (r1.write h2 hv0 ⟨by simp_all,vs.set j v,bz,cD.set (Rep.mono s1 d v p) j g3⟩) s1 rfl
    ·cases e
   ·cases e
  ·cases e
end
inductive Out where
 | nx (env:Env)
 | rt (o:Bool) (d:D) (env:Env)
 | bk (env:Env)
 | ct (env:Env)
 | stuck
abbrev cB:=Env->Out
def Fin(C:Cfg)(Pr F:Hp)(D:Ends):Out->Prop
 | .nx env'=>∀σ' H' F',Rel C Pr F' env' σ' H'->aX F F'->D.nx σ' H'
 | .rt false d env'=>∀v σ' H' F',Rel C Pr F' env' σ' H'->aX F F'->Rep C.K F' d v->D.rt v H'
 | .rt true d env'=>∀a σ' H' F',Rel C Pr F' env' σ' H'->aX F F'->New C.K Pr F' env' σ' H' d a->D.rt (.ref a) H'
 | .bk env'=>∀σ' H' F',Rel C Pr F' env' σ' H'->aX F F'->D.bk σ' H'
 | .ct env'=>∀σ' H' F',Rel C Pr F' env' σ' H'->aX F F'->D.ct σ' H'
 | .stuck=>False
theorem Fin.mono{D:Ends}(s:aX F F1):∀{o},Fin C Pr F D o->Fin C Pr F1 D o
 | .nx _,h=>λσ' H' F' r t=>h σ' H' F' r<|s.trans t
 | .rt false _ _,h=>λv σ' H' F' r t=>h v σ' H' F' r<|s.trans t
 | .rt true _ _,h=>λv σ' H' F' r t=>h v σ' H' F' r<|s.trans t
 | .bk _,h=>λσ' H' F' r t=>h σ' H' F' r<|s.trans t
 | .ct _,h=>λσ' H' F' r t=>h σ' H' F' r<|s.trans t
 | .stuck,h=>h
inductive tS (C:Cfg) (ev:cB) (D:L2.Ends) (σ:L2.St) (H:Hp):Prop
 | mk (Pr F:Hp) (env:Env) (_:Rel C Pr F env σ H) (_:Fin C Pr F D (ev env)):tS C ev D σ H
def PXS(X:Cx)(C:Cfg)(st:Stmt)(ev:cB):Prop:=PS X st (tS C ev)
def Hh(X:Cx)(C:Cfg)(st:List Stmt)(ev:cB):Prop:=Xx X st (tS C ev)
noncomputable def gO{α:Type}(x:R α)(f:α->Env->Out):Out:=match x with
 | .ok a env=>f a env
 | .stuck=>.stuck
theorem jq{D:Ends}{α:Type}{x:R α}{f:α->Env->Out}(h:Fin C Pr F D (gO x f)):∃a aO,x = .ok a aO/\Fin C Pr F D (f a aO):=by
 cases x with
 | ok a aO=>exact⟨a,aO,rfl,h⟩
 | stuck=>exact h.elim
section
variable{X:Cx}{C:Cfg}{pos:Pos}
noncomputable def bN:cB:=λenv=>.nx env
noncomputable def aL(a b:cB):cB:=λenv=>match a env with
 | .nx e=>b e
 | .rt o d e=>.rt o d e
 | .bk e=>.bk e
 | .ct e=>.ct e
 | .stuck=>.stuck
theorem aeu:Hh X C [] bN:=aim.imp λD σ H h=>by
 obtain⟨Pr,F,env,r,f⟩:=h;exact f σ H F r<|aX.refl F
def dH(t:gR)(a b:cB):cB:=λenv=>gO (t env) λc aO=>if c=true then a aO else b aO
def bu(a:Ev):cB:=λenv=>gO (a env) λd aO=>.rt false d aO
def Bc(a:Ev):cB:=λenv=>gO (a env) λd aO=>.rt true d aO
noncomputable def alN:cB:=λenv=>.rt false .non env
noncomputable def Qu(o:Option Env):Out:=match o with
 | some e=>.nx e
 | none=>.stuck
def bh(a:Ev)(g:GV):cB:=λenv=>gO (a env) λd aO=>Qu (g d aO)
theorem ao8{D:Ends}(h:tS C (bh a g) D σ H):ahD (tE C a) (tG C 0 g) D σ H:=by
 obtain⟨Pr,F,env,r,f⟩:=h;obtain⟨d,aO,e1,f1⟩:=jq f;refine⟨Pr,F,env,aO,d,r,e1,λv H1 F1 r1 s1 p1=>?_⟩;cases e2:g d aO with
 | none=>rw[e2] at f1;exact f1.elim
 | some fP=>rw[e2] at f1;exact⟨Pr,F1,aO,fP,d,r1,p1,e2,λσ2 H2 F2 r2 s2 _=>f1 σ2 H2 F2 r2<|s1.trans s2⟩
theorem ah7(hN:X.N.Nodup)(hi:X.N[i]? = some x)(hx:Loc X.env.scope x)(hfx:C.fx i=none)(he:PX X C e a)(hs:swapsWith e (some (.Name x pos')) pos.line X.env=pure false:=by rfl)(hf:X.fn x=true\/X.env.scope.names.lookup x=some .local:=by first|exact .inl rfl|exact .inr rfl|assumption) :
  PXS X C (.Assign [.Name x pos'] e pos) (bh a (aq i)):=(aeH hN hi hx he hs hf).imp λD σ H h=>by
 obtain⟨Pr,F,env,r,f⟩:=h;obtain⟨d,aO,e1,f1⟩:=jq f;exact⟨Pr,F,env,aO,d,r,e1,λv H1 F1 r1 s1 p1=>f1 _ H1 F1 (r1.put hfx p1) s1⟩
def fD(i:Nat)(a:Ev):cB:=λenv=>gO (a env) λd aO=>.nx (aO.set i (some (true,d)))
theorem ah8(hN:X.N.Nodup)(hi:X.N[i]? = some x)(hx:Loc X.env.scope x)(hfx:C.fx i=none)(he:PXN X C e a)(hs:swapsWith e (some (.Name x pos')) pos.line X.env=pure false:=by rfl)(hf:X.fn x=true\/X.env.scope.names.lookup x=some .local:=by first|exact .inl rfl|exact .inr rfl|assumption) :
  PXS X C (.Assign [.Name x pos'] e pos) (fD i a):=(aeH hN hi hx he hs hf).imp λD σ H h=>by
 obtain⟨Pr,F,env,r,f⟩:=h;obtain⟨d,aO,e1,f1⟩:=jq f;exact⟨Pr,F,env,aO,d,r,e1,λv H1 F1 r1 s1 p1=>f1 _ H1 F1 (r1.aeD hfx p1) s1⟩
def iK(i:Nat)(a:Ev):cB:=λenv=>match env[i]? with
 | some (some (true,.lst _))=>gO (a env) λd aO=>(match aO[i]? with
  | some (some (true,.lst xs))=>if xs.length<sizeLine then .nx (aO.set i (some (true,.lst (xs++[d])))) else .stuck
  | _=>.stuck)
 | _=>.stuck
theorem aia(hN:X.N[i]? = some x)(hv:Hg X.env.scope x)(he:PX X C e a)(hK:X.K=C.K)
  (hs:swapsWith (.Call (.Attribute (.Name x px) "append" apos) [e] [] cpos) none pos.line X.env=pure false:=by rfl)
  (hfew:((backTo cpos (starEach [e] X.env)).all (λx=>!x.1)&&(backToKw cpos (keywordEach [] X.env)).all (λx=>x.1.isSome)
   && decide ([e].length+([]:List Keyword).length+(if ([]:List Keyword).isEmpty then 0 else 1)<30))=true:=by rfl)
  (hbase:attributeBase (.Name x px) "append" X.env (eval (.Name x px) X.env)=eval (.Name x px) X.env:=by rfl)
  (hline:(apos.endLine == cpos.line)=true:=by rfl) (hst:sEn e X.env:=by rfl) (hplain:(backTo cpos (starEach [] X.env)).any (·.1)=false:=by rfl)
  (hd:qx x:=by decide) (hcd:Bt x:=by decide):PXS X C (.Expr (.Call (.Attribute (.Name x px) "append" apos) [e] [] cpos) pos) (iK i a):=by
 refine PS.imp (ain (akP PySem.F.plainAttrs_list PySem.F.slot_list_append PySem.F.type_list_append Qt (lH hN hv hd hcd) (jj he xu hst) hbase hfew hline hst hplain) hs) λD σ H h=>?_;obtain⟨Pr,F,env,r,f⟩:=h;unfold iK at f;split at f
 ·rename_i xs0 h0;obtain⟨d,aO,e1,f1⟩:=jq f;obtain⟨a0,hv0,⟨z0,vs0,g0,_⟩,_⟩:=r.own i _ h0;refine⟨_,hv0,.inl ⟨rfl,vs0,uR.of g0⟩,Pr,F,env,aO,d,r,e1,λv H1 F1 r1 s1 p1=>?_⟩;split at f1
  ·rename_i xs h1;split at f1
   ·rename_i hz;obtain⟨a,g1,⟨z,vs,g2,g3⟩,g4,g5⟩:=r1.own i _ h1;rw[hv0] at g1;cases g1;refine⟨a0,vs,v,rfl,rfl,g2,by rw[g3.length];exact hz,?_⟩;exact f1 σ _ F1 (r1.write h1 hv0 ⟨by rw[Qqj];exact hz,vs++[v],bz,g3.append<|cD.one p1⟩) s1
   ·exact f1.elim
  ·exact f1.elim
 ·exact f.elim
def uB(K:Fg)(F:Hp)(ds:List D)(J:It):Prop:=∀(i:Nat) (H:Hp),aX F H->(ds[i]? = none->i=ds.length->J.stop i H)/\∀d,ds[i]? = some d->J.go i H/\∀x H',J.yld i H x H'->
 (H'=H/\Rep K F d x)\/∃p vs es,H p=none/\H'=upd H p (.tup vs)/\x = .ref p/\d = .tup es/\es.length<=sizeLine/\cD K F es vs
inductive tI (C:Cfg) (ev:d7) (σ:L2.St) (H:Hp) (R:L2.It->Hp->Prop):Prop
 | mk (Pr F:Hp) (env env':Env) (ds:List D) (_:Rel C Pr F env σ H) (_:ev env = .ok ds env') (_:∀J H' F',Rel C Pr F' env' σ H'->aX F F'->uB C.K F' ds J->R J H'):tI C ev σ H R
def PXI(X:Cx)(C:Cfg)(tg iter:Expr)(ev:d7):Prop:=PI X tg iter (tI C ev)
theorem _root_.L2.PI.imp{X:Cx}{tg e:Expr}{t t':TI}(h:PI X tg e t)(i:∀σ H R,t' σ H R->t σ H R):PI X tg e t':=λpins s σ H R I q=>h pins s σ H R I<|i σ H R q
theorem uB.item(r:Rel C Pr F1 env σ H)(s:aX F F1)(y:uB C.K F ds J)(hd:ds[i]? = some d)(hy:J.yld i H x H') :
  ∃F2,Rel C Pr F2 env σ H'/\aX F1 F2/\Rep C.K F2 d x:=by
 rcases((y i H<|s.trans r.fr).2 d hd).2 x H' hy with ⟨rfl,p⟩|⟨p,vs,es,hp,rfl,rfl,rfl,hz,q⟩
 ·exact⟨F1,r,aX.refl F1,Rep.mono s _ _ p⟩
 ·obtain⟨r2,s2⟩:=r.new hp;exact⟨_,r2,s2,hz,p,vs,rfl,qe.of bz,cD.mono (s.trans s2) _ _ q⟩
noncomputable def mQ(g:GV)(b:cB):List D->cB
 | [],env=>.nx env
 | d::ds,env=>(match g d env with
  | none=>.stuck
  | some e1=>(match b e1 with
   | .nx e2=>mQ g b ds e2
   | .ct e2=>mQ g b ds e2
   | .bk e2=>.nx e2
   | .rt o d e2=>.rt o d e2
   | .stuck=>.stuck))
def ju(it:d7)(g:GV)(b:cB):cB:=λenv=>gO (it env) λds aO=>mQ g b ds aO
theorem ah9(hp:PassesOwn (model X.prog X.w) X.A X.env X.xe)(hc:X.calm=true)(hi:PXI X C tg iter it)(hg:PXG X C 0 tg g)(hb:Hh X C body b)
  (hs:∀x,foldedSetIterable iter X.env x=pure x:=by intro _;rfl):PXS X C (.For tg iter body [] pos) (ju it g b):=(amh hp hc hi hg hb hs).imp λD σ H h=>by
 obtain⟨Pr,F,env,r,f⟩:=h;obtain⟨ds,aO,e1,f1⟩:=jq f;refine⟨Pr,F,env,aO,ds,r,e1,λJ H1 F1 r1 s1 y1=>?_⟩;refine⟨λi m σ' H'=>m=ds.length - i/\i<=ds.length/\∃F' env',Rel C Pr F' env' σ' H'/\aX F1 F'/\Fin C Pr F' D (mQ g b (ds.drop i) env'),⟨ds.length,rfl,Qxx _,F1,aO,r1,aX.refl _,f1.mono s1⟩,?_⟩;rintro i m σ' H' ⟨rfl,hi,F',env',r',s',f'⟩;by_cases hl:i<ds.length
 ·have hd:=Qx4 hl;have hdr:=Qz8 hl;have yy:=y1 i H'<|s'.trans r'.fr;refine .inr ⟨(yy.2 _ hd).1,λσ2 H2=>∃F' env',Rel C Pr F' env' σ2 H2/\aX F1 F'/\Fin C Pr F' D (mQ g b (ds.drop<|i+1) env'),λσ2 H2 h2=>⟨ds.length - (i+1),by omega,rfl,hl,h2⟩,λx H2 hy=>?_⟩;obtain⟨F2,r2,s2,p2⟩:=uB.item r' s' y1 hd hy;rw[hdr] at f';have f2:=f'.mono s2;unfold mQ at f2;cases eg:g ds[i] env' with
  | none=>rw[eg] at f2;exact f2.elim
  | some e2=>
   rw[eg] at f2;refine⟨Pr,F2,env',e2,ds[i],r2,p2,eg,λσ3 H3 F3 r3 s3 _=>⟨Pr,F3,e2,r3,?_⟩⟩;simp at f2;have s13:=(s'.trans s2).trans s3;cases eb:b e2 with
   | nx e3=>rw[eb] at f2;exact λσ4 H4 F4 r4 s4=>⟨F4,e3,r4,s13.trans s4,f2.mono<|s3.trans s4⟩
   | ct e3=>rw[eb] at f2;exact λσ4 H4 F4 r4 s4=>⟨F4,e3,r4,s13.trans s4,f2.mono<|s3.trans s4⟩
   | bk e3=>rw[eb] at f2;exact λσ4 H4 F4 r4 s4=>f2 σ4 H4 F4 r4<|s3.trans s4
   | rt o d e3=>rw[eb] at f2;cases o<;>exact λv σ4 H4 F4 r4 s4 p4=>f2 v σ4 H4 F4 r4 (s3.trans s4) p4
   | stuck=>rw[eb] at f2;exact f2.elim
 ·have e:i=ds.length:=by omega
  subst e;rw[List.drop_length] at f';exact .inl ⟨(y1 _ H'<|s'.trans r'.fr).1 (List.getElem?_eq_none<|Qq0 _) rfl,f' σ' H' F' r'<|aX.refl F'⟩
noncomputable def Sy(t:gR)(b:cB):Nat->cB
 | 0,_=>.stuck
 | n+1,env=>gO (t env) λc e1=>if c=true then (match b e1 with
   | .nx e2=>Sy t b n e2
   | .ct e2=>Sy t b n e2
   | .bk e2=>.nx e2
   | .rt o d e2=>.rt o d e2
   | .stuck=>.stuck) else .nx e1
end
end Ev
namespace L2
open PySem PySem.Spec PyProof.Rows
noncomputable def Its(z:Str):It:=⟨λi _=>i<z.cps.size,λi H x H'=>H'=H/\∃c,z.cps[i]? = some c/\x = .str ⟨#[c]⟩,λi _=>z.cps.size<=i⟩
theorem abn{P:Program}{w:World}{K:PySem.W.Frag}{tg:Expr}(it:Addr)(z:Str)(t:Tok):Turn P w K tg (Its z) [it] it (λi h=>h.IsStrIter it "str_ascii_iterator" z t i/\i<=z.cps.size) where
 mem:=by simp
 obj:=λi h st b hb=>by
  have e:b=it:=by simp_all
  subst e;obtain⟨⟨o,ho,hc,hd⟩,_⟩:=st
  simp_all
 keep:=λi h h' st k=>let ⟨⟨o,ho,r⟩,l⟩:=st;⟨⟨o,k it (by simp) o ho,r⟩,l⟩
 item:=by intro X hP hw hK hc i pins s σ H E I hf st hg;subst hP hw hK;obtain⟨f0,f1,f2,f3,f4,f5⟩:=hf it (by simp);have hg':i<z.cps.size:=hg;refine wpAny_pyNext_ascii_item st.1 (c:=z.cps[i]) (by simp[hg']) λh' hit' hs'=>?_;have I1:Inv X pins σ H { s with heap:=h',toks:=s.toks+1 }:=I.turned (λb o hb e=>hs'.extBut b o hb e) f0 f1 f3 f4 f5;obtain⟨o,ho,hcl,hda⟩:=hit';refine⟨_,rfl,Rk ho hcl hda (by decide) ⟨.str ⟨#[z.cps[i]]⟩,H,I1,⟨_,rfl⟩,⟨rfl,_,by simp[hg'],rfl⟩,⟨⟨o,ho,hcl,hda⟩,hg'⟩,λb hb=>(hf b hb).1⟩⟩
 done:=by intro X hP hw hK hc i pins s σ H E I hf st hg;subst hP hw hK;obtain⟨f0,f1,f2,f3,f4,f5⟩:=hf it (by simp);have hg':z.cps.size<=i:=hg;exact wpAny_pyNext_ascii_end (I.ok.hd hc) st.1 (by simp;omega) λh' eb=>⟨rfl,I.turned (λb o hb e=>eb b o hb e) f0 f1 f3 f4 f5⟩
 self:=λ_ _ _ _ _ st h=>wpAny_pyIter_striter_ascii st.1 h
theorem abm{P:Program}{w:World}{K:PySem.W.Frag}{tg:Expr}(it:Addr)(z:Str)(t:Tok):Turn P w K tg (Its z) [it] it (λi h=>h.IsStrIter it "str_iterator" z t i/\i<=z.cps.size) where
 mem:=by simp
 obj:=λi h st b hb=>by
  have e:b=it:=by simp_all
  subst e;obtain⟨⟨o,ho,hc,hd⟩,_⟩:=st
  simp_all
 keep:=λi h h' st k=>let ⟨⟨o,ho,r⟩,l⟩:=st;⟨⟨o,k it (by simp) o ho,r⟩,l⟩
 item:=by intro X hP hw hK hc i pins s σ H E I hf st hg;subst hP hw hK;obtain⟨f0,f1,f2,f3,f4,f5⟩:=hf it (by simp);have hg':i<z.cps.size:=hg;refine wpAny_pyNext_wide_item st.1 (c:=z.cps[i]) (by simp[hg']) λh' hit' hs'=>?_;have I1:Inv X pins σ H { s with heap:=h',toks:=s.toks+1 }:=I.turned (λb o hb e=>hs'.extBut b o hb e) f0 f1 f3 f4 f5;obtain⟨o,ho,hcl,hda⟩:=hit';refine⟨_,rfl,Rk ho hcl hda (by decide) ⟨.str ⟨#[z.cps[i]]⟩,H,I1,⟨_,rfl⟩,⟨rfl,_,by simp[hg'],rfl⟩,⟨⟨o,ho,hcl,hda⟩,hg'⟩,λb hb=>(hf b hb).1⟩⟩
 done:=by intro X hP hw hK hc i pins s σ H E I hf st hg;subst hP hw hK;obtain⟨f0,f1,f2,f3,f4,f5⟩:=hf it (by simp);have hg':z.cps.size<=i:=hg;exact wpAny_pyNext_wide_end (I.ok.hd hc) st.1 (by simp;omega) λh' eb=>⟨rfl,I.turned (λb o hb e=>eb b o hb e) f0 f1 f3 f4 f5⟩
 self:=λ_ _ _ _ _ st h=>wpAny_pyIter_striter_wide st.1 h
section
variable{X:Cx}{tg:Expr}
def auz(K:PySem.W.Frag)(tl:TE):TI:=λσ H R=>tl σ H λx H1=>(∃a,x = .ref a/\(∃xs,uR K H1 a xs)/\R (Itl K a) H1)\/(∃a,x = .ref a/\(∃xs,qe K H1 a xs)/\R (Itt K a) H1)\/∃z,x = .str z/\R (Its z) H1
theorem aml(hl:PE X l tl):PI X tg l (auz X.K tl):=by
 intro pins s σ H R I h;refine gP (hl pins s σ H _ I h) λv s1 ⟨x,H1,I1,r1,q1⟩=>?_;have own:∀b ∈ [s1.heap.objs.size],wO X pins H1 b:=λb hb=>by
  have e:b=s1.heap.objs.size:=by simp_all
  subst e;exact I1.acL (Qq0 _)<|I1.hok.fresh<|Qq0 _
 rcases q1 with ⟨a,e,⟨xs,hq⟩,q⟩|⟨a,e,⟨xs,hq⟩,q⟩|⟨z,e,q⟩
 ·subst e;cases r1;obtain⟨its,rv,p,hz⟩:=I1.list hq;refine wpAny_pyIter_list p.isList ?_;exact⟨s1.heap.objs.size,[s1.heap.objs.size],_,_,H1,rfl,I1.kept λb o e=>Qqx _ e,abo a _,⟨_,Qq8 _ rfl,rfl,rfl⟩,own,q⟩
 ·subst e;cases r1;obtain⟨its,rv,p,hz⟩:=I1.tuple hq;refine wpAny_pyIter_tuple p ?_;exact⟨s1.heap.objs.size,[s1.heap.objs.size],_,_,H1,rfl,I1.kept λb o e=>Qqx _ e,XX a _,⟨_,Qq8 _ rfl,rfl,rfl⟩,own,q⟩
 ·subst e;obtain⟨t,rfl⟩:=r1;cases ha:z.cps.all (·< 128)
  ·exact wpAny_pyIter_wide ha ⟨s1.heap.objs.size,[s1.heap.objs.size],_,_,H1,rfl,I1.kept λb o e=>Qqx _ e,abm _ z t,⟨⟨_,Qq8 _ rfl,rfl,rfl⟩,Qxx _⟩,own,q⟩
  ·exact wpAny_pyIter_ascii ha ⟨s1.heap.objs.size,[s1.heap.objs.size],_,_,H1,rfl,I1.kept λb o e=>Qqx _ e,abn _ z t,⟨⟨_,Qq8 _ rfl,rfl,rfl⟩,Qxx _⟩,own,q⟩
noncomputable def aps(lo c:Int)(n:Nat):It:=⟨λi _=>i<n,λi H x H'=>H'=H/\x = .int (lo+i*c),λi _=>n<=i⟩
theorem Vg{P:Program}{w:World}{K:PySem.W.Frag}{tg:Expr}(it:Addr)(lo c:Int)(n:Nat):Turn P w K tg (aps lo c n) [it] it (λi h=>IsRangeIter h it (lo+(i:Nat)*c) ((n:Int) - (i:Nat)) c) where
 mem:=by simp
 obj:=λi h st b hb=>by
  simp_all
 keep:=λi h h' st k=>k it (by simp) _ st
 item:=by intro X hP hw hK hc i pins s σ H E I hf st hg;subst hP hw hK;obtain⟨f0,f1,f2,f3,f4,f5⟩:=hf it (by simp);have W:=Walks.range (prog:=X.prog) (w:=X.w) (I.ok.hd hc) it lo c n;refine W.item i s _ _ hg st λv h' tk hv st' kk=>?_;obtain⟨t,rfl⟩:=hv;have I1:Inv X pins σ H { s with heap:=h',toks:=tk }:=I.turned (λb o hb e=>kk b o (by simp_all) e) f0 f1 f3 f4 f5;exact⟨_,rfl,Rk st' rfl rfl (by decide) ⟨.int<|lo+i*c,H,I1,⟨t,rfl⟩,⟨rfl,rfl⟩,st',λb hb=>(hf b hb).1⟩⟩
 done:=by intro X hP hw hK hc i pins s σ H E I hf st hg;subst hP hw hK;obtain⟨f0,f1,f2,f3,f4,f5⟩:=hf it (by simp);exact wpAny_pyNext_range_end (I.ok.hd hc) st (by have:n<=i:=hg;omega) λh' eb=>⟨rfl,I.turned (λb o hb e=>eb b o hb e) f0 f1 f3 f4 f5⟩
 self:=λ_ _ _ _ _ st h=>wpAny_pyIter_rangeiter st h
def arL(ta:TA):TI:=λσ H R=>ta σ H λvs H1=>∃i j c:Int,vs=[.int i,.int j,.int c]/\c≠0/\c.natAbs<1073741824/\Builtin.Range.small i j c=true/\R (aps i c (Builtin.Range.rangeSize i j c).toNat) H1
theorem abR{p pos:Pos}(hg:Gl X "range")(hm:X.mg "range" = none)(ha:PA X [a,b,c] ta)(hs:starEach [a,b,c] X.env=[(false,eval a X.env),(false,eval b X.env),(false,eval c X.env)]:=by rfl)(hs2:starEach [b,c] X.env=[(false,eval b X.env),(false,eval c X.env)]:=by rfl) :
  PI X tg (.Call (.Name "range" p) [a,b,c] [] pos) (arL ta):=by
 intro pins s σ H R I h;refine Call_<|zG I hg hm boot_range<|Qx8 (gP (ha pos pins s σ H _ I h) λus s1 ⟨vs,H1,I1,r1,q1⟩=>?_) (by rw[hs,hs2]) (by rw[hs2];rfl);obtain⟨i,j,c,e,hc,hcs,hsm,q⟩:=q1;subst e;cases r1 with
 | cons r rr=>
  cases rr with
  | cons r' rr=>
   cases rr with
   | cons r'' rr=>
    cases rr;obtain⟨t,rfl⟩:=r;obtain⟨t',rfl⟩:=r';obtain⟨t'',rfl⟩:=r'';refine call_range_3 hc ?_<|.inl<|PyProof.noPylong_small hcs;refine wpAny_pyIter_range (IsRange.new ..) hsm ?_;generalize ho:({ cls:=.type "range",data:=.fields #[.int i t,.int j t',.int c t''] }:Obj)=o;have I2:Inv X pins σ H1 { s1 with heap:=s1.heap.push o,toks:=s1.toks }:=I1.kept λb o e=>Qqx _ e;refine⟨(s1.heap.push o).objs.size,[(s1.heap.push o).objs.size],_,_,H1,rfl,I2.kept λb o e=>Qqx _ e,Vg _ i c (Builtin.Range.rangeSize i j c).toNat,?_,λb hb=>?_,q⟩
    ·have e1:i+(0:Nat)*c=i:=by simp
     have e2:((Builtin.Range.rangeSize i j c).toNat) - ((0:Nat):Int)=Builtin.Range.rangeSize i j c:=by have:=PyProof.Rows.rangeSize_toNat i j c;omega
     show IsRangeIter _ _ (i+((0:Nat):Int)*c) (((Builtin.Range.rangeSize i j c).toNat:Int) - ((0:Nat):Int)) c;rw[e1,e2];exact Qq8 _ rfl
    ·have e:b=(s1.heap.push o).objs.size:=by simp_all
     subst e;exact I2.acL (Qq0 _)<|I2.hok.fresh<|Qq0 _
end
end L2
namespace Ev
open PySem PySem.Spec PyProof.Rows L2
section
variable{X:Cx}{C:Cfg}{pos:Pos}{tg:Expr}
noncomputable def fc(x:List Nat):List D:=x.map λc=>.str [c]
theorem XH(h:qe C.K F a vs)(p:cD C.K F ds vs):uB C.K F ds (Itt C.K a):=λi H s=>by
 refine⟨λ_ e=>⟨vs,aX.tupK s h,by rw[p.length,e];exact Qq0 _⟩,λd hd=>?_⟩;obtain⟨v,h1,h2⟩:=p.get hd;refine⟨⟨vs,v,aX.tupK s h,h1⟩,λx H' hy=>.inl ⟨hy.1,?_⟩⟩;have:=hy.2 vs<|aX.tupK s h
 simp_all
theorem XJ:uB C.K F (fc x) (Its (strOf x)):=λi H s=>by
 refine⟨λ_ e=>?_,λd hd=>?_⟩
 ·show x.toArray.size<=i;rw[e];simp[fc]
 ·unfold fc at hd;rw[Qx5] at hd;obtain⟨c,hc,rfl⟩:=Qwy.mp hd;refine⟨?_,λv H' hy=>.inl ⟨hy.1,?_⟩⟩
  ·show i<x.toArray.size;have:=(Qq9.mp hc).1
   simpa using this
  ·obtain⟨c',h1,rfl⟩:=hy.2;have h2:x[i]? = some c':=by simpa[strOf] using h1
   rw[hc] at h2;cases h2;exact⟨rfl,by show 1<=sizeLine;decide⟩
def itD:D->Option (List D)
 | .lst xs=>some xs
 | .arr xs=>some xs
 | .tup xs=>some xs
 | .str x=>some (fc x)
 | _=>none
def gW(a:Ev):d7:=λenv=>bindR (a env) λd aO=>fX (itD d) aO
theorem aid(hK:X.K=C.K)(h:PX X C l a):PXI X C tg l (gW a):=(aml h).imp λσ H R hq=>by
 obtain⟨Pr,F,env,env',ds,r,e,q⟩:=hq;obtain⟨d,aO,e1,e2⟩:=bj e;obtain⟨e3,rfl⟩:=eY e2;refine⟨Pr,F,env,env',d,r,e1,λv H1 F1 r1 s1 p1=>?_⟩;rw[hK];cases d with
 | lst xs=>
  cases e3;obtain⟨z,a,vs,rfl,g1,g2⟩:=p1;refine .inl ⟨a,rfl,⟨vs,uR.of<|r1.fr _ _ g1⟩,q _ H1 F1 r1 s1 λi H s=>?_⟩;refine⟨λ_ e=>⟨vs,uR.of<|s _ _ g1,by rw[g2.length,e];exact Qq0 _⟩,λd hd=>?_⟩;obtain⟨v,h1,h2⟩:=g2.get hd;refine⟨⟨vs,v,uR.of<|s _ _ g1,h1⟩,λx H' hy=>.inl ⟨hy.1,?_⟩⟩;have:=hy.2 vs<|uR.of<|s _ _ g1;rw[h1] at this;cases this;exact h2
 | arr xs=>
  cases e3;obtain⟨z,a,vs,rfl,g1,g2⟩:=p1;refine .inl ⟨a,rfl,⟨vs,r1.fr.seq g1⟩,q _ H1 F1 r1 s1 λi H s=>?_⟩;refine⟨λ_ e=>⟨vs,s.seq g1,by rw[g2.length,e];exact Qq0 _⟩,λd hd=>?_⟩;obtain⟨v,h1,h2⟩:=g2.get hd;refine⟨⟨vs,v,s.seq g1,h1⟩,λx H' hy=>.inl ⟨hy.1,?_⟩⟩;have:=hy.2 vs<|s.seq g1;rw[h1] at this;cases this;exact h2
 | tup xs=>
  cases e3;obtain⟨z,a,vs,rfl,g1,g2⟩:=p1;exact .inr<|.inl ⟨a,rfl,⟨vs,aX.tupK r1.fr g1⟩,q _ H1 F1 r1 s1<|XH g1 g2⟩
 | str x=>
  cases e3;obtain⟨rfl,z⟩:=p1;exact .inr<|.inr ⟨_,rfl,q _ H1 F1 r1 s1 XJ⟩
 | _=>cases e3
noncomputable def iu(lo c:Int)(n:Nat):List D:=(List.range n).map λ(i:Nat)=>.int (lo+i*c)
theorem mH(lo c)(n):(iu lo c n).length=n:=by simp[iu]
theorem yS{lo c:Int}(h:(iu lo c n)[i]? = some d):i<n/\d = .int (lo+i*c):=by
 have hi:i<n:=by
  have:=(Qq9.mp h).1
  rwa [mH] at this
 refine⟨hi,?_⟩;unfold iu at h
 simp_all
theorem XM{lo:Int}:uB C.K F (iu lo 1 n) (Itr lo n):=λi H s=>by
 refine⟨λ_ e=>by rw[e,mH];exact Qq0 _,λd hd=>?_⟩;obtain⟨hi,rfl⟩:=yS hd;refine⟨hi,λx H' hy=>.inl ⟨hy.1,?_⟩⟩;rw[Int.mul_one];exact hy.2
theorem U7{lo c:Int}:uB C.K F (iu lo c n) (aps lo c n):=λi H s=>by
 refine⟨λ_ e=>by rw[e,mH];exact Qq0 _,λd hd=>?_⟩;obtain⟨hi,rfl⟩:=yS hd;exact⟨hi,λx H' hy=>.inl ⟨hy.1,hy.2⟩⟩
noncomputable def lZ(j:Int):Bool:=decide (-(2^62)<=j)&&decide (j<2^62)
theorem YS(h:lZ j=true) : -(2^62)<=j/\j<2^62:=by
 unfold lZ at h
 simp_all
def wK:List D->Option (List D)
 | [.int j]=>if lZ j=true then some (iu 0 1 j.toNat) else none
 | [.int i,.int j]=>if lZ i=true/\lZ j=true then some (iu i 1 (j - i).toNat) else none
 | [.int i,.int j,.int c]=>if c≠0/\c.natAbs<1073741824/\Builtin.Range.small i j c=true then some (iu i c (Builtin.Range.rangeSize i j c).toNat) else none
 | _=>none
def jy(a:d7):d7:=λenv=>bindR (a env) λds aO=>fX (wK ds) aO
theorem cD.auw(h:cD C.K F [.int i] vs):vs=[.int i]:=by obtain⟨v,r,rfl,h1,h2⟩:=h;cases h1;cases h2;rfl
theorem cD.auv(h:cD C.K F [.int i,.int j,.int k] vs):vs=[.int i,.int j,.int k]:=by obtain⟨v,r,rfl,h1,v',r',rfl,h2,v'',r'',rfl,h3,h4⟩:=h;cases h1;cases h2;cases h3;cases h4;rfl
theorem YX(hg:Gl X "range")(hm:X.mg "range" = none)(ha:PXA X C [a] ea)(hl:∀env ds env',ea env = .ok ds env'->ds.length=1)(hs:starEach [a] X.env=[(false,eval a X.env)]:=by rfl):PXI X C tg (.Call (.Name "range" p) [a] [] pos) (jy ea):=
 (abS hg hm ha hs).imp λσ H R hq=>by
  obtain⟨Pr,F,env,env',ds,r,e,q⟩:=hq;obtain⟨as,aO,e1,e2⟩:=bj e;obtain⟨e3,rfl⟩:=eY e2;refine⟨Pr,F,env,env',as,r,e1,λvs H1 F1 r1 s1 p1=>?_⟩;have:=hl _ _ _ e1;unfold wK at e3;split at e3
  ·split at e3
   ·rename_i hf;cases e3;have hb:=YS hf;exact⟨_,p1.auw,hb.1,hb.2,q _ H1 F1 r1 s1 XM⟩
   ·cases e3
  all_goals simp_all
theorem YW{p pos:Pos}(hg:Gl X "range")(hm:X.mg "range" = none)(ha:PXA X C [a,b,c] ea)(hl:∀env ds env',ea env = .ok ds env'->ds.length=3)(hs:starEach [a,b,c] X.env=[(false,eval a X.env),(false,eval b X.env),(false,eval c X.env)]:=by rfl)(hs2:starEach [b,c] X.env=[(false,eval b X.env),(false,eval c X.env)]:=by rfl):PXI X C tg (.Call (.Name "range" p) [a,b,c] [] pos) (jy ea):=
 (abR hg hm ha hs hs2).imp λσ H R hq=>by
  obtain⟨Pr,F,env,env',ds,r,e,q⟩:=hq;obtain⟨as,aO,e1,e2⟩:=bj e;obtain⟨e3,rfl⟩:=eY e2;refine⟨Pr,F,env,env',as,r,e1,λvs H1 F1 r1 s1 p1=>?_⟩;have:=hl _ _ _ e1;unfold wK at e3;split at e3
  ·simp at this
  ·simp at this
  ·split at e3
   ·rename_i hf;cases e3;exact⟨_,_,_,p1.auv,hf.1,hf.2.1,hf.2.2,q _ H1 F1 r1 s1 U7⟩
   ·cases e3
  ·cases e3
theorem acQ(env)(ds)(env')(h:ao env = .ok ds env'):ds.length=0:=by cases h;rfl
theorem Z2(hr:∀env ds env',r env = .ok ds env'->ds.length=n)(env)(ds)(env')(h:aa a r env = .ok ds env'):ds.length=n+1:=by
 obtain⟨d,aO,e1,e2⟩:=bj h;obtain⟨ds2,fP,e3,e4⟩:=bj e2
 grind
theorem cD.uO{K:Fg}(h:cD K F ds vs)(e:L2.uO ds k=some d):∃v,L2.uO vs k=some v/\Rep K F d v:=by
 unfold L2.uO at e ⊢;rw[h.length];obtain⟨j,h1,h2⟩:=Qxy.mp e;obtain⟨v,h3,h4⟩:=h.get h2
 simp_all
def cZ:D->D->Option D
 | .lst xs,.int k=>uO xs k
 | .arr xs,.int k=>uO xs k
 | .tup xs,.int k=>uO xs k
 | .str x,.int k=>(uO x k).map λc=>.str [c]
 | _,_=>none
theorem akR:uC C (rIx C.K) cZ:=by
 intro Pr F env σ H x y d vx vy Q r px py e q;unfold cZ at e;split at e
 ·obtain⟨z,a,vs,rfl,h1,h2⟩:=px.lst r.fr;cases py.int;obtain⟨v,e1,p1⟩:=h2.uO e;exact .inl ⟨a,vs,_,v,rfl,rfl,uR.of h1,e1,q _ _ F r (aX.refl F) p1⟩
 ·obtain⟨z,a,vs,rfl,h1,h2⟩:=px.arr r.fr;cases py.int;obtain⟨v,e1,p1⟩:=h2.uO e;exact .inl ⟨a,vs,_,v,rfl,rfl,h1,e1,q _ _ F r (aX.refl F) p1⟩
 ·obtain⟨z,a,vs,rfl,h1,_,h2⟩:=px.tup r.fr;cases py.int;obtain⟨v,e1,p1⟩:=h2.uO e;exact .inr<|.inl ⟨a,vs,_,v,rfl,rfl,h1,e1,q _ _ F r (aX.refl F) p1⟩
 ·obtain⟨rfl,z⟩:=px.str;cases py.int;obtain⟨c,e1,rfl⟩:=Qwy.mp e;exact .inr<|.inr ⟨_,_,c,rfl,rfl,by assumption,by assumption,q _ _ F r (aX.refl F) ⟨rfl,by show 1<=sizeLine;decide⟩⟩
 ·cases e
theorem aqv(hK:X.K=C.K)(ha:PX X C x a)(hb:PXB X C y b)(hs:Dg y:=by intro _ _;rfl):PX X C (.Subscript x y pos) (aP cZ a b):=by have h:=(akO (pos:=pos) afN ha hb hs);rw[hK] at h;exact h.imp<|Uv akR
theorem amb{px:Pos}(i)(hK:X.K=C.K)(hN:X.N[i]? = some x)(hv:Hg X.env.scope x)(hb:PXB X C y b)(hs:Dg y:=by intro _ _;rfl)
  (hd:qx x:=by decide) (hcd:Bt x:=by decide):PX X C (.Subscript (.Name x px) y pos) (aA cZ i b):=by
 have h:=(akO (pos:=pos) afN (lH (pos:=px) hN hv hd hcd) hb hs);rw[hK] at h;exact h.imp<|CP akR
def cutD{α:Type}(xs:List α)(lo hi:Option Int):List α:=(xs.drop (HT.gQ xs.length 0 lo)).take (HT.gQ xs.length xs.length hi - HT.gQ xs.length 0 lo)
theorem xW{α:Type}(xs:List α)(lo hi):(cutD xs lo hi).length<=xs.length:=by unfold cutD;rw[Qzv,List.length_drop];omega
theorem cD.cut{K:Fg}(h:cD K F ds vs)(lo hi):cD K F (cutD ds lo hi) (JZ vs lo hi):=by unfold cutD JZ;rw[h.length];exact cD.take _<|cD.drop _ h
abbrev Sq:=Env->R (Option Int)
inductive tP (C:Cfg) (ev:Sq) (σ:L2.St) (H:Hp) (Q:Option Int->Hp->Prop):Prop
 | mk (Pr F:Hp) (env env':Env) (o:Option Int) (_:Rel C Pr F env σ H) (_:ev env = .ok o env') (_:∀H' F',Rel C Pr F' env' σ H'->aX F F'->Q o H'):tP C ev σ H Q
def PXP(X:Cx)(C:Cfg)(e:Option Expr)(ev:Sq):Prop:=PO X e (tP C ev)
theorem _root_.L2.PO.imp{X:Cx}{e:Option Expr}{t t':TO}(h:PO X e t)(i:∀σ H Q,t' σ H Q->t σ H Q):PO X e t':=λpins s σ H Q I q=>h pins s σ H Q I<|i σ H Q q
noncomputable def eZ:Sq:=λenv=>.ok none env
def pZ(a:Ev):Sq:=λenv=>bindR (a env) λd aO=>match d with
 | .int i=>.ok (some i) aO
 | _=>.stuck
theorem aew:PXP X C none eZ:=air.imp λσ H Q h=>by
 obtain⟨Pr,F,env,env',d,r,e,q⟩:=h;cases e;exact q H F r<|aX.refl F
def gSl:D->Option Int->Option Int->Option D
 | .lst xs,lo,hi=>some (.lst (cutD xs lo hi))
 | .arr xs,lo,hi=>some (.lst (cutD xs lo hi))
 | .tup xs,lo,hi=>if HT.gQ xs.length 0 lo=0/\HT.gQ xs.length xs.length hi=xs.length then none else some (.tup (cutD xs lo hi))
 | _,_,_=>none
def G3(a:Ev)(lo hi:Sq):Ev:=λenv=>bindR (a env) λd aO=>bindR (lo aO) λl fP=>bindR (hi fP) λu JX=>fX (gSl d l u) JX
theorem ad2{lo hi:Option Int}(r:Rel C Pr F env σ H)(p:lX C.K F H x v)(e:gSl x lo hi=some d)(q:∀v H' F',Rel C Pr F' env σ H'->aX F F'->Rep C.K F' d v->Q v H') :
  aqe C.K v lo hi H Q\/al3 C.K v lo hi H Q:=by
 unfold gSl at e;split at e
 ·cases e;obtain⟨z,a,vs,rfl,h1,h2⟩:=p.lst r.fr;refine .inl ⟨a,vs,rfl,uR.of h1,λb hb=>?_⟩;obtain⟨r2,s2⟩:=r.new hb;exact q _ _ _ r2 s2 ⟨Qqy (xW _ _ _) z,b,_,rfl,bz,cD.mono s2 _ _<|h2.cut lo hi⟩
 ·cases e;obtain⟨z,a,vs,rfl,h1,h2⟩:=p.arr r.fr;refine .inl ⟨a,vs,rfl,h1,λb hb=>?_⟩;obtain⟨r2,s2⟩:=r.new hb;exact q _ _ _ r2 s2 ⟨Qqy (xW _ _ _) z,b,_,rfl,bz,cD.mono s2 _ _<|h2.cut lo hi⟩
 ·obtain⟨z,a,vs,rfl,h1,_,h2⟩:=p.tup r.fr;split at e
  ·cases e
  ·rename_i hn;cases e;refine .inr ⟨a,vs,rfl,h1,by rw[h2.length];exact hn,λb hb=>?_⟩;obtain⟨r2,s2⟩:=r.new hb;exact q _ _ _ r2 s2 ⟨Qqy (xW _ _ _) z,b,_,rfl,qe.of bz,cD.mono s2 _ _<|h2.cut lo hi⟩
 ·cases e
theorem aqt{lo hi:Option Expr}(hK:X.K=C.K)(ha:PX X C x a)(hl:PXP X C lo el)(hh:PXP X C hi eh):PX X C (.Subscript x (.Slice lo hi none p2) pos) (G3 a el eh):=by have h:=V6 (pos:=pos) (p2:=p2) (SlR.or aaC Ys) ha hl hh;rw[hK] at h;refine h.imp λσ H Q hq=>?_;obtain⟨Pr,F,env,env',d,r,e,q⟩:=hq;obtain⟨x,aO,e1,e2⟩:=bj e;obtain⟨l,fP,e3,e4⟩:=bj e2;obtain⟨u,JX,e5,e6⟩:=bj e4;obtain⟨e7,rfl⟩:=eY e6;refine⟨Pr,F,env,aO,x,r,e1,λv H1 F1 r1 s1 p1=>⟨Pr,F1,aO,fP,l,r1,e3,λH2 F2 r2 s2=>⟨Pr,F2,fP,env',u,r2,e5,λH3 F3 r3 s3=>?_⟩⟩⟩;exact ad2 r3 (.inl<|Rep.mono (s2.trans s3) _ _ p1) e7 λv H' F' r' s' p'=>q v H' F' r' (((s1.trans s2).trans s3).trans s') p'
noncomputable def uV(kvs:List (D×D))(q:Key):Option D:=match kvs with
 | []=>none
 | (k,d)::r=>if wL k=some q then some d else uV r q
noncomputable def Jw(kvs:List (D×D))(q:Key)(d:D):List (D×D):=match kvs with
 | []=>[]
 | (k,e)::r=>(if wL k=some q then (k,d) else (k,e))::Jw r q d
def putD(kvs:List (D×D))(k:D)(q:Key)(d:D):List (D×D):=if (uV kvs q).isSome then Jw kvs q d else kvs++[(k,d)]
theorem gh.length{K:Fg}:∀{ds} {vs},gh K F ds vs->vs.length=ds.length
 | [],_,h=>by cases h;rfl
 | (k,d)::ds,vs,h=>by
  obtain⟨q,v,r,rfl,_,_,h2⟩:=h;rw[Qqv,Qqv,h2.length]
theorem gh.val{K:Fg}(q):∀{ds} {vs},gh K F ds vs->(uV ds q=none/\Ar vs q=none)\/∃d v,uV ds q=some d/\Ar vs q=some v/\Rep K F d v
 | [],_,h=>by cases h;exact .inl ⟨rfl,rfl⟩
 | (k,d)::ds,vs,h=>by
  obtain⟨q',v,r,rfl,hk,h1,h2⟩:=h;unfold uV;by_cases e:q'=q
  ·subst e;rw[if_pos hk];exact .inr ⟨d,v,rfl,Ao rfl,h1⟩
  ·rw[if_neg (λz=>e<|Qw2<|hk.symm.trans z),Aq e];exact gh.val q h2
theorem gh.set{K:Fg}(q)(hd:Rep K F d v):∀{ds} {vs},gh K F ds vs->gh K F (Jw ds q d) (vs.map λkv=>if kv.1=q then (kv.1,v) else kv)
 | [],_,h=>by cases h;exact rfl
 | (k,e)::ds,vs,h=>by
  obtain⟨q',u,r,rfl,hk,h1,h2⟩:=h;unfold Jw;by_cases e':q'=q
  ·subst e';rw[if_pos hk];refine⟨q',v,_,?_,hk,hd,gh.set q' hd h2⟩
   simp_all
  ·rw[if_neg (λz=>e'<|Qw2<|hk.symm.trans z)];refine⟨q',u,_,?_,hk,h1,gh.set q hd h2⟩
   simp_all
theorem gh.append{K:Fg}:∀{ds es} {vs ws},gh K F ds vs->gh K F es ws->gh K F (ds++es) (vs++ws)
 | [],es,vs,ws,h,g=>by cases h;exact g
 | (k,d)::ds,es,vs,ws,h,g=>by
  obtain⟨q,v,r,rfl,h0,h1,h2⟩:=h;exact⟨q,v,r++ws,rfl,h0,h1,gh.append h2 g⟩
theorem VD(q)(d):∀kvs,(Jw kvs q d).length=kvs.length
 | []=>rfl
 | (k,e)::r=>by unfold Jw;rw[Qqv,Qqv,VD q d r]
theorem V4(kvs)(k)(q)(d):(putD kvs k q d).length<=kvs.length+1:=by
 unfold putD;split
 ·rw[VD];omega
 simp_all
theorem gh.put{K:Fg}(h:gh K F ds vs)(hk:wL k=some q)(hd:Rep K F d v):gh K F (putD ds k q d) (putK vs q v):=by
 unfold putD putK;rw[Ko];rcases h.val q with ⟨e1,e2⟩|⟨d',v',e1,e2,_⟩
 ·rw[e1,e2];exact h.append ⟨q,v,[],rfl,hk,hd,rfl⟩
 ·rw[e1,e2];exact gh.set q hd h
theorem aft{K:Fg}(h:wL k=some q)(p:Rep K F k v):v=kV q:=by
 cases k with
 | int i=>cases h;exact p
 | str x=>cases h;exact p.1
 | _=>cases h
theorem afu{K:Fg}(h:wL k=some q)(p:lX K F H k v):v=kV q:=by
 cases k with
 | int i=>cases h;exact p.int
 | str x=>cases h;exact p.str.1
 | _=>cases h
theorem lX.dct{K:Fg}(s:aX F H)(h:lX K F H (.dct kvs) v):kvs.length<=sizeLine/\∃a ks,v = .ref a/\Rd H a (.dK ks)/\gh K F kvs ks:=by
 rcases h with ⟨z,a,vs,rfl,h1,h2⟩|⟨a,rfl,z,vs,h1,h2⟩
 ·exact⟨z,a,vs,rfl,aX.rd s h1,h2⟩
 ·exact⟨z,a,vs,rfl,.inl h1,h2⟩
def akI:R2:=λx y H Q=>∃a v,x = .ref a/\adf H a y (some v)/\Q v H
def m8:D->D->Option D
 | .dct kvs,k=>(wL k).bind λq=>uV kvs q
 | _,_=>none
theorem aiM:uC C akI m8:=by
 intro Pr F env σ H x y d vx vy Q r px py e q;unfold m8 at e;split at e
 ·obtain⟨z,a,ks,rfl,h1,h2⟩:=px.dct r.fr;obtain⟨k,hk,hv⟩:=Qxy.mp e;cases afu hk py;rcases h2.val k with ⟨e1,_⟩|⟨d',v',e1,e2,p2⟩
  ·simp_all
  ·rw[e1] at hv;cases hv;exact⟨a,v',rfl,.inl ⟨ks,k,h1,rfl,e2.symm⟩,q _ _ F r (aX.refl F) p2⟩
 ·cases e
theorem aeB{px:Pos}(i)(hu:X.A.units+1<cLine)(hN:X.N[i]? = some x)(hv:Hg X.env.scope x)(hb:PXB X C y b)(hs:agU y:=by intro _ _;rfl)
  (hd:qx x:=by decide) (hcd:Bt x:=by decide):PX X C (.Subscript (.Name x px) y pos) (aA m8 i b):=by
 have h:PE X (.Subscript (.Name x px) y pos) (tOp akI _ _):=aiA hu (lH hN hv hd hcd) hb hs;exact h.imp<|CP aiM
noncomputable def G6:Ev:=λenv=>.ok (.dct []) env
theorem aex:PXN X C (.Dict [] [] pos) G6:=aeR.imp λσ H Q hq=>by
 obtain⟨Pr,F,env,env',d,r,e,q⟩:=hq;cases e;exact λp hp=>q _ _ F (r.fresh hp) (aX.refl F)<|New.of r hp ⟨Qxx _,[],bz,rfl⟩
def wU(i:Nat)(k a:Ev):cB:=λenv=>gO (a env) λd aO=>match aO[i]? with
 | some (some (_,_))=>gO (k aO) λkd fP=>(match fP[i]?,wL kd with
  | some (some (true,.dct kvs)),some q=>if kvs.length<sizeLine then .nx (fP.set i (some (true,.dct (putD kvs kd q d)))) else .stuck
  | _,_=>.stuck)
 | _=>.stuck
theorem aev(hu:X.A.units+1<cLine)(hN:X.N[i]? = some x)(hv:Hg X.env.scope x)(hk:PX X C k ek)(he:PX X C e a)
  (hs:swapsWith e (some (.Subscript (.Name x px) k pos')) pos.line X.env=pure false:=by rfl)
  (hd:qx x:=by decide) (hcd:Bt x:=by decide):PXS X C (.Assign [.Subscript (.Name x px) k pos'] e pos) (wU i ek a):=
 (aio hu (lH hN hv hd hcd) hk he hs).imp λD σ H h=>by
  obtain⟨Pr,F,env,r,f⟩:=h;obtain⟨d,aO,e1,f1⟩:=jq f;refine⟨Pr,F,env,aO,d,r,e1,λv H1 F1 r1 s1 p1=>?_⟩;split at f1
  ·rename_i o0 d0 h0;obtain⟨v0,hv0,_⟩:=r1.rd h0;obtain⟨kd,fP,e2,f2⟩:=jq f1;refine⟨v0,hv0,Pr,F1,aO,fP,kd,r1,e2,λvk H2 F2 r2 s2 p2=>?_⟩;split at f2
   ·rename_i kvs q h2 hq;split at f2
    ·rename_i hz;obtain⟨b,g1,⟨z,ks,g2,g3⟩,g4,g5⟩:=r2.own i _ h2;rw[hv0] at g1;cases g1;have hz':ks.length<sizeLine:=by rw[g3.length];exact hz
     cases aft hq p2;refine⟨b,_,rfl,agY.k g2 hz',?_⟩;refine f2 σ _ F2 (r2.write h2 hv0 ⟨Qqy (V4 _ _ _ _) hz,_,bz,g3.put hq<|Rep.mono s2 _ _ p1⟩)<|s1.trans s2
    ·exact f2.elim
   ·exact f2.elim
  ·exact f1.elim
noncomputable def aco(x:List Nat):List (List Nat)->List (List Nat)
 | []=>[x]
 | y::r=>if y<x then y::aco x r else x::y::r
noncomputable def jZ:List (List Nat)->List (List Nat)
 | []=>[]
 | x::r=>aco x (jZ r)
theorem Ex(x):∀l,(aco x l).Perm (x::l)
 | []=>.refl _
 | y::r=>by
  unfold aco;split
  ·exact((Ex x r).cons y).trans<|.swap x y r
  rfl
theorem jD:∀l,(jZ l).Perm l
 | []=>.refl _
 | x::r=>(Ex x<|jZ r).trans<|(jD r).cons x
theorem Hw(x):∀l,l.Pairwise (λa b=>a<=b)->(aco x l).Pairwise (λa b=>a<=b)
 | [],_=>List.pairwise_singleton _ _
 | y::r,h=>by
  unfold aco;have h1:=Qx1.mp h;split
  ·rename_i hyx;refine Qx1.mpr ⟨λz hz=>?_,Hw x r h1.2⟩;rcases Qq2.mp ((Ex x r).mem_iff.mp hz) with rfl|hz
   all_goals grind
  ·rename_i hyx;have hxy:=List.not_lt.mp hyx;refine Qx1.mpr ⟨λz hz=>?_,h⟩
   grind
theorem u0:∀l,(jZ l).Pairwise (λa b=>a<=b)
 | []=>.nil
 | x::r=>Hw x _<|u0 r
theorem Qk:∀p l,risingS p l=true->(p::l).Pairwise (λa b=>a.cps.toList<=b.cps.toList)
 | p,[],_=>List.pairwise_singleton _ _
 | p,x::r,h=>by
  have h':(!Spec.ltCps x.cps.toList p.cps.toList&&risingS x r)=true:=h;rw[Qzw,PyProof.Rows.ltCps_eq] at h';have hxp:¬x.cps.toList<p.cps.toList:=by simp_all
  have ih:=Qk x r h'.2;refine Qx1.mpr ⟨λz hz=>?_,ih⟩;have hpx:=List.not_lt.mp hxp;rcases Qq2.mp hz with rfl|hz
  ·exact hpx
  ·exact List.le_trans hpx<|(Qx1.mp ih).1 z hz
theorem abE:∀l,sortedS l=true->l.Pairwise (λa b=>a.cps.toList<=b.cps.toList)
 | [],_=>.nil
 | x::r,h=>Qk x r h
theorem abC(s):strOf s.cps.toList=s:=by rfl
theorem Tf(e:ss=xs.map strOf)(hp:ss'.Perm ss)(hs:sortedS ss'=true):ss'=(jZ xs).map strOf:=by
 subst e;have h1:(ss'.map λs=>s.cps.toList).Perm xs:=by
  have:=hp.map (λs:Str=>s.cps.toList);rw[Qzk] at this;have e2:xs.map ((λs:Str=>s.cps.toList) ∘ strOf)=xs:=by rw[List.map_congr_left (g:=id) (λx _=>by simp[strOf])];simp
  rwa [e2] at this
 have h2:(ss'.map λs=>s.cps.toList)=jZ xs:=by refine List.Perm.eq_of_pairwise (λa b _ _=>List.le_antisymm) ?_ (u0 xs)<|h1.trans (jD xs).symm;exact List.pairwise_map.mpr<|abE ss' hs
 rw[<-h2,Qzk];have e3:∀l:List Str,l.map (strOf ∘ λs=>s.cps.toList)=l:=λl=>by
  induction l with
  | nil=>rfl
  | cons a r ih=>rw[Qq7,ih];show strOf a.cps.toList::r=a::r;rw[abC]
 exact(e3 ss').symm
theorem An:∀{us} {ss},StrsAre us ss->Vals (ss.map V.str) us
 | _,_,.nil=>.nil
 | _,_,.cons y t h=>.cons ⟨t,rfl⟩<|An h
theorem Bh{K:Fg}:∀(xs:List (List Nat)),(∀x∈xs,x.length<=sizeLine)->cD K F (xs.map D.str) (xs.map λz=>V.str (strOf z))
 | [],_=>rfl
 | x::xs,h=>⟨_,_,rfl,⟨rfl,h x<|Qqw ..⟩,Bh xs λy hy=>h y<|Qqk _ hy⟩
def TX(K:Fg):List V->Hp->VK->Prop:=λxs H Q=>∃p zs,xs=[.ref p]/\(uR K H p (zs.map λz=>V.str (strOf z))\/∃ks,Rd H p (.dK ks)/\ks.map (·.1)=zs.map λz=>Sum.inr (strOf z))/\zs.length<64/\∀l,H l=none->Q (.ref l) (upd H l (.lst ((jZ zs).map λz=>V.str (strOf z))))
theorem Vz{σ:L2.St}{a:Addr}(I:Inv X pins σ H s)(hz:zs.length<64)(q:∀l,H l=none->Q (.ref l) (upd H l (.lst ((jZ zs).map λz=>V.str (strOf z)))))
  (a1:StrsAre out.toList ss') (a2:ss'.Perm (zs.map strOf)) (a3:sortedS ss'=true) (hk:∀b o,s.heap.get? b=some o->h'.get? b=some o) (ha:s.heap.objs.size<=a) (ho:h'.get? a=some (seqObj "list" out e)):EP X pins σ Q (.ref a) { s with heap:=h',toks:=tk }:=by
 have e1:=Tf rfl a2 a3;subst e1;have rv:=An a1;rw[Qzk] at rv;have hl:((jZ zs).map λz=>V.str<|strOf z).length<=sizeLine:=by rw[Qqz,(jD zs).length_eq];exact Qqy (Qjy hz) (by decide)
 exact⟨.ref a,_,I.laid hk ha<|show jt X.prog X.w _ h' a (.lst<|(jZ zs).map λz=>V.str<|strOf z) from⟨hl,out.toList,e,rv,by assumption⟩,rfl,q a<|I.hok.fresh ha⟩
theorem Xi(hc:X.calm=true):lW X (.builtin "sorted") (TX X.K):=by
 intro pins s σ H xs us Q I r h;obtain⟨p,zs,rfl,hq,hz,q⟩:=h;obtain⟨u,rfl,rx⟩:=vals1 r;cases rx;rcases hq with hq|⟨ks,hq,hks⟩
 ·obtain⟨its,r',pl,hzz⟩:=I.list hq;have hS:StrsAre its (zs.map strOf):=Dj r';refine sorted_strs pl.isList hS (by rw[<-r'.length,Qqz];exact hz) λout ss' a1 a2 a3=>?_;obtain⟨e,he⟩:=sortedAll_at s.heap its out;exact Vz (tk:=s.toks) I hz q a1 a2 a3 (λb o e=>sortedAll_old e) (Nat.le_succ _) he
 ·obtain⟨hz2,hsys,vs,rkv,hD⟩:=Xd I.hok hq;obtain⟨ep,hat⟩:=hD.dictAt;have hlen:vs.length=zs.length:=by
   have e1:=rkv.length;have e2:=Qx7 List.length hks;rw[Qqz,Qqz] at e2;omega
  refine Calls.call_function_entry kind_sorted plain_sorted entry_sorted (args_sorted1 _) ?_;unfold Builtin.«sorted»;refine Qqq (m:=checkCount "sorted" 1 1 _)<|Qq1 ?_;refine Qqq<|PySem.W.kdu_collect (A:=X.A.in1) (PySem.W.kdl_dict (knd:=cN X.prog X.w) (kvs:=vs) (ep:=ep) hsys) (I.ok.hd hc) hat (by rw[hlen];exact Qqy (Qjy hz) (by decide)) λh' tk acc hk hacc=>?_;have hl:acc.toList.length=vs.length:=by rw[Qz3];exact hacc.1
  have hS:StrsAre acc.toList (zs.map strOf):=by
   have keys:∀j,j<vs.length->∃v t,acc.toList[j]? = some v/\v=Value.str (strOf<|zs.getD j []) t:=λj hj=>by
    have hja:j<acc.size:=by rw[hacc.1];exact hj
    have e1:acc[j]? = some acc[j]:=by simp[hja]
    obtain⟨k,x,hx,hkx⟩:=hacc.2 j _ e1;have e2:(vs.map (·.1))[j]? = some k:=by rw[Qx5,hx];rfl
    rw[<-rkv.keys,hks,Qx5] at e2;obtain⟨z,hzj,rfl⟩:=Qwy.mp e2;rcases gY (k:=Sum.inr<|strOf z) (v:=acc[j]) hkx with ⟨i,t,z1,_⟩|⟨y,t,z1,z2⟩
    ·cases z1
    ·cases z1;exact⟨_,t,by rw[Array.getElem?_toList];exact e1,by rw[z2,List.getD_eq_getElem?_getD,hzj];rfl⟩
   have build:∀us (ys:List (List Nat)),us.length=ys.length->(∀j,j<us.length->∃v t,us[j]? = some v/\v=Value.str (strOf<|ys.getD j []) t)->StrsAre us (ys.map strOf):=λus=>by
    induction us with
    | nil=>intro ys hl _;cases ys with
     | nil=>exact .nil
     | cons _ _=>cases hl
    | cons u us ih=>intro ys hl hk;cases ys with
     | nil=>cases hl
     | cons y ys=>
      obtain⟨v,t,e1,e2⟩:=hk 0<|Nat.succ_pos _;cases e1;rw[e2];exact .cons _ t (ih ys (by simpa using hl) λj hj=>by
       obtain⟨v,t,e1,e2⟩:=hk (j+1) (by simpa using hj);exact⟨v,t,by simpa using e1,by simpa using e2⟩)
   exact build _ _ (by rw[hl,hlen]) λj hj=>keys j (by rw[<-hl];exact hj)
  refine Qqq (wpAny_newList ?_ (by rw[hl,hlen];exact Qqy (Qjy hz) (by decide)));have hoL:(h'.push (seqObj "list" acc.toList.toArray 0)).get? h'.objs.size=some (seqObj "list" acc.toList.toArray 0):=Qq8 _ rfl;show wpAny _ _ _ _ _ { s with heap:=h'.push (seqObj "list" acc.toList.toArray 0),toks:=tk };refine Qqq (Qjz (Qzx slot_list_sort ⟨_,hoL,rfl⟩ entry_list_sort (list_sort_treeK strKind_oneLt hoL hS.keysOf (λv₁ v₂ rest e=>keyKind_strs (by rw[<-e];exact hS)) (by rw[hl,hlen];exact hz) λst' b1 b2=>⟨_,rfl,?_⟩) (args_list_sort _)));obtain⟨ss',a1,a2,a3⟩:=sorted_out_str hS b1 b2;obtain⟨e,he⟩:=sortedHeap_at (out:=(arrOf st').map (·.2)) hoL;refine Qq1 ⟨_,rfl,?_⟩;have I1:L2.Inv X pins σ H { s with heap:=h',toks:=tk }:=I.kept hk;refine Vz (s:={ s with heap:=h',toks:=tk }) (tk:=tk) I1 hz q a1 a2 a3 (λb o e=>?_) (Qq0 _) he;have lt':=Qq3 e;rw[sortedHeap_old (Qww lt') (by rw[size_push'];exact Nat.lt_succ_of_lt lt')];exact Qqx _ e
def nZ:List D->Option D
 | [.lst ds]=>(jY ds).bind λzs=>if zs.length<64/\(∀z∈zs,z.length<=sizeLine) then some (.lst ((jZ zs).map .str)) else none
 | [.dct kvs]=>(jY (kvs.map (·.1))).bind λzs=>if zs.length<64/\(∀z∈zs,z.length<=sizeLine) then some (.lst ((jZ zs).map .str)) else none
 | _=>none
theorem gh.keys{K:Fg}:∀{kvs} {ks} {zs},gh K F kvs ks->jY (kvs.map (·.1))=some zs->ks.map (·.1)=zs.map λz=>Sum.inr (strOf z)
 | [],ks,zs,h,e=>by cases h;simp[jY] at e;subst e;rfl
 | (k,d)::kvs,ks,zs,h,e=>by
  obtain⟨q,v,r,rfl,h0,h1,h2⟩:=h;cases k with
  | str x=>
   cases h0;have e':(jY<|kvs.map (·.1)).map (x :: ·)=some zs:=by assumption
   obtain⟨zs',e1,rfl⟩:=Qwy.mp e';rw[Qq7,Qq7,gh.keys h2 e1]
  | _=>simp[jY] at e
theorem Yr(r:Rel C Pr F env σ H)(hl:H l=none)(hz:zs.length<64/\∀z∈zs,z.length<=sizeLine) :
  qt C.K F (upd H l (.lst ((jZ zs).map λz=>V.str (strOf z)))) (.lst ((jZ zs).map .str)) l:=by
 refine⟨by rw[Qqz,(jD zs).length_eq];exact Qqy (Qjy hz.1) (by decide),_,bz,Bh _ λz h=>hz.2 z<|(jD zs).mem_iff.mp h⟩
theorem acW:CallD C (TX C.K) nZ:=by
 intro Pr F env σ H ds d vs Q r p e q;have fin:∀zs l,(zs.length<64/\∀z∈zs,z.length<=sizeLine)->d = .lst ((jZ zs).map .str)->H l=none->Q (.ref l) (upd H l<|.lst<|(jZ zs).map λz=>V.str<|strOf z):=λzs l hz hd hl=>by
  subst hd;obtain⟨F2,r2,s2,p2⟩:=(r.fresh hl).keep<|New.of r hl<|Yr r hl hz;exact q _ _ F2 r2 s2 p2
 unfold nZ at e;split at e
 ·obtain⟨v,w,rfl,p1,p2⟩:=p;cases p2;obtain⟨zs,e1,e2⟩:=Qxy.mp e;split at e2
  ·rename_i hz;cases e2;obtain⟨z,a,ws,rfl,h1,h2⟩:=p1.lst r.fr;have e6:=Eg e1 h2;subst e6;exact⟨a,zs,rfl,.inl<|uR.of h1,hz.1,λl hl=>fin zs l hz rfl hl⟩
  ·cases e2
 ·obtain⟨v,w,rfl,p1,p2⟩:=p;cases p2;obtain⟨zs,e1,e2⟩:=Qxy.mp e;split at e2
  ·rename_i hz;cases e2;obtain⟨z,a,ks,rfl,h1,h2⟩:=p1.dct r.fr;exact⟨a,zs,rfl,.inr ⟨ks,h1,h2.keys e1⟩,hz.1,λl hl=>fin zs l hz rfl hl⟩
  ·cases e2
 ·cases e
theorem abP{p:Pos}(hK:X.K=C.K)(hc:X.calm=true)(hg:Gl X "sorted")(hm:X.mg "sorted" = none)(ha:aki X C [e] a)(he:sEn e X.env:=by rfl)(hpl:(backTo pos (starEach [] X.env)).any (·.1)=false:=by rfl) :
  PX X C (.Call (.Name "sorted" p) [e] [] pos) (az nZ a):=
 uG (by rw[<-hK];exact Xi hc) acW hg hm PyProof.Rows.boot_sorted ha (by decide) (by decide) he hpl
end
theorem Rel.pad(m)(r:Rel C Pr F env σ H):Rel C Pr F (env++List.replicate m none) (xr m σ) H:=by
 have un:∀(j:Nat) x,(env++List.replicate m none)[j]? = some (some x)->env[j]? = some (some x):=λj x he=>by
  grind
 have up:∀(j:Nat) v,σ[j]? = some (some v)->(xr m σ)[j]? = some (some v):=λj v h=>by
  unfold xr
  grind
 have dn:∀(j:Nat) v,(xr m σ)[j]? = some (some v)->σ[j]? = some (some v):=λj v he=>by
  unfold xr at he
  grind
 refine⟨r.pr,r.fr,by unfold xr;rw[Qqj,Qqj,Qw4,Qw4,r.len],λj e he=>?_,λj e he=>?_,λj k e f b hj hk g1 g2=>r.apart j k e f b (un _ _ hj) (un _ _ hk) (dn _ _ g1)<|dn _ _ g2,r.dj,λj a h=>up _ _<|r.fix j a h⟩
 ·obtain⟨v,h1,h2⟩:=r.val j e<|un _ _ he
  simp_all
 ·obtain⟨a,h1,h2⟩:=r.own j e<|un _ _ he
  simp_all
theorem Rel.cut{σ σ0:L2.St}(r:Rel C Pr F env σ H)(h:σ.take σ0.length=σ0)(fix:∀i a,C.fx i=some a->σ0[i]? = some (some (V.ref a))):Rel C Pr F (env.take σ0.length) σ0 H:=by
 have hl:σ0.length<=σ.length:=by grind
 have un:∀j x,(env.take σ0.length)[j]? = some (some x)->env[j]? = some (some x)/\j<σ0.length:=λj x he=>by
  grind
 have dn:∀j,j<σ0.length->σ[j]? = σ0[j]?:=λj hj=>by
  grind
 refine⟨r.pr,r.fr,by rw[Qzv,r.len];omega,λj e he=>?_,λj e he=>?_,λj k e f b hj hk g1 g2=>r.apart j k e f b (un _ _ hj).1 (un _ _ hk).1 (by simp_all) (by simp_all),r.dj,fix⟩
 ·obtain⟨e1,e2⟩:=un _ _ he;rw[<-dn j e2];exact r.val j e e1
 ·obtain⟨e1,e2⟩:=un _ _ he;rw[<-dn j e2];exact r.own j e e1
noncomputable def Er(g:GV)(c:gR)(e:Ev):List D->Env->R (List D)
 | [],env=>.ok [] env
 | d::ds,env=>(match g d env with
  | none=>.stuck
  | some e1=>bindR (c e1) λb e2=>if b=true then bindR (e e2) λy e3=>bindR (Er g c e ds e3) λys e4=>.ok (y::ys) e4 else Er g c e ds e2)
def gr(lo n:Nat)(it:d7)(g:GV)(c:gR)(e:Ev):Ev:=λenv=>bindR (it env) λds aO=>if aO.length=lo then bindR (Er g c e ds (aO++List.replicate (n - lo) none)) λys fP=>(if ys.length<=sizeLine then .ok (.lst ys) (fP.take lo) else .stuck) else .stuck
def aai(X:Cx)(C:Cfg)(ifs:List Expr)(ev:gR):Prop:=PIf X ifs (tT C ev)
noncomputable def cP:gR:=λenv=>.ok true env
theorem aey:aai X C [] cP:=λpins s σ H Q I h=>by
 obtain⟨Pr,F,env,env',b,r,e,q⟩:=h;cases e;exact aiu pins s σ H Q I<|q H F r<|aX.refl F
theorem akU{lo n:Nat}(h:tN C (gr lo n it g c e) σ H Q):tLC n (tI C it) (tG C lo g) (tT C c) (tE C e) σ H Q:=by
 obtain⟨Pr,F,env,env',d,r,ev,q⟩:=h;obtain⟨ds,aO,e1,e2⟩:=bj ev;split at e2
 ·rename_i hlo;obtain⟨ys,fP,e3,e4⟩:=bj e2;split at e4
  ·rename_i hz;cases e4;refine⟨Pr,F,env,aO,ds,r,e1,λJ H1 F1 r1 s1 y1 a ha=>?_⟩;have hσ:=r1.len.symm.trans hlo;have hPa:=r1.pr.free ha;refine⟨λi m σ' H'=>m=ds.length - i/\i<=ds.length/\∃F' xU acc ws rest,Rel C (upd Pr a<|.lst ws) F' xU σ' H'/\aX F1 F'/\cD C.K F' acc ws/\σ'.take lo=σ/\Er g c e (ds.drop i) xU = .ok rest fP/\acc++rest=ys,
    ⟨ds.length,rfl,Qxx _,F1,aO++List.replicate (n - lo) none,[],[],ys,?_,aX.refl _,rfl,?_,e3,rfl⟩,?_⟩
   ·rw[hσ];exact(r1.aside ha).pad _
   ·unfold xr
    simp_all
   rintro i m σ' H' ⟨rfl,hi,F',xU,acc,ws,rest,r',s',p',t',l',hacc⟩;have hFa:F' a=none:=by
    cases ez:F' a with
    | none=>rfl
    | some w=>have:=r'.dj a w ez;rw[bz] at this;cases this
   by_cases hl:i<ds.length
   ·have hd:=Qx4 hl;have hdr:=Qz8 hl;have yy:=y1 i H'<|s'.trans r'.fr;refine .inr ⟨(yy.2 _ hd).1,λσ2 H2=>∃F' xU acc ws rest,Rel C (upd Pr a<|.lst ws) F' xU σ2 H2/\aX F1 F'/\cD C.K F' acc ws/\σ2.take lo=σ/\Er g c e (ds.drop<|i+1) xU = .ok rest fP/\acc++rest=ys,
     λσ2 H2 h2=>⟨ds.length - (i+1),by omega,rfl,hl,h2⟩,λx H2 hy=>?_⟩
    obtain⟨F2,r2,s2,p2⟩:=uB.item r' s' y1 hd hy;rw[hdr] at l';unfold Er at l';cases eg:g ds[i] xU with
    | none=>simp_all
    | some e5=>
     rw[eg] at l';obtain⟨b,e6,c1,l2⟩:=bj l';refine⟨_,F2,xU,e5,ds[i],r2,p2,eg,λσ3 H3 F3 r3 s3 t3=>⟨_,F3,e5,e6,b,r3,c1,λH4 F4 r4 s4=>?_⟩⟩;have t3':=t3.trans t';have s24:=(s2.trans s3).trans s4;cases b with
     | false=>
      rw[if_neg Qw0];rw[if_neg Qw0] at l2;exact⟨F4,e6,acc,ws,rest,r4,s'.trans s24,cD.mono s24 _ _ p',t3',l2,hacc⟩
     | true=>
      rw[if_pos rfl];rw[if_pos rfl] at l2;obtain⟨y,e7,c2,l3⟩:=bj l2;obtain⟨ys2,e8,c3,l4⟩:=bj l3;cases l4;refine⟨_,F4,e6,e7,y,r4,c2,λv H5 F5 r5 s5 p5=>?_⟩;have hlen:acc.length+(ys2.length+1)=ys.length:=by grind
      refine⟨ws,r5.pr _ _ bz,by rw[p'.length];omega,F5,e7,acc++[y],ws++[v],ys2,?_,s'.trans<|s24.trans s5,(cD.mono (s24.trans s5) _ _ p').append<|cD.one p5,t3',c3,by simp_all⟩;have r6:=r5.turn (u:=.lst<|ws++[v]) bz
      rwa [aat] at r6
   ·have ei:i=ds.length:=by omega
    subst ei;rw[List.drop_length] at l';cases l';rw[Qw1] at hacc;subst hacc;refine .inl ⟨(y1 _ H'<|s'.trans r'.fr).1 (List.getElem?_eq_none<|Qq0 _) rfl,?_⟩;have sP:aX Pr (upd Pr a<|.lst ws):=qg hPa;have r7:Rel C Pr F' (fP.take lo) σ H':=by
     have:=(r'.less sP).cut (by simp_all) r1.fix
     simp_all
    refine q a H' F' r7 (s1.trans s') ⟨⟨hz,ws,r'.pr _ _ bz,p'⟩,hFa,hPa,λj e he hs=>?_⟩;have hj:=(Qq9.mp hs).1;have he':fP[j]? = some (some (true,e)):=by simp_all
    obtain⟨b,g1,_,_,g4⟩:=r'.own j e he';have:σ'[j]? = some (some<|V.ref a):=by grind
    rw[this] at g1;cases g1;rw[bz] at g4;cases g4
  ·cases e4
 ·cases e2
section
variable{X:Cx}{C:Cfg}{pos:Pos}
theorem al5(N')(lo)(ok:mV X scope N')(hc:X.calm=true)(hi:PXI X C tg iter it)
  (bg:∀X',ji X scope N' X'->PXG X' C lo tg g) (bc:∀X',ji X scope N' X'->aai X' C ifs c) (be:∀X',ji X scope N' X'->PX X' C elt e)
  (hs:∀x,foldedSetIterable iter X.env x=pure x:=by intro _;rfl):PXN X C (.ListComp elt [⟨tg,iter,ifs,0⟩] scope pos) (gr lo N'.length it g c e):=
 (aqE ok hc hi bg bc be hs).imp λσ H Q h=>akU h
theorem abO(N'){spos py:Pos}(lo)(ok:mV X scope N')(hc:X.calm=true)(hi:PXI X C tg iter it)
  (bg:∀X',ji X scope N' X'->PXG X' C lo tg g) (bc:∀X',ji X scope N' X'->aai X' C ifs c) (be:∀X',ji X scope N' X'->PX X' C elt e)
  (hN:X.N.Nodup) (hy:X.N[i]? = some y) (hx:Loc X.env.scope y) (hfx:C.fx i=none)
  (hsw:swapsWith (.ListComp elt [⟨tg,iter,ifs,0⟩] scope pos) (some (.Name y py)) spos.line X.env=pure true)
  (hf:X.fn y=true\/X.env.scope.names.lookup y=some .local:=by first|exact .inl rfl|exact .inr rfl|assumption)
  (hs:∀x,foldedSetIterable iter X.env x=pure x:=by intro _;rfl):PXS X C (.Assign [.Name y py] (.ListComp elt [⟨tg,iter,ifs,0⟩] scope pos) spos) (fD i (gr lo N'.length it g c e)):=
 (aeG ok hc hi bg bc be hN hy hx hsw hf hs).imp λD σ H h=>by
  obtain⟨Pr,F,env,r,f⟩:=h;obtain⟨d,aO,e1,f1⟩:=jq f;have:tN C (gr lo N'.length it g c e) σ H λv H1=>W3 i v σ H1 D.nx:=⟨Pr,F,env,aO,d,r,e1,λv H1 F1 r1 s1 p1=>f1 _ H1 F1 (r1.aeD hfx p1) s1⟩;exact akU this
end
def jg(K:Fg)(n:Nat)(f:List D->Option D):Sp:=λvs H Q _=>∃(F:Hp) (ds:List D) (d:D),ds.length=n/\aX F H/\cD K F ds vs/\f ds=some d/\
 ∀v H' F',aX H H'->aX F' H'->aX F F'->(∀b o,F' b=some o->F b=some o\/H b=none)->Rep K F' d v->Q v H'
def spN(K:Fg)(n:Nat)(f:List D->Option D):Sp:=λvs H Q _=>∃(F:Hp) (ds:List D) (d:D),ds.length=n/\aX F H/\cD K F ds vs/\f ds=some d/\
 ∀a H' F',aX H H'->aX F' H'->aX F F'->(∀b o,F' b=some o->F b=some o\/H b=none)->qt K F' H' d a->F' a=none->H a=none->Q (.ref a) H'
def Ds(K:Fg)(n:Nat)(f:List D->Option (D×D)):Sp:=λvs H Q _=>∃(F:Hp) (a:Addr) (r:List V) (x:D) (ds:List D) (d x':D),vs = .ref a::r/\ds.length+1=n/\aX F H/\F a=none/\qt K F H x a/\cD K F ds r/\f (x::ds)=some (d,x')/\
 ∀v H' F',(∀b o,b≠a->H b=some o->H' b=some o)->aX F' H'->aX F F'->(∀b o,F' b=some o->F b=some o\/H b=none)->qt K F' H' x' a->Rep K F' d v->Q v H'
theorem Rel.after(r:Rel C Pr F env σ H)(s:aX H H')(sF:aX F' H')(sF':aX F F')(nw:∀b o,F' b=some o->F b=some o\/H b=none):Rel C Pr F' env σ H':=by
 refine⟨r.pr.trans s,sF,r.len,λj e he=>?_,λj e he=>?_,r.apart,λb o e=>?_,r.fix⟩
 ·obtain⟨v,h1,h2⟩:=r.val j e he;exact⟨v,h1,Rep.mono sF' _ _ h2⟩
 ·obtain⟨a,h1,h2,h3,h4⟩:=r.own j e he;obtain⟨o,ho⟩:=h2.some;refine⟨a,h1,h2.mono sF' (by rw[ho,s _ _ ho]),?_,h4⟩;cases e:F' a with
  | none=>rfl
  | some u=>
   grind
 ·rcases nw b o e with z|z
  ·exact r.dj b o z
  ·exact r.pr.free z
theorem Rel.aj5(r:Rel C Pr F env σ H)(h:env[i]? = some (some (true,d)))(hs:σ[i]? = some (some (V.ref a)))(s:∀b o,b≠a->H b=some o->H' b=some o)(sF:aX F' H')(sF':aX F F')(nw:∀b o,F' b=some o->F b=some o\/H b=none)(ho:qt C.K F' H' d' a):Rel C Pr F' (env.set i (some (true,d'))) σ H':=by
 obtain⟨a',h1,h2,h3,h4⟩:=r.own i d h;rw[hs] at h1;cases h1;have hi:=(Qq9.mp h).1;obtain⟨oa,hoa⟩:=h2.some;have ne:∀j e b,j≠i->env[j]? = some (some (true,e))->σ[j]? = some (some<|V.ref b)->b≠a:=λj e b hj he g z=>hj<|r.apart j i e d a he h (by simp_all) hs;have nF:∀b u,F b=none->H b=some u->F' b=none:=λb u e1 e2=>by
  cases e:F' b with
  | none=>rfl
  | some w=>
   grind
 refine⟨λb w e=>?_,sF,by rw[Qx2];exact r.len,λj e he=>?_,λj e he=>?_,λj k e f b hj hk g1 g2=>?_,λb o e=>?_,r.fix⟩
 ·have hb:b≠a:=λz=>by simp_all
  exact s b w hb<|r.pr b w e
 ·by_cases hj:j=i
  ·simp_all
  ·rw[Qq5 (Ne.symm hj)] at he;obtain⟨v,g1,g2⟩:=r.val j e he;exact⟨v,g1,Rep.mono sF' _ _ g2⟩
 ·by_cases hj:j=i
  ·simp_all
  ·rw[Qq5 (Ne.symm hj)] at he;obtain⟨b,g1,g2,g3,g4⟩:=r.own j e he;obtain⟨ob,hob⟩:=g2.some;exact⟨b,g1,g2.mono sF' (by grind),nF b ob g3 hob,g4⟩
 ·have un:∀(j:Nat) e,(env.set i<|some (true,d'))[j]? = some (some (true,e))->∃e',env[j]? = some (some (true,e')):=λj e he=>by
   grind
  obtain⟨e',hj'⟩:=un j e hj;obtain⟨f',hk'⟩:=un k f hk;exact r.apart j k e' f' b hj' hk' g1 g2
 ·rcases nw b o e with z|z
  ·exact r.dj b o z
  ·exact r.pr.free z
section
variable{X:Cx}{C:Cfg}{pos p:Pos}{k n:Nat}{f:Addr}{fd:FuncData}{ps:List Str}{x:Str}{e:Expr}{es:List Expr}
theorem Af(h:az g a env = .ok d env'):∃ds,a env = .ok ds env'/\g ds=some d:=by
 obtain⟨ds,aO,e1,e2⟩:=bj h;obtain⟨e3,rfl⟩:=eY e2
 simp_all
theorem al8(G:pP X.prog X.w X.K X.mg X.base yR k f fd ps (jg C.K n g))(hr:jr k X.A)(hg:Gl X x)(hm:X.mg x=some (.ref f))(hk:PySem.W.keepIn X.K (.ref f)=true)(hb:Binds X.K fd ps [])
  (ha:PXA X C (e::es) a) (hn:∀env ds env',a env = .ok ds env'->ds.length=n) (hdb:qx x:=by decide) (he:starEach (e::es) X.env=(false,eval e X.env)::starEach es X.env:=by rfl) (hpl:(backTo pos (starEach es X.env)).any (·.1)=false:=by rfl) :
  PX X C (.Call (.Name x p) (e::es) [] pos) (az g a):=(Ka G hr hg hm hk hb .nil Hq ha hdb he hpl).imp λσ H Q hq=>by
 obtain⟨Pr,F,env,env',d,r,e,q⟩:=hq;obtain⟨ds,e1,e2⟩:=Af e;refine⟨Pr,F,env,env',ds,r,e1,λvs H1 F1 r1 s1 p1=>?_⟩;show jg C.K n g (vs++[]) H1 Q E0;rw[Qw1];exact⟨F1,ds,d,hn _ _ _ e1,r1.fr,p1,e2,λv H2 F2 t1 t2 t3 t4 p2=>q v H2 F2 (r1.after t1 t2 t3 t4) (s1.trans t3) p2⟩
theorem aib(G:pP X.prog X.w X.K X.mg X.base yR k f fd ps (spN C.K n g))(hr:jr k X.A)(hg:Gl X x)(hm:X.mg x=some (.ref f))(hk:PySem.W.keepIn X.K (.ref f)=true)(hb:Binds X.K fd ps [])
  (ha:PXA X C (e::es) a) (hn:∀env ds env',a env = .ok ds env'->ds.length=n) (hdb:qx x:=by decide) (he:starEach (e::es) X.env=(false,eval e X.env)::starEach es X.env:=by rfl) (hpl:(backTo pos (starEach es X.env)).any (·.1)=false:=by rfl) :
  PXN X C (.Call (.Name x p) (e::es) [] pos) (az g a):=(Ka G hr hg hm hk hb .nil Hq ha hdb he hpl).imp λσ H Q hq=>by
 obtain⟨Pr,F,env,env',d,r,e,q⟩:=hq;obtain⟨ds,e1,e2⟩:=Af e;refine⟨Pr,F,env,env',ds,r,e1,λvs H1 F1 r1 s1 p1=>?_⟩;show spN C.K n g (vs++[]) H1 Q E0;rw[Qw1];refine⟨F1,ds,d,hn _ _ _ e1,r1.fr,p1,e2,λb H2 F2 t1 t2 t3 t4 ho hF hH=>q b H2 F2 (r1.after t1 t2 t3 t4) (s1.trans t3) ⟨ho,hF,r1.pr.free hH,λj e he hs=>?_⟩⟩;obtain⟨c,h1,h2,_⟩:=r1.own j e he;rw[hs] at h1;cases h1;obtain⟨u,hu⟩:=h2.some
 simp_all
def iW(f:List D->Option (D×D))(i:Nat)(a:d7):Ev:=λenv=>match env[i]? with
 | some (some (true,_))=>bindR (a env) λds aO=>(match aO[i]? with
  | some (some (true,x))=>(match f (x::ds) with
   | some (d,x')=>.ok d (aO.set i (some (true,x')))
   | none=>.stuck)
  | _=>.stuck)
 | _=>.stuck
theorem aqw{py:Pos}(hN:X.N[i]? = some y)(hv:Hg X.env.scope y)(G:pP X.prog X.w X.K X.mg X.base yR k f fd ps (Ds C.K n g))(hr:jr k X.A)(hg:Gl X x)(hm:X.mg x=some (.ref f))(hk:PySem.W.keepIn X.K (.ref f)=true)(hb:Binds X.K fd ps [])
  (ha:PXA X C es a) (hn:∀env ds env',a env = .ok ds env'->ds.length+1=n) (hdb:qx x:=by decide) (he:starEach (.Name y py::es) X.env=(false,eval (.Name y py) X.env)::starEach es X.env:=by rfl) (hpl:(backTo pos (starEach es X.env)).any (·.1)=false:=by rfl)
  (hd:qx y:=by decide) (hcd:Bt y:=by decide) :
  PX X C (.Call (.Name x p) (.Name y py::es) [] pos) (iW g i a):=(Ka G hr hg hm hk hb .nil Hq (jj (lH hN hv hd hcd) ha he) hdb he hpl).imp λσ H Q hq=>by
 obtain⟨Pr,F,env,env',d,r,e,q⟩:=hq;unfold iW at e;split at e
 ·rename_i d0 h0;obtain⟨ds,aO,e1,e2⟩:=bj e;split at e2
  ·rename_i z hz;split at e2
   ·rename_i d1 z' hg;cases e2;obtain⟨a0,hs0,_⟩:=r.own i _ h0;refine⟨_,hs0,Pr,F,env,aO,ds,r,e1,λvs H1 F1 r1 s1 p1=>?_⟩;obtain⟨a1,hs1,ho1,hF1,hP1⟩:=r1.own i _ hz;rw[hs0] at hs1;cases hs1;show Ds C.K n g (_::vs++[]) H1 Q E0;rw[Qw1];exact⟨F1,a0,vs,z,ds,d,z',rfl,hn _ _ _ e1,r1.fr,hF1,ho1,p1,hg,λv H2 F2 t1 t2 t3 t4 t5 p2=>q v H2 F2 (r1.aj5 hz hs0 t1 t2 t3 t4 t5) (s1.trans t3) p2⟩
   ·cases e2
  ·cases e2
 ·cases e
end
noncomputable def envOf(n:Nat)(ds:List D):Env:=ds.map (λd=>some (false,d))++List.replicate (n - ds.length) none
noncomputable def Cw(n:Nat)(x:D)(ds:List D):Env:=some (true,x)::(ds.map (λd=>some (false,d))++List.replicate (n - (ds.length+1)) none)
def cA(n:Nat)(ev:cB)(ds:List D):Option D:=match ev (envOf n ds) with
 | .rt false d _=>some d
 | .nx _=>some .non
 | _=>none
def runN(n:Nat)(ev:cB)(ds:List D):Option D:=match ev (envOf n ds) with
 | .rt true d _=>some d
 | _=>none
def qi(n:Nat)(ev:cB)(ds:List D):Option (D×D):=match ds with
 | []=>none
 | x::r=>(match ev (Cw n x r) with
  | .rt false d env=>(match env[0]? with
   | some (some (true,x'))=>some (d,x')
   | _=>none)
  | .nx env=>(match env[0]? with
   | some (some (true,x'))=>some (.non,x')
   | _=>none)
  | _=>none)
noncomputable def C0(K:Fg):Cfg:=⟨K,λ_=>none⟩
noncomputable def C1(K:Fg)(a:Addr):Cfg:=⟨K,λi=>if i=0 then some a else none⟩
noncomputable def Mi(H F:Hp):Hp:=λb=>if (F b).isSome then none else H b
theorem Wo(h:Mi H F b=some o):H b=some o/\F b=none:=by
 unfold Mi at h
 simp_all
theorem Mh(h:Mi H F b=none):H b=none\/∃o,F b=some o:=by
 unfold Mi at h;split at h
 ·rename_i z;exact .inr<|Qw9.mp z
 simp_all
theorem ym{K:Fg}(s:aX F H)(p:cD K F ds vs):Rel (C0 K) (Mi H F) F (envOf N.length ds) (start N vs) H:=by
 have un:∀(j:Nat) x,(envOf N.length ds)[j]? = some (some x)->∃d,x=(false,d)/\ds[j]? = some d:=λj x he=>by
  unfold envOf at he
  grind
 refine⟨λb o e=>(Wo e).1,s,?_,λj d he=>?_,λj d he=>?_,λj k d e a hj hk=>?_,λb o e=>?_,λi a h=>by cases h⟩
 ·unfold envOf L2.start;rw[Qqj,Qqj,Qqz,Qqz,Qw4,Qw4,p.length]
 ·obtain⟨d',z,hd⟩:=un j _ he;cases z;obtain⟨v,h1,h2⟩:=p.get hd;refine⟨v,?_,h2⟩;unfold L2.start
  grind
 ·simp_all
 ·simp_all
 ·unfold Mi;rw[e];rfl
theorem aX.El(s1:aX (Mi H F) H')(s2:aX F F')(s3:aX F' H')(sF:aX F H):aX H H':=λb o e=>by
 cases z:F b with
 | none=>exact s1 b o (by unfold Mi;rw[z];exact e)
 | some w=>
  have:=sF b w z;rw[e] at this;cases this;exact s3 b o<|s2 b o z
theorem En(s2:aX F F')(dj:∀b o,F' b=some o->Mi H F b=none)(b)(o)(h:F' b=some o):F b=some o\/H b=none:=by
 rcases Mh (dj b o h) with z|⟨w,z⟩
 ·exact .inr z
 ·have:=s2 b w z
  simp_all
section
variable{P:Program}{w:World}{K:Fg}{mg:Str->Option Value}{base:Heap}{x qual:Str}{st:Stmt}{f:Addr}{fd:FuncData}{N ps:List Str}{k:Nat}{ev:cB}
abbrev bx(P:Program)(w:World)(K:Fg)(mg:Str->Option Value)(base:Heap)(N:List Str)(qual:Str)(st:Stmt)(f:Addr)(cdv:Value)(A:Around)(outer:List PySem.Env)(s:Shared)(H:Hp)(E:XK):Cx:=(Ag yR P w K mg base N qual (aG st) f cdv A outer s H E).nox
theorem agq(F:Fun K x qual st f fd)(S:bf N ps (aG st))
  (hb:∀cdv A outer s H E,jr k (A.deeper (envOfC qual (aG st) s.heap.objs.size f cdv))->Hh (bx P w K mg base N qual st f cdv A outer s H E) (C0 K) (dB st) ev) :
  pP P w K mg base yR (k+1) f fd ps (jg K ps.length (cA N.length ev)):=by
 refine F.ok S (λvs H Q E h=>?_)<|λcdv A outer s H vs Q E hr h=>?_
 ·obtain⟨F0,ds,d,hl,_,p,_⟩:=h;rw[p.length,hl]
 ·obtain⟨F0,ds,d,hl,sF,p,e,q⟩:=h;refine⟨_,hb cdv A outer s H E hr,Mi H F0,F0,envOf N.length ds,ym sF p,?_⟩;unfold cA at e;split at e
  ·rename_i d' env' h1;cases e;rw[h1];exact λv σ' H' F' r' s' p'=>q v H' F' (aX.El r'.pr s' r'.fr sF) r'.fr s' (En s' r'.dj) p'
  ·rename_i env' h1;cases e;rw[h1];exact λσ' H' F' r' s'=>q .non H' F' (aX.El r'.pr s' r'.fr sF) r'.fr s' (En s' r'.dj) rfl
  ·cases e
theorem ajP(F:Fun K x qual st f fd)(S:bf N ps (aG st))
  (hb:∀cdv A outer s H E,jr k (A.deeper (envOfC qual (aG st) s.heap.objs.size f cdv))->Hh (bx P w K mg base N qual st f cdv A outer s H E) (C0 K) (dB st) ev) :
  pP P w K mg base yR (k+1) f fd ps (spN K ps.length (runN N.length ev)):=by
 refine F.ok S (λvs H Q E h=>?_)<|λcdv A outer s H vs Q E hr h=>?_
 ·obtain⟨F0,ds,d,hl,_,p,_⟩:=h;rw[p.length,hl]
 ·obtain⟨F0,ds,d,hl,sF,p,e,q⟩:=h;refine⟨_,hb cdv A outer s H E hr,Mi H F0,F0,envOf N.length ds,ym sF p,?_⟩;unfold runN at e;split at e
  ·rename_i d' env' h1;cases e;rw[h1];refine λa σ' H' F' r' s' n'=>q a H' F' (aX.El r'.pr s' r'.fr sF) r'.fr s' (En s' r'.dj) n'.own n'.nF ?_;rcases Mh n'.nP with z|⟨u,z⟩
   ·exact z
   ·have:=s' a u z;rw[n'.nF] at this;cases this
  ·cases e
theorem V1(s:aX F H)(hF:F a=none)(ho:qt K F H y a)(p:cD K F ds vs):Rel (C1 K a) (λb=>if b=a then none else Mi H F b) F (Cw N.length y ds) (start N (.ref a::vs)) H:=by
 have un:∀j x,(Cw N.length y ds)[j]? = some (some x)->(j=0/\x=(true,y))\/∃i d,j=i+1/\x=(false,d)/\ds[i]? = some d:=λj x he=>by
  unfold Cw at he;cases j with
  | zero=>cases he;exact .inl ⟨rfl,rfl⟩
  | succ i=>
   rw[List.getElem?_cons_succ] at he;by_cases hj:i<(ds.map λd=>some (false,d)).length
   ·rw[Qz6 hj,Qx5] at he;obtain⟨d,h1,h2⟩:=Qwy.mp he;cases h2;exact .inr ⟨i,d,rfl,rfl,h1⟩
   ·rw[List.getElem?_append_right (by omega),List.getElem?_replicate] at he;split at he<;>cases he
 have z0:(start N (.ref a::vs))[0]? = some (some<|V.ref a):=rfl;refine⟨λb o e=>?_,s,?_,λj d he=>?_,λj d he=>?_,λj k d e b hj hk _ _=>?_,λb o e=>?_,λi b h=>?_⟩
 ·have e':=e;split at e'
  ·cases e'
  ·exact(Wo e').1
 ·unfold Cw L2.start;simp only[Qqv,Qqj,Qqz,Qw4,p.length,Qq7];omega
 ·rcases un j _ he with ⟨_,z⟩|⟨i,d',rfl,z,hd⟩
  ·cases z
  ·cases z;obtain⟨v,h1,h2⟩:=p.get hd;refine⟨v,?_,h2⟩;unfold L2.start;rw[Qq7,List.cons_append,List.getElem?_cons_succ,Qz6 (by rw[Qqz];exact(Qq9.mp h1).1),Qx5,h1]
   rfl
 ·rcases un j _ he with ⟨rfl,z⟩|⟨i,d',rfl,z,hd⟩
  ·cases z;exact⟨a,z0,ho,hF,if_pos rfl⟩
  ·cases z
 ·rcases un j _ hj with ⟨rfl,_⟩|⟨i,d',rfl,z,_⟩
  ·rcases un k _ hk with ⟨rfl,_⟩|⟨i,d',rfl,z,_⟩
   ·rfl
   ·cases z
  ·cases z
 ·show(if b=a then none else Mi H F b)=none;split
  ·rfl
  ·unfold Mi;rw[e];rfl
 ·have h':(if i=0 then some a else none)=some b:=h;split at h'
  ·rename_i hi;cases h';rw[hi];exact z0
  ·cases h'
theorem aoU(F:Fun K x qual st f fd)(S:bf N (y::qs) (aG st))
  (hb:∀cdv A outer s H E a,jr k (A.deeper (envOfC qual (aG st) s.heap.objs.size f cdv))->Hh (bx P w K mg base N qual st f cdv A outer s H E) (C1 K a) (dB st) ev) :
  pP P w K mg base yR (k+1) f fd (y::qs) (Ds K (qs.length+1) (qi N.length ev)):=by
 refine F.ok S (λvs H Q E h=>?_)<|λcdv A outer s H vs Q E hr h=>?_
 ·obtain⟨F0,a,r,z,ds,d,z',rfl,hl,_,_,_,p,_⟩:=h;rw[Qqv,Qqv,p.length];exact hl
 ·obtain⟨F0,a,r,z,ds,d,z',rfl,hl,sF,hFa,ho,p,e,q⟩:=h;refine⟨_,hb cdv A outer s H E a hr,_,F0,Cw N.length z ds,V1 sF hFa ho p,?_⟩;have fin:∀env' σ' H' F' v d z',env'[0]? = some (some (true,z'))->Rel (C1 K a) (λb=>if b=a then none else Mi H F0 b) F' env' σ' H'->aX F0 F'->Rep K F' d v->(∀v H' F',(∀b o,b≠a->H b=some o->H' b=some o)->aX F' H'->aX F0 F'->(∀b o,F' b=some o->F0 b=some o\/H b=none)->qt K F' H' z' a->Rep K F' d v->Q v H')->Q v H':=λenv' σ' H' F' v d z' h0 r' s' p' q=>by
   obtain⟨b,g1,g2,g3,g4⟩:=r'.own 0 z' h0;have g5:=r'.fix 0 a rfl;rw[g1] at g5;cases g5;refine q v H' F' (λc o hc e=>?_) r'.fr s' (λc o e=>?_) g2 p'
   ·cases u:F0 c with
    | none=>exact r'.pr c o (by show(if c=a then none else Mi H F0 c)=some o;rw[if_neg hc];unfold Mi;rw[u];exact e)
    | some w=>
     have:=sF c w u;rw[e] at this;cases this;exact r'.fr c o<|s' c o u
   ·by_cases hc:c=a
    ·simp_all
    ·have h1:=r'.dj c o e;have h1':=h1;rw[if_neg hc] at h1';rcases Mh h1' with u|⟨w,u⟩
     ·exact .inr u
     ·have:=s' c w u
      simp_all
  unfold qi at e;simp at e;split at e
  ·rename_i d' env' h1;split at e
   ·rename_i z1 h0;cases e;rw[h1];exact λv σ' H' F' r' s' p'=>fin env' σ' H' F' v _ _ h0 r' s' p' q
   ·cases e
  ·rename_i env' h1;split at e
   ·rename_i z1 h0;cases e;rw[h1];exact λσ' H' F' r' s'=>fin env' σ' H' F' .non .non _ h0 r' s' rfl q
   ·cases e
  ·cases e
end
structure Good(X:Cx)(C:Cfg):Prop where
 K:X.K=C.K
 calm:X.calm=true
 un:X.A.units+64<cLine
theorem Good.u1(G:Good X C):X.A.units+1<cLine:=Qxq (Nat.add_le_add_left (by decide:1<=64) _) G.un
theorem Good.u60(G:Good X C):X.A.units+60<cLine:=Qxq (Nat.add_le_add_left (by decide:60<=64) _) G.un
theorem Good.u61(G:Good X C):X.A.units+61<cLine:=Qxq (Nat.add_le_add_left (by decide:61<=64) _) G.un
theorem Good.at(G:Good X C)(h:ji X scope N' X'):Good X' C:=by obtain⟨_,_,_,_,_,rfl⟩:=h;exact⟨G.K,G.calm,G.un⟩
def Own(P:Program)(w:World)(K:Fg)(mg:Str->Option Value)(base:Heap)(x:Str)(k:Nat)(ps:List Str)(sp:Sp):Prop:=
 ∃f fd,pP P w K mg base yR k f fd ps sp/\mg x=some (.ref f)/\PySem.W.keepIn K (.ref f)=true/\Binds K fd ps []
def Al(K:Fg)(mg:Str->Option Value)(x:Str)(d:D):Prop:=∃v u,mg x=some u/\RelV v u/\∀F,Rep K F d v
def bU(K:Fg)(mg:Str->Option Value)(x:Str)(st:Stmt)(ps:List Str):Prop:=∃f fd,Fun K x x st f fd/\mg x=some (.ref f)/\Binds K fd ps []
noncomputable def qJ:List Str->Bool
 | []=>true
 | x::r=>!(r.contains x)&&qJ r
theorem lA:∀{l},qJ l=true->l.Nodup
 | [],_=>.nil
 | x::r,h=>by
  have h':(!(r.contains x)&&qJ r)=true:=h;rw[Qzw] at h';refine Qxj.mpr ⟨λhm=>?_,lA h'.2⟩
  simp_all
noncomputable def aaZ(outer:List (Str×NameKind)):List (Str×NameKind)->Bool
 | []=>true
 | (n,k)::r=>(!decide (k = .free)||decide (outer.lookup n=some .cell)||decide (outer.lookup n=some .free))&&aaZ outer r
theorem W6:∀{l},aaZ outer l=true->∀x∈l,x.2 = .free->outer.lookup x.1=some .cell\/outer.lookup x.1=some .free
 | [],_,x,hx,_=>by simp at hx
 | (n,k)::r,h,x,hx,hf=>by
  have h':((!decide (k = .free)||decide (outer.lookup n=some .cell)||decide (outer.lookup n=some .free))&&aaZ outer r)=true:=h;rw[Qzw,Bool.or_eq_true,Bool.or_eq_true] at h';rcases Qq2.mp hx with rfl|hx
  ·simp_all
  ·exact W6 h'.2 x hx hf
theorem fZ{X:Cx}{scope:Scope}{N':List Str}(h1:scope.kind = .function:=by rfl)(h2:qJ (scope.names.map (·.1))=true:=by rfl)(h3:aaZ X.env.scope.names scope.names=true:=by rfl)(h4:agx scope.names N' X.N=true:=by rfl)(h5:Nat.ble X.N.length N'.length=true:=by rfl):mV X scope N':=
 ⟨h1,lA h2,W6 h3,h4,Qw5 h5⟩
section
variable{X:Cx}{C:Cfg}{pos p px:Pos}{x y z:Expr}{a b c:Ev}{t u:gR}{i:Nat}{n:Str}
structure Bi(X:Cx)(C:Cfg)(op:Operator)(g:D->D->Option D):Prop where
 ex:∃r,qu X (binaryOp op) r/\uC C r g
structure Cm(X:Cx)(C:Cfg)(op:CmpOp)(g:D->D->Option D):Prop where
 ex:∃r,qu X (compareOp op) r/\uC C r g
theorem dz(G:Good X C):Bi X C .Add bJ:=⟨_,aiI,by rw[G.K];exact am4⟩
theorem ald:Bi X C .Sub xJ:=⟨_,amA,amT⟩
theorem agG:Bi X C .Mult Ad:=⟨_,aiG,amX⟩
theorem aso:Bi X C .Mod aox:=⟨_,amF,amY⟩
theorem alf:Bi X C .Pow Z0:=⟨_,amD,amW⟩
theorem asn:Bi X C .LShift acG:=⟨_,amC,amV⟩
theorem ale:Bi X C .RShift W2:=⟨_,amB,amU⟩
theorem alh:Bi X C .BitAnd W5:=⟨_,amM,am3⟩
theorem oM(G:Good X C):Cm X C .Eq jb:=⟨_,amL G.u60,by rw[G.K];exact aqU⟩
theorem ac3(G:Good X C):Cm X C .NotEq Up:=⟨_,amE G.u60,by rw[G.K];exact aqO⟩
theorem Pu(G:Good X C):Cm X C .In xK:=⟨_,amK G.u61,by rw[G.K];exact aqS⟩
theorem ajY(G:Good X C):Cm X C .NotIn Ac:=⟨_,ab0 G.u61,by rw[G.K];exact ae3⟩
theorem agE:Cm X C .Is gIs:=⟨_,amI,aqR⟩
theorem ajZ:Cm X C .IsNot Nm:=⟨_,ab2,ae5⟩
theorem ao4:Cm X C .Lt gLt:=⟨_,amG,aqP⟩
theorem Xk:Cm X C .LtE gLe:=⟨_,aqH,aqQ⟩
theorem asi:Cm X C .Gt gGt:=⟨_,aqI,aqT⟩
variable{e:Expr}{es:List Expr}{ea:d7}
theorem len0:∀env ds env',ao env = .ok ds env'->ds.length=0:=acQ
theorem aY(hr:∀env ds env',r env = .ok ds env'->ds.length=m):∀env ds env',aa a r env = .ok ds env'->ds.length=m+1:=Z2 hr
theorem lD{r:d7}(hr:∀env ds env',r env = .ok ds env'->ds.length=m):∀env ds env',r env = .ok ds env'->ds.length+1=m+1:=λenv ds env' h=>by grind
theorem aui(N')(lo)(ok:mV X scope N')(G:Good X C)(hi:PXI X C tg iter it)
  (bg:∀X',ji X scope N' X'->PXG X' C lo tg g) (bc:∀X',ji X scope N' X'->aai X' C ifs cc) (be:∀X',ji X scope N' X'->PX X' C elt ee)
  (hs:∀x,foldedSetIterable iter X.env x=pure x:=by intro _;rfl):PXN X C (.ListComp elt [⟨tg,iter,ifs,0⟩] scope pos) (gr lo N'.length it g cc ee):=al5 N' lo ok G.calm hi bg bc be hs
theorem atQ(N'){spos py:Pos}(lo)(i)(ok:mV X scope N')(G:Good X C)(hi:PXI X C tg iter it)
  (bg:∀X',ji X scope N' X'->PXG X' C lo tg g) (bc:∀X',ji X scope N' X'->aai X' C ifs cc) (be:∀X',ji X scope N' X'->PX X' C elt ee)
  (hnd:qJ X.N=true:=by rfl) (hfx:C.fx i=none:=by rfl) (hy:X.N[i]? = some n:=by rfl) (hx:Loc X.env.scope n:=by first|exact Or.inl rfl|exact Or.inr rfl)
  (hsw:swapsWith (.ListComp elt [⟨tg,iter,ifs,0⟩] scope pos) (some (.Name n py)) spos.line X.env=pure true:=by rfl)
  (hf:X.fn n=true\/X.env.scope.names.lookup n=some .local:=by first|exact .inl rfl|exact .inr rfl)
  (hs:∀x,foldedSetIterable iter X.env x=pure x:=by intro _;rfl):PXS X C (.Assign [.Name n py] (.ListComp elt [⟨tg,iter,ifs,0⟩] scope pos) spos) (fD i (gr lo N'.length it g cc ee)):=abO N' lo ok G.calm hi bg bc be (lA hnd) hy hx hfx hsw hf hs
end
section
variable{P:Program}{w:World}{K:Fg}{mg:Str->Option Value}{base:Heap}{x:Str}{st:Stmt}{N ps:List Str}{k:Nat}{ev:cB}
theorem Cj(hC:C.K=K)(hr:jr k (A.deeper (envOfC x (aG st) s.heap.objs.size f cdv))):Good (bx P w K mg base N x st f cdv A outer s H E) C:=⟨hC.symm,rfl,hr.units⟩
theorem bD(F:bU K mg x st ps)(S:bf N ps (aG st))
  (hb:∀f cdv A outer s H E,jr k (A.deeper (envOfC x (aG st) s.heap.objs.size f cdv))->Good (bx P w K mg base N x st f cdv A outer s H E) (C0 K)->Hh (bx P w K mg base N x st f cdv A outer s H E) (C0 K) (dB st) ev) :
  Own P w K mg base x (k+1) ps (jg K ps.length (cA N.length ev)):=by
 obtain⟨f,fd,h1,h2,h3⟩:=F;exact⟨f,fd,agq h1 S λcdv A outer s H E hr=>hb f cdv A outer s H E hr<|Cj rfl hr,h2,h1.kp,h3⟩
theorem aiC(F:bU K mg x st ps)(S:bf N ps (aG st))
  (hb:∀f cdv A outer s H E,jr k (A.deeper (envOfC x (aG st) s.heap.objs.size f cdv))->Good (bx P w K mg base N x st f cdv A outer s H E) (C0 K)->Hh (bx P w K mg base N x st f cdv A outer s H E) (C0 K) (dB st) ev) :
  Own P w K mg base x (k+1) ps (spN K ps.length (runN N.length ev)):=by
 obtain⟨f,fd,h1,h2,h3⟩:=F;exact⟨f,fd,ajP h1 S λcdv A outer s H E hr=>hb f cdv A outer s H E hr<|Cj rfl hr,h2,h1.kp,h3⟩
theorem zB(F:bU K mg x st (y::qs))(S:bf N (y::qs) (aG st))
  (hb:∀f cdv A outer s H E a,jr k (A.deeper (envOfC x (aG st) s.heap.objs.size f cdv))->Good (bx P w K mg base N x st f cdv A outer s H E) (C1 K a)->Hh (bx P w K mg base N x st f cdv A outer s H E) (C1 K a) (dB st) ev) :
  Own P w K mg base x (k+1) (y::qs) (Ds K (qs.length+1) (qi N.length ev)):=by
 obtain⟨f,fd,h1,h2,h3⟩:=F;exact⟨f,fd,aoU h1 S λcdv A outer s H E a hr=>hb f cdv A outer s H E a hr<|Cj rfl hr,h2,h1.kp,h3⟩
theorem dZ{sc:Scope}(h1:sc.kind = .function:=by rfl)(h2:sc.isCoroutine=false:=by rfl)(h3:sc.isGenerator=false:=by rfl)(h4:qJ N=true:=by rfl)(h5:N.take ps.length=ps:=by rfl)
  (h6:(ps.all λx=>decide (sc.names.lookup x=some .local)||decide (sc.names.lookup x=some .cell))=true:=by rfl) (h7:(sc.names.all λy=>!decide (y.2 = .free))=true:=by rfl):bf N ps sc:=by
 refine⟨h1,h2,h3,lA h4,h5,λx hx=>?_,λy hy z=>?_⟩
 all_goals grind
end
open PySem PySem.Spec PySem.W PySem.Calls PyProof.Rows L2
theorem Hm:∀(ns:List Int) i,i∈ns->Builtin.Int.intBits i<=WData.weightAll (ns.map WData.int)
 | [],_,h=>by simp at h
 | n::ns,i,h=>by
  rw[Qq7,WData.weightAll];rcases Qq2.mp h with rfl|h
  ·have e:WData.weight (.int i)=Builtin.Int.intBits i:=by rfl
   omega
  ·have:=Hm ns i h;omega
def aal(ns:List Int):Prop:=∀i∈ns,Builtin.Int.intBits i<=2^20
theorem UG{l:OpenLaw}
  (hn:l.most=some n) (hdf:d.params.defaults=[])
  (call:∀w s₀ s₁ mg mb fa o pm cd doc a vs ns,
   Ground q loose [] XP w s₀ mg mb s₁.heap->YP w s₁.heap->
   s₁.heap.get? fa=some o->o.data = .func (docDef d.name d.params d.body d.scope pm cd doc)->s₁.heap.CodeRec cd d.name->mg d.name=some (.ref fa)->
   s₁.heap.get? a=some { cls:=.type "list",data:=.seq vs.toArray }->IntsAre vs ns->ns.length<=n->aal ns->s₁.gens = #[]->
   codeAny (model l.prog w) callerA (.call (.ref fa) ⟨[.ref a],[]⟩) (λr s'=>r = .ok (.ret (.bool true))/\OldK s₁.heap s'.heap/\s'.os=s₁.os/\AllBare s'.gens) s₁) :
  WalkO q loose XP YP l.row.toRowW d [] (λf vs=>PySem.call f vs):=by
 intro w s₀ s₁ mg mb G Y fa o pm cd doc dV kV ho hd hcd hD hmg hg args vals as hpre hlay hrd hwl hlo;obtain rfl:dV = .none:=Dflts.none hD hdf;obtain rfl:kV = .none:=Dflts.noKw hD;obtain⟨a,vs,ns,rfl,rfl,hobj,hints,hlen⟩:=Att.abI hn hpre hwl;have afT:=λi hi=>by
  have h1:=(layableW_iff.mp<|layableW_arg hlay _<|Qq4.mpr rfl).2.2;rw[WData.weight] at h1;exact Qqy (Hm ns i hi) h1
 refine enter_call<|codeAny_mono (call w s₀ s₁ mg mb fa o pm cd doc a vs ns G Y ho (fd_plain hd) hcd hmg hobj hints hlen afT hg) λr s' hq=>?_;obtain⟨rfl,h2,h3,h4⟩:=hq;exact⟨.inl ⟨.bool true,.bool true,[],rfl,λ_=>rfl,.bool true,Att.abQ l _,λ_=>⟨List.Pairwise.nil,λ_ hm=>(nomatch hm)⟩⟩,h2,h3,h4⟩
section
variable{K:Fg}{h:Heap}{mg:Str->Option Value}
theorem funAt{st:Stmt}{od an:Option Addr}{kV doc pm cdv ct:Value}(X:K.In h)(G:h.Ns mainGlobals mg)
  (a:PySem.W.nsIn K mainGlobals x=some (some (.ref f))) (l:K.lookup f=some ⟨oc,od,.func (PySem.W.fnOf x x (iY st) (dB st) (aG st) .none kV doc pm an cdv ct),osl⟩)
  (c:PySem.W.codeIn K cdv x=true) (k:PySem.W.keepIn K (.ref f)=true)
  (b:∀kV doc pm an cdv ct us,us.length=ps.length->bindArgs (PySem.W.fnOf x x (iY st) (dB st) (aG st) .none kV doc pm an cdv ct) ⟨us,[]⟩=pure (ps.zip us)):bU K mg x st ps:=
 ⟨f,_,Nt l c k,Qzy X G a,(Nt l c k).binds b⟩
theorem aaV(X:K.In h)(G:h.Ns mainGlobals mg)(a:PySem.W.nsIn K mainGlobals x=some (some (.str s t)))(hs:s=strOf z)(hz:z.length<=sizeLine):Al K mg x (.str z):=
 ⟨.str s,_,Qzy X G a,⟨t,rfl⟩,λF=>⟨by rw[hs],hz⟩⟩
inductive Cst (K:Fg):D->V->Value->Prop where
 | str {s:Str} {z:List Nat} {t:Tok} (hs:s=strOf z) (hz:z.length<=sizeLine):Cst K (.str z) (.str s) (.str s t)
 | int {i:Int} {t:Tok}:Cst K (.int i) (.int i) (.int i t)
theorem Cst.rel(c:Cst K d v u):RelV v u:=by cases c<;>exact⟨_,rfl⟩
theorem Cst.rep(c:Cst K d v u)(F):Rep K F d v:=by
 cases c with
 | str hs hz=>exact⟨by rw[hs],hz⟩
 | int=>exact rfl
theorem WW(X:K.In h)(G:h.Ns mainGlobals mg)(e:PySem.W.nsIn K mainGlobals x=some (some (.ref a)))
  (l:K.lookup a=some ⟨.type "tuple",none,.seq #[u1,u2] n,sl⟩) (c1:Cst K d1 v1 u1) (c2:Cst K d2 v2 u2):Al K mg x (.tup [d1,d2]):=
 ⟨.ref a,_,Qzy X G e,rfl,λF=>⟨by show 2<=sizeLine;decide,a,[v1,v2],rfl,.inr ⟨_,_,_,l,rfl,rfl,rfl,by show 2<=sizeLine;decide,.cons c1.rel<|.cons c2.rel .nil⟩,_,_,rfl,c1.rep F,_,_,rfl,c2.rep F,rfl⟩⟩
theorem yz(X:K.In h)(G:h.Ns mainGlobals mg)(e:PySem.W.nsIn K mainGlobals x=some none):mg x=none:=PySem.W.mg_none_of X G e
end
open PySem L2
theorem W7(P:Env->Prop):∀ds,(∀d∈ds,∀env,P env->∃e1 e2,g d env=some e1/\b e1 = .nx e2/\P e2)->∀env,P env->∃e',mQ g b ds env = .nx e'/\P e'
 | [],_,env,hp=>⟨env,rfl,hp⟩
 | d::ds,h,env,hp=>by
  obtain⟨e1,e2,h1,h2,h3⟩:=h d (Qqw ..) env hp;obtain⟨e',h4,h5⟩:=W7 P ds (λd' hd=>h d'<|Qqk _ hd) e2 h3;refine⟨e',?_,h5⟩;unfold mQ
  simp_all
theorem aa0(P:List D->Env->Prop)(h:∀done d rest,all=done++d::rest->∀env,P done env->∃e1 e2,g d env=some e1/\b e1 = .nx e2/\P (done++[d]) e2):∀ds done,all=done++ds->∀env,P done env->∃e',mQ g b ds env = .nx e'/\P all e'
 | [],done,ha,env,hp=>⟨env,rfl,by simp_all⟩
 | d::ds,done,ha,env,hp=>by
  obtain⟨e1,e2,h1,h2,h3⟩:=h done d ds ha env hp;obtain⟨e',h4,h5⟩:=aa0 P h ds (done++[d]) (by simp_all) e2 h3;refine⟨e',?_,h5⟩;unfold mQ
  simp_all
theorem pC(all)(P:List D->Env->Prop)(h:∀done d rest,all=done++d::rest->∀env,P done env->∃e1 e2,g d env=some e1/\b e1 = .nx e2/\P (done++[d]) e2)(env)(h0:P [] env):∃e',mQ g b all env = .nx e'/\P all e':=aa0 P h all [] rfl env h0
theorem aW(h:a env = .nx e):aL a b env=b e:=by unfold aL;rw[h]
theorem nD(h:a env = .rt o d e):aL a b env = .rt o d e:=by unfold aL;rw[h]
theorem jK(h:it env = .ok ds e):ju it g b env=mQ g b ds e:=by unfold ju;rw[h];rfl
theorem dI(h:a env = .ok d e)(h':g d e=some e'):bh a g env = .nx e':=by unfold bh;rw[h];show Qu (g d e)=_;rw[h'];rfl
theorem lG(h:t env = .ok true e):dH t a b env=a e:=by unfold dH;rw[h];rfl
theorem nG(h:t env = .ok false e):dH t a b env=b e:=by unfold dH;rw[h];rfl
theorem cU(h:a env = .ok d e):bu a env = .rt false d e:=by unfold bu;rw[h];rfl
theorem bA(h:a env = .ok ds e)(h':g ds=some d):az g a env = .ok d e:=by unfold az;rw[h];show fX (g ds) e=_;rw[h'];rfl
theorem cW(h1:a env = .ok x e1)(h2:b e1 = .ok y e2)(h3:g x y=some d):aP g a b env = .ok d e2:=by
 unfold aP;rw[h1];show bindR (b e1) _=_;rw[h2];show fX (g x y) e2=_;rw[h3]
 rfl
theorem bV(h1:env[i]? = some (some (o',x0)))(h2:b env = .ok y e2)(h4:e2[i]? = some (some (o,x)))(h3:g x y=some d):aA g i b env = .ok d e2:=by
 unfold aA;rw[h1];show bindR (b env) _=_;rw[h2];show(match e2[i]? with|some (some (_,x))=>fX (g x y) e2|_=>.stuck)=_;rw[h4];show fX (g x y) e2=_;rw[h3]
 rfl
theorem bw(h1:a env = .ok d e1)(h2:r e1 = .ok ds e2):aa a r env = .ok (d::ds) e2:=by
 unfold aa;rw[h1];show bindR (r e1) _=_;rw[h2]
 rfl
theorem dq:ao env = .ok [] env:=rfl
theorem agf(h:r env = .ok ds e)(hz:ds.length<=sizeLine):cC r env = .ok (.lst ds) e:=by
 unfold cC;rw[h];show(if ds.length<=sizeLine then _ else _)=_
 simp_all
theorem uM(h:r env = .ok ds e)(hz:ds.length<=sizeLine):aF r env = .ok (.tup ds) e:=by
 unfold aF;rw[h];show(if ds.length<=sizeLine then _ else _)=_
 simp_all
theorem jG(h0:env[i]? = some (some (true,x0)))(h1:a env = .ok ds e1)(h2:e1[i]? = some (some (true,x)))(h3:f (x::ds)=some (d,x')):iW f i a env = .ok d (e1.set i (some (true,x'))):=by
 unfold iW;rw[h0];show bindR (a env) _=_;rw[h1];show(match e1[i]? with|some (some (true,x))=>(match f (x::ds) with|some (d,x')=>R.ok d (e1.set i<|some (true,x'))|none=>R.stuck)|_=>R.stuck)=_
 simp_all
theorem aaY(h:pU i j=true):Ad (.int i) (.int j)=some (.int (i*j)):=by
 show gI pU (λi j=>D.int<|i*j) (.int i) (.int j)=_;unfold gI
 simp_all
theorem Cv(h:a.length+b.length<=sizeLine):bJ (.lst a) (.lst b)=some (.lst (a++b)):=by show(if a.length+b.length<=sizeLine then _ else _)=_;rw[if_pos h]
theorem pG(h:a env = .ok (.bl b) e):eN a env = .ok b e:=by unfold eN;rw[h];rfl
theorem KJ(h:a env = .ok d e):fD i a env = .nx (e.set i (some (true,d))):=by unfold fD;rw[h];rfl
theorem yt(h:a env = .ok d e)(h':itD d=some ds):gW a env = .ok ds e:=by unfold gW;rw[h];show fX (itD d) e=_;rw[h'];rfl
theorem nR(h:ev (Cw n x r) = .rt false d env)(h0:env[0]? = some (some (true,x'))):qi n ev (x::r)=some (d,x'):=by
 unfold qi
 simp_all
theorem fM(h:ev (envOf n ds) = .rt false d env):cA n ev ds=some d:=by unfold cA;rw[h]
theorem Ke(P:Env->Prop)(f):∀ds env,P env->(∀d∈ds,∀env,P env->∃e1 e2,g d env=some e1/\e e1 = .ok (f d) e2/\P e2)->∃env',Er g cP e ds env = .ok (ds.map f) env'/\P env'
 | [],env,hp,_=>⟨env,rfl,hp⟩
 | d::ds,env,hp,h=>by
  obtain⟨e1,e2,h1,h2,h3⟩:=h d (Qqw ..) env hp;obtain⟨e3,h4,h5⟩:=Ke P f ds e2 h3 λd' hd=>h d'<|Qqk _ hd;refine⟨e3,?_,h5⟩;unfold Er;rw[h1];show bindR (e e1) _=_;rw[h2];show bindR (Er g cP e ds e2) _=_;rw[h4]
  rfl
theorem vP{lo n:Nat}(h1:it env = .ok ds aO)(hl:aO.length=lo)(h2:Er g c e ds (aO++List.replicate (n - lo) none) = .ok ys fP)(hz:ys.length<=sizeLine):gr lo n it g c e env = .ok (.lst ys) (fP.take lo):=by
 unfold gr;rw[h1];show(if aO.length=lo then _ else _)=_;rw[if_pos hl,h2];show(if ys.length<=sizeLine then _ else _)=_
 simp_all
theorem dig(n)(m)(hm:0<m):∃d:Nat,d<m/\n % m=(d:Int):=by have h1:0<=n % m:=Int.emod_nonneg n (by omega);have h2:n % m<m:=Int.emod_lt_of_pos n (by omega);exact⟨(n % m).toNat,by omega,by omega⟩
theorem Hf{α:Type}{xs:List α}(h:d<xs.length):uO xs d=some xs[d]:=oE<|Qx4 h
end Ev
namespace L2
open PySem PySem.Spec PyProof.Rows
section
variable{X:Cx}{pins:List (Addr×Obj)}{σ:St}{H:Hp}{s:Shared}{h':Heap}
theorem Inv.drawn{ch:List Addr}{T:Addr}(I:Inv X pins σ H s)(hch:∀b∈ch,wO X pins H b)(k:∀b u,b ∉ ch->s.heap.get? b=some u->h'.get? b=some u)(hT:s.heap.objs.size<=T)
  (new:jt X.prog X.w (upd H T o) h' T o):Inv X pins σ (upd H T o) { s with heap:=h',toks:=t' }:=by
 have nT:=I.hok.fresh hT;have nit:∀b u,H b=some u->b ∉ ch:=λb u e z=>by rw[(hch b z).1] at e;cases e
 have up:∀b u,H b=some u->upd H T o b=some u:=λb u e=>by rw[bT (dR e nT)];exact e
 refine I.step (λb hb=>?_) (λb u _ _ hc e _=>k b u hc e) (λb u _ _ hc e _=>⟨u.slots,k b u hc e⟩) (λb u hc e n=>?_)
  (λb u hc e=>⟨u,k b u hc e⟩) (λb xs e=>up b _ e) (λb u v e=>up b _ e) (λb ps e=>⟨#[],by simp_all⟩) (λm hm=>?_) (λb u e=>?_) I.bare (λb qs e=>up b _ e)
 ·obtain⟨h0,h1,h2,h3,h4,h5⟩:=hch b hb
  grind
 ·have hb:b≠T:=λz=>by
   subst z;exact absurd (Qq3 e)<|Nat.not_lt.mpr hT
  rw[bT hb];exact n
 ·obtain⟨u,es,ep,ho,r⟩:=hm;have hL:X.env.locals ∉ ch:=λz=>(hch _ z).2.1 rfl;exact⟨u,es,ep,k _ u hL ho,r⟩
 ·by_cases hb:b=T
  ·subst hb;rw[bz] at e
   simp_all
  ·rw[bT hb] at e;refine(I.hok b u e).stay (λc v hc q=>k c v ?_ q) (λc q=>up _ _ q) (λc xs q=>up _ _ q) λc _ _ _ _ q=>up _ _ q
   grind
theorem Inv.aax{ch:List Addr}(I:Inv X pins σ H s)(hch:∀b∈ch,wO X pins H b)(k:∀b u,b ∉ ch->s.heap.get? b=some u->h'.get? b=some u):Inv X pins σ H { s with heap:=h',toks:=t' }:=by
 have nit:∀b u,H b=some u->b ∉ ch:=λb u e z=>by rw[(hch b z).1] at e;cases e
 refine I.step (λb hb=>?_) (λb u _ _ hc e _=>k b u hc e) (λb u _ _ hc e _=>⟨u.slots,k b u hc e⟩) (λb u hc e n=>n)
  (λb u hc e=>⟨u,k b u hc e⟩) (λb xs e=>e) (λb u v e=>e) (λb ps e=>⟨#[],by rw[e];simp⟩) (λm hm=>?_) (λb u e=>?_) I.bare
 ·obtain⟨h0,h1,h2,h3,h4,h5⟩:=hch b hb
  grind
 ·obtain⟨u,es,ep,ho,r⟩:=hm;have hL:=λz=>(hch _ z).2.1 rfl;exact⟨u,es,ep,k _ u hL ho,r⟩
 ·refine(I.hok b u e).stay (λc v hc q=>k c v ?_ q) (λ_ q=>q) λ_ _ q=>q
  grind
end
def Ite(z:Str):It:=⟨λi _=>i<z.cps.size,λi H x H'=>∃p c,z.cps[i]? = some c/\H p=none/\H'=upd H p (.tup [.int i,.str ⟨#[c]⟩])/\x = .ref p,λi _=>i=z.cps.size⟩
theorem Qa{P:Program}{w:World}{K:PySem.W.Frag}{elts:List Expr}{k:Nat}{pos:Pos}(e it:Addr)(z:Str)(t:Tok)(ty:String)(hei:e≠it)
  (D:∀A:Around,A.handled=none->Draws P w A it [it] z.cps.size (λi v=>∃c u,z.cps[i]? = some c/\v = .str ⟨#[c]⟩ u) (λi h=>h.IsStrIter it ty z t i)) :
  Turn P w K (.Tuple elts k pos) (Ite z) [e,it] e (λi h=>(∃old,IsEnum h e it i old)/\h.IsStrIter it ty z t i) where
 mem:=by simp
 obj:=λi h st b hb=>by
  obtain⟨⟨old,he⟩,o,ho,hc,hd⟩:=st
  grind
 keep:=λi h h' st kk=>by
  obtain⟨⟨old,he⟩,o,ho,r⟩:=st;exact⟨⟨old,kk e (by simp) _ he⟩,o,kk it (by simp) o ho,r⟩
 item:=by
  intro X hP hw hK hc i pins s σ H E I hf st hg;subst hP hw hK;obtain⟨⟨old,he⟩,hit⟩:=st;refine wpAny_pyNext_enum_itemD (A:=X.A) (D X.A.in1<|I.ok.hd hc) he hit hg hei (by simp[hei]) λx h' tk hv ho hSt auO hsz hk=>?_;obtain⟨c,u,hcz,rfl⟩:=hv;have hT:s.heap.objs.size<=s.heap.objs.size:=Qq0 _;have helt:e<s.heap.objs.size:=Qq3 he;have hilt:it<s.heap.objs.size:=by obtain⟨_,x,_⟩:=hit;exact Qq3 x
  have nT:H s.heap.objs.size=none:=I.hok.fresh hT;refine⟨_,rfl,?_⟩;refine wpAny_letOwnedTupleGo_enum (s:={ s with heap:=h',toks:=tk+1 }) ho λh'' axf hs''=>?_;have Bw:∀b o,b≠e->h'.get? b=some o->h''.get? b=some o:=λb o hb q=>(hs''.2 b hb).trans q;have hnT:s.heap.objs.size ∉ [e,it]:=λhb=>by
   grind
  refine⟨.ref s.heap.objs.size,upd H s.heap.objs.size<|.tup [.int i,.str ⟨#[c]⟩],I.drawn (t':=tk+1) (ch:=[e,it]) hf (λb o hb q=>Bw b o (λz=>hb (by simp[z]))<|hk b o (λz=>hb (by simp[z])) (λz=>hb (by simp[z])) q) hT ?_,rfl,⟨_,c,hcz,nT,rfl,rfl⟩,⟨⟨_,by assumption⟩,?_⟩,λb hb=>?_⟩
  ·exact⟨by show 2<=sizeLine;decide,[.int i tk,.str ⟨#[c]⟩ u],.cons ⟨_,rfl⟩ (.cons ⟨_,rfl⟩ .nil),_,Bw _ _ (Qz4 helt) auO,rfl,⟨_,rfl⟩,rfl⟩
  ·obtain⟨o,q,r⟩:=hSt;exact⟨o,Bw it o hei.symm q,r⟩
  ·have hne:b≠s.heap.objs.size:=λz=>by
    simp_all
   rw[bT hne];exact(hf b hb).1
 done:=by intro X hP hw hK hc i pins s σ H E I hf st hg;subst hP hw hK;have W:=WalksT.enumerateD (A:=X.A) (D X.A.in1 (I.ok.hd hc)) e hei (by simp[hei]) (by simp);have hg':i=z.cps.size:=hg;subst hg';exact W.done s _ _ st λh' tk hk=>⟨rfl,I.aax (t':=tk) (ch:=[e,it]) hf λb o hb e=>hk b o hb e⟩
 self:=λA i s Q E st h=>by
  obtain⟨⟨old,he⟩,_⟩:=st;exact wpAny_pyIter_enum he h
section
variable{X:Cx}{tg:Expr}
def arN(ta:TA):TI:=λσ H R=>ta σ H λvs H1=>∃z,vs=[.str z]/\R (Ite z) H1
theorem aiv(hg:Gl X "enumerate")(hm:X.mg "enumerate" = none)(ha:PA X [a] ta)(hs:starEach [a] X.env=[(false,eval a X.env)]:=by rfl):PI X (.Tuple elts k tp) (.Call (.Name "enumerate" p) [a] [] pos) (arN ta):=by
 intro pins s σ H R I h;refine Call_<|zG I hg hm PyProof.Rows.boot_enumerate<|Qx8 (gP (ha pos pins s σ H _ I h) λus s1 ⟨vs,H1,I1,r1,q1⟩=>?_) hs rfl;obtain⟨z,e,q⟩:=q1;subst e;cases r1 with
 | cons r rr=>
  cases rr;obtain⟨t,rfl⟩:=r;refine call_enumerate_str λh' he hit hsz hk=>?_;refine wpAny_pyIter_enum he ?_;have I2:Inv X pins σ H1 { s1 with heap:=h' }:=I1.kept hk;have own:∀b ∈ [s1.heap.objs.size+1,s1.heap.objs.size],wO X pins H1 b:=λb hb=>by
   rcases Qq2.mp hb with rfl|hb
   ·exact I1.acL (Nat.le_succ _)<|I1.hok.fresh<|Nat.le_succ _
   ·rw[Qq4.mp hb];exact I1.acL (Qq0 _)<|I1.hok.fresh<|Qq0 _
  cases hz:z.cps.all (·< 128)
  ·have hit':h'.IsStrIter s1.heap.objs.size "str_iterator" z t 0:=by simpa[strIterType,hz] using hit
   exact⟨s1.heap.objs.size+1,[s1.heap.objs.size+1,s1.heap.objs.size],_,_,H1,rfl,I2,Qa _ _ z t "str_iterator" (Nat.succ_ne_self _) (λA hA=>Draws.strWide hA _ z t),⟨⟨_,he⟩,hit'⟩,own,q⟩
  ·have hit':h'.IsStrIter s1.heap.objs.size "str_ascii_iterator" z t 0:=by simpa[strIterType,hz] using hit
   exact⟨s1.heap.objs.size+1,[s1.heap.objs.size+1,s1.heap.objs.size],_,_,H1,rfl,I2,Qa _ _ z t "str_ascii_iterator" (Nat.succ_ne_self _) (λA hA=>Draws.strAscii hA _ z t),⟨⟨_,he⟩,hit'⟩,own,q⟩
end
open PySem PySem.Spec PyProof.Rows PySem.Builtin PySem.Builtin.Str
section
variable{X:Cx}{pins:List (Addr×Obj)}{σ:St}{H:Hp}{s:Shared}{a:Addr}{xs:List V}
theorem Inv.alA(I:Inv X pins σ H s)(h:qe X.K H a xs):∃its,Vals xs its/\J1 s.heap a its.toArray:=by
 rcases h with h|⟨o,its,n,hk,hc,hdn,hs,hz,r⟩
 ·obtain⟨z,its,r,p⟩:=h.ok I.hok;exact⟨its,r,p⟩
 ·exact⟨its.toList,r,⟨o,I.Zo a o hk,hc,⟨n,by simpa using hs⟩,hdn⟩⟩
end
section
variable{X:Cx}{o e:Expr}{to te:TE}{name:Str}{apos cpos:Pos}{id:String}{r:V->List V->Hp->VK->Prop}{t:TA}
def atz(te ts:TE):TE:=λσ H Q=>te σ H λx H1=>ts σ H1 λy H2=>∃z,x = .str z/\z.length<=sizeLine/\y = .int (-1)/\Q (.str ⟨z.cps.toList.reverse.toArray⟩) H2
theorem YT(z)(u):(⟨((slicePicked z none none (some (-1,u))).filterMap (z.cps[·]?)).toArray⟩:Str)=⟨z.cps.toList.reverse.toArray⟩:=by
 have h:=PyProof.Rows.step_rev_list z u;unfold Txt.sliceBy at h;have h1:¬(((((some ((-1:Int),u)).map (·.1)).getD 1 == 1)&&((slicePicked z none none<|some (-1,u)).length == z.length))=true):=by have:((((some ((-1:Int),u)).map (·.1)).getD 1 == 1))=false:=rfl;rw[this];simp
 rw[if_neg h1] at h;have h2:((slicePicked z none none<|some (-1,u)).filterMap (z.cps[·]?))=z.cps.toList.reverse:=by
  have h3:((slicePicked z none none<|some (-1,u)).filterMap (z.cps[·]?))=(List.range z.length).map λk=>z.cps.getD (z.length - 1 - k) 0:=by simpa using h
  rw[h3];apply List.ext_getElem
  ·simp[Str.length]
  ·intro i h4 h5;have hi:i<z.cps.size:=by simpa[Str.length] using h4
   simp[Str.length,Array.getD,List.getElem_reverse];rw[dif_pos (by omega)]
 rw[h2]
theorem amq{st:Expr}(he:PE X e te)(hst:PE X st ts):PE X (.Subscript e (.Slice none none (some st) p2) pos) (atz te ts):=by
 intro pins s σ H Q I h;refine Subscript_<|gP (he pins s σ H _ I h) λv s1 ⟨x,H1,I1,r1,q1⟩=>?_;refine wpAny_Slice ?_;rw[evalPart_none,evalPart_some];refine Qq1<|Qq1<|gP (hst pins s1 σ H1 _ I1 q1) λw s2 ⟨y,H2,I2,r2,q2⟩=>?_;obtain⟨z,ex,hz,ey,q⟩:=q2;subst ex;subst ey;obtain⟨t,rfl⟩:=r1;obtain⟨t',rfl⟩:=r2;have I4:Inv X pins σ H2 { s2 with heap:=s2.heap.push { cls:=.type "slice",data:=.fields #[.none,.none,.int (-1) t'] } }:=I2.kept (t':=s2.toks) λb ob q=>Qqx _ q;show wpAny (model X.prog X.w) X.A (subscriptTail e (.Slice none none (some st) p2) (.str z t)<|.ref s2.heap.objs.size) (EP X pins σ Q) X.xe { s2 with heap:=s2.heap.push { cls:=.type "slice",data:=.fields #[.none,.none,.int (-1) t'] } };refine tail_any (ops:=[.ref s2.heap.objs.size,.str z t]) (typeIs_str _ z t) PySem.F.slot_str_getitem.lookup ?_ (by with_unfolding_all rfl);refine wpAny_getItem_str_slice (l:=none) (u:=none) (st:=some (-1,t')) ⟨_,Qq8 _ rfl,rfl,rfl⟩ rfl ?_;unfold sliceMade;have h1:¬(((((some ((-1:Int),t')).map (·.1)).getD 1 == 1)&&((slicePicked z none none (some (-1,t'))).length == z.length))=true):=by have:((((some ((-1:Int),t')).map (·.1)).getD 1 == 1))=false:=rfl;rw[this];simp
 rw[if_neg h1,YT];refine⟨?_,⟨.str ⟨z.cps.toList.reverse.toArray⟩,H2,I4.tok _,⟨_,rfl⟩,q⟩⟩;show z.cps.toList.reverse.toArray.size<=sizeLine
 simpa[Str.length] using hz
end
end L2
namespace Ev
open PySem PySem.Spec PyProof.Rows L2 PySem.Builtin
section
variable{X:Cx}{C:Cfg}{pos:Pos}{e x y:Expr}{a b:Ev}
noncomputable def vI:D->Option D
 | .int i=>some (.int (-i))
 | _=>none
theorem aly:UnD C (rU λi=>.int (-i)) vI:=by
 intro Pr F env σ H x d vx Q r px e q;cases x with
 | int i=>cases e;exact⟨i,px.int,q _ H F r (aX.refl F) rfl⟩
 | _=>cases e
noncomputable def aov:D->Option D
 | .str z=>some (.str z.reverse)
 | _=>none
def wk(a:Ev):Ev:=λenv=>bindR (a env) λd aO=>fX (aov d) aO
noncomputable def yJ(x:List Nat):List D:=x.zipIdx.map λp=>.tup [.int (p.2:Nat),.str [p.1]]
def Z1(a:d7):d7:=λenv=>bindR (a env) λds aO=>match ds with
 | [.str x]=>.ok (yJ x) aO
 | _=>.stuck
end
theorem acj
  (hx:s.heap.get? a=some o) (hc:o.cls = .type "tuple") (hdat:o.data = .seq xs k) (hd:o.dict=none) (hA:A.handled=none)
  (h:∀h' tk,(∀b u,s.heap.get? b=some u->h'.get? b=some u)->Q none { s with heap:=h',toks:=tk }):wpAny (model prog w) A (getAttr? (.ref a) "keys") Q E s:=by
 obtain⟨hp,g,d,tk,os⟩:=s;obtain⟨oc,od,dt,sl⟩:=o;cases hc;cases hdat;cases hd;have hT:∀tk',(⟨hp,g,d,tk',os⟩:Shared).TypeIs (.ref a) "tuple":=λ_=>⟨_,hx,rfl⟩;have f1:=sub_AttributeError;have f3:=F.slot_tuple_getattribute.lookup;have f4:=F.slot_tuple_getattribute.bind<|.ref a;have f5:=am_tuple_getattr_none;have hmiss:typeLookup (.type "tuple") "keys" = pure none:=by rfl
 unfold getAttr? getAttrBy? getAttrBy
 repeat (any_goals (first|assumption|exact hT _|((with_reducible show wpAny _ _ (call (Value.builtin "tuple.__getattribute__") _ _) _ _ _);refine call_meets F.slot_tuple_getattribute (hT _) am_entry_tuple_getattribute (F.args_tuple_getattribute_2 _ _) (meets_getattribute_miss_tuple a xs k sl "keys" _ hmiss (by rfl) (by decide +kernel)) ⟨hx,hA,λh' tk' e hx'=>?_⟩)|wp_step))
 obtain⟨t',u',he⟩:=hx'.there;show wpAny _ _ (getattributeRaised _ _ _ _ _ _ _) _ _ _;unfold getattributeRaised
 repeat (any_goals (first|assumption|wp_step))
 exact h _ _ hx'.keeps
structure Pr where
 p:Addr
 k:Key
 kv:Value
 v:Value
def agR(h:Heap)(r:Pr):Prop:=h.IsTuple r.p #[r.kv,r.v]/\My r.k r.kv=true
theorem agR.keep(x:agR h r)(n1:r.p≠c)(n2:r.p≠d)(k:∀b o,b≠c->b≠d->h.get? b=some o->h'.get? b=some o):agR h' r:=
 let ⟨⟨o,ho,q⟩,y⟩:=x;⟨⟨o,k _ o n1 n2 ho,q⟩,y⟩
noncomputable def putAll(kvs:List (Key×Value))(rs:List Pr):List (Key×Value):=rs.foldl (λacc r=>stored acc r.k r.v) kvs
theorem nU:plainId "dict.update.loop" = true:=by decide +kernel
theorem xV:entryFor table "dict.update.loop" = some Builtin.«dict.update.loop»:=entryFor_of_tree (by kernel_rfl)
theorem Vd{its:List Value}(hdi:d≠it)(hda:d≠a)(hia:it≠a):∀rs i kvs A R s,
  A.handled=none->its.drop i=rs.map (λr=>Value.ref r.p)->s.heap.IsTuple a its.toArray->s.heap.IsTupleIter it a i->s.heap.DictOf (cN prog w) d kvs->(∀r∈rs,agR s.heap r/\r.p≠d/\r.p≠it)->kvs.length+rs.length<=sizeLine->
  (∀h' tk,h'.DictOf (cN prog w) d (putAll kvs rs)->(∀b o,b≠d->b≠it->s.heap.get? b=some o->h'.get? b=some o)->R (.ok (.ret .none)) { s with heap:=h',toks:=tk })->
  wpAny (model prog w) A.in1 (Builtin.«dict.update.loop» ⟨[.ref d,.ref it,rawInt i,.none],[]⟩) (λfin s'=>match fin with|.done f=>R (.ok f) s'|.again c'=>c'.quiet=true/\codeAny (model prog w) A c' R s') (λe s'=>R (.error e) s') s
 | [],i,kvs,A,R,s,hh,hdr,ht,hit,hD,_,_,h=>by
  unfold Builtin.«dict.update.loop»;have hx:its.toArray[i]? = none:=by simp_all
  refine Qqq<|wpAny_pyNext_tuple_end hh hit ht hx λh' hex=>?_;show wpAny _ _ (Builtin.Dict.addKeywords d [] >>= _) _ _ _;refine Qqq<|Qq1<|Qq1 ?_;exact h h' s.toks (hD.extBut hex hdi) λb o _ h2 e=>hex b o h2 e
 | r::rs,i,kvs,A,R,s,hh,hdr,ht,hit,hD,hrs,hz,h=>by
  unfold Builtin.«dict.update.loop»;obtain⟨⟨hpt,hkey⟩,n1,n2⟩:=hrs r<|Qqw ..;have hlt:i<its.length:=by
   have:=Qx7 List.length hdr
   grind
  have hx0:its[i]? = some (.ref r.p):=by
   have:=Qx7 (λl=>l[0]?) hdr
   grind
  have hx:its.toArray[i]? = some (.ref r.p):=by simp_all
  have auI:its.drop (i+1)=rs.map (λr=>Value.ref r.p):=by
   have:=Qx7 List.tail hdr;rw[List.tail_drop] at this
   assumption
  refine Qqq<|wpAny_pyNext_tuple_item hit ht hx λh' hit' hs'=>?_;have k1:∀b o,b≠it->s.heap.get? b=some o->h'.get? b=some o:=λb o hb e=>(hs'.2 b hb).trans e;obtain⟨op,hop,hcp,np,hdp⟩:=hpt;have hop':=k1 _ _ n2 hop;dsimp only;refine Qqq<|Qjz<|Qqq<|wpAny_tryCatch ?_;unfold Builtin.Dict.pairItems;refine Qqq<|wpAny_typeOf ⟨op,hop',hcp⟩ ?_;rw[if_pos (by decide)];unfold seqItems?;refine Qqq<|Qqq<|wpAny_load hop' ?_;rw[hdp];refine Qq1<|Qq1 ?_;show wpAny _ _ (holding [r.kv,r.v]<|dictSet d r.kv r.v) _ _ _;have hzk:kvs.length<=sizeLine:=by omega
  refine Qjz<|wpAny_dictSet_pairs hkey (hD.sameBut hs' hdi) λh'' auR hs''=>?_;have k2:=λb o hb1 hb2 e=>(hs''.2 b hb1).trans<|k1 b o hb2 e;have hc:(i+1)=((i+1):Int):=by rfl
  rw[hc];refine Qq1 ⟨plainId_quiet nU _,codeAny_builtin xV ?_⟩;rw[Around.under_plainId nU _];have hln:(stored kvs r.k r.v).length<=kvs.length+1:=by have:=stored_length_le kvs r.k r.v;exact this
  refine Vd hdi hda hia rs (i+1) (stored kvs r.k r.v) A R _ hh auI ?_ ?_ auR (λq hq=>?_) (by grind) λh3 tk hD3 k3=>?_
  ·obtain⟨o,ho,q⟩:=ht;exact⟨o,k2 a o hda.symm hia.symm ho,q⟩
  ·obtain⟨o,ho,q⟩:=hit';exact⟨o,(hs''.2 it hdi.symm).trans ho,q⟩
  ·obtain⟨p1,p2,p3⟩:=hrs q<|Qqk _ hq;exact⟨p1.keep p2 p3 k2,p2,p3⟩
  ·exact h h3 tk hD3 λb o hb1 hb2 e=>k3 b o hb1 hb2<|k2 b o hb1 hb2 e
section
variable{X:Cx}{C:Cfg}{pos:Pos}
abbrev Pv:=Addr×Key×V
def sW(kvs:List (Key×V))(rs:List Pv):List (Key×V):=rs.foldl (λacc r=>putK acc r.2.1 r.2.2) kvs
def aer(K:Fg):List V->Hp->VK->Prop:=λxs H Q=>∃(a:Addr) (rs:List Pv),xs=[.ref a]/\qe K H a (rs.map λr=>V.ref r.1)/\(∀r∈rs,qe K H r.1 [kV r.2.1,r.2.2])/\rs.length<=sizeLine/\∀l,H l=none->Q (.ref l) (upd H l (.dK (sW [] rs)))
theorem V9{σ:L2.St}(I:L2.Inv X pins σ H s):∀rs us,Vals (rs.map λr=>V.ref r.1) us->(∀r∈rs,qe X.K H r.1 [kV r.2.1,r.2.2])->∃ps,us=ps.map (λr=>Value.ref r.p)/\(∀r∈ps,agR s.heap r)/\Paired (λ(r:Pv) q=>r.2.1=q.k/\RelV r.2.2 q.v) rs ps
 | [],us,h,_=>by cases h;exact⟨[],rfl,λr hr=>by simp at hr,.nil⟩
 | r::rs,us,h,hp=>by
  cases h with
  | cons h1 h2=>
   cases h1;obtain⟨ps,rfl,q1,q2⟩:=V9 I rs _ h2 λr' hr=>hp r'<|Qqk _ hr;obtain⟨its,rv,ht,_⟩:=I.tuple<|hp r<|Qqw ..;obtain⟨u1,u2,rfl,r1,r2⟩:=rv.two;refine⟨⟨r.1,r.2.1,u1,u2⟩::ps,rfl,λq hq=>?_,.cons ⟨rfl,r2⟩ q2⟩;rcases Qq2.mp hq with rfl|hq
   ·exact⟨ht,Bx (P:=X.prog) (w:=X.w) r1⟩
   simp_all
theorem Ql:∀{rs} {ps} {kvs} {vs},Paired (λr q=>r.2.1=q.k/\RelV r.2.2 q.v) rs ps->KV kvs vs->KV (sW kvs rs) (putAll vs ps)
 | _,_,_,_,.nil,h=>h
 | _,_,kvs,vs,.cons (a:=r) (b:=q) ⟨h1,h2⟩ hr,h=>by
  show KV (sW (putK kvs r.2.1 r.2.2) _) (putAll (stored vs q.k q.v) _);refine Ql hr ?_;rw[h1];exact h.put q.k h2
theorem Ho:∀rs kvs,(sW kvs rs).length<=kvs.length+rs.length
 | [],kvs=>Qq0 _
 | r::rs,kvs=>by
  have h1:=Ho rs<|putK kvs r.2.1 r.2.2;have h2:=xF kvs r.2.1 r.2.2;show(sW (putK kvs r.2.1 r.2.2) rs).length<=_
  grind
theorem ac1(hc:X.calm=true):lW X (.type "dict") (aer X.K):=by
 intro pins s σ H xs us Q I r h;obtain⟨a,rs,rfl,hq,hp,hz,q⟩:=h;obtain⟨u,rfl,rx⟩:=vals1 r;cases rx;obtain⟨its,rv,ob,h1,h2,⟨n,h3⟩,h4⟩:=I.alA hq;obtain⟨ps,rfl,hps,hpr⟩:=V9 I rs its rv hp;have hA:=I.ok.hd hc;have hlt:=Qq3 h1;refine callType_codes (Q₁:=λobj s₁=>obj = .ref s.heap.objs.size/\s₁ = { s with heap:=s.heap.push { cls:=.type "dict",data:=.dict #[] } }) F.kt_called_dict (F.kt_typeCall_dict_1 _) F.entry_dict_init (kt_code_dict_new _ ⟨rfl,rfl⟩) ?_;rintro obj s₁ ⟨rfl,rfl⟩;have hnew:(s.heap.push { cls:=.type "dict",data:=.dict #[] }).DictOf (cN X.prog X.w) s.heap.objs.size []:=Heap.DictOf.new s.heap;have k0:∀b o,s.heap.get? b=some o->(s.heap.push { cls:=.type "dict",data:=.dict #[] }).get? b=some o:=λb o e=>Qqx _ e;refine⟨hnew.typeIs,F.args_dict_init_2 _ _,?_⟩;unfold Builtin.«dict.__init__»;refine Qqq ?_;unfold Builtin.Dict.selfAndRest;refine Qqq<|wpAny_notOrdered_dict hnew.typeIs ?_;show wpAny _ _ (pure (s.heap.objs.size,[Value.ref a])) _ _ _;refine Qq1 ?_;show wpAny _ _ (Builtin.Dict.updateFrom "dict.__init__" s.heap.objs.size (.ref a) [] .none) _ _ _;unfold Builtin.Dict.updateFrom;refine Qqq<|wpAny_typeOf ⟨ob,k0 _ _ h1,h2⟩ ?_;rw[if_pos (by decide)];refine Qqq<|acj (k0 _ _ h1) h2 h3 h4 hA λh' tk hk=>?_;simp only[Option.isNone_none,if_true];refine Qqq<|wpAny_rule<|Qqq ?_;have hT:h'.IsTuple a (ps.map λr=>Value.ref r.p).toArray:=⟨ob,hk _ _<|k0 _ _ h1,h2,n,h3⟩;refine wpAny_pyIter_tuple hT ?_;refine Qq1 ⟨plainId_quiet nU _,codeAny_builtin xV ?_⟩;rw[Around.under_plainId nU _];have hD0:h'.DictOf (cN X.prog X.w) s.heap.objs.size []:=hnew.keep hk;have aol:s.heap.objs.size<h'.objs.size:=by obtain⟨o,_,_,ho,_⟩:=hD0;exact Qq3 ho
 have halt:a<h'.objs.size:=Qq3<|hk _ _<|k0 _ _ h1;have hda:s.heap.objs.size≠a:=Qz4 hlt;refine Vd (Qww aol) hda (Qz4 halt) ps 0 [] X.A.in1 _ _ hA rfl ?_ ⟨_,Qq8 _ rfl,rfl,rfl⟩ (hD0.push _) (λq hq=>?_) ?_ λh3 tk' hD3 k3=>?_
 ·obtain⟨o,ho,r⟩:=hT;exact⟨o,Qqx _ ho,r⟩
 ·obtain⟨⟨o,ho,r⟩,y⟩:=hps q hq;have arP:q.p<s.heap.objs.size:=Qq3 ho;refine⟨⟨⟨o,Qqx _<|hk _ _<|k0 _ _ ho,r⟩,y⟩,Qww arP,Qww<|Nat.lt_trans arP aol⟩
 ·rw[<-Paired.length hpr]
  simp_all
 ·refine⟨rfl,?_⟩;have kk:∀b u,s.heap.get? b=some u->h3.get? b=some u:=λb u e=>by
   have hb:b<s.heap.objs.size:=Qq3 e;exact k3 b u (Qww hb) (Qww<|Nat.lt_trans hb aol)<|Qqx _<|hk _ _<|k0 _ _ e
  have hsys:(s.heap.objs.size == sysModules)=false:=by rw[Qw6];exact Qz4 I.big
  refine⟨.ref s.heap.objs.size,upd H s.heap.objs.size<|.dK<|sW [] rs,I.laid kk (Qq0 _) ⟨?_,hsys,_,Ql hpr .nil,hD3⟩,rfl,q _<|I.hok.fresh<|Qq0 _⟩;have:=Ho rs []
  grind
def aaQ:D->Option (D×D)
 | .tup [k,v]=>(wL k).map λ_=>(k,v)
 | _=>none
noncomputable def vA:List D->Option (List (D×D))
 | []=>some []
 | d::ds=>match aaQ d,vA ds with
  | some p,some r=>some (p::r)
  | _,_=>none
noncomputable def pQ(kvs : List (D × D)) : List (D × D) → List (D × D)
  | [] => kvs
  | (k, v) :: r => (match wL k with
    | some q => pQ (putD kvs k q v) r
    | none => pQ kvs r)
def yG:List D->Option D
 | [.tup ds]=>(vA ds).map λps=>.dct (pQ [] ps)
 | _=>none
theorem xq:∀ps kvs,(pQ kvs ps).length<=kvs.length+ps.length
 | [],kvs=>Qq0 _
 | (k,v)::r,kvs=>by
  unfold pQ;split
  ·rename_i q hq;have h1:=xq r<|putD kvs k q v;have h2:=V4 kvs k q v
   grind
  ·have h1:=xq r kvs
   grind
theorem Ln:∀{ds} {ps},vA ds=some ps->ps.length=ds.length
 | [],ps,h=>by cases h;rfl
 | d::ds,ps,h=>by
  unfold vA at h;split at h
  ·rename_i p r h1 h2;cases h;rw[Qqv,Qqv,Ln h2]
  ·cases h
theorem Qm{K:Fg}:∀{ds} {ps} {vs} {kvs} {ks},vA ds=some ps->cD K F ds vs->gh K F kvs ks->
  ∃rs,vs=rs.map (λr=>V.ref r.1)/\(∀r∈rs,qe K F r.1 [kV r.2.1,r.2.2])/\gh K F (pQ kvs ps) (sW ks rs)
 | [],ps,vs,kvs,ks,h,hr,hk=>by cases h;cases hr;exact⟨[],rfl,λr hr=>by simp at hr,hk⟩
 | d::ds,ps,vs,kvs,ks,h,hr,hk=>by
  unfold vA at h;split at h
  ·rename_i p r h1 h2;cases h;obtain⟨v,w,rfl,p1,p2⟩:=hr;unfold aaQ at h1;split at h1
   ·rename_i k x;obtain⟨q,hq,rfl⟩:=Qwy.mp h1;obtain⟨_,a,us,rfl,h3,h4⟩:=p1;obtain⟨u1,w1,rfl,q1,u2,w2,rfl,q2,q3⟩:=h4;cases q3;cases aft hq q1;obtain⟨rs,rfl,g1,g2⟩:=Qm h2 p2<|hk.put hq q2;refine⟨(a,q,u2)::rs,rfl,λr hr=>?_,?_⟩
    ·grind
    ·unfold pQ;rw[hq];exact g2
   ·cases h1
  ·cases h
theorem ajV:CallD C (aer C.K) yG:=by
 intro Pr F env σ H ds d vs Q r p e q;unfold yG at e;split at e
 ·rename_i ds;obtain⟨v,w,rfl,p1,p2⟩:=p;cases p2;obtain⟨ps,e1,rfl⟩:=Qwy.mp e;obtain⟨z,a,us,rfl,h1,h1F,h2⟩:=p1.tup r.fr;obtain⟨rs,rfl,g1,g2⟩:=Qm (kvs:=[]) e1 h2 rfl;have hl:rs.length=ds.length:=by
   have:=h2.length
   rwa [Qqz] at this
  refine⟨a,rs,rfl,h1,λr' hr=>aX.tupK r.fr<|g1 r' hr,by rw[hl];exact z,λl hlf=>?_⟩;obtain⟨F2,r2,s2,p2⟩:=(r.fresh hlf).keep (New.of (d:=.dct<|pQ [] ps) r hlf ⟨by
   have h5:=xq ps [];rw[Ln e1] at h5;exact Qqy h5 (by simpa using z),_,bz,g2⟩)
  exact q _ _ F2 r2 s2 p2
 ·cases e
end
end Ev
namespace L2
open PySem PySem.Spec PyProof.Rows PySem.Builtin PySem.Builtin.Str
section
variable{X:Cx}
def aeq:R2:=λx y H Q=>∃a o,y = .ref a/\adf H a x o/\Q (.bl o.isSome) H
theorem ae0(hu:X.A.units+1<cLine):qu X (compareOp .In) aeq:=by intro pins s σ H x y v u Q I rx ry h;obtain⟨a,o,rfl,g,q⟩:=h;cases ry;exact au2 hu I g rx λs' I'=>⟨.bl o.isSome,H,I',rfl,q⟩
theorem Xg(v)(n d:Nat):max 0 (min (if v<0 then v+(n:Int) else v) n)=(HT.gQ n d (some v)):=by
 show _=(((if v<0 then (v+n).toNat else min v.toNat n):Nat):Int)
 grind
theorem range_one(a b:Nat):sliceRange a b 1=List.range' a (b - a):=by
 unfold sliceRange;have h1:(1:Int) > 0:=by decide
 simp only[if_pos h1];have hc:(if a<(b:Int) then (b - (a:Int)+1 - 1) / 1 else 0).toNat=b - a:=by omega
 rw[hc,List.range'_eq_map_range]
 grind
theorem aeL(lo hi)(n):strSliceIndices lo hi 1 n=List.range' (HT.gQ n 0 lo) (HT.gQ n n hi - HT.gQ n 0 lo):=by
 have h1:1 > 0:=by decide
 unfold strSliceIndices;simp[if_pos h1];rw[<-range_one]
 congr 1
 ·cases lo with
  | none=>rfl
  | some v=>exact Xg v n 0
 ·cases hi with
  | none=>rfl
  | some v=>exact Xg v n n
theorem W8(c:List Nat):∀m a,a+m<=c.length->(List.range' a m).filterMap (c.toArray[·]?)=(c.drop a).take m
 | 0,a,_=>by simp
 | m+1,a,h=>by
  rw[List.range'_succ,List.filterMap_cons];have e:c.toArray[a]? = some c[a]:=by simp
  rw[e,W8 c m (a+1) (by omega),Qz8 (i:=a) (by omega),List.take_succ_cons]
def Cy(z:List Nat)(lo hi:Option Int):List Nat:=(z.drop (HT.gQ z.length 0 lo)).take (HT.gQ z.length z.length hi - HT.gQ z.length 0 lo)
def at5:V->Option Int->Option Int->Hp->VK->Prop:=λx lo hi H Q=>∃z:List Nat,x = .str ⟨z.toArray⟩/\z.length<=sizeLine/\Q (.str ⟨(Cy z lo hi).toArray⟩) H
theorem part_of(p:IsPart v o):∃l,v=partValue l/\l.map (·.1)=o:=by
 cases p with
 | none=>exact⟨none,rfl,rfl⟩
 | int i t=>exact⟨some (i,t),rfl,rfl⟩
theorem alR:SlR X at5:=by
 intro pins s σ H x v vl vu lo hi sl Q I rx hs pl pu h;obtain⟨z,rfl,hz,q⟩:=h;obtain⟨t,rfl⟩:=rx;obtain⟨l,rfl,el⟩:=part_of pl;obtain⟨u,rfl,eu⟩:=part_of pu;refine⟨"str",_,PySem.F.slot_str_getitem.lookup,typeIs_str s _ t,?_⟩;obtain⟨o,h1,h2,h3⟩:=hs;refine wpAny_getItem_str_slice (st:=none) ⟨o,h1,h2,h3⟩ rfl ?_;have hp:slicePicked ⟨z.toArray⟩ l u none=List.range' (HT.gQ z.length 0 lo) (HT.gQ z.length z.length hi - HT.gQ z.length 0 lo):=by unfold slicePicked;rw[el,eu];show strSliceIndices lo hi 1 z.toArray.size=_;rw[Qwq,aeL]
 have hle:HT.gQ z.length 0 lo+(HT.gQ z.length z.length hi - HT.gQ z.length 0 lo)<=z.length\/HT.gQ z.length z.length hi - HT.gQ z.length 0 lo=0:=by have a1:=HT.TJ z.length 0 (Qxx _) lo;have a2:=HT.TJ z.length z.length (Qq0 _) hi;omega
 have auJ:((slicePicked ⟨z.toArray⟩ l u none).filterMap ((⟨z.toArray⟩:Str).cps[·]?))=Cy z lo hi:=by
  rw[hp];unfold Cy;rcases hle with hle|hle
  ·exact W8 z _ _ hle
  simp_all
 unfold sliceMade;split
 ·rename_i hc;have hlen:(slicePicked ⟨z.toArray⟩ l u none).length=z.length:=by
   have:=(Qz9.mp hc).2;have:=eq_of_beq this
   assumption
  have hw:Cy z lo hi=z:=by
   rw[hp,List.length_range'] at hlen;unfold Cy;have a2:=HT.TJ z.length z.length (Qq0 _) hi;have a0:HT.gQ z.length 0 lo=0\/z.length=0:=by omega
   grind
  rw[hw] at q;exact⟨.str ⟨z.toArray⟩,H,I,⟨t,rfl⟩,q⟩
 ·rw[auJ];refine⟨?_,⟨.str ⟨(Cy z lo hi).toArray⟩,H,I.tok _,⟨_,rfl⟩,q⟩⟩;show(Cy z lo hi).toArray.size<=sizeLine
  grind
end
end L2
namespace Ev
open PySem PySem.Spec PyProof.Rows L2 PySem.Builtin
section
variable{X:Cx}{C:Cfg}{pos:Pos}{x y:Expr}{a b:Ev}
def uv(k y:D):Option D:=match y with
 | .dct kvs=>(wL k).map λq=>.bl (uV kvs q).isSome
 | _=>none
theorem ae6:uC C aeq uv:=by
 intro Pr F env σ H x y d vx vy Q r px py e q;cases y with
 | dct kvs=>
  obtain⟨k,hk,rfl⟩:=Qwy.mp<|show(wL x).map (λq=>D.bl (uV kvs q).isSome)=some d from e;obtain⟨z,p,ks,rfl,h1,h2⟩:=py.dct r.fr;cases afu hk px;refine⟨p,Ar ks k,rfl,.inl ⟨ks,k,h1,rfl,rfl⟩,?_⟩;have e2:(Ar ks k).isSome=(uV kvs k).isSome:=by rcases h2.val k with ⟨g1,g2⟩|⟨d',v',g1,g2,_⟩<;>rw[g1,g2]<;>rfl
  rw[e2];exact q _ H F r (aX.refl F) rfl
 | _=>cases e
theorem aj0(G:Good X C):Cm X C .In uv:=⟨_,ae0 G.u1,ae6⟩
def aoq:D->Option Int->Option Int->Option D
 | .str z,lo,hi=>some (.str (Cy z lo hi))
 | _,_,_=>none
def Xa(a:Ev)(lo hi:Sq):Ev:=λenv=>bindR (a env) λd aO=>bindR (lo aO) λl fP=>bindR (hi fP) λu JX=>fX (aoq d l u) JX
theorem ags(z)(lo hi):(Cy z lo hi).length<=z.length:=by unfold Cy;rw[Qzv,List.length_drop];omega
noncomputable def uw:D->D->Option D
 | .lst a,.lst b=>if a.length+b.length<=sizeLine then some (.lst (a++b)) else none
 | _,_=>none
end
end Ev
namespace HT
open PySem PySem.Spec PyProof PyProof.Rows PySem.Builtin
section
variable{prog:Program}{w:World}{A:Around}{E:Value->Shared->Prop}{s:Shared}
theorem yD{lo hi:Option Int}(ht:IsTup s.heap t items)(hs:s.heap.IsSliceOf sl vl vu .none)(pl:IsPart vl lo)(pu:IsPart vu hi)
  (hw:gQ items.size 0 lo=0/\gQ items.size items.size hi=items.size)
  (h:Q (.ref t) s):wpAny (model prog w) A (getItem (.ref t) (.ref sl)) Q E s:=by
 obtain⟨os,hos,hcs,hds⟩:=id hs;have hTs:s.TypeIs (.ref sl) "slice":=⟨os,hos,hcs⟩;unfold getItem
 try with_reducible refine Qjz ?_
 first|refine Qqq (Qq1 ?_)|skip
 refine Qqq<|wpAny_sequenceKey ht.typeIs (by decide) ?_;refine Qqq (Qx9 ht.typeIs Qzz
  (Qzx Qzz ht.typeIs entry_tuple_getitem ?_<|args_tuple_getitem _ _))
 show wpAny _ _ (Builtin.Tuple.tupleItemsOf (.ref t) >>= _) _ _ s;refine Qqq<|tupleItemsOf_ ht ?_;refine Qqq<|wpAny_typeOf hTs ?_;rw[if_pos (by decide)];refine Qqq<|uF hs pl pu ?_;have auC:(((gQ items.size 0 lo):Int) == 0&&(1:Int) == 1&&(gQ items.size items.size hi - gQ items.size 0 lo) == items.size)=true:=by simp_all
 show wpAny _ _ (if (((gQ items.size 0 lo):Int) == 0&&1 == 1&&(gQ items.size items.size hi - gQ items.size 0 lo) == items.size)=true then _ else _) _ _ s;rw[if_pos auC];refine Qqq ?_;unfold Builtin.Tuple.tupleIsExact;refine Qqq<|wpAny_typeOf ht.typeIs ?_;refine Qq1 ?_;rw[if_pos (by decide)];exact Qqq<|wpAny_rule<|Qq1 ⟨_,rfl,Qq1 h⟩
end
end HT
namespace L2
open PySem PySem.Spec PyProof.Rows
section
variable{X:Cx}
def aqd(K:PySem.W.Frag):V->Option Int->Option Int->Hp->VK->Prop:=λx lo hi H Q=>∃a xs,x = .ref a/\qe K H a xs/\(HT.gQ xs.length 0 lo=0/\HT.gQ xs.length xs.length hi=xs.length)/\Q (.ref a) H
theorem ad1:SlR X (aqd X.K):=by
 intro pins s σ H x v vl vu lo hi sl Q I rx hs pl pu h;obtain⟨a,xs,rfl,hx,hw,q⟩:=h;cases rx;obtain⟨its,r,ht,hz⟩:=I.tuple hx;have hlen:its.toArray.size=xs.length:=by rw[Qwq];exact r.length.symm
 refine⟨"tuple",_,PyProof.Rows.slot_tuple_getitem.lookup,ht.typeIs,?_⟩;refine HT.yD ht hs pl pu (by simp_all) ?_;exact⟨.ref a,H,I,rfl,q⟩
end
end L2
namespace Ev
open PySem PySem.Spec PyProof.Rows L2
section
variable{X:Cx}{C:Cfg}{pos:Pos}{x:Expr}{a:Ev}{y z:Expr}{b c:Ev}
def af3:D->Option Int->Option Int->Option D
 | .tup xs,lo,hi=>if HT.gQ xs.length 0 lo=0/\HT.gQ xs.length xs.length hi=xs.length then some (.tup xs) else some (.tup (cutD xs lo hi))
 | _,_,_=>none
def ar7(a:Ev)(lo hi:Sq):Ev:=λenv=>bindR (a env) λd aO=>bindR (lo aO) λl fP=>bindR (hi fP) λu JX=>fX (af3 d l u) JX
theorem alS{Pr F:Hp}{x d:D}{lo hi:Option Int}(r:Rel C Pr F env σ H)(p:Rep C.K F x v)(e:af3 x lo hi=some d)(q:∀v H' F',Rel C Pr F' env σ H'->aX F F'->Rep C.K F' d v->Q v H') :
  al3 C.K v lo hi H Q\/aqd C.K v lo hi H Q:=by
 unfold af3 at e;split at e
 ·obtain⟨z,a,vs,rfl,h1,_,h2⟩:=lX.tup r.fr<|.inl p;split at e
  ·rename_i hn;cases e;exact .inr ⟨a,vs,rfl,h1,by rw[h2.length];exact hn,q _ H F r (aX.refl F) p⟩
  ·rename_i hn;cases e;refine .inl ⟨a,vs,rfl,h1,by rw[h2.length];exact hn,λb hb=>?_⟩;obtain⟨r2,s2⟩:=r.new hb;exact q _ _ _ r2 s2 ⟨Qqy (xW _ _ _) z,b,_,rfl,qe.of bz,cD.mono s2 _ _<|h2.cut lo hi⟩
 ·cases e
def vR(g g':D->D->Option D)(a b c:Ev):Ev:=λenv=>bindR (a env) λu e1=>bindR (b e1) λv e2=>match g u v with
 | some (.bl k)=>if k=true then bindR (c e2) λt e3=>fX (g' v t) e3 else .ok (.bl false) e2
 | _=>.stuck
end
end Ev
namespace ZT
open PySem PySem.Spec PyProof.Rows L2 PySem.Builtin
section
variable{prog:Program}{w:World}{A:Around}{E:Value->Shared->Prop}{s:Shared}
theorem afd(hj:s.heap.IsTupleIter j t n)(ht:s.heap.IsTuple t its)(hx:its[n]? = some x)
  (q:∀g,g.IsTupleIter j t (n+1)->Heap.SameBut j s.heap g->Q x { s with heap:=g }):wpAny (model prog w) A (Builtin.SmallTypes.nextOf (.ref j)) Q E s:=by
 obtain⟨u,hu,uc,ud⟩:=id hj;obtain⟨ut,hut,_,m,mt⟩:=ht;unfold Builtin.SmallTypes.nextOf;refine Qqq<|Qx9 hj.typeIs F.slot_tuple_iterator_next<|Qzx F.slot_tuple_iterator_next hj.typeIs F.entry_tuple_iterator_next ?_<|F.args_tuple_iterator_next_1 _;show wpAny _ _ (field (.ref j) 0 >>= _) _ _ s;refine Qqq<|Qzq hu ud rfl ?_;show wpAny _ _ (if (Value.ref t == Value.none)=true then _ else _) _ _ s;rw[if_neg (show ¬((Value.ref t == Value.none)=true) from Qw0)];show wpAny _ _ (field (.ref j) 1 >>= _) _ _ s;refine Qqq<|Qzq hu ud rfl ?_;show wpAny _ _ (seqItems? (.ref t) >>= _) _ _ s;refine Qqq<|Qz0 hut mt ?_;simp[Qz2,hx];refine Qqq<|wpAny_setField hu ud (by simp)<|Qq1 ⟨x,rfl,Qq1<|q _ ?_<|Heap.SameBut.update ..⟩;exact⟨_,Heap.get?_update_self _ hu<|Obj.isFreed_of_fields<|Obj.data_mapFields ud _,(Obj.cls_mapFields ..).trans uc,by rw[Obj.data_mapFields ud];simp[rawInt]⟩
theorem T7(hh:A.handled=none)(hj:s.heap.IsTupleIter j t n)(ht:s.heap.IsTuple t its)(hx:its[n]? = none)
  (q:∀g e,Heap.ExtBut j s.heap g->(∃o,g.get? e=some o/\o.cls = .type "StopIteration")->E (.ref e) { s with heap:=g }):wpAny (model prog w) A (Builtin.SmallTypes.nextOf (.ref j)) Q E s:=by
 obtain⟨u,hu,uc,ud⟩:=id hj;obtain⟨ut,hut,_,m,mt⟩:=ht;unfold Builtin.SmallTypes.nextOf;refine Qqq<|Qx9 (name:=Str.ofString "__next__") hj.typeIs F.slot_tuple_iterator_next<|Qzx F.slot_tuple_iterator_next hj.typeIs F.entry_tuple_iterator_next ?_<|F.args_tuple_iterator_next_1 _;show wpAny _ _ (field (.ref j) 0 >>= _) _ _ s;refine Qqq<|Qzq hu ud (x:=.ref t) rfl ?_;show wpAny _ _ (if (Value.ref t == Value.none)=true then _ else _) _ _ s;rw[if_neg (show ¬((Value.ref t == Value.none)=true) from Qw0)];show wpAny _ _ (field (.ref j) 1 >>= _) _ _ s;refine Qqq<|Qzq hu ud (x:=.int n 0) rfl ?_;show wpAny _ _ (seqItems? (.ref t) >>= _) _ _ s;refine Qqq<|Qz0 hut mt ?_;simp only[Qz2,hx];refine Qqq<|wpAny_rule<|Qqq<|wpAny_setField hu ud (by simp) ?_;show wpAny _ _ (newExc (.type "StopIteration") [] >>= _) _ _ _;refine Qqq ?_;simp only[newExc,newTuple];refine Qqq<|Qz1 ?_ (by size_fits);refine Qqq (m:=firstArgMember _ _)<|wpAny_of_eq (a:=Value.none) (by rfl) ?_;refine Qz1 ?_ (by size_fits);simp only[raiseNew];refine Qqq<|wpAny_handled ?_
 first|rw[show A.in1.handled=none from hh]|rw[hh]
 refine Qqq<|Qq1<|wpAny_throw ?_;exact q _ _ (((Heap.SameBut.update ..).extBut.push _).push _) ⟨_,Qq8 _ rfl,rfl⟩
end
theorem yu{prog:Program}{w:World}{A:Around}(hh:A.handled=none)(j t:Addr)(hne:t≠j)(its:Array Value) :
  Draws prog w A j [j,t] its.size (λi v=>its[i]? = some v) (λi h=>h.IsTupleIter j t i/\h.IsTuple t its) where
 live:=λ_ _ st=>let ⟨o,ho,_⟩:=st.1;⟨o,ho⟩
 frame:=λ_ _ _ st hk=>by
  obtain⟨⟨o,ho,r⟩,o2,ho2,r2⟩:=st;exact⟨⟨o,hk j (by simp) o ho,r⟩,o2,hk t (by simp) o2 ho2,r2⟩
 item:=λi s Q E hi st hQ=>by
  refine afd st.1 st.2 (x:=its[i]) (by simp[hi]) λh' hit' hs'=>?_;exact hQ _ h' s.toks (by simp[hi]) ⟨hit',st.2.extBut hs'.extBut hne⟩ hs'
 done:=λs Q E st hE=>T7 hh st.1 st.2 (by simp) hE
structure Ap(z TI TO j1 j2:Addr)(f1 f2:List Addr):Prop where
 a1:TI≠z
 a2:TO≠z
 a3:TI≠TO
 a4:j1≠j2
 b1:j1∈f1
 b2:j2∈f2
 c1:z ∉ f1
 c2:z ∉ f2
 c3:TO ∉ f1
 c4:TO ∉ f2
 c5:TI ∉ f1
 c6:TI ∉ f2
 c7:j2 ∉ f1
 c8:j1 ∉ f2
section
variable{prog:Program}{w:World}{A:Around}{E:Value->Shared->Prop}{s:Shared}{z TI TO j1 j2:Addr}{f1 f2:List Addr}{n1 n2 k:Nat}{P1 P2:Nat->Value->Prop}{S1 S2:Nat->Heap->Prop}{a b:Value}
theorem iy{f:List Addr}(h:c∈f)(h':d ∉ f):c≠d:=λe=>h'<|e ▸ h
theorem adp{Q:Value->Shared->Prop}(D:Ap z TI TO j1 j2 f1 f2)(D1:Draws prog w A j1 f1 n1 P1 S1)(D2:Draws prog w A j2 f2 n2 P2 S2)(k1:k<n1)(k2:k<n2)
  (hz:IsZip s.heap z TI TO .none) (hTI:IsPair s.heap TI (.ref j1) (.ref j2)) (hTO:IsPair s.heap TO a b) (s1:S1 k s.heap) (s2:S2 k s.heap)
  (q:∀x y g tk,P1 k x->P2 k y->IsZip g z TI TO (rawInt s.heap.objs.size)->IsPair g TO x y->S1 (k+1) g->S2 (k+1) g->IsPair g s.heap.objs.size x y->g.objs.size=s.heap.objs.size+1->
   (∀c o,c≠z->c≠TO->c≠j1->c≠j2->s.heap.get? c=some o->g.get? c=some o)->Q (.ref s.heap.objs.size) { s with heap:=g,toks:=tk }) :
  wpAny (model prog w) A (Builtin.«zip.__next__» ⟨[.ref z],[]⟩) (λfin s'=>∃v,fin = .done (.ret v)/\Q v s') E s:=by
 have ajO:=iy D.b1 D.c1;have aoS:=iy D.b2 D.c2;have aoT:=iy D.b1 D.c3;have ash:=iy D.b2 D.c4;show wpAny _ _ (field (.ref z) 2 >>= _) _ _ _;refine Qqq<|Qzq hz rfl rfl ?_;show wpAny _ _ (field (.ref z) 3 >>= _) _ _ _;refine Qqq<|Qzq hz rfl rfl ?_;refine Qqq<|Qz0 hTI rfl ?_;show wpAny _ _ (Builtin.SmallTypes.ownedTupleIsFree (.ref z) >>= _) _ _ _;refine Qqq ?_;unfold Builtin.SmallTypes.ownedTupleIsFree;refine Qqq<|Qzq hz rfl rfl (Qq1 ?_);simp only[if_true];refine Qqq<|wpAny_rule ?_;refine Qqq<|Qzq hz rfl rfl ?_;refine Qqq<|Qz5 hz (by simp) λg1 hz1 e1=>?_
 replace hz1:IsZip g1 z TI TO .ellipsis:=hz1
 refine Qqq ?_;simp only[List.zipIdx_cons,List.zipIdx_nil,List.forIn_cons,Qj2];refine Qqq<|Qqq<|wpAny_onRaise ?_;show wpAny _ _ (Builtin.SmallTypes.nextOf (.ref j1) >>= _) _ _ _;have s1':=D1.frame k _ _ s1 λc hc o e=>e1.extBut _ _ (iy hc D.c1) e;refine Qqq<|D1.item k { s with heap:=g1 } _ _ k1 s1' λx g2 tk2 px sx e2=>Qq1 ?_;have t2:=e2.extBut _ _ aoT.symm<|e1.extBut _ _ D.a2 hTO;refine Qqq<|Qz0 t2 rfl ?_;refine Qqq<|wpAny_updateSeq_pair t2 λg3 t3 e3=>?_
 replace t3:IsPair g3 TO x b:=t3
 refine Qqq<|wpAny_letGo<|Qq1 ?_;refine Qqq<|Qqq<|wpAny_onRaise ?_;show wpAny _ _ (Builtin.SmallTypes.nextOf (.ref j2) >>= _) _ _ _;have s2':=D2.frame k _ _ s2 λc hc o e=>e3.extBut _ _ (iy hc D.c4)<|e2.extBut _ _ (iy hc D.c8)<|e1.extBut _ _ (iy hc D.c2) e;refine Qqq<|D2.item k { s with heap:=g3,toks:=tk2 } _ _ k2 s2' λy g4 tk4 py sy e4=>Qq1 ?_;have t4:=e4.extBut _ _ ash.symm t3;refine Qqq<|Qz0 t4 rfl ?_;refine Qqq<|wpAny_updateSeq_pair t4 λg5 t5 e5=>?_
 replace t5:IsPair g5 TO x y:=t5
 refine Qqq<|wpAny_letGo<|Qq1<|Qq1 ?_;refine Qqq<|Qz0 t5 rfl ?_;refine Qqq<|wpAny_newTuple ?_;have hsz:g5.objs.size=s.heap.objs.size:=by rw[e5.1,e4.1,e3.1,e2.1,e1.1]
 have hz5:=e5.extBut _ _ D.a2.symm<|e4.extBut _ _ aoS.symm<|e3.extBut _ _ D.a2.symm<|e2.extBut _ _ ajO.symm hz1;have aq8:∀c o,c≠z->c≠TO->c≠j1->c≠j2->s.heap.get? c=some o->g5.get? c=some o:=λc o c1 c2 c3 c4 e=>
  e5.extBut _ _ c2 (e4.extBut _ _ c4<|e3.extBut _ _ c2<|e2.extBut _ _ c3<|e1.extBut _ _ c1 e)
 have s15:S1 (k+1) g5:=D1.frame _ _ _ sx λc hc o e=>e5.extBut _ _ (iy hc D.c3)<|e4.extBut _ _ (iy hc D.c7)<|e3.extBut _ _ (iy hc D.c3) e;have s25:S2 (k+1) g5:=D2.frame _ _ _ sy λc hc o e=>e5.extBut _ _ (iy hc D.c4) e;have zlt:z<g5.objs.size:=Qq3 hz5;show wpAny _ _ (Builtin.SmallTypes.ownedTupleHandOut (.ref z) (.ref g5.objs.size) >>= _) _ _ _;refine Qqq ?_;unfold Builtin.SmallTypes.ownedTupleHandOut;have hz6:IsZip (g5.push { cls:=.type "tuple",data:=.seq #[x,y] }) z TI TO .ellipsis:=Qqx _ hz5;refine Qqq<|Qz5 hz6 (by simp) λg7 hz7 e7=>?_
 replace hz7:IsZip g7 z TI TO (rawInt g5.objs.size):=hz7
 refine Qz5 hz7 (by simp) λg8 hz8 e8=>?_
 replace hz8:IsZip g8 z TI TO (rawInt g5.objs.size):=hz8
 have up:∀c o,c≠z->g5.get? c=some o->g8.get? c=some o:=λc o c1 e=>e8.extBut _ _ c1<|e7.extBut _ _ c1<|Qqx _ e;have t8:IsPair g8 g5.objs.size x y:=e8.extBut _ _ (Qz4 zlt)<|e7.extBut _ _ (Qz4 zlt)<|Qq8 _ rfl;have l8:g8.objs.size=g5.objs.size+1:=by rw[e8.1,e7.1,Qz7]
 rw[hsz] at hz8 t8 l8;refine Qq1 ⟨_,rfl,?_⟩;show Q (.ref g5.objs.size) _;rw[hsz];exact q x y g8 _ px py hz8 (up _ _ D.a2 t5) (D1.frame _ _ _ s15 λc hc o e=>up c o (iy hc D.c1) e) (D2.frame _ _ _ s25 λc hc o e=>up c o (iy hc D.c2) e) t8 l8 λc o c1 c2 c3 c4 e=>up c o c1<|aq8 c o c1 c2 c3 c4 e
theorem ahh(D:Ap z TI TO j1 j2 f1 f2)(D1:Draws prog w A j1 f1 n1 P1 S1)(D2:Draws prog w A j2 f2 n2 P2 S2)(hk:k=n1\/(k<n1/\k=n2))
  (hz:IsZip s.heap z TI TO .none) (hTI:IsPair s.heap TI (.ref j1) (.ref j2)) (hTO:IsPair s.heap TO a b) (s1:S1 k s.heap) (s2:S2 k s.heap)
  (q:∀g e tk,(∀c o,c≠z->c≠TO->c≠j1->c≠j2->s.heap.get? c=some o->g.get? c=some o)->(∃o,g.get? e=some o/\o.cls = .type "StopIteration")->E (.ref e) { s with heap:=g,toks:=tk }) :
  wpAny (model prog w) A (Builtin.«zip.__next__» ⟨[.ref z],[]⟩) Q E s:=by
 have ajO:=iy D.b1 D.c1;have aoS:=iy D.b2 D.c2;have aoT:=iy D.b1 D.c3;have ash:=iy D.b2 D.c4;show wpAny _ _ (field (.ref z) 2 >>= _) _ _ _;refine Qqq<|Qzq hz rfl rfl ?_;show wpAny _ _ (field (.ref z) 3 >>= _) _ _ _;refine Qqq<|Qzq hz rfl rfl ?_;refine Qqq<|Qz0 hTI rfl ?_;show wpAny _ _ (Builtin.SmallTypes.ownedTupleIsFree (.ref z) >>= _) _ _ _;refine Qqq ?_;unfold Builtin.SmallTypes.ownedTupleIsFree;refine Qqq<|Qzq hz rfl rfl (Qq1 ?_);simp only[if_true];refine Qqq<|wpAny_rule ?_;refine Qqq<|Qzq hz rfl rfl ?_;refine Qqq<|Qz5 hz (by simp) λg1 hz1 e1=>?_
 replace hz1:IsZip g1 z TI TO .ellipsis:=hz1
 refine Qqq ?_;simp only[List.zipIdx_cons,List.zipIdx_nil,List.forIn_cons,Qj2];refine Qqq<|Qqq<|wpAny_onRaise ?_;show wpAny _ _ (Builtin.SmallTypes.nextOf (.ref j1) >>= _) _ _ _;have s1':=D1.frame k _ _ s1 λc hc o e=>e1.extBut _ _ (iy hc D.c1) e;rcases hk with rfl|⟨k1,rfl⟩
 ·refine Qqq<|D1.done { s with heap:=g1 } _ _ s1' λg2 e x2 he=>?_;obtain⟨oe,hoe,hce⟩:=he;have hz2:=x2 _ _ ajO.symm hz1;have hez:e≠z:=λx=>by grind
  exact Qz5 hz2 (by simp) λg3 _ e3=>q g3 e s.toks (λc o c1 _ c3 _ x=>e3.extBut _ _ c1<|x2 _ _ c3<|e1.extBut _ _ c1 x) ⟨oe,e3.extBut _ _ hez hoe,hce⟩
 ·refine Qqq<|D1.item k { s with heap:=g1 } _ _ k1 s1' λx g2 tk2 px sx e2=>Qq1 ?_;have t2:IsPair g2 TO a b:=e2.extBut _ _ aoT.symm<|e1.extBut _ _ D.a2 hTO;refine Qqq<|Qz0 t2 rfl ?_;refine Qqq<|wpAny_updateSeq_pair t2 λg3 t3 e3=>?_;refine Qqq<|wpAny_letGo<|Qq1 ?_;refine Qqq<|Qqq<|wpAny_onRaise ?_;show wpAny _ _ (Builtin.SmallTypes.nextOf (.ref j2) >>= _) _ _ _;have s2':S2 k g3:=D2.frame k _ _ s2 λc hc o e=>e3.extBut _ _ (iy hc D.c4)<|e2.extBut _ _ (iy hc D.c8)<|e1.extBut _ _ (iy hc D.c2) e;refine Qqq<|D2.done { s with heap:=g3,toks:=tk2 } _ _ s2' λg4 e x4 he=>?_;obtain⟨oe,hoe,hce⟩:=he;have hz4:IsZip g4 z TI TO .ellipsis:=x4 _ _ aoS.symm<|e3.extBut _ _ D.a2.symm<|e2.extBut _ _ ajO.symm hz1;have hez:e≠z:=λx=>by grind
  exact Qz5 hz4 (by simp) λg5 _ e5=>q g5 e tk2 (λc o c1 c2 c3 c4 x=>e5.extBut _ _ c1<|x4 _ _ c4<|e3.extBut _ _ c2<|e2.extBut _ _ c3<|e1.extBut _ _ c1 x) ⟨oe,e5.extBut _ _ hez hoe,hce⟩
theorem JG(D:Ap z TI TO j1 j2 f1 f2)(D1:Draws prog w A.in1 j1 f1 n1 P1 S1)(D2:Draws prog w A.in1 j2 f2 n2 P2 S2)(k1:k<n1)(k2:k<n2)
  (hz:IsZip s.heap z TI TO .none) (hTI:IsPair s.heap TI (.ref j1) (.ref j2)) (hTO:IsPair s.heap TO a b) (s1:S1 k s.heap) (s2:S2 k s.heap)
  (q:∀x y g tk,P1 k x->P2 k y->IsZip g z TI TO (rawInt s.heap.objs.size)->IsPair g TO x y->S1 (k+1) g->S2 (k+1) g->IsPair g s.heap.objs.size x y->g.objs.size=s.heap.objs.size+1->
   (∀c o,c≠z->c≠TO->c≠j1->c≠j2->s.heap.get? c=some o->g.get? c=some o)->Q (some (.ref s.heap.objs.size)) { s with heap:=g,toks:=tk }) :
  wpAny (model prog w) A (pyNext (.ref z)) Q E s:=by
 have hT:s.TypeIs (.ref z) "zip":=⟨_,hz,rfl⟩;unfold pyNext;exact Qqq (wpAny_attempt (Qx9 hT F.slot_zip_next (Qzx F.slot_zip_next hT F.entry_zip_next
  (adp D D1 D2 k1 k2 hz hTI hTO s1 s2 λx y g tk u1 u2 u3 u4 u5 u6 u7 u8 u9=>Qq1<|q x y g tk u1 u2 u3 u4 u5 u6 u7 u8 u9) (F.args_zip_next_1 _))))
theorem Lg(D:Ap z TI TO j1 j2 f1 f2)(D1:Draws prog w A.in1 j1 f1 n1 P1 S1)(D2:Draws prog w A.in1 j2 f2 n2 P2 S2)(hk:k=n1\/(k<n1/\k=n2))
  (hz:IsZip s.heap z TI TO .none) (hTI:IsPair s.heap TI (.ref j1) (.ref j2)) (hTO:IsPair s.heap TO a b) (s1:S1 k s.heap) (s2:S2 k s.heap)
  (q:∀g tk,(∀c o,c≠z->c≠TO->c≠j1->c≠j2->s.heap.get? c=some o->g.get? c=some o)->Q none { s with heap:=g,toks:=tk }):wpAny (model prog w) A (pyNext (.ref z)) Q E s:=by
 have hT:s.TypeIs (.ref z) "zip":=⟨_,hz,rfl⟩;unfold pyNext;refine Qqq (wpAny_attempt (Qx9 hT F.slot_zip_next (Qzx F.slot_zip_next hT F.entry_zip_next
  (ahh D D1 D2 hk hz hTI hTO s1 s2 λg e tk hkp he=>?_) (F.args_zip_next_1 _))))
 obtain⟨o,ho,hc⟩:=he;refine Qqq<|wpAny_isInstance ⟨o,ho,hc⟩ isSubtype_stop ?_;exact Qq1<|q _ _ hkp
end
end ZT
namespace L2
open PySem PySem.Spec PyProof.Rows PySem.Builtin ZT
def Itz(K:PySem.W.Frag)(a1 a2:Addr):It:=
 ⟨λi H=>∃xs ys x y,qe K H a1 xs/\qe K H a2 ys/\xs[i]? = some x/\ys[i]? = some y,
 λi H v H'=>∃p x y,(∀xs,qe K H a1 xs->xs[i]? = some x)/\(∀ys,qe K H a2 ys->ys[i]? = some y)/\H p=none/\H'=upd H p (.tup [x,y])/\v = .ref p,
 λi H=>∃xs ys,qe K H a1 xs/\qe K H a2 ys/\(i=xs.length\/(i<xs.length/\i=ys.length))⟩
structure Apz(z TI TO j1 j2 a1 a2:Addr):Prop where
 t1:TI≠z
 t2:TO≠z
 t3:TI≠TO
 t4:j1≠j2
 b1:z ∉ [j1,a1]
 b2:z ∉ [j2,a2]
 b3:TO ∉ [j1,a1]
 b4:TO ∉ [j2,a2]
 b5:TI ∉ [j1,a1]
 b6:TI ∉ [j2,a2]
 b7:j2 ∉ [j1,a1]
 b8:j1 ∉ [j2,a2]
 c1:a1≠j1
 c2:a2≠j2
theorem Apz.ap{z TI TO j1 j2 a1 a2:Addr}(D:Apz z TI TO j1 j2 a1 a2):Ap z TI TO j1 j2 [j1,a1] [j2,a2]:=⟨D.t1,D.t2,D.t3,D.t4,by simp,by simp,D.b1,D.b2,D.b3,D.b4,D.b5,D.b6,D.b7,D.b8⟩
theorem adS{P:Program}{w:World}{K:PySem.W.Frag}{elts:List Expr}{kk:Nat}{pos:Pos}(z TI TO j1 j2 a1 a2:Addr)(D:Apz z TI TO j1 j2 a1 a2) :
  Turn P w K (.Tuple elts kk pos) (Itz K a1 a2) [z,TI,TO,j1,j2] z (λi h=>IsZip h z TI TO .none/\IsPair h TI (.ref j1) (.ref j2)/\(∃a b,IsPair h TO a b)/\h.IsTupleIter j1 a1 i/\h.IsTupleIter j2 a2 i) where
 mem:=by simp
 obj:=λi h st b hb=>by
  obtain⟨hz,hTI,⟨a,c,hTO⟩,⟨o1,e1,_,d1⟩,o2,e2,_,d2⟩:=st
  grind
 keep:=λi h h' st k=>by
  obtain⟨hz,hTI,⟨a,c,hTO⟩,⟨o1,e1,r1⟩,o2,e2,r2⟩:=st;exact⟨k z (by simp) _ hz,k TI (by simp) _ hTI,⟨a,c,k TO (by simp) _ hTO⟩,⟨o1,k j1 (by simp) _ e1,r1⟩,o2,k j2 (by simp) _ e2,r2⟩
 item:=by
  intro X hP hw hK hc i pins s σ H E I hf st hg;subst hP hw hK;obtain⟨hz,hTI,⟨a,b,hTO⟩,i1,i2⟩:=st;obtain⟨xs,ys,x,y,hx,hy,gx,gy⟩:=hg;obtain⟨us,ru,pu,zu⟩:=I.tuple hx;obtain⟨vs,rv,pv,zv⟩:=I.tuple hy;obtain⟨u,hu,rxu⟩:=ru.get gx;obtain⟨v,hv,ryv⟩:=rv.get gy;have lu:i<us.toArray.size:=by grind
  have lv:i<vs.toArray.size:=by grind
  have D1:Draws X.prog X.w X.A.in1 j1 [j1,a1] _ _ _:=yu (A:=X.A.in1) (show X.A.in1.handled=none from I.ok.hd hc) j1 a1 D.c1 us.toArray;have D2:Draws X.prog X.w X.A.in1 j2 [j2,a2] _ _ _:=yu (A:=X.A.in1) (show X.A.in1.handled=none from I.ok.hd hc) j2 a2 D.c2 vs.toArray;refine JG (A:=X.A) D.ap D1 D2 lu lv hz hTI hTO ⟨i1,pu⟩ ⟨i2,pv⟩ λx' y' g tk px py hz' auP s1 s2 hT hsz hk=>?_;have ex:x'=u:=by simp_all
  have ey:y'=v:=by simp_all
  subst ex ey;refine⟨_,rfl,?_⟩;refine wpAny_letOwnedTupleGo_zip (s:={ s with heap:=g,toks:=tk }) hz' λg' hz'' e'=>?_;have Bw:∀b o,b≠z->g.get? b=some o->g'.get? b=some o:=λb o hb q=>(e'.2 b hb).trans q;have lts:∀b ∈ [z,TI,TO,j1,j2],b<s.heap.objs.size:=λb hb=>by
   simp only[Qq2,Qxw,or_false] at hb;rcases hb with rfl|rfl|rfl|rfl|rfl
   ·exact Qq3 hz
   ·exact Qq3 hTI
   ·exact Qq3 hTO
   ·obtain⟨_,q,_⟩:=i1;exact Qq3 q
   ·obtain⟨_,q,_⟩:=i2;exact Qq3 q
  have nT:H s.heap.objs.size=none:=I.hok.fresh<|Qq0 _;refine⟨.ref s.heap.objs.size,upd H s.heap.objs.size<|.tup [x,y],I.drawn (t':=tk) (ch:=[z,TI,TO,j1,j2]) hf (λb o hb q=>?_) (Qq0 _) ?_,rfl,⟨_,x,y,λzs hq=>by rw[I.Dl hq hx];exact gx,λzs hq=>by rw[I.Dl hq hy];exact gy,nT,rfl,rfl⟩,⟨hz'',?_,⟨_,_,Bw TO _ D.t2 auP⟩,?_,?_⟩,λb hb=>?_⟩
  ·simp_all
  ·exact⟨by show 2<=sizeLine;decide,[x',y'],.cons rxu (.cons ryv .nil),_,Bw _ _ (Qz4 (lts z (by simp))) hT,rfl,⟨_,rfl⟩,rfl⟩
  ·exact Bw TI _ D.t1 (hk TI _ D.t1 D.t3 (λq=>D.b5 (by simp[q])) (λq=>D.b6 (by simp[q])) hTI)
  ·obtain⟨o,q,r⟩:=s1.1;exact⟨o,Bw j1 o (λq=>D.b1 (by simp[q])) q,r⟩
  ·obtain⟨o,q,r⟩:=s2.1;exact⟨o,Bw j2 o (λq=>D.b2 (by simp[q])) q,r⟩
  ·rw[bT (Qww (lts b hb))];exact(hf b hb).1
 done:=by
  intro X hP hw hK hc i pins s σ H E I hf st hg;subst hP hw hK;obtain⟨hz,hTI,⟨a,b,hTO⟩,i1,i2⟩:=st;obtain⟨xs,ys,hx,hy,hi⟩:=hg;obtain⟨us,ru,pu,zu⟩:=I.tuple hx;obtain⟨vs,rv,pv,zv⟩:=I.tuple hy;have l1:=ru.length;have l2:=rv.length;have D1:Draws X.prog X.w X.A.in1 j1 [j1,a1] _ _ _:=yu (A:=X.A.in1) (show X.A.in1.handled=none from I.ok.hd hc) j1 a1 D.c1 us.toArray;have D2:Draws X.prog X.w X.A.in1 j2 [j2,a2] _ _ _:=yu (A:=X.A.in1) (show X.A.in1.handled=none from I.ok.hd hc) j2 a2 D.c2 vs.toArray;refine Lg (A:=X.A) (k:=i) D.ap D1 D2 (by simp_all) hz hTI hTO ⟨i1,pu⟩ ⟨i2,pv⟩ λg tk hk=>⟨rfl,I.aax (t':=tk) (ch:=[z,TI,TO,j1,j2]) hf λb o hb e=>?_⟩
  simp_all
 self:=λA i s Q E st h=>wpAny_pyIter_zip st.1 h
end L2
namespace ZT
open PySem PySem.Spec PyProof.Rows L2 PySem.Builtin
noncomputable abbrev h1T(h:Heap)(l1:Addr):Heap:=h.push { cls:=.type "tuple_iterator",data:=.fields #[.ref l1,.int 0 0] }
abbrev h2T(h:Heap)(l1 l2:Addr):Heap:=(h1T h l1).push { cls:=.type "tuple_iterator",data:=.fields #[.ref l2,.int 0 0] }
abbrev h3T(h:Heap)(l1 l2:Addr):Heap:=(h2T h l1 l2).push { cls:=.type "tuple",data:=.seq #[.ref h.objs.size,.ref (h1T h l1).objs.size] }
abbrev h4T(h:Heap)(l1 l2:Addr):Heap:=(h3T h l1 l2).push { cls:=.type "tuple",data:=.seq #[.none,.none] }
abbrev h5T(h:Heap)(l1 l2:Addr):Heap:=(h4T h l1 l2).push { cls:=.type "zip",data:=.fields #[.none,.bool false,.bool false,.ref (h2T h l1 l2).objs.size,.ref (h3T h l1 l2).objs.size] }
theorem am6(l1 l2)(xs ys):Meets (Builtin.«zip.__new__» ⟨[.type "zip",.ref l1,.ref l2],[]⟩) (λ_ R s=>s.heap.IsTuple l1 xs/\s.heap.IsTuple l2 ys/\
   R (.ok (.ret (.ref (h4T s.heap l1 l2).objs.size))) { s with heap:=h5T s.heap l1 l2 }):=
 .of_wp λprog w A R s h=>by
  obtain⟨hp,g,d,tk,os⟩:=s;obtain⟨hl1,hl2,h⟩:=h;have hsub:=sub_zip;have hL1:=hl1;have hL2:Heap.IsTuple (Shared.heap ⟨hp.push { cls:=.type "tuple_iterator",data:=.fields #[.ref l1,.int 0 0] },g,d,tk,os⟩) l2 ys:=Heap.IsTuple.push hl2 _
  wp_walk using wpAny_pyIter_tuple hL1,wpAny_pyIter_tuple hL2
  exact⟨_,rfl,h⟩
section
variable{prog:Program}{w:World}{A:Around}{E:Value->Shared->Prop}{s:Shared}
theorem ajX(hl1:s.heap.IsTuple l1 xs)(hl2:s.heap.IsTuple l2 ys)
  (h:∀g,IsZip g (s.heap.objs.size+4) (s.heap.objs.size+2) (s.heap.objs.size+3) .none->IsPair g (s.heap.objs.size+2) (.ref s.heap.objs.size) (.ref (s.heap.objs.size+1))->
   IsPair g (s.heap.objs.size+3) .none .none->g.IsTupleIter s.heap.objs.size l1 0->g.IsTupleIter (s.heap.objs.size+1) l2 0->g.objs.size=s.heap.objs.size+5->
   (∀c o,s.heap.get? c=some o->g.get? c=some o)->Q (.ref (s.heap.objs.size+4)) { s with heap:=g }) :
  wpAny (model prog w) A (call (.type "zip") [.ref l1,.ref l2]) Q E s:=by
 refine callType_new F.called_zip (by decide) (F.typeCall_zip_2 _ _) (F.newCall_zip_2 _ _) (λobj=>F.args_object_init_3 obj _ _) F.entry_zip_new (am6 l1 l2 xs ys) ⟨hl1,hl2,?_⟩;have z1:(h1T s.heap l1).objs.size=s.heap.objs.size+1:=Qz7 ..;have z2:(h2T s.heap l1 l2).objs.size=s.heap.objs.size+2:=by simp_all
 have z3:(h3T s.heap l1 l2).objs.size=s.heap.objs.size+3:=by simp_all
 have z4:(h4T s.heap l1 l2).objs.size=s.heap.objs.size+4:=by simp_all
 have z5:(h5T s.heap l1 l2).objs.size=s.heap.objs.size+5:=by simp_all
 have g5:(h5T s.heap l1 l2).get? (h4T s.heap l1 l2).objs.size=some _:=Qq8 _ rfl;have g4:(h5T s.heap l1 l2).get? (h3T s.heap l1 l2).objs.size=some _:=Qqx _<|Qq8 _ rfl;have g3:(h5T s.heap l1 l2).get? (h2T s.heap l1 l2).objs.size=some _:=Qqx _<|Qqx _<|Qq8 _ rfl;have g2:(h5T s.heap l1 l2).get? (h1T s.heap l1).objs.size=some _:=Qqx _<|Qqx _<|Qqx _<|Qq8 _ rfl;have g1:(h5T s.heap l1 l2).get? s.heap.objs.size=some _:=Qqx _<|Qqx _<|Qqx _<|Qqx _<|Qq8 _ rfl;show _/\_;rw[z2,z3,z4] at g5;rw[z1,z2] at g3;rw[z3] at g4;rw[z1] at g2;rw[z4];exact⟨⟨_,g5,rfl⟩,h _ g5 g3 g4 ⟨_,g1,rfl,rfl⟩ ⟨_,g2,rfl,rfl⟩ z5 λc o x=>Qqx _<|Qqx _<|Qqx _<|Qqx _<|Qqx _ x⟩
end
end ZT
namespace L2
open PySem PySem.Spec PyProof.Rows PySem.Builtin ZT
section
variable{X:Cx}
def auy(K:PySem.W.Frag)(ta:TA):TI:=λσ H R=>ta σ H λvs H1=>∃a1 a2,vs=[.ref a1,.ref a2]/\(∃xs,qe K H1 a1 xs)/\(∃ys,qe K H1 a2 ys)/\R (Itz K a1 a2) H1
theorem amk{elts:List Expr}{k:Nat}{tp:Pos}{p pos:Pos}(hg:Gl X "zip")(hm:X.mg "zip" = none)(ha:PA X [a,b] ta)(hs:starEach [a,b] X.env=(false,eval a X.env)::starEach [b] X.env:=by rfl)(hs2:starEach [b] X.env=[(false,eval b X.env)]:=by rfl):PI X (.Tuple elts k tp) (.Call (.Name "zip" p) [a,b] [] pos) (auy X.K ta):=by
 intro pins s σ H R I h;refine Call_ (zG I hg hm PyProof.Rows.boot_zip (Qx8 (gP (ha pos pins s σ H _ I h) λus s1 ⟨vs,H1,I1,r1,q1⟩=>?_) hs (by rw[hs2];rfl)));obtain⟨a1,a2,e,⟨xs,hx⟩,⟨ys,hy⟩,q⟩:=q1;subst e;cases r1 with
 | cons r rr=>
  cases rr with
  | cons r' rr'=>
   cases rr';cases r;cases r';obtain⟨u1,ru1,p1,z1⟩:=I1.tuple hx;obtain⟨u2,ru2,p2,z2⟩:=I1.tuple hy;have lt1:a1<s1.heap.objs.size:=by obtain⟨_,e,_⟩:=p1;exact Qq3 e
   have lt2:a2<s1.heap.objs.size:=by obtain⟨_,e,_⟩:=p2;exact Qq3 e
   refine ajX p1 p2 λg hz hTI hTO i1 i2 hsz hk=>?_;refine wpAny_pyIter_zip hz ?_;have I2:Inv X pins σ H1 { s1 with heap:=g }:=I1.kept (t':=s1.toks) hk;have own:∀b,s1.heap.objs.size<=b->wO X pins H1 b:=λb hb=>I1.acL hb (I1.hok.fresh hb);generalize hn:s1.heap.objs.size=n at *;have ne:∀{c d:Nat},c<d->(c:Addr)≠d:=λh e=>Qx3 _ (by subst e;exact h);have ne':∀{c d:Nat},d<c->(c:Addr)≠d:=λh e=>Qx3 _ (by subst e;exact h);have D:Apz (n+4) (n+2) (n+3) n (n+1) a1 a2:={
    t1:=ne (by omega),t2:=ne (by omega),t3:=ne (by omega),t4:=ne (by omega)
    b1:=by grind
    b2:=by grind
    b3:=by grind
    b4:=by grind
    b5:=by grind
    b6:=by grind
    b7:=by grind
    b8:=by simp_all
    c1:=ne lt1,c2:=ne (Qwx lt2 (by omega)) }
   refine⟨n+4,[n+4,n+2,n+3,n,n+1],_,_,H1,rfl,I2,adS _ _ _ _ _ a1 a2 D,⟨hz,hTI,⟨_,_,hTO⟩,i1,i2⟩,λb hb=>own b ?_,q⟩
   grind
end
end L2
namespace Ev
open PySem PySem.Spec PyProof.Rows L2 PySem.Builtin
section
variable{X:Cx}{C:Cfg}{pos:Pos}{e e2:Expr}
noncomputable def Su(x y:List D):List D:=(x.zip y).map λp=>.tup [p.1,p.2]
def W9(a:d7):d7:=λenv=>bindR (a env) λds aO=>match ds with
 | [.tup x,.tup y]=>.ok (Su x y) aO
 | _=>.stuck
theorem TV{K:Fg}:∀{ds} {vs},cD K F ds vs->∀{i:Nat} {d},ds[i]? = some d->∃v,vs[i]? = some v/\Rep K F d v
 | [],vs,_,i,d,h=>by simp at h
 | x::ds,vs,r,i,d,h=>by
  obtain⟨v,w,rfl,p,q⟩:=r;cases i with
  | zero=>simp_all
  | succ i=>obtain⟨u,h1,h2⟩:=TV q (by simpa using h);exact⟨u,by simpa using h1,h2⟩
end
open PySem PySem.Spec PyProof.Rows L2
def ar9(f:List D->Option (D×D))(c:Ev)(a:d7):Ev:=λenv=>bindR (c env) λx aO=>bindR (a aO) λds fP=>match f (x::ds) with
 | some (d,_)=>.ok d fP
 | none=>.stuck
section
variable{X:Cx}{C:Cfg}{pos:Pos}{x y z:Expr}{a b c:Ev}{n:Str}
theorem Ck{K:Fg}{x:Str}(X:K.In h)(G:h.Ns mainGlobals mg)(a:PySem.W.nsIn K mainGlobals x=some (some (.int i t))):Al K mg x (.int i):=
 ⟨.int i,_,Qzy X G a,⟨t,rfl⟩,λF=>rfl⟩
def akD(i:Nat)(a:Ev):cB:=λenv=>match env[i]? with
 | some (some (true,.lst _))=>gO (a env) λd aO=>(match aO[i]?,d with
  | some (some (true,.lst xs)),.lst zs=>if xs.length+zs.length<=sizeLine then .nx (aO.set i (some (true,.lst (xs++zs)))) else .stuck
  | _,_=>.stuck)
 | _=>.stuck
end
end Ev
namespace SX
open PySem PySem.Spec PyProof.Rows L2 PySem.Builtin
noncomputable def Xr(ys:List Str)(x:Str):List Str:=if x∈ys then ys else ys++[x]
def akz(zs:List Str):List Str:=zs.foldl Xr []
theorem agI(ys)(x):(Xr ys x).length<=ys.length+1:=by
 unfold Xr;split
 ·omega
 ·simp
theorem adM(zs:List Str):∀ys,(zs.foldl Xr ys).length<=ys.length+zs.length:=by
 induction zs with
 | nil=>simp_all
 | cons z zs ih=>intro ys;rw[Qjx,Qqv];have:=ih<|Xr ys z;have:=agI ys z;omega
noncomputable def led(w:World):Bool:=!(w.params.followText "set-order")
structure TOk(P:Program)(w:World)(es:Array (Int×Value))(t:SetTable)(ys:List Str):Prop where
 el:ElemsOf (strKind P w) es.toList
 tx:∃ss:List Str,StrsAre (es.toList.map (·.2)) ss/\ss.Perm ys
 fit:t.fits es.size=true
 ld:t.led=led w
 pl:es.size≠0->t.plain=false
def UW(P:Program)(w:World)(h:Heap)(a:Addr)(ys:List Str):Prop:=
 ∃o es ep t,h.get? a=some o/\o.ExactSet/\o.data = .set es ep t/\TOk P w es t ys
open PySem PySem.Spec PyProof.Rows L2 PySem.Builtin Ev
noncomputable def api(P:Program)(w:World)(a:Addr)(ys:List Str):HO:=.ext λh=>UW P w h a ys
noncomputable def aj6(ys:List (List Nat))(x:List Nat):List (List Nat):=if x∈ys then ys else ys++[x]
def vZ(zs:List (List Nat)):List (List Nat):=zs.foldl aj6 []
theorem oW(h:Ev.strOf x=Ev.strOf y):x=y:=by
 have:=Qx7 (λs:Str=>s.cps.toList) h
 assumption
theorem Xu(ys)(x):(aj6 ys x).map Ev.strOf=Xr (ys.map Ev.strOf) (Ev.strOf x):=by
 unfold aj6 Xr;by_cases h:x∈ys
 ·grind
 ·rw[if_neg h,if_neg<|λz=>h (by obtain⟨y,hy,e⟩:=Qwv.mp z;rw[<-oW e];exact hy),Qxz]
  rfl
theorem Ve:∀(zs ys:List (List Nat)),(zs.foldl aj6 ys).map Ev.strOf=(zs.map Ev.strOf).foldl Xr (ys.map Ev.strOf)
 | [],ys=>rfl
 | z::zs,ys=>by rw[Qjx,Ve zs,Xu,Qq7,Qjx]
theorem abk(zs):(vZ zs).map Ev.strOf=akz (zs.map Ev.strOf):=Ve zs []
theorem P0(zs):(vZ zs).length<=zs.length:=by
 have h:=adM (zs.map Ev.strOf) [];have e:=Qx7 List.length<|abk zs;rw[Qqz] at e;rw[e]
 simpa[akz] using h
end SX
namespace Ev
open PySem PySem.Spec PyProof.Rows L2 PySem.Builtin
section
variable{X:Cx}{C:Cfg}{pos:Pos}{x:Expr}{a:Ev}
structure PXL(X:Cx)(C:Cfg)(es:List Expr)(ev:d7):Prop where
 go:PXA X C es ev
theorem aic:PXL X C [] ao:=⟨aaH⟩
noncomputable def arV:D->Option D
 | .tup xs=>some (.tup xs.reverse)
 | _=>none
end
open PySem L2
theorem nr{α:Type}{a b:α}(h:a=b):a=b:=h
theorem bR{α β:Type}(a)(e)(f:α->Env->R β):bindR (.ok a e) f=f a e:=nr rfl
theorem bO{α:Type}(a)(e)(f:α->Env->Out):gO (.ok a e) f=f a e:=nr rfl
theorem lR{α:Type}(a:α)(e):fX (some a) e = .ok a e:=nr rfl
theorem lO(e):Qu (some e) = .nx e:=nr rfl
noncomputable def U0{α:Type}(_:Env):R α:=.stuck
noncomputable def aed(o:Out)(b:cB):Out:=match o with
 | .nx e=>b e
 | .rt o d e=>.rt o d e
 | .bk e=>.bk e
 | .ct e=>.ct e
 | .stuck=>.stuck
theorem ahF(a b)(env):aL a b env=aed (a env) b:=nr rfl
theorem sNx(e)(b):aed (.nx e) b=b e:=nr rfl
theorem sRt(o)(d)(e)(b):aed (.rt o d e) b = .rt o d e:=nr rfl
theorem sBk(e)(b):aed (.bk e) b = .bk e:=nr rfl
theorem sCt(e)(b):aed (.ct e) b = .ct e:=nr rfl
noncomputable def ifR{α:Type}(c:Bool)(a b:Env->α)(env:Env):α:=if c=true then a env else b env
theorem iT{α:Type}(a b:Env->α)(env):ifR true a b env=a env:=nr rfl
theorem iF{α:Type}(a b:Env->α)(env):ifR false a b env=b env:=nr rfl
def kIf{α:Type}(a b:Env->α)(c:Bool)(e:Env):α:=ifR c a b e
theorem ars{α:Type}(a b:Env->α)(c)(e):kIf a b c e=ifR c a b e:=nr rfl
theorem alO(t)(a b)(env):dH t a b env=gO (t env) (kIf a b):=nr rfl
theorem aoN(t)(a b)(env):auX t a b env=bindR (t env) (kIf a b):=nr rfl
noncomputable def okT(b:Bool):gR:=λe=>.ok b e
theorem aqK(b)(e):okT b e = .ok b e:=nr rfl
theorem agk(a b)(env):gF a b env=bindR (a env) (kIf b (okT false)):=nr rfl
theorem ajD(a b)(env):lF a b env=bindR (a env) (kIf (okT true) b):=nr rfl
noncomputable def blR{α:Type}(d:D)(f:Bool->R α):R α:=match d with
 | .bl b=>f b
 | _=>.stuck
theorem bB{α:Type}(b)(f:Bool->R α):blR (.bl b) f=f b:=nr rfl
noncomputable def okB(b:Bool):Ev:=λe=>.ok (.bl b) e
theorem aqL(b)(e):okB b e = .ok (.bl b) e:=nr rfl
def Wv(a b:Ev)(d:D)(e:Env):R D:=blR d (Zr a b e)
where Zr (a b:Ev) (e:Env) (c:Bool):R D:=ifR c a b e
theorem ai6(a b)(d)(e):Wv a b d e=blR d (Wv.Zr a b e):=nr rfl
theorem afF(a b)(e)(c):Wv.Zr a b e c=ifR c a b e:=nr rfl
theorem ajL(a b)(env):gf a b env=bindR (a env) (Wv b (okB false)):=by
 unfold gf
 congr 1
 funext d e
 cases d with
 | bl b=>cases b<;>rfl
 | _=>rfl
theorem aoL(a b)(env):acP a b env=bindR (a env) (Wv (okB true) b):=by
 unfold acP
 congr 1
 funext d e
 cases d with
 | bl b=>cases b<;>rfl
 | _=>rfl
noncomputable def afv(e:Env)(c:Bool):R D:=.ok (.bl (!c)) e
def arn(d:D)(e:Env):R D:=blR d (afv e)
theorem aiX(e)(c):afv e c = .ok (.bl (!c)) e:=nr rfl
theorem anz(d)(e):arn d e=blR d (afv e):=nr rfl
theorem ajE(a)(env):age a env=bindR (a env) arn:=by rfl
noncomputable def kB2(e:Env)(c:Bool):R Bool:=.ok c e
noncomputable def kB(d:D)(e:Env):R Bool:=blR d (kB2 e)
theorem arA(e)(c):kB2 e c = .ok c e:=nr rfl
theorem aur(d)(e):kB d e=blR d (kB2 e):=nr rfl
theorem asb(a)(env):eN a env=bindR (a env) kB:=by rfl
noncomputable def rdO{α:Type}(o:Option (Option (Bool×D)))(f:Bool->D->R α):R α:=match o with
 | some (some (o,d))=>f o d
 | _=>.stuck
theorem rS{α:Type}(o)(d)(f:Bool->D->R α):rdO (some (some (o,d))) f=f o d:=nr rfl
noncomputable def kRd(env:Env)(_:Bool)(d:D):R D:=.ok d env
theorem ark(env)(o)(d):kRd env o d = .ok d env:=nr rfl
theorem aoK(i)(env):bI i env=rdO env[i]? (kRd env):=by rfl
noncomputable def arb(i:Nat)(env:Env)(o:Bool)(d:D):R D:=.ok d (bif o then env.set i (some (false,d)) else env)
theorem anp(i)(env)(o)(d):arb i env o d = .ok d (bif o then env.set i (some (false,d)) else env):=nr rfl
theorem ajv(i)(env):aJ i env=rdO env[i]? (arb i env):=by
 unfold aJ rdO;cases env[i]? with
 | none=>rfl
 | some o=>
  cases o with
  | none=>rfl
  | some p=>obtain⟨b,d⟩:=p;cases b<;>rfl
def Zu(g:D->D->Option D)(y:D)(e:Env)(_:Bool)(x:D):R D:=fX (g x y) e
def Zx(g:D->D->Option D)(i:Nat)(y:D)(e:Env):R D:=rdO e[i]? (Zu g y e)
def akZ(g:D->D->Option D)(i:Nat)(b:Ev)(env:Env)(_:Bool)(_:D):R D:=bindR (b env) (Zx g i)
theorem afG(g)(y)(e)(o)(x):Zu g y e o x=fX (g x y) e:=nr rfl
theorem afH(g)(i)(y)(e):Zx g i y e=rdO e[i]? (Zu g y e):=nr rfl
theorem ai7(g)(i)(b)(env)(o)(d):akZ g i b env o d=bindR (b env) (Zx g i):=nr rfl
theorem agj(g)(i)(b)(env):aA g i b env=rdO env[i]? (akZ g i b env):=by rfl
noncomputable def ioR{α:Type}(o:Option (D×D))(f:D->D->R α):R α:=match o with
 | some (d,x)=>f d x
 | none=>.stuck
theorem oS{α:Type}(d x)(f:D->D->R α):ioR (some (d,x)) f=f d x:=nr rfl
noncomputable def anK(i:Nat)(e:Env)(d x':D):R D:=.ok d (e.set i (some (true,x')))
def anM(f:List D->Option (D×D))(i:Nat)(x:D)(ds:List D)(e:Env):R D:=ioR (f (x::ds)) (anK i e)
def afy(f:List D->Option (D×D))(i:Nat)(ds:List D)(e:Env)(o:Bool)(x:D):R D:=ifR o (anM f i x ds) U0 e
def anP(f:List D->Option (D×D))(i:Nat)(ds:List D)(e:Env):R D:=rdO e[i]? (afy f i ds e)
def anR(f:List D->Option (D×D))(i:Nat)(a:d7)(env:Env):R D:=bindR (a env) (anP f i)
def kIO(f:List D->Option (D×D))(i:Nat)(a:d7)(env:Env)(o:Bool)(_:D):R D:=ifR o (anR f i a) U0 env
theorem anJ(i)(e)(d x'):anK i e d x' = .ok d (e.set i (some (true,x'))):=nr rfl
theorem anL(f)(i)(x)(ds)(e):anM f i x ds e=ioR (f (x::ds)) (anK i e):=nr rfl
theorem anN(f)(i)(ds)(e)(o)(x):afy f i ds e o x=ifR o (anM f i x ds) U0 e:=nr rfl
theorem anO(f)(i)(ds)(e):anP f i ds e=rdO e[i]? (afy f i ds e):=nr rfl
theorem anQ(f)(i)(a)(env):anR f i a env=bindR (a env) (anP f i):=nr rfl
theorem aru(f)(i)(a)(env)(o)(d):kIO f i a env o d=ifR o (anR f i a) U0 env:=nr rfl
theorem aoO(f)(i)(a)(env):iW f i a env=rdO env[i]? (kIO f i a env):=by
 unfold iW rdO kIO ifR;cases env[i]? with
 | none=>rfl
 | some o=>
  cases o with
  | none=>rfl
  | some p=>
   obtain⟨b,d⟩:=p;cases b with
   | false=>rfl
   | true=>
    show bindR (a env) _=bindR (a env) _
    congr 1
    funext ds e
    show _=rdO e[i]? (afy f i ds e);unfold rdO afy ifR;cases e[i]? with
    | none=>rfl
    | some o=>
     cases o with
     | none=>rfl
     | some p=>obtain⟨b,d⟩:=p;cases b<;>rfl
noncomputable def afw(e:Env)(d _:D):R D:=.ok d e
def afx(f:List D->Option (D×D))(x:D)(ds:List D)(e:Env):R D:=ioR (f (x::ds)) (afw e)
def art(f:List D->Option (D×D))(a:d7)(x:D)(e:Env):R D:=bindR (a e) (afx f x)
theorem aiY(e)(d x):afw e d x = .ok d e:=nr rfl
theorem aiZ(f)(x)(ds)(e):afx f x ds e=ioR (f (x::ds)) (afw e):=nr rfl
theorem anI(f)(a)(x)(e):art f a x e=bindR (a e) (afx f x):=nr rfl
theorem ajI(f)(c)(a)(env):ar9 f c a env=bindR (c env) (art f a):=nr rfl
noncomputable def aoj{α:Type}(d:D)(f:Int->R α):R α:=match d with
 | .int i=>f i
 | _=>.stuck
theorem nS{α:Type}(i)(f:Int->R α):aoj (.int i) f=f i:=nr rfl
noncomputable def kP2(e:Env)(i:Int):R (Option Int):=.ok (some i) e
def kP(d:D)(e:Env):R (Option Int):=aoj d (kP2 e)
theorem arl(e)(i):kP2 e i = .ok (some i) e:=nr rfl
theorem auo(d)(e):kP d e=aoj d (kP2 e):=nr rfl
theorem ar8(a)(env):pZ a env=bindR (a env) kP:=nr rfl
noncomputable def obR{α:Type}(o:Option D)(f:Bool->R α):R α:=match o with
 | some (.bl k)=>f k
 | _=>.stuck
theorem obS{α:Type}(k)(f:Bool->R α):obR (some (.bl k)) f=f k:=nr rfl
def an5(g':D->D->Option D)(v t:D)(e:Env):R D:=fX (g' v t) e
def an7(g':D->D->Option D)(c:Ev)(v:D)(e:Env):R D:=bindR (c e) (an5 g' v)
def afE(g':D->D->Option D)(c:Ev)(v:D)(e:Env)(k:Bool):R D:=ifR k (an7 g' c v) (okB false) e
def an9(g g':D->D->Option D)(c:Ev)(u v:D)(e:Env):R D:=obR (g u v) (afE g' c v e)
def kCh(g g':D->D->Option D)(b c:Ev)(u:D)(e:Env):R D:=bindR (b e) (an9 g g' c u)
theorem an4(g')(v t)(e):an5 g' v t e=fX (g' v t) e:=nr rfl
theorem an6(g')(c)(v)(e):an7 g' c v e=bindR (c e) (an5 g' v):=nr rfl
theorem ai5(g')(c)(v)(e)(k):afE g' c v e k=ifR k (an7 g' c v) (okB false) e:=nr rfl
theorem an8(g g')(c)(u v)(e):an9 g g' c u v e=obR (g u v) (afE g' c v e):=nr rfl
theorem arx(g g')(b c)(u)(e):kCh g g' b c u e=bindR (b e) (an9 g g' c u):=nr rfl
theorem acS(g g')(a b c)(env):vR g g' a b c env=bindR (a env) (kCh g g' b c):=by rfl
noncomputable def wj(o:Out)(k:cB):Out:=match o with
 | .nx e=>k e
 | .ct e=>k e
 | .bk e=>.nx e
 | .rt o d e=>.rt o d e
 | .stuck=>.stuck
theorem kNx(e)(b):wj (.nx e) b=b e:=nr rfl
theorem kRt(o)(d)(e)(b):wj (.rt o d e) b = .rt o d e:=nr rfl
theorem kBk(e)(b):wj (.bk e) b = .nx e:=nr rfl
theorem kCt(e)(b):wj (.ct e) b=b e:=nr rfl
noncomputable def gvK(o:Option Env)(b:cB):Out:=match o with
 | none=>.stuck
 | some e=>b e
theorem vS(e)(b):gvK (some e) b=b e:=nr rfl
def kFor(g:GV)(b:cB)(ds:List D)(e:Env):Out:=wj (b e) (mQ g b ds)
theorem anS(g)(b)(ds)(e):kFor g b ds e=wj (b e) (mQ g b ds):=nr rfl
theorem aoG(g)(b)(env):mQ g b [] env = .nx env:=nr rfl
theorem Nv(g)(b)(d)(ds)(env):mQ g b (d::ds) env=gvK (g d env) (kFor g b ds):=by rfl
def kWh(t:gR)(b:cB)(n:Nat):cB:=λe=>wj (b e) (Sy t b n)
theorem ara(t)(b)(n)(e):kWh t b n e=wj (b e) (Sy t b n):=nr rfl
noncomputable def gvR{α:Type}(o:Option Env)(b:Env->R α):R α:=match o with
 | none=>.stuck
 | some e=>b e
theorem wS{α:Type}(e)(b:Env->R α):gvR (some e) b=b e:=nr rfl
noncomputable def anC(y:D)(ys:List D)(e:Env):R (List D):=.ok (y::ys) e
def anE(g:GV)(c:gR)(el:Ev)(ds:List D)(y:D)(e:Env):R (List D):=bindR (Er g c el ds e) (anC y)
def anG(g:GV)(c:gR)(el:Ev)(ds:List D)(e:Env):R (List D):=bindR (el e) (anE g c el ds)
def kLc(g:GV)(c:gR)(el:Ev)(ds:List D)(e:Env):R (List D):=bindR (c e) (kIf (anG g c el ds) (Er g c el ds))
theorem anB(y)(ys)(e):anC y ys e = .ok (y::ys) e:=nr rfl
theorem anD(g)(c)(el)(ds)(y)(e):anE g c el ds y e=bindR (Er g c el ds e) (anC y):=nr rfl
theorem anF(g)(c)(el)(ds)(e):anG g c el ds e=bindR (el e) (anE g c el ds):=nr rfl
theorem arp(g)(c)(el)(ds)(e):kLc g c el ds e=bindR (c e) (kIf (anG g c el ds) (Er g c el ds)):=nr rfl
theorem aq6(g)(c)(e)(env):Er g c e [] env = .ok [] env:=nr rfl
theorem aq7(g)(c)(e)(d)(ds)(env):Er g c e (d::ds) env=gvR (g d env) (kLc g c e ds):=by rfl
noncomputable def al2(o:Out):Option D:=match o with
 | .rt false d _=>some d
 | .nx _=>some .non
 | _=>none
theorem alZ(n)(ev)(ds):cA n ev ds=al2 (ev (envOf n ds)):=nr rfl
theorem dRt(d)(e):al2 (.rt false d e)=some d:=nr rfl
theorem dNx(e):al2 (.nx e)=some .non:=nr rfl
noncomputable def szR{α:Type}(n:Nat)(x:R α):R α:=if n<=sizeLine then x else .stuck
theorem zR{α:Type}{x:R α}(h:n<=sizeLine):szR n x=x:=if_pos h
def ard(ds:List D)(e:Env):R D:=szR ds.length (.ok (.tup ds) e)
theorem anq(ds)(e):ard ds e=szR ds.length (.ok (.tup ds) e):=nr rfl
theorem ajw(r)(env):aF r env=bindR (r env) ard:=nr rfl
def aro(ds:List D)(e:Env):R D:=szR ds.length (.ok (.lst ds) e)
theorem anA(ds)(e):aro ds e=szR ds.length (.ok (.lst ds) e):=nr rfl
theorem ajH(r)(env):cC r env=bindR (r env) aro:=nr rfl
noncomputable def lsO(o:Option (Option (Bool×D)))(f:List D->Out):Out:=match o with
 | some (some (true,.lst xs))=>f xs
 | _=>.stuck
theorem lS(xs)(f):lsO (some (some (true,.lst xs))) f=f xs:=nr rfl
noncomputable def szO(n:Nat)(x:Out):Out:=if n<=sizeLine then x else .stuck
theorem zO(h:n<=sizeLine):szO n x=x:=if_pos h
def afJ(i:Nat)(d:D)(e:Env)(xs:List D):Out:=szO (xs.length+1) (.nx (e.set i (some (true,.lst (xs++[d])))))
def afK(i:Nat)(d:D)(e:Env):Out:=lsO e[i]? (afJ i d e)
def arC(i:Nat)(a:Ev)(env:Env)(_:List D):Out:=gO (a env) (afK i)
theorem ai9(i)(d)(e)(xs):afJ i d e xs=szO (xs.length+1) (.nx (e.set i (some (true,.lst (xs++[d]))))):=nr rfl
theorem aja(i)(d)(e):afK i d e=lsO e[i]? (afJ i d e):=nr rfl
theorem aoc(i)(a)(env)(xs):arC i a env xs=gO (a env) (afK i):=nr rfl
theorem ahL(i)(a)(env):iK i a env=lsO env[i]? (arC i a env):=nr rfl
noncomputable def ldO(d:D)(f:List D->Out):Out:=match d with
 | .lst xs=>f xs
 | _=>.stuck
theorem eS(xs)(f):ldO (.lst xs) f=f xs:=nr rfl
def afz(i:Nat)(e:Env)(xs zs:List D):Out:=szO (xs.length+zs.length) (.nx (e.set i (some (true,.lst (xs++zs)))))
def Wu(i:Nat)(d:D)(e:Env)(xs:List D):Out:=ldO d (afz i e xs)
def afA(i:Nat)(d:D)(e:Env):Out:=lsO e[i]? (Wu i d e)
def anU(i:Nat)(a:Ev)(env:Env)(_:List D):Out:=gO (a env) (afA i)
theorem ai0(i)(e)(xs zs):afz i e xs zs=szO (xs.length+zs.length) (.nx (e.set i (some (true,.lst (xs++zs))))):=nr rfl
theorem ai1(i)(d)(e)(xs):Wu i d e xs=ldO d (afz i e xs):=nr rfl
theorem ai2(i)(d)(e):afA i d e=lsO e[i]? (Wu i d e):=nr rfl
theorem anT(i)(a)(env)(xs):anU i a env xs=gO (a env) (afA i):=nr rfl
theorem ahJ(i)(a)(env):akD i a env=lsO env[i]? (anU i a env):=by
 unfold akD lsO anU;cases env[i]? with
 | none=>rfl
 | some o=>
  cases o with
  | none=>rfl
  | some p=>
   obtain⟨b,d⟩:=p;cases b with
   | false=>rfl
   | true=>
    cases d with
    | lst xs=>
     show gO (a env) _=gO (a env) _
     congr 1
     funext d e
     show _=lsO e[i]? (Wu i d e);unfold lsO Wu;cases e[i]? with
     | none=>rfl
     | some o=>
      cases o with
      | none=>rfl
      | some p=>
       obtain⟨b,u⟩:=p;cases b with
       | false=>rfl
       | true=>
        cases u with
        | lst ys=>cases d<;>rfl
        | _=>rfl
    | _=>rfl
theorem ajq(h:a.length+b.length<=sizeLine):bJ (.str a) (.str b)=some (.str (a++b)):=if_pos h
theorem mq(h:a.length+b.length<=sizeLine):bJ (.tup a) (.tup b)=some (.tup (a++b)):=if_pos h
theorem ajr(h:a.length+b.length<=sizeLine):bJ (.lst a) (.lst b)=some (.lst (a++b)):=if_pos h
theorem ajp(h:a.length+b.length<=sizeLine):uw (.lst a) (.lst b)=some (.lst (a++b)):=if_pos h
theorem arT(xs)(lo hi):gSl (.lst xs) lo hi=some (.lst (cutD xs lo hi)):=nr rfl
theorem arU(xs)(lo hi):gSl (.arr xs) lo hi=some (.lst (cutD xs lo hi)):=nr rfl
theorem aop(x)(lo hi):aoq (.str x) lo hi=some (.str (cutD x lo hi)):=nr rfl
theorem aou(x):aov (.str x)=some (.str x.reverse):=nr rfl
theorem ajk(x):arV (.tup x)=some (.tup x.reverse):=nr rfl
theorem arH(xs):itD (.lst xs)=some xs:=nr rfl
theorem arI(xs):itD (.arr xs)=some xs:=nr rfl
theorem arF(xs):itD (.tup xs)=some xs:=nr rfl
theorem arG(x):itD (.str x)=some (fc x):=nr rfl
theorem W0(xs)(lo hi):af3 (.tup xs) lo hi=some (.tup (cutD xs lo hi)):=by
 show(if HT.gQ xs.length 0 lo=0/\HT.gQ xs.length xs.length hi=xs.length then some (D.tup xs) else some (D.tup<|cutD xs lo hi))=_;split
 ·rename_i h;unfold cutD
  simp_all
 ·rfl
theorem Rn(xs)(k):cZ (.tup xs) (.int k)=uO xs k:=nr rfl
theorem ak7(xs)(k):cZ (.lst xs) (.int k)=uO xs k:=nr rfl
theorem ak6(x)(k):cZ (.str x) (.int k)=(uO x k).map λc=>.str [c]:=nr rfl
theorem at0{α:Type}(x)(r:List α):uO (x::r) 0=some x:=oE rfl
theorem at1{α:Type}(x y)(r:List α):uO (x::y::r) 1=some y:=oE rfl
theorem at2{α:Type}(x y z)(r:List α):uO (x::y::z::r) 2=some z:=oE rfl
theorem at3{α:Type}(x y z u)(r:List α):uO (x::y::z::u::r) 3=some u:=oE rfl
theorem atN{α:Type}(xs:List α)(k:Nat):uO xs k=xs[k]?:=by
 cases h:xs[k]? with
 | some x=>exact oE h
 | none=>
  have hl:=List.getElem?_eq_none_iff.mp h;unfold uO ixN
  simp_all
theorem aoE(i j):bJ (.int i) (.int j)=some (.int (i+j)):=nr rfl
theorem aoz(x):dM [.str x]=some (.int x.length):=nr rfl
theorem mO(x):dM [.tup x]=some (.int x.length):=nr rfl
theorem aoA(x):dM [.lst x]=some (.int x.length):=nr rfl
theorem aoB(x):dM [.arr x]=some (.int x.length):=nr rfl
theorem af2(x):iz [.lst x]=some (.tup x):=nr rfl
theorem af1(x):iz [.tup x]=some (.tup x):=nr rfl
theorem ajl(x):jN [.tup x]=some (.lst x):=nr rfl
theorem ajn(x):jN [.lst x]=some (.lst x):=nr rfl
theorem ajm(x):jN [.str x]=some (.lst (signs x)):=nr rfl
theorem af7(a b):jb (.str a) (.str b)=some (.bl (a == b)):=nr rfl
theorem af4(a b):Up (.str a) (.str b)=some (.bl (!(a == b))):=nr rfl
theorem Nq(a b):jb (.int a) (.int b)=some (.bl (a == b)):=nr rfl
theorem aaX(a b):Up (.int a) (.int b)=some (.bl (!(a == b))):=nr rfl
theorem arY(a b):gLe (.int a) (.int b)=some (.bl (decide (a<=b))):=nr rfl
theorem W4(a b):gLt (.int a) (.int b)=some (.bl (decide (a<b))):=nr rfl
theorem ar0(a b):gGt (.int a) (.int b)=some (.bl (decide (b<a))):=nr rfl
theorem ar5(a b):gGe (.int a) (.int b)=some (.bl (decide (b<=a))):=nr rfl
theorem arW(a b):gLt (.str a) (.str b)=some (.bl (decide (a<b))):=nr rfl
theorem aoo(a b):xJ (.int a) (.int b)=some (.int (a - b)):=nr rfl
theorem arZ(c)(z):xK (.str [c]) (.str z)=some (.bl (decide (c∈z))):=nr rfl
theorem asm{α:Type}(p):∀l:List α,xX (l.map λa=>D.bl (p a))=some (l.map p)
 | []=>rfl
 | a::l=>by
  rw[Qq7];unfold xX;rw[asm p l]
  rfl
theorem yH{α:Type}(p)(l:List α):wM [.lst (l.map λa=>D.bl (p a))]=some (.bl (l.all p)):=by
 show(xX _).map _=_;rw[asm]
 simp_all
noncomputable def auh:D->Bool
 | .clo _ _=>false
 | _=>true
theorem aoC(T)(d)(h:auh d=true):f9 T d=some (.bl (sY d T)):=by cases d<;>first|rfl|cases h
theorem alM(n):iu 0 1 n=(List.range n).map λ(i:Nat)=>D.int i:=by
 unfold iu
 simp_all
theorem aej{n:Nat}(h:n<2^62):wK [.int n]=some ((List.range n).map λ(i:Nat)=>D.int i):=by
 have hf:lZ n=true:=by
  unfold lZ
  grind
 show(if lZ n=true then some (iu 0 1 (n:Int).toNat) else none)=_;rw[if_pos hf,Qz2,alM]
theorem auT(n)(gs)(xs)(env)(h:xs.length=n):cO n gs (.tup xs) env=gs xs env:=if_pos h
noncomputable def gvB(o:Option Env)(f:Env->Option Env):Option Env:=o.bind f
theorem gB(e)(f):gvB (some e) f=f e:=nr rfl
theorem afV(g)(gs)(d)(ds)(env):aN g gs (d::ds) env=gvB (g d env) (gs ds):=nr rfl
theorem ajg(env):cQ [] env=some env:=nr rfl
noncomputable def arj(d:D)(e:Env):Out:=.rt false d e
theorem anw(d)(e):arj d e = .rt false d e:=nr rfl
theorem ahG(a)(env):bu a env=gO (a env) arj:=nr rfl
theorem adY(env):alN env = .rt false .non env:=nr rfl
def arB(g:GV)(d:D)(e:Env):Out:=Qu (g d e)
theorem aob(g)(d)(e):arB g d e=Qu (g d e):=nr rfl
theorem ahK(a)(g)(env):bh a g env=gO (a env) (arB g):=nr rfl
noncomputable def kOwn(i:Nat)(d:D)(e:Env):Out:=.nx (e.set i (some (true,d)))
theorem anx(i)(d)(e):kOwn i d e = .nx (e.set i (some (true,d))):=nr rfl
theorem ahH(i)(a)(env):fD i a env=gO (a env) (kOwn i):=nr rfl
theorem adZ(env):bN env = .nx env:=nr rfl
theorem ahI(it)(g)(b)(env):ju it g b env=gO (it env) (mQ g b):=nr rfl
theorem asa(d)(env):iB d env = .ok d env:=nr rfl
theorem agg(env):G6 env = .ok (.dct []) env:=nr rfl
theorem ajG(env):ao env = .ok [] env:=nr rfl
theorem agc(env):cP env = .ok true env:=nr rfl
theorem ajF(env):eZ env = .ok none env:=nr rfl
noncomputable def Zq(d:D)(ds:List D)(e:Env):R (List D):=.ok (d::ds) e
def akY(r:d7)(d:D)(e:Env):R (List D):=bindR (r e) (Zq d)
theorem afD(d)(ds)(e):Zq d ds e = .ok (d::ds) e:=nr rfl
theorem ai4(r)(d)(e):akY r d e=bindR (r e) (Zq d):=nr rfl
theorem agh(a)(r)(env):aa a r env=bindR (a env) (akY r):=nr rfl
def afI(g:D->D->Option D)(x y:D)(e:Env):R D:=fX (g x y) e
def arz(g:D->D->Option D)(b:Ev)(x:D)(e:Env):R D:=bindR (b e) (afI g x)
theorem ai8(g)(x y)(e):afI g x y e=fX (g x y) e:=nr rfl
theorem aoa(g)(b)(x)(e):arz g b x e=bindR (b e) (afI g x):=nr rfl
theorem ajK(g)(a b)(env):aP g a b env=bindR (a env) (arz g b):=nr rfl
def kUn{α β:Type}(g:α->Option β)(x:α)(e:Env):R β:=fX (g x) e
theorem arc{α β:Type}(g:α->Option β)(x)(e):kUn g x e=fX (g x) e:=nr rfl
theorem aoI(g)(a)(env):gH g a env=bindR (a env) (kUn g):=nr rfl
theorem agi(g)(a)(env):az g a env=bindR (a env) (kUn g):=nr rfl
noncomputable def akX(b:Bool)(e:Env):R Bool:=.ok (!b) e
theorem aiW(b)(e):akX b e = .ok (!b) e:=nr rfl
theorem agd(a)(env):eU a env=bindR (a env) akX:=nr rfl
def ant(s:D->Option Int->Option Int->Option D)(d:D)(l u:Option Int)(e:Env):R D:=fX (s d l u) e
def anv(s:D->Option Int->Option Int->Option D)(hi:Sq)(d:D)(l:Option Int)(e:Env):R D:=bindR (hi e) (ant s d l)
def kSl(s:D->Option Int->Option Int->Option D)(lo hi:Sq)(d:D)(e:Env):R D:=bindR (lo e) (anv s hi d)
theorem anr(s)(d)(l u)(e):ant s d l u e=fX (s d l u) e:=nr rfl
theorem anu(s)(hi)(d)(l)(e):anv s hi d l e=bindR (hi e) (ant s d l):=nr rfl
theorem arh(s)(lo hi)(d)(e):kSl s lo hi d e=bindR (lo e) (anv s hi d):=nr rfl
theorem aoJ(a)(lo hi)(env):G3 a lo hi env=bindR (a env) (kSl gSl lo hi):=nr rfl
theorem ajy(a)(lo hi)(env):Xa a lo hi env=bindR (a env) (kSl aoq lo hi):=nr rfl
theorem ajx(a)(lo hi)(env):ar7 a lo hi env=bindR (a env) (kSl af3 lo hi):=nr rfl
theorem ajC(a)(env):wk a env=bindR (a env) (kUn aov):=nr rfl
theorem aoM(a)(env):gW a env=bindR (a env) (kUn itD):=nr rfl
theorem ajA(a)(env):jy a env=bindR (a env) (kUn wK):=nr rfl
theorem afU(i)(d)(env):aq i d env=some (env.set i (some (false,d))):=nr rfl
theorem gt0{α:Type}(a)(l:List α):(a::l)[0]? = some a:=nr rfl
theorem gtS{α:Type}(a)(l:List α)(i):(a::l)[i+1]? = l[i]?:=nr rfl
theorem st0{α:Type}(a b)(l:List α):(a::l).set 0 b=b::l:=nr rfl
theorem stS{α:Type}(a b)(l:List α)(i):(a::l).set (i+1) b=a::l.set i b:=nr rfl
theorem cdT{α:Type}(a b:α):(bif true then a else b)=a:=nr rfl
theorem cdF{α:Type}(a b:α):(bif false then a else b)=b:=nr rfl
theorem akV{α:Type}(enc)(ext:α->Env)(p)(out)(env)(k):∀(l:List α) vs,vs.length=k->
  (∀a∈l,(ext a).length=k/\(∀vs,vs.length=k->g (enc a) (env++vs)=some (env++ext a))/\c (env++ext a) = .ok (p a) (env++ext a)/\(p a=true->e (env++ext a) = .ok (out a) (env++ext a)))->
  ∃vs',vs'.length=k/\Er g c e (l.map enc) (env++vs) = .ok ((l.filter p).map out) (env++vs')
 | [],vs,hv,_=>⟨vs,hv,rfl⟩
 | a::l,vs,hv,h=>by
  obtain⟨h1,h2,h3,h4⟩:=h a Qqw;obtain⟨vs',h5,h6⟩:=akV enc ext p out env k l (ext a) h1 λb hb=>h b<|Qqk _ hb;refine⟨vs',h5,?_⟩;rw[Qq7];unfold Er;rw[h2 vs hv];show bindR (c<|env++ext a) _=_;rw[h3,bR];cases hp:p a with
  | true=>rw[if_pos rfl,h4 hp,bR,h6,bR,List.filter_cons_of_pos hp,Qq7]
  | false=>simp_all
theorem G4{α:Type}{lo n:Nat}(l:List α)(enc)(ext:α->Env)(p)(out)(hit:it env = .ok (l.map enc) aO)(hlo:aO.length=lo)
  (h:∀a∈l,(ext a).length=n - lo/\(∀vs,vs.length=n - lo->g (enc a) (aO++vs)=some (aO++ext a))/\c (aO++ext a) = .ok (p a) (aO++ext a)/\(p a=true->e (aO++ext a) = .ok (out a) (aO++ext a)))
  (hz:l.length<=sizeLine):gr lo n it g c e env = .ok (.lst ((l.filter p).map out)) aO:=by
 obtain⟨vs',h5,h6⟩:=akV enc ext p out aO (n - lo) l (List.replicate (n - lo) none) Qw4 h;have:=vP hit hlo h6<|Qqy (by grind) hz
 simp_all
theorem ou{α:Type}{lo n:Nat}(l:List α)(enc)(out)(hit:it env = .ok (l.map enc) aO)(hlo:aO.length=lo)(hn:n=lo+1)
  (h:∀a∈l,e (aO++[some (false,enc a)]) = .ok (out a) (aO++[some (false,enc a)])) (hz:l.length<=sizeLine):gr lo n it (aq lo) cP e env = .ok (.lst (l.map out)) aO:=by
 subst hn hlo;have:=G4 (n:=aO.length+1) (g:=aq aO.length) (c:=cP) l enc (λa=>[some (false,enc a)]) (λ_=>true) out hit rfl (λa ha=>⟨by simp,λvs hv=>?_,rfl,λ_=>h a ha⟩) hz
 ·rw[this,List.filter_eq_self.mpr<|λ_ _=>rfl]
 ·have hv:vs.length=1:=by omega
  obtain⟨v,rfl⟩:=List.length_eq_one_iff.mp hv;unfold aq
  simp_all
theorem aa2{α:Type}{lo n:Nat}(l:List α)(enc)(p)(out)(hit:it env = .ok (l.map enc) aO)(hlo:aO.length=lo)(hn:n=lo+1)
  (hc:∀a∈l,c (aO++[some (false,enc a)]) = .ok (p a) (aO++[some (false,enc a)]))
  (h:∀a∈l,p a=true->e (aO++[some (false,enc a)]) = .ok (out a) (aO++[some (false,enc a)])) (hz:l.length<=sizeLine):gr lo n it (aq lo) c e env = .ok (.lst ((l.filter p).map out)) aO:=by
 subst hn hlo;refine G4 l enc (λa=>[some (false,enc a)]) p out hit rfl (λa ha=>⟨by simp,λvs hv=>?_,hc a ha,λhp=>h a ha hp⟩) hz;have hv:vs.length=1:=by omega
 obtain⟨v,rfl⟩:=List.length_eq_one_iff.mp hv;unfold aq
 simp_all
open PySem PySem.Spec PyProof.Rows L2
section
variable{X:Cx}{C:Cfg}
theorem nc0:((0:Nat):Int)=0:=nr rfl
theorem nc1:((1:Nat):Int)=1:=nr rfl
theorem nc2:((2:Nat):Int)=2:=nr rfl
theorem nc3:((3:Nat):Int)=3:=nr rfl
theorem nc4:((4:Nat):Int)=4:=nr rfl
theorem nc5:((5:Nat):Int)=5:=nr rfl
theorem nc6:((6:Nat):Int)=6:=nr rfl
theorem nc7:((7:Nat):Int)=7:=nr rfl
theorem nc8:((8:Nat):Int)=8:=nr rfl
end
noncomputable def aek(o:Out):Option (D×D):=match o with
 | .rt false d env=>(match env[0]? with
  | some (some (true,x'))=>some (d,x')
  | _=>none)
 | .nx env=>(match env[0]? with
  | some (some (true,x'))=>some (.non,x')
  | _=>none)
 | _=>none
theorem ahZ(n)(ev)(x)(r):qi n ev (x::r)=aek (ev (Cw n x r)):=nr rfl
theorem aut(d x)(e:Env):aek (.rt false d (some (true,x)::e))=some (d,x):=nr rfl
theorem auu(x)(e:Env):aek (.nx (some (true,x)::e))=some (.non,x):=nr rfl
noncomputable def aqb(o:Out):Option D:=match o with
 | .rt true d _=>some d
 | _=>none
theorem al0(n)(ev)(ds):runN n ev ds=aqb (ev (envOf n ds)):=nr rfl
theorem nRt(d)(e):aqb (.rt true d e)=some d:=nr rfl
noncomputable def akW(d:D)(e:Env):Out:=.rt true d e
theorem aiV(d)(e):akW d e = .rt true d e:=nr rfl
theorem Yp(a)(env):Bc a env=gO (a env) akW:=nr rfl
noncomputable def rdP(o:Option (Option (Bool×D)))(f:Bool->D->Out):Out:=match o with
 | some (some (o,d))=>f o d
 | _=>.stuck
theorem pS(o)(d)(f):rdP (some (some (o,d))) f=f o d:=nr rfl
noncomputable def dcO(o:Bool)(d:D)(f:List (D×D)->Out):Out:=match o,d with
 | true,.dct kvs=>f kvs
 | _,_=>.stuck
theorem cS(kvs)(f):dcO true (.dct kvs) f=f kvs:=nr rfl
def kyO(d:D)(f:Key->Out):Out:=match wL d with
 | some q=>f q
 | none=>.stuck
theorem arf(z)(f):kyO (.str z) f=f (.inr (strOf z)):=nr rfl
theorem arq(i)(f):kyO (.int i) f=f (.inl i):=nr rfl
def anY(i:Nat)(d kd:D)(e:Env)(kvs:List (D×D))(q:Key):Out:=szO (kvs.length+1) (.nx (e.set i (some (true,.dct (putD kvs kd q d)))))
def ai3(i:Nat)(d kd:D)(e:Env)(kvs:List (D×D)):Out:=kyO kd (anY i d kd e kvs)
def afB(i:Nat)(d kd:D)(e:Env)(o:Bool)(x:D):Out:=dcO o x (ai3 i d kd e)
def an2(i:Nat)(d kd:D)(e:Env):Out:=rdP e[i]? (afB i d kd e)
def afC(i:Nat)(k:Ev)(d:D)(e:Env)(_:Bool)(_:D):Out:=gO (k e) (an2 i d)
def kDp(i:Nat)(k:Ev)(d:D)(e:Env):Out:=rdP e[i]? (afC i k d e)
theorem anW(i)(d kd)(e)(kvs)(q):anY i d kd e kvs q=szO (kvs.length+1) (.nx (e.set i (some (true,.dct (putD kvs kd q d))))):=nr rfl
theorem anZ(i)(d kd)(e)(kvs):ai3 i d kd e kvs=kyO kd (anY i d kd e kvs):=nr rfl
theorem an0(i)(d kd)(e)(o)(x):afB i d kd e o x=dcO o x (ai3 i d kd e):=nr rfl
theorem an1(i)(d kd)(e):an2 i d kd e=rdP e[i]? (afB i d kd e):=nr rfl
theorem an3(i)(k)(d)(e)(o)(x):afC i k d e o x=gO (k e) (an2 i d):=nr rfl
theorem arw(i)(k)(d)(e):kDp i k d e=rdP e[i]? (afC i k d e):=nr rfl
theorem ad0(i)(k a)(env):wU i k a env=gO (a env) (kDp i k):=by
 unfold wU
 congr 1
 funext d e1
 show _=rdP e1[i]? (afC i k d e1);unfold rdP afC;cases e1[i]? with
 | none=>rfl
 | some o=>
  cases o with
  | none=>rfl
  | some p=>
   obtain⟨b,x⟩:=p;show gO (k e1) _=gO (k e1) _
   congr 1
   funext kd e2
   show _=rdP e2[i]? (afB i d kd e2);unfold rdP afB dcO ai3;cases e2[i]? with
   | none=>rfl
   | some o=>
    cases o with
    | none=>rfl
    | some p=>
     obtain⟨b,u⟩:=p;cases b with
     | false=>rfl
     | true=>
      cases u with
      | dct kvs=>
       unfold kyO;cases wL kd<;>rfl
      | _=>rfl
section
variable{X:Cx}{C:Cfg}{pos:Pos}{x:Expr}{a:Ev}
def sU:D->Option Int->Option Int->Option D
 | .str z,lo,hi=>some (.str (cutD z lo hi))
 | .tup xs,lo,hi=>some (.tup (cutD xs lo hi))
 | .lst xs,lo,hi=>some (.lst (cutD xs lo hi))
 | .arr xs,lo,hi=>some (.lst (cutD xs lo hi))
 | _,_,_=>none
def gD(a:Ev)(lo hi:Sq):Ev:=λenv=>bindR (a env) λd aO=>bindR (lo aO) λl fP=>bindR (hi fP) λu JX=>fX (sU d l u) JX
theorem aor(z)(lo hi):sU (.str z) lo hi=some (.str (cutD z lo hi)):=nr rfl
theorem Ni(z)(lo hi):sU (.tup z) lo hi=some (.tup (cutD z lo hi)):=nr rfl
theorem aos(z)(lo hi):sU (.lst z) lo hi=some (.lst (cutD z lo hi)):=nr rfl
theorem aot(z)(lo hi):sU (.arr z) lo hi=some (.lst (cutD z lo hi)):=nr rfl
theorem ajz(a)(lo hi)(env):gD a lo hi env=bindR (a env) (kSl sU lo hi):=nr rfl
end
structure SX(X:Cx)(C:Cfg)(e:Expr)(ev:Ev):Prop where
 u:Ev.PX X C e ev
structure SXB(X:Cx)(C:Cfg)(e:Expr)(ev:Ev):Prop where
 u:Ev.PXB X C e ev
structure SXN(X:Cx)(C:Cfg)(e:Expr)(ev:Ev):Prop where
 u:Ev.PXN X C e ev
structure SXT(X:Cx)(C:Cfg)(e:Expr)(ev:gR):Prop where
 u:Ev.PXT X C e ev
structure SXW(X:Cx)(C:Cfg)(e:Expr)(ev:gR):Prop where
 u:Ev.PXW X C e ev
structure U3(X:Cx)(C:Cfg)(e:List Expr)(ev:d7):Prop where
 u:Ev.PXA X C e ev
structure J2(X:Cx)(C:Cfg)(e:List Expr)(ev:d7):Prop where
 u:Ev.aki X C e ev
structure SXL(X:Cx)(C:Cfg)(e:List Expr)(ev:d7):Prop where
 u:Ev.PXL X C e ev
structure SXS(X:Cx)(C:Cfg)(e:Stmt)(ev:cB):Prop where
 u:Ev.PXS X C e ev
structure dG(X:Cx)(C:Cfg)(e:List Stmt)(ev:cB):Prop where
 u:Ev.Hh X C e ev
structure agP(X:Cx)(C:Cfg)(e:List Expr)(ev:gR):Prop where
 u:Ev.aai X C e ev
structure SXP(X:Cx)(C:Cfg)(e:Option Expr)(ev:Sq):Prop where
 u:Ev.PXP X C e ev
structure SXI(X:Cx)(C:Cfg)(tg e:Expr)(ev:d7):Prop where
 u:Ev.PXI X C tg e ev
structure SXG(X:Cx)(C:Cfg)(lo:Nat)(e:Expr)(ev:GV):Prop where
 u:Ev.PXG X C lo e ev
structure akf(X:Cx)(C:Cfg)(lo:Nat)(e:List Expr)(ev:GVs):Prop where
 u:Ev.apn X C lo e ev
section
variable{X:Cx}{C:Cfg}{pos p px:Pos}{x y z:Expr}{a b c:Ev}{t u:gR}{i:Nat}{n:Str}{e:Expr}{es:List Expr}{ea:d7}{e2:Expr}
theorem aj(ha:SX X C e a)(hr:U3 X C es r)(hs:starEach (e::es) X.env=(false,eval e X.env)::starEach es X.env:=by rfl):U3 X C (e::es) (aa a r):=⟨Ev.V3 ha.u hr.u hs⟩
theorem aV(i)(hN:X.N[i]? = some n:=by rfl)(hv:Hg X.env.scope n:=by first|exact Or.inl rfl|exact Or.inr (Or.inl rfl)|exact Or.inr (Or.inr rfl))(hd:qx n:=by decide)(hcd:Bt n:=by decide):SX X C (.Name n pos) (aJ i):=⟨al7 i hN hv hd hcd⟩
theorem bG(i)(hr:U3 X C es r)(hN:X.N[i]? = some n:=by rfl)(hv:Hg X.env.scope n:=by first|exact Or.inl rfl|exact Or.inr (Or.inl rfl)|exact Or.inr (Or.inr rfl))(hd:qx n:=by decide)(hcd:Bt n:=by decide)(hs:starEach (.Name n pos::es) X.env=(false,eval (.Name n pos) X.env)::starEach es X.env:=by rfl):U3 X C (.Name n pos::es) (aa (aJ i) r):=aj (aV i hN hv hd hcd) hr hs
theorem ak  : U3 X C [] ao:=⟨Ev.aaH ⟩
theorem aQ(h:SX X C e ev):SXB X C e ev:=⟨Ev.PX.b h.u⟩
theorem aH{i:Int}:SX X C (.Constant (.int i) j pos) (iB (.int i)):=⟨Ev.amc ⟩
theorem au{st:Stmt}{rest:List Stmt}{a b:cB}(h1:SXS X C st a)(h2:dG X C rest b):dG X C (st::rest) (aL a b):=⟨(aeF h1.u h2.u).imp λD σ H h=>by
 obtain⟨Pr,F,env,r,f⟩:=h;refine⟨Pr,F,env,r,?_⟩;unfold aL at f;cases e:a env with
 | nx e1=>rw[e] at f;exact λσ' H' F' r' s'=>⟨Pr,F',e1,r',f.mono s'⟩
 | rt o d e1=>rw[e] at f;cases o<;>exact f
 | bk e1=>rw[e] at f;exact f
 | ct e1=>rw[e] at f;exact f
 | stuck=>rw[e] at f;exact f⟩
theorem aC{st:Stmt}{a:cB}(h1:SXS X C st a):dG X C [st] a:=⟨ail h1.u⟩
theorem aK{lo:Nat}(i)(hnd:qJ X.N=true:=by rfl)(hlo:Nat.ble lo i=true:=by rfl)(hfx:C.fx i=none:=by rfl)(hi:X.N[i]? = some n:=by rfl)(hx:Loc X.env.scope n:=by first|exact Or.inl rfl|exact Or.inr rfl)(hf:X.fn n=true\/X.env.scope.names.lookup n=some .local:=by first|exact .inl rfl|exact .inr rfl):SXG X C lo (.Name n pos) (aq i):=⟨aeA (lA hnd) hi hx (Qw5 hlo) hfx hf⟩
theorem aR(z){x:Str}{j:Nat}(hz:x=strOf z:=by decide +kernel)(hl:z.length<=sizeLine:=by decide):SX X C (.Constant (.str x) j pos) (iB (.str z)):=⟨by
 subst hz;refine amo.imp λσ H Q h=>?_;obtain⟨Pr,F,env,env',d,r,e,q⟩:=h;cases e;exact q _ _ F r (aX.refl F) ⟨rfl,hl⟩⟩
theorem cH(i)(hN:X.N[i]? = some n:=by rfl)(hv:Hg X.env.scope n:=by first|exact Or.inl rfl|exact Or.inr (Or.inl rfl)|exact Or.inr (Or.inr rfl))(hd:qx n:=by decide)(hcd:Bt n:=by decide):SXB X C (.Name n pos) (bI i):=⟨aif i hN hv hd hcd⟩
theorem cJ{pos':Pos}(i)(he:SX X C e a)(hnd:qJ X.N=true:=by rfl)(hfx:C.fx i=none:=by rfl)(hi:X.N[i]? = some n:=by rfl)(hx:Loc X.env.scope n:=by first|exact Or.inl rfl|exact Or.inr rfl)(hs:swapsWith e (some (.Name n pos')) pos.line X.env=pure false:=by rfl)(hf:X.fn n=true\/X.env.scope.names.lookup n=some .local:=by first|exact .inl rfl|exact .inr rfl):SXS X C (.Assign [.Name n pos'] e pos) (bh a (aq i)):=⟨ah7 (lA hnd) hi hx hfx he.u hs hf⟩
theorem aM(h:SX X C e a):SXS X C (.Return (some e) pos) (bu a):=⟨(aeI h.u).imp λD σ H hq=>by
 obtain⟨Pr,F,env,r,f⟩:=hq;obtain⟨d,aO,e1,f1⟩:=jq f;exact⟨Pr,F,env,aO,d,r,e1,λv H1 F1 r1 s1 p1=>f1 v σ H1 F1 r1 s1 p1⟩⟩
theorem aZ(h:SXB X C e a)(hs:sEn e X.env:=by rfl):J2 X C [e] (aa a ao):=⟨(jj h.u xu hs).imp λσ H Q hq=>by
 obtain⟨Pr,F,env,env',ds,rl,e,q⟩:=hq;obtain⟨d1,aO,e1,e2⟩:=bj e;cases e2;exact⟨Pr,F,env,env',d1,rl,e1,λv H1 F1 r1 s1 p1=>q _ H1 F1 r1 s1 ⟨v,[],rfl,p1,rfl⟩⟩⟩
theorem bC(O:Own X.prog X.w X.K X.mg X.base n k ps (jg X.K m g))(G:Good X C)(hr:jr k' X.A)(ha:U3 X C (e::es) ea)(hn:∀env ds env',ea env = .ok ds env'->ds.length=m)(hk:Nat.ble k k'=true:=by rfl)(hg:Gl X n:=by rfl)(hdb:qx n:=by decide)(he:starEach (e::es) X.env=(false,eval e X.env)::starEach es X.env:=by rfl)(hpl:(backTo pos (starEach es X.env)).any (·.1)=false:=by rfl):SX X C (.Call (.Name n p) (e::es) [] pos) (az g ea):=⟨by
 obtain⟨f,fd,h1,h2,h3,h4⟩:=O;rw[G.K] at h1;have h1':pP X.prog X.w X.K X.mg X.base yR k f fd ps (jg C.K m g):=by rw[G.K];exact h1
 exact al8 h1' (hr.mono<|Qw5 hk) hg h2 h3 h4 ha.u hn hdb he hpl⟩
theorem aB(h:U3 X C es r):SX X C (.Tuple es k pos) (aF r):=⟨(aeO h.u).imp λσ H Q hq=>by
 obtain⟨Pr,F,env,env',d,rl,e,q⟩:=hq;obtain⟨ds,aO,e1,e2⟩:=bj e;split at e2
 ·rename_i hz;cases e2;refine⟨Pr,F,env,env',ds,rl,e1,λvs H1 F1 r1 s1 p1=>⟨by rw[p1.length];exact hz,λp hp=>?_⟩⟩;obtain⟨r2,s2⟩:=r1.new hp;exact q _ _ _ r2 (s1.trans s2) ⟨hz,p,vs,rfl,qe.of bz,cD.mono s2 _ _ p1⟩
 ·cases e2⟩
theorem aD{lo:Nat}(h1:SXG X C lo e g)(h2:akf X C lo es gs)(hs:(assignEach (e::es) X.env).map (·.2)=assign e X.env::(assignEach es X.env).map (·.2):=by rfl):akf X C lo (e::es) (aN g gs):=⟨(aeN h1.u h2.u hs).imp λv σ H Q h=>by
 obtain⟨Pr,F,env,env',ds,r,p,e,q⟩:=h;cases ds with
 | nil=>cases e
 | cons d ds=>
  obtain⟨u,w,rfl,p1,p2⟩:=p;obtain⟨aO,e1,e2⟩:=Qxy.mp e;refine⟨u,w,rfl,Pr,F,env,aO,d,r,p1,e1,λσ1 H1 F1 r1 s1 t1=>?_⟩;exact⟨Pr,F1,aO,env',ds,r1,cD.mono s1 _ _ p2,e2,λσ2 H2 F2 r2 s2 t2=>q σ2 H2 F2 r2 (s1.trans s2)<|t2.trans t1⟩⟩
theorem bF(h:SXN X C e ev):SX X C e ev:=⟨Ev.PXN.px h.u⟩
theorem cL(i)(G:Good X C)(hb:SXB X C y b)(hN:X.N[i]? = some n:=by rfl)(hv:Hg X.env.scope n:=by first|exact Or.inl rfl|exact Or.inr (Or.inl rfl)|exact Or.inr (Or.inr rfl))(hs:Dg y:=by intro _ _;rfl)(hd:qx n:=by decide)(hcd:Bt n:=by decide):SX X C (.Subscript (.Name n px) y pos) (aA cZ i b):=⟨amb i G.K hN hv hb.u hs hd hcd⟩
theorem lC{v:Str}{pv:Pos}(i)(O:Own X.prog X.w X.K X.mg X.base n k ps (Ds X.K m g))(G:Good X C)(hr:jr k' X.A)(ha:U3 X C es ea)(hn:∀env ds env',ea env = .ok ds env'->ds.length+1=m)(hk:Nat.ble k k'=true:=by rfl)(hN:X.N[i]? = some v:=by rfl)(hv:Hg X.env.scope v:=by first|exact Or.inl rfl|exact Or.inr (Or.inl rfl)|exact Or.inr (Or.inr rfl))(hg:Gl X n:=by rfl)(hdb:qx n:=by decide)(he:starEach (.Name v pv::es) X.env=(false,eval (.Name v pv) X.env)::starEach es X.env:=by rfl)(hpl:(backTo pos (starEach es X.env)).any (·.1)=false:=by rfl)(hd:qx v:=by decide)(hcd:Bt v:=by decide):SX X C (.Call (.Name n p) (.Name v pv::es) [] pos) (iW g i ea):=⟨by
 obtain⟨f,fd,h1,h2,h3,h4⟩:=O;rw[G.K] at h1;have h1':pP X.prog X.w X.K X.mg X.base yR k f fd ps (Ds C.K m g):=by rw[G.K];exact h1
 exact aqw hN hv h1' (hr.mono<|Qw5 hk) hg h2 h3 h4 ha.u hn hdb he hpl hd hcd⟩
theorem di(o:Bi X C op g)(ha:SX X C x a)(hb:SXB X C y b):SX X C (.BinOp x op y pos) (aP g a b):=⟨let ⟨_,h1,h2⟩:=o.ex;aqu h1 h2 ha.u hb.u⟩
theorem aU(ha:SX X C e a)(hr:SXL X C es r)(hs:starEach (e::es) X.env=(false,eval e X.env)::starEach es X.env:=by rfl):SXL X C (e::es) (aa a r):=⟨⟨Ev.V3 ha.u hr.u.go hs⟩⟩
theorem d8(i)(o:Bi X C op g)(hb:SXB X C y b)(hN:X.N[i]? = some n:=by rfl)(hv:Hg X.env.scope n:=by first|exact Or.inl rfl|exact Or.inr (Or.inl rfl)|exact Or.inr (Or.inr rfl))(hd:qx n:=by decide)(hcd:Bt n:=by decide):SX X C (.BinOp (.Name n px) op y pos) (aA g i b):=⟨let ⟨_,h1,h2⟩:=o.ex;al9 i hN hv h1 h2 hb.u hd hcd⟩
theorem bW{c:Expr}{a b:List Stmt}{ea eb:cB}(hc:SXT X C c t)(ha:dG X C a ea)(hb:dG X C b eb):SXS X C (.If c a b pos) (dH t ea eb):=⟨(aqy hc.u ha.u hb.u).imp λD σ H h=>by
 obtain⟨Pr,F,env,r,f⟩:=h;obtain⟨k,aO,e1,f1⟩:=jq f;refine⟨Pr,F,env,aO,k,r,e1,λH1 F1 r1 s1=>?_⟩;split at f1
 ·rename_i hk;rw[if_pos hk];exact⟨Pr,F1,aO,r1,f1.mono s1⟩
 ·rename_i hk;rw[if_neg hk];exact⟨Pr,F1,aO,r1,f1.mono s1⟩⟩
theorem cI(h:U3 X C es r):SXN X C (.List es pos) (cC r):=⟨Ev.aaG h.u⟩
theorem bH  : dG X C [] bN:=⟨Ev.aeu ⟩
theorem fj(G:Good X C)(h:SX X C x a):SXI X C tg x (gW a):=⟨aid G.K h.u⟩
theorem dJ{b:Bool}:SX X C (.Constant (.bool b) j pos) (iB (.bl b)):=⟨Ev.aqx ⟩
theorem jw{elt tg iter:Expr}(N')(lo)(ok:mV X scope N')(G:Good X C)(hi:SXI X C tg iter it)(bg:∀X',ji X scope N' X'->SXG X' C lo tg g)(bc:∀X',ji X scope N' X'->agP X' C ifs cc)(be:∀X',ji X scope N' X'->SX X' C elt ee)(hs:∀x,foldedSetIterable iter X.env x=pure x:=by intro _;rfl):SXN X C (.ListComp elt [⟨tg,iter,ifs,0⟩] scope pos) (gr lo N'.length it g cc ee):=⟨Ev.aui N' lo ok G hi.u (λX1 h1=>(bg X1 h1).u) (λX1 h1=>(bc X1 h1).u) (λX1 h1=>(be X1 h1).u) hs⟩
theorem fQ(G:Good X C)(hm:X.mg "len" = none)(ha:J2 X C [e] ea)(hg:Gl X "len":=by rfl)(he:sEn e X.env:=by rfl):SX X C (.Call (.Name "len" p) [e] [] pos) (az dM ea):=⟨uG (by rw[<-G.K];exact agC) ao2 hg hm PySem.boot_len ha.u (by decide) (by decide) he rfl⟩
theorem cG(h:SX X C e a)(he:∀whole,isTrue e X.env whole=(do let v <-whole;standAt e.pos;holding [v] (truthy v)):=by intro _;rfl):SXT X C e (eN a):=⟨(ame h.u he).imp λσ H Q hq=>Vv hq⟩
theorem bK{lo:Nat}:akf X C lo [] cQ:=⟨Ev.aez ⟩
theorem dw{lo:Nat}{k:Nat}(G:Good X C)(h:akf X C lo es gs)(hn:(assignEach es X.env).length=m:=by rfl)(hst:(assignEach es X.env).findIdx? (·.1)=none:=by rfl):SXG X C lo (.Tuple es k pos) (cO m gs):=⟨aie G.calm G.K h.u hn hst⟩
theorem cR:agP X C [] cP:=⟨Ev.aey ⟩
theorem oY{tg iter:Expr}(G:Good X C)(hi:SXI X C tg iter it)(hg:SXG X C 0 tg g)(hb:dG X C body bs)(hp:PassesOwn (model X.prog X.w) X.A X.env X.xe:=by exact PassesOwn.never)(hs:∀x,foldedSetIterable iter X.env x=pure x:=by intro _;rfl):SXS X C (.For tg iter body [] pos) (ju it g bs):=⟨ah9 hp G.calm hi.u hg.u hb.u hs⟩
theorem mG(o:Cm X C op g)(ha:SX X C x a)(hb:SXB X C y b)(hm:behindInMarks op y=false:=by rfl):SXT X C (.Compare x [op] [y] pos) (eN (aP g a b)):=⟨let ⟨_,h1,h2⟩:=o.ex;ah6 h1 h2 ha.u hb.u hm⟩
theorem iw{pos':Pos}(i)(he:SXN X C e a)(hnd:qJ X.N=true:=by rfl)(hfx:C.fx i=none:=by rfl)(hi:X.N[i]? = some n:=by rfl)(hx:Loc X.env.scope n:=by first|exact Or.inl rfl|exact Or.inr rfl)(hs:swapsWith e (some (.Name n pos')) pos.line X.env=pure false:=by rfl)(hf:X.fn n=true\/X.env.scope.names.lookup n=some .local:=by first|exact .inl rfl|exact .inr rfl):SXS X C (.Assign [.Name n pos'] e pos) (fD i a):=⟨ah8 (lA hnd) hi hx hfx he.u hs hf⟩
theorem nu(G:Good X C)(hm:X.mg "tuple" = none)(ha:J2 X C [e] ea)(hg:Gl X "tuple":=by rfl)(he:sEn e X.env:=by rfl):SX X C (.Call (.Name "tuple" p) [e] [] pos) (az iz ea):=⟨Ej (by rw[<-G.K];exact Pq) agB hg hm (by rfl) ha.u (by decide) (by decide) he rfl⟩
theorem Hl(G:Good X C)(ha:SX X C x a)(hb:SXB X C y b)(hs:Dg y:=by intro _ _;rfl):SX X C (.Subscript x y pos) (aP cZ a b):=⟨aqv G.K ha.u hb.u hs⟩
theorem iI(i)(o:Cm X C op g)(hb:SXB X C y b)(hN:X.N[i]? = some n:=by rfl)(hv:Hg X.env.scope n:=by first|exact Or.inl rfl|exact Or.inr (Or.inl rfl)|exact Or.inr (Or.inr rfl))(hm:behindInMarks op y=false:=by rfl)(hd:qx n:=by decide)(hcd:Bt n:=by decide):SXT X C (.Compare (.Name n px) [op] [y] pos) (eN (aA g i b)):=⟨by
 obtain⟨r,h1,h2⟩:=o.ex;exact(aaI h1 (lH hN hv hd hcd) hb.u hm).imp λσ H Q h=>CP h2 σ H _<|Vv h⟩
theorem cM(he:SX X C e a)(hg:SXG X C 0 tg g)(hs:swapsWithSole [tg] e pos.line X.env=pure false:=by rfl)(hw:swappedStores [tg] e X.env=pure none:=by rfl)(h1:(assignEach [tg] X.env).map (·.2)=[assign tg X.env]:=by rfl):SXS X C (.Assign [tg] e pos) (bh a g):=⟨(ami he.u hg.u hs hw h1).imp λD σ H h=>ao8 h⟩
theorem cY(h:SX X C e a):SXP X C (some e) (pZ a):=⟨(aiq h.u).imp λσ H Q hq=>by
 obtain⟨Pr,F,env,env',o,r,e,q⟩:=hq;obtain⟨d,aO,e1,e2⟩:=bj e;refine⟨Pr,F,env,aO,d,r,e1,λv H1 F1 r1 s1 p1=>?_⟩;cases d with
 | int i=>cases e2;exact⟨i,p1,q H1 F1 r1 s1⟩
 | _=>cases e2⟩
theorem cV{a:gR}(h:SXT X C x a):SXT X C (.UnaryOp .Not x pos) (eU a):=⟨(amf h.u).imp λσ H Q hq=>by
 obtain⟨Pr,F,env,env',b,rl,e,q⟩:=hq;obtain⟨c,aO,e1,e2⟩:=bj e;cases e2;exact⟨Pr,F,env,env',c,rl,e1,λH1 F1 r1 s1=>q H1 F1 r1 s1⟩⟩
theorem jk{a:gR}(h:SXW X C e a):SXT X C e a:=⟨Ev.PXW.pt h.u⟩
theorem yq{tg:Expr}(hm:X.mg "range" = none)(ha:U3 X C [e] ea)(hl:∀env ds env',ea env = .ok ds env'->ds.length=1)(hg:Gl X "range":=by rfl)(hs:starEach [e] X.env=[(false,eval e X.env)]:=by rfl):SXI X C tg (.Call (.Name "range" p) [e] [] pos) (jy ea):=⟨YX hg hm ha.u hl hs⟩
theorem jB(i)(o:Cm X C op g)(hb:SXB X C y b)(hN:X.N[i]? = some n:=by rfl)(hv:Hg X.env.scope n:=by first|exact Or.inl rfl|exact Or.inr (Or.inl rfl)|exact Or.inr (Or.inr rfl))(hm:behindInMarks op y=false:=by rfl)(hd:qx n:=by decide)(hcd:Bt n:=by decide):SX X C (.Compare (.Name n px) [op] [y] pos) (aA g i b):=⟨by
 obtain⟨r,h1,h2⟩:=o.ex;exact(aaK h1 (lH hN hv hd hcd) hb.u hm).imp<|CP h2⟩
theorem gw:SX X C (.Constant .none j pos) (iB .non):=⟨Ev.ama ⟩
theorem zA(ha:SX X C e a)(hr:J2 X C es r)(hs:starEach (e::es) X.env=(false,eval e X.env)::starEach es X.env:=by rfl):J2 X C (e::es) (aa a r):=⟨(jj ha.u hr.u hs).imp λσ H Q h=>by
  obtain⟨Pr,F,env,env',ds,rl,e,q⟩:=h;obtain⟨d1,aO,e1,e2⟩:=bj e;obtain⟨ds2,fP,e3,e4⟩:=bj e2;cases e4;refine⟨Pr,F,env,aO,d1,rl,e1,λv H1 F1 r1 s1 p1=>?_⟩;refine⟨Pr,F1,aO,env',ds2,r1,e3,λvs H2 F2 r2 s2 p2=>?_⟩;exact q _ H2 F2 r2 (s1.trans s2) ⟨v,vs,rfl,.inl<|Rep.mono s2 d1 v p1,p2⟩⟩
theorem dO(h:SX X C x a):SX X C (.BoolOp op [x] pos) a:=⟨amr h.u⟩
theorem uh{apos cpos:Pos}(i)(G:Good X C)(he:SX X C e a)(hN:X.N[i]? = some n:=by rfl)(hv:Hg X.env.scope n:=by first|exact Or.inl rfl|exact Or.inr (Or.inl rfl)|exact Or.inr (Or.inr rfl))(hs:swapsWith (.Call (.Attribute (.Name n px) "append" apos) [e] [] cpos) none pos.line X.env=pure false:=by rfl) (hfew:((backTo cpos (starEach [e] X.env)).all (λx=>!x.1)&&(backToKw cpos (keywordEach [] X.env)).all (λx=>x.1.isSome)
   && decide ([e].length+([]:List Keyword).length+(if ([]:List Keyword).isEmpty then 0 else 1)<30))=true:=by rfl) (hbase:attributeBase (.Name n px) "append" X.env (eval (.Name n px) X.env)=eval (.Name n px) X.env:=by rfl) (hline:(apos.endLine == cpos.line)=true:=by rfl) (hst:sEn e X.env:=by rfl) (hplain:(backTo cpos (starEach [] X.env)).any (·.1)=false:=by rfl) (hd:qx n:=by decide) (hcd:Bt n:=by decide):SXS X C (.Expr (.Call (.Attribute (.Name n px) "append" apos) [e] [] cpos) pos) (iK i a):=⟨aia hN hv he.u G.K hs hfew hbase hline hst hplain hd hcd⟩
theorem dD  : SXP X C none eZ:=⟨Ev.aew ⟩
theorem cT{rest:List Expr}(ha:SX X C x a)(hb:SX X C (.BoolOp .And (y::rest) pos) b):SX X C (.BoolOp .And (x::y::rest) pos) (gf a b):=⟨(amv ha.u hb.u).imp λσ H Q hq=>by
  obtain⟨Pr,F,env,env',k,rl,e,q⟩:=hq;obtain⟨c,aO,e1,e2⟩:=bj e;refine⟨Pr,F,env,aO,c,rl,e1,λv H1 F1 r1 s1 p1=>?_⟩;cases c with
  | bl z=>
   refine⟨z,p1,?_⟩;cases z with
   | true=>exact arD ⟨Pr,F1,aO,env',k,r1,e2,λv2 H2 F2 r2 s2 p2=>q v2 H2 F2 r2 (s1.trans s2) p2⟩
   | false=>cases e2;exact arE<|q _ H1 F1 r1 s1 rfl
  | _=>cases e2⟩
theorem iM{rest:List Expr}{a b:gR}(ha:SXT X C x a)(hb:SXW X C (.BoolOp .Or (y::rest) pos) b):SXW X C (.BoolOp .Or (x::y::rest) pos) (lF a b):=⟨(pw_or ha.u hb.u).imp λσ H Q hq=>by
  obtain⟨Pr,F,env,env',k,rl,e,q⟩:=hq;obtain⟨c,aO,e1,e2⟩:=bj e;refine⟨Pr,F,env,aO,c,rl,e1,λH1 F1 r1 s1=>?_⟩;split at e2
  ·grind
  ·rename_i hc;rw[if_neg hc];exact⟨Pr,F1,aO,env',k,r1,e2,λH2 F2 r2 s2=>q H2 F2 r2<|s1.trans s2⟩⟩
theorem qz(G:Good X C)(hm:X.mg "all" = none)(ha:J2 X C [e] ea)(hg:Gl X "all":=by rfl)(he:sEn e X.env:=by rfl):SX X C (.Call (.Name "all" p) [e] [] pos) (az wM ea):=⟨uG (by rw[<-G.K];exact ac2 G.calm) ao3 hg hm (by rfl) ha.u (by decide) (by decide) he rfl⟩
theorem jl{a:gR}(h:SXT X C x a):SXW X C (.BoolOp .Or [x] pos) a:=⟨pw_or1 h.u⟩
theorem gU{p q pos:Pos}(hg:Gl X "isinstance")(hm:X.mg "isinstance" = none)(hgT:Gl X xT)(hmT:X.mg xT=none)(hvT:bootBuiltins xT=some (.type T))(hk:∀d,PySem.W.kitOne X.K (.type (tyD d)) (.type T)=some (sY d T))(hK:X.K=C.K)(ha:SX X C e a)(hn:xT ≠ "__name__":=by decide)(hd:qx xT:=by decide)(he:starEach [e,.Name xT q] X.env=(false,eval e X.env)::starEach [.Name xT q] X.env:=by rfl):SX X C (.Call (.Name "isinstance" p) [e,.Name xT q] [] pos) (gH (f9 T) a):=⟨by
 refine(Lk (agD hk) hg hm boot_isinstance (jj ha.u (jj (aiB (v:=.ty T) hgT hmT hvT rfl hn hd) xu) he) (by decide) (by decide) he rfl).imp λσ H Q h=>?_;obtain⟨Pr,F,env,env',d,rl,e1,qq⟩:=h;obtain⟨d0,aO,e2,e3⟩:=bj e1;obtain⟨e4,rfl⟩:=eY e3;obtain⟨nc,rfl⟩:=ajo e4;refine⟨Pr,F,env,env',d0,rl,e2,λv H1 F1 r1 s1 p1=>⟨d0,v,rfl,nc,?_,qq _ H1 F1 r1 s1 rfl⟩⟩;rw[hK];exact Rep.mono r1.fr d0 v p1⟩
theorem yo{c:Expr}(h:SXT X C c t):agP X C [c] t:=⟨ait h.u⟩
theorem afh(O:Own X.prog X.w X.K X.mg X.base n k ps (spN X.K m g))(G:Good X C)(hr:jr k' X.A)(ha:U3 X C (e::es) ea)(hn:∀env ds env',ea env = .ok ds env'->ds.length=m)(hk:Nat.ble k k'=true:=by rfl)(hg:Gl X n:=by rfl)(hdb:qx n:=by decide)(he:starEach (e::es) X.env=(false,eval e X.env)::starEach es X.env:=by rfl)(hpl:(backTo pos (starEach es X.env)).any (·.1)=false:=by rfl):SXN X C (.Call (.Name n p) (e::es) [] pos) (az g ea):=⟨by
 obtain⟨f,fd,h1,h2,h3,h4⟩:=O;rw[G.K] at h1;have h1':pP X.prog X.w X.K X.mg X.base yR k f fd ps (spN C.K m g):=by rw[G.K];exact h1
 exact aib h1' (hr.mono<|Qw5 hk) hg h2 h3 h4 ha.u hn hdb he hpl⟩
theorem Bj{rest:List Expr}{a b:gR}(ha:SXT X C x a)(hb:SXW X C (.BoolOp .And (y::rest) pos) b):SXW X C (.BoolOp .And (x::y::rest) pos) (gF a b):=⟨(pw_and ha.u hb.u).imp λσ H Q hq=>by
  obtain⟨Pr,F,env,env',k,rl,e,q⟩:=hq;obtain⟨c,aO,e1,e2⟩:=bj e;refine⟨Pr,F,env,aO,c,rl,e1,λH1 F1 r1 s1=>?_⟩;split at e2
  ·rename_i hc;rw[if_pos hc];exact⟨Pr,F1,aO,env',k,r1,e2,λH2 F2 r2 s2=>q H2 F2 r2<|s1.trans s2⟩
  grind⟩
theorem ig{x:Str}{u:Value}(d)(hg:Gl X x)(hm:X.mg x=some u)(rv:RelV v u)(hr:∀F,Rep C.K F d v)(hd:qx x:=by decide):SX X C (.Name x pos) (iB d):=⟨(TY hg hm rv hd).imp λσ H Q h=>by
  obtain⟨Pr,F,env,env',d,r,e,q⟩:=h;cases e;exact q _ _ F r (aX.refl F)<|hr F⟩
theorem J5{apos cpos:Pos}(G:Good X C)(ho:SX X C o a)(he:SXB X C e b)(hbase:attributeBase o "join" X.env (eval o X.env)=eval o X.env:=by rfl)(hs:sEn e X.env:=by rfl) (hfew:((backTo cpos (starEach [e] X.env)).all (λx=>!x.1)&&(backToKw cpos (keywordEach [] X.env)).all (λx=>x.1.isSome)
   && decide ([e].length+([]:List Keyword).length+(if ([]:List Keyword).isEmpty then 0 else 1)<30))=true:=by rfl) (hline:(apos.endLine == cpos.line)=true:=by rfl) (hplain:(backTo cpos (starEach [] X.env)).any (·.1)=false:=by rfl):SX X C (.Call (.Attribute o "join" apos) [e] [] cpos) (aP sZ a b):=⟨aii G.K ho.u he.u hbase hs hfew hline hplain⟩
theorem ady{lo hi:Option Expr}(G:Good X C)(ha:SX X C x a)(hl:SXP X C lo el)(hh:SXP X C hi eh):SX X C (.Subscript x (.Slice lo hi none p2) pos) (G3 a el eh):=⟨aqt G.K ha.u hl.u hh.u⟩
theorem Eh{a:gR}(h:SXT X C x a):SXW X C (.BoolOp .And [x] pos) a:=⟨pw_and1 h.u⟩
theorem Kl(ha:SX X C x a):SX X C (.UnaryOp .USub x pos) (gH vI a):=⟨aqs adN aly ha.u⟩
theorem tX(o:Cm X C op g)(ha:SX X C x a)(hb:SXB X C y b)(hm:behindInMarks op y=false:=by rfl):SX X C (.Compare x [op] [y] pos) (aP g a b):=⟨let ⟨_,h1,h2⟩:=o.ex;amd h1 h2 ha.u hb.u hm⟩
theorem lK  : SXL X C [] ao:=⟨Ev.aic ⟩
theorem pR{a:d7}(h:SXL X C es a):SXN X C (.List es pos) (cC a):=⟨Ev.aaG h.u.go⟩
theorem U9(i)(G:Good X C)(hb:SXB X C y b)(hN:X.N[i]? = some n:=by rfl)(hv:Hg X.env.scope n:=by first|exact Or.inl rfl|exact Or.inr (Or.inl rfl)|exact Or.inr (Or.inr rfl))(hs:agU y:=by intro _ _;rfl)(hd:qx n:=by decide)(hcd:Bt n:=by decide):SX X C (.Subscript (.Name n px) y pos) (aA m8 i b):=⟨aeB i G.u1 hN hv hb.u hs hd hcd⟩
theorem adz(ha:SX X C x a):SX X C (.Subscript x (.Slice none none (some (.UnaryOp .USub (.Constant (.int 1) k p4) p3)) p2) pos) (wk a):=⟨by
 refine(amq ha.u<|akN adN<|aeQ).imp λσ H Q hq=>?_;obtain⟨Pr,F,env,env',d,r,e,q⟩:=hq;obtain⟨z,aO,e1,e2⟩:=bj e;obtain⟨e3,rfl⟩:=eY e2;cases z with
 | str z=>
  cases e3;refine⟨Pr,F,env,env',.str z,r,e1,λv H1 F1 r1 s1 p1=>?_⟩;obtain⟨rfl,hz⟩:=p1;refine⟨1,rfl,strOf z,rfl,by rw[uY];exact hz,rfl,q _ H1 F1 r1 s1 ⟨by simp[strOf],by rw[List.length_reverse];exact hz⟩⟩
 | _=>cases e3⟩
theorem als(G:Good X C)(hm:X.mg "max" = none)(ha:J2 X C [e,e2] ea)(hg:Gl X "max":=by rfl)(he:starEach [e,e2] X.env=(false,eval e X.env)::starEach [e2] X.env:=by rfl)(hpl:(backTo pos (starEach [e2] X.env)).any (·.1)=false:=by rfl):SX X C (.Call (.Name "max" p) [e,e2] [] pos) (az acI ea):=⟨uG (acZ G.calm) ao1 hg hm (by rfl) ha.u (by decide) (by decide) he hpl⟩
theorem Ei  : SXN X C (.Dict [] [] pos) G6:=⟨Ev.aex ⟩
theorem alr(G:Good X C)(hm:X.mg "min" = none)(ha:J2 X C [e,e2] ea)(hg:Gl X "min":=by rfl)(he:starEach [e,e2] X.env=(false,eval e X.env)::starEach [e2] X.env:=by rfl)(hpl:(backTo pos (starEach [e2] X.env)).any (·.1)=false:=by rfl):SX X C (.Call (.Name "min" p) [e,e2] [] pos) (az acH ea):=⟨uG (acY G.calm) ao0 hg hm (by rfl) ha.u (by decide) (by decide) he hpl⟩
theorem PL(G:Good X C)(hm:X.mg "sorted" = none)(ha:J2 X C [e] ea)(hg:Gl X "sorted":=by rfl)(he:sEn e X.env:=by rfl):SX X C (.Call (.Name "sorted" p) [e] [] pos) (az nZ ea):=⟨abP G.K G.calm hg hm ha.u he rfl⟩
theorem YZ{rest:List Expr}(ha:SX X C x a)(hb:SX X C (.BoolOp .Or (y::rest) pos) b):SX X C (.BoolOp .Or (x::y::rest) pos) (acP a b):=⟨(aqD ha.u hb.u).imp λσ H Q hq=>by
  obtain⟨Pr,F,env,env',k,rl,e,q⟩:=hq;obtain⟨c,aO,e1,e2⟩:=bj e;refine⟨Pr,F,env,aO,c,rl,e1,λv H1 F1 r1 s1 p1=>?_⟩;cases c with
  | bl z=>
   refine⟨z,p1,?_⟩;cases z with
   | true=>cases e2;exact arD<|q _ H1 F1 r1 s1 rfl
   | false=>exact arE ⟨Pr,F1,aO,env',k,r1,e2,λv2 H2 F2 r2 s2 p2=>q v2 H2 F2 r2 (s1.trans s2) p2⟩
  | _=>cases e2⟩
theorem ajd{tg e2 e3:Expr}(hm:X.mg "range" = none)(ha:U3 X C [e,e2,e3] ea)(hl:∀env ds env',ea env = .ok ds env'->ds.length=3)(hg:Gl X "range":=by rfl)(hs:starEach [e,e2,e3] X.env=[(false,eval e X.env),(false,eval e2 X.env),(false,eval e3 X.env)]:=by rfl)(hs2:starEach [e2,e3] X.env=[(false,eval e2 X.env),(false,eval e3 X.env)]:=by rfl):SXI X C tg (.Call (.Name "range" p) [e,e2,e3] [] pos) (jy ea):=⟨YW hg hm ha.u hl hs hs2⟩
theorem sV(G:Good X C)(hm:X.mg "list" = none)(ha:J2 X C [e] ea)(hg:Gl X "list":=by rfl)(he:sEn e X.env:=by rfl):SX X C (.Call (.Name "list" p) [e] [] pos) (az jN ea):=⟨Ej (by rw[<-G.K];exact Z8 G.calm) ajU hg hm (by rfl) ha.u (by decide) (by decide) he rfl⟩
theorem ap4{elt tg iter:Expr}(N'){spos py:Pos}(lo)(i)(ok:mV X scope N')(G:Good X C)(hi:SXI X C tg iter it)(bg:∀X',ji X scope N' X'->SXG X' C lo tg g)(bc:∀X',ji X scope N' X'->agP X' C ifs cc)(be:∀X',ji X scope N' X'->SX X' C elt ee)(hnd:qJ X.N=true:=by rfl)(hfx:C.fx i=none:=by rfl)(hy:X.N[i]? = some n:=by rfl)(hx:Loc X.env.scope n:=by first|exact Or.inl rfl|exact Or.inr rfl)(hsw:swapsWith (.ListComp elt [⟨tg,iter,ifs,0⟩] scope pos) (some (.Name n py)) spos.line X.env=pure true:=by rfl)(hf:X.fn n=true\/X.env.scope.names.lookup n=some .local:=by first|exact .inl rfl|exact .inr rfl)(hs:∀x,foldedSetIterable iter X.env x=pure x:=by intro _;rfl):SXS X C (.Assign [.Name n py] (.ListComp elt [⟨tg,iter,ifs,0⟩] scope pos) spos) (fD i (gr lo N'.length it g cc ee)):=⟨Ev.atQ N' lo i ok G hi.u (λX1 h1=>(bg X1 h1).u) (λX1 h1=>(bc X1 h1).u) (λX1 h1=>(be X1 h1).u) hnd hfx hy hx hsw hf hs⟩
theorem abj(G:Good X C)(hm:X.mg "divmod" = none)(ha:J2 X C [e,e2] ea)(hg:Gl X "divmod":=by rfl)(he:starEach [e,e2] X.env=(false,eval e X.env)::starEach [e2] X.env:=by rfl)(hpl:(backTo pos (starEach [e2] X.env)).any (·.1)=false:=by rfl):SX X C (.Call (.Name "divmod" p) [e,e2] [] pos) (az Cu ea):=⟨uG Xj acX hg hm (by rfl) ha.u (by decide) (by decide) he hpl⟩
theorem V2(h:SXN X C e a):SXS X C (.Return (some e) pos) (Bc a):=⟨(aeI h.u).imp λD σ H hq=>by
 obtain⟨Pr,F,env,r,f⟩:=hq;obtain⟨d,aO,e1,f1⟩:=jq f;exact⟨Pr,F,env,aO,d,r,e1,λv H1 F1 r1 s1 p1=>f1 v σ H1 F1 r1 s1 p1⟩⟩
theorem arS{lo:Nat}(i)(h:SX X C ix ev)(hN:X.N[i]? = some n:=by rfl)(hv:Hg X.env.scope n:=by first|exact Or.inl rfl|exact Or.inr (Or.inl rfl)|exact Or.inr (Or.inr rfl)) (ha:∀v,assign (.Subscript (.Name n px) ix pos) X.env v=(do
   let ov <-holding [v] (eval (.Name n px) X.env)
   let iv <-holding [v,ov] (eval ix X.env)
   standAt pos
   holding [v,ov,iv] (setItem ov iv v)
   release [v,ov,iv] []):=by intro _;rfl) (hd:qx n:=by decide) (hcd:Bt n:=by decide):SXG X C lo (.Subscript (.Name n px) ix pos) (ajh i ev):=⟨al6 hN hv h.u ha hd hcd⟩
theorem ahj(G:Good X C)(hm:X.mg "dict" = none)(ha:J2 X C [e] ea)(hg:Gl X "dict":=by rfl)(he:sEn e X.env:=by rfl):SX X C (.Call (.Name "dict" p) [e] [] pos) (az yG ea):=⟨Ej (by rw[<-G.K];exact ac1 G.calm) ajV hg hm (by rfl) ha.u (by decide) (by decide) he rfl⟩
theorem ahW{pos':Pos}(i)(G:Good X C)(hk:SX X C k ek)(he:SX X C e a)(hN:X.N[i]? = some n:=by rfl)(hv:Hg X.env.scope n:=by first|exact Or.inl rfl|exact Or.inr (Or.inl rfl)|exact Or.inr (Or.inr rfl))(hs:swapsWith e (some (.Subscript (.Name n px) k pos')) pos.line X.env=pure false:=by rfl)(hd:qx n:=by decide)(hcd:Bt n:=by decide):SXS X C (.Assign [.Subscript (.Name n px) k pos'] e pos) (wU i ek a):=⟨aev G.u1 hN hv hk.u he.u hs hd hcd⟩
theorem qL(ha:SX X C x a)(hb:SXB X C y b):SXN X C (.BinOp x .Add y pos) (aP uw a b):=⟨(aeP ae2 ha.u hb.u).imp λσ H Q hq=>by
 obtain⟨Pr,F,env,env',d,rl,e,q⟩:=hq;obtain⟨u,aO,e1,e2⟩:=bj e;obtain⟨v,fP,e3,e4⟩:=bj e2;obtain⟨e5,rfl⟩:=eY e4;unfold uw at e5;split at e5
 ·rename_i l1 l2;split at e5
  ·rename_i hz;cases e5;refine⟨Pr,F,env,aO,_,rl,e1,λvx H1 F1 r1 s1 p1=>⟨Pr,F1,aO,env',_,r1,e3,λvy H2 F2 r2 s2 p2=>?_⟩⟩;obtain⟨z1,a1,vs,rfl,h1,h2⟩:=p1;obtain⟨z2,a2,ws,rfl,h3,h4⟩:=p2.lst r2.fr;refine⟨a1,a2,vs,ws,rfl,rfl,r2.fr _ _<|s2 _ _ h1,h3,by rw[h2.length,h4.length];exact hz,λp hp=>?_⟩;exact q _ _ F2 (r2.fresh hp) (s1.trans s2)<|New.of r2 hp ⟨by simp_all,vs++ws,bz,(cD.mono s2 _ _ h2).append h4⟩
  ·cases e5
 ·cases e5⟩
theorem aje{elts:List Expr}{k:Nat}{tp p:Pos}(hm:X.mg "enumerate" = none)(ha:U3 X C [e] ea)(hg:Gl X "enumerate":=by rfl)(hs:starEach [e] X.env=[(false,eval e X.env)]:=by rfl):SXI X C (.Tuple elts k tp) (.Call (.Name "enumerate" p) [e] [] pos) (Z1 ea):=⟨(aiv hg hm ha.u hs).imp λσ H R hq=>by
  obtain⟨Pr,F,env,env',ds,r,e,q⟩:=hq;obtain⟨as,aO,e1,e2⟩:=bj e;refine⟨Pr,F,env,aO,as,r,e1,λvs H1 F1 r1 s1 p1=>?_⟩;split at e2
  ·rename_i x;cases e2;obtain⟨v,w,rfl,⟨rfl,hz⟩,p2⟩:=p1;cases p2;refine⟨strOf x,rfl,q _ H1 F1 r1 s1 λi H2 s2=>⟨λ_ ei=>?_,λd hd=>?_⟩⟩
   ·show i=x.toArray.size;rw[ei];simp[yJ]
   ·unfold yJ at hd;rw[Qx5] at hd;obtain⟨⟨c,j⟩,hc,rfl⟩:=Qwy.mp hd;rw[List.getElem?_zipIdx] at hc;obtain⟨c',hc',h2⟩:=Qwy.mp hc;cases h2;refine⟨?_,λy H3 hy=>.inr ?_⟩
    ·show i<x.toArray.size;have:=(Qq9.mp hc').1
     simpa using this
    ·obtain⟨p,c2,h3,h4,rfl,rfl⟩:=hy;have h5:x[i]? = some c2:=by simpa[strOf] using h3
     rw[hc'] at h5;cases h5;exact⟨p,_,_,h4,rfl,rfl,rfl,by show 2<=sizeLine;decide,_,_,rfl,by simp[Rep],_,_,rfl,⟨rfl,by show 1<=sizeLine;decide⟩,rfl⟩
  ·cases e2⟩
theorem jA{lo hi:Option Expr}(G:Good X C)(ha:SX X C x a)(hl:SXP X C lo el)(hh:SXP X C hi eh):SX X C (.Subscript x (.Slice lo hi none p2) pos) (gD a el eh):=⟨by
 have h:=V6 (pos:=pos) (p2:=p2) (SlR.or (SlR.or aaC Ys)<|SlR.or (SlR.or Ys ad1) alR) ha.u hl.u hh.u;rw[G.K] at h;refine h.imp λσ H Q hq=>?_;obtain⟨Pr,F,env,env',d,r,e,q⟩:=hq;obtain⟨x,aO,e1,e2⟩:=bj e;obtain⟨l,fP,e3,e4⟩:=bj e2;obtain⟨u,JX,e5,e6⟩:=bj e4;obtain⟨e7,rfl⟩:=eY e6;refine⟨Pr,F,env,aO,x,r,e1,λv H1 F1 r1 s1 p1=>⟨Pr,F1,aO,fP,l,r1,e3,λH2 F2 r2 s2=>⟨Pr,F2,fP,env',u,r2,e5,λH3 F3 r3 s3=>?_⟩⟩⟩;have p3:=Rep.mono (s2.trans s3) _ _ p1;have q3:=λv H' F' r' s' p'=>q v H' F' r' (((s1.trans s2).trans s3).trans s') p';cases x with
 | str z=>
  cases e7;obtain⟨rfl,hz⟩:=p1;exact .inr<|.inr ⟨z,rfl,hz,q3 _ H3 F3 r3 (aX.refl _) ⟨rfl,Qqy (ags _ _ _) hz⟩⟩
 | tup xs=>
  exact .inr<|.inl<|alS r3 p3 (by rw[W0];exact e7) q3
 | lst xs=>exact .inl<|ad2 r3 (.inl p3) e7 q3
 | arr xs=>exact .inl<|ad2 r3 (.inl p3) e7 q3
 | _=>cases e7⟩
theorem afQ{elts:List Expr}{k:Nat}{tp p:Pos}(G:Good X C)(hm:X.mg "zip" = none)(ha:U3 X C [e,e2] ea)(hg:Gl X "zip":=by rfl)(hs:starEach [e,e2] X.env=(false,eval e X.env)::starEach [e2] X.env:=by rfl)(hs2:starEach [e2] X.env=[(false,eval e2 X.env)]:=by rfl):SXI X C (.Tuple elts k tp) (.Call (.Name "zip" p) [e,e2] [] pos) (W9 ea):=⟨by
 have h:=amk (elts:=elts) (k:=k) (tp:=tp) (p:=p) (pos:=pos) hg hm ha.u hs hs2;rw[G.K] at h;refine h.imp λσ H R hq=>?_;obtain⟨Pr,F,env,env',ds,r,e,q⟩:=hq;obtain⟨as,aO,e1,e2⟩:=bj e;refine⟨Pr,F,env,aO,as,r,e1,λvs H1 F1 r1 s1 p1=>?_⟩;split at e2
 ·rename_i xs ys;cases e2;obtain⟨v,w,rfl,p2,v2,w2,rfl,p3,p4⟩:=p1;cases p4;obtain⟨z1,a1,us,rfl,h1,h2⟩:=p2;obtain⟨z2,a2,ws,rfl,h3,h4⟩:=p3;have l1:=h2.length;have l2:=h4.length;refine⟨a1,a2,rfl,⟨us,aX.tupK r1.fr h1⟩,⟨ws,aX.tupK r1.fr h3⟩,q _ H1 F1 r1 s1 λi H2 s2=>⟨λ_ ei=>⟨us,ws,aX.tupK s2 h1,aX.tupK s2 h3,?_⟩,λd hd=>?_⟩⟩
  ·have:(Su xs ys).length=min xs.length ys.length:=by unfold Su;rw[Qqz,List.length_zip]
   omega
  ·unfold Su at hd;rw[Qx5] at hd;obtain⟨⟨c,j⟩,hc,rfl⟩:=Qwy.mp hd;obtain⟨g1,g2⟩:=List.getElem?_zip_eq_some.mp hc;obtain⟨v1,k1,k2⟩:=TV h2 g1;obtain⟨v2,k3,k4⟩:=TV h4 g2;refine⟨⟨us,ws,v1,v2,aX.tupK s2 h1,aX.tupK s2 h3,k1,k3⟩,λy H3 hy=>.inr ?_⟩;obtain⟨p,x',y',m1,m2,m3,rfl,rfl⟩:=hy;have n1:=m1 us<|aX.tupK s2 h1;have n2:=m2 ws<|aX.tupK s2 h3;rw[k1] at n1;rw[k3] at n2;cases n1;cases n2;exact⟨p,_,_,m3,rfl,rfl,rfl,by show 2<=sizeLine;decide,_,_,rfl,k2,_,_,rfl,k4,rfl⟩
 ·cases e2⟩
theorem Va(o:Cm X C op g)(o':Cm X C op' g')(ha:SX X C x a)(hb:SX X C y b)(hc:SX X C z c)(hm:lastMarks [op,op'] [y,z]=false:=by with_unfolding_all rfl):SX X C (.Compare x [op,op'] [y,z] pos) (vR g g' a b c):=⟨by
 obtain⟨r,h1,h2⟩:=o.ex;obtain⟨r',h1',h2'⟩:=o'.ex;refine(aeS h1 h1' ha.u hb.u hc.u hm).imp λσ H Q hq=>?_;obtain⟨Pr,F,env,env',d,rl,e,q⟩:=hq;obtain⟨u,aO,e1,e2⟩:=bj e;obtain⟨v,fP,e3,e4⟩:=bj e2;refine⟨Pr,F,env,aO,u,rl,e1,λvu H1 F1 r1 s1 p1=>⟨Pr,F1,aO,fP,v,r1,e3,λvv H2 F2 r2 s2 p2=>?_⟩⟩;split at e4
 ·rename_i k hg;refine h2 Pr F2 fP σ H2 u v (.bl k) vu vv _ r2 (.inl<|Rep.mono s2 _ _ p1) (.inl p2) hg λvz H3 F3 r3 s3 p3=>⟨k,p3,?_⟩;cases k with
  | false=>
   rw[if_neg Qw0] at e4 ⊢;cases e4;exact q _ H3 F3 r3 ((s1.trans s2).trans s3) rfl
  | true=>
   rw[if_pos rfl] at e4 ⊢;obtain⟨t,JX,e5,e6⟩:=bj e4;obtain⟨e7,rfl⟩:=eY e6;exact⟨Pr,F3,fP,env',t,r3,e5,λvt H4 F4 r4 s4 p4=>h2' Pr F4 env' σ H4 v t d vv vt Q r4 (.inl<|Rep.mono (s3.trans s4) _ _ p2) (.inl p4) e7 λv' H5 F5 r5 s5 p5=>q v' H5 F5 r5 ((((s1.trans s2).trans s3).trans s4).trans s5) p5⟩
 ·cases e4⟩
theorem Vr(o:Cm X C op g)(o':Cm X C op' g')(ha:SX X C x a)(hb:SX X C y b)(hc:SX X C z c)(hm:lastMarks [op,op'] [y,z]=false:=by with_unfolding_all rfl):SXT X C (.Compare x [op,op'] [y,z] pos) (eN (vR g g' a b c)):=⟨by
 obtain⟨r,h1,h2⟩:=o.ex;obtain⟨r',h1',h2'⟩:=o'.ex;refine(aeE h1 h1' ha.u hb.u hc.u hm).imp λσ H Q' hq'=>?_;have hq:=Vv hq';show Yl r r' (tE C a) (tE C b) (tE C c) σ H _;generalize(λ(z:V) H'=>∃b,z = .bl b/\Q' b H')=Q at *;obtain⟨Pr,F,env,env',d,rl,e,q⟩:=hq;obtain⟨u,aO,e1,e2⟩:=bj e;obtain⟨v,fP,e3,e4⟩:=bj e2;refine⟨Pr,F,env,aO,u,rl,e1,λvu H1 F1 r1 s1 p1=>⟨Pr,F1,aO,fP,v,r1,e3,λvv H2 F2 r2 s2 p2=>?_⟩⟩;split at e4
 ·rename_i k hg;refine h2 Pr F2 fP σ H2 u v (.bl k) vu vv _ r2 (.inl<|Rep.mono s2 _ _ p1) (.inl p2) hg λvz H3 F3 r3 s3 p3=>⟨k,p3,?_⟩;cases k with
  | false=>
   rw[if_neg Qw0] at e4 ⊢;cases e4;exact q _ H3 F3 r3 ((s1.trans s2).trans s3) rfl
  | true=>
   rw[if_pos rfl] at e4 ⊢;obtain⟨t,JX,e5,e6⟩:=bj e4;obtain⟨e7,rfl⟩:=eY e6;exact⟨Pr,F3,fP,env',t,r3,e5,λvt H4 F4 r4 s4 p4=>h2' Pr F4 env' σ H4 v t d vv vt Q r4 (.inl<|Rep.mono (s3.trans s4) _ _ p2) (.inl p4) e7 λv' H5 F5 r5 s5 p5=>q v' H5 F5 r5 ((((s1.trans s2).trans s3).trans s4).trans s5) p5⟩
 ·cases e4⟩
theorem aih(ha:SX X C x a):SX X C (.UnaryOp .Not x pos) (age a):=⟨(ams ha.u).imp λσ H Q hq=>by
 obtain⟨Pr,F,env,env',k,rl,e,q⟩:=hq;obtain⟨c,aO,e1,e2⟩:=bj e;refine⟨Pr,F,env,aO,c,rl,e1,λv H1 F1 r1 s1 p1=>?_⟩;cases c with
 | bl z=>cases e2;exact⟨z,p1,q _ H1 F1 r1 s1 rfl⟩
 | _=>cases e2⟩
noncomputable def agl(xs:List D):List D:=xs.zipIdx.map λp=>.tup [.int (p.2:Nat),p.1]
def ajJ(a:d7):d7:=λenv=>bindR (a env) λds aO=>match ds with
 | [.str x]=>.ok (yJ x) aO
 | [.tup xs]=>.ok (agl xs) aO
 | _=>.stuck
def aju(a:d7):d7:=λenv=>bindR (a env) λds aO=>match ds with
 | [.lst x,.lst y]=>.ok (Su x y) aO
 | _=>.stuck
end
def arv(ds:List D)(e:Env):R (List D):=match ds with
 | [.str x]=>.ok (yJ x) e
 | [.tup xs]=>.ok (agl xs) e
 | _=>.stuck
theorem anV(xs)(e):arv [.tup xs] e = .ok (agl xs) e:=nr rfl
theorem acR(a)(env):ajJ a env=bindR (a env) arv:=nr rfl
def aq9(ds:List D)(e:Env):R (List D):=match ds with
 | [.lst x,.lst y]=>.ok (Su x y) e
 | _=>.stuck
theorem ano(x y)(e):aq9 [.lst x,.lst y] e = .ok (Su x y) e:=nr rfl
theorem acO(a)(env):aju a env=bindR (a env) aq9:=nr rfl
theorem aow:vI (.int 1)=some (.int (-1)):=nr rfl
end Ev
namespace L2
open PySem PySem.Spec PyProof.Rows
theorem ph:fillsNumberSlot (.type "tuple") "mul" = pure false:=
 PySem.fillsNumberSlot_seq PySem.F.slot_tuple_mul.lookup (by rfl) PySem.F.slot_tuple_rmul.lookup (by rfl)
theorem vq:seqRepeat? (.type "tuple")=pure (some (.builtin "tuple.__mul__")):=by rfl
theorem Le(a)(t)(l)(items)(n)(dd)(sl) :
  Meets (Builtin.«int.__rmul__» ⟨[.int a t,.ref l],[]⟩) (λ_ R s=>s.heap.get? l=some { cls:=.type "tuple",dict:=dd,data:=.seq items n,slots:=sl }/\R (.ok (.ret Value.notImplemented)) s):=
 .of_wp λprog w A R s h=>by obtain⟨hp,g,d,tk,os⟩:=s;obtain⟨hl,h⟩:=h;wp_walk;exact⟨_,rfl,h⟩
theorem X7(l)(items)(n)(dd)(sl)(x)(u)(h0:¬items.isEmpty=true)(h2:2<=x)(hx:x<=1000)(hsz:items.size*x.toNat<=sizeLine) :
  Meets (Builtin.«tuple.__mul__» ⟨[.ref l,.int x u],[]⟩) (λ_ R s=>s.heap.get? l=some { cls:=.type "tuple",dict:=dd,data:=.seq items n,slots:=sl }/\R (.ok (.ret (Value.ref s.heap.objs.size))) { s with heap:=s.heap.push { cls:=Value.type "tuple",data:=Data.seq (List.foldl (λx1 x2=>x1++x2) #[] (List.replicate x.toNat items)) },toks:=s.toks }):=
 .of_wp λprog w A R s h=>by
  obtain⟨hp,g,d,tk,os⟩:=s;obtain⟨hl,h⟩:=h;have f1:=AutoSeq1.idx_int;have hj:(List.foldl (λx1 x2=>x1++x2) #[] (List.replicate x.toNat items)).size<=sizeLine:=by
   rw[AutoListH.size_joined]
   grind
  have e1:(decide (x < -(2^63))||decide (x ≥ 2^63))=false:=by grind
  have e2:(items.isEmpty||x == 1)=false:=by grind
  have e3:(decide (x<=0)||items.isEmpty)=false:=by grind
  have hsz':(items.size)*x<=sizeLine:=by grind
  have e5:Builtin.Tuple.tupleTooMany (items.size*x)=false:=Qwj (by omega);have hl2:sizeLine<=2^24:=by decide
  wp_walk using wpAny_loadPart' hl
  refine wpAny_ite_false (by simp_all) ?_
  wp_walk using wpAny_loadPart' hl
  refine wpAny_ite_false (by simp_all) ?_
  wp_walk using wpAny_loadPart' hl
  refine wpAny_ite_false (by simp_all) ?_
  wp_walk using wpAny_loadPart' hl
  refine wpAny_ite_false (Qwj (by omega)) ?_
  wp_walk using wpAny_loadPart' hl
  simp_all
theorem ak9(c):∀k (acc:Array Value),(List.replicate k c).foldl (λx1 x2=>x1++x2) acc=⟨acc.toList++(List.replicate k c.toList).flatten⟩
 | 0,acc=>by simp
 | k+1,acc=>by
  rw[List.replicate_succ,Qjx,ak9 c k,List.replicate_succ];simp
theorem Ua{α:Type}(xs:List α):∀k,(List.replicate k xs).flatten.length=xs.length*k
 | 0=>rfl
 | k+1=>by rw[List.replicate_succ,List.flatten_cons,Qqj,Ua xs k,Nat.mul_succ];omega
theorem Vals.flat(r:Vals xs us):∀k,Vals (List.replicate k xs).flatten (List.replicate k us).flatten
 | 0=>.nil
 | k+1=>by rw[List.replicate_succ,List.replicate_succ];exact r.append<|Vals.flat r k
section
variable{X:Cx}
def akG(K:PySem.W.Frag):R2:=λx y H Q=>∃a xs,∃k:Nat,x = .ref a/\y = .int (k:Int)/\2<=k/\k<=1000/\qe K H a xs/\xs≠[]/\xs.length*k<=sizeLine/\∀p,H p=none->Q (.ref p) (upd H p (.tup (List.replicate k xs).flatten))
theorem aiF:qu X (binaryOp .Mult) (akG X.K):=by
 intro pins s σ H x y v u Q I rx ry h;obtain⟨a,xs,k,rfl,rfl,h2,h3,ha,hx,hz,q⟩:=h;cases rx;obtain⟨t',rfl⟩:=ry;obtain⟨its,r1,p1,_⟩:=I.tuple ha;obtain⟨⟨cls,dd,data,sl⟩,ho,hc,n,hd⟩:=id p1;simp at hc hd;subst hc hd;have hne:¬its.toArray.isEmpty=true:=by
  intro e;have e2:its=[]:=by simpa using e
  exact hx<|r1.Br.mp e2
 have hsz:its.toArray.size*(k:Int).toNat<=sizeLine:=by rw[Qwq,<-r1.length,Qz2];exact hz
 refine wpAny_binaryOp_repeat_ref (by decide) ⟨_,ho,rfl⟩ (λs'=>typeIs_int s' k t') ph PySem.F.fills_int_mul PySem.F.slot_int_rmul vq PySem.F.slot_int_index.lookup
  (call_meets PySem.F.slot_int_rmul (typeIs_int s k t') PySem.F.entry_int_rmul (PySem.F.args_int_rmul_2 _ _) (Le k t' a its.toArray n dd sl)
   ⟨ho,rfl,⟨_,ho,rfl⟩,call_meets PySem.F.slot_tuple_mul ⟨_,ho,rfl⟩ PySem.F.entry_tuple_mul (PySem.F.args_tuple_mul_2 _ _) (X7 a its.toArray n dd sl k t' hne (by omega) (by omega) hsz) ⟨ho,?_⟩⟩)
 refine⟨.ref s.heap.objs.size,_,I.laid (λb ob q=>Qqx _ q) (Qq0 _) ?_,rfl,q _<|I.hok.fresh<|Qq0 _⟩;rw[ak9,Qz2];exact⟨by rw[Ua];exact hz,_,r1.flat k,J1.new _ _⟩
end
end L2
namespace Ev
open PySem PySem.Spec PyProof.Rows L2
section
variable{X:Cx}{C:Cfg}
theorem cD.flat{K:Fg}(h:cD K F ds vs):∀k,cD K F (List.replicate k ds).flatten (List.replicate k vs).flatten
 | 0=>rfl
 | k+1=>by rw[List.replicate_succ,List.replicate_succ];exact h.append<|cD.flat h k
noncomputable def Rm:D->D->Option D
 | .tup z,.int i=>if 2<=i/\i<=1000/\0<z.length/\z.length*i.toNat<=sizeLine then some (.tup (List.replicate i.toNat z).flatten) else none
 | _,_=>none
theorem aiL:uC C (akG C.K) Rm:=by
 intro Pr F env σ H x y d vx vy Q r px py e q;unfold Rm at e;split at e
 ·rename_i z i;split at e
  ·rename_i hc;cases e;cases py.int;obtain⟨z1,a,vs,rfl,h1,f1,h2⟩:=px.tup r.fr;refine⟨a,vs,i.toNat,rfl,by rw[Int.toNat_of_nonneg (by omega)],by omega,by omega,h1,?_,by rw[h2.length];exact hc.2.2.2,λp hp=>?_⟩
   ·intro hv;subst hv;have:z.length=0:=h2.length.symm;omega
   ·obtain⟨r2,s2⟩:=r.new hp;exact q _ _ _ r2 s2 ⟨by rw[Ua];exact hc.2.2.2,p,_,rfl,qe.of bz,cD.mono s2 _ _<|h2.flat _⟩
  ·cases e
 ·cases e
theorem ao7(G:Good X C):Bi X C .Mult Rm:=⟨_,aiF,by rw[G.K];exact aiL⟩
end
end Ev
namespace ST
open PySem PyProof.Rows
section
variable{prog:Program}{w:World}{A:Around}{E:Value->Shared->Prop}{s:Shared}{kd:SortKind}{r:Keyed->Nat}{a₀:Array Keyed}
def Cmp(prog:Program)(w:World)(A:Around)(E:Value->Shared->Prop)(s:Shared)(kd:SortKind)(r:Keyed->Nat)(a₀:Array Keyed):Prop:=
 ∀x y,x∈a₀->y∈a₀->∀(st:SortSt) (Q:Option Bool->SortSt->Prop),kindOf st=kd->Q (some (decide (r x<r y))) st->wpS (model prog w) A E s (lt' x y) Q st
noncomputable def bB(left:Bool)(r:Keyed->Nat)(key x:Keyed):Bool:=if left then decide (r x<r key) else !decide (r key<r x)
section
variable{left:Bool}{key:Keyed}{arr:Array Keyed}{base n:Nat}{st:SortSt}(C:Cmp prog w A E s kd r a₀)(hk:kindOf st=kd)(hkey:key∈a₀)(auN:∀x∈arr,x∈a₀)(hb:base+n<=arr.size)
 (B:Nat->Bool) (hB:∀i (h:base+i<arr.size),i<n->bB left r key arr[base+i]=B i) (hm:∀i j,i<=j->j<n->B j=true->B i=true)
include C hk hkey auN hb hB hm
end
end
section
variable{le:Keyed->Keyed->Prop}
structure J(le:Keyed->Keyed->Prop)(X Y out:List Keyed)(i j:Nat):Prop where
 hi:i<=X.length
 hj:j<=Y.length
 perm:out.Perm (X.take i++Y.take j)
 srt:out.Pairwise le
 low:∀x∈out,∀y∈X.drop i++Y.drop j,le x y
def Good(le:Keyed->Keyed->Prop)(X Y R:List Keyed):Prop:=R.Perm (X++Y)/\R.Pairwise le
end
section
variable{prog:Program}{w:World}{A:Around}{E:Value->Shared->Prop}{s:Shared}{kd:SortKind}{r:Keyed->Nat}{a₀:Array Keyed}
abbrev leR(r:Keyed->Nat):Keyed->Keyed->Prop:=λx y=>r x<=r y
section
variable{a b:Array Keyed}{st:SortSt}(C:Cmp prog w A E s kd r a₀)(hk:kindOf st=kd)(ma:∀x∈a,x∈a₀)(mb:∀x∈b,x∈a₀)(hX:a.toList.Pairwise (leR r))(hY:b.toList.Pairwise (leR r))
 (hl:∀y∈b.toList,∀h:a.size - 1<a.toList.length,leR r y a.toList[a.size - 1])
structure JS(r:Keyed->Nat)(a b o:Array Keyed)(i j:Nat):Prop where
 on:J (leR r) a.toList b.toList o.toList i j
 hi:i+1<a.size
 hj:j<b.size
abbrev GD(r:Keyed->Nat)(a b R:Array Keyed):Prop:=Good (leR r) a.toList b.toList R.toList
include hX in
include hX in
include hY hl in
include hY in
def P1(r:Keyed->Nat)(a b:Array Keyed)(n:Nat)(c:Option (Array Keyed))(o:Array Keyed)(i j:Nat):Prop:=match c with
 | some R=>GD r a b R
 | none=>JS r a b o i j/\n<=i+j
include C hk ma mb hX hY hl
end
end
section
variable{prog:Program}{w:World}{A:Around}{E:Value->Shared->Prop}{s:Shared}{kd:SortKind}{r:Keyed->Nat}{a₀:Array Keyed}
variable{a b:Array Keyed}{st:SortSt}(C:Cmp prog w A E s kd r a₀)(hk:kindOf st=kd)(ma:∀x∈a,x∈a₀)(mb:∀x∈b,x∈a₀)(hX:a.toList.Pairwise (leR r))(hY:b.toList.Pairwise (leR r))
 (hl:∀y∈b.toList,∀h:a.size - 1<a.toList.length,leR r y a.toList[a.size - 1])
include C hk ma mb hX hY hl
end
abbrev H1:=Option (Array Keyed)×Nat×Nat×Array Keyed×Nat×Nat
abbrev H2:=Option (Array Keyed)×Nat×Nat×Array Keyed×Nat×Nat×Nat
abbrev H0:=Option (Array Keyed)×Nat×Nat×Array Keyed×Nat
abbrev geR(r:Keyed->Nat):Keyed->Keyed->Prop:=λx y=>r y<=r x
section
variable{prog:Program}{w:World}{A:Around}{E:Value->Shared->Prop}{s:Shared}{kd:SortKind}{r:Keyed->Nat}{a₀:Array Keyed}
variable{a b:Array Keyed}{st:SortSt}(C:Cmp prog w A E s kd r a₀)(hk:kindOf st=kd)(ma:∀x∈a,x∈a₀)(mb:∀x∈b,x∈a₀)(hX:a.toList.Pairwise (leR r))(hY:b.toList.Pairwise (leR r))
 (hl:∀y∈a.toList,∀h:0<b.toList.length,r b.toList[0]<=r y)
abbrev JH(r:Keyed->Nat)(a b o:Array Keyed)(m n:Nat):Prop:=J (geR r) a.toList.reverse b.toList.reverse o.toList (a.size - m) (b.size - n)
structure KS(r:Keyed->Nat)(a b o:Array Keyed)(m n:Nat):Prop where
 on:JH r a b o m n
 m0:0<m
 ml:m<=a.size
 n1:1<n
 nl:n<=b.size
include hX hY in
include hX hl in
include hX in
def P2(r:Keyed->Nat)(a b:Array Keyed)(k:Nat)(c:Option (Array Keyed))(m n:Nat)(o:Array Keyed):Prop:=match c with
 | some R=>GD r a b R
 | none=>KS r a b o m n/\m+n<=k
include C hk ma mb hX hY hl
end
section
variable{prog:Program}{w:World}{A:Around}{E:Value->Shared->Prop}{s:Shared}{kd:SortKind}{r:Keyed->Nat}{a₀:Array Keyed}
variable{a b:Array Keyed}{st:SortSt}(C:Cmp prog w A E s kd r a₀)(hk:kindOf st=kd)(ma:∀x∈a,x∈a₀)(mb:∀x∈b,x∈a₀)(hX:a.toList.Pairwise (leR r))(hY:b.toList.Pairwise (leR r))
 (hl:∀y∈a.toList,∀h:0<b.toList.length,r b.toList[0]<=r y)
include C hk ma mb hX hY hl
end
section
variable{prog:Program}{w:World}{A:Around}{E:Value->Shared->Prop}{s:Shared}{kd:SortKind}{r:Keyed->Nat}{a₀:Array Keyed}
structure Bs(kd:SortKind)(a₀:Array Keyed)(st:SortSt):Prop where
 perm:(arrOf st).Perm a₀
 fail:failedOf st=none
 kind:kindOf st=kd
abbrev A1:=Option (Option Nat)×Nat
abbrev A2:=Option (Option Nat)×Nat×Nat
noncomputable def part(l:List Keyed)(b n:Nat):List Keyed:=(l.drop b).take n
end
end ST
namespace Ev
open PySem PySem.Spec PySem.W PySem.Calls PyProof.Rows L2
def FA(K:Fg)(x:Str)(st:Stmt):Prop:=∃(f:Addr) (oc kV doc pm cdv ct:Value) (od an:Option Addr) (osl:Array (Option Value)),PySem.W.nsIn K mainGlobals x=some (some (.ref f))/\
 K.lookup f=some ⟨oc,od,.func (PySem.W.fnOf x x (iY st) (dB st) (aG st) .none kV doc pm an cdv ct),osl⟩/\PySem.W.codeIn K cdv x=true/\PySem.W.keepIn K (.ref f)=true
theorem FA.mk{K:Fg}{st:Stmt}{oc kV doc pm cdv ct:Value}{od an:Option Addr}(a:PySem.W.nsIn K mainGlobals x=some (some (.ref f)))
  (l:K.lookup f=some ⟨oc,od,.func (PySem.W.fnOf x x (iY st) (dB st) (aG st) .none kV doc pm an cdv ct),osl⟩) (c:PySem.W.codeIn K cdv x=true) (k:PySem.W.keepIn K (.ref f)=true):FA K x st:=
 ⟨f,oc,kV,doc,pm,cdv,ct,od,an,osl,a,l,c,k⟩
theorem FA.at{K:Fg}{st:Stmt}(X:K.In h)(G:h.Ns mainGlobals mg)(F:FA K x st)
  (b:∀{kV doc pm} {an} {cdv ct} us,us.length=ps.length->bindArgs (PySem.W.fnOf x x (iY st) (dB st) (aG st) .none kV doc pm an cdv ct) ⟨us,[]⟩=pure (ps.zip us)):bU K mg x st ps:=by
 obtain⟨f,oc,kV,doc,pm,cdv,ct,od,an,osl,a,l,c,k⟩:=F;exact funAt X G a l c k<|λ_ _ _ _ _ _ us hl=>b us hl
abbrev BdX(x:Str)(st:Stmt)(us:List Value)(r:List (Str×Value)):Prop:=∀{kV doc pm:Value} {an:Option Addr} {cdv ct:Value},bindArgs (PySem.W.fnOf x x (iY st) (dB st) (aG st) .none kV doc pm an cdv ct) ⟨us,[]⟩=pure r
theorem FA.a1{K:Fg}{st:Stmt}(X:K.In h)(G:h.Ns mainGlobals mg)(F:FA K x st)(b:∀u,BdX x st [u] [(p,u)]:=by exact λ_=>rfl):bU K mg x st [p]:=F.at X G fun|[u],_=>b u
theorem FA.a2{K:Fg}{st:Stmt}(X:K.In h)(G:h.Ns mainGlobals mg)(F:FA K x st)(b:∀u v,BdX x st [u,v] [(p,u),(q,v)]:=by exact λ_ _=>rfl):bU K mg x st [p,q]:=F.at X G fun|[u,v],_=>b u v
theorem FA.a3{K:Fg}{st:Stmt}(X:K.In h)(G:h.Ns mainGlobals mg)(F:FA K x st)(b:∀u v w,BdX x st [u,v,w] [(p,u),(q,v),(r,w)]:=by exact λ_ _ _=>rfl):bU K mg x st [p,q,r]:=F.at X G fun|[u,v,w],_=>b u v w
theorem FA.a4{K:Fg}{st:Stmt}(X:K.In h)(G:h.Ns mainGlobals mg)(F:FA K x st)(b:∀u v w y,BdX x st [u,v,w,y] [(p,u),(q,v),(r,w),(t,y)]:=by exact λ_ _ _ _=>rfl):bU K mg x st [p,q,r,t]:=F.at X G fun|[u,v,w,y],_=>b u v w y
open PySem PySem.Spec PyProof.Rows L2
section
variable{X:Cx}{C:Cfg}{pos apos cpos:Pos}
noncomputable def uZ:cB:=λ_=>.stuck
end
end Ev
namespace SI
open PySem PySem.Spec PyProof.Rows L2 PySem.Builtin
def Ris(xs:Array Nat):Prop:=∀i j,i<j->j<xs.size->xs.getD i 0<xs.getD j 0
structure Pl(t:SetTable):Prop where
 dm:t.dummies = #[]
 ri:Ris t.place
open SX (led)
structure TOk(P:Program)(w:World)(es:Array (Int×Value))(t:SetTable)(ys:List Int):Prop where
 el:ElemsOf (intKind P w) es.toList
 tx:∃ss:List Int,IntsAre (es.toList.map (·.2)) ss/\ss.Perm ys
 fit:t.fits es.size=true
 ld:t.led=led w
 pl:Pl t
def UW(P:Program)(w:World)(h:Heap)(a:Addr)(ys:List Int):Prop:=
 ∃o es ep t,h.get? a=some o/\o.ExactSet/\o.data = .set es ep t/\TOk P w es t ys
open PySem PySem.Spec PyProof.Rows L2 PySem.Builtin Ev
noncomputable def api(P:Program)(w:World)(a:Addr)(ys:List Int):HO:=.ext λh=>UW P w h a ys
end SI
namespace Ev
open PySem PySem.Spec PyProof.Rows L2 PySem.Builtin
instance (zs:List Int):Decidable (zs.Pairwise (·< ·)):=inferInstance
end Ev
namespace L2
open PySem PySem.Spec PyProof.Rows
theorem aac{q:Pos}{a b:Int}{c:Value}(l:List Value)(h:TriplesOk l) :
  codeAmong q (l++[rawInt a,rawInt b,c])=match codeAmong q l with
   | some x=>some x
   | none=>if a == q.line&&b == q.col then some c else none:=by
 fun_induction TriplesOk l with
 | case1=>simp[codeAmong,rawInt]
 | case2 a t b u x rest ih=>
  simp only[List.cons_append,codeAmong];split
  ·rfl
  ·exact ih h
 | case3 l h1 h2=>exact h.elim
structure PB(base:Heap)(mg:Str->Option Value)(c P:Addr):Prop where
 code:PySem.W.CodeHd base c P
 blt:base.BuiltinsAt mg P
 ne:mainGlobals≠P
def Xz(H:Hp)(c:Addr)(q:Str):Prop:=∃(o:Obj) (u:HO) (vs:Array Value) (t:Tok),H c=some (.qP o u)/\o.data = .fields vs/\vs[1]? = some (.str q t)
theorem GZ{σ:St}
  (I:Inv X pins σ H s) (B:PB X.base X.mg c0 P) (hcode:X.env.code = .ref c0) (hP:H P=some (.tab qs)) (hq:(pos,qual)∈qs) (hqs:∀q∈qs,q.1.line=pos.line->q.1.col=pos.col->q.2=qual)
  (hd0:args.defaults=[]) (hk0:args.kw_defaults=[]) (ha:annTrees args none X.env=[]) (hqn:qualnameIn X.env name name=qual)
  (hfree:∀n,(n,NameKind.free)∈scope.names->∃c,X.env.cells.lookup n=some c)
  (hN:X.N.Nodup) (hi:X.N[i]? = some name) (hx:Loc X.env.scope name)
  (h:∀f c H1 doc pm ctv s',H f=none->c≠f->aX H H1->H1 f=none->Xz H1 c qual->(∀b o,H1 b=some o->H b=some o\/(b=c/\H c=none))->
   Inv X pins (σ.set i (some (.ref f))) (upd H1 f (.qP (PySem.W.fnMade name qual args body scope (ir X.env scope.names []) doc pm c ctv) (.own f))) s'->Q .next s')
  (hf:X.fn name=true\/X.env.scope.names.lookup name=some .local:=by first|exact .inl rfl|exact .inr rfl|assumption) :
  wpAny (model X.prog X.w) X.A (exec (.FunctionDef name args body [] none [] scope none name pos) X.env) Q X.xe s:=by
 have hcl:closureFor scope X.env=pure (ir X.env scope.names []):=vU hfree;have hg:s.heap.Ns mainGlobals X.mg:=I.mod.glob.keeps I.bk;obtain⟨ps,hPo,htr,hall⟩:=I.hok P _ hP;have arR:s.heap.get? P=some (PySem.W.tabObj ps):=hPo;have C:=B.code.keeps I.bk;have hb:=B.blt.keeps I.bk;refine PySem.W.nestDef_K hd0 hk0 ha ?_;rw[hqn]
 -- the function's object is laid and the name stored
 have fin:∀c H1 h' tk doc pm ctv,Inv X pins σ H1 { s with heap:=h',toks:=tk }->aX H H1->Xz H1 c qual->(∀b o,H1 b=some o->H b=some o\/(b=c/\H c=none))->s.heap.objs.size<=h'.objs.size->
   wpAny (model X.prog X.w) X.A (storeName X.env name<|.ref h'.objs.size) (λ_ s''=>Q .next s'') X.xe { s with heap:=h'.push<|PySem.W.fnMade name qual args body scope (ir X.env scope.names []) doc pm c ctv,toks:=tk }:=by
  intro c H1 h' tk doc pm ctv I1 sH hc arQ hsz;have hn1:H1 h'.objs.size=none:=I1.hok.fresh<|Qq0 _;have I2:Inv X pins σ (upd H1 h'.objs.size<|.qP (PySem.W.fnMade name qual args body scope (ir X.env scope.names []) doc pm c ctv)<|.own h'.objs.size) { s with heap:=h'.push<|PySem.W.fnMade name qual args body scope (ir X.env scope.names []) doc pm c ctv,toks:=tk }:=
   I1.laid (t':=tk) (λb u e=>Qqx _ e) (Qq0 _) ⟨Qq8 _ rfl,_,Qq8 _ rfl⟩
  refine KC I2 hN hi hx (v:=.ref h'.objs.size) rfl (λs' I'=>?_) hf;obtain⟨o,u,vs,t,z,_⟩:=id hc;exact h _ c H1 doc pm ctv s' (I.hok.fresh hsz) (dR z hn1) sH hn1 hc arQ I'
 rcases hall _ hq with hnone|⟨c,o,u,vs,t,hsome,hc1,hc2,hc3⟩
 ·refine PySem.W.makeFunction_K (mg:=X.mg) hcl I.ok.glob hg hcode C arR htr hnone B.ne hb λc' ctv doc h' tk hx' hge hlt hrec hP'=>?_;obtain⟨c2,co,vs,t,ec,ho,hd,hv⟩:=hrec;cases ec;have hnc:H c'=none:=I.hok.fresh hge;have hcP:c'≠P:=λz=>by simp_all
  have sH:aX H (upd H c'<|.qP co<|.own c'):=λb o e=>by rw[bT (dR e hnc)];exact e
  have I1:Inv X pins σ (upd H c'<|.qP co<|.own c') { s with heap:=h',toks:=tk }:=by
   refine I.un ⟨λb o e n _ _=>?_,λb o e n _ _=>?_,λb o e n _=>?_,λb o e _=>?_,λb xs e=>sH _ _ e,λb o u e=>sH _ _ e,λb ps e=>⟨#[],by rw[sH _ _ e];simp⟩,λb qs e=>sH _ _ e⟩ λb o e=>?_
   ·exact hx' b o (λz=>by simp_all) e
   ·exact⟨o.slots,hx' b o (λz=>by simp_all) e⟩
   ·rw[bT (Qww<|Qwx (Qq3 e) hge)];exact n
   ·by_cases hb:b=P
    ·simp_all
    ·exact⟨o,hx' b o hb e⟩
   ·by_cases hbc:b=c'
    ·subst hbc;rw[bz] at e;cases e;exact⟨ho,_,ho⟩
    ·rw[bT hbc] at e;by_cases hbP:b=P
     ·subst hbP;rw[hP] at e;cases e;refine⟨_,hP',by rw[Array.toList_append];exact TriplesOk_snoc _ _ _ _ htr,λq hq=>?_⟩;have hsn:=aac (q:=q.1) (a:=pos.line) (b:=pos.col) (c:=.ref c') ps.toList htr;have e4:(ps ++ #[rawInt pos.line,rawInt pos.col,.ref c']).toList=ps.toList++[rawInt pos.line,rawInt pos.col,.ref c']:=by simp_all
      rw[e4,hsn];rcases hall q hq with z|⟨c,o,u,vs',t',g1,g2,g3,g4⟩
      ·rw[z];by_cases hm:(pos.line:Int) == q.1.line&&(pos.col:Int) == q.1.col
       ·right
        refine⟨c',co,.own c',vs,t,by simp_all,bz,hd,?_⟩
        grind
       simp_all
      ·rw[g1];exact .inr ⟨c,o,u,vs',t',rfl,sH _ _ g2,g3,g4⟩
     ·refine(I.hok b o e).stay (λx u hx2 g=>hx' x u (λz=>?_) g) (λx g=>sH _ _ g) (λx xs g=>sH _ _ g) λx _ _ _ _ g=>sH _ _ g
      simp_all
  exact fin c' _ h' tk doc _ ctv I1 sH ⟨co,_,vs,t,bz,hd,hv⟩ (λb o e=>by
   by_cases hb:b=c'
   ·simp_all
   ·rw[bT hb] at e;exact .inl e)<|Qqy hge<|Qjy hlt
 ·refine PySem.W.makeFunction_hit (mg:=X.mg) (cv:=.ref c) hcl I.ok.glob hg hcode C arR htr hsome hb λctv doc h' tk hk hsz=>?_;exact fin c H h' tk doc _ ctv (I.kept hk) (λ_ _ e=>e) ⟨o,u,vs,t,hc1,hc2,hc3⟩ (λb o e=>.inl e) hsz
open Classical in
noncomputable def uX(h:Heap)(Cs:List Addr)(H:Hp):Hp:=λb=>if b∈Cs then (match h.get? b with
 | some o=>some (.qP o (.own b))
 | none=>none) else H b
section
variable{h:Heap}{Cs:List Addr}{H:Hp}{b:Addr}{o:Obj}{u:HO}
theorem Dm(hb:b∈Cs)(e:h.get? b=some o):uX h Cs H b=some (.qP o (.own b)):=by unfold uX;rw[if_pos hb,e]
theorem uW(hb:b ∉ Cs):uX h Cs H b=H b:=by unfold uX;rw[if_neg hb]
end
end L2
namespace Ev
open PySem PySem.Spec PyProof.Rows L2
theorem Rel.grow{Pr F:Hp}(r:Rel C Pr F env σ H)(s:aX H H'):Rel C Pr F env σ H':=by refine⟨r.pr.trans s,r.fr.trans s,r.len,r.val,λj e he=>?_,r.apart,r.dj,r.fix⟩;obtain⟨a,h1,h2,h3,h4⟩:=r.own j e he;obtain⟨o,ho⟩:=h2.some;exact⟨a,h1,h2.mono (aX.refl F) (by rw[ho,s _ _ ho]),h3,h4⟩
theorem Rel.unset{Pr F:Hp}(r:Rel C Pr F env σ H)(hfx:C.fx i=none):Rel C Pr F (env.set i none) (σ.set i (some v)) H:=by
 have un:∀j x,(env.set i none)[j]? = some (some x)->j≠i/\env[j]? = some (some x):=λj x he=>by
  grind
 refine⟨r.pr,r.fr,by rw[Qx2,Qx2];exact r.len,λj e he=>?_,λj e he=>?_,λj k e f b hj hk g1 g2=>?_,r.dj,λj a hj=>?_⟩
 ·obtain⟨nj,he⟩:=un j _ he;rw[Qq5 (Ne.symm nj)];exact r.val j e he
 ·obtain⟨nj,he⟩:=un j _ he;rw[Qq5 (Ne.symm nj)];exact r.own j e he
 ·obtain⟨nj,hj⟩:=un j _ hj;obtain⟨nk,hk⟩:=un k _ hk;rw[Qq5 (Ne.symm nj)] at g1;rw[Qq5 (Ne.symm nk)] at g2;exact r.apart j k e f b hj hk g1 g2
 ·have hji:j≠i:=λz=>by simp_all
  rw[Qq5 (Ne.symm hji)];exact r.fix j a hj
theorem Rel.ak4{Pr F:Hp}(r:Rel C Pr F env σ H)(e:H b=some (.qP x u)) :
  ∃yE,Rel C yE F env σ H/\aX Pr yE/\(yE b=some (.qP x u)\/F b=some (.qP x u)):=by
 cases hF:F b with
 | some o=>
  have:=r.fr b o hF;rw[e] at this;cases this;exact⟨Pr,r,aX.refl Pr,.inr rfl⟩
 | none=>
  refine⟨upd Pr b<|.qP x u,⟨λc o h=>?_,r.fr,r.len,r.val,λj d he=>?_,r.apart,λc o h=>?_,r.fix⟩,λc o h=>?_,.inl bz⟩
  ·by_cases hc:c=b
   ·subst hc;rw[bz] at h;cases h;exact e
   ·rw[bT hc] at h;exact r.pr c o h
  ·obtain⟨a,h1,h2,h3,h4⟩:=r.own j d he;refine⟨a,h1,h2,h3,?_⟩;rw[bT λz=>?_]
   ·exact h4
   ·subst z;cases d with
    | lst xs=>obtain⟨_,vs,g,_⟩:=h2;rw[e] at g;cases g
    | dct xs=>obtain⟨_,vs,g,_⟩:=h2;rw[e] at g;cases g
    | G8 xs=>obtain⟨_,vs,g,_⟩:=h2;rw[e] at g;cases g
    | _=>exact h2.elim
  ·rw[bT λz=>by simp_all];exact r.dj c o h
  ·by_cases hc:c=b
   ·subst hc;have:=r.pr c o h;rw[e] at this;cases this;exact bz
   ·rw[bT hc];exact h
noncomputable def Hc(env:Env):List Nat->Option (List D)
 | []=>some []
 | j::js=>match env[j]?,Hc env js with
  | some (some (false,d)),some ds=>some (d::ds)
  | _,_=>none
noncomputable def aaD:D->Bool
 | .non=>true
 | .bl _=>true
 | .int _=>true
 | .str _=>true
 | _=>false
theorem aee{K:Fg}(h:aaD d=true)(r:Rep K F d v):Rep K F' d v:=by cases d<;>first|exact r|cases h
noncomputable def clL(env:PySem.Env)(xs:List Str):List (Str×Addr):=xs.map λx=>(x,(env.cells.lookup x).getD 0)
theorem Ut(env):∀names acc,ir env names acc=clL env (((names.filter (·.2 == .free)).map (·.1)).reverse)++acc
 | [],acc=>rfl
 | (n,k)::r,acc=>by
  unfold ir;cases hk:k == NameKind.free with
  | true=>
   rw[if_pos rfl,Ut env r];simp[List.filter_cons,hk,clL]
  | false=>
   rw[if_neg (by simp),Ut env r]
   simp_all
theorem ajS(env)(st):ir env (aG st).names []=clL env (freeOf st):=by rw[Ut,Qw1];rfl
def J7(N:List Str):List Nat->List Str->Prop
 | [],[]=>True
 | j::js,x::xs=>N[j]? = some x/\J7 N js xs
 | _,_=>False
theorem aa9{xs0:List Str}{Pr F Fp:Hp}{σ:L2.St}(I:Inv X pins σ H s)(r:Rel C Pr F env σ H)
  (hF:∀c o,s.heap.get? c=some o->(∃x,X.env.cells.lookup x=some c/\x∈xs0)->Fp c=some (.qP o (.own c))) (hs:aX F Fp) :
  ∀{js} {xs} {ds},J7 X.N js xs->(∀x∈xs,X.env.scope.names.lookup x=some .cell/\x∈xs0)->Hc env js=some ds->∃vs,cD C.K Fp ds vs/\Dh Fp (clL X.env xs) vs
 | [],[],ds,_,_,e=>by cases e;exact⟨[],rfl,rfl⟩
 | [],_::_,_,h,_,_=>h.elim
 | _::_,[],_,h,_,_=>h.elim
 | j::js,x::xs,ds,⟨h1,h2⟩,hx,e=>by
  unfold Hc at e;split at e
  ·rename_i d ds' e1 e2;cases e;obtain⟨vs,q1,q2⟩:=aa9 I r hF hs h2 (λy hy=>hx y<|Qqk _ hy) e2;obtain⟨v,g1,g2⟩:=r.val j d e1;obtain⟨hk,hm⟩:=hx x Qqw;obtain⟨m,hn,hl⟩:=I.loc;obtain⟨u,rv,l⟩:=hl j x v h1 g1<|.inr<|.inl hk;have hk':X.env.kindOf x=some .cell:=hk;rcases l with ⟨z,_⟩|⟨_,c,hc,oc,ho,hd⟩
   ·rw[hk'] at z;cases z
   ·refine⟨v::vs,⟨v,vs,rfl,Rep.mono hs _ _ g2,q1⟩,v,vs,rfl,⟨oc,.own c,u,?_,hd,rv⟩,q2⟩;rw[hc];exact hF c oc ho ⟨x,hc,hm⟩
  ·cases e
structure sO(X:Cx)(qs:List (Pos×Str))(i:Nat)(js:List Nat)(st:Stmt)(n:Str)(args:Arguments)(body:List Stmt)(sc:Scope)(pos:Pos)(qual:Str):Prop where
 eq:st = .FunctionDef n args body [] none [] sc none n pos
 hq:(pos,qual)∈qs
 hqs:∀q∈qs,q.1.line=pos.line->q.1.col=pos.col->q.2=qual
 hd0:args.defaults=[]
 hk0:args.kw_defaults=[]
 ha:annTrees args none X.env=[]
 hqn:qualnameIn X.env n n=qual
 fr:∀x∈freeOf st,X.env.scope.names.lookup x=some .cell
 fnd:(freeOf st).Nodup
 hi:X.N[i]? = some n
 hx:X.env.scope.names.lookup n=some .local
 sl:J7 X.N js (freeOf st)
theorem afl{st:Stmt}(h:(n,NameKind.free)∈(aG st).names):n∈freeOf st:=by
 unfold freeOf
 simp_all
end Ev
namespace L2
open PySem PySem.Spec PyProof.Rows
def spT(T:Hp)(sp:Sp):Sp:=λvs H Q E=>aX T H/\sp vs H Q E
def uQ(T:Hp):Prop:=∀b o,T b=some o->∃qs,o = .tab qs
theorem V7{p pos:Pos}
  (F:pP X.prog X.w X.K X.mg X.base CX k f fd ps (spT T sp)) (hT:aX T X.H₀) (hO:uQ T) (hr:jr k X.A) (hg:Gl X x) (hm:X.mg x=some (.ref f)) (hk:PySem.W.keepIn X.K (.ref f)=true) (hb:Binds X.K fd ps ds) (hd:Vals Xc ds) (hx:Passes CX X E)
  (ha:PA X (e::es) t) (hdb:qx x:=by decide) (he:starEach (e::es) X.env=(false,eval e X.env)::starEach es X.env:=by rfl) (hpl:(backTo pos (starEach es X.env)).any (·.1)=false:=by rfl) :
  PE X (.Call (.Name x p) (e::es) [] pos) (Qc sp Xc E t):=by
 intro pins s σ H Q I h;refine wpAny_Call_Name_kw<|Ub I hg hm ?_ hdb;refine PySem.W.callWith_K I.ok.mod.qT hk (gP (ha pos pins s σ H _ I h) λus s1 ⟨vs,H1,I1,r,q⟩=>⟨I1.Zo,?_⟩) he hpl;exact TQ F hr hb hd hx I1 r ⟨λb o e=>by obtain⟨qs,rfl⟩:=hO b o e;exact I1.base.tabs b qs<|hT b _ e,q⟩
end L2
namespace Ev
open PySem PySem.Spec PySem.W PySem.Calls PyProof.Rows L2
section
variable{X:Cx}{C:Cfg}{T:Hp}{pos p:Pos}{n:Str}{e:Expr}{es:List Expr}{ea:d7}{P:Program}{w:World}{K:Fg}{mg:Str->Option Value}{base:Heap}{x:Str}{st:Stmt}{N ps:List Str}{k:Nat}{ev:cB}{f:Addr}{fd:FuncData}
theorem aik(hb:Hh (bx P w K mg base N x st f cdv A outer s H E) (C0 K) (dB st) ev)(h:jg K ps.length (cA N.length ev) vs H Q E) :
  ∃t,Xx (Ag yR P w K mg base N x (aG st) f cdv A outer s H E).nox (dB st) t/\t { nx:=λ_ H'=>Q .non H',rt:=Q } (start N vs) H:=by
 obtain⟨F0,ds,d,hl,sF,p,e,q⟩:=h;refine⟨_,hb,Mi H F0,F0,envOf N.length ds,ym sF p,?_⟩;unfold cA at e;split at e
 ·rename_i d' env' h1;cases e;rw[h1];exact λv σ' H' F' r' s' p'=>q v H' F' (aX.El r'.pr s' r'.fr sF) r'.fr s' (En s' r'.dj) p'
 ·rename_i env' h1;cases e;rw[h1];exact λσ' H' F' r' s'=>q .non H' F' (aX.El r'.pr s' r'.fr sF) r'.fr s' (En s' r'.dj) rfl
 ·cases e
theorem ahN{n:Nat}(h:jg K n g vs H Q E):vs.length=n:=by obtain⟨F0,ds,d,hl,_,p,_⟩:=h;rw[p.length,hl]
theorem Rp(F:Fun K x x st f fd)(S:bf N ps (aG st))
  (hb:∀cdv A outer s H E,fd.code=cdv->aX T H->jr k (A.deeper (envOfC x (aG st) s.heap.objs.size f cdv))->Good (bx P w K mg base N x st f cdv A outer s H E) (C0 K)->Hh (bx P w K mg base N x st f cdv A outer s H E) (C0 K) (dB st) ev) :
  pP P w K mg base yR (k+1) f fd ps (spT T (jg K ps.length (cA N.length ev))):=by
 obtain⟨oc,od,kV,doc,pm,an,cdv,ct,osl,rfl,lk,hcd⟩:=F.ex;refine ala lk hcd S (λvs H Q E h=>ahN h.2) λA outer s H vs Q E hr h=>?_;obtain⟨t,ht,q⟩:=aik (hb cdv A outer s H E rfl h.1 hr (Cj rfl hr)) h.2;exact⟨t,ht.nox,q⟩
theorem uH(F:bU K mg x st ps)(S:bf N ps (aG st))
  (hb:∀f cdv A outer s H E,aX T H->jr k (A.deeper (envOfC x (aG st) s.heap.objs.size f cdv))->Good (bx P w K mg base N x st f cdv A outer s H E) (C0 K)->Hh (bx P w K mg base N x st f cdv A outer s H E) (C0 K) (dB st) ev) :
  Own P w K mg base x (k+1) ps (spT T (jg K ps.length (cA N.length ev))):=by
 obtain⟨f,fd,h1,h2,h3⟩:=F;exact⟨f,fd,Rp h1 S λcdv A outer s H E _ hT hr G=>hb f cdv A outer s H E hT hr G,h2,h1.kp,h3⟩
def agX(K:Fg)(mg:Str->Option Value)(x:Str)(st:Stmt)(ps:List Str)(c:Addr):Prop:=∃f fd,Fun K x x st f fd/\mg x=some (.ref f)/\Binds K fd ps []/\fd.code = .ref c
end
abbrev aah:=List (Str×List (Pos×Str))
noncomputable def jC(K:Fg)(x:Str):Addr×Addr:=(tabIn K x).getD (0,0)
noncomputable def oV(K:Fg):aah->Hp
 | [],_=>none
 | (x,qs)::r,b=>if b=(jC K x).2 then some (.tab qs) else oV K r b
theorem lr(K):∀l,uQ (oV K l)
 | [],_,_,h=>by cases h
 | (x,qs)::r,b,o,h=>by
  unfold oV at h;split at h
  ·grind
  ·exact lr K r b o h
theorem Vj(K):∀l b o,oV K l b=some o->∃x qs,(x,qs)∈l/\b=(jC K x).2/\o = .tab qs
 | [],_,_,h=>by cases h
 | (x,qs)::r,b,o,h=>by
  unfold oV at h;split at h
  ·grind
  ·obtain⟨y,ps,h1,h2⟩:=Vj K r b o h
   grind
theorem aci{K:Fg}
  (KX:K.In s₁.heap) (hns:s₁.heap.Ns mainGlobals mg) (hb:s₁.heap.Ns builtinsNs mb) (hbb:∀x:Str,x ≠ "__name__"->mb x=bootBuiltins x) (hlim:s₁.heap.NoLimit) (hg:s₁.gens = #[])
  (ha:s₁.heap.get? a=some { cls:=.type "list",data:=.seq vs.toArray }) (hi:IntsAre vs ns) (hl:ns.length<=sizeLine) (hr:jr k callerA)
  (hbm:∃bm ob,mg "__builtins__" = some (.ref bm)/\bm≠builtinsNs/\s₁.heap.get? bm=some ob/\ob.cls = .type "module"/\ob.dict=some builtinsNs/\ob.data = .plain)
  (hK:noTabs K=true) (hT:∀q∈l,CodeHd s₁.heap (jC K q.1).1 (jC K q.1).2/\s₁.heap.get? (jC K q.1).2=some (tabObj #[]))
  (F:∀base,K.In base->base.Ns mainGlobals mg->(∀q∈l,PB base mg (jC K q.1).1 (jC K q.1).2)->pP P w K mg base yR k fa fd [x] (spT (oV K l) (jg K 1 f))) (hbind:∀s u,BindsTo s fd ⟨[u],[]⟩ [(x,u)])
  (hf:f [.arr (ns.map .int)]=some (.bl true)) :
  codeAny (model P w) callerA (.call (.ref fa) ⟨[.ref a],[]⟩) (λr s'=>r = .ok (.ret (.bool true))/\OldK s₁.heap s'.heap/\s'.os=s₁.os/\AllBare s'.gens) s₁:=by
 have rv:=PN hi;have lenV:=hi.length;have alC:∀b o,oV K l b=some o->∃qs c,o = .tab qs/\CodeHd s₁.heap c b/\s₁.heap.get? b=some (tabObj #[]):=λb o e=>by
  obtain⟨y,qs,h1,h2,h3⟩:=Vj K l b o e
  grind
 have asK:∀b o,oV K l b=some o->b≠a:=λb o e z=>by
  simp_all
 have core:∀H,aX (oV K l) H->uR K H a (ns.map V.int)->Ak P w H s₁.heap->(∀b,H b≠none->(b=a/\K.lookup a=none/\∃o xs,H b=some (.qP o<|.lst xs))\/oV K l b=H b)->
   codeAny (model P w) callerA (.call (.ref fa) ⟨[.ref a],[]⟩) (λr s'=>r = .ok (.ret<|.bool true)/\OldK s₁.heap s'.heap/\s'.os=s₁.os/\AllBare s'.gens) s₁:=by
  intro H hTH hS hok hA;have Kg:∀{b} {o},s₁.heap.get? b=some o->H b=none->(Pk s₁.heap H).get? b=some o:=λe n=>afS e n;have noA:∀{b} {o},s₁.heap.get? b=some o->o.cls ≠ .type "list"->o.cls ≠ .none->H b=none:=λ{b o} e d1 d2=>by
   cases q:H b with
   | none=>rfl
   | some u=>
    grind
  have noD:∀{b} {o} {es} {ep},s₁.heap.get? b=some o->o.data = .dict es ep->H b=none:=λ{b o es ep} e d=>by
   cases q:H b with
   | none=>rfl
   | some u=>
    grind
  have nsK:∀{b} {m},s₁.heap.Ns b m->(Pk s₁.heap H).Ns b m:=λ{b m} ⟨o,es,ep,e,d,r⟩=>⟨o,es,ep,Kg e<|noD e d,d,r⟩;have hKb:K.In (Pk s₁.heap H):=λb o e=>Kg (KX b o e) (by
   cases q:H b with
   | none=>rfl
   | some u=>
    rcases hA b (by rw[q];simp) with ⟨e',hk,_⟩|e'
    ·simp_all
    ·rw[q] at e';obtain⟨_,_,_,_,h⟩:=alC b u e';rw[KX b o e] at h;cases h;have h2:=Qwk.mp hK (b,tabObj #[])<|mem_of_lookupK e
     simp_all)
  have hM:Mod K mg (Pk s₁.heap H):=⟨hKb,nsK hns,⟨mb,nsK hb,hbb⟩,let ⟨mc,h1,h2⟩:=hlim;⟨mc,nsK h1,h2⟩⟩;have hTB:∀q∈l,PB (Pk s₁.heap H) mg (jC K q.1).1 (jC K q.1).2:=λq hq=>by
   obtain⟨⟨o,us,file,tf,flags,tg,inF,text,tt,e1,r1,rr⟩,h2⟩:=hT q hq;obtain⟨bm,ob,b1,b2,b3,b4,b5,b6⟩:=hbm;refine⟨⟨o,us,file,tf,flags,tg,inF,text,tt,Kg e1<|noA e1 (by simp_all) (by simp_all),r1,rr⟩,⟨bm,ob,b1,b2,?_,?_,Kg b3<|noA b3 (by simp_all) (by simp_all),b4,b5,b6⟩,?_⟩
   ·intro z;obtain⟨o',es,ep,e,hd,_⟩:=hns
    simp_all
   ·grind
   ·intro z;obtain⟨o',es,ep,e,hd,_⟩:=hns
    grind
  have e0:akl P w K mg (Pk s₁.heap H) callerA [] s₁ H:=⟨rfl,hM,λb o e=>aiJ e,Nat.le_of_eq<|acB _ _,trivial,λb hb=>absurd (show b∈([]:List Addr) from hb) (by simp),hok,.of_eq hg⟩;have WM:Rep K H (.arr (ns.map .int)) (.ref a):=by
   refine⟨by simp_all,a,_,rfl,hS,?_⟩;clear hf hS hi lenV hl rv
   induction ns with
   | nil=>exact rfl
   | cons m ns ih=>exact⟨_,_,rfl,rfl,ih⟩
  refine codeAny_mono ((F _ hKb (nsK hns) hTB).run callerA [] s₁ H ⟨[.ref a],[]⟩ [.ref a] [.ref a] (λv _=>v = .bl true) (λ_ _ _=>False) hr e0 (hbind s₁ (.ref a)) (.cons rfl .nil) ⟨hTH,H,[.arr (ns.map .int)],.bl true,rfl,aX.refl H,⟨_,_,rfl,WM,rfl⟩,hf,λv H' F' _ _ _ _ p=>p⟩) λr s' h=>?_;cases r with
  | error e=>exact h.elim
  | ok fl=>
   cases fl with
   | next=>exact False.elim h
   | brk=>exact False.elim h
   | cont=>exact False.elim h
   | ret u=>
    obtain⟨v,H',os,bare,un,hok',r',q⟩:=h;have q':v = .bl true:=q;subst q';obtain rfl:u=Value.bool true:=r';have all:∀b o,s₁.heap.get? b=some o->s'.heap.get? b=some o\/(isCodeTable s₁.heap b/\o=tabObj #[]/\∃ps,s'.heap.get? b=some (tabObj ps)):=λb o e=>by
     cases q:H b with
     | none=>exact .inl (un.keep b o e q (by intro z;exact absurd (show b∈([]:List Addr) from z) (by simp)) (by simp))
     | some u=>
      rcases hA b (by rw[q];simp) with ⟨_,_,ob,xs,z⟩|e'
      ·have z2:=un.JW b ob _ z;obtain⟨e1,_⟩:=hok b _ z;obtain⟨e2,_⟩:=hok' b _ z2
       simp_all
      ·rw[q] at e';obtain⟨qs,c,rfl,h1,h2⟩:=alC b u e';obtain⟨ps,e3,_⟩:=hok' b _ (un.tabs b qs q);rw[e] at h2;cases h2;exact .inr ⟨(h1.tab e).isCodeTable,rfl,ps,e3⟩
    refine⟨rfl,⟨λb o e=>?_,λb o e=>?_⟩,os,bare⟩
    ·rcases all b o e with z|⟨h1,rfl,ps,h2⟩
     ·exact .inl z
     ·exact .inr (.inl ⟨h1,rfl, #[],ps,rfl,by simp_all⟩)
    grind
 have apP:∀H,∀b o,oV K l b=some o->jt P w H s₁.heap b o:=λH b o e=>by
  obtain⟨qs,c,rfl,_,h⟩:=alC b o e;exact⟨#[],h,True.intro,λq _=>.inl rfl⟩
 cases hk:K.lookup a with
 | some o=>
  have e:=KX a o hk;rw[ha] at e;cases e;exact core (oV K l) (aX.refl _) (.inr ⟨_,vs.toArray,_,hk,rfl,rfl,rfl,by simp_all,by simpa using rv⟩) (λb u z=>apP _ b u z) λb z=>.inr rfl
 | none=>
  refine core (λb=>if b=a then some (.qP { cls:=.type "list",data:=.seq vs.toArray } (.lst (ns.map V.int))) else oV K l b) (λb o e=>?_) (.inl (.inr ⟨{ cls:=.type "list",data:=.seq vs.toArray },if_pos rfl⟩)) (λb u z=>?_) λb z=>?_
  ·simp_all
  ·by_cases hb:b=a
   ·have z':=(if_pos hb).symm.trans z;cases z';subst hb;exact⟨ha,by simp_all,vs,_,rv,ha⟩
   simp_all
  grind
theorem ajt{K:Fg}{st:Stmt}{oc kV doc pm cdv ct:Value}{od an:Option Addr}(X:K.In h)(G:h.Ns mainGlobals mg)
  (a:PySem.W.nsIn K mainGlobals x=some (some (.ref f))) (l:K.lookup f=some ⟨oc,od,.func (PySem.W.fnOf x x (iY st) (dB st) (aG st) .none kV doc pm an cdv ct),osl⟩) (c0:PySem.W.codeIn K cdv x=true) (k:PySem.W.keepIn K (.ref f)=true) (ht:tabIn K x=some (c,P))
  (b:∀{kV doc pm} {an} {cdv ct} us,us.length=ps.length->bindArgs (PySem.W.fnOf x x (iY st) (dB st) (aG st) .none kV doc pm an cdv ct) ⟨us,[]⟩=pure (ps.zip us)):agX K mg x st ps (jC K x).1:=by
 have e3:jC K x=(c,P):=by unfold jC;rw[ht];rfl
 refine⟨f,_,Nt l c0 k,Qzy X G a,(Nt l c0 k).binds λ_ _ _ _ _ _ us hl=>b us hl,?_⟩;rw[e3];exact law_code X G ht (Qzy X G a) (X _ _ l) rfl
open PySem PySem.Spec PyProof.Rows L2
def nest(s:Stmt)(j:Nat):Stmt:=(dB s).getD j (.Pass ⟨0,0,0,0⟩)
noncomputable def jX(s:Stmt):Pos:=match s with
 | .FunctionDef _ _ _ _ _ _ _ _ _ p=>p
 | _=>⟨0,0,0,0⟩
noncomputable def Tg(N:List Str):List Nat->List Str->Bool
 | [],[]=>true
 | j::js,x::xs=>decide (N[j]? = some x)&&Tg N js xs
 | _,_=>false
theorem Qg:∀{js} {xs},Tg N js xs=true->J7 N js xs
 | [],[],_=>True.intro
 | [],_::_,h=>by cases h
 | _::_,[],h=>by cases h
 | j::js,x::xs,h=>by
  have h':(decide (N[j]? = some x)&&Tg N js xs)=true:=h;rw[Qzw] at h';exact⟨Qw8 h'.1,Qg h'.2⟩
theorem wu{X:Cx}{i:Nat}{js:List Nat}{st:Stmt}
  (eq:st = .FunctionDef n args body [] none [] sc none n pos:=by rfl) (hq:(pos,qual)∈qs) (hqs:∀q∈qs,q.1.line=pos.line->q.1.col=pos.col->q.2=qual)
  (hd0:args.defaults=[]:=by rfl) (hk0:args.kw_defaults=[]:=by rfl) (ha:annTrees args none X.env=[]:=by rfl) (hqn:qualnameIn X.env n n=qual:=by rfl)
  (fr:((freeOf st).all λx=>decide (X.env.scope.names.lookup x=some .cell))=true:=by rfl) (fnd:qJ (freeOf st)=true:=by rfl) (hi:X.N[i]? = some n:=by rfl) (hx:X.env.scope.names.lookup n=some .local:=by rfl) (sl:Tg X.N js (freeOf st)=true:=by rfl) :
  sO X qs i js st n args body sc pos qual:=⟨eq,hq,hqs,hd0,hk0,ha,hqn,λx hx=>Qw8<|Qwk.mp fr x hx,lA fnd,hi,hx,Qg sl⟩
section
variable{X:Cx}{C:Cfg}{T:Hp}{pos p pos':Pos}{n:Str}{e:Expr}{es:List Expr}{ea:d7}{a:Ev}
theorem aao(O:Own X.prog X.w X.K X.mg X.base n k ps (spT T (jg X.K m g)))(hT:aX T X.H₀)(hO:uQ T)(G:Good X C)(hr:jr k' X.A)(ha:U3 X C (e::es) ea)(hn:∀env ds env',ea env = .ok ds env'->ds.length=m)(hk:Nat.ble k k'=true:=by rfl)
  (hg:Gl X n:=by rfl) (hdb:qx n:=by decide) (he:starEach (e::es) X.env=(false,eval e X.env)::starEach es X.env:=by rfl) (hpl:(backTo pos (starEach es X.env)).any (·.1)=false:=by rfl):SX X C (.Call (.Name n p) (e::es) [] pos) (az g ea):=
 ⟨by
 obtain⟨f,fd,h1,h2,h3,h4⟩:=O;have h1':pP X.prog X.w X.K X.mg X.base yR k f fd ps (spT T<|jg C.K m g):=by rw[<-G.K];exact h1
 refine(V7 h1' hT hO (hr.mono<|Qw5 hk) hg h2 h3 h4 .nil Hq ha.u hdb he hpl).imp λσ H Q hq=>?_;obtain⟨Pr,F,env,env',d,r,e,q⟩:=hq;obtain⟨ds,e1,e2⟩:=Af e;refine⟨Pr,F,env,env',ds,r,e1,λvs H1 F1 r1 s1 p1=>?_⟩;show jg C.K m g (vs++[]) H1 Q E0;rw[Qw1];exact⟨F1,ds,d,hn _ _ _ e1,r1.fr,p1,e2,λv H2 F2 t1 t2 t3 t4 p2=>q v H2 F2 (r1.after t1 t2 t3 t4) (s1.trans t3) p2⟩⟩
end
def FC(K:Fg)(x:Str)(st:Stmt):Prop:=∃(f c P:Addr) (oc kV doc pm ct oc2:Value) (od an od2:Option Addr) (osl abX:Array (Option Value)) (vs:Array Value),PySem.W.nsIn K mainGlobals x=some (some (.ref f))/\
 K.lookup f=some ⟨oc,od,.func (PySem.W.fnOf x x (iY st) (dB st) (aG st) .none kV doc pm an (.ref c) ct),osl⟩/\PySem.W.codeIn K (.ref c) x=true/\PySem.W.keepIn K (.ref f)=true/\K.lookup c=some ⟨oc2,od2,.fields vs,abX⟩/\vs[11]? = some (.ref P)
theorem FC.mk{K:Fg}{st:Stmt}{oc kV doc pm ct oc2:Value}{od an od2:Option Addr}(a:PySem.W.nsIn K mainGlobals x=some (some (.ref f)))
  (l:K.lookup f=some ⟨oc,od,.func (PySem.W.fnOf x x (iY st) (dB st) (aG st) .none kV doc pm an (.ref c) ct),osl⟩) (c0:PySem.W.codeIn K (.ref c) x=true) (k:PySem.W.keepIn K (.ref f)=true) (lc:K.lookup c=some ⟨oc2,od2,.fields vs,abX⟩) (v:vs[11]? = some (.ref P)):FC K x st:=
 ⟨f,c,P,oc,kV,doc,pm,ct,oc2,od,an,od2,osl,abX,vs,a,l,c0,k,lc,v⟩
theorem FC.tab{K:Fg}{st:Stmt}(F:FC K x st):∃cp,tabIn K x=some cp:=by
 obtain⟨f,c,P,oc,kV,doc,pm,ct,oc2,od,an,od2,osl,abX,vs,a,l,c0,k,lc,v⟩:=F;refine⟨(c,P),?_⟩;unfold tabIn
 simp_all
theorem FC.at{K:Fg}{st:Stmt}(X:K.In h)(G:h.Ns mainGlobals mg)(F:FC K x st)
  (b:∀{kV doc pm} {an} {cdv ct} us,us.length=ps.length->bindArgs (PySem.W.fnOf x x (iY st) (dB st) (aG st) .none kV doc pm an cdv ct) ⟨us,[]⟩=pure (ps.zip us)):agX K mg x st ps (jC K x).1:=by
 obtain⟨⟨c',P'⟩,ht⟩:=F.tab;obtain⟨f,c,P,oc,kV,doc,pm,ct,oc2,od,an,od2,osl,abX,vs,a,l,c0,k,lc,v⟩:=F;exact ajt X G a l c0 k ht b
theorem FA.aul{K:Fg}{st:Stmt}(X:K.In h)(G:h.Ns mainGlobals mg)(hfa:mg x=some (.ref fa))(F:FA K x st)
  (b:∀{kV doc pm} {an} {cdv ct} s v,BindsTo s (PySem.W.fnOf x x (iY st) (dB st) (aG st) .none kV doc pm an cdv ct) ⟨[v],[]⟩ [(y,v)])
  (q:∀{fd} base,(∀z∈tl,PB base mg (jC K z.1).1 (jC K z.1).2)->Fun K x x st fa fd->pP P w K mg base yR k fa fd [y] (spT (oV K tl) (jg K 1 g))) :
  ∃fd,(∀s v,BindsTo s fd ⟨[v],[]⟩ [(y,v)])/\∀base,K.In base->base.Ns mainGlobals mg->(∀z∈tl,PB base mg (jC K z.1).1 (jC K z.1).2)->pP P w K mg base yR k fa fd [y] (spT (oV K tl) (jg K 1 g)):=by
 obtain⟨f,oc,kV,doc,pm,cdv,ct,od,an,osl,a,l,c,k⟩:=F;have e:=hfa.symm.trans<|Qzy X G a;cases e;exact⟨_,b,λbase _ _ hB=>q base hB<|Nt l c k⟩
theorem alx{l:PySem.W.OpenLaw}{K:Params->PySem.W.Frag}(tl)
  (hn:l.most=some n) (hn2:n<=sizeLine) (hdf:d.params.defaults=[]) (hr:jr k callerA)
  (hY:∀w h,YP w h->(K w.params).In h)
  (hf:∀ns,ns.length<=n->aal ns->f [.arr (ns.map .int)]=some (.bl true))
  (hK:∀w:World,noTabs (K w.params)=true) (hrec:∀y∈tl,∃e,(recsOf q).find? (λe=>e.name == y.1)=some e)
  (F:∀w mg fa h,(K w.params).In h->h.Ns mainGlobals mg->mg d.name=some (.ref fa)->(∀y∈tl,∃cp,tabIn (K w.params) y.1=some cp)/\
   ∃fd,(∀s u,BindsTo s fd ⟨[u],[]⟩ [(x,u)])/\
    ∀base,(K w.params).In base->base.Ns mainGlobals mg->(∀y∈tl,PB base mg (jC (K w.params) y.1).1 (jC (K w.params) y.1).2)->pP l.prog w (K w.params) mg base yR k fa fd [x] (spT (oV (K w.params) tl) (jg (K w.params) 1 f))) :
  PySem.W.WalkO q loose XP YP l.row.toRowW d [] (λf vs=>PySem.call f vs):=by
 refine UG hn hdf λw s₀ s₁ mg mb fa o pm cd doc a vs ns G Y ho hd hcd hmg hobj hints hlen afT hg=>?_;have KX:=hY w _ Y;obtain⟨htab,fd,hb,hF⟩:=F w mg fa _ KX G.T.g hmg;refine aci KX G.T.g G.T.b G.T.builtins G.T.nolimit hg hobj hints (Qqy hlen hn2) hr G.T.bmain (hK w) (λy hy=>?_) hF hb<|hf ns hlen afT;obtain⟨⟨c,P⟩,e1⟩:=htab y hy;obtain⟨e,e2⟩:=hrec y hy;have e3:jC (K w.params) y.1=(c,P):=by unfold jC;rw[e1];rfl
 rw[e3];exact tab_of G.T KX e2 e1
end Ev
namespace SJ
open PySem PySem.Spec PyProof.Rows L2 PySem.Builtin
open SX (led)
structure TOk(P:Program)(w:World)(es:Array (Int×Value))(t:SetTable)(ys:List Int):Prop where
 el:ElemsOf (intKind P w) es.toList
 tx:∃ss:List Int,IntsAre (es.toList.map (·.2)) ss/\ss.Perm ys
 fit:t.fits es.size=true
def UW(P:Program)(w:World)(h:Heap)(a:Addr)(ys:List Int):Prop:=
 ∃o es ep t,h.get? a=some o/\o.ExactSet/\o.data = .set es ep t/\TOk P w es t ys
noncomputable def api(P:Program)(w:World)(a:Addr)(ys:List Int):HO:=.ext λh=>UW P w h a ys
end SJ
namespace L2
open PySem PySem.Spec PyProof.Rows
theorem Vi(l)(items)(n)(dd)(sl)(u)(h0:¬items.isEmpty=true) :
  Meets (Builtin.«tuple.__mul__» ⟨[.ref l,.int 0 u],[]⟩) (λ_ R s=>s.heap.get? l=some { cls:=.type "tuple",dict:=dd,data:=.seq items n,slots:=sl }/\R (.ok (.ret (Value.ref s.heap.objs.size))) { s with heap:=s.heap.push { cls:=Value.type "tuple",data:=Data.seq #[] },toks:=s.toks }):=
 .of_wp λprog w A R s h=>by
  obtain⟨hp,g,d,tk,os⟩:=s;obtain⟨hl,h⟩:=h;have f1:=AutoSeq1.idx_int;have e2:(items.isEmpty||0 == 1)=false:=by simp_all
  have e3:(decide (0<=0)||items.isEmpty)=true:=by simp
  wp_walk using wpAny_loadPart' hl
  simp_all
theorem Vh(l)(items)(n)(dd)(sl)(u)(h0:¬items.isEmpty=true) :
  Meets (Builtin.«tuple.__mul__» ⟨[.ref l,.int 1 u],[]⟩) (λ_ R s=>s.heap.get? l=some { cls:=.type "tuple",dict:=dd,data:=.seq items n,slots:=sl }/\R (.ok (.ret (Value.ref l))) s):=
 .of_wp λprog w A R s h=>by
  obtain⟨hp,g,d,tk,os⟩:=s;obtain⟨hl,h⟩:=h;have f1:=AutoSeq1.idx_int
  wp_walk using wpAny_loadPart' hl
  simp_all
section
variable{X:Cx}
def aen(K:PySem.W.Frag):R2:=λx y H Q=>∃a xs,x = .ref a/\qe K H a xs/\xs≠[]/\(y = .int 1/\Q (.ref a) H\/y = .int 0/\∀p,H p=none->Q (.ref p) (upd H p (.tup [])))
theorem aeZ:qu X (binaryOp .Mult) (aen X.K):=by
 intro pins s σ H x y v u Q I rx ry h;obtain⟨a,xs,rfl,ha,hx,h⟩:=h;cases rx;obtain⟨its,r1,p1,_⟩:=I.tuple ha;obtain⟨⟨cls,dd,data,sl⟩,ho,hc,n,hd⟩:=id p1;simp at hc hd;subst hc hd;have hne:¬its.toArray.isEmpty=true:=by
  intro e;have e2:its=[]:=by simpa using e
  exact hx<|r1.Br.mp e2
 rcases h with ⟨rfl,q⟩|⟨rfl,q⟩
 ·obtain⟨t',rfl⟩:=ry;refine wpAny_binaryOp_repeat_ref (by decide) ⟨_,ho,rfl⟩ (λs'=>typeIs_int s' 1 t') ph PySem.F.fills_int_mul PySem.F.slot_int_rmul vq PySem.F.slot_int_index.lookup
   (call_meets PySem.F.slot_int_rmul (typeIs_int s 1 t') PySem.F.entry_int_rmul (PySem.F.args_int_rmul_2 _ _) (Le 1 t' a its.toArray n dd sl)
    ⟨ho,rfl,⟨_,ho,rfl⟩,call_meets PySem.F.slot_tuple_mul ⟨_,ho,rfl⟩ PySem.F.entry_tuple_mul (PySem.F.args_tuple_mul_2 _ _) (Vh a its.toArray n dd sl t' hne) ⟨ho,?_⟩⟩)
  exact⟨.ref a,H,I,rfl,q⟩
 ·obtain⟨t',rfl⟩:=ry;refine wpAny_binaryOp_repeat_ref (by decide) ⟨_,ho,rfl⟩ (λs'=>typeIs_int s' 0 t') ph PySem.F.fills_int_mul PySem.F.slot_int_rmul vq PySem.F.slot_int_index.lookup
   (call_meets PySem.F.slot_int_rmul (typeIs_int s 0 t') PySem.F.entry_int_rmul (PySem.F.args_int_rmul_2 _ _) (Le 0 t' a its.toArray n dd sl)
    ⟨ho,rfl,⟨_,ho,rfl⟩,call_meets PySem.F.slot_tuple_mul ⟨_,ho,rfl⟩ PySem.F.entry_tuple_mul (PySem.F.args_tuple_mul_2 _ _) (Vi a its.toArray n dd sl t' hne) ⟨ho,?_⟩⟩)
  exact⟨.ref s.heap.objs.size,_,I.laid (o:=.tup []) (λb ob q=>Qqx _ q) (Qq0 _) ⟨Qxx _,[],.nil,J1.new _ _⟩,rfl,q _<|I.hok.fresh<|Qq0 _⟩
end
end L2
namespace Ev
open PySem PySem.Spec PyProof.Rows L2
section
variable{X:Cx}{C:Cfg}
noncomputable def Nj:D->D->Option D
 | .tup (z::zs),.int i=>if i=1 then some (.tup (z::zs)) else if i=0 then some (.tup []) else none
 | _,_=>none
theorem ae4:uC C (aen C.K) Nj:=by
 intro Pr F env σ H x y d vx vy Q r px py e q;unfold Nj at e;split at e
 ·rename_i z zs i;cases py.int;obtain⟨z1,a,vs,rfl,h1,f1,h2⟩:=px.tup r.fr;have hv:vs≠[]:=λhv=>by
   subst hv;have:=h2.length;simp at this
  split at e
  ·rename_i hi;subst hi;cases e;exact⟨a,vs,rfl,h1,hv,.inl ⟨rfl,q _ H F r (aX.refl F) ⟨z1,a,vs,rfl,f1,h2⟩⟩⟩
  ·split at e
   ·rename_i hi;subst hi;cases e;refine⟨a,vs,rfl,h1,hv,.inr ⟨rfl,λp hp=>?_⟩⟩;obtain⟨r2,s2⟩:=r.new hp;exact q _ _ _ r2 s2 ⟨Qxx _,p,_,rfl,qe.of bz,rfl⟩
   ·cases e
 ·cases e
theorem aj3(G:Good X C):Bi X C .Mult Nj:=⟨_,aeZ,by rw[G.K];exact ae4⟩
end
end Ev
namespace L2
open PySem PySem.Spec PyProof.Rows
theorem aiy{k i:Nat}{p pos:Pos}
  (hN:X.N[i]? = some x) (hv:Hg X.env.scope x) (F:pP X.prog X.w X.K X.mg X.base CX k f fd ps (spT T sp)) (hT:aX T X.H₀) (hO:uQ T) (hr:jr k X.A) (hk:PySem.W.keepIn X.K (.ref f)=true) (hb:Binds X.K fd ps ds) (hd:Vals Xc ds) (hx:Passes CX X E)
  (ha:PA X (e::es) t) (hdb:qx x:=by decide) (hcd:Bt x:=by decide) (he:starEach (e::es) X.env=(false,eval e X.env)::starEach es X.env:=by rfl) (hpl:(backTo pos (starEach es X.env)).any (·.1)=false:=by rfl) :
  PE X (.Call (.Name x p) (e::es) [] pos) (λσ H Q=>σ[i]? = some (some (.ref f))/\Qc sp Xc E t σ H Q):=by
 intro pins s σ H Q I h;obtain⟨hσ,h⟩:=h;refine wpAny_Call_Name_kw<|Qw7 (lH hN hv hdb hcd pins s σ H (λv H'=>v = .ref f/\H'=H) I ⟨_,hσ,rfl,rfl⟩) (λu s1 hu=>?_) λ_ _ z=>z;obtain⟨v',H',I1,rv,rfl,rfl⟩:=hu;obtain rfl:u=Value.ref f:=rv;refine PySem.W.callWith_K I1.ok.mod.qT hk (gP (ha pos pins s1 σ H' _ I1 h) λus s2 ⟨vs,H1,I2,r,q⟩=>⟨I2.Zo,?_⟩) he hpl;exact TQ F hr hb hd hx I2 r ⟨λb o e=>by obtain⟨qs,rfl⟩:=hO b o e;exact I2.base.tabs b qs<|hT b _ e,q⟩
end L2
namespace Ev
open PySem PySem.Spec PySem.W PySem.Calls PyProof.Rows L2
noncomputable def sS(n:Str):D:=.clo (.Global [n] ⟨0,0,0,0⟩) []
theorem FA.val{K:Fg}{st:Stmt}(X:K.In h)(G:h.Ns mainGlobals mg)(F:FA K x st):Al K mg x (sS x):=by obtain⟨f,oc,kV,doc,pm,cdv,ct,od,an,osl,a,l,c,k⟩:=F;exact⟨.ref f,.ref f,Qzy X G a,rfl,λF=>⟨f,[],rfl,.inr<|.inl ⟨x,_,_,_,_,_,rfl,a,l⟩,rfl⟩⟩
theorem Al.fn{K:Fg}(h:Al K mg x (sS x))(r:Rep K F (sS x) (.ref a)):mg x=some (.ref a):=by
 obtain⟨v,u,h1,h2,h3⟩:=h;obtain⟨a1,vs1,rfl,c1,_⟩:=h3 F;obtain⟨a2,vs2,e2,c2,_⟩:=r;cases e2;have mk:∀{b} {vs},Clo K F (.Global [x] ⟨0,0,0,0⟩) b vs->PySem.W.nsIn K mainGlobals x=some (some<|.ref b):=λ{b vs} c=>by
  rcases c with ⟨_,c⟩|⟨n,p,_,_,_,_,e,c,_⟩|⟨_,_,_,_,_,_,_,e,_⟩
  ·cases c
  all_goals simp_all
 have e:=(mk c1).symm.trans<|mk c2;cases e;cases h2;exact h1
open PySem PySem.Spec PyProof.Rows L2 PySem.Builtin
theorem Vx:∀{ds} {zs},jY ds=some zs->ds=zs.map .str
 | [],zs,h=>by cases h;rfl
 | d::ds,zs,h=>by
  unfold jY at h;cases d<;>try (cases h)
  rename_i x;cases e:jY ds with
  | none=>simp_all
  | some r=>have:=Vx e;simp_all;subst h;rfl
def Nk:D->Option D
 | .lst ds=>(jY ds).bind λzs=>if zs.length<64 then some (.int (SX.vZ zs).length) else none
 | _=>none
theorem ap3{lo n:Nat}{H Pr F:Hp}(r:Rel C Pr F env σ H)
  (ev:gr lo n it g c e env = .ok (.lst (zs.map .str)) env') (hzs:zs.length<64)
  (q:∀d H' F',Rel C Pr F' env' σ H'->aX F F'->H' d=some (SetT P w d ((SX.vZ zs).map strOf))->Q (.ref d) H'):tSC P w n (tI C it) (tG C lo g) (tT C c) (tE C e) σ H Q:=by
 obtain⟨ds,aO,e1,e2⟩:=bj ev;split at e2
 ·rename_i hlo;obtain⟨ys,fP,e3,e4⟩:=bj e2;split at e4
  ·rename_i hz;cases e4;refine⟨Pr,F,env,aO,ds,r,e1,λJ H1 F1 r1 s1 y1 a ha=>?_⟩;have hσ:σ.length=lo:=r1.len.symm.trans hlo;have hPa:Pr a=none:=r1.pr.free ha;refine⟨λi m σ' H'=>m=ds.length - i/\i<=ds.length/\∃F' xU acc rest,Rel C (upd Pr a<|SetT P w a<|(SX.vZ acc).map strOf) F' xU σ' H'/\aX F1 F'/\σ'.take lo=σ/\Er g c e (ds.drop i) xU = .ok rest fP/\acc.map .str++rest=zs.map .str,
    ⟨ds.length,rfl,Qxx _,F1,aO++List.replicate (n - lo) none,[],zs.map .str,?_,aX.refl _,?_,e3,rfl⟩,?_⟩
   ·rw[hσ];exact(r1.aside (o:=SetT P w a []) ha).pad _
   ·unfold xr
    simp_all
   rintro i m σ' H' ⟨rfl,hi,F',xU,acc,rest,r',s',t',l',hacc⟩;have hFa:F' a=none:=by
    cases ez:F' a with
    | none=>rfl
    | some w=>have:=r'.dj a w ez;rw[bz] at this;cases this
   by_cases hl:i<ds.length
   ·have hd:ds[i]? = some ds[i]:=Qx4 hl;have hdr:ds.drop i=ds[i]::ds.drop (i+1):=Qz8 hl;have yy:=y1 i H'<|s'.trans r'.fr;refine .inr ⟨(yy.2 _ hd).1,λσ2 H2=>∃F' xU acc rest,Rel C (upd Pr a<|SetT P w a<|(SX.vZ acc).map strOf) F' xU σ2 H2/\aX F1 F'/\σ2.take lo=σ/\Er g c e (ds.drop<|i+1) xU = .ok rest fP/\acc.map .str++rest=zs.map .str,
     λσ2 H2 h2=>⟨ds.length - (i+1),by omega,rfl,hl,h2⟩,λx H2 hy=>?_⟩
    obtain⟨F2,r2,s2,p2⟩:=uB.item r' s' y1 hd hy;rw[hdr] at l';unfold Er at l';cases eg:g ds[i] xU with
    | none=>simp_all
    | some e5=>
     rw[eg] at l';obtain⟨b,e6,c1,l2⟩:=bj l';refine⟨_,F2,xU,e5,ds[i],r2,p2,eg,λσ3 H3 F3 r3 s3 t3=>⟨_,F3,e5,e6,b,r3,c1,λH4 F4 r4 s4=>?_⟩⟩;have t3':σ3.take lo=σ:=t3.trans t';have s24:aX F' F4:=(s2.trans s3).trans s4;cases b with
     | false=>
      show if false=true then _ else _
      rw[if_neg Qw0];rw[if_neg Qw0] at l2;exact⟨F4,e6,acc,rest,r4,s'.trans s24,t3',l2,hacc⟩
     | true=>
      show if true=true then _ else _
      rw[if_pos rfl];rw[if_pos rfl] at l2;obtain⟨y,e7,c2,l3⟩:=bj l2;obtain⟨ys2,e8,c3,l4⟩:=bj l3;cases l4;refine⟨_,F4,e6,e7,y,r4,c2,λv H5 F5 r5 s5 p5=>?_⟩;have hsp:∃z rs,zs=acc++z::rs/\y = .str z/\ys2=rs.map .str:=by
       have h1:=Qx7 (List.drop acc.length) hacc;rw[<-List.map_drop,List.drop_append_of_le_length (by simp),List.drop_of_length_le (by simp),List.nil_append] at h1;have h2:=Qx7 (List.take acc.length) hacc;rw[<-List.map_take,List.take_append_of_le_length (by simp),List.take_of_length_le (by simp)] at h2;have h3:acc=zs.take acc.length:=by
        have inj:∀(p q:List (List Nat)),p.map D.str=q.map D.str->p=q:=λp q h=>by
         have:=Qx7 (List.map (λd=>match d with|D.str z=>z|_=>[])) h
         simpa[Function.comp_def] using this
        exact inj _ _ h2
       cases h4:zs.drop acc.length with
       | nil=>rw[h4] at h1;cases h1
       | cons z rs=>
        rw[h4,Qq7] at h1;obtain⟨h5,h6⟩:=List.cons.inj h1;refine⟨z,rs,?_,h5,h6⟩;rw[<-h4]
        conv=>rhs;rw[h3]
        rw[Qzv];have:min acc.length zs.length=acc.length:=by have:=Qx7 List.length h3;rw[Qzv] at this;omega
        rw[this,List.take_append_drop]
      obtain⟨z,rs,hzz,rfl,rfl⟩:=hsp;have hv:v = .str (strOf z):=p5.1;subst hv;have hul:=SX.P0 acc;have hlz:=Qx7 List.length hzz;rw[Qqj,Qqv] at hlz;refine⟨(SX.vZ acc).map strOf,strOf z,rfl,r5.pr _ _ bz,by rw[Qqz];omega,F5,e7,acc++[z],rs.map .str,?_,s'.trans (s24.trans s5),t3',c3,by rw[hzz];simp⟩;have r6:=r5.turn (u:=SetT P w a (aae ((SX.vZ acc).map strOf) (strOf z))) bz;rw[aat] at r6;have eu:(SX.vZ (acc++[z])).map strOf=aae ((SX.vZ acc).map strOf) (strOf z):=by unfold SX.vZ;rw[List.foldl_append];exact SX.Xu _ _
      rw[eu];exact r6
   ·have ei:i=ds.length:=by omega
    subst ei;rw[List.drop_length] at l';cases l';rw[Qw1] at hacc;have:acc=zs:=by
     have:=Qx7 (List.map (λd=>match d with|D.str z=>z|_=>[])) hacc
     simpa[Function.comp_def] using this
    subst this;refine .inl ⟨(y1 _ H' (s'.trans r'.fr)).1 (List.getElem?_eq_none (Qq0 _)) rfl,?_⟩;have sP:aX Pr (upd Pr a (SetT P w a ((SX.vZ acc).map strOf))):=qg hPa;have r7:Rel C Pr F' (fP.take lo) σ H':=by
     have:=(r'.less sP).cut (σ0:=σ) (by simp_all) r1.fix
     simp_all
    exact q a H' F' r7 (s1.trans s') (r'.pr _ _ bz)
  ·cases e4
 ·cases e2
def akH(X:Cx):List V->Hp->VK->Prop:=λxs H Q=>∃(p:Addr) (zs:List Str),xs=[.ref p]/\H p=some (SetT X.prog X.w p zs)/\zs.length<64/\Q (.int zs.length) H
theorem ac0:lW X (.builtin "len") (akH X):=by intro pins s σ H xs us Q I r h;obtain⟨p,zs,rfl,hq,hz,q⟩:=h;obtain⟨u,rfl,rx⟩:=vals1 r;cases rx;obtain⟨o,es,ep,t,e1,e2,e3,_,_,_,e4,e5⟩:s.heap.SetOf (cN X.prog X.w) p (inS zs) zs.length:=(I.hok p _ hq).1;refine call_len_set e1 e2 e3 e4 (by omega) ⟨.int zs.length,H,I.tok _,⟨s.toks+1,by rw[e5]⟩,q⟩
section
variable{X:Cx}{C:Cfg}{pos pos2 p:Pos}
theorem ahi{elt tg iter:Expr}(N')(lo)(ok:mV X scope N')(G:Good X C)(h1:X.mg "len" = none)(hi:PXI X C tg iter it)
  (bg:∀X',ji X scope N' X'->PXG X' C lo tg g) (bc:∀X',ji X scope N' X'->aai X' C ifs c) (be:∀X',ji X scope N' X'->PX X' C elt e)
  (g1:Gl X "len":=by rfl) (hs:∀x,foldedSetIterable iter X.env x=pure x:=by intro _;rfl)
  (he:starEach [.SetComp elt [⟨tg,iter,ifs,0⟩] scope pos2] X.env=(false,eval (.SetComp elt [⟨tg,iter,ifs,0⟩] scope pos2) X.env)::starEach [] X.env:=by rfl) :
  PX X C (.Call (.Name "len" p) [.SetComp elt [⟨tg,iter,ifs,0⟩] scope pos2] [] pos) (gH Nk (gr lo N'.length it g c e)):=by
 have i1:PE X (.SetComp elt [⟨tg,iter,ifs,0⟩] scope pos2) _:=aqC ok G.calm hi bg bc be hs;have i2:PE X (.Call (.Name "len" p) [.SetComp elt [⟨tg,iter,ifs,0⟩] scope pos2] [] pos) _:=Lk ac0 g1 h1 (by rfl) (jj i1 xu he) (by decide) (by decide) he rfl;refine i2.imp λσ H Q hq=>?_;obtain⟨Pr,F,env,env',d,r,e0,q⟩:=hq;obtain⟨x,aO,e1,e2⟩:=bj e0;obtain⟨e3,rfl⟩:=eY e2;unfold Nk at e3;split at e3
 ·obtain⟨zs,e4,e5⟩:=Qxy.mp e3;split at e5
  ·rename_i hz;cases e5;obtain rfl:=Vx e4;show tSC X.prog X.w N'.length (tI C it) (tG C lo g) (tT C c) (tE C e) σ H λv H1=>akH X [v] H1 Q;refine ap3 r e1 hz λd H' F' r' s' hd=>⟨d,_,rfl,hd,?_,?_⟩
   ·have:=SX.P0 zs;rw[Qqz];omega
   ·rw[Qqz];exact q _ _ _ r' s' rfl
  ·cases e5
 ·cases e3
end
variable{X:Cx}{C:Cfg}{pos pos2 p:Pos}
theorem adA{elt tg iter:Expr}(N')(lo)(ok:mV X scope N')(G:Good X C)(h1:X.mg "len" = none)(hi:SXI X C tg iter it)
  (bg:∀X',ji X scope N' X'->SXG X' C lo tg g) (bc:∀X',ji X scope N' X'->agP X' C ifs c) (be:∀X',ji X scope N' X'->SX X' C elt e)
  (g1:Gl X "len":=by rfl) (hs:∀x,foldedSetIterable iter X.env x=pure x:=by intro _;rfl)
  (he:starEach [.SetComp elt [⟨tg,iter,ifs,0⟩] scope pos2] X.env=(false,eval (.SetComp elt [⟨tg,iter,ifs,0⟩] scope pos2) X.env)::starEach [] X.env:=by rfl) :
  SX X C (.Call (.Name "len" p) [.SetComp elt [⟨tg,iter,ifs,0⟩] scope pos2] [] pos) (gH Nk (gr lo N'.length it g c e)):=
 ⟨Ev.ahi N' lo ok G h1 hi.u (λX1 h1=>(bg X1 h1).u) (λX1 h1=>(bc X1 h1).u) (λX1 h1=>(be X1 h1).u) g1 hs he⟩
open PySem PySem.Spec PySem.W PyProof.Rows L2
abbrev Pz:=List (List Nat×Option D)
def agO(P:Params)(K:Fg):Pz->List DictEntry->Prop
 | [],es=>es=[]
 | (x,od)::r,es=>∃(t:Tok) (v:Value) (rest:List DictEntry),es=⟨PyData.keyHash P (strOf x),.str (strOf x) t,v⟩::rest/\(∀d,od=some d->∃u,RelV u v/\∀F,Rep K F d u)/\agO P K r rest
def Tbl(P:Params)(K:Fg)(mg:Str->Option Value)(x:Str)(t:Pz):Prop:=∃(a:Addr) (es:Array DictEntry) (n:Nat),
 mg x=some (.ref a)/\(a == sysModules)=false/\K.lookup a=some ⟨.type "dict",none,.dict es n, #[]⟩/\agO P K t es.toList/\(t.map (·.1)).Nodup
theorem Kp{K:Fg}:∀{t} {es},agO w.params K t es->
  ∃kvs,(∀e∈es,∃k,(cN P w).is k e.key=true/\e.hash=(cN P w).hash k)/\Pairs (cN P w) es kvs/\kvs.map (·.1)=t.map (λr=>Sum.inr (strOf r.1))/\
   (∀x,(valueAt kvs (Sum.inr (strOf x))).isSome=t.any (λr=>r.1 == x))/\
   ∀x d,t.find? (λr=>r.1 == x)=some (x,some d)->∃v u,valueAt kvs (Sum.inr (strOf x))=some v/\RelV u v/\∀F,Rep K F d u
 | [],es,h=>by
  cases h;exact⟨[],by simp,.nil,rfl,λx=>rfl,λx d h=>by cases h⟩
 | (y,od)::r,es,⟨t,v,rest,e,hv,h⟩=>by
  subst e;obtain⟨kvs,h1,h2,h3,h4,h5⟩:=Kp h;have hk:(cN P w).is (Sum.inr<|strOf y) (.str (strOf y) t)=true:=Bx<|show RelV (.str<|strOf y) _ from⟨t,rfl⟩;refine⟨(Sum.inr<|strOf y,v)::kvs,?_,.cons hk rfl h2,by rw[Qq7,h3];rfl,λx=>?_,λx d h=>?_⟩
  ·intro e he;rcases Qq2.mp he with rfl|he
   ·exact⟨_,hk,rfl⟩
   ·exact h1 e he
  ·unfold valueAt at h4 ⊢;by_cases hx:y=x
   ·subst hx;simp
   ·have:=λz=>hx<|SX.oW z
    simp_all
  ·unfold valueAt at h5 ⊢;by_cases hx:y=x
   ·subst hx;simp at h;obtain⟨u,h6,h7⟩:=hv d h;exact⟨v,u,by simp,h6,h7⟩
   ·have hne:¬strOf y=strOf x:=λz=>hx<|SX.oW z;rw[List.find?_cons_of_neg (by simp[hx])] at h;obtain⟨v',u,h6,h7,h8⟩:=h5 x d h;refine⟨v',u,?_,h7,h8⟩;rw[List.find?_cons_of_neg (by simp[hne])];exact h6
theorem Av{K:Fg}(T:Tbl w.params K mg x t)(X:K.In h) :
  ∃a kvs,mg x=some (.ref a)/\(a == sysModules)=false/\h.DictOf (cN P w) a kvs/\
   (∀x,(valueAt kvs (Sum.inr (strOf x))).isSome=t.any (λr=>r.1 == x))/\
   ∀x d,t.find? (λr=>r.1 == x)=some (x,some d)->∃v u,valueAt kvs (Sum.inr (strOf x))=some v/\RelV u v/\∀F,Rep K F d u:=by
 obtain⟨a,es,n,h1,h2,h3,h4,h5⟩:=T;obtain⟨kvs,k1,k2,k3,k4,k5⟩:=Kp h4;refine⟨a,kvs,h1,h2,⟨_,es,n,X _ _ h3,⟨rfl,rfl,rfl⟩,rfl,λe he=>k1 e (by simpa using he),k2,?_⟩,k4,k5⟩;rw[k3];have:(t.map λr=>(Sum.inr (strOf r.1):Key))=(t.map (·.1)).map (λx=>Sum.inr<|strOf x):=by simp
 rw[this];exact h5.map (λx=>(Sum.inr (strOf x))) λp q hpq z=>hpq<|SX.oW<|Sum.inr.inj z
noncomputable def jM(t:Pz):D->Option D
 | .str x=>some (.bl (!t.any λr=>r.1 == x))
 | _=>none
noncomputable def lJ(t:Pz):D->Option D
 | .str x=>(match t.find? (λr=>r.1 == x) with
  | some (_,od)=>od
  | none=>none)
 | _=>none
section
variable{X:Cx}{C:Cfg}{pos p:Pos}{e:Expr}{a:Ev}{n:Str}{t:Pz}
theorem Y4(T:Tbl X.w.params X.K X.mg n t)(ha:PX X C e a)(hg:Gl X n)(hd:(n == "__debug__" )=false):PC X .NotIn e (.Name n p) (tE C (gH (jM t) a)):=by
 intro pins s σ H Q I hq;obtain⟨Pr,F,env,env',d,r,e0,q⟩:=hq;obtain⟨y,aO,e1,e2⟩:=bj e0;obtain⟨e3,rfl⟩:=eY e2;unfold jM at e3;split at e3
 ·rename_i x;cases e3;obtain⟨a0,kvs,h1,h2,_,_,_⟩:=Av (P:=X.prog) T I.Zo;refine gP (ha pins s σ H (λv H1=>v = .str (strOf x)/\Q (.bl<|!t.any λr=>r.1 == x) H1) I ⟨Pr,F,env,_,.str x,r,e1,λv H1 F1 r1 s1 p1=>⟨p1.1,q _ _ _ r1 s1 rfl⟩⟩) λu s1 ⟨v,H1,I1,rv,hv,q1⟩=>?_;subst hv;refine gP (TY (v:=.ref a0) hg h1 rfl hd pins s1 σ H1 (λv H'=>v = .ref a0/\H'=H1) I1 ⟨rfl,rfl⟩) λu2 s2 ⟨v2,H2,I2,rv2,hv2,hH2⟩=>?_;subst hv2 hH2;obtain rfl:u2=Value.ref a0:=rv2;obtain⟨a1,aum,g1,g2,g3,g4,g5⟩:=Av T I2.Zo;rw[h1] at g1;cases g1;refine wpAny_notIn_of (Bx (k:=.inr<|strOf x) rv) g2 g3.mapOf ?_;rw[g4];exact⟨.bl<|!t.any λr=>r.1 == x,H2,I2.tok _,rfl,q1⟩
 ·cases e3
theorem X8(T:Tbl X.w.params X.K X.mg n t)(ha:SX X C e a)(hg:Gl X n:=by rfl)(hm:behindInMarks .NotIn (.Name n p)=false:=by rfl)(hd:qx n:=by decide):SXT X C (.Compare e [.NotIn] [.Name n p] pos) (eN (gH (jM t) a)):=⟨(amg (Y4 T ha.u hg hd) hm).imp λσ H Q h=>Vv h⟩
theorem U8(T:Tbl X.w.params X.K X.mg n t)(G:Good X C)(ha:SX X C e a)(hg:Gl X n:=by rfl)(hs:agU e:=by intro _ _;rfl)(hd:qx n:=by decide):SX X C (.Subscript (.Name n p) e pos) (gH (lJ t) a):=⟨by
 intro pins s σ H Q I hq;obtain⟨Pr,F,env,env',d,r,e0,q⟩:=hq;obtain⟨y,aO,e1,e2⟩:=bj e0;obtain⟨e3,rfl⟩:=eY e2;unfold lJ at e3;split at e3
 ·rename_i x;split at e3
  ·rename_i x' od hf;subst e3;have hx:x'=x:=by simpa using List.find?_some hf
   subst hx;obtain⟨a0,kvs,h1,h2,_,_,_⟩:=Av (P:=X.prog) T I.Zo;refine aaz PySem.F.slot_dict_getitem.lookup hs<|gP (TY (v:=.ref a0) hg h1 rfl hd pins s σ H (λv H'=>v = .ref a0/\H'=H) I ⟨rfl,rfl⟩) λu2 s2 ⟨v2,H2,I2,rv2,hv2,hH2⟩=>?_;subst hv2 hH2;obtain rfl:u2=Value.ref a0:=rv2;refine gP (ha.u pins s2 σ H2 (λv H1=>v = .str (strOf x')/\∃F1,Rel C Pr F1 env' σ H1/\aX F F1) I2 ⟨Pr,F,env,_,.str x',r,e1,λv H1 F1 r1 s1 p1=>⟨p1.1,F1,r1,s1⟩⟩) λu s1 ⟨v,H1,I1,rv,hv,F1,r1,sF⟩=>?_;subst hv;obtain⟨a1,aum,g1,g2,g3,g4,g5⟩:=Av T I1.Zo;rw[h1] at g1;cases g1;obtain⟨w1,u1,k1,k2,k3⟩:=g5 _ _ hf;refine⟨g3.typeIs,wpAny_getItem_of (Bx (k:=.inr<|strOf x') rv) g3.mapOf k1 ⟨u1,H1,I1.tok _,k2,?_⟩⟩;exact q _ _ _ r1 sF (by rw[<-G.K];exact k3 _)
  ·cases e3
 ·cases e3⟩
end
end Ev
namespace L2
open PySem PySem.Spec PyProof.Rows
theorem aiz{k i:Nat}{p pos:Pos}
  (hN:X.N[i]? = some x) (hv:Hg X.env.scope x) (F:pP X.prog X.w X.K X.mg X.base CX k f fd ps sp) (hr:jr k X.A) (hk:PySem.W.keepIn X.K (.ref f)=true) (hb:Binds X.K fd ps ds) (hd:Vals Xc ds) (hx:Passes CX X E)
  (ha:PA X (e::es) t) (hdb:qx x:=by decide) (hcd:Bt x:=by decide) (he:starEach (e::es) X.env=(false,eval e X.env)::starEach es X.env:=by rfl) (hpl:(backTo pos (starEach es X.env)).any (·.1)=false:=by rfl) :
  PE X (.Call (.Name x p) (e::es) [] pos) (λσ H Q=>σ[i]? = some (some (.ref f))/\Qc sp Xc E t σ H Q):=by
 intro pins s σ H Q I h;obtain⟨hσ,h⟩:=h;refine wpAny_Call_Name_kw<|Qw7 (lH hN hv hdb hcd pins s σ H (λv H'=>v = .ref f/\H'=H) I ⟨_,hσ,rfl,rfl⟩) (λu s1 hu=>?_) λ_ _ z=>z;obtain⟨v',H',I1,rv,rfl,rfl⟩:=hu;obtain rfl:u=Value.ref f:=rv;exact PySem.W.callWith_K I1.ok.mod.qT hk (gP (ha pos pins s1 σ H' _ I1 h) λus s2 ⟨vs,H1,I2,r,q⟩=>⟨I2.Zo,TQ F hr hb hd hx I2 r q⟩) he hpl
end L2
namespace Ev
open PySem PySem.Spec PySem.W PySem.Calls PyProof.Rows L2
def j0(n:Str)(g:List D->Option D)(i:Nat)(a:d7):Ev:=λenv=>match env[i]? with
 | some (some (false,.clo (.Global [n'] ⟨0,0,0,0⟩) []))=>if n'=n then bindR (a env) λds aO=>fX (g ds) aO else .stuck
 | _=>.stuck
section
variable{X:Cx}{C:Cfg}{pos p:Pos}{e:Expr}{es:List Expr}{a:Ev}{ea:d7}{x n:Str}
theorem tW(i)(O:Own X.prog X.w X.K X.mg X.base n k ps (jg X.K m g))
  (L:Al X.K X.mg n (sS n)) (G:Good X C) (hr:jr k' X.A) (hk:Nat.ble k k'=true) (ha:U3 X C (e::es) ea) (hn:∀env ds env',ea env = .ok ds env'->ds.length=m)
  (hN:X.N[i]? = some x:=by rfl) (hv:Hg X.env.scope x:=by first|exact Or.inl rfl|exact Or.inr (Or.inl rfl)|exact Or.inr (Or.inr rfl)) (hdb:qx x:=by decide) (hcd:Bt x:=by decide) (he:starEach (e::es) X.env=(false,eval e X.env)::starEach es X.env:=by rfl) (hpl:(backTo pos (starEach es X.env)).any (·.1)=false:=by rfl) :
  SX X C (.Call (.Name x p) (e::es) [] pos) (j0 n g i ea):=⟨by
 intro pins s σ H Q I h;obtain⟨Pr,F,env,env',d,r,ev,q⟩:=h;unfold j0 at ev;split at ev
 ·rename_i n' h0;split at ev
  ·rename_i en;subst en;obtain⟨ds,aO,e1,e2⟩:=bj ev;obtain⟨e3,rfl⟩:=eY e2;obtain⟨v,hσ,a0,vs0,rfl,hclo,WM⟩:=r.val i _ h0;have rep0:Rep X.K F (sS n') (.ref a0):=by rw[G.K];exact⟨a0,vs0,rfl,hclo,WM⟩
   obtain⟨f,fd,h1,h2,h3,h4⟩:=O;have e5:=h2.symm.trans<|L.fn rep0;cases e5;have h1':pP X.prog X.w X.K X.mg X.base yR k a0 fd ps (jg C.K m g):=by rw[<-G.K];exact h1
   refine aiz hN hv h1' (hr.mono<|Qw5 hk) h3 h4 .nil Hq ha.u hdb hcd he hpl pins s σ H Q I ⟨hσ,Pr,F,env,_,ds,r,e1,λvs H1 F1 r1 s1 p1=>?_⟩;show jg C.K m g (vs++[]) H1 Q E0;rw[Qw1];exact⟨F1,ds,d,hn _ _ _ e1,r1.fr,p1,e3,λv H2 F2 t1 t2 t3 t4 p2=>q v H2 F2 (r1.after t1 t2 t3 t4) (s1.trans t3) p2⟩
  ·cases ev
 ·cases ev⟩
end
variable{K:Fg}
theorem FA.valAt{st:Stmt}(F:FA K x st)(a':PySem.W.nsIn K mainGlobals x=some (some v)):∃u,RelV u v/\∀F,Rep K F (sS x) u:=by obtain⟨f,oc,kV,doc,pm,cdv,ct,od,an,osl,a,l,c,k⟩:=F;rw[a] at a';cases a';exact⟨.ref f,rfl,λF=>⟨f,[],rfl,.inr<|.inl ⟨x,_,_,_,_,_,rfl,a,l⟩,rfl⟩⟩
theorem iH{zs:List (List Nat)}(hl:K.lookup b=some ⟨.type "tuple",none,.seq its n,sl⟩)
  (h:its.toList=(zs.zip ts).map λp=>Value.str (strOf p.1) p.2) (ht:ts.length=zs.length) (hz:zs.length<=100/\∀z∈zs,z.length<=100):∃u,RelV u (.ref b)/\∀F,Rep K F (.tup (zs.map .str)) u:=by
 have hs:100<=sizeLine:=by decide
 have hsz:its.size=zs.length:=by rw[<-Qz3,h,Qqz,List.length_zip,ht,Nat.min_self]
 have hv:∀(zs:List (List Nat)) ts,ts.length=zs.length->Vals (zs.map λz=>V.str<|strOf z) ((zs.zip ts).map λp=>Value.str (strOf p.1) p.2):=λzs=>by
  induction zs with
  | nil=>intro ts _;exact .nil
  | cons z zs ih=>
   intro ts hl;cases ts with
   | nil=>cases hl
   | cons t ts=>exact .cons ⟨t,rfl⟩<|ih ts (by simpa using hl)
 have hr:∀F (zs:List (List Nat)),(∀z∈zs,z.length<=sizeLine)->cD K F (zs.map .str) (zs.map λz=>V.str<|strOf z):=λF zs=>by
  induction zs with
  | nil=>intro _;exact rfl
  | cons z zs ih=>intro hz;exact⟨_,_,rfl,⟨rfl,hz z Qqw⟩,ih λy hy=>hz y<|Qqk _ hy⟩
 exact⟨.ref b,rfl,λF=>⟨by rw[Qqz];omega,b,_,rfl,.inr ⟨_,its,n,hl,rfl,rfl,rfl,by omega,by rw[h];exact hv zs ts ht⟩,hr F zs λz hz'=>Qqy (hz.2 z hz') hs⟩⟩
end Ev
namespace L2
open PySem PySem.Spec PyProof.Rows
abbrev RK:=V->St->Hp->Prop
def PZs(X:Cx)(sts:List Stmt)(t:RK->St->Hp->Prop):Prop:=
 ∀(pins:List (Addr×Obj)) (s:Shared) (σ:St) (H:Hp) (R:RK),Inv X pins σ H s->t R σ H->wpAny (model X.prog X.w) X.A (execs sts X.env) (λfl s'=>∃u v σ' H',fl = .ret u/\Inv X pins σ' H' s'/\RelV v u/\R v σ' H') X.xe s
section
variable{X:Cx}{st:Stmt}{rest:List Stmt}{e:Expr}{te:TE}{pos:Pos}
theorem ah4(h1:PS X st t)(h2:PZs X rest u):PZs X (st::rest) (λR σ H=>t { nx:=u R,rt:=λ_ _=>False } σ H):=by
 intro pins s σ H R I h;refine wpAny_execs_cons<|gP (h1 pins s σ H { nx:=u R,rt:=λ_ _=>False } I h) λf s1 q=>?_;cases f with
 | next=>
  obtain⟨σ',H',I',q⟩:=q;exact h2 pins s1 σ' H' R I' q
 | ret v=>obtain⟨_,_,_,_,_,q⟩:=q;exact q.elim
 | brk=>obtain⟨_,_,_,q⟩:=q;exact q.elim
 | cont=>obtain⟨_,_,_,q⟩:=q;exact q.elim
theorem al4(he:PE X e te):PZs X [.Return (some e) pos] (λR σ H=>te σ H λv H'=>R v σ H'):=by intro pins s σ H R I h;exact wpAny_execs_cons<|wpAny_Return_some<|gP (he pins s σ H _ I h) λv s1 ⟨x,H1,I1,r1,q1⟩=>⟨v,x,σ,H1,rfl,I1,r1,q1⟩
end
end L2
namespace Ev
open PySem PySem.Spec PyProof.Rows L2
abbrev EvZ:=Env->Option (D×Env)
abbrev MkK:=Hp->Hp->V->D->Prop
def tZ(C:Cfg)(M:MkK)(Oh:EvZ):RK->L2.St->Hp->Prop:=λR σ H=>∃(Pr F:Hp) (env:Env) (d:D) (aO:Env),Rel C Pr F env σ H/\Oh env=some (d,aO)/\
 ∀v σ' H' F' yE,Rel C yE F' aO σ' H'->aX F F'->aX Pr yE->M H' F' v d->R v σ' H'
def PXZ(X:Cx)(C:Cfg)(M:MkK)(sts:List Stmt)(Oh:EvZ):Prop:=PZs X sts (tZ C M Oh)
noncomputable def Sv(ev:cB)(Oh:EvZ):EvZ:=λenv=>match ev env with
 | .nx e=>Oh e
 | _=>none
theorem aet{st:Stmt}{rest:List Stmt}(h1:PXS X C st ev)(h2:PXZ X C M rest Oh):PXZ X C M (st::rest) (Sv ev Oh):=by
 intro pins s σ H R I ⟨Pr,F,env,d,aO,r,e,q⟩;refine ah4 h1 h2 pins s σ H R I ?_;unfold Sv at e;split at e
 ·rename_i e' he;refine⟨Pr,F,env,r,?_⟩;rw[he];exact λσ' H' F' r' s'=>⟨Pr,F',e',d,aO,r',e,λv σ2 H2 F2 Pr2 r2 s2 p2 m=>q v σ2 H2 F2 Pr2 r2 (s'.trans s2) p2 m⟩
 ·cases e
def FnAt(env:PySem.Env)(H:Hp)(f:Addr)(n q:Str)(ar:Arguments)(bd:List Stmt)(sc:Scope):Prop:=∃doc pm ctv c,H f=some (.qP (PySem.W.fnMade n q ar bd sc (ir env sc.names []) doc pm c ctv) (.own f))/\Xz H c q
theorem FnAt.same(s:∀b o u,H b=some (.qP o u)->H' b=some (.qP o u))(h:FnAt env H f n q ar bd sc):FnAt env H' f n q ar bd sc:=by obtain⟨doc,pm,ctv,c,h1,co,cu,cv,ct,h2,h3⟩:=h;exact⟨doc,pm,ctv,c,s _ _ _ h1,co,cu,cv,ct,s _ _ _ h2,h3⟩
def Mk3(K:Fg)(env:PySem.Env)(n1 q1:Str)(ar1:Arguments)(Rz:List Stmt)(K8:Scope)(n2 q2:Str)(ar2:Arguments)(Ry:List Stmt)(K7:Scope)(n3 q3:Str)(RN:Arguments)(Rx:List Stmt)(K6:Scope):MkK:=λH F v d=>
 ∃pa f1 f2 f3 vd,v = .ref pa/\H pa=some (.tup [.ref f1,vd,.ref f2,.ref f3])/\F pa=some (.tup [.ref f1,vd,.ref f2,.ref f3])/\Rep K F d vd/\FnAt env H f1 n1 q1 ar1 Rz K8/\FnAt env H f2 n2 q2 ar2 Ry K7/\FnAt env H f3 n3 q3 RN Rx K6
noncomputable def Ja(i1 i2 i3:Nat)(a:Ev):EvZ:=λenv=>match a (((env.set i1 none).set i2 none).set i3 none) with
 | .ok d aO=>some (d,aO)
 | .stuck=>none
theorem ah5
  (G:Good X C) (B:PB X.base X.mg c0 P) (hcode:X.env.code = .ref c0) (hT:X.H₀ P=some (.tab qs)) (hfn:∀y,X.fn y=true) (hN:X.N.Nodup) (hfx:∀i,C.fx i=none) (h12:i1≠i2) (h13:i1≠i3) (h23:i2≠i3)
  (D1:sO X qs i1 Qx st1 n1 ar1 Rz K8 ps1 q1) (D2:sO X qs i2 Qw st2 n2 ar2 Ry K7 ps2 q2) (D3:sO X qs i3 Qv st3 n3 RN Rx K6 ps3 q3)
  (h:PX X C e a) (hv1:(n1 == "__debug__" )=false) (hv2:(n2 == "__debug__" )=false) (hv3:(n3 == "__debug__" )=false) (hw1:(n1 == "__classdict__" )=false) (hw2:(n2 == "__classdict__" )=false) (hw3:(n3 == "__classdict__" )=false)
  (s2:starEach [e,.Name n2 pn2,.Name n3 pn3] X.env=(false,eval e X.env)::starEach [.Name n2 pn2,.Name n3 pn3] X.env) :
  PXZ X C (Mk3 C.K X.env n1 q1 ar1 Rz K8 n2 q2 ar2 Ry K7 n3 q3 RN Rx K6) [st1,st2,st3,.Return (some (.Tuple [.Name n1 pn1,e,.Name n2 pn2,.Name n3 pn3] x1 pos)) rpos] (Ja i1 i2 i3 a):=by
 intro pins s σ H R I ⟨Pr,F,env,d,aO,r,ez,q⟩;unfold Ja at ez;split at ez
 ·rename_i d' avZ ea;cases ez;have hP:∀{σ} {H} {s},Inv X pins σ H s->H P=some (.tab qs):=λI=>I.base.tabs P qs hT;have fr:∀{i} {js} {st} {n} {ar} {bd} {sc} {ps} {q},sO X qs i js st n ar bd sc ps q->∀n,(n,NameKind.free)∈sc.names->∃c,X.env.cells.lookup n=some c:=λ{i js st n ar bd sc ps q} D m hm=>I.ok.has m<|.inl<|D.fr m<|afl (by rw[D.eq];exact hm);rw[D1.eq,D2.eq,D3.eq];refine wpAny_execs_cons<|GZ I B hcode (hP I) D1.hq D1.hqs D1.hd0 D1.hk0 D1.ha D1.hqn (fr D1) hN D1.hi (.inl D1.hx) (λf1 c1 H1 ago pm1 agw s1' hf1 auM sH1 hH1 hc1 hb1 I1=>?_)<|.inl<|hfn _;refine wpAny_execs_cons<|GZ I1 B hcode (hP I1) D2.hq D2.hqs D2.hd0 D2.hk0 D2.ha D2.hqn (fr D2) hN D2.hi (.inl D2.hx) (λf2 c2 H2 agn pm2 agv s2' hf2 auL sH2 hH2 hc2 hb2 I2=>?_)<|.inl<|hfn _;refine wpAny_execs_cons<|GZ I2 B hcode (hP I2) D3.hq D3.hqs D3.hd0 D3.hk0 D3.ha D3.hqn (fr D3) hN D3.hi (.inl D3.hx) (λf3 c3 H3 agm pm3 agu s3' hf3 auK sH3 hH3 hc3 hb3 I3=>?_)<|.inl<|hfn _;have sA:aX H (upd H1 f1<|.qP (PySem.W.fnMade n1 q1 ar1 Rz K8 (ir X.env K8.names []) ago pm1 c1 agw)<|.own f1):=λb o e=>by rw[bT (dR (sH1 _ _ e) hH1)];exact sH1 _ _ e
  have sB:aX (upd H1 f1<|.qP (PySem.W.fnMade n1 q1 ar1 Rz K8 (ir X.env K8.names []) ago pm1 c1 agw)<|.own f1) (upd H2 f2<|.qP (PySem.W.fnMade n2 q2 ar2 Ry K7 (ir X.env K7.names []) agn pm2 c2 agv)<|.own f2):=λb o e=>by rw[bT (dR (sH2 _ _ e) hH2)];exact sH2 _ _ e
  have sD:aX (upd H2 f2<|.qP (PySem.W.fnMade n2 q2 ar2 Ry K7 (ir X.env K7.names []) agn pm2 c2 agv)<|.own f2) (upd H3 f3<|.qP (PySem.W.fnMade n3 q3 RN Rx K6 (ir X.env K6.names []) agm pm3 c3 agu)<|.own f3):=λb o e=>by rw[bT (dR (sH3 _ _ e) hH3)];exact sH3 _ _ e
  have r2:=(((((r.grow sA).unset (v:=.ref f1)<|hfx i1).grow sB).unset (i:=i2) (v:=.ref f2)<|hfx i2).grow sD).unset (i:=i3) (v:=.ref f3)<|hfx i3;have code:∀{G G':Hp} {f c} {o} {q},Xz G c q->c≠f->Xz (upd G f o) c q:=λ{G G' f c o q} ⟨co,cu,cv,ct,g1,g2⟩ hn=>⟨co,cu,cv,ct,by rw[bT hn];exact g1,g2⟩;have F1:FnAt X.env (upd H1 f1<|.qP (PySem.W.fnMade n1 q1 ar1 Rz K8 (ir X.env K8.names []) ago pm1 c1 agw)<|.own f1) f1 n1 q1 ar1 Rz K8:=⟨ago,pm1,agw,c1,bz,code (G':=H1) hc1 auM⟩;have F2:FnAt X.env (upd H2 f2<|.qP (PySem.W.fnMade n2 q2 ar2 Ry K7 (ir X.env K7.names []) agn pm2 c2 agv)<|.own f2) f2 n2 q2 ar2 Ry K7:=⟨agn,pm2,agv,c2,bz,code (G':=H1) hc2 auL⟩;have F3:FnAt X.env (upd H3 f3<|.qP (PySem.W.fnMade n3 q3 RN Rx K6 (ir X.env K6.names []) agm pm3 c3 agu)<|.own f3) f3 n3 q3 RN Rx K6:=⟨agm,pm3,agu,c3,bz,code (G':=H1) hc3 auK⟩;have F1:=F1.same λb o u e=>sD _ _<|sB _ _ e;have F2:=F2.same λb o u e=>sD _ _ e;generalize upd H3 f3 (.qP (PySem.W.fnMade n3 q3 RN Rx K6 (ir X.env K6.names []) agm pm3 c3 agu)<|.own f3)=HH at *
  -- what is made stands still
  have hold:∀{Pr} {env} {σ} {f} {n q} {ar} {bd} {sc},Rel C Pr F env σ HH->FnAt X.env HH f n q ar bd sc->∃yE,Rel C yE F env σ HH/\aX Pr yE/\∀Pr2 F2 fP σ2 H2,aX yE Pr2->aX F F2->Rel C Pr2 F2 fP σ2 H2->FnAt X.env H2 f n q ar bd sc:=λ{Pr env σ f n q ar bd sc} r ⟨doc,pm,ctv,c,g1,co,cu,cv,ct,g2,g3⟩=>by
   obtain⟨Pr1,r1,sP1,w1⟩:=r.ak4 g1;obtain⟨Pr2,r2,sP2,w2⟩:=r1.ak4 g2;refine⟨Pr2,r2,sP1.trans sP2,λPr3 F3 JX σ3 H3 sp sf r3=>⟨doc,pm,ctv,c,?_,co,cu,cv,ct,?_,g3⟩⟩
   ·rcases w1 with z|z
    ·exact r3.pr _ _<|sp _ _<|sP2 _ _ z
    ·exact r3.fr _ _<|sf _ _ z
   ·rcases w2 with z|z
    ·exact r3.pr _ _<|sp _ _ z
    ·exact r3.fr _ _<|sf _ _ z
  obtain⟨Pr1,r3,sP1,k1⟩:=hold r2 F1;obtain⟨Pr2,r4,sP2,k2⟩:=hold r3 F2;obtain⟨Pr3,r5,sP3,k3⟩:=hold r4 F3;have l1:i1<σ.length:=by rw[I.len];exact(Qq9.mp D1.hi).1
  have l2:i2<σ.length:=by rw[I.len];exact(Qq9.mp D2.hi).1
  have l3:i3<σ.length:=by rw[I.len];exact(Qq9.mp D3.hi).1
  generalize hσ:((σ.set i1<|some<|V.ref f1).set i2<|some<|V.ref f2).set i3 (some<|V.ref f3)=σ3 at *;have hσ1:σ3[i1]? = some (some<|V.ref f1):=by rw[<-hσ];grind
  have hσ2:σ3[i2]? = some (some<|V.ref f2):=by rw[<-hσ];grind
  have hσ3:σ3[i3]? = some (some<|V.ref f3):=by rw[<-hσ];grind
  have hA:PA X [.Name n1 pn1,e,.Name n2 pn2,.Name n3 pn3] (Hn (adX i1)<|Hn (tE C a)<|Hn (adX i2)<|Hn (adX i3) alI):=
   jj (lH D1.hi (.inl D1.hx) hv1 hw1) (jj h (jj (lH D2.hi (.inl D2.hx) hv2 hw2) (jj (lH D3.hi (.inl D3.hx) hv3 hw3) xu rfl) rfl) s2) rfl
  refine al4 (aeO hA) pins s3' σ3 HH R I3 ?_;refine⟨_,hσ1,Pr3,F,_,aO,d,r5,ea,λvd H4 F4 r6 s6 p6=>⟨_,hσ2,_,hσ3,by show 4<=sizeLine;decide,λpa hpa=>?_⟩⟩;obtain⟨r7,s7⟩:=r6.new (o:=.tup [.ref f1,vd,.ref f2,.ref f3]) hpa;have up:∀b o u,H4 b=some (.qP o u)->upd H4 pa (.tup [.ref f1,vd,.ref f2,.ref f3]) b=some (.qP o u):=λb o u e=>by rw[bT λz=>?_];exact e;subst z;rw[hpa] at e;cases e
  refine q _ σ3 _ _ Pr3 r7 (s6.trans s7) ((sP1.trans sP2).trans sP3) ⟨pa,f1,f2,f3,vd,rfl,bz,bz,Rep.mono s7 _ _ p6,?_,?_,?_⟩
  ·exact(k1 Pr3 F4 aO σ3 H4 (sP2.trans sP3) s6 r6).same up
  ·exact(k2 Pr3 F4 aO σ3 H4 sP3 s6 r6).same up
  ·exact(k3 Pr3 F4 aO σ3 H4 (aX.refl _) s6 r6).same up
 ·cases ez
def Yq(K:Fg)(n:Nat)(f:List D->Option D):Sp:=λvs H Q _=>∃(F:Hp) (ds:List D) (d:D),ds.length=n/\aX F H/\cD K F ds vs/\f ds=some d/\
 ∀v H' F',aX H H'->aX F' H'->aX F F'->(∀b o,F' b=some o->F b=some o\/H b=none\/∃ob u,o = .qP ob u)->Rep K F' d v->Q v H'
def Ed(n:Nat)(Oh:EvZ)(st1 st2 st3:Stmt)(Qx Qw Qv:List Nat)(ds:List D):Option D:=match Oh (envOf n ds) with
 | some (d,aO)=>(match Hc aO Qx,Hc aO Qw,Hc aO Qv with
  | some c1,some c2,some c3=>some (.tup [.clo st1 c1,d,.clo st2 c2,.clo st3 c3])
  | _,_,_=>none)
 | none=>none
open Classical in
theorem anb{K:Fg}{σ':L2.St}
 
  (J:Inv (Ag yR P w K mg base N qual sc f cd A outer s H E) [] σ' H' s') (r:Rel C yE F' aO σ' H')
  (D1:sO (Ag yR P w K mg base N qual sc f cd A outer s H E) qs i1 Qx st1 n1 ar1 Rz K8 ps1 q1) (D2:sO (Ag yR P w K mg base N qual sc f cd A outer s H E) qs i2 Qw st2 n2 ar2 Ry K7 ps2 q2) (D3:sO (Ag yR P w K mg base N qual sc f cd A outer s H E) qs i3 Qv st3 n3 RN Rx K6 ps3 q3)
  (M:Mk3 C.K (envOfC qual sc s.heap.objs.size f cd) n1 q1 ar1 Rz K8 n2 q2 ar2 Ry K7 n3 q3 RN Rx K6 H' F' v d) (e1:Hc aO Qx=some c1) (e2:Hc aO Qw=some c2) (e3:Hc aO Qv=some c3)
  (hfn:∀y,(Ag yR P w K mg base N qual sc f cd A outer s H E).fn y=true) (g1:Ww st1=false) (g2:Ww st2=false) (g3:Ww st3=false) :
  ∃H2 Fp,Un (frs outer) [] H H2 s.heap s'.heap/\Ak P w H2 s'.heap/\aX H' H2/\aX Fp H2/\aX F' Fp/\(∀b o,Fp b=some o->F' b=some o\/∃ob u,o = .qP ob u)/\Rep C.K Fp (.tup [.clo st1 c1,d,.clo st2 c2,.clo st3 c3]) v:=by
 generalize hX:Ag yR P w K mg base N qual sc f cd A outer s H E=X at *;have hXe:X.env=envOfC qual sc s.heap.objs.size f cd:=by rw[<-hX];rfl
 obtain⟨pa,f1,f2,f3,vd,rfl,hpa,hfa,pd,⟨ago,pm1,agw,k1,m1,co1,cu1,cv1,ct1,m1',g1b⟩,⟨agn,pm2,agv,k2,m2,co2,cu2,cv2,ct2,m2',g2b⟩,⟨agm,pm3,agu,k3,m3,co3,cu3,cv3,ct3,m3',g3b⟩⟩:=M;rw[<-hXe] at m1 m2 m3
 let xs0:=freeOf st1++(freeOf st2++freeOf st3)
 let Cs:=(clL X.env xs0).map (·.2)
 have cell:∀y∈xs0,X.env.scope.names.lookup y=some .cell:=λy hy=>by
  rcases Qq6.mp hy with hy|hy
  ·exact D1.fr y hy
  ·exact(Qq6.mp hy).elim (D2.fr y)<|D3.fr y
 have hC:∀c∈Cs,∃y,X.env.cells.lookup y=some c/\X.fn y=true:=λc hc=>by
  obtain⟨q,hq,rfl⟩:=Qwv.mp hc;obtain⟨y,hy,rfl⟩:=Qwv.mp hq;obtain⟨c,hc⟩:=J.ok.has y<|.inl<|cell y hy;refine⟨y,?_,hfn y⟩;simp only[hc,Option.getD_some]
 have cn:∀c∈Cs,H' c=none/\(∃o,s'.heap.get? c=some o)/\X.s₀.heap.objs.size<=c:=λc hc=>by
  obtain⟨y,e1,e2⟩:=hC c hc;refine⟨(J.yI y c e1).resolve_right λz=>(by simp_all),?_,J.ok.cab y c e2 e1⟩;obtain⟨v,o,ho,_⟩:=J.cell y c e1;exact⟨o,ho⟩
 have nC:∀b u,H' b=some u->b ∉ Cs:=λb u e hb=>by have:=(cn b hb).1;simp_all
 have up:∀b u,H' b=some u->uX s'.heap Cs H' b=some u:=λb u e=>by rw[uW (nC b u e)];exact e
 let Sp:=pa::f1::f2::f3::k1::k2::k3::Cs
 let Fp:Hp:=λb=>if b∈Sp then uX s'.heap Cs H' b else F' b
 have Og:∀b,b∈Sp->Fp b=uX s'.heap Cs H' b:=λb hb=>if_pos hb;have aak:∀b,b ∉ Sp->Fp b=F' b:=λb hb=>if_neg hb;have sFp:aX F' Fp:=λb o e=>by
  by_cases hb:b∈Sp
  ·rw[Og b hb];exact up _ _<|r.fr _ _ e
  ·rw[aak b hb];exact e
 have atV:aX Fp (uX s'.heap Cs H'):=λb o e=>by
  by_cases hb:b∈Sp
  ·rw[Og b hb] at e;exact e
  ·rw[aak b hb] at e;exact up _ _<|r.fr _ _ e
 have inC:∀c∈Cs,c∈Sp:=λc hc=>by simp only[Sp,Qq2];simp[hc]
 have hFc:∀c o,s'.heap.get? c=some o->(∃y,X.env.cells.lookup y=some c/\y∈xs0)->Fp c=some (.qP o<|.own c):=λc o e ⟨y,hy,hm⟩=>by
  have hc:c∈Cs:=Qwv.mpr ⟨(y,c),Qwv.mpr ⟨y,hm,by simp_all⟩,rfl⟩;rw[Og c (inC c hc)];exact Dm hc e
 have nda:∀xs,xs.Nodup->(∀y∈xs,X.env.scope.names.lookup y=some .cell)->((clL X.env xs).map (·.2)).Nodup:=by
  intro xs
  induction xs with
  | nil=>intro _ _;exact .nil
  | cons y ys ih=>
   intro hn hy;show((X.env.cells.lookup y).getD 0::(clL X.env ys).map (·.2)).Nodup;refine Qxj.mpr ⟨λhm=>?_,ih (Qxj.mp hn).2 λz hz=>hy z<|Qqk _ hz⟩;obtain⟨q,hq,eq⟩:=Qwv.mp hm;obtain⟨z,hz,rfl⟩:=Qwv.mp hq;obtain⟨cy,hcy⟩:=J.ok.has y<|.inl<|hy y Qqw;obtain⟨cz,hcz⟩:=J.ok.has z<|.inl<|hy z<|Qqk _ hz;simp only[hcy,hcz,Option.getD_some] at eq;subst eq;exact(Qxj.mp hn).1<|J.ok.inj y z _ hcy hcz ▸ hz
 have anc:∀xs,(clL X.env xs).map (·.1)=xs:=λxs=>by
  induction xs with
  | nil=>rfl
  | cons y ys ih=>exact Qx7 (y :: ·) ih
 have clo:∀{i} {js} {st} {n} {ar} {bd} {sc} {ps} {q} {cp} {f c} {doc pm ctv} {co} {cu} {cv} {ct},sO X qs i js st n ar bd sc ps q->(∀y∈freeOf st,y∈xs0)->Hc aO js=some cp->Ww st=false->f∈Sp->c∈Sp->
   H' f=some (.qP (PySem.W.fnMade n q ar bd sc (ir X.env sc.names []) doc pm c ctv)<|.own f)->H' c=some (.qP co cu)->(co.data = .fields cv/\cv[1]? = some (.str q ct))->Rep C.K Fp (.clo st cp) (.ref f):=λ{i js st n ar bd sc ps q cp f c doc pm ctv co cu cv ct} D hx ec hg hf hc mf mc gb=>by
  obtain⟨us,rp,ca⟩:=aa9 (xs0:=xs0) J r hFc sFp D.sl (λy hy=>⟨D.fr y hy,hx y hy⟩) ec;have eS:=D.eq;have e5:ir X.env sc.names []=clL X.env (freeOf st):=by have:=ajS X.env st;rw[eS] at this ⊢;exact this
  refine⟨f,us,rfl,.inl ⟨⟨.own f,q,clL X.env<|freeOf st,doc,pm,ctv,c,?_,⟨co,cu,cv,ct,?_,gb⟩,anc _,nda _ D.fnd D.fr,ca⟩,hg⟩,rp⟩
  ·rw[Og f hf,up _ _ mf,<-e5,eS];rfl
  ·rw[Og c hc,up _ _ mc]
 have m_:∀{b},b=pa\/b=f1\/b=f2\/b=f3\/b=k1\/b=k2\/b=k3->b∈Sp:=λ{b} h=>by
  simp only[Sp,Qq2];rcases h with h|h|h|h|h|h|h<;>simp[h]
 have k_1:=clo D1 (λy hy=>List.mem_append_left _ hy) e1 g1 (m_ (by simp)) (m_ (by simp)) m1 m1' g1b;have k_2:=clo D2 (λy hy=>Qwz _<|List.mem_append_left _ hy) e2 g2 (m_ (by simp)) (m_ (by simp)) m2 m2' g2b;have k_3:=clo D3 (λy hy=>Qwz _<|Qwz _ hy) e3 g3 (m_ (by simp)) (m_ (by simp)) m3 m3' g3b;have un:=J.base;have fs:X.fs=frs outer:=by rw[<-hX];rfl
 have ex:X.ex=[]:=by rw[<-hX];rfl
 have h0:X.H₀=H:=by rw[<-hX];rfl
 have hs0:X.s₀=s:=by rw[<-hX];rfl
 rw[fs,ex,h0,hs0] at un;refine⟨uX s'.heap Cs H',Fp,⟨un.keep,un.slot,λb o e n hx=>?_,un.there,λb xs e=>up _ _<|un.tups b xs e,λb o u e=>up _ _<|un.JW b o u e,λb ps e=>?_,λb qs e=>up _ _<|un.tabs b qs e⟩,λb o e=>?_,λb o e=>up _ _ e,atV,sFp,λb o e=>?_,⟨by show 4<=sizeLine;decide,pa,[.ref f1,vd,.ref f2,.ref f3],rfl,?_,?_⟩⟩
 ·rw[uW λhb=>?_]
  ·exact un.free b o e n hx
  ·have:=(cn b hb).2.2;rw[hs0] at this;exact absurd (Qwx (Qq3 e) this)<|Qx3 _
 ·obtain⟨more,e'⟩:=un.SN b ps e;exact⟨more,up _ _ e'⟩
 ·have hpr:X.prog=P:=by rw[<-hX];rfl
  have hw:X.w=w:=by rw[<-hX];rfl
  by_cases hb:b∈Cs
  ·obtain⟨_,⟨ob,ho⟩,_⟩:=cn b hb;rw[Dm hb ho] at e;cases e;exact⟨ho,ob,ho⟩
  ·rw[uW hb] at e;have:=J.hok b o e;rw[hpr,hw] at this;exact this.stay (λ_ _ _ q=>q) (λc q=>up _ _ q) (λc xs q=>up _ _ q) λc _ _ _ _ q=>up _ _ q
 ·by_cases hb:b∈Sp
  ·rw[Og b hb] at e;by_cases hc:b∈Cs
   ·obtain⟨_,⟨ob,ho⟩,_⟩:=cn b hc;rw[Dm hc ho] at e;cases e;exact .inr ⟨_,_,rfl⟩
   ·rw[uW hc] at e;simp only[Sp,Qq2] at hb;rcases hb with rfl|rfl|rfl|rfl|rfl|rfl|rfl|hb
    ·rw[hpa] at e;cases e;exact .inl hfa
    ·rw[m1] at e;cases e;exact .inr ⟨_,_,rfl⟩
    ·rw[m2] at e;cases e;exact .inr ⟨_,_,rfl⟩
    ·rw[m3] at e;cases e;exact .inr ⟨_,_,rfl⟩
    ·rw[m1'] at e;cases e;exact .inr ⟨_,_,rfl⟩
    ·rw[m2'] at e;cases e;exact .inr ⟨_,_,rfl⟩
    ·rw[m3'] at e;cases e;exact .inr ⟨_,_,rfl⟩
    ·exact absurd hb hc
  ·rw[aak b hb] at e;exact .inl e
 ·exact qe.of (by rw[Og pa (m_ (by simp)),up _ _ hpa])
 ·exact⟨_,_,rfl,k_1,_,_,rfl,Rep.mono sFp _ _ pd,_,_,rfl,k_2,_,_,rfl,k_3,rfl⟩
open PySem PySem.Spec PySem.W PyProof.Rows L2
section
variable{P:Program}{w:World}{K:Fg}{mg:Str->Option Value}{base:Heap}{T:Hp}
structure alp(qs:List (Pos×Str))(i1 i2 i3:Nat)(Qx Qw Qv:List Nat)(st1 st2 st3:Stmt)(n1 q1:Str)(ar1:Arguments)(Rz:List Stmt)(K8:Scope)(ps1:Pos)(n2 q2:Str)(ar2:Arguments)(Ry:List Stmt)(K7:Scope)(ps2:Pos)(n3 q3:Str)(RN:Arguments)(Rx:List Stmt)(K6:Scope)(ps3:Pos)(X:Cx):Prop where
 d1:sO X qs i1 Qx st1 n1 ar1 Rz K8 ps1 q1
 d2:sO X qs i2 Qw st2 n2 ar2 Ry K7 ps2 q2
 d3:sO X qs i3 Qv st3 n3 RN Rx K6 ps3 q3
theorem sO.nox{st:Stmt}(h:sO X.nox qs i js st n args body sc pos qual):sO X qs i js st n args body sc pos qual:=⟨h.eq,h.hq,h.hqs,h.hd0,h.hk0,h.ha,h.hqn,h.fr,h.fnd,h.hi,h.hx,h.sl⟩
variable{x:Str}{st:Stmt}{N ps:List Str}{k:Nat}{Oh:EvZ}{qs:List (Pos×Str)}
  {i1 i2 i3:Nat} {Qx Qw Qv:List Nat} {st1 st2 st3:Stmt} {n1 n2 n3:Str} {ar1 ar2 RN:Arguments} {Rz Ry Rx:List Stmt} {K8 K7 K6:Scope} {ps1 ps2 ps3:Pos} {q1 q2 q3:Str}
theorem aaM(F:agX K mg x st ps c)(S:bf N ps (aG st))(g1:Ww st1=false)(g2:Ww st2=false)(g3:Ww st3=false)
  (hb:∀f A outer s H E,aX T H->jr k (A.deeper (envOfC x (aG st) s.heap.objs.size f (.ref c)))->Good (bx P w K mg base N x st f (.ref c) A outer s H E) (C0 K)->
   PXZ (bx P w K mg base N x st f (.ref c) A outer s H E) (C0 K) (Mk3 K (bx P w K mg base N x st f (.ref c) A outer s H E).env n1 q1 ar1 Rz K8 n2 q2 ar2 Ry K7 n3 q3 RN Rx K6) (dB st) Oh/\
   alp qs i1 i2 i3 Qx Qw Qv st1 st2 st3 n1 q1 ar1 Rz K8 ps1 n2 q2 ar2 Ry K7 ps2 n3 q3 RN Rx K6 ps3 (bx P w K mg base N x st f (.ref c) A outer s H E)) :
  Own P w K mg base x (k+1) ps (spT T (Yq K ps.length (Ed N.length Oh st1 st2 st3 Qx Qw Qv))):=by
 obtain⟨f,fd,h1,h2,h3,h4⟩:=F;obtain⟨oc,od,kV,doc,pm,an,au5,ct,osl,rfl,lk,hcd⟩:=h1.ex;have hcv:=h4;subst hcv;refine⟨f,_,?_,h2,h1.kp,h3⟩;refine⟨λvs H Q E h=>?_,λA outer s H args us vs Q E hr e0 hbd r hsp=>?_⟩
 ·obtain⟨_,F0,ds,d,hl,_,p,_⟩:=h;rw[p.length,hl]
 obtain⟨hT,F0,ds,d,hl,sF,p,e,q⟩:=hsp;have hlv:vs.length=ps.length:=by rw[p.length,hl]
 have KX:=e0.mod.qT.keeps λb o e=>(e0.bs b o e).1;have lim:=e0.mod.nolimit.keeps λb o e=>(e0.bs b o e).1;have hkind:∀y∈ps.zip us,(aG st).names.lookup y.1=some .local\/((aG st).names.lookup y.1=some .cell/\((cellsFrom (s.heap.objs.size+1) (aG st).names []).lookup y.1).isSome=true):=λ⟨n,v⟩ hy=>by
  rcases S.par n (List.of_mem_zip hy).1 with q|q
  ·exact .inl q
  ·exact .inr ⟨q,PySem.W.cellsFrom_some _ _ _<|.inl q⟩
 refine codeAny_call_function hr.depth (KX _ _ lk) rfl S.co S.gen rfl (PySem.W.codeRec_of KX hcd) (hbd _ _ _ _ ?_);refine wpAny_newFunctionEnv_cells S.kind hkind λenv he s1 xx=>?_;subst he;refine⟨lim.keeps xx.toInCall.keep,codeAny_func ?_⟩;have I:Inv (Ag yR P w K mg base N x (aG st) f (.ref c) A outer s H E) [] (start N vs) H s1:=QC S hr.hd e0 hlv r xx;have hr':jr k (A.deeper<|envOfC x (aG st) s.heap.objs.size f<|.ref c):=hr.deeper _;obtain⟨hz,D⟩:=hb f A outer s H E hT hr'<|Cj rfl hr';unfold Ed at e;split at e
 ·rename_i dd aO ez;split at e
  ·rename_i cp1 cp2 cp3 ec1 ec2 ec3;cases e;refine Qw7 (hz [] s1 (start N vs) H (λv σ' H'=>∃F' yE,Rel (C0 K) yE F' aO σ' H'/\aX F0 F'/\aX (Mi H F0) yE/\Mk3 K (bx P w K mg base N x st f (.ref c) A outer s H E).env n1 q1 ar1 Rz K8 n2 q2 ar2 Ry K7 n3 q3 RN Rx K6 H' F' v dd) (I.wish _) ⟨Mi H F0,F0,envOf N.length ds,dd,aO,ym sF p,ez,λv σ' H' F' yE r' s' p' m=>⟨F',yE,r',s',p',m⟩⟩) (λfl s' hs=>?_) λe s' hs=>hs.elim;obtain⟨u,v,σ',H',rfl,J,rv,F',yE,r',s',p',m⟩:=hs;obtain⟨H2,Fp,u1,u2,u3,u4,u5,u6,u7⟩:=anb (J.wish _) r' D.d1.nox D.d2.nox D.d3.nox m ec1 ec2 ec3 (λ_=>rfl) g1 g2 g3;exact⟨v,H2,J.os,J.bare,u1,u2,rv,q v H2 Fp ((aX.El (λb o e=>r'.pr b o<|p' b o e) s' r'.fr sF).trans u3) u4 (s'.trans u5) (λb o e=>by
    rcases u6 b o e with z|z
    ·exact(En s' (λb o e=>by
      cases g:Mi H F0 b with
      | none=>rfl
      | some w=>have:=r'.dj b o e;rw[p' b w g] at this;cases this) b o z).imp id .inl
    ·exact .inr<|.inr z) u7⟩
  ·cases e
 ·cases e
end
def vQ(g fm:List D->Option D)(a1:Ev)(am:d7)(a3:Ev):Ev:=λenv=>bindR (a1 env) λd1 e1=>bindR (am e1) λds e2=>match fm ds with
 | some dp=>bindR (a3 e2) λd3 e3=>(match g [d1,dp,d3] with
  | some d=>if aaD d=true then .ok d e3 else .stuck
  | none=>.stuck)
 | none=>.stuck
open Classical in
theorem Rel.ajf{Pr F Fm:Hp}(r:Rel C Pr F env σ H1)(s:aX H1 H)(sm:aX Fm H)(sF:aX F Fm)(nw:∀b o,Fm b=some o->F b=some o\/H1 b=none\/∃ob u,o = .qP ob u) :
  ∃yE,Rel C yE F env σ H/\aX Pr yE/\∀b o,Fm b=some o->F b=some o\/yE b=some o:=by
 have r1:=r.grow s
 let yE:Hp:=λb=>match Pr b with
  | some o=>some o
  | none=>if F b=none then Fm b else none
 have pS:∀b o,Pr b=some o->yE b=some o:=λb o e=>by simp[yE,e]
 have pN:∀b,Pr b=none->F b=none->yE b=Fm b:=λb e1 e2=>by simp[yE,e1,e2,if_true]
 have pF:∀b o,F b=some o->yE b=none:=λb o e=>by simp only[yE,r1.dj b o e,e];simp
 refine⟨yE,⟨λb o e=>?_,r1.fr,r1.len,r1.val,λj d he=>?_,r1.apart,λb o e=>pF b o e,r1.fix⟩,pS,λb o e=>?_⟩
 ·cases h:Pr b with
  | some w=>rw[pS b w h] at e;cases e;exact r1.pr b _ h
  | none=>
   cases h2:F b with
   | some w=>rw[pF b w h2] at e;cases e
   | none=>rw[pN b h h2] at e;exact sm b o e
 ·obtain⟨a,h1,h2,h3,h4⟩:=r1.own j d he;refine⟨a,h1,h2,h3,?_⟩;rw[pN a h4 h3];cases e:Fm a with
  | none=>rfl
  | some o=>
   obtain⟨a',g1,g2,_,_⟩:=r.own j d he;rw[h1] at g1;cases g1;obtain⟨w,hw⟩:=g2.some;rcases nw a o e with z|z|⟨ob,u,rfl⟩
   ·rw[h3] at z;cases z
   ·rw[hw] at z;cases z
   ·have hz:=sm a _ e;rw[s a w hw] at hz;cases hz;cases d with
    | lst xs=>obtain⟨_,vs,g,_⟩:=g2;rw[hw] at g;cases g
    | dct xs=>obtain⟨_,vs,g,_⟩:=g2;rw[hw] at g;cases g
    | G8 xs=>obtain⟨_,vs,g,_⟩:=g2;rw[hw] at g;cases g
    | _=>exact g2.elim
 ·cases h2:F b with
  | some w=>have:=sF b w h2;rw[e] at this;cases this;exact .inl rfl
  | none=>
   cases h:Pr b with
   | some w=>
    have g1:=r1.pr b w h;have g2:=sm b o e;rw[g1] at g2;cases g2;exact .inr<|pS b _ h
   | none=>exact .inr (by rw[pN b h h2];exact e)
section
variable{X:Cx}{C:Cfg}{T:Hp}{pos p pm Mg:Pos}{n m:Str}{e1 e3 em:Expr}{es:List Expr}{a1 a3:Ev}{am:d7}
end
noncomputable def vO:Ev:=λ_=>.stuck
noncomputable def sE(a b:Ev):Ev:=λenv=>match a env with
 | .ok d e=>.ok d e
 | .stuck=>b env
section
variable{X:Cx}{C:Cfg}{T:Hp}{e:Expr}{es:List Expr}{sts:List Stmt}{st:Stmt}{rest:List Stmt}{a b:Ev}{ea:d7}{x n m:Str}{p pos pm Mg:Pos}{e1 e3 em:Expr}{a1 a3:Ev}{am:d7}
end
variable{X:Cx}{C:Cfg}{T:Hp}{e:Expr}{es:List Expr}{sts:List Stmt}{st:Stmt}{rest:List Stmt}{a b:Ev}{ea:d7}{x n m:Str}{p pos pm Mg:Pos}{e1 e3 em:Expr}{a1 a3:Ev}{am:d7}
theorem uD:SX X C e vO:=⟨λpins s σ H Q I h=>by
 obtain⟨_,_,_,_,_,_,e,_⟩:=h;cases e⟩
theorem mX:dG X C sts uZ:=⟨λpins s σ H D I h=>by
 obtain⟨_,_,_,_,f⟩:=h;exact f.elim⟩
theorem Sx{k k' m:Nat}(i)(O:Own X.prog X.w X.K X.mg X.base n k ps (spT T (jg X.K m g)))
  (L:Al X.K X.mg n (sS n)) (hT:aX T X.H₀) (hO:uQ T) (G:Good X C) (hr:jr k' X.A) (hk:Nat.ble k k'=true) (ha:U3 X C (e::es) ea) (hn:∀env ds env',ea env = .ok ds env'->ds.length=m)
  (hN:X.N[i]? = some x:=by rfl) (hv:Hg X.env.scope x:=by first|exact Or.inl rfl|exact Or.inr (Or.inl rfl)|exact Or.inr (Or.inr rfl)) (hdb:qx x:=by decide) (hcd:Bt x:=by decide) (he:starEach (e::es) X.env=(false,eval e X.env)::starEach es X.env:=by rfl) (hpl:(backTo pos (starEach es X.env)).any (·.1)=false:=by rfl) :
  SX X C (.Call (.Name x p) (e::es) [] pos) (j0 n g i ea):=⟨by
 intro pins s σ H Q I h;obtain⟨Pr,F,env,env',d,r,ev,q⟩:=h;unfold j0 at ev;split at ev
 ·rename_i n' h0;split at ev
  ·rename_i en;subst en;obtain⟨ds,aO,e1,e2⟩:=bj ev;obtain⟨e3,rfl⟩:=eY e2;obtain⟨v,hσ,a0,vs0,rfl,hclo,WM⟩:=r.val i _ h0;have rep0:Rep X.K F (sS n') (.ref a0):=by rw[G.K];exact⟨a0,vs0,rfl,hclo,WM⟩
   obtain⟨f,fd,h1,h2,h3,h4⟩:=O;have e5:=h2.symm.trans<|L.fn rep0;cases e5;have h1':pP X.prog X.w X.K X.mg X.base yR k a0 fd ps (spT T<|jg C.K m g):=by rw[<-G.K];exact h1
   refine aiy hN hv h1' hT hO (hr.mono<|Qw5 hk) h3 h4 .nil Hq ha.u hdb hcd he hpl pins s σ H Q I ⟨hσ,Pr,F,env,_,ds,r,e1,λvs H1 F1 r1 s1 p1=>?_⟩;show jg C.K m g (vs++[]) H1 Q E0;rw[Qw1];exact⟨F1,ds,d,hn _ _ _ e1,r1.fr,p1,e3,λv H2 F2 t1 t2 t3 t4 p2=>q v H2 F2 (r1.after t1 t2 t3 t4) (s1.trans t3) p2⟩
  ·cases ev
 ·cases ev⟩
theorem qy(h1:SX X C e a)(h2:SX X C e b):SX X C e (sE a b):=⟨λpins s σ H Q I h=>by
 obtain⟨Pr,F,env,env',d,r,ev,q⟩:=h;unfold sE at ev;cases ha:a env with
 | ok d0 e0=>rw[ha] at ev;exact h1.u pins s σ H Q I ⟨Pr,F,env,env',d,r,by rw[ha];exact ev,q⟩
 | stuck=>rw[ha] at ev;exact h2.u pins s σ H Q I ⟨Pr,F,env,env',d,r,ev,q⟩⟩
theorem Sw(O:Own X.prog X.w X.K X.mg X.base n k ps (jg X.K 3 g))(Om:Own X.prog X.w X.K X.mg X.base m km psm (spT T (Yq X.K nm fm)))(hT:aX T X.H₀)(hO:uQ T)(G:Good X C)(hr:jr k' X.A)(hk:Nat.ble k k'=true)(hkm:Nat.ble km k'=true)
  (h1:SX X C e1 a1) (hm:U3 X C (em::es) am) (h3:SX X C e3 a3) (hn:∀env ds env',am env = .ok ds env'->ds.length=nm)
  (hg:Gl X n:=by rfl) (hgm:Gl X m:=by rfl) (hdb:qx n:=by decide) (hdm:qx m:=by decide)
  (hem:starEach (em::es) X.env=(false,eval em X.env)::starEach es X.env:=by rfl) (auG:(backTo Mg (starEach es X.env)).any (·.1)=false:=by rfl)
  (s1:starEach [e1,.Call (.Name m pm) (em::es) [] Mg,e3] X.env=(false,eval e1 X.env)::starEach [.Call (.Name m pm) (em::es) [] Mg,e3] X.env:=by rfl) (s3:sEn e3 X.env:=by rfl)
  (s2:starEach [.Call (.Name m pm) (em::es) [] Mg,e3] X.env=(false,eval (.Call (.Name m pm) (em::es) [] Mg) X.env)::starEach [e3] X.env:=by rfl) (hpl:(backTo pos (starEach [.Call (.Name m pm) (em::es) [] Mg,e3] X.env)).any (·.1)=false:=by rfl) :
  SX X C (.Call (.Name n p) [e1,.Call (.Name m pm) (em::es) [] Mg,e3] [] pos) (vQ g fm a1 am a3):=
 ⟨by
 obtain⟨f,fd,o1,o2,o3,o4⟩:=O;obtain⟨fmk,fdm,m1,m2,m3,m4⟩:=Om;have i2:PE X (.Call (.Name m pm) (em::es) [] Mg) (Qc (Yq X.K nm fm) [] E0<|tA C am):=V7 m1 hT hO (hr.mono<|Qw5 hkm) hgm m2 m3 m4 .nil Hq hm.u hdm hem auG;have hA:=jj h1.u (jj i2 (jj h3.u xu s3) s2) s1;refine(Ka o1 (hr.mono<|Qw5 hk) hg o2 o3 o4 .nil Hq hA hdb s1 hpl).imp λσ H Q hq=>?_;obtain⟨Pr,F,env,env',d,r,ev,q⟩:=hq;obtain⟨d1,ev1,b1,ev⟩:=bj ev;obtain⟨ds,ev2,b2,ev⟩:=bj ev;split at ev
 ·rename_i dp hdp;obtain⟨d3,ev3,b3,ev⟩:=bj ev;split at ev
  ·rename_i d' hd;split at ev
   ·rename_i hsc;cases ev;refine⟨Pr,F,env,ev1,d1,r,b1,λv1 H1 F1 r1 t1 p1=>⟨Pr,F1,ev1,ev2,ds,r1,b2,λvs H2 F2 r2 t2 p2=>?_⟩⟩;show Yq X.K nm fm (vs++[]) H2 _ E0;rw[Qw1];refine⟨F2,ds,dp,hn _ _ _ b2,r2.fr,by rw[G.K];exact p2,hdp,λvm H3 Fm u1 u2 u3 u4 pm=>?_⟩;rw[G.K] at pm;obtain⟨Pr3,r3,sP,hh⟩:=r2.ajf u1 u2 u3 u4;refine⟨Pr3,F2,ev2,env',d3,r3,b3,λv3 H4 F4 r4 t4 p4=>?_⟩;show jg X.K 3 g ([v1,vm,v3]++[]) H4 Q E0;rw[Qw1];have sFm:aX Fm H4:=λb o e=>by
     rcases hh b o e with z|z
     ·exact r4.fr b o<|t4 b o z
     ·exact r4.pr b o z
    let Fp:Hp:=λb=>match F4 b with
     | some o=>some o
     | none=>Fm b
    have fA:aX F4 Fp:=λb o e=>by simp[Fp,e]
    have fB:=λb o e=>by
     cases h:F4 b with
     | some w=>
      have g1:=r4.fr b w h;rw[sFm b o e] at g1;cases g1;exact fA b _ h
     | none=>simp[Fp,h];exact e
    have fH:aX Fp H4:=λb o e=>by
     cases h:F4 b with
     | some w=>rw[fA b w h] at e;cases e;exact r4.fr b _ h
     | none=>simp[Fp,h] at e;exact sFm b o e
    refine⟨Fp,[d1,dp,d3],d,rfl,fH,?_,hd,λv H5 F5 w1 w2 w3 w4 pv=>q v H5 F4 ((r4.grow w1).less sP) ((t1.trans t2).trans t4) (by rw[<-G.K];exact aee hsc pv)⟩;rw[G.K];exact⟨_,_,rfl,Rep.mono ((t2.trans t4).trans fA) _ _ p1,_,_,rfl,Rep.mono fB _ _ pm,_,_,rfl,Rep.mono fA _ _ p4,rfl⟩
   ·cases ev
  ·cases ev
 ·cases ev⟩
theorem J3(h1:SXS X C st ev)(h2:PXZ X C M rest Oh):PXZ X C M (st::rest) (Sv ev Oh):=aet h1.u h2
theorem adq{pn1 pn2 pn3 pos rpos:Pos}{x1:Nat}
  (G:Good X C) (B:PB X.base X.mg c0 P) (hcode:X.env.code = .ref c0) (hT:X.H₀ P=some (.tab qs))
  (D:alp qs i1 i2 i3 Qx Qw Qv st1 st2 st3 n1 q1 ar1 Rz K8 ps1 n2 q2 ar2 Ry K7 ps2 n3 q3 RN Rx K6 ps3 X) (h:SX X C e a)
  (hfn:∀y,X.fn y=true:=by intro _;rfl) (hN:qJ X.N=true:=by rfl) (hfx:∀i,C.fx i=none:=by intro _;rfl) (h12:i1≠i2:=by decide) (h13:i1≠i3:=by decide) (h23:i2≠i3:=by decide)
  (hv1:qx n1:=by decide) (hv2:qx n2:=by decide) (hv3:qx n3:=by decide) (hw1:Bt n1:=by decide) (hw2:Bt n2:=by decide) (hw3:Bt n3:=by decide)
  (s2:starEach [e,.Name n2 pn2,.Name n3 pn3] X.env=(false,eval e X.env)::starEach [.Name n2 pn2,.Name n3 pn3] X.env:=by rfl) :
  PXZ X C (Mk3 C.K X.env n1 q1 ar1 Rz K8 n2 q2 ar2 Ry K7 n3 q3 RN Rx K6) [st1,st2,st3,.Return (some (.Tuple [.Name n1 pn1,e,.Name n2 pn2,.Name n3 pn3] x1 pos)) rpos] (Ja i1 i2 i3 a):=
 ah5 G B hcode hT hfn (lA hN) hfx h12 h13 h23 D.d1 D.d2 D.d3 h.u hv1 hv2 hv3 hw1 hw2 hw3 s2
section
variable{X:Cx}{C:Cfg}
def vJ(x y:D):Option D:=(Nj x y).or (Rm x y)
theorem Ux(G:Good X C):Bi X C .Mult vJ:=by obtain⟨r,h1,h2⟩:=(aj3 G).ex;obtain⟨r',h1',h2'⟩:=(ao7 G).ex;exact⟨_,h1.or h1',h2.or h2'⟩
end
open PySem
theorem axz{x y d:D}(h1:env[i]? = some (some (false,x)))(h2:b env = .ok y e2)(h4:e2[i]? = some (some (false,x)))(h3:g x y=some d):aA g i b env = .ok d e2:=bV h1 h2 h4 h3
theorem axy{x y d:D}(h1:env[i]? = some (some (true,x)))(h2:b env = .ok y e2)(h4:e2[i]? = some (some (true,x)))(h3:g x y=some d):aA g i b env = .ok d e2:=bV h1 h2 h4 h3
theorem avn{env e:Env}(h0:env[i]? = some (some (true,.lst xs)))(h1:a env = .ok d e)(h2:e[i]? = some (some (true,.lst xs)))(hz:xs.length<sizeLine):iK i a env = .nx (e.set i (some (true,.lst (xs++[d])))):=by unfold iK;rw[h0];simp[h1,gO,h2,if_pos hz]
theorem avY{a:d7}{env e1:Env}{x d x':D}(h0:env[i]? = some (some (true,x)))(h1:a env = .ok ds e1)(h2:e1[i]? = some (some (true,x)))(h3:f (x::ds)=some (d,x')):iW f i a env = .ok d (e1.set i (some (true,x'))):=jG h0 h1 h2 h3
theorem zz1:1<=sizeLine:=by decide
theorem zz2:2<=sizeLine:=by decide
theorem zz3:3<=sizeLine:=by decide
theorem zz4:4<=sizeLine:=by decide
theorem zz5:5<=sizeLine:=by decide
theorem zz6:6<=sizeLine:=by decide
theorem zz7:7<=sizeLine:=by decide
end Ev
abbrev OD:=Option (Bool×Ev.D)
noncomputable abbrev Zf(d:Ev.D):OD:=some (false,d)
noncomputable abbrev Zt(d:Ev.D):OD:=some (true,d)
noncomputable abbrev Zs(w:List Nat):OD:=some (false,.str w)
noncomputable abbrev Zb(b:Bool):OD:=some (false,.bl b)
noncomputable abbrev Zl(l:List Ev.D):OD:=some (true,.lst l)
abbrev Zv(i:Nat)(a:Ev.d7):Ev.d7:=Ev.aa (Ev.aJ i) a
abbrev Zi(i:Int):Ev.Ev:=Ev.iB (.int i)
abbrev Zw(w:List Nat):Ev.Ev:=Ev.iB (.str w)
abbrev LD:=List Ev.D->Option Ev.D
noncomputable abbrev Zn:OD:=none
noncomputable abbrev uU:List PySem.Str:=["stock","parts","paper"]
noncomputable abbrev Di:List PySem.Str:=["thing"]
noncomputable abbrev R9:List PySem.Str:=["stock","thing"]
noncomputable abbrev Zq3:List PySem.Str:=["sounds","thing"]
noncomputable abbrev Zq4:List PySem.Str:=["rule","word"]
noncomputable abbrev Zq5:List PySem.Str:=["_law_pack_here","_law_sounds_here"]
noncomputable abbrev Zq6:List PySem.Str:=["many","thing"]
noncomputable abbrev Zq7:List PySem.Str:=["order","word"]
noncomputable abbrev Zq8:List PySem.Str:=["stock","many","thing"]
noncomputable abbrev Zq9:List PySem.Str:=["_law_stock_here"]
noncomputable abbrev aag:List PySem.Str:=["_law_pack_here","_law_sounds_here","_law_most"]
noncomputable abbrev ac8:List PySem.Str:=["_law_stock_here","_law_order_here","_law_rule_here","_law_word_here"]
noncomputable abbrev akc:List PySem.Str:=["side","rule","word"]
noncomputable abbrev akb:List PySem.Str:=["is_one","thing"]
noncomputable abbrev aka:List PySem.Str:=["stock","kind","thing"]
noncomputable abbrev aj9:List PySem.Str:=["stock","kinds","things"]
noncomputable abbrev aj8:List PySem.Str:=["stock","order","machine","table"]
noncomputable abbrev apg:List PySem.Str:=["stock","order","machine"]
noncomputable abbrev apf:List PySem.Str:=["stock","side","rules","barred"]
noncomputable abbrev ape:List PySem.Str:=["_law_pack_here","_law_size"]
noncomputable abbrev apd:List PySem.Str:=["_law_rule_here","_law_sounds_here"]
noncomputable abbrev apc:List PySem.Str:=["_law_stock_here","_law_order_here","_law_rule_here","_law_word_here","_law_found","_law_sounds_here","_law_claim","_law_paper","_law_some","%9","_law_odd"]
noncomputable abbrev asr:List PySem.Str:=["stock","parts","paper","side","rule","other","word"]
noncomputable abbrev asq:List PySem.Str:=["stock","parts","paper","side","rule","other"]
namespace Ai
open PySem L2 Ev
section
noncomputable def top(i:Nat):Stmt:=PySem.Challenge.pw_soundrules_k66_things_that_are_none.main.body.getD i (.Pass ⟨0,0,0,0⟩)
def eG:Stmt:=nest (top 62) 1
def fJ:Stmt:=nest (top 62) 2
def fG:Stmt:=nest (top 62) 3
def dC:Stmt:=nest (top 65) 3
def eF:Stmt:=nest (top 65) 4
def d9:Stmt:=nest (top 65) 5
noncomputable abbrev fU:Pz:=[([109,97,107,101,115],some (.tup [(.str [111,114,100,101,114]),(.str [119,111,114,100]),(.str [119,111,114,100])])),([109,97,99,104,105,110,101],some (.tup [(.str [111,114,100,101,114]),(.str [109,97,99,104,105,110,101])])),([97,108,105,107,101],some (.tup [(.str [111,114,100,101,114]),(.str [111,114,100,101,114])])),([112,97,114,116,101,100],some (.tup [(.str [111,114,100,101,114]),(.str [111,114,100,101,114]),(.str [119,111,114,100])])),([110,111,32,115,111,117,114,99,101],some (.tup [(.str [111,114,100,101,114]),(.str [119,111,114,100])])),([101,110,100,108,101,115,115],some (.tup [(.str [111,114,100,101,114]),(.str [119,111,114,100]),(.str [119,111,114,100]),(.str [119,111,114,100]),(.str [119,111,114,100])])),([110,111,32,99,111,109,109,111,110],some (.tup [(.str [111,114,100,101,114]),(.str [111,114,100,101,114]),(.str [119,111,114,100]),(.str [119,111,114,100])])),([97,99,116,115],some (.tup [(.str [111,114,100,101,114]),(.str [110,117,109,98,101,114]),(.str [119,111,114,100])])),([110,101,118,101,114],some (.tup [(.str [111,114,100,101,114]),(.str [110,117,109,98,101,114])])),([109,97,107,101,115,32,119,97,121],some (.tup [(.str [115,105,100,101]),(.str [114,117,108,101]),(.str [114,117,108,101]),(.str [119,111,114,100])])),([116,97,107,101,115],some (.tup [(.str [115,105,100,101]),(.str [114,117,108,101]),(.str [114,117,108,101]),(.str [119,111,114,100])])),([110,111,32,119,97,121],some (.tup [(.str [115,105,100,101]),(.str [114,117,108,101]),(.str [114,117,108,101])])),([110,111,32,116,97,107,105,110,103],some (.tup [(.str [115,105,100,101]),(.str [114,117,108,101]),(.str [114,117,108,101])])),([113,117,97,114,114,101,108],some (.tup [(.str [111,114,100,101,114]),(.str [98,111,111,107])]))]
abbrev nA:Pz:=[([109,97,107,101,115],some (sS "makes_shown")),([109,97,99,104,105,110,101],some (sS "machine_shown")),([97,108,105,107,101],some (sS "alike_shown")),([112,97,114,116,101,100],some (sS "parted_shown")),([110,111,32,115,111,117,114,99,101],some (sS "no_source_shown")),([101,110,100,108,101,115,115],some (sS "endless_shown")),([110,111,32,99,111,109,109,111,110],some (sS "no_common_shown")),([97,99,116,115],some (sS "acts_shown")),([110,101,118,101,114],some (sS "never_shown")),([109,97,107,101,115,32,119,97,121],some (sS "way_shown")),([116,97,107,101,115],some (sS "taking_shown")),([110,111,32,119,97,121],some (sS "no_way_shown")),([110,111,32,116,97,107,105,110,103],some (sS "no_taking_shown")),([113,117,97,114,114,101,108],some (sS "quarrel_shown"))]
def Uc:Ev:=gr 1 2 (gW (aJ 0)) (aq 1) cP (aA xK 1 (Zw [97,98,99,100,101,102,103,104,105,106,107,108,109,110,111,112,113,114,115,116,117,118,119,120,121,122]))
def ac6:cB:=aL (dH (eU (eN (gH (f9 "str") (aJ 0)))) (bu (iB (.bl false))) bN) (bu (gf (vR gLe gLe (Zi 1) (az dM (aa (bI 0) ao)) (Zi 8)) (az wM (aa (Uc) ao))))
def GX:LD:=cA 1 ac6
def aab:cB:=bu (gf (az GX (Zv 0 ao)) (aP jb (az dM (aa (bI 0) ao)) (Zi 1)))
def vM:LD:=cA 1 aab
def Mm:Ev:=gr 1 2 (jy (aa (aP xJ (az dM (aa (bI 0) ao)) (Zi 1)) ao)) (aq 1) cP (aP gLt (aA cZ 0 (bI 1)) (aA cZ 0 (aA bJ 1 (Zi 1))))
def abd:cB:=bu (az wM (aa (Mm) ao))
def pY:LD:=cA 1 abd
def ac5:cB:=bu (gf (gH (f9 "tuple") (aJ 0)) (aP jb (az dM (aa (bI 0) ao)) (Zi 2)))
def du:LD:=cA 1 ac5
def Mt:Ev:=gr 1 2 (gW (aJ 0)) (aq 1) cP (az GX (Zv 1 ao))
def Xp:cB:=aL (dH (lF (eU (eN (gH (f9 "tuple") (aJ 0)))) (eN (aP gGt (az dM (aa (bI 0) ao)) (Zi 4)))) (bu (iB (.bl false))) bN) (bu (gf (az wM (aa (Mt) ao)) (az pY (Zv 0 ao))))
def xQ:LD:=cA 1 Xp
def tO:cB:=bu (gf (az du (Zv 0 ao)) (gf (az vM (aa (aA cZ 0 (Zi 0)) ao)) (az xQ (aa (aA cZ 0 (Zi 1)) ao))))
def dh:LD:=cA 1 tO
def xG:Ev:=gr 1 3 (gW (aJ 0)) (cO 2 (aN (aq 1) (aN (aq 2) cQ))) cP (aJ 1)
def yc:cB:=bu (az iz (aa (xG) ao))
def cX:LD:=cA 1 yc
def iZ:Ev:=gr 1 2 (gW (aJ 0)) (aq 1) cP (az dh (Zv 1 ao))
def sI:cB:=aL (dH (lF (eU (eN (gH (f9 "tuple") (aJ 0)))) (eU (eN (vR gLe gLe (Zi 1) (az dM (aa (bI 0) ao)) (Zi 4))))) (bu (iB (.bl false))) bN) (bu (gf (az wM (aa (iZ) ao)) (az pY (aa (az cX (Zv 0 ao)) ao))))
def bM:LD:=cA 1 sI
def jE:Ev:=gr 3 4 (gW (aJ 1)) (aq 3) cP (aA xK 3 (bI 2))
def Hd:cB:=aL (dH (eU (eN (gH (f9 "str") (aJ 1)))) (bu (iB (.bl false))) bN) (aL (bh (az cX (Zv 0 ao)) (aq 2)) (bu (az wM (aa (jE) ao))))
def gq:LD:=cA 3 Hd
def jQ:cB:=aL (dH (eU (eN (az du (Zv 1 ao)))) (bu (iB (.bl false))) bN) (aL (bh (aJ 1) (cO 2 (aN (aq 2) (aN (aq 3) cQ)))) (bu (gf (aA xK 2 (bI 0)) (gf (acP (aA xK 3 (bI 0)) (aA jb 3 (Zw []))) (aA Up 2 (bI 3))))))
def dY:LD:=cA 4 jQ
def uz:cB:=bu (gf (az du (Zv 1 ao)) (gf (aP jb (aA cZ 1 (Zi 0)) (Zw [])) (aP xK (aA cZ 1 (Zi 1)) (bI 0))))
def jc:LD:=cA 2 uz
def gk:Ev:=gr 2 3 (gW (aJ 1)) (aq 2) cP (az dY (Zv 0 (Zv 2 ao)))
def gj:Ev:=gr 2 4 (gW (aJ 1)) (cO 2 (aN (aq 2) (aN (aq 3) cQ))) cP (aJ 2)
def p7:cB:=aL (dH (lF (eU (eN (gH (f9 "tuple") (aJ 1)))) (eN (aP jb (az dM (aa (bI 1) ao)) (Zi 0)))) (bu (iB (.bl false))) bN) (aL (dH (gF (eN (aP jb (az dM (aa (bI 1) ao)) (Zi 1))) (eN (az jc (Zv 0 (aa (aA cZ 1 (Zi 0)) ao))))) (bu (iB (.bl true))) bN) (bu (gf (az wM (aa (gk) ao)) (az pY (aa (gj) ao)))))
def bQ:LD:=cA 2 p7
def Ms:Ev:=gr 2 3 (gW (aJ 1)) (aq 2) cP (acP (aA jb 2 (Zw [35])) (aA xK 2 (bI 0)))
def Xo:cB:=aL (dH (eN (aA gIs 1 (iB .non))) (bu (iB (.bl true))) bN) (aL (dH (lF (eU (eN (gH (f9 "tuple") (aJ 1)))) (eN (aP jb (az dM (aa (bI 1) ao)) (Zi 0)))) (bu (iB (.bl false))) bN) (bu (gf (az wM (aa (Ms) ao)) (az pY (Zv 1 ao)))))
def iV:LD:=cA 2 Xo
def uN:cB:=aL (dH (lF (eU (eN (gH (f9 "tuple") (aJ 1)))) (eN (aP Up (az dM (aa (bI 1) ao)) (Zi 4)))) (bu (iB (.bl false))) bN) (aL (bh (aJ 1) (cO 4 (aN (aq 2) (aN (aq 3) (aN (aq 4) (aN (aq 5) cQ)))))) (aL (bh (az cX (Zv 0 ao)) (aq 6)) (bu (gf (aA xK 2 (iB (.tup [(.str [111,110,99,101]),(.str [97,108,111,110,103])]))) (gf (az bQ (Zv 6 (Zv 3 ao))) (gf (az iV (Zv 6 (Zv 4 ao))) (az iV (Zv 6 (Zv 5 ao)))))))))
def dF:LD:=cA 7 uN
def pX:Ev:=gr 4 5 (gW (aJ 3)) (aq 4) cP (az dF (Zv 0 (Zv 4 ao)))
def pK:cB:=aL (dH (eU (eN (az du (Zv 1 ao)))) (bu (iB (.bl false))) bN) (aL (bh (aJ 1) (cO 2 (aN (aq 2) (aN (aq 3) cQ)))) (aL (dH (lF (eN (aA Ac 2 (iB (.tup [(.str [108,101,102,116]),(.str [114,105,103,104,116])])))) (lF (eU (eN (gH (f9 "tuple") (aJ 3)))) (eN (aP gGt (az dM (aa (bI 3) ao)) (Zi 4))))) (bu (iB (.bl false))) bN) (bu (az wM (aa (pX) ao)))))
def eQ:LD:=cA 4 pK
def qQ:cB:=bu (acP (aA gIs 0 (iB .non)) (aA xK 1 (bI 0)))
def gC:LD:=cA 2 qQ
def lV:cB:=aL (bh (aJ 0) (cO 4 (aN (aq 1) (aN (aq 2) (aN (aq 3) (aN (aq 4) cQ)))))) (bu (aF (Zv 1 (Zv 2 (Zv 4 (Zv 3 ao))))))
def lQ:LD:=cA 5 lV
def pH:cB:=bu (aP jb (aP cZ (aP cZ (aA cZ 0 (Zi 1)) (Zi 0)) (Zi 0)) (Zw []))
def rD:LD:=cA 1 pH
def Es:cB:=aL (dH (gF (eN (az gC (Zv 4 (Zv 8 ao)))) (eN (az gC (Zv 5 (Zv 9 ao))))) (iK 7 (aJ 6)) bN) (aL (iK 7 (aJ 9)) (bh (aJ 9) (aq 8)))
def je:cB:=aL (bh (aJ 0) (cO 4 (aN (aq 2) (aN (aq 3) (aN (aq 4) (aN (aq 5) cQ)))))) (aL (bh (aP cZ (aA cZ 3 (Zi 0)) (Zi 1)) (aq 6)) (aL (fD 7 (cC ao)) (aL (bh (Zw [35]) (aq 8)) (aL (ju (gW (aA bJ 1 (Zw [35]))) (aq 9) (Es)) (bu (aP sZ (Zw []) (G3 (aJ 7) eZ (pZ (gH vI (Zi 1))))))))))
def jU:LD:=cA 10 je
def Bu:cB:=aL (bh (aJ 11) (aq 12)) (aL (dH (gF (eN (aA uv 11 (bI 6))) (gF (eN (az gC (Zv 4 (Zv 9 ao)))) (eN (az gC (Zv 5 (aa (aA cZ 7 (aA bJ 10 (Zi 1))) ao)))))) (bh (aA m8 6 (bI 11)) (aq 12)) bN) (aL (iK 8 (aJ 12)) (dH (eN (aA jb 2 (Zw [111,110,99,101]))) (bh (aJ 11) (aq 9)) (dH (eN (aA Up 12 (Zw []))) (bh (aJ 12) (aq 9)) bN))))
def il:cB:=aL (bh (aJ 0) (cO 4 (aN (aq 2) (aN (aq 3) (aN (aq 4) (aN (aq 5) cQ)))))) (aL (bh (az yG (aa (bI 3) ao)) (aq 6)) (aL (bh (aA bJ 1 (Zw [35])) (aq 7)) (aL (fD 8 (cC ao)) (aL (bh (Zw [35]) (aq 9)) (aL (ju (Z1 (Zv 1 ao)) (cO 2 (aN (aq 10) (aN (aq 11) cQ))) (Bu)) (bu (aP sZ (Zw []) (bI 8))))))))
def jn:LD:=cA 13 il
def jz:cB:=aL (dH (eN (az rD (Zv 0 ao))) (bu (az jU (Zv 0 (Zv 1 ao)))) bN) (bu (az jn (Zv 0 (Zv 1 ao))))
def jx:LD:=cA 2 jz
def nq:cB:=aL (dH (eN (aA jb 0 (Zw [114,105,103,104,116]))) (bu (wk (az jx (aa (az lQ (Zv 1 ao)) (aa (wk (aJ 2)) ao))))) bN) (bu (az jx (Zv 1 (Zv 2 ao))))
def m9:LD:=cA 3 nq
def ach:cB:=iK 4 (az m9 (Zv 2 (Zv 5 (aa (aA cZ 4 (gH vI (Zi 1))) ao))))
def Uw:cB:=aL (bh (aJ 0) (cO 2 (aN (aq 2) (aN (aq 3) cQ)))) (aL (fD 4 (cC (Zv 1 ao))) (aL (ju (gW (aJ 3)) (aq 5) (ach)) (bu (az iz (aa (bI 4) ao)))))
def xM:LD:=cA 6 Uw
def Uy:cB:=bu (aP cZ (az xM (Zv 0 (Zv 1 ao))) (gH vI (Zi 1)))
def ux:LD:=cA 2 Uy
def zH:Ev:=gr 3 4 (gW (aJ 2)) (aq 3) cP (az lQ (Zv 3 ao))
def mz:cB:=aL (bh (aJ 0) (cO 2 (aN (aq 1) (aN (aq 2) cQ)))) (aL (dH (eN (aA jb 1 (Zw [114,105,103,104,116]))) (bu (az iz (aa (zH) ao))) bN) (bu (aJ 2)))
def jO:LD:=cA 3 mz
def yC:Ev:=gr 1 5 (gW (az jO (Zv 0 ao))) (cO 4 (aN (aq 1) (aN (aq 2) (aN (aq 3) (aN (aq 4) cQ))))) cP (aF (aa (az gC (Zv 3 (aa (Zw [35]) ao))) (aa (Zw []) ao)))
def pL:cB:=bu (az iz (aa (yC) ao))
def bY:LD:=cA 1 pL
def aaa:cB:=bu (gf (gH (f9 "int") (aJ 0)) (age (gH (f9 "bool") (aJ 0))))
def vL:LD:=cA 1 aaa
def tM:cB:=bu (gf (az vL (Zv 1 ao)) (vR gLe gLt (Zi 0) (aJ 1) (aJ 0)))
def fW:LD:=cA 2 tM
def Xn:cB:=bu (gf (gH (f9 "tuple") (aJ 1)) (aP jb (az dM (aa (bI 1) ao)) (bI 0)))
def lg:LD:=cA 2 Xn
def Uz:cB:=bu (gf (gH (f9 "tuple") (aJ 1)) (gf (vO) (vO)))
def vN:LD:=cA 2 Uz
def RG:cB:=bu (gf (az du (Zv 2 ao)) (gf (az gq (Zv 0 (aa (aA cZ 2 (Zi 0)) ao))) (az fW (Zv 1 (aa (aA cZ 2 (Zi 1)) ao)))))
def uL:LD:=cA 3 RG
def pW:Ev:=gr 5 6 (gW (aJ 4)) (aq 5) cP (az uL (Zv 0 (Zv 1 (Zv 5 ao))))
def NT:cB:=aL (dH (eU (eN (az du (Zv 2 ao)))) (bu (iB (.bl false))) bN) (aL (bh (aJ 2) (cO 2 (aN (aq 3) (aN (aq 4) cQ)))) (bu (gf (az gq (Zv 0 (Zv 3 ao))) (gf (az lg (aa (az dM (aa (bI 0) ao)) (Zv 4 ao))) (az wM (aa (pW) ao))))))
def su:LD:=cA 5 NT
def mj:Ev:=gr 4 5 (gW (aJ 3)) (aq 4) cP (az su (Zv 0 (aa (az dM (aa (bI 3) ao)) (Zv 4 ao))))
def CV:cB:=aL (dH (eU (eN (az du (Zv 1 ao)))) (bu (iB (.bl false))) bN) (aL (bh (aJ 1) (cO 2 (aN (aq 2) (aN (aq 3) cQ)))) (aL (dH (lF (eU (eN (az gq (Zv 0 (Zv 2 ao))))) (lF (eU (eN (gH (f9 "tuple") (aJ 3)))) (eN (aP jb (az dM (aa (bI 3) ao)) (Zi 0))))) (bu (iB (.bl false))) bN) (bu (az wM (aa (mj) ao)))))
def gV:LD:=cA 4 CV
def NQ:cB:=bu (gf (az du (Zv 1 ao)) (gf (az gq (Zv 0 (aa (aA cZ 1 (Zi 0)) ao))) (az gq (Zv 0 (aa (aA cZ 1 (Zi 1)) ao)))))
def xP:LD:=cA 2 NQ
def Ud:Ev:=gr 2 3 (gW (aJ 1)) (aq 2) cP (az xP (Zv 0 (Zv 2 ao)))
def ac7:cB:=aL (dH (lF (eU (eN (gH (f9 "tuple") (aJ 1)))) (eU (eN (vR gLe gLe (Zi 1) (az dM (aa (bI 1) ao)) (Zi 6))))) (bu (iB (.bl false))) bN) (bu (az wM (aa (Ud) ao)))
def yr:LD:=cA 2 ac7
def RJ:cB:=aL (bh (aJ 1) (cO 4 (aN (aq 3) (aN (aq 4) (aN (aq 5) (aN (aq 6) cQ)))))) (aL (dH (eU (eN (az vN (Zv 3 (Zv 2 ao))))) (bu (iB (.bl false))) bN) (uZ))
def iG:LD:=cA 7 RJ
def rE:EvZ:=Sv (bh (aJ 2) (cO 2 (aN (aq 3) (aN (aq 4) cQ)))) (Ja 5 6 7 (aF (aa (az bY (Zv 1 ao)) (aa (Zi 0) (aa (Zw []) (Zv 3 ao))))))
def kY:LD:=Ed 8 rE eG fJ fG [0,4,1] [0,1,2] [4,1]
def oU:EvZ:=Sv (bh (aJ 2) (cO 2 (aN (aq 4) (aN (aq 5) cQ)))) (Sv (bh (aF (Zv 1 (Zv 2 ao))) (aq 6)) (Sv (bh (aF (Zv 1 (aa (aF (Zv 5 ao)) ao))) (aq 7)) (Ja 8 9 10 (aF (aa (az bY (Zv 6 ao)) (aa (az bY (Zv 7 ao)) (aa (iB (.bl false)) (aa (iB (.bl false)) ao))))))))
def fL:LD:=Ed 11 oU dC eF d9 [0,7,6] [7,6] [7,6,3]
def pJ:cB:=aL (dH (eN (aA jb 1 (Zw [111,114,100,101,114]))) (bu (az eQ (Zv 0 (Zv 2 ao)))) bN) (aL (dH (eN (aA jb 1 (Zw [114,117,108,101]))) (bu (az dF (Zv 0 (Zv 2 ao)))) bN) (aL (dH (eN (aA jb 1 (Zw [119,111,114,100]))) (bu (az gq (Zv 0 (Zv 2 ao)))) bN) (aL (dH (eN (aA jb 1 (Zw [109,97,99,104,105,110,101]))) (bu (az gV (Zv 0 (Zv 2 ao)))) bN) (aL (dH (eN (aA jb 1 (Zw [98,111,111,107]))) (bu (az yr (Zv 0 (Zv 2 ao)))) bN) (aL (dH (eN (aA jb 1 (Zw [115,105,100,101]))) (bu (aA xK 2 (iB (.tup [(.str [108,101,102,116]),(.str [114,105,103,104,116])])))) bN) (bu (az vL (Zv 2 ao))))))))
def cj:LD:=cA 3 pJ
def kh:Ev:=gr 3 5 (W9 (Zv 1 (Zv 2 ao))) (cO 2 (aN (aq 3) (aN (aq 4) cQ))) cP (az cj (Zv 0 (Zv 3 (Zv 4 ao))))
def j9:Ev:=gr 3 5 (W9 (Zv 1 (Zv 2 ao))) (cO 2 (aN (aq 3) (aN (aq 4) cQ))) (eN (aA jb 3 (Zw [111,114,100,101,114]))) (aA cZ 4 (Zi 0))
def tQ:cB:=aL (dH (eN (aP Up (az dM (aa (bI 2) ao)) (az dM (aa (bI 1) ao)))) (bu (iB (.bl false))) bN) (aL (dH (eU (eN (az wM (aa (kh) ao)))) (bu (iB (.bl false))) bN) (bu (aP gLe (gH Nk (j9)) (Zi 1))))
def fY:LD:=cA 3 tQ
def wC:cB:=bu (gf (az gV (Zv 0 (Zv 2 ao))) (vQ iG kY (aJ 0) (Zv 0 (Zv 1 (Zv 2 ao))) (aJ 3)))
def my:LD:=cA 4 wC
def yL:cB:=aL (bh (aJ 1) (cO 3 (aN (aq 3) (aN (aq 4) (aN (aq 5) cQ))))) (bu (gf (aP jb (az ux (Zv 3 (Zv 4 ao))) (bI 5)) (aP jb (az xM (Zv 3 (Zv 4 ao))) (bI 2))))
def jW:LD:=cA 6 yL
def wA:cB:=aL (bh (aJ 1) (cO 2 (aN (aq 3) (aN (aq 4) cQ)))) (bu (az my (Zv 0 (Zv 3 (Zv 4 (Zv 2 ao))))))
def iC:LD:=cA 5 wA
def yM:cB:=aL (bh (aJ 1) (cO 2 (aN (aq 3) (aN (aq 4) cQ)))) (aL (dH (eU (eN (az lg (aa (Zi 3) (Zv 2 ao))))) (bu (iB (.bl false))) bN) (uZ))
def lU:LD:=cA 5 yM
def yd:cB:=aL (bh (aJ 1) (cO 3 (aN (aq 3) (aN (aq 4) (aN (aq 5) cQ))))) (bu (gf (aA gIs 2 (iB .non)) (vO)))
def kJ:LD:=cA 6 yd
def tH:cB:=aL (bh (aJ 1) (cO 2 (aN (aq 3) (aN (aq 4) cQ)))) (aL (dH (eU (eN (az lg (aa (Zi 3) (Zv 2 ao))))) (bu (iB (.bl false))) bN) (uZ))
def iR:LD:=cA 5 tH
def tK:cB:=aL (bh (aJ 1) (cO 4 (aN (aq 3) (aN (aq 4) (aN (aq 5) (aN (aq 6) cQ)))))) (aL (dH (eU (eN (az lg (aa (Zi 5) (Zv 2 ao))))) (bu (iB (.bl false))) bN) (uZ))
def iU:LD:=cA 7 tK
def wD:cB:=aL (bh (aJ 1) (cO 5 (aN (aq 3) (aN (aq 4) (aN (aq 5) (aN (aq 6) (aN (aq 7) cQ))))))) (aL (dH (lF (eN (aA jb 6 (Zw []))) (lF (eN (aP Up (az ux (Zv 3 (aa (aA bJ 5 (bI 7)) ao))) (bI 4))) (eU (eN (az lg (aa (Zi 2) (Zv 2 ao))))))) (bu (iB (.bl false))) bN) (uZ))
def jP:LD:=cA 8 wD
def CW:cB:=aL (bh (aJ 1) (cO 3 (aN (aq 3) (aN (aq 4) (aN (aq 5) cQ))))) (aL (dH (lF (eN (aA Nm 2 (iB .non))) (eU (eN (az fW (aa (az dM (aa (aA cZ 3 (Zi 1)) ao)) (Zv 4 ao)))))) (bu (iB (.bl false))) bN) (uZ))
def oh:LD:=cA 6 CW
def yK:cB:=aL (bh (aJ 1) (cO 2 (aN (aq 3) (aN (aq 4) cQ)))) (bu (gf (az fW (aa (az dM (aa (aA cZ 3 (Zi 1)) ao)) (Zv 4 ao))) (vO)))
def jV:LD:=cA 5 yK
def xY:cB:=aL (bh (aJ 1) (cO 4 (aN (aq 3) (aN (aq 4) (aN (aq 5) (aN (aq 6) cQ)))))) (bu (gf (aA gIs 2 (iB .non)) (vO)))
def qj:LD:=cA 7 xY
def xZ:cB:=Ai.xY
def kI:LD:=cA 7 xZ
def ye:cB:=aL (bh (aJ 1) (cO 3 (aN (aq 3) (aN (aq 4) (aN (aq 5) cQ))))) (bu (vQ iG fL (aJ 0) (Zv 0 (Zv 3 (aa (aF (Zv 4 (Zv 5 ao))) (aa (aF (aa (iB (.bl true)) (aa (iB (.bl false)) ao))) ao)))) (aJ 2)))
def jo:LD:=cA 6 ye
def tD:cB:=aL (bh (aJ 1) (cO 3 (aN (aq 3) (aN (aq 4) (aN (aq 5) cQ))))) (bu (vQ iG fL (aJ 0) (Zv 0 (Zv 3 (aa (aF (Zv 4 (Zv 5 ao))) (aa (aF (aa (iB (.bl false)) (aa (iB (.bl true)) ao))) ao)))) (aJ 2)))
def gM:LD:=cA 6 tD
def yx:cB:=aL (dH (lF (eU (eN (gH (f9 "tuple") (aJ 0)))) (eN (aP gLt (az dM (aa (bI 0) ao)) (Zi 2)))) (bu (iB (.bl false))) bN) (aL (bh (aA cZ 0 (Zi 0)) (aq 2)) (aL (bh (aA cZ 0 (Zi 1)) (aq 3)) (aL (dH (lF (eU (eN (gH (f9 "str") (aJ 2)))) (lF (eN (gH (jM fU) (aJ 2))) (eU (eN (az bM (Zv 3 ao)))))) (bu (iB (.bl false))) bN) (aL (bh (gD (aJ 0) (pZ (Zi 2)) eZ) (aq 4)) (aL (bh (gH (lJ nA) (aJ 2)) (aq 5)) (bu (gf (az fY (Zv 3 (aa (gH (lJ fU) (aJ 2)) (Zv 4 ao)))) (sE (j0 "makes_shown" jW 5 (Zv 3 (Zv 4 (Zv 1 ao)))) (sE (j0 "machine_shown" iC 5 (Zv 3 (Zv 4 (Zv 1 ao)))) (sE (j0 "alike_shown" lU 5 (Zv 3 (Zv 4 (Zv 1 ao)))) (sE (j0 "parted_shown" kJ 5 (Zv 3 (Zv 4 (Zv 1 ao)))) (sE (j0 "no_source_shown" iR 5 (Zv 3 (Zv 4 (Zv 1 ao)))) (sE (j0 "endless_shown" jP 5 (Zv 3 (Zv 4 (Zv 1 ao)))) (sE (j0 "no_common_shown" iU 5 (Zv 3 (Zv 4 (Zv 1 ao)))) (sE (j0 "acts_shown" oh 5 (Zv 3 (Zv 4 (Zv 1 ao)))) (sE (j0 "never_shown" jV 5 (Zv 3 (Zv 4 (Zv 1 ao)))) (sE (j0 "way_shown" qj 5 (Zv 3 (Zv 4 (Zv 1 ao)))) (sE (j0 "taking_shown" kI 5 (Zv 3 (Zv 4 (Zv 1 ao)))) (sE (j0 "no_way_shown" jo 5 (Zv 3 (Zv 4 (Zv 1 ao)))) (j0 "no_taking_shown" gM 5 (Zv 3 (Zv 4 (Zv 1 ao)))))))))))))))))))))))
def rA:LD:=cA 6 yx
def tL:cB:=bu (aP aox (aA Ad 0 (Zi 262406895267124108351839057402211873468251940277165213587343)) (aP Z0 (Zi 10) (Zi 60)))
def kZ:LD:=cA 1 tL
def Ph:cB:=bh (aP bJ (aA Ad 2 (aP Z0 (Zi 10) (Zi 60))) (az kZ (aa (aP cZ (aP bJ (G3 (aJ 0) (pZ (aJ 3)) (pZ (aA bJ 3 (Zi 1)))) (cC (aa (aP bJ (aP Ad (Zi 7919) (bI 3)) (Zi 61)) ao))) (Zi 0)) ao))) (aq 2)
def pI:cB:=aL (bh (Zi 0) (aq 2)) (aL (ju (gW (cC (aa (aA bJ 1 (Zi 1)) (Zv 1 ao)))) (aq 3) (Ph)) (Bc (cC (Zv 2 ao))))
def mU:LD:=runN 4 pI
def lq:cB:=aL (bh (az Cu (aa (aA cZ 0 (Zi 0)) (aa (bI 1) ao))) (cO 2 (aN (ajh 0 (Zi 0)) (aN (aq 2) cQ)))) (bu (aJ 2))
def bL:List D->Option (D×D):=qi 3 lq
def Mp:Ev:=gr 7 8 (jy (aa (Zi 5) ao)) (aq 7) (eN (aP jb (aP W5 (aA W2 5 (bI 7)) (Zi 1)) (Zi 1))) (aA cZ 2 (bI 7))
def Mu:cB:=aL (bh (iW bL 0 (aa (Zi 32) ao)) (aq 5)) (aL (bh (az nZ (aa (Mp) ao)) (aq 6)) (iK 3 (aF (Zv 4 (aa (az iz (aa (G3 (aJ 6) eZ (pZ (Zi 4))) ao)) ao)))))
def Jd:cB:=aL (bh (aP cZ (cC (aa (Zw [97]) (aa (Zw [97,98]) (aa (Zw [97,98]) (aa (Zw [97,98,99]) (aa (Zw [97,101,112,116]) (aa (Zw [109,110,122]) ao))))))) (iW bL 0 (aa (Zi 6) ao))) (aq 1)) (aL (bh (cC (aa (Zw [115,116,111,112]) (aa (Zw [115,116,111,112,115]) (aa (Zw [115]) (aa (Zw [111,112,101,110]) (aa (Zw [97,98,99,100,101,102,103,104]) ao)))))) (aq 2)) (aL (fD 3 (cC ao)) (aL (ju (gW (aJ 1)) (aq 4) (Mu)) (bu (az iz (aa (bI 3) ao))))))
def xN:List D->Option (D×D):=qi 7 Jd
def JR:Ev:=Ai.xG
def vX:cB:=bu (aP sZ (Zw []) (JR))
def jF:LD:=cA 1 vX
def Mq:Ev:=gr 4 5 (jy (aa (az dM (aa (bI 3) ao)) ao)) (aq 4) (eN (aP jb (aP W5 (aA W2 2 (bI 4)) (Zi 1)) (Zi 1))) (aA cZ 3 (bI 4))
def qp:cB:=aL (dH (eN (aP jb (iW bL 0 (aa (Zi 2) ao)) (Zi 0))) (bu (iB .non)) bN) (aL (bh (aP bJ (Zi 1) (iW bL 0 (aa (aP xJ (aP acG (Zi 2) (az dM (aa (bI 1) ao))) (Zi 1)) ao))) (aq 2)) (aL (bh (aP bJ (Zw [35]) (bI 1)) (aq 3)) (bu (az iz (aa (Mq) ao)))))
def ql:List D->Option (D×D):=qi 4 qp
def Ep:Ev:=gr 6 7 (gW (aP bJ (az jN (aa (bI 1) ao)) (cC (aa (Zw []) ao)))) (aq 6) (eN (aA Up 6 (bI 4))) (aJ 6)
def Et:cB:=aL (bh (aA cZ 1 (iW bL 0 (aa (az dM (aa (bI 1) ao)) ao))) (aq 4)) (aL (fD 5 (Ep)) (wU 2 (aJ 4) (aA cZ 5 (iW bL 0 (aa (az dM (aa (bI 5) ao)) ao)))))
def Eo:Ev:=gr 6 7 (gW (az nZ (aa (bI 2) ao))) (aq 6) cP (aF (Zv 6 (aa (aA m8 2 (bI 6)) ao)))
def uA:cB:=aL (dH (eN (aP jb (iW bL 0 (aa (Zi 5) ao)) (Zi 0))) (bu (aF (aa (aF (aa (Zw []) (aa (aA cZ 1 (iW bL 0 (aa (az dM (aa (bI 1) ao)) ao))) ao))) ao))) bN) (aL (fD 2 (G6)) (aL (ju (jy (aa (aP bJ (Zi 1) (iW bL 0 (aa (Zi 4) ao))) ao)) (aq 3) (Et)) (bu (az iz (aa (Eo) ao)))))
def uy:List D->Option (D×D):=qi 6 uA
def NP:cB:=aL (bh (aP cZ (cC (aa (Zw [111,110,99,101]) (aa (Zw [97,108,111,110,103]) ao))) (iW bL 0 (aa (Zi 2) ao))) (aq 2)) (aL (bh (iW uy 0 (Zv 1 ao)) (aq 3)) (bu (aF (Zv 2 (Zv 3 (aa (iW ql 0 (Zv 1 ao)) (aa (iW ql 0 (Zv 1 ao)) ao)))))))
def pD:List D->Option (D×D):=qi 4 NP
def Mr:Ev:=gr 4 5 (jy (aa (iW bL 0 (aa (aA bJ 2 (Zi 1)) ao)) ao)) (aq 4) cP (iW pD 0 (Zv 1 ao))
def Je:cB:=aL (bh (aP cZ (cC (aa (Zw [108,101,102,116]) (aa (Zw [114,105,103,104,116]) ao))) (iW bL 0 (aa (Zi 2) ao))) (aq 3)) (bu (aF (Zv 3 (aa (az iz (aa (Mr) ao)) ao))))
def xO:List D->Option (D×D):=qi 4 Je
def Pg:Ev:=gr 3 4 (jy (aa (iW bL 0 (aa (aA bJ 2 (Zi 1)) ao)) ao)) (aq 3) cP (aA cZ 1 (iW bL 0 (aa (az dM (aa (bI 1) ao)) ao)))
def vW:cB:=bu (aP sZ (Zw []) (Pg))
def mR:List D->Option (D×D):=qi 3 vW
def wB:cB:=aL (bh (aA cZ 0 (Zi 0)) (cO 2 (aN (aq 1) (aN (aq 2) cQ)))) (aL (bh (cC (aa (iB .non) (aa (Zi 7) (aa (aF ao) (aa (Zw [97]) (aa (cC ao) (aa (G6) (aa (az jN (aa (bI 0) ao)) (aa (aA bJ 0 (bI 0)) (aa (aA bJ 0 (aF (aa (aF (aa (Zw [122]) ao)) ao))) (aa (aF (Zv 1 ao)) (aa (aF (aa (aF (Zv 1 (aa (az jN (aa (bI 2) ao)) ao))) ao)) ao)))))))))))) (aq 3)) (aL (bh (aA bJ 3 (cC (aa (aF (aa (aF (aa (Zw []) (aa (aF ao) ao))) ao)) (aa (aF (aa (aF (aa (Zw [65]) (aa (aF ao) ao))) ao)) (aa (aF (aa (aF (aa (Zw [97,98]) (aa (aF ao) ao))) ao)) (aa (aF (aa (aF (aa (Zw [35]) (aa (aF ao) ao))) ao)) (aa (aF (aa (aF (aa (iB .non) (aa (aF ao) ao))) ao)) (aa (aF (aa (aF (Zv 1 (aa (aF (aa (Zw []) ao)) ao))) ao)) ao)))))))) (aq 3)) (aL (bh (aA bJ 3 (cC (aa (aF (aa (aF (Zv 1 (aa (aF (aa (Zw [98]) (aa (Zw [97]) ao))) ao))) ao)) (aa (aF (aa (aF (Zv 1 (aa (aF (aa (Zw [97]) (aa (Zw [97]) ao))) ao))) ao)) (aa (aF (aa (aF (Zv 1 (aa (aF (aa (Zw [97]) (aa (Zw [98]) (aa (Zw [99]) (aa (Zw [100]) (aa (Zw [101]) ao)))))) ao))) ao)) ao))))) (aq 3)) (bu (aA bJ 3 (cC (aa (aF (aa (aF (Zv 1 (aa (iB .non) ao))) ao)) (aa (aF (aa (aF (Zv 1 (Zv 2 (aa (Zi 1) ao)))) ao)) (aa (aF (aa (aF (aa (Zw [97]) (aa (aF ao) ao))) (aa (aF (aa (Zw [98]) (aa (aF ao) ao))) (aa (aF (aa (Zw [99]) (aa (aF ao) ao))) (aa (aF (aa (Zw [100]) (aa (aF ao) ao))) (aa (aF (aa (Zw [101]) (aa (aF ao) ao))) ao)))))) ao)))))))))
def iD:LD:=cA 4 wB
def gK:cB:=iK 6 (aF (Zv 2 (Zv 9 (Zv 4 (Zv 5 ao)))))
def gJ:cB:=fD 6 (aP uw (aJ 6) (cC (aa (aF (Zv 2 (Zv 3 (Zv 9 (Zv 5 ao))))) (aa (aF (Zv 2 (Zv 3 (Zv 4 (Zv 9 ao))))) ao))))
def yf:cB:=aL (bh (aJ 0) (cO 4 (aN (aq 2) (aN (aq 3) (aN (aq 4) (aN (aq 5) cQ)))))) (aL (fD 6 (cC (aa (iB .non) (aa (aF ao) (aa (az jN (aa (bI 0) ao)) (aa (aA bJ 0 (aF (aa (Zi 1) ao))) (aa (gD (aJ 0) eZ (pZ (Zi 3))) (aa (aP bJ (aF (aa (Zw [116,119,105,99,101]) ao)) (gD (aJ 0) (pZ (Zi 1)) eZ)) (aa (aP bJ (aF (aa (iB .non) ao)) (gD (aJ 0) (pZ (Zi 1)) eZ)) (aa (Zw [111,110,99,101]) ao)))))))))) (aL (bh (aA cZ 1 (Zi 0)) (aq 7)) (aL (bh (cC (aa (aF ao) (aa (iB .non) (aa (az jN (aa (bI 3) ao)) (aa (aF (aa (aF (Zv 7 (Zv 7 ao))) ao)) (aa (aF (aa (aF (aa (Zw []) (aa (Zw []) ao))) ao)) (aa (aF (aa (aF (aa (Zw [35]) (aa (Zw []) ao))) ao)) (aa (aF (aa (aF (Zv 7 ao)) ao)) (aa (aF (aa (aF (aa (Zi 1) (aa (Zw []) ao))) ao)) ao))))))))) (aq 8)) (aL (bh (aA bJ 8 (cC (aa (aF (aa (aF (aa (Zw []) (Zv 7 ao))) (aa (aF (Zv 7 (aa (Zw []) ao))) ao))) (aa (aF (aa (aF (Zv 7 (aa (Zw []) ao))) (aa (aF (Zv 7 (aa (Zw []) ao))) ao))) (aa (aF (aa (aF (Zv 7 (aa (Zw [35]) ao))) ao)) (aa (aA vJ 3 (Zi 5)) ao)))))) (aq 8)) (aL (ju (gW (aJ 8)) (aq 9) (gK)) (aL (ju (gW (cC (aa (aF ao) (aa (Zw [97]) (aa (cC (aa (aA cZ 1 (Zi 0)) ao)) (aa (aF (aa (aA cZ 1 (Zi 0)) (aa (aA cZ 1 (Zi 0)) ao))) (aa (aF (aa (aA cZ 1 (Zi 0)) (aa (Zw [35]) ao))) (aa (aF (aa (Zw [35,35]) ao)) (aa (aF (aa (Zw []) ao)) (aa (aF (aa (iB .non) ao)) (aa (aF (aa (Zi 1) ao)) (aa (iB (.bl true)) ao)))))))))))) (aq 9) (gJ)) (bu (aJ 6))))))))
def dU:LD:=cA 10 yf
def CT:cB:=aL (bh (aF (aa (Zw []) (aa (aF (aa (aF (aa (Zw []) (aa (aP vJ (aF (aa (aF (aa (Zw []) (aa (Zi 0) ao))) ao)) (az dM (aa (bI 0) ao))) ao))) ao)) ao))) (aq 4)) (aL (bh (aF (aa (aA cZ 1 (Zi 0)) (Zv 2 (Zv 2 ao)))) (aq 5)) (aL (fD 6 (cC (aa (aF (aa (aF (aa (Zw [109,97,107,101,115]) (Zv 0 (Zv 1 (Zv 3 (Zv 3 ao)))))) (aa (aF (Zv 3 ao)) ao))) ao))) (aL (iK 6 (aF (aa (aF (aa (Zw [109,97,99,104,105,110,101]) (Zv 0 (Zv 1 (Zv 4 ao))))) (aa (aF (aa (aF (aa (aF ao) (aa (Zi 0) (aa (Zw []) (aa (Zw []) ao))))) ao)) ao)))) (aL (fD 6 (aP uw (aJ 6) (cC (aa (aF (aa (aF (aa (Zw [97,108,105,107,101]) (Zv 0 (Zv 1 (Zv 1 ao))))) (aa (aF (Zv 4 (aa (aF ao) (aa (aF ao) ao)))) ao))) (aa (aF (aa (aF (aa (Zw [112,97,114,116,101,100]) (Zv 0 (Zv 1 (Zv 1 (Zv 3 ao)))))) (aa (iB .non) ao))) ao))))) (aL (fD 6 (aP uw (aJ 6) (cC (aa (aF (aa (aF (aa (Zw [110,111,32,115,111,117,114,99,101]) (Zv 0 (Zv 1 (Zv 3 ao))))) (aa (aF (Zv 4 (aa (aF ao) (aa (aF ao) ao)))) ao))) (aa (aF (aa (aF (aa (Zw [97,99,116,115]) (Zv 0 (Zv 1 (aa (Zi 9) (Zv 3 ao)))))) (aa (iB .non) ao))) ao))))) (aL (fD 6 (aP uw (aJ 6) (cC (aa (aF (aa (aF (aa (Zw [101,110,100,108,101,115,115]) (Zv 0 (Zv 1 (Zv 3 (aa (Zw []) (aa (Zw []) (Zv 3 ao)))))))) (aa (aF (Zv 4 (aa (aF ao) ao))) ao))) (aa (aF (aa (aF (aa (Zw [110,101,118,101,114]) (Zv 0 (Zv 1 (aa (Zi 9) ao))))) (aa (aF ao) ao))) ao))))) (aL (fD 6 (aP uw (aJ 6) (cC (aa (aF (aa (aF (aa (Zw [110,111,32,99,111,109,109,111,110]) (Zv 0 (Zv 1 (Zv 1 (Zv 3 (Zv 3 ao))))))) (aa (aF (Zv 4 (aa (aF ao) (Zv 4 (aa (aF ao) (aa (aF ao) ao)))))) ao))) ao)))) (aL (fD 6 (aP uw (aJ 6) (cC (aa (aF (aa (aP bJ (aP bJ (aF (aa (Zw [109,97,107,101,115,32,119,97,121]) (Zv 0 ao))) (bI 5)) (aF (aa (Zw []) ao))) (aa (Zi 7) ao))) (aa (aF (aa (aP bJ (aP bJ (aF (aa (Zw [116,97,107,101,115]) (Zv 0 ao))) (bI 5)) (aF (Zv 3 ao))) (aa (Zi 7) ao))) ao))))) (aL (fD 6 (aP uw (aJ 6) (cC (aa (aF (aa (aP bJ (aF (aa (Zw [110,111,32,119,97,121]) (Zv 0 ao))) (bI 5)) (aa (aF ao) ao))) (aa (aF (aa (aP bJ (aF (aa (Zw [110,111,32,116,97,107,105,110,103]) (Zv 0 ao))) (bI 5)) (aa (aF ao) ao))) ao))))) (bu (aA bJ 6 (cC (aa (aF (aa (aF (aa (Zw [113,117,97,114,114,101,108]) (Zv 0 (Zv 1 (aa (aF ao) ao))))) (aa (aF ao) ao))) ao)))))))))))))
def rz:LD:=cA 7 CT
def qZ:Ev:=gr 10 11 (gW (az iD (Zv 0 ao))) (aq 10) cP (aF (aa (aP bJ (aP bJ (gD (aJ 6) eZ (pZ (Zi 1))) (aF (Zv 10 ao))) (gD (aJ 6) (pZ (Zi 2)) eZ)) (Zv 7 ao)))
def qY:Ev:=gr 10 11 (gW (az dU (Zv 2 (Zv 5 ao)))) (aq 10) cP (aF (aa (aA cZ 1 (Zi 0)) (aa (aF (Zv 10 ao)) ao)))
def qX:Ev:=gr 10 11 (gW (aJ 8)) (aq 10) cP (aF (aa (aP bJ (aP bJ (gD (aJ 6) eZ (pZ (Zi 2))) (aF (Zv 10 ao))) (gD (aJ 6) (pZ (Zi 3)) eZ)) (Zv 7 ao)))
def nY:cB:=iK 4 (aF (aa (aP bJ (aP bJ (gD (aJ 6) eZ (pZ (Zi 2))) (aF (Zv 9 ao))) (gD (aJ 6) (pZ (Zi 3)) eZ)) (Zv 7 ao)))
def lB:cB:=aL (iK 4 (aF (aa (aP bJ (aP bJ (gD (aJ 6) eZ (pZ (Zi 3))) (aF (Zv 9 ao))) (gD (aJ 6) (pZ (Zi 4)) eZ)) (Zv 7 ao)))) (iK 4 (aF (aa (aP bJ (aP bJ (gD (aJ 6) eZ (pZ (Zi 4))) (aF (Zv 9 ao))) (gD (aJ 6) (pZ (Zi 5)) eZ)) (Zv 7 ao))))
def qW:Ev:=gr 10 11 (gW (cC (aa (iB .non) (aa (Zi 7) (aa (Zw [35]) (aa (Zw [90]) (aa (aF (Zv 3 ao)) (aa (cC (Zv 3 ao)) (aa (G6) ao))))))))) (aq 10) cP (aF (aa (aP bJ (gD (aJ 6) eZ (pZ (gH vI (Zi 1)))) (aF (Zv 10 ao))) (Zv 7 ao)))
def rm:cB:=aL (fD 4 (aP uw (aJ 4) (qZ))) (aL (dH (eN (gH (f9 "tuple") (aA cZ 6 (Zi 2)))) (aL (bh (cC (aa (iB .non) (aa (aF ao) (aa (az jN (aa (bI 1) ao)) (aa (aF (aa (aA cZ 1 (Zi 0)) ao)) (aa (aF (aa (aA cZ 1 (Zi 0)) (aa (az jN (aa (aA cZ 1 (Zi 1)) ao)) ao))) (aa (aF (aa (Zw [117,112]) (aa (aA cZ 1 (Zi 1)) ao))) ao))))))) (aq 8)) (aL (bh (aA bJ 8 (qY)) (aq 8)) (aL (bh (aA bJ 8 (cC (aa (aF (aa (iB .non) (aa (aA cZ 1 (Zi 1)) ao))) (aa (aA bJ 1 (aF (aa (Zi 1) ao))) (aa (aF (aa (aA cZ 1 (Zi 0)) (aa (aP vJ (aF (Zv 2 ao)) (Zi 5)) ao))) ao))))) (aq 8)) (fD 4 (aP uw (aJ 4) (qX)))))) (aL (ju (gW (cC (aa (iB .non) (aa (Zw []) (aa (Zw [117,112]) (aa (Zi 7) (aa (cC (aa (Zw [108,101,102,116]) ao)) (aa (iB (.bl true)) ao)))))))) (aq 9) (nY)) (ju (gW (az dU (Zv 2 (Zv 5 ao)))) (aq 9) (lB)))) (aL (dH (eN (aP xK (aA cZ 6 (Zi 0)) (cC (aa (Zw [109,97,107,101,115]) (aa (Zw [110,111,32,115,111,117,114,99,101]) (aa (Zw [101,110,100,108,101,115,115]) (aa (Zw [110,111,32,99,111,109,109,111,110]) (aa (Zw [109,97,107,101,115,32,119,97,121]) (aa (Zw [116,97,107,101,115]) ao))))))))) (fD 4 (aP uw (aJ 4) (qW))) bN) (aL (fD 4 (aP uw (aJ 4) (cC (aa (aF (aa (aA bJ 6 (aF (aa (Zi 1) ao))) (Zv 7 ao))) (aa (aF (aa (gD (aJ 6) eZ (pZ (gH vI (Zi 1)))) (Zv 7 ao))) (aa (aF (aa (az jN (aa (bI 6) ao)) (Zv 7 ao))) (aa (aF (aa (aP bJ (aF (aa (Zw [105,115]) ao)) (gD (aJ 6) (pZ (Zi 1)) eZ)) (Zv 7 ao))) ao))))))) (fD 4 (aP uw (aJ 4) (cC (aa (aF (aa (aP bJ (aF (aa (Zi 7) ao)) (gD (aJ 6) (pZ (Zi 1)) eZ)) (Zv 7 ao))) (aa (aF (aa (aP bJ (aF (aa (cC (aa (aA cZ 6 (Zi 0)) ao)) ao)) (gD (aJ 6) (pZ (Zi 1)) eZ)) (Zv 7 ao))) (aa (aF (aa (iB .non) (Zv 7 ao))) (aa (aF (Zv 6 (aa (Zw [97]) ao))) ao))))))))))
def RD:cB:=aL (fD 4 (cC ao)) (aL (bh (az jF (Zv 0 ao)) (aq 5)) (aL (ju (gW (az rz (Zv 0 (Zv 1 (Zv 2 (Zv 3 ao)))))) (cO 2 (aN (aq 6) (aN (aq 7) cQ))) (rm)) (bu (aJ 4))))
def GR:LD:=cA 10 RD
def Mv:cB:=aL (bh (az rA (Zv 7 (Zv 8 ao))) (aq 9)) (dH (lF (eU (eN (gH (f9 "bool") (aJ 9)))) (eN (aJ 9))) (bu (iB (.bl false))) bN)
def Bv:cB:=aL (fD 2 (az mU (Zv 0 (Zv 1 ao)))) (aL (bh (iW xN 2 ao) (aq 3)) (aL (bh (az jF (Zv 3 ao)) (aq 4)) (aL (fD 5 (az mU (Zv 0 (aa (aA bJ 1 (Zi 2)) ao)))) (aL (bh (iW xO 2 (Zv 4 (aa (Zi 2) ao))) (aq 6)) (ju (gW (az GR (Zv 3 (Zv 6 (aa (iW pD 5 (Zv 4 ao)) (aa (iW mR 5 (Zv 4 (aa (Zi 3) ao))) ao)))))) (cO 2 (aN (aq 7) (aN (aq 8) cQ))) (Mv))))))
def alg:cB:=aL (ju (jy (aa (Zi 0) (aa (az acI (aa (Zi 1) (aa (az acH (aa (az dM (aa (bI 0) ao)) (aa (Zi 18) ao))) ao))) (aa (Zi 6) ao)))) (aq 1) (Bv)) (bu (iB (.bl true)))
def aa1:LD:=cA 10 alg
end
open PySem PySem.Spec PyProof.Rows L2 Ev
abbrev DY:Stmt:=top 6
abbrev zr:Stmt:=top 7
abbrev Tz:Stmt:=top 8
abbrev DX:Stmt:=top 9
abbrev xn:Stmt:=top 10
abbrev nQ:Stmt:=top 11
abbrev wW:Stmt:=top 14
abbrev zp:Stmt:=top 12
abbrev DP:Stmt:=top 13
abbrev qI:Stmt:=top 19
abbrev t6:Stmt:=top 20
abbrev ug:Stmt:=top 21
abbrev xj:Stmt:=top 22
abbrev DR:Stmt:=top 23
abbrev zx:Stmt:=top 24
abbrev YM:Stmt:=top 25
abbrev K9:Stmt:=top 26
abbrev DK:Stmt:=top 27
abbrev tY:Stmt:=top 29
abbrev rF:Stmt:=top 30
abbrev xg:Stmt:=top 31
abbrev Ec:Stmt:=top 32
abbrev YK:Stmt:=top 33
abbrev YL:Stmt:=top 34
abbrev qC:Stmt:=top 36
abbrev oZ:Stmt:=top 37
abbrev zm:Stmt:=top 47
abbrev nO:Stmt:=top 48
abbrev La:Stmt:=top 49
abbrev vo:Stmt:=top 50
abbrev DQ:Stmt:=top 51
abbrev zq:Stmt:=top 52
abbrev vh:Stmt:=top 53
abbrev rN:Stmt:=top 56
abbrev Eb:Stmt:=top 57
abbrev Ea:Stmt:=top 59
abbrev rK:Stmt:=top 62
abbrev oX:Stmt:=top 65
abbrev DW:Stmt:=top 68
abbrev xm:Stmt:=top 69
abbrev qG:Stmt:=top 70
abbrev ue:Stmt:=top 71
abbrev qD:Stmt:=top 72
abbrev um:Stmt:=top 73
abbrev rH:Stmt:=top 74
abbrev nJ:Stmt:=top 75
abbrev nM:Stmt:=top 76
abbrev qH:Stmt:=top 78
abbrev vp:Stmt:=top 79
abbrev t7:Stmt:=top 80
abbrev wV:Stmt:=top 82
abbrev rG:Stmt:=top 83
abbrev rJ:Stmt:=top 84
abbrev nH:Stmt:=top 85
abbrev Qh:Stmt:=top 86
abbrev wg:Stmt:=top 87
abbrev TF:Stmt:=top 89
abbrev xf:Stmt:=top 91
abbrev zj:Stmt:=top 92
abbrev zf:Stmt:=top 93
abbrev wX:Stmt:=top 94
abbrev vf:Stmt:=top 95
abbrev wY:Stmt:=top 96
abbrev uf:Stmt:=top 97
abbrev zg:Stmt:=top 98
abbrev wZ:Stmt:=top 99
abbrev zc:Stmt:=top 100
abbrev qF:Stmt:=top 101
abbrev rM:Stmt:=top 102
abbrev vg:Stmt:=top 103
abbrev DN:Stmt:=top 104
abbrev aeh:Stmt:=top 105
abbrev dX:List (Pos×Str):=[(jX eG,"machine_plan.<locals>.is_one"),(jX fJ,"machine_plan.<locals>.lead"),(jX fG,"machine_plan.<locals>.well")]
theorem m7:∀q∈dX,q.1.line=(jX eG).line->q.1.col=(jX eG).col->q.2 = "machine_plan.<locals>.is_one":=by decide +kernel
theorem oR:∀q∈dX,q.1.line=(jX fJ).line->q.1.col=(jX fJ).col->q.2 = "machine_plan.<locals>.lead":=by decide +kernel
theorem oO:∀q∈dX,q.1.line=(jX fG).line->q.1.col=(jX fG).col->q.2 = "machine_plan.<locals>.well":=by decide +kernel
abbrev dg:List (Pos×Str):=[(jX dC,"two_rules_plan.<locals>.is_one"),(jX eF,"two_rules_plan.<locals>.lead"),(jX d9,"two_rules_plan.<locals>.well")]
theorem lE:∀q∈dg,q.1.line=(jX dC).line->q.1.col=(jX dC).col->q.2 = "two_rules_plan.<locals>.is_one":=by decide +kernel
theorem m6:∀q∈dg,q.1.line=(jX eF).line->q.1.col=(jX eF).col->q.2 = "two_rules_plan.<locals>.lead":=by decide +kernel
theorem mZ:∀q∈dg,q.1.line=(jX d9).line->q.1.col=(jX d9).col->q.2 = "two_rules_plan.<locals>.well":=by decide +kernel
def tabs:aah:=[("machine_plan",dX),("two_rules_plan",dg)]
theorem J0:(("machine_plan" : Str),dX)∈tabs:=by unfold tabs;simp
theorem Jp{K:Fg}:oV K tabs (jC K "machine_plan").2=some (.tab dX):=if_pos rfl
theorem CN:(("two_rules_plan" : Str),dg)∈tabs:=by unfold tabs;simp
theorem Aw{K:Fg}(h:((jC K "two_rules_plan").2 == (jC K "machine_plan").2)=false):oV K tabs (jC K "two_rules_plan").2=some (.tab dg):=(if_neg<|Qw6.mp h).trans<|if_pos rfl
structure Top(w:World)(K:Fg)(mg:Str->Option Value):Prop where
 qK:mg "all" = none
 aaN:mg "bool" = none
 aiO:mg "dict" = none
 acf:mg "divmod" = none
 T8:mg "enumerate" = none
 am9:mg "int" = none
 bZ:mg "isinstance" = none
 fO:mg "len" = none
 sX:mg "list" = none
 am8:mg "max" = none
 am7:mg "min" = none
 rR:mg "range" = none
 Qs:mg "sorted" = none
 Zh:mg "str" = none
 eO:mg "tuple" = none
 afg:mg "zip" = none
 uJ:∀d:D,PySem.W.kitOne K (.type (tyD d)) (.type "bool")=some (sY d "bool")
 BJ:∀d:D,PySem.W.kitOne K (.type (tyD d)) (.type "int")=some (sY d "int")
 vB:∀d:D,PySem.W.kitOne K (.type (tyD d)) (.type "str")=some (sY d "str")
 fK:∀d:D,PySem.W.kitOne K (.type (tyD d)) (.type "tuple")=some (sY d "tuple")
 eV:Al K mg "EDGE" (.str [35])
 rZ:Al K mg "LETTERS" (.str [97,98,99,100,101,102,103,104,105,106,107,108,109,110,111,112,113,114,115,116,117,118,119,120,121,122])
 jL:Al K mg "MOST_LETTERS" (.int 8)
 lN:Al K mg "MOST_MARKS" (.int 4)
 lM:Al K mg "MOST_PAIRS" (.int 6)
 lL:Al K mg "MOST_RULES" (.int 4)
 kj:Al K mg "MOST_SOUNDS" (.int 4)
 iQ:Al K mg "SIDES" (.tup [(.str [108,101,102,116]),(.str [114,105,103,104,116])])
 rn:Al K mg "WAYS" (.tup [(.str [111,110,99,101]),(.str [97,108,111,110,103])])
 uK:Tbl w.params K mg "PARTS" fU
 xH:Tbl w.params K mg "SHOWN" nA
 uq:Al K mg "acts_shown" (sS "acts_shown")
 rY:Al K mg "alike_shown" (sS "alike_shown")
 pB:Al K mg "endless_shown" (sS "endless_shown")
 pA:Al K mg "machine_shown" (sS "machine_shown")
 rW:Al K mg "makes_shown" (sS "makes_shown")
 rT:Al K mg "never_shown" (sS "never_shown")
 mL:Al K mg "no_common_shown" (sS "no_common_shown")
 mK:Al K mg "no_source_shown" (sS "no_source_shown")
 mJ:Al K mg "no_taking_shown" (sS "no_taking_shown")
 qO:Al K mg "no_way_shown" (sS "no_way_shown")
 qN:Al K mg "parted_shown" (sS "parted_shown")
 qM:Al K mg "taking_shown" (sS "taking_shown")
 vC:Al K mg "way_shown" (sS "way_shown")
 tne:((jC K "two_rules_plan").2 == (jC K "machine_plan").2)=false
 abx:bU K mg "is_name" DY Di
 Yj:bU K mg "is_sound" zr Di
 ahA:bU K mg "rises" Tz ["things"]
 abw:bU K mg "is_pair" DX Di
 Vu:bU K mg "are_marks" xn Di
 Bb:bU K mg "is_marked_sound" nQ Di
 Vl:bU K mg "sounds_of" wW ["stock"]
 Yh:bU K mg "is_stock" zp Di
 abr:bU K mg "is_word" DP R9
 Jv:bU K mg "changes_sound" qI Zq3
 Oj:bU K mg "puts_one_in" t6 Zq3
 Ot:bU K mg "are_changes" ug Zq3
 Vs:bU K mg "are_signs" xj Zq3
 abu:bU K mg "is_rule" DR R9
 Yk:bU K mg "is_order" zx R9
 alF:bU K mg "fits" YM ["signs","sign"]
 adV:bU K mg "turned" K9 ["rule"]
 abp:bU K mg "puts_in" DK ["rule"]
 Oi:bU K mg "with_put_in" tY Zq4
 Kq:bU K mg "with_changes" rF Zq4
 Vq:bU K mg "from_left" xg Zq4
 abA:bU K mg "changed" Ec akc
 alD:bU K mg "walk" YK Zq7
 alE:bU K mg "made" YL Zq7
 Jq:bU K mg "reading_rules" qC ["order"]
 Dp:bU K mg "first_standing" oZ ["order"]
 Yg:bU K mg "is_whole" zm Di
 Ba:bU K mg "is_number_below" nO Zq6
 adW:bU K mg "is_row" La Zq6
 S7:bU K mg "are_rising" vo akb
 abt:bU K mg "is_step" DQ Zq8
 Yi:bU K mg "is_state" zq Zq8
 S6:bU K mg "is_machine" vh R9
 Ky:bU K mg "is_told_pair" rN R9
 abz:bU K mg "is_book" Eb R9
 aby:bU K mg "is_held" Ea ["stock","plan","thing"]
 Kv:agX K mg "machine_plan" rK apg (jC K "machine_plan").1
 Dn:agX K mg "two_rules_plan" oX apf (jC K "two_rules_plan").1
 abv:bU K mg "is_part" DW aka
 Vt:bU K mg "are_parts" xm aj9
 Jt:bU K mg "is_machine_of" qG aj8
 Oo:bU K mg "makes_shown" ue uU
 Jr:bU K mg "machine_shown" qD uU
 Ou:bU K mg "alike_shown" um uU
 Ks:bU K mg "parted_shown" rH uU
 Ay:bU K mg "no_source_shown" nJ uU
 Az:bU K mg "no_common_shown" nM uU
 Ju:bU K mg "endless_shown" qH uU
 S8:bU K mg "acts_shown" vp uU
 Ol:bU K mg "never_shown" t7 uU
 Vk:bU K mg "way_shown" wV uU
 Kr:bU K mg "taking_shown" rG uU
 Ku:bU K mg "no_way_shown" rJ uU
 Ax:bU K mg "no_taking_shown" nH uU
 apy:bU K mg "layings" Qh ["rules"]
 adl:bU K mg "quarrel_shown" wg uU
 ahB:bU K mg "holds" TF ["claim","paper"]
 Vp:bU K mg "_law_mixed" xf ["_law_cell"]
 Ye:bU K mg "_law_pack" zj ["_law_script","_law_k"]
 Yc:bU K mg "_law_take" zf ape
 Vm:bU K mg "_law_stock" wX ["_law_pack_here"]
 SQ:bU K mg "_law_sounds" vf Zq9
 Vn:bU K mg "_law_signs" wY Zq5
 Oq:bU K mg "_law_changes" uf Zq5
 Yd:bU K mg "_law_rule" zg Zq5
 Vo:bU K mg "_law_order" wZ aag
 Yb:bU K mg "_law_word" zc aag
 Js:bU K mg "_law_no_stocks" qF Zq9
 Kw:bU K mg "_law_no_rules" rM apd
 S5:bU K mg "_law_claims" vg ac8
 abq:bU K mg "_law_bad" DN ac8
section
variable{P:Program}{w:World}{K:Fg}{mg:Str->Option Value}{base:Heap}(Z:Top w K mg)(BB:∀y∈tabs,PB base mg (jC K y.1).1 (jC K y.1).2)
theorem bDS{st:Stmt}(F:bU K mg x st ps)(S:bf N ps (aG st))(hb:∀f  cdv  A  outer  s  H  E,jr k (A.deeper (envOfC x (aG st) s.heap.objs.size f cdv))->Good (bx P w K mg base N x st f cdv A outer s H E) (C0 K)->dG (bx P w K mg base N x st f cdv A outer s H E) (C0 K) (dB st) ev):Own P w K mg base x (k+1) ps (jg K ps.length (cA N.length ev)):=bD F S λf cdv A outer s H E hr G=>(hb f cdv A outer s H E hr G).u
theorem YF:bf Di Di (aG DY):=dZ
include Z in
theorem Qq:Own P w K mg base "is_name" 1 Di (jg K 1 GX):=by
 obtain⟨apw,apx,rZ⟩:=Z.rZ;obtain⟨adJ,adR,jL⟩:=Z.jL;exact bDS Z.abx YF (λf cdv A outer s H E hr G=>au (bW (cV<|cG<|gU rfl Z.bZ rfl Z.Zh (by decide +kernel) Z.vB G.K (aV 0)) (aC<|aM dJ) bH)
   (aC<|aM<|cT (Va Xk Xk aH (fQ G Z.fO<|aZ<|cH 0)<|ig (.int 8) rfl jL.1 jL.2.1 (λF=>jL.2.2 F))<|dO<|qz G Z.qK<|aZ<|aQ<|bF<|jw ["thing","sign"] 1 fZ G (fj G<|aV 0) (λX1 h1=>by have G:=G.at h1;obtain⟨_,_,_,_,_,rfl⟩:=h1;exact(aK 1)) (λX1 h1=>by have G:=G.at h1;obtain⟨_,_,_,_,_,rfl⟩:=h1;exact cR) (λX1 h1=>by have G:=G.at h1;obtain⟨_,_,_,_,_,rfl⟩:=h1;exact(jB 1 (Pu G)<|aQ<|ig (.str [97,98,99,100,101,102,103,104,105,106,107,108,109,110,111,112,113,114,115,116,117,118,119,120,121,122]) rfl rZ.1 rZ.2.1 (λF=>rZ.2.2 F)))))
theorem VR:bf Di Di (aG zr):=dZ
include Z in
theorem Zd:Own P w K mg base "is_sound" 2 Di (jg K 1 vM):=by exact bDS Z.Yj VR<|λf cdv A outer s H E hr G=>aC<|aM<|cT (bC (Qq Z) G hr (bG 0 ak)<|aY len0)<|dO<|tX (oM G) (fQ G Z.fO<|aZ<|cH 0)<|aQ aH
theorem aef:bf ["things"] ["things"] (aG Tz):=dZ
include Z in
theorem Kc:Own P w K mg base "rises" 1 ["things"] (jg K 1 pY):=by exact bDS Z.ahA aef<|λf cdv A outer s H E hr G=>aC<|aM<|qz G Z.qK<|aZ<|aQ<|bF<|jw ["things","at"] 1 fZ G (yq Z.rR (aj (di ald (fQ G Z.fO<|aZ<|cH 0)<|aQ aH) ak)<|aY len0) (λX1 h1=>by have G:=G.at h1;obtain⟨_,_,_,_,_,rfl⟩:=h1;exact(aK 1)) (λX1 h1=>by have G:=G.at h1;obtain⟨_,_,_,_,_,rfl⟩:=h1;exact cR) (λX1 h1=>by have G:=G.at h1;obtain⟨_,_,_,_,_,rfl⟩:=h1;exact(tX ao4 (cL 0 G<|cH 1)<|aQ<|cL 0 G<|aQ<|d8 1 (dz G)<|aQ aH))
theorem YD:bf Di Di (aG DX):=dZ
include Z in
theorem mY:Own P w K mg base "is_pair" 1 Di (jg K 1 du):=by exact bDS Z.abw YD<|λf cdv A outer s H E hr G=>aC<|aM<|cT (gU rfl Z.bZ rfl Z.eO (by decide +kernel) Z.fK G.K (aV 0))<|dO<|tX (oM G) (fQ G Z.fO<|aZ<|cH 0)<|aQ aH
theorem Tw:bf Di Di (aG xn):=dZ
include Z in
theorem Wi:Own P w K mg base "are_marks" 2 Di (jg K 1 xQ):=by
 obtain⟨aht,ahy,lN⟩:=Z.lN;exact bDS Z.Vu Tw (λf cdv A outer s H E hr G=>au (bW (jk<|iM (cV<|cG<|gU rfl Z.bZ rfl Z.eO (by decide +kernel) Z.fK G.K (aV 0))<|jl<|mG asi (fQ G Z.fO<|aZ<|cH 0)<|aQ<|ig (.int 4) rfl lN.1 lN.2.1 (λF=>lN.2.2 F)) (aC<|aM dJ) bH)
   (aC<|aM<|cT (qz G Z.qK<|aZ<|aQ<|bF<|jw ["thing","mark"] 1 fZ G (fj G<|aV 0) (λX1 h1=>by have G:=G.at h1;obtain⟨_,_,_,_,_,rfl⟩:=h1;exact(aK 1)) (λX1 h1=>by have G:=G.at h1;obtain⟨_,_,_,_,_,rfl⟩:=h1;exact cR) (λX1 h1=>by have G:=G.at h1;obtain⟨_,_,_,_,_,rfl⟩:=h1;exact(bC (Qq Z) G hr (bG 1 ak)<|aY len0)))<|dO<|bC (Kc Z) G hr (bG 0 ak)<|aY len0))
theorem zb:bf Di Di (aG nQ):=dZ
include Z in
theorem Bp:Own P w K mg base "is_marked_sound" 3 Di (jg K 1 dh):=by exact bDS Z.Bb zb<|λf cdv A outer s H E hr G=>aC<|aM<|cT (bC (mY Z) G hr (bG 0 ak)<|aY len0)<|cT (bC (Zd Z) G hr (aj (cL 0 G<|aQ aH) ak)<|aY len0)<|dO<|bC (Wi Z) G hr (aj (cL 0 G<|aQ aH) ak)<|aY len0
theorem Tj:bf ["stock"] ["stock"] (aG wW):=dZ
include Z in
theorem xA:Own P w K mg base "sounds_of" 1 ["stock"] (jg K 1 cX):=by exact bDS Z.Vl Tj<|λf cdv A outer s H E hr G=>aC<|aM<|nu G Z.eO<|aZ<|aQ<|bF<|jw ["stock","sound","marks"] 1 fZ G (fj G<|aV 0) (λX1 h1=>by have G:=G.at h1;obtain⟨_,_,_,_,_,rfl⟩:=h1;exact(dw G<|aD (aK 1)<|aD (aK 2) bK)) (λX1 h1=>by have G:=G.at h1;obtain⟨_,_,_,_,_,rfl⟩:=h1;exact cR) (λX1 h1=>by have G:=G.at h1;obtain⟨_,_,_,_,_,rfl⟩:=h1;exact(aV 1))
theorem VN:bf Di Di (aG zp):=dZ
include Z in
theorem Za:Own P w K mg base "is_stock" 4 Di (jg K 1 bM):=by
 obtain⟨ag3,ag7,kj⟩:=Z.kj;exact bDS Z.Yh VN (λf cdv A outer s H E hr G=>au (bW (jk<|iM (cV<|cG<|gU rfl Z.bZ rfl Z.eO (by decide +kernel) Z.fK G.K (aV 0))<|jl<|cV<|Vr Xk Xk aH (fQ G Z.fO<|aZ<|cH 0)<|ig (.int 4) rfl kj.1 kj.2.1 (λF=>kj.2.2 F)) (aC<|aM dJ) bH)
   (aC<|aM<|cT (qz G Z.qK<|aZ<|aQ<|bF<|jw ["thing","row"] 1 fZ G (fj G<|aV 0) (λX1 h1=>by have G:=G.at h1;obtain⟨_,_,_,_,_,rfl⟩:=h1;exact(aK 1)) (λX1 h1=>by have G:=G.at h1;obtain⟨_,_,_,_,_,rfl⟩:=h1;exact cR) (λX1 h1=>by have G:=G.at h1;obtain⟨_,_,_,_,_,rfl⟩:=h1;exact(bC (Bp Z) G hr (bG 1 ak)<|aY len0)))<|dO<|bC (Kc Z) G hr (aj (bC (xA Z) G hr (bG 0 ak)<|aY len0) ak)<|aY len0))
theorem Yy:bf ["stock","thing","sounds"] R9 (aG DP):=dZ
include Z in
theorem rC:Own P w K mg base "is_word" 2 R9 (jg K 2 gq):=by
 exact bDS Z.abr Yy (λf cdv A outer s H E hr G=>au (bW (cV<|cG<|gU rfl Z.bZ rfl Z.Zh (by decide +kernel) Z.vB G.K (aV 1)) (aC<|aM dJ) bH)
   (au (cJ 2<|bC (xA Z) G hr (bG 0 ak)<|aY len0)
   (aC<|aM<|qz G Z.qK<|aZ<|aQ<|bF<|jw ["stock","thing","sounds","sign"] 3 fZ G (fj G<|aV 1) (λX1 h1=>by have G:=G.at h1;obtain⟨_,_,_,_,_,rfl⟩:=h1;exact(aK 3)) (λX1 h1=>by have G:=G.at h1;obtain⟨_,_,_,_,_,rfl⟩:=h1;exact cR) (λX1 h1=>by have G:=G.at h1;obtain⟨_,_,_,_,_,rfl⟩:=h1;exact(jB 3 (Pu G)<|cH 2)))))
theorem DG:bf ["sounds","thing","old","new"] Zq3 (aG qI):=dZ
include Z in
theorem JQ:Own P w K mg base "changes_sound" 2 Zq3 (jg K 2 dY):=by
 exact bDS Z.Jv DG (λf cdv A outer s H E hr G=>au (bW (cV<|cG<|bC (mY Z) G hr (bG 1 ak)<|aY len0) (aC<|aM dJ) bH)
   (au (cM (aV 1)<|dw G<|aD (aK 2)<|aD (aK 3) bK)
   (aC<|aM<|cT (jB 2 (Pu G)<|cH 0)<|cT (YZ (jB 3 (Pu G)<|cH 0)<|dO<|jB 3 (oM G)<|aQ<|aR [])<|dO<|jB 2 (ac3 G)<|cH 3)))
theorem KY:bf Zq3 Zq3 (aG t6):=dZ
include Z in
theorem O6:Own P w K mg base "puts_one_in" 2 Zq3 (jg K 2 jc):=by exact bDS Z.Oj KY<|λf cdv A outer s H E hr G=>aC<|aM<|cT (bC (mY Z) G hr (bG 1 ak)<|aY len0)<|cT (tX (oM G) (cL 1 G<|aQ aH)<|aQ<|aR [])<|dO<|tX (Pu G) (cL 1 G<|aQ aH)<|cH 0
theorem K4:bf Zq3 Zq3 (aG ug):=dZ
include Z in
theorem Pa:Own P w K mg base "are_changes" 3 Zq3 (jg K 2 bQ):=by
 exact bDS (k:=2) Z.Ot K4 (λf cdv A outer s H E hr G=>au (bW (jk<|iM (cV<|cG<|gU (T:="tuple") rfl Z.bZ rfl Z.eO (by decide +kernel) Z.fK G.K (aV 1))<|jl<|mG (oM G) (fQ G Z.fO<|aZ<|cH 1)<|aQ aH) (aC<|aM dJ) bH)
   (au (bW (jk (Bj (mG (oM G) (fQ G Z.fO (aZ (cH 1))) (aQ aH)) (Eh (cG (bC (O6 Z) G hr (bG 0 (aj (cL 1 G (aQ aH)) ak)) (aY (aY len0))))))) (aC (aM dJ)) bH)
   (aC (aM (cT (qz G Z.qK (aZ (aQ (bF (jw ["sounds","thing","change"] 2 fZ G (fj G (aV 1)) (λX1 h1=>by have G:=G.at h1;obtain⟨_,_,_,_,_,rfl⟩:=h1;exact(aK 2)) (λX1 h1=>by have G:=G.at h1;obtain⟨_,_,_,_,_,rfl⟩:=h1;exact cR) (λX1 h1=>by have G:=G.at h1;obtain⟨_,_,_,_,_,rfl⟩:=h1;exact(bC (JQ Z) G hr (bG 0 (bG 2 ak)) (aY (aY len0))))))))) (dO (bC (Kc Z) G hr (aj (bF (jw ["sounds","thing","old","new"] 2 fZ G (fj G (aV 1)) (λX1 h1=>by have G:=G.at h1;obtain⟨_,_,_,_,_,rfl⟩:=h1;exact(dw G (aD (aK 2) (aD (aK 3) bK)))) (λX1 h1=>by have G:=G.at h1;obtain⟨_,_,_,_,_,rfl⟩:=h1;exact cR) (λX1 h1=>by have G:=G.at h1;obtain⟨_,_,_,_,_,rfl⟩:=h1;exact(aV 2)))) ak) (aY len0))))))))
theorem Tu:bf Zq3 Zq3 (aG xj):=dZ
include Z in
theorem Ht:Own P w K mg base "are_signs" 2 Zq3 (jg K 2 iV):=by
 obtain⟨XN,XQ,eV⟩:=Z.eV;exact bDS (k:=1) Z.Vs Tu (λf cdv A outer s H E hr G=>au (bW (iI 1 agE (aQ gw)) (aC (aM dJ)) bH)
   (au (bW (jk (iM (cV (cG (gU (T:="tuple") rfl Z.bZ rfl Z.eO (by decide +kernel) Z.fK G.K (aV 1)))) (jl (mG (oM G) (fQ G Z.fO (aZ (cH 1))) (aQ aH))))) (aC (aM dJ)) bH)
   (aC (aM (cT (qz G Z.qK (aZ (aQ (bF (jw ["sounds","thing","sign"] 2 fZ G (fj G (aV 1)) (λX1 h1=>by have G:=G.at h1;obtain⟨_,_,_,_,_,rfl⟩:=h1;exact(aK 2)) (λX1 h1=>by have G:=G.at h1;obtain⟨_,_,_,_,_,rfl⟩:=h1;exact cR) (λX1 h1=>by have G:=G.at h1;obtain⟨_,_,_,_,_,rfl⟩:=h1;exact(YZ (jB 2 (oM G) (aQ (ig (.str [35]) rfl eV.1 eV.2.1 (λF=>eV.2.2 F)))) (dO (jB 2 (Pu G) (cH 0)))))))))) (dO (bC (Kc Z) G hr (bG 1 ak) (aY len0))))))))
theorem YB:bf ["stock","thing","way","changes","left","right","sounds"] R9 (aG DR):=dZ
include Z in
theorem Qp:Own P w K mg base "is_rule" 4 R9 (jg K 2 dF):=by
 obtain⟨atr,atv,rn⟩:=Z.rn;exact bDS (k:=3) Z.abu YB (λf cdv A outer s H E hr G=>au (bW (jk (iM (cV (cG (gU (T:="tuple") rfl Z.bZ rfl Z.eO (by decide +kernel) Z.fK G.K (aV 1)))) (jl (mG (ac3 G) (fQ G Z.fO (aZ (cH 1))) (aQ aH))))) (aC (aM dJ)) bH)
   (au (cM (aV 1) (dw G (aD (aK 2) (aD (aK 3) (aD (aK 4) (aD (aK 5) bK))))))
   (au (cJ 6 (bC (xA Z) G hr (bG 0 ak) (aY len0)))
   (aC (aM (cT (jB 2 (Pu G) (aQ (ig (.tup [(.str [111,110,99,101]),(.str [97,108,111,110,103])]) rfl rn.1 rn.2.1 (λF=>rn.2.2 F)))) (cT (bC (Pa Z) G hr (bG 6 (bG 3 ak)) (aY (aY len0))) (cT (bC (Ht Z) G hr (bG 6 (bG 4 ak)) (aY (aY len0))) (dO (bC (Ht Z) G hr (bG 6 (bG 5 ak)) (aY (aY len0))))))))))))
theorem VV:bf ["stock","thing","side","rules"] R9 (aG zx):=dZ
include Z in
theorem Ze:Own P w K mg base "is_order" 5 R9 (jg K 2 eQ):=by
 obtain⟨ahr,ahw,lL⟩:=Z.lL;obtain⟨ahq,ahv,iQ⟩:=Z.iQ;exact bDS (k:=4) Z.Yk VV (λf cdv A outer s H E hr G=>au (bW (cV (cG (bC (mY Z) G hr (bG 1 ak) (aY len0)))) (aC (aM dJ)) bH)
   (au (cM (aV 1) (dw G (aD (aK 2) (aD (aK 3) bK))))
   (au (bW (jk (iM (iI 2 (ajY G) (aQ (ig (.tup [(.str [108,101,102,116]),(.str [114,105,103,104,116])]) rfl iQ.1 iQ.2.1 (λF=>iQ.2.2 F)))) (iM (cV (cG (gU (T:="tuple") rfl Z.bZ rfl Z.eO (by decide +kernel) Z.fK G.K (aV 3)))) (jl (mG asi (fQ G Z.fO (aZ (cH 3))) (aQ (ig (.int 4) rfl lL.1 lL.2.1 (λF=>lL.2.2 F)))))))) (aC (aM dJ)) bH)
   (aC (aM (qz G Z.qK (aZ (aQ (bF (jw ["stock","thing","side","rules","rule"] 4 fZ G (fj G (aV 3)) (λX1 h1=>by have G:=G.at h1;obtain⟨_,_,_,_,_,rfl⟩:=h1;exact(aK 4)) (λX1 h1=>by have G:=G.at h1;obtain⟨_,_,_,_,_,rfl⟩:=h1;exact cR) (λX1 h1=>by have G:=G.at h1;obtain⟨_,_,_,_,_,rfl⟩:=h1;exact(bC (Qp Z) G hr (bG 0 (bG 4 ak)) (aY (aY len0))))))))))))))
theorem ahV:bf ["signs","sign"] ["signs","sign"] (aG YM):=dZ
include Z in
theorem Mf:Own P w K mg base "fits" 1 ["signs","sign"] (jg K 2 gC):=by exact bDS Z.alF ahV<|λf cdv A outer s H E hr G=>aC<|aM<|YZ (jB 0 agE<|aQ gw)<|dO<|jB 1 (Pu G)<|cH 0
theorem abJ:bf ["rule","way","changes","left","right"] ["rule"] (aG K9):=dZ
include Z in
theorem Wd:Own P w K mg base "turned" 1 ["rule"] (jg K 1 lQ):=by
 exact bDS (k:=0) Z.adV abJ (λf cdv A outer s H E hr G=>au (cM (aV 0) (dw G (aD (aK 1) (aD (aK 2) (aD (aK 3) (aD (aK 4) bK))))))
   (aC (aM (aB (bG 1 (bG 2 (bG 4 (bG 3 ak))))))))
theorem Yw:bf ["rule"] ["rule"] (aG DK):=dZ
include Z in
theorem ab7:Own P w K mg base "puts_in" 1 ["rule"] (jg K 1 rD):=by exact bDS Z.abp Yw<|λf cdv A outer s H E hr G=>aC<|aM<|tX (oM G) (Hl G (Hl G (cL 0 G<|aQ aH)<|aQ aH)<|aQ aH)<|aQ<|aR []
theorem KR:bf ["rule","word","way","changes","left","right","new","made_of","ahead","sign"] Zq4 (aG tY):=dZ
include Z in
theorem O5:Own P w K mg base "with_put_in" 2 Zq4 (jg K 2 jU):=by
 obtain⟨XN,XQ,eV⟩:=Z.eV;exact bDS (k:=1) Z.Oi KR (λf cdv A outer s H E hr G=>au (cM (aV 0) (dw G (aD (aK 2) (aD (aK 3) (aD (aK 4) (aD (aK 5) bK))))))
   (au (cJ 6 (Hl G (cL 3 G (aQ aH)) (aQ aH)))
   (au (iw 7 (cI ak))
   (au (cJ 8 (ig (.str [35]) rfl eV.1 eV.2.1 (λF=>eV.2.2 F)))
   (au (oY G (fj G (d8 1 (dz G) (aQ (ig (.str [35]) rfl eV.1 eV.2.1 (λF=>eV.2.2 F))))) (aK 9) (au (bW (jk (Bj (cG (bC (Mf Z) G hr (bG 4 (bG 8 ak)) (aY (aY len0)))) (Eh (cG (bC (Mf Z) G hr (bG 5 (bG 9 ak)) (aY (aY len0))))))) (aC (uh 7 G (aV 6))) bH)
   (au (uh 7 G (aV 9))
   (aC (cJ 8 (aV 9))))))
   (aC (aM (J5 G (aR []) (aQ (ady G (aV 7) dD (cY (Kl aH))))))))))))
theorem Jx:bf ["rule","word","way","changes","left","right","becomes","signs","made_of","ahead","at","sound","new"] Zq4 (aG rF):=dZ
include Z in
theorem Lr:Own P w K mg base "with_changes" 2 Zq4 (jg K 2 jn):=by
 obtain⟨XN,XQ,eV⟩:=Z.eV;exact bDS (k:=1) Z.Kq Jx (λf cdv A outer s H E hr G=>au (cM (aV 0) (dw G (aD (aK 2) (aD (aK 3) (aD (aK 4) (aD (aK 5) bK))))))
   (au (cJ 6 (ahj G Z.aiO (aZ (cH 3))))
   (au (cJ 7 (d8 1 (dz G) (aQ (ig (.str [35]) rfl eV.1 eV.2.1 (λF=>eV.2.2 F)))))
   (au (iw 8 (cI ak))
   (au (cJ 9 (ig (.str [35]) rfl eV.1 eV.2.1 (λF=>eV.2.2 F)))
   (au (oY G (aje Z.T8 (bG 1 ak)) (dw G (aD (aK 10) (aD (aK 11) bK))) (au (cJ 12 (aV 11))
   (au (bW (jk (Bj (iI 11 (aj0 G) (cH 6)) (Bj (cG (bC (Mf Z) G hr (bG 4 (bG 9 ak)) (aY (aY len0)))) (Eh (cG (bC (Mf Z) G hr (bG 5 (aj (cL 7 G (aQ (d8 10 (dz G) (aQ aH)))) ak)) (aY (aY len0)))))))) (aC (cJ 12 (U9 6 G (cH 11)))) bH)
   (au (uh 8 G (aV 12))
   (aC (bW (iI 2 (oM G) (aQ (aR [111,110,99,101]))) (aC (cJ 9 (aV 11))) (aC (bW (iI 12 (ac3 G) (aQ (aR []))) (aC (cJ 9 (aV 12))) bH))))))))
   (aC (aM (J5 G (aR []) (cH 8))))))))))
theorem Tt:bf Zq4 Zq4 (aG xg):=dZ
include Z in
theorem Hs:Own P w K mg base "from_left" 3 Zq4 (jg K 2 jx):=by
 exact bDS (k:=2) Z.Vq Tt (λf cdv A outer s H E hr G=>au (bW (cG (bC (ab7 Z) G hr (bG 0 ak) (aY len0))) (aC (aM (bC (O5 Z) G hr (bG 0 (bG 1 ak)) (aY (aY len0))))) bH)
   (aC (aM (bC (Lr Z) G hr (bG 0 (bG 1 ak)) (aY (aY len0))))))
theorem YJ:bf akc akc (aG Ec):=dZ
include Z in
theorem acd:Own P w K mg base "changed" 4 akc (jg K 3 m9):=by
 exact bDS (k:=3) Z.abA YJ (λf cdv A outer s H E hr G=>au (bW (iI 0 (oM G) (aQ (aR [114,105,103,104,116]))) (aC (aM (adz (bC (Hs Z) G hr (aj (bC (Wd Z) G hr (bG 1 ak) (aY len0)) (aj (adz (aV 2)) ak)) (aY (aY len0)))))) bH)
   (aC (aM (bC (Hs Z) G hr (bG 1 (bG 2 ak)) (aY (aY len0))))))
theorem ahT:bf ["order","word","side","rules","words","rule"] Zq7 (aG YK):=dZ
include Z in
theorem ae8:Own P w K mg base "walk" 5 Zq7 (jg K 2 xM):=by
 exact bDS (k:=4) Z.alD ahT (λf cdv A outer s H E hr G=>au (cM (aV 0) (dw G (aD (aK 2) (aD (aK 3) bK))))
   (au (iw 4 (cI (bG 1 ak)))
   (au (oY G (fj G (aV 3)) (aK 5) (aC (uh 4 G (bC (acd Z) G hr (bG 2 (bG 5 (aj (cL 4 G (aQ (Kl aH))) ak))) (aY (aY (aY len0)))))))
   (aC (aM (nu G Z.eO (aZ (cH 4))))))))
theorem ahU:bf Zq7 Zq7 (aG YL):=dZ
include Z in
theorem ae9:Own P w K mg base "made" 6 Zq7 (jg K 2 ux):=by exact bDS Z.alE ahU<|λf cdv A outer s H E hr G=>aC<|aM<|Hl G (bC (ae8 Z) G hr (bG 0<|bG 1 ak)<|aY<|aY len0)<|aQ<|Kl aH
theorem Du:bf ["order","side","rules"] ["order"] (aG qC):=dZ
include Z in
theorem JK:Own P w K mg base "reading_rules" 2 ["order"] (jg K 1 jO):=by
 exact bDS (k:=1) Z.Jq Du (λf cdv A outer s H E hr G=>au (cM (aV 0) (dw G (aD (aK 1) (aD (aK 2) bK))))
   (au (bW (iI 1 (oM G) (aQ (aR [114,105,103,104,116]))) (aC (aM (nu G Z.eO (aZ (aQ (bF (jw ["order","side","rules","rule"] 3 fZ G (fj G (aV 2)) (λX1 h1=>by have G:=G.at h1;obtain⟨_,_,_,_,_,rfl⟩:=h1;exact(aK 3)) (λX1 h1=>by have G:=G.at h1;obtain⟨_,_,_,_,_,rfl⟩:=h1;exact cR) (λX1 h1=>by have G:=G.at h1;obtain⟨_,_,_,_,_,rfl⟩:=h1;exact(bC (Wd Z) G hr (bG 3 ak) (aY len0)))))))))) bH)
   (aC (aM (aV 2)))))
theorem Bg:bf ["order"] ["order"] (aG oZ):=dZ
include Z in
theorem pg:Own P w K mg base "first_standing" 3 ["order"] (jg K 1 bY):=by obtain⟨XN,XQ,eV⟩:=Z.eV;exact bDS Z.Dp Bg<|λf cdv A outer s H E hr G=>aC<|aM<|nu G Z.eO<|aZ<|aQ<|bF<|jw ["order","way","changes","left","right"] 1 fZ G (fj G<|bC (JK Z) G hr (bG 0 ak)<|aY len0) (λX1 h1=>by have G:=G.at h1;obtain⟨_,_,_,_,_,rfl⟩:=h1;exact(dw G<|aD (aK 1)<|aD (aK 2)<|aD (aK 3)<|aD (aK 4) bK)) (λX1 h1=>by have G:=G.at h1;obtain⟨_,_,_,_,_,rfl⟩:=h1;exact cR) (λX1 h1=>by have G:=G.at h1;obtain⟨_,_,_,_,_,rfl⟩:=h1;exact(aB<|aj (bC (Mf Z) G hr (bG 3<|aj (ig (.str [35]) rfl eV.1 eV.2.1 (λF=>eV.2.2 F)) ak)<|aY<|aY len0)<|aj (aR []) ak))
theorem VM:bf Di Di (aG zm):=dZ
include Z in
theorem LR:Own P w K mg base "is_whole" 1 Di (jg K 1 vL):=by exact bDS Z.Yg VM<|λf cdv A outer s H E hr G=>aC<|aM<|cT (gU rfl Z.bZ rfl Z.am9 (by decide +kernel) Z.BJ G.K (aV 0))<|dO<|aih<|gU rfl Z.bZ rfl Z.aaN (by decide +kernel) Z.uJ G.K (aV 0)
theorem za:bf Zq6 Zq6 (aG nO):=dZ
include Z in
theorem nW:Own P w K mg base "is_number_below" 2 Zq6 (jg K 2 fW):=by exact bDS Z.Ba za<|λf cdv A outer s H E hr G=>aC<|aM<|cT (bC (LR Z) G hr (bG 1 ak)<|aY len0)<|dO<|Va Xk ao4 aH (aV 1)<|aV 0
theorem abK:bf Zq6 Zq6 (aG La):=dZ
include Z in
theorem xC:Own P w K mg base "is_row" 1 Zq6 (jg K 2 lg):=by exact bDS Z.adW abK<|λf cdv A outer s H E hr G=>aC<|aM<|cT (gU rfl Z.bZ rfl Z.eO (by decide +kernel) Z.fK G.K (aV 1))<|dO<|tX (oM G) (fQ G Z.fO<|aZ<|cH 1)<|cH 0
theorem O3:bf akb akb (aG vo):=dZ
include Z in
theorem T5:Own P w K mg base "are_rising" 1 akb (jg K 2 vN):=by exact bDS Z.S7 O3<|λf cdv A outer s H E hr G=>aC<|aM<|cT (gU rfl Z.bZ rfl Z.eO (by decide +kernel) Z.fK G.K (aV 1))<|cT uD<|dO uD
theorem Yz:bf Zq8 Zq8 (aG DQ):=dZ
include Z in
theorem ab9:Own P w K mg base "is_step" 3 Zq8 (jg K 3 uL):=by exact bDS Z.abt Yz<|λf cdv A outer s H E hr G=>aC<|aM<|cT (bC (mY Z) G hr (bG 2 ak)<|aY len0)<|cT (bC (rC Z) G hr (bG 0<|aj (cL 2 G<|aQ aH) ak)<|aY<|aY len0)<|dO<|bC (nW Z) G hr (bG 1<|aj (cL 2 G<|aQ aH) ak)<|aY<|aY len0
theorem VP:bf ["stock","many","thing","end","steps"] Zq8 (aG zq):=dZ
include Z in
theorem Zc:Own P w K mg base "is_state" 4 Zq8 (jg K 3 su):=by
 exact bDS (k:=3) Z.Yi VP (λf cdv A outer s H E hr G=>au (bW (cV (cG (bC (mY Z) G hr (bG 2 ak) (aY len0)))) (aC (aM dJ)) bH)
   (au (cM (aV 2) (dw G (aD (aK 3) (aD (aK 4) bK))))
   (aC (aM (cT (bC (rC Z) G hr (bG 0 (bG 3 ak)) (aY (aY len0))) (cT (bC (xC Z) G hr (aj (fQ G Z.fO (aZ (cH 0))) (bG 4 ak)) (aY (aY len0))) (dO (qz G Z.qK (aZ (aQ (bF (jw ["stock","many","thing","end","steps","step"] 5 fZ G (fj G (aV 4)) (λX1 h1=>by have G:=G.at h1;obtain⟨_,_,_,_,_,rfl⟩:=h1;exact(aK 5)) (λX1 h1=>by have G:=G.at h1;obtain⟨_,_,_,_,_,rfl⟩:=h1;exact cR) (λX1 h1=>by have G:=G.at h1;obtain⟨_,_,_,_,_,rfl⟩:=h1;exact(bC (ab9 Z) G hr (bG 0 (bG 1 (bG 5 ak))) (aY (aY (aY len0)))))))))))))))))
theorem OJ:bf ["stock","thing","first","states"] R9 (aG vh):=dZ
include Z in
theorem Bq:Own P w K mg base "is_machine" 5 R9 (jg K 2 gV):=by
 exact bDS (k:=4) Z.S6 OJ (λf cdv A outer s H E hr G=>au (bW (cV (cG (bC (mY Z) G hr (bG 1 ak) (aY len0)))) (aC (aM dJ)) bH)
   (au (cM (aV 1) (dw G (aD (aK 2) (aD (aK 3) bK))))
   (au (bW (jk (iM (cV (cG (bC (rC Z) G hr (bG 0 (bG 2 ak)) (aY (aY len0))))) (iM (cV (cG (gU (T:="tuple") rfl Z.bZ rfl Z.eO (by decide +kernel) Z.fK G.K (aV 3)))) (jl (mG (oM G) (fQ G Z.fO (aZ (cH 3))) (aQ aH)))))) (aC (aM dJ)) bH)
   (aC (aM (qz G Z.qK (aZ (aQ (bF (jw ["stock","thing","first","states","state"] 4 fZ G (fj G (aV 3)) (λX1 h1=>by have G:=G.at h1;obtain⟨_,_,_,_,_,rfl⟩:=h1;exact(aK 4)) (λX1 h1=>by have G:=G.at h1;obtain⟨_,_,_,_,_,rfl⟩:=h1;exact cR) (λX1 h1=>by have G:=G.at h1;obtain⟨_,_,_,_,_,rfl⟩:=h1;exact(bC (Zc Z) G hr (bG 0 (aj (fQ G Z.fO (aZ (cH 3))) (bG 4 ak))) (aY (aY (aY len0)))))))))))))))
theorem JF:bf R9 R9 (aG rN):=dZ
include Z in
theorem Ma:Own P w K mg base "is_told_pair" 3 R9 (jg K 2 xP):=by exact bDS Z.Ky JF<|λf cdv A outer s H E hr G=>aC<|aM<|cT (bC (mY Z) G hr (bG 1 ak)<|aY len0)<|cT (bC (rC Z) G hr (bG 0<|aj (cL 1 G<|aQ aH) ak)<|aY<|aY len0)<|dO<|bC (rC Z) G hr (bG 0<|aj (cL 1 G<|aQ aH) ak)<|aY<|aY len0
theorem YH:bf R9 R9 (aG Eb):=dZ
include Z in
theorem acb:Own P w K mg base "is_book" 4 R9 (jg K 2 yr):=by
 obtain⟨ahs,ahx,lM⟩:=Z.lM;exact bDS (k:=3) Z.abz YH (λf cdv A outer s H E hr G=>au (bW (jk (iM (cV (cG (gU (T:="tuple") rfl Z.bZ rfl Z.eO (by decide +kernel) Z.fK G.K (aV 1)))) (jl (cV (Vr Xk Xk aH (fQ G Z.fO (aZ (cH 1))) (ig (.int 6) rfl lM.1 lM.2.1 (λF=>lM.2.2 F))))))) (aC (aM dJ)) bH)
   (aC (aM (qz G Z.qK (aZ (aQ (bF (jw ["stock","thing","pair"] 2 fZ G (fj G (aV 1)) (λX1 h1=>by have G:=G.at h1;obtain⟨_,_,_,_,_,rfl⟩:=h1;exact(aK 2)) (λX1 h1=>by have G:=G.at h1;obtain⟨_,_,_,_,_,rfl⟩:=h1;exact cR) (λX1 h1=>by have G:=G.at h1;obtain⟨_,_,_,_,_,rfl⟩:=h1;exact(bC (Ma Z) G hr (bG 0 (bG 2 ak)) (aY (aY len0))))))))))))
theorem YG:bf ["stock","plan","thing","is_one","first","lead","well"] ["stock","plan","thing"] (aG Ea):=dZ
include Z in
theorem Em:Own P w K mg base "is_held" 2 ["stock","plan","thing"] (jg K 3 iG):=by
 exact bDS (k:=1) Z.aby YG (λf cdv A outer s H E hr G=>au (cM (aV 1) (dw G (aD (aK 3) (aD (aK 4) (aD (aK 5) (aD (aK 6) bK))))))
   (au (bW (cV (cG (bC (T5 Z) G hr (bG 3 (bG 2 ak)) (aY (aY len0))))) (aC (aM dJ)) bH)
   mX))
theorem JC:bf ["stock","order","machine","first","states","is_one","lead","well"] apg (aG rK):=dZ
include Z BB in
theorem Lz:Own P w K mg base "machine_plan" 4 apg (spT (oV K tabs) (Yq K 3 kY)):=by
 exact aaM (k:=3) (qs:=dX) (st1:=eG) (i1:=5) (Qx:=[0,4,1]) (st2:=fJ) (i2:=6) (Qw:=[0,1,2]) (st3:=fG) (i3:=7) (Qv:=[4,1]) Z.Kv JC rfl rfl rfl (λf A outer s H E hT hr G=>⟨(J3 (cM (aV 2) (dw G (aD (aK 3) (aD (aK 4) bK))))
   (adq (qs:=dX) (c0:=(jC K "machine_plan").1) (P:=(jC K "machine_plan").2) (st1:=eG) (i1:=5) (Qx:=[0,4,1]) (st2:=fJ) (i2:=6) (Qw:=[0,1,2]) (st3:=fG) (i3:=7) (Qv:=[4,1]) G (BB _ J0) rfl (hT _ _ Jp) ⟨wu rfl Qqw m7,wu rfl (Qqk _ Qqw) oR,wu rfl (Qqk _ (Qqk _ Qqw)) oO⟩ (aB (aj (bC (pg Z) G hr (bG 1 ak) (aY len0)) (aj aH (aj (aR []) (bG 3 ak))))))),⟨wu rfl Qqw m7,wu rfl (Qqk _ Qqw) oR,wu rfl (Qqk _ (Qqk _ Qqw)) oO⟩⟩)
theorem Bf:bf ["stock","side","rules","barred","rule","other","both","itself","is_one","lead","well"] apf (aG oX):=dZ
include Z BB in
theorem uI:Own P w K mg base "two_rules_plan" 4 apf (spT (oV K tabs) (Yq K 4 fL)):=by
 exact aaM (k:=3) (qs:=dg) (st1:=dC) (i1:=8) (Qx:=[0,7,6]) (st2:=eF) (i2:=9) (Qw:=[7,6]) (st3:=d9) (i3:=10) (Qv:=[7,6,3]) Z.Dn Bf rfl rfl rfl (λf A outer s H E hT hr G=>⟨(J3 (cM (aV 2) (dw G (aD (aK 4) (aD (aK 5) bK))))
   (J3 (cJ 6 (aB (bG 1 (bG 2 ak))))
   (J3 (cJ 7 (aB (bG 1 (aj (aB (bG 5 ak)) ak))))
   (adq (qs:=dg) (c0:=(jC K "two_rules_plan").1) (P:=(jC K "two_rules_plan").2) (st1:=dC) (i1:=8) (Qx:=[0,7,6]) (st2:=eF) (i2:=9) (Qw:=[7,6]) (st3:=d9) (i3:=10) (Qv:=[7,6,3]) G (BB _ CN) rfl (hT _ _ (Aw Z.tne)) ⟨wu rfl Qqw lE,wu rfl (Qqk _ Qqw) m6,wu rfl (Qqk _ (Qqk _ Qqw)) mZ⟩ (aB (aj (bC (pg Z) G hr (bG 6 ak) (aY len0)) (aj (bC (pg Z) G hr (bG 7 ak) (aY len0)) (aj dJ (aj dJ ak))))))))),⟨wu rfl Qqw lE,wu rfl (Qqk _ Qqw) m6,wu rfl (Qqk _ (Qqk _ Qqw)) mZ⟩⟩)
theorem YC:bf aka aka (aG DW):=dZ
include Z in
theorem aca:Own P w K mg base "is_part" 6 aka (jg K 3 cj):=by
 obtain⟨ahq,ahv,iQ⟩:=Z.iQ;exact bDS (k:=5) Z.abv YC (λf cdv A outer s H E hr G=>au (bW (iI 1 (oM G) (aQ (aR [111,114,100,101,114]))) (aC (aM (bC (Ze Z) G hr (bG 0 (bG 2 ak)) (aY (aY len0))))) bH)
   (au (bW (iI 1 (oM G) (aQ (aR [114,117,108,101]))) (aC (aM (bC (Qp Z) G hr (bG 0 (bG 2 ak)) (aY (aY len0))))) bH)
   (au (bW (iI 1 (oM G) (aQ (aR [119,111,114,100]))) (aC (aM (bC (rC Z) G hr (bG 0 (bG 2 ak)) (aY (aY len0))))) bH)
   (au (bW (iI 1 (oM G) (aQ (aR [109,97,99,104,105,110,101]))) (aC (aM (bC (Bq Z) G hr (bG 0 (bG 2 ak)) (aY (aY len0))))) bH)
   (au (bW (iI 1 (oM G) (aQ (aR [98,111,111,107]))) (aC (aM (bC (acb Z) G hr (bG 0 (bG 2 ak)) (aY (aY len0))))) bH)
   (au (bW (iI 1 (oM G) (aQ (aR [115,105,100,101]))) (aC (aM (jB 2 (Pu G) (aQ (ig (.tup [(.str [108,101,102,116]),(.str [114,105,103,104,116])]) rfl iQ.1 iQ.2.1 (λF=>iQ.2.2 F)))))) bH)
   (aC (aM (bC (LR Z) G hr (bG 2 ak) (aY len0))))))))))
theorem Tv:bf aj9 aj9 (aG xm):=dZ
include Z in
theorem Wh:Own P w K mg base "are_parts" 7 aj9 (jg K 3 fY):=by
 exact bDS (k:=6) Z.Vt Tv (λf cdv A outer s H E hr G=>au (bW (mG (ac3 G) (fQ G Z.fO (aZ (cH 2))) (aQ (fQ G Z.fO (aZ (cH 1))))) (aC (aM dJ)) bH)
   (au (bW (cV (cG (qz G Z.qK (aZ (aQ (bF (jw ["stock","kinds","things","kind","thing"] 3 fZ G (afQ G Z.afg (bG 1 (bG 2 ak))) (λX1 h1=>by have G:=G.at h1;obtain⟨_,_,_,_,_,rfl⟩:=h1;exact(dw G (aD (aK 3) (aD (aK 4) bK)))) (λX1 h1=>by have G:=G.at h1;obtain⟨_,_,_,_,_,rfl⟩:=h1;exact cR) (λX1 h1=>by have G:=G.at h1;obtain⟨_,_,_,_,_,rfl⟩:=h1;exact(bC (aca Z) G hr (bG 0 (bG 3 (bG 4 ak))) (aY (aY (aY len0)))))))))))) (aC (aM dJ)) bH)
   (aC (aM (tX Xk (adA ["stock","kinds","things","kind","thing"] 3 fZ G Z.fO (afQ G Z.afg (bG 1 (bG 2 ak))) (λX1 h1=>by have G:=G.at h1;obtain⟨_,_,_,_,_,rfl⟩:=h1;exact(dw G (aD (aK 3) (aD (aK 4) bK)))) (λX1 h1=>by have G:=G.at h1;obtain⟨_,_,_,_,_,rfl⟩:=h1;exact(yo (iI 3 (oM G) (aQ (aR [111,114,100,101,114]))))) (λX1 h1=>by have G:=G.at h1;obtain⟨_,_,_,_,_,rfl⟩:=h1;exact(cL 4 G (aQ aH)))) (aQ aH))))))
theorem Dy:bf aj8 aj8 (aG qG):=dZ
include Z BB in
theorem JN:Own P w K mg base "is_machine_of" 6 aj8 (spT (oV K tabs) (jg K 4 my)):=by exact uH Z.Jt Dy<|λf cdv A outer s H E hT hr G=>(dG.u<|aC<|aM<|cT (bC (Bq Z) G hr (bG 0<|bG 2 ak)<|aY<|aY len0)<|dO<|Sw (Em Z) (Lz Z BB) hT (lr K tabs) G hr (by rfl) (by rfl) (aV 0) (bG 0<|bG 1<|bG 2 ak) (aV 3)<|aY<|aY<|aY len0)
theorem K1:bf ["stock","parts","paper","order","word","form"] uU (aG ue):=dZ
include Z in
theorem O8:Own P w K mg base "makes_shown" 7 uU (jg K 3 jW):=by
 exact bDS (k:=6) Z.Oo K1 (λf cdv A outer s H E hr G=>au (cM (aV 1) (dw G (aD (aK 3) (aD (aK 4) (aD (aK 5) bK)))))
   (aC (aM (cT (tX (oM G) (bC (ae9 Z) G hr (bG 3 (bG 4 ak)) (aY (aY len0))) (cH 5)) (dO (tX (oM G) (bC (ae8 Z) G hr (bG 3 (bG 4 ak)) (aY (aY len0))) (cH 2)))))))
theorem Dv:bf ["stock","parts","paper","order","machine"] uU (aG qD):=dZ
include Z BB in
theorem JL:Own P w K mg base "machine_shown" 7 uU (spT (oV K tabs) (jg K 3 iC)):=by
 exact uH (k:=6) Z.Jr Dv (λf cdv A outer s H E hT hr G=>(dG.u (au (cM (aV 1) (dw G (aD (aK 3) (aD (aK 4) bK))))
   (aC (aM (aao (JN Z BB) hT (lr K tabs) G hr (bG 0 (bG 3 (bG 4 (bG 2 ak)))) (aY (aY (aY (aY len0))))))))))
theorem K5:bf ["stock","parts","paper","order","other"] uU (aG um):=dZ
include Z in
theorem Pb:Own P w K mg base "alike_shown" 2 uU (jg K 3 lU):=by
 exact bDS (k:=1) Z.Ou K5 (λf cdv A outer s H E hr G=>au (cM (aV 1) (dw G (aD (aK 3) (aD (aK 4) bK))))
   (au (bW (cV (cG (bC (xC Z) G hr (aj aH (bG 2 ak)) (aY (aY len0))))) (aC (aM dJ)) bH)
   mX))
theorem Jz:bf ["stock","parts","paper","order","other","word"] uU (aG rH):=dZ
include Z in
theorem Lx:Own P w K mg base "parted_shown" 1 uU (jg K 3 kJ):=by
 exact bDS (k:=0) Z.Ks Jz (λf cdv A outer s H E hr G=>au (cM (aV 1) (dw G (aD (aK 3) (aD (aK 4) (aD (aK 5) bK)))))
   (aC (aM (cT (jB 2 agE (aQ gw)) (dO uD)))))
theorem yX:bf ["stock","parts","paper","order","form"] uU (aG nJ):=dZ
include Z in
theorem Bl:Own P w K mg base "no_source_shown" 2 uU (jg K 3 iR):=by
 exact bDS (k:=1) Z.Ay yX (λf cdv A outer s H E hr G=>au (cM (aV 1) (dw G (aD (aK 3) (aD (aK 4) bK))))
   (au (bW (cV (cG (bC (xC Z) G hr (aj aH (bG 2 ak)) (aY (aY len0))))) (aC (aM dJ)) bH)
   mX))
theorem yZ:bf ["stock","parts","paper","order","other","form","second"] uU (aG nM):=dZ
include Z in
theorem Bm:Own P w K mg base "no_common_shown" 2 uU (jg K 3 iU):=by
 exact bDS (k:=1) Z.Az yZ (λf cdv A outer s H E hr G=>au (cM (aV 1) (dw G (aD (aK 3) (aD (aK 4) (aD (aK 5) (aD (aK 6) bK))))))
   (au (bW (cV (cG (bC (xC Z) G hr (aj aH (bG 2 ak)) (aY (aY len0))))) (aC (aM dJ)) bH)
   mX))
theorem Dz:bf ["stock","parts","paper","order","form","ahead","ring","behind"] uU (aG qH):=dZ
include Z in
theorem JP:Own P w K mg base "endless_shown" 7 uU (jg K 3 jP):=by
 exact bDS (k:=6) Z.Ju Dz (λf cdv A outer s H E hr G=>au (cM (aV 1) (dw G (aD (aK 3) (aD (aK 4) (aD (aK 5) (aD (aK 6) (aD (aK 7) bK)))))))
   (au (bW (jk (iM (iI 6 (oM G) (aQ (aR []))) (iM (mG (ac3 G) (bC (ae9 Z) G hr (bG 3 (aj (d8 5 (dz G) (cH 7)) ak)) (aY (aY len0))) (cH 4)) (jl (cV (cG (bC (xC Z) G hr (aj aH (bG 2 ak)) (aY (aY len0))))))))) (aC (aM dJ)) bH)
   mX))
theorem O4:bf ["stock","parts","paper","order","number","word"] uU (aG vp):=dZ
include Z in
theorem T6:Own P w K mg base "acts_shown" 3 uU (jg K 3 oh):=by
 exact bDS (k:=2) Z.S8 O4 (λf cdv A outer s H E hr G=>au (cM (aV 1) (dw G (aD (aK 3) (aD (aK 4) (aD (aK 5) bK)))))
   (au (bW (jk (iM (iI 2 ajZ (aQ gw)) (jl (cV (cG (bC (nW Z) G hr (aj (fQ G Z.fO (aZ (aQ (cL 3 G (aQ aH))))) (bG 4 ak)) (aY (aY len0)))))))) (aC (aM dJ)) bH)
   mX))
theorem KZ:bf ["stock","parts","paper","order","number"] uU (aG t7):=dZ
include Z in
theorem O7:Own P w K mg base "never_shown" 3 uU (jg K 3 jV):=by
 exact bDS (k:=2) Z.Ol KZ (λf cdv A outer s H E hr G=>au (cM (aV 1) (dw G (aD (aK 3) (aD (aK 4) bK))))
   (aC (aM (cT (bC (nW Z) G hr (aj (fQ G Z.fO (aZ (aQ (cL 3 G (aQ aH))))) (bG 4 ak)) (aY (aY len0))) (dO uD)))))
theorem Ti:bf asr uU (aG wV):=dZ
include Z in
theorem Wc:Own P w K mg base "way_shown" 1 uU (jg K 3 qj):=by
 exact bDS (k:=0) Z.Vk Ti (λf cdv A outer s H E hr G=>au (cM (aV 1) (dw G (aD (aK 3) (aD (aK 4) (aD (aK 5) (aD (aK 6) bK))))))
   (aC (aM (cT (jB 2 agE (aQ gw)) (dO uD)))))
theorem Jy:bf asr uU (aG rG):=dZ
include Z in
theorem Lw:Own P w K mg base "taking_shown" 1 uU (jg K 3 kI):=by
 exact bDS (k:=0) Z.Kr Jy (λf cdv A outer s H E hr G=>au (cM (aV 1) (dw G (aD (aK 3) (aD (aK 4) (aD (aK 5) (aD (aK 6) bK))))))
   (aC (aM (cT (jB 2 agE (aQ gw)) (dO uD)))))
theorem JB:bf asq uU (aG rJ):=dZ
include Z BB in
theorem Ly:Own P w K mg base "no_way_shown" 5 uU (spT (oV K tabs) (jg K 3 jo)):=by
 exact uH (k:=4) Z.Ku JB (λf cdv A outer s H E hT hr G=>(dG.u (au (cM (aV 1) (dw G (aD (aK 3) (aD (aK 4) (aD (aK 5) bK)))))
   (aC (aM (Sw (Em Z) (uI Z BB) hT (lr K tabs) G hr (by rfl) (by rfl) (aV 0) (bG 0 (bG 3 (aj (aB (bG 4 (bG 5 ak))) (aj (aB (aj dJ (aj dJ ak))) ak)))) (aV 2) (aY (aY (aY (aY len0))))))))))
theorem yW:bf asq uU (aG nH):=dZ
include Z BB in
theorem Bk:Own P w K mg base "no_taking_shown" 5 uU (spT (oV K tabs) (jg K 3 gM)):=by
 exact uH (k:=4) Z.Ax yW (λf cdv A outer s H E hT hr G=>(dG.u (au (cM (aV 1) (dw G (aD (aK 3) (aD (aK 4) (aD (aK 5) bK)))))
   (aC (aM (Sw (Em Z) (uI Z BB) hT (lr K tabs) G hr (by rfl) (by rfl) (aV 0) (bG 0 (bG 3 (aj (aB (bG 4 (bG 5 ak))) (aj (aB (aj dJ (aj dJ ak))) ak)))) (aV 2) (aY (aY (aY (aY len0))))))))))
theorem aeg:bf ["claim","paper","word","stock","parts","shown"] ["claim","paper"] (aG TF):=dZ
include Z BB in
theorem aiN:Own P w K mg base "holds" 8 ["claim","paper"] (spT (oV K tabs) (jg K 2 rA)):=by
 obtain⟨ahp,ahu,uq⟩:=Z.uq;obtain⟨ag2,ag6,rY⟩:=Z.rY;obtain⟨adh,adk,pB⟩:=Z.pB;obtain⟨adg,adi,pA⟩:=Z.pA;obtain⟨ag1,ag5,rW⟩:=Z.rW;obtain⟨ag0,ag4,rT⟩:=Z.rT;obtain⟨aas,aaw,mL⟩:=Z.mL;obtain⟨aar,aav,mK⟩:=Z.mK;obtain⟨aaq,aau,mJ⟩:=Z.mJ;obtain⟨adI,adQ,qO⟩:=Z.qO;obtain⟨adH,adP,qN⟩:=Z.qN;obtain⟨adG,adO,qM⟩:=Z.qM;obtain⟨akx,akA,vC⟩:=Z.vC;exact uH (k:=7) Z.ahB aeg (λf cdv A outer s H E hT hr G=>(dG.u (au (bW (jk (iM (cV (cG (gU (T:="tuple") rfl Z.bZ rfl Z.eO (by decide +kernel) Z.fK G.K (aV 0)))) (jl (mG ao4 (fQ G Z.fO (aZ (cH 0))) (aQ aH))))) (aC (aM dJ)) bH)
   (au (cJ 2 (cL 0 G (aQ aH)))
   (au (cJ 3 (cL 0 G (aQ aH)))
   (au (bW (jk (iM (cV (cG (gU (T:="str") rfl Z.bZ rfl Z.Zh (by decide +kernel) Z.vB G.K (aV 2)))) (iM (X8 Z.uK (aV 2)) (jl (cV (cG (bC (Za Z) G hr (bG 3 ak) (aY len0)))))))) (aC (aM dJ)) bH)
   (au (cJ 4 (jA G (aV 0) (cY aH) dD))
   (au (cJ 5 (U8 Z.xH G (aV 2)))
   (aC (aM (cT (bC (Wh Z) G hr (bG 3 (aj (U8 Z.uK G (aV 2)) (bG 4 ak))) (aY (aY (aY len0)))) (dO (qy (tW 5 (O8 Z) Z.rW G hr (by rfl) (bG 3 (bG 4 (bG 1 ak))) (aY (aY (aY len0))))
    (qy (Sx 5 (JL Z BB) Z.pA hT (lr K tabs) G hr (by rfl) (bG 3 (bG 4 (bG 1 ak))) (aY (aY (aY len0))))
    (qy (tW 5 (Pb Z) Z.rY G hr (by rfl) (bG 3 (bG 4 (bG 1 ak))) (aY (aY (aY len0))))
    (qy (tW 5 (Lx Z) Z.qN G hr (by rfl) (bG 3 (bG 4 (bG 1 ak))) (aY (aY (aY len0))))
    (qy (tW 5 (Bl Z) Z.mK G hr (by rfl) (bG 3 (bG 4 (bG 1 ak))) (aY (aY (aY len0))))
    (qy (tW 5 (JP Z) Z.pB G hr (by rfl) (bG 3 (bG 4 (bG 1 ak))) (aY (aY (aY len0))))
    (qy (tW 5 (Bm Z) Z.mL G hr (by rfl) (bG 3 (bG 4 (bG 1 ak))) (aY (aY (aY len0))))
    (qy (tW 5 (T6 Z) Z.uq G hr (by rfl) (bG 3 (bG 4 (bG 1 ak))) (aY (aY (aY len0))))
    (qy (tW 5 (O7 Z) Z.rT G hr (by rfl) (bG 3 (bG 4 (bG 1 ak))) (aY (aY (aY len0))))
    (qy (tW 5 (Wc Z) Z.vC G hr (by rfl) (bG 3 (bG 4 (bG 1 ak))) (aY (aY (aY len0))))
    (qy (tW 5 (Lw Z) Z.qM G hr (by rfl) (bG 3 (bG 4 (bG 1 ak))) (aY (aY (aY len0))))
    (qy (Sx 5 (Ly Z BB) Z.qO hT (lr K tabs) G hr (by rfl) (bG 3 (bG 4 (bG 1 ak))) (aY (aY (aY len0))))
    (Sx 5 (Bk Z BB) Z.mJ hT (lr K tabs) G hr (by rfl) (bG 3 (bG 4 (bG 1 ak))) (aY (aY (aY len0))))))))))))))))))))))))))))
theorem Tr:bf ["_law_cell"] ["_law_cell"] (aG xf):=dZ
include Z in
theorem Wg:Own P w K mg base "_law_mixed" 1 ["_law_cell"] (jg K 1 kZ):=by exact bDS (k:=0) Z.Vp Tr<|λf cdv A outer s H E hr G=>aC<|aM<|di aso (d8 0 agG<|aQ aH)<|aQ<|di alf aH<|aQ aH
theorem VL:bf ["_law_script","_law_k","_law_found","_law_at"] ["_law_script","_law_k"] (aG zj):=dZ
include Z in
theorem LQ:Own P w K mg base "_law_pack" 2 ["_law_script","_law_k"] (spN K 2 mU):=by
 exact aiC (k:=1) Z.Ye VL (λf cdv A outer s H E hr G=>(dG.u (au (cJ 2 aH)
   (au (oY G (fj G (bF (cI (aj (d8 1 (dz G) (aQ aH)) (bG 1 ak))))) (aK 3) (aC (cJ 2 (di (dz G) (d8 2 agG (aQ (di alf aH (aQ aH)))) (aQ (bC (Wg Z) G hr (aj (Hl G (di (dz G) (ady G (aV 0) (cY (aV 3)) (cY (d8 3 (dz G) (aQ aH)))) (aQ (bF (cI (aj (di (dz G) (di agG aH (cH 3)) (aQ aH)) ak))))) (aQ aH)) ak) (aY len0)))))))
   (aC (V2 (cI (bG 2 ak))))))))
theorem VH:bf ["_law_pack_here","_law_size","_law_digit"] ape (aG zf):=dZ
include Z in
theorem fV:Own P w K mg base "_law_take" 1 ape (Ds K 2 bL):=by
 exact zB (k:=0) Z.Yc VH (λf cdv A outer s H E a hr G=>(dG.u (au (cM (abj G Z.acf (zA (cL 0 G (aQ aH)) (aZ (cH 1)))) (dw G (aD (arS 0 aH) (aD (aK 2) bK))))
   (aC (aM (aV 2))))))
theorem Tn:bf ["_law_pack_here","_law_sounds_here","_law_known","_law_found","_law_sound","_law_number","_law_marks"] ["_law_pack_here"] (aG wX):=dZ
include Z in
theorem We:Own P w K mg base "_law_stock" 2 ["_law_pack_here"] (Ds K 1 xN):=by
 exact zB (k:=1) Z.Vm Tn (λf cdv A outer s H E a hr G=>(dG.u (au (cJ 1 (Hl G (bF (pR (aU (aR [97]) (aU (aR [97,98]) (aU (aR [97,98]) (aU (aR [97,98,99]) (aU (aR [97,101,112,116]) (aU (aR [109,110,122]) lK)))))))) (aQ (lC 0 (fV Z) G hr (aj aH ak) (lD (aY len0))))))
   (au (cJ 2 (bF (cI (aj (aR [115,116,111,112]) (aj (aR [115,116,111,112,115]) (aj (aR [115]) (aj (aR [111,112,101,110]) (aj (aR [97,98,99,100,101,102,103,104]) ak))))))))
   (au (iw 3 (cI ak))
   (au (oY G (fj G (aV 1)) (aK 4) (au (cJ 5 (lC 0 (fV Z) G hr (aj aH ak) (lD (aY len0))))
   (au (cJ 6 (PL G Z.Qs (aZ (aQ (bF (jw ["_law_pack_here","_law_sounds_here","_law_known","_law_found","_law_sound","_law_number","_law_marks","_law_k"] 7 fZ G (yq Z.rR (aj aH ak) (aY len0)) (λX1 h1=>by have G:=G.at h1;obtain⟨_,_,_,_,_,rfl⟩:=h1;exact(aK 7)) (λX1 h1=>by have G:=G.at h1;obtain⟨_,_,_,_,_,rfl⟩:=h1;exact(yo (mG (oM G) (di alh (d8 5 ale (cH 7)) (aQ aH)) (aQ aH)))) (λX1 h1=>by have G:=G.at h1;obtain⟨_,_,_,_,_,rfl⟩:=h1;exact(cL 2 G (cH 7)))))))))
   (aC (uh 3 G (aB (bG 4 (aj (nu G Z.eO (aZ (aQ (ady G (aV 6) dD (cY aH))))) ak))))))))
   (aC (aM (nu G Z.eO (aZ (cH 3)))))))))))
theorem Ox:bf Zq9 Zq9 (aG vf):=dZ
include Z in
theorem Bo:Own P w K mg base "_law_sounds" 1 Zq9 (jg K 1 jF):=by exact bDS (k:=0) Z.SQ Ox<|λf cdv A outer s H E hr G=>aC<|aM<|J5 G (aR [])<|aQ<|bF<|jw ["_law_stock_here","_law_sound","_law_marks"] 1 fZ G (fj G<|aV 0) (λX1 h1=>by have G:=G.at h1;obtain⟨_,_,_,_,_,rfl⟩:=h1;exact(dw G<|aD (aK 1)<|aD (aK 2) bK)) (λX1 h1=>by have G:=G.at h1;obtain⟨_,_,_,_,_,rfl⟩:=h1;exact cR) (λX1 h1=>by have G:=G.at h1;obtain⟨_,_,_,_,_,rfl⟩:=h1;exact(aV 1))
theorem Tp:bf ["_law_pack_here","_law_sounds_here","_law_number","_law_signs_here"] Zq5 (aG wY):=dZ
include Z in
theorem Hr:Own P w K mg base "_law_signs" 2 Zq5 (Ds K 2 ql):=by
 exact zB (k:=1) Z.Vn Tp (λf cdv A outer s H E a hr G=>(dG.u (au (bW (mG (oM G) (lC 0 (fV Z) G hr (aj aH ak) (lD (aY len0))) (aQ aH)) (aC (aM gw)) bH)
   (au (cJ 2 (di (dz G) aH (aQ (lC 0 (fV Z) G hr (aj (di ald (di asn aH (aQ (fQ G Z.fO (aZ (cH 1))))) (aQ aH)) ak) (lD (aY len0))))))
   (au (cJ 3 (di (dz G) (aR [35]) (cH 1)))
   (aC (aM (nu G Z.eO (aZ (aQ (bF (jw ["_law_pack_here","_law_sounds_here","_law_number","_law_signs_here","_law_k"] 4 fZ G (yq Z.rR (aj (fQ G Z.fO (aZ (cH 3))) ak) (aY len0)) (λX1 h1=>by have G:=G.at h1;obtain⟨_,_,_,_,_,rfl⟩:=h1;exact(aK 4)) (λX1 h1=>by have G:=G.at h1;obtain⟨_,_,_,_,_,rfl⟩:=h1;exact(yo (mG (oM G) (di alh (d8 2 ale (cH 4)) (aQ aH)) (aQ aH)))) (λX1 h1=>by have G:=G.at h1;obtain⟨_,_,_,_,_,rfl⟩:=h1;exact(cL 3 G (cH 4)))))))))))))))
theorem K3:bf ["_law_pack_here","_law_sounds_here","_law_found","_law_turn","_law_one","_law_others"] Zq5 (aG uf):=dZ
include Z in
theorem O9:Own P w K mg base "_law_changes" 2 Zq5 (Ds K 2 uy):=by
 exact zB (k:=1) Z.Oq K3 (λf cdv A outer s H E a hr G=>(dG.u (au (bW (mG (oM G) (lC 0 (fV Z) G hr (aj aH ak) (lD (aY len0))) (aQ aH)) (aC (aM (aB (aj (aB (aj (aR []) (aj (cL 1 G (aQ (lC 0 (fV Z) G hr (aj (fQ G Z.fO (aZ (cH 1))) ak) (lD (aY len0))))) ak))) ak)))) bH)
   (au (iw 2 Ei)
   (au (oY G (yq Z.rR (aj (di (dz G) aH (aQ (lC 0 (fV Z) G hr (aj aH ak) (lD (aY len0))))) ak) (aY len0)) (aK 3) (au (cJ 4 (cL 1 G (aQ (lC 0 (fV Z) G hr (aj (fQ G Z.fO (aZ (cH 1))) ak) (lD (aY len0))))))
   (au (ap4 ["_law_pack_here","_law_sounds_here","_law_found","_law_turn","_law_one","_law_others","_law_sound"] 6 5 fZ G (fj G (di (dz G) (sV G Z.sX (aZ (cH 1))) (aQ (bF (cI (aj (aR []) ak)))))) (λX1 h1=>by have G:=G.at h1;obtain⟨_,_,_,_,_,rfl⟩:=h1;exact(aK 6)) (λX1 h1=>by have G:=G.at h1;obtain⟨_,_,_,_,_,rfl⟩:=h1;exact(yo (iI 6 (ac3 G) (cH 4)))) (λX1 h1=>by have G:=G.at h1;obtain⟨_,_,_,_,_,rfl⟩:=h1;exact(aV 6)))
   (aC (ahW 2 G (aV 4) (cL 5 G (aQ (lC 0 (fV Z) G hr (aj (fQ G Z.fO (aZ (cH 5))) ak) (lD (aY len0))))))))))
   (aC (aM (nu G Z.eO (aZ (aQ (bF (jw ["_law_pack_here","_law_sounds_here","_law_found","_law_turn","%4","_law_others","_law_one"] 6 fZ G (fj G (PL G Z.Qs (aZ (cH 2)))) (λX1 h1=>by have G:=G.at h1;obtain⟨_,_,_,_,_,rfl⟩:=h1;exact(aK 6)) (λX1 h1=>by have G:=G.at h1;obtain⟨_,_,_,_,_,rfl⟩:=h1;exact cR) (λX1 h1=>by have G:=G.at h1;obtain⟨_,_,_,_,_,rfl⟩:=h1;exact(aB (bG 6 (aj (U9 2 G (cH 6)) ak))))))))))))))))
theorem VJ:bf ["_law_pack_here","_law_sounds_here","_law_how","_law_changes_here"] Zq5 (aG zg):=dZ
include Z in
theorem LK:Own P w K mg base "_law_rule" 3 Zq5 (Ds K 2 pD):=by
 exact zB (k:=2) Z.Yd VJ (λf cdv A outer s H E a hr G=>(dG.u (au (cJ 2 (Hl G (bF (cI (aj (aR [111,110,99,101]) (aj (aR [97,108,111,110,103]) ak)))) (aQ (lC 0 (fV Z) G hr (aj aH ak) (lD (aY len0))))))
   (au (cJ 3 (lC 0 (O9 Z) G hr (bG 1 ak) (lD (aY len0))))
   (aC (aM (aB (bG 2 (bG 3 (aj (lC 0 (Hr Z) G hr (bG 1 ak) (lD (aY len0))) (aj (lC 0 (Hr Z) G hr (bG 1 ak) (lD (aY len0))) ak)))))))))))
theorem Tq:bf ["_law_pack_here","_law_sounds_here","_law_most","_law_side"] aag (aG wZ):=dZ
include Z in
theorem Wf:Own P w K mg base "_law_order" 4 aag (Ds K 3 xO):=by
 exact zB (k:=3) Z.Vo Tq (λf cdv A outer s H E a hr G=>(dG.u (au (cJ 3 (Hl G (bF (cI (aj (aR [108,101,102,116]) (aj (aR [114,105,103,104,116]) ak)))) (aQ (lC 0 (fV Z) G hr (aj aH ak) (lD (aY len0))))))
   (aC (aM (aB (bG 3 (aj (nu G Z.eO (aZ (aQ (bF (jw ["_law_pack_here","_law_sounds_here","_law_most","_law_side","_law_turn"] 4 fZ G (yq Z.rR (aj (lC 0 (fV Z) G hr (aj (d8 2 (dz G) (aQ aH)) ak) (lD (aY len0))) ak) (aY len0)) (λX1 h1=>by have G:=G.at h1;obtain⟨_,_,_,_,_,rfl⟩:=h1;exact(aK 4)) (λX1 h1=>by have G:=G.at h1;obtain⟨_,_,_,_,_,rfl⟩:=h1;exact cR) (λX1 h1=>by have G:=G.at h1;obtain⟨_,_,_,_,_,rfl⟩:=h1;exact(lC 0 (LK Z) G hr (bG 1 ak) (lD (aY len0))))))))) ak))))))))
theorem VG:bf aag aag (aG zc):=dZ
include Z in
theorem Y9:Own P w K mg base "_law_word" 2 aag (Ds K 3 mR):=by exact zB (k:=1) Z.Yb VG<|λf cdv A outer s H E a hr G=>(dG.u<|aC<|aM<|J5 G (aR [])<|aQ<|bF<|jw ["_law_pack_here","_law_sounds_here","_law_most","_law_turn"] 3 fZ G (yq Z.rR (aj (lC 0 (fV Z) G hr (aj (d8 2 (dz G)<|aQ aH) ak)<|lD<|aY len0) ak)<|aY len0) (λX1 h1=>by have G:=G.at h1;obtain⟨_,_,_,_,_,rfl⟩:=h1;exact(aK 3)) (λX1 h1=>by have G:=G.at h1;obtain⟨_,_,_,_,_,rfl⟩:=h1;exact cR) (λX1 h1=>by have G:=G.at h1;obtain⟨_,_,_,_,_,rfl⟩:=h1;exact(cL 1 G<|aQ<|lC 0 (fV Z) G hr (aj (fQ G Z.fO<|aZ<|cH 1) ak)<|lD<|aY len0)))
theorem Dw:bf ["_law_stock_here","_law_sound","_law_marks","_law_found"] Zq9 (aG qF):=dZ
include Z in
theorem JM:Own P w K mg base "_law_no_stocks" 1 Zq9 (jg K 1 iD):=by
 exact bDS (k:=0) Z.Js Dw (λf cdv A outer s H E hr G=>au (cM (cL 0 G (aQ aH)) (dw G (aD (aK 1) (aD (aK 2) bK))))
   (au (cJ 3 (bF (pR (aU gw (aU aH (aU (aB ak) (aU (aR [97]) (aU (bF (cI ak)) (aU (bF Ei) (aU (sV G Z.sX (aZ (cH 0))) (aU (d8 0 (dz G) (cH 0)) (aU (d8 0 (dz G) (aQ (aB (aj (aB (aj (aR [122]) ak)) ak)))) (aU (aB (bG 1 ak)) (aU (aB (aj (aB (bG 1 (aj (sV G Z.sX (aZ (cH 2))) ak))) ak)) lK))))))))))))))
   (au (cJ 3 (d8 3 (dz G) (aQ (bF (pR (aU (aB (aj (aB (aj (aR []) (aj (aB ak) ak))) ak)) (aU (aB (aj (aB (aj (aR [65]) (aj (aB ak) ak))) ak)) (aU (aB (aj (aB (aj (aR [97,98]) (aj (aB ak) ak))) ak)) (aU (aB (aj (aB (aj (aR [35]) (aj (aB ak) ak))) ak)) (aU (aB (aj (aB (aj gw (aj (aB ak) ak))) ak)) (aU (aB (aj (aB (bG 1 (aj (aB (aj (aR []) ak)) ak))) ak)) lK)))))))))))
   (au (cJ 3 (d8 3 (dz G) (aQ (bF (cI (aj (aB (aj (aB (bG 1 (aj (aB (aj (aR [98]) (aj (aR [97]) ak))) ak))) ak)) (aj (aB (aj (aB (bG 1 (aj (aB (aj (aR [97]) (aj (aR [97]) ak))) ak))) ak)) (aj (aB (aj (aB (bG 1 (aj (aB (aj (aR [97]) (aj (aR [98]) (aj (aR [99]) (aj (aR [100]) (aj (aR [101]) ak)))))) ak))) ak)) ak))))))))
   (aC (aM (d8 3 (dz G) (aQ (bF (cI (aj (aB (aj (aB (bG 1 (aj gw ak))) ak)) (aj (aB (aj (aB (bG 1 (bG 2 (aj aH ak)))) ak)) (aj (aB (aj (aB (aj (aR [97]) (aj (aB ak) ak))) (aj (aB (aj (aR [98]) (aj (aB ak) ak))) (aj (aB (aj (aR [99]) (aj (aB ak) ak))) (aj (aB (aj (aR [100]) (aj (aB ak) ak))) (aj (aB (aj (aR [101]) (aj (aB ak) ak))) ak)))))) ak)))))))))))))
theorem JD:bf ["_law_rule_here","_law_sounds_here","_law_how","_law_changes_here","_law_ahead","_law_behind","_law_found","_law_one","_law_some","_law_odd"] apd (aG rM):=dZ
include Z in
theorem xB:Own P w K mg base "_law_no_rules" 1 apd (jg K 2 dU):=by
 exact bDS (k:=0) Z.Kw JD (λf cdv A outer s H E hr G=>au (cM (aV 0) (dw G (aD (aK 2) (aD (aK 3) (aD (aK 4) (aD (aK 5) bK))))))
   (au (iw 6 (pR (aU gw (aU (aB ak) (aU (sV G Z.sX (aZ (cH 0))) (aU (d8 0 (dz G) (aQ (aB (aj aH ak)))) (aU (jA G (aV 0) dD (cY aH)) (aU (di (dz G) (aB (aj (aR [116,119,105,99,101]) ak)) (aQ (jA G (aV 0) (cY aH) dD))) (aU (di (dz G) (aB (aj gw ak)) (aQ (jA G (aV 0) (cY aH) dD))) (aU (aR [111,110,99,101]) lK))))))))))
   (au (cJ 7 (cL 1 G (aQ aH)))
   (au (cJ 8 (bF (pR (aU (aB ak) (aU gw (aU (sV G Z.sX (aZ (cH 3))) (aU (aB (aj (aB (bG 7 (bG 7 ak))) ak)) (aU (aB (aj (aB (aj (aR []) (aj (aR []) ak))) ak)) (aU (aB (aj (aB (aj (aR [35]) (aj (aR []) ak))) ak)) (aU (aB (aj (aB (bG 7 ak)) ak)) (aU (aB (aj (aB (aj aH (aj (aR []) ak))) ak)) lK)))))))))))
   (au (cJ 8 (d8 8 (dz G) (aQ (bF (cI (aj (aB (aj (aB (aj (aR []) (bG 7 ak))) (aj (aB (bG 7 (aj (aR []) ak))) ak))) (aj (aB (aj (aB (bG 7 (aj (aR []) ak))) (aj (aB (bG 7 (aj (aR []) ak))) ak))) (aj (aB (aj (aB (bG 7 (aj (aR [35]) ak))) ak)) (aj (d8 3 (Ux G) (aQ aH)) ak)))))))))
   (au (oY G (fj G (aV 8)) (aK 9) (aC (uh 6 G (aB (bG 2 (bG 9 (bG 4 (bG 5 ak))))))))
   (au (oY G (fj G (bF (pR (aU (aB ak) (aU (aR [97]) (aU (bF (cI (aj (cL 1 G (aQ aH)) ak))) (aU (aB (aj (cL 1 G (aQ aH)) (aj (cL 1 G (aQ aH)) ak))) (aU (aB (aj (cL 1 G (aQ aH)) (aj (aR [35]) ak))) (aU (aB (aj (aR [35,35]) ak)) (aU (aB (aj (aR []) ak)) (aU (aB (aj gw ak)) (aU (aB (aj aH ak)) (aU dJ lK))))))))))))) (aK 9) (aC (iw 6 (qL (aV 6) (aQ (bF (cI (aj (aB (bG 2 (bG 3 (bG 9 (bG 5 ak))))) (aj (aB (bG 2 (bG 3 (bG 4 (bG 9 ak))))) ak)))))))))
   (aC (aM (aV 6))))))))))
theorem Oz:bf ["_law_stock_here","_law_order_here","_law_rule_here","_law_word_here","_law_machine","_law_two","_law_found"] ac8 (aG vg):=dZ
include Z in
theorem T4:Own P w K mg base "_law_claims" 1 ac8 (jg K 4 rz):=by
 exact bDS (k:=0) Z.S5 Oz (λf cdv A outer s H E hr G=>au (cJ 4 (aB (aj (aR []) (aj (aB (aj (aB (aj (aR []) (aj (di (Ux G) (aB (aj (aB (aj (aR []) (aj aH ak))) ak)) (aQ (fQ G Z.fO (aZ (cH 0))))) ak))) ak)) ak))))
   (au (cJ 5 (aB (aj (cL 1 G (aQ aH)) (bG 2 (bG 2 ak)))))
   (au (iw 6 (cI (aj (aB (aj (aB (aj (aR [109,97,107,101,115]) (bG 0 (bG 1 (bG 3 (bG 3 ak)))))) (aj (aB (bG 3 ak)) ak))) ak)))
   (au (uh 6 G (aB (aj (aB (aj (aR [109,97,99,104,105,110,101]) (bG 0 (bG 1 (bG 4 ak))))) (aj (aB (aj (aB (aj (aB ak) (aj aH (aj (aR []) (aj (aR []) ak))))) ak)) ak))))
   (au (iw 6 (qL (aV 6) (aQ (bF (cI (aj (aB (aj (aB (aj (aR [97,108,105,107,101]) (bG 0 (bG 1 (bG 1 ak))))) (aj (aB (bG 4 (aj (aB ak) (aj (aB ak) ak)))) ak))) (aj (aB (aj (aB (aj (aR [112,97,114,116,101,100]) (bG 0 (bG 1 (bG 1 (bG 3 ak)))))) (aj gw ak))) ak)))))))
   (au (iw 6 (qL (aV 6) (aQ (bF (cI (aj (aB (aj (aB (aj (aR [110,111,32,115,111,117,114,99,101]) (bG 0 (bG 1 (bG 3 ak))))) (aj (aB (bG 4 (aj (aB ak) (aj (aB ak) ak)))) ak))) (aj (aB (aj (aB (aj (aR [97,99,116,115]) (bG 0 (bG 1 (aj aH (bG 3 ak)))))) (aj gw ak))) ak)))))))
   (au (iw 6 (qL (aV 6) (aQ (bF (cI (aj (aB (aj (aB (aj (aR [101,110,100,108,101,115,115]) (bG 0 (bG 1 (bG 3 (aj (aR []) (aj (aR []) (bG 3 ak)))))))) (aj (aB (bG 4 (aj (aB ak) ak))) ak))) (aj (aB (aj (aB (aj (aR [110,101,118,101,114]) (bG 0 (bG 1 (aj aH ak))))) (aj (aB ak) ak))) ak)))))))
   (au (iw 6 (qL (aV 6) (aQ (bF (cI (aj (aB (aj (aB (aj (aR [110,111,32,99,111,109,109,111,110]) (bG 0 (bG 1 (bG 1 (bG 3 (bG 3 ak))))))) (aj (aB (bG 4 (aj (aB ak) (bG 4 (aj (aB ak) (aj (aB ak) ak)))))) ak))) ak))))))
   (au (iw 6 (qL (aV 6) (aQ (bF (cI (aj (aB (aj (di (dz G) (di (dz G) (aB (aj (aR [109,97,107,101,115,32,119,97,121]) (bG 0 ak))) (cH 5)) (aQ (aB (aj (aR []) ak)))) (aj aH ak))) (aj (aB (aj (di (dz G) (di (dz G) (aB (aj (aR [116,97,107,101,115]) (bG 0 ak))) (cH 5)) (aQ (aB (bG 3 ak)))) (aj aH ak))) ak)))))))
   (au (iw 6 (qL (aV 6) (aQ (bF (cI (aj (aB (aj (di (dz G) (aB (aj (aR [110,111,32,119,97,121]) (bG 0 ak))) (cH 5)) (aj (aB ak) ak))) (aj (aB (aj (di (dz G) (aB (aj (aR [110,111,32,116,97,107,105,110,103]) (bG 0 ak))) (cH 5)) (aj (aB ak) ak))) ak)))))))
   (aC (aM (d8 6 (dz G) (aQ (bF (cI (aj (aB (aj (aB (aj (aR [113,117,97,114,114,101,108]) (bG 0 (bG 1 (aj (aB ak) ak))))) (aj (aB ak) ak))) ak)))))))))))))))))
theorem Yx:bf ["_law_stock_here","_law_order_here","_law_rule_here","_law_word_here","_law_found","_law_sounds_here","_law_claim","_law_paper","_law_some","_law_odd"] ac8 (aG DN):=dZ
include Z in
theorem ab8:Own P w K mg base "_law_bad" 2 ac8 (jg K 4 GR):=by
 exact bDS (k:=1) Z.abq Yx (λf cdv A outer s H E hr G=>au (iw 4 (cI ak))
   (au (cJ 5 (bC (Bo Z) G hr (bG 0 ak) (aY len0)))
   (au (oY G (fj G (bC (T4 Z) G hr (bG 0 (bG 1 (bG 2 (bG 3 ak)))) (aY (aY (aY (aY len0)))))) (dw G (aD (aK 6) (aD (aK 7) bK))) (au (iw 4 (qL (aV 4) (aQ (bF (jw apc 10 fZ G (fj G (bC (JM Z) G hr (bG 0 ak) (aY len0))) (λX1 h1=>by have G:=G.at h1;obtain⟨_,_,_,_,_,rfl⟩:=h1;exact(aK 10)) (λX1 h1=>by have G:=G.at h1;obtain⟨_,_,_,_,_,rfl⟩:=h1;exact cR) (λX1 h1=>by have G:=G.at h1;obtain⟨_,_,_,_,_,rfl⟩:=h1;exact(aB (aj (di (dz G) (di (dz G) (jA G (aV 6) dD (cY aH)) (aQ (aB (bG 10 ak)))) (aQ (jA G (aV 6) (cY aH) dD))) (bG 7 ak)))))))))
   (au (bW (cG (gU (T:="tuple") rfl Z.bZ rfl Z.eO (by decide +kernel) Z.fK G.K (cL 6 G (aQ aH)))) (au (cJ 8 (bF (pR (aU gw (aU (aB ak) (aU (sV G Z.sX (aZ (cH 1))) (aU (aB (aj (cL 1 G (aQ aH)) ak)) (aU (aB (aj (cL 1 G (aQ aH)) (aj (sV G Z.sX (aZ (aQ (cL 1 G (aQ aH))))) ak))) (aU (aB (aj (aR [117,112]) (aj (cL 1 G (aQ aH)) ak))) lK)))))))))
   (au (cJ 8 (d8 8 (dz G) (aQ (bF (jw ["_law_stock_here","_law_order_here","_law_rule_here","_law_word_here","_law_found","_law_sounds_here","_law_claim","_law_paper","_law_some","_law_odd","_law_one"] 10 fZ G (fj G (bC (xB Z) G hr (bG 2 (bG 5 ak)) (aY (aY len0)))) (λX1 h1=>by have G:=G.at h1;obtain⟨_,_,_,_,_,rfl⟩:=h1;exact(aK 10)) (λX1 h1=>by have G:=G.at h1;obtain⟨_,_,_,_,_,rfl⟩:=h1;exact cR) (λX1 h1=>by have G:=G.at h1;obtain⟨_,_,_,_,_,rfl⟩:=h1;exact(aB (aj (cL 1 G (aQ aH)) (aj (aB (bG 10 ak)) ak)))))))))
   (au (cJ 8 (d8 8 (dz G) (aQ (bF (cI (aj (aB (aj gw (aj (cL 1 G (aQ aH)) ak))) (aj (d8 1 (dz G) (aQ (aB (aj aH ak)))) (aj (aB (aj (cL 1 G (aQ aH)) (aj (di (Ux G) (aB (bG 2 ak)) (aQ aH)) ak))) ak))))))))
   (aC (iw 4 (qL (aV 4) (aQ (bF (jw apc 10 fZ G (fj G (aV 8)) (λX1 h1=>by have G:=G.at h1;obtain⟨_,_,_,_,_,rfl⟩:=h1;exact(aK 10)) (λX1 h1=>by have G:=G.at h1;obtain⟨_,_,_,_,_,rfl⟩:=h1;exact cR) (λX1 h1=>by have G:=G.at h1;obtain⟨_,_,_,_,_,rfl⟩:=h1;exact(aB (aj (di (dz G) (di (dz G) (jA G (aV 6) dD (cY aH)) (aQ (aB (bG 10 ak)))) (aQ (jA G (aV 6) (cY aH) dD))) (bG 7 ak))))))))))))) (au (oY G (fj G (bF (pR (aU gw (aU (aR []) (aU (aR [117,112]) (aU aH (aU (bF (cI (aj (aR [108,101,102,116]) ak))) (aU dJ lK))))))))) (aK 9) (aC (uh 4 G (aB (aj (di (dz G) (di (dz G) (jA G (aV 6) dD (cY aH)) (aQ (aB (bG 9 ak)))) (aQ (jA G (aV 6) (cY aH) dD))) (bG 7 ak))))))
   (aC (oY G (fj G (bC (xB Z) G hr (bG 2 (bG 5 ak)) (aY (aY len0)))) (aK 9) (au (uh 4 G (aB (aj (di (dz G) (di (dz G) (jA G (aV 6) dD (cY aH)) (aQ (aB (bG 9 ak)))) (aQ (jA G (aV 6) (cY aH) dD))) (bG 7 ak))))
   (aC (uh 4 G (aB (aj (di (dz G) (di (dz G) (jA G (aV 6) dD (cY aH)) (aQ (aB (bG 9 ak)))) (aQ (jA G (aV 6) (cY aH) dD))) (bG 7 ak))))))))))
   (au (bW (mG (Pu G) (cL 6 G (aQ aH)) (aQ (bF (pR (aU (aR [109,97,107,101,115]) (aU (aR [110,111,32,115,111,117,114,99,101]) (aU (aR [101,110,100,108,101,115,115]) (aU (aR [110,111,32,99,111,109,109,111,110]) (aU (aR [109,97,107,101,115,32,119,97,121]) (aU (aR [116,97,107,101,115]) lK)))))))))) (aC (iw 4 (qL (aV 4) (aQ (bF (jw apc 10 fZ G (fj G (bF (pR (aU gw (aU aH (aU (aR [35]) (aU (aR [90]) (aU (aB (bG 3 ak)) (aU (bF (cI (bG 3 ak))) (aU (bF Ei) lK)))))))))) (λX1 h1=>by have G:=G.at h1;obtain⟨_,_,_,_,_,rfl⟩:=h1;exact(aK 10)) (λX1 h1=>by have G:=G.at h1;obtain⟨_,_,_,_,_,rfl⟩:=h1;exact cR) (λX1 h1=>by have G:=G.at h1;obtain⟨_,_,_,_,_,rfl⟩:=h1;exact(aB (aj (di (dz G) (jA G (aV 6) dD (cY (Kl aH))) (aQ (aB (bG 10 ak)))) (bG 7 ak)))))))))) bH)
   (au (iw 4 (qL (aV 4) (aQ (bF (cI (aj (aB (aj (d8 6 (dz G) (aQ (aB (aj aH ak)))) (bG 7 ak))) (aj (aB (aj (jA G (aV 6) dD (cY (Kl aH))) (bG 7 ak))) (aj (aB (aj (sV G Z.sX (aZ (cH 6))) (bG 7 ak))) (aj (aB (aj (di (dz G) (aB (aj (aR [105,115]) ak)) (aQ (jA G (aV 6) (cY aH) dD))) (bG 7 ak))) ak)))))))))
   (aC (iw 4 (qL (aV 4) (aQ (bF (cI (aj (aB (aj (di (dz G) (aB (aj aH ak)) (aQ (jA G (aV 6) (cY aH) dD))) (bG 7 ak))) (aj (aB (aj (di (dz G) (aB (aj (bF (cI (aj (cL 6 G (aQ aH)) ak))) ak)) (aQ (jA G (aV 6) (cY aH) dD))) (bG 7 ak))) (aj (aB (aj gw (bG 7 ak))) (aj (aB (bG 6 (aj (aR [97]) ak))) ak)))))))))))))))
   (aC (aM (aV 4))))))
theorem alX:bf ["_law_script","_law_k","_law_pack_here","_law_stock_here","_law_sounds_here","_law_more","_law_order_here","_law_claim","_law_paper","_law_found"] ["_law_script"] (aG aeh):=dZ
include Z BB in
theorem aoH(F:Fun K "law" "law" aeh f fd):pP P w K mg base yR 9 f fd ["_law_script"] (spT (oV K tabs) (jg K 1 aa1)):=by
 exact Rp (k:=8) F alX (λcdv A outer s H E _ hT hr G=>(dG.u (au (oY G (ajd Z.rR (aj aH (aj (als G Z.am8 (zA aH (aZ (aQ (alr G Z.am7 (zA (fQ G Z.fO (aZ (cH 0))) (aZ (aQ aH)))))))) (aj aH ak))) (aY (aY (aY len0)))) (aK 1) (au (iw 2 (afh (LQ Z) G hr (bG 0 (bG 1 ak)) (aY (aY len0))))
   (au (cJ 3 (lC 2 (We Z) G hr ak (lD len0)))
   (au (cJ 4 (bC (Bo Z) G hr (bG 3 ak) (aY len0)))
   (au (iw 5 (afh (LQ Z) G hr (bG 0 (aj (d8 1 (dz G) (aQ aH)) ak)) (aY (aY len0))))
   (au (cJ 6 (lC 2 (Wf Z) G hr (bG 4 (aj aH ak)) (lD (aY (aY len0)))))
   (aC (oY G (fj G (bC (ab8 Z) G hr (bG 3 (bG 6 (aj (lC 5 (LK Z) G hr (bG 4 ak) (lD (aY len0))) (aj (lC 5 (Y9 Z) G hr (bG 4 (aj aH ak)) (lD (aY (aY len0)))) ak)))) (aY (aY (aY (aY len0)))))) (dw G (aD (aK 7) (aD (aK 8) bK))) (au (cJ 9 (aao (aiN Z BB) hT (lr K tabs) G hr (bG 7 (bG 8 ak)) (aY (aY len0))))
   (aC (bW (jk (iM (cV (cG (gU (T:="bool") rfl Z.bZ rfl Z.aaN (by decide +kernel) Z.uJ G.K (aV 9)))) (jl (cG (aV 9))))) (aC (aM dJ)) bH)))))))))))
   (aC (aM dJ)))))
end
end Ai
namespace j7
open Ev
def yc:cB:=bu (az iz (aa (gr 1 3 (gW (aJ 0)) (cO 2 (aN (aq 1) (aN (aq 2) cQ))) cP (aJ 1)) ao))
def cX:LD:=cA 1 yc
def tL:cB:=Ai.tL
def kZ:LD:=cA 1 tL
def pI:cB:=aL (bh (Zi 0) (aq 2)) (aL (ju (gW (cC (aa (aA bJ 1 (Zi 1)) (Zv 1 ao)))) (aq 3) (bh (aP bJ (aA Ad 2 (aP Z0 (Zi 10) (Zi 60))) (az kZ (aa (aP cZ (aP bJ (G3 (aJ 0) (pZ (aJ 3)) (pZ (aA bJ 3 (Zi 1)))) (cC (aa (aP bJ (aP Ad (Zi 7919) (bI 3)) (Zi 61)) ao))) (Zi 0)) ao))) (aq 2))) (Bc (cC (Zv 2 ao))))
def mU:LD:=runN 4 pI
def lq:cB:=Ai.lq
def bL:List D->Option (D×D):=qi 3 lq
def vX:cB:=bu (aP sZ (Zw []) (gr 1 3 (gW (aJ 0)) (cO 2 (aN (aq 1) (aN (aq 2) cQ))) cP (aJ 1)))
def jF:LD:=cA 1 vX
def qp:cB:=aL (dH (eN (aP jb (iW bL 0 (aa (Zi 2) ao)) (Zi 0))) (bu (iB .non)) bN) (aL (bh (aP bJ (Zi 1) (iW bL 0 (aa (aP xJ (aP acG (Zi 2) (az dM (aa (bI 1) ao))) (Zi 1)) ao))) (aq 2)) (aL (bh (aP bJ (Zw [35]) (bI 1)) (aq 3)) (bu (az iz (aa (gr 4 5 (jy (aa (az dM (aa (bI 3) ao)) ao)) (aq 4) (eN (aP jb (aP W5 (aA W2 2 (bI 4)) (Zi 1)) (Zi 1))) (aA cZ 3 (bI 4))) ao)))))
def ql:List D->Option (D×D):=qi 4 qp
open Ev PySem L2
theorem yw(h:i.natAbs<2^b):Builtin.Int.intBits i<=b:=by
 unfold Builtin.Int.intBits;split
 ·omega
 ·rename_i h0;have hz:i.natAbs≠0:=λz=>h0 (by simp_all);exact(Nat.log2_lt hz).mpr h
theorem zE(h1:Builtin.Int.intBits i<=a)(h2:Builtin.Int.intBits j<=b)(h:a+b<=134217728):pU i j=true:=
 Qxk (by omega)
noncomputable def afk(i:Int):Int:=i*262406895267124108351839057402211873468251940277165213587343 % 10^60
theorem aiQ(i):(afk i).natAbs<2^200:=by unfold afk;omega
theorem mixed(h:Builtin.Int.intBits i<=2^20):kZ [.int i]=some (.int (afk i)):=by
 have hm:pU i 262406895267124108351839057402211873468251940277165213587343=true:=zE h (yw (b:=198) (by decide)) (by decide);have e1:aA Ad 0 (Zi 262406895267124108351839057402211873468251940277165213587343) [Zf (.int i)] = .ok (.int<|i*262406895267124108351839057402211873468251940277165213587343) [Zf (.int i)]:=by
  show fX (gI pU (λi j=>D.int<|i*j) (.int i)<|.int _) _=_;unfold gI;simp;rw[if_pos hm]
  rfl
 show(match bu _ [Zf (.int i)] with|.rt false d _=>some d|.nx _=>some .non|_=>none)=_;rw[cU];unfold aP;rw[e1]
 rfl
theorem ajQ{α:Type}{xs:List α}{x:α}(h:x∈cutD xs lo hi):x∈xs:=List.mem_of_mem_drop<|List.mem_of_mem_take h
theorem CZ{α:Type}(x)(r:List α):uO (x::r) 0=some x:=oE rfl
def rO:cB:=bh (aP bJ (aA Ad 2 (aP Z0 (Zi 10) (Zi 60))) (az kZ (aa (aP cZ (aP bJ (G3 (aJ 0) (pZ (aJ 3)) (pZ (aA bJ 3 (Zi 1)))) (cC (aa (aP bJ (aP Ad (Zi 7919) (bI 3)) (Zi 61)) ao))) (Zi 0)) ao))) (aq 2)
theorem Qo(ns)(hl:ns.length<=63)(hb:aal ns)(k a f)(ha:a.natAbs<2^10)(hf:Builtin.Int.intBits f<=2^20) :
  ∃f',rO [Zf (.arr (ns.map .int)),Zf (.int k),Zf (.int f),Zf (.int a)] = .nx [Zf (.arr (ns.map .int)),Zf (.int k),Zf (.int f'),Zf (.int a)]/\(f=0->f'.natAbs<2^200):=by
 generalize hE:([Zf (.arr<|ns.map .int),Zf<|.int k,Zf<|.int f,Zf<|.int a]:Ev.Env)=env;have m1:pU 7919 a=true:=zE (a:=20) (yw (by decide)) (yw ha) (by decide);have m2:pU f (10^(60:Int).toNat)=true:=zE (b:=200) hf (yw (by decide)) (by decide);have e1:G3 (aJ 0) (pZ<|aJ 3) (pZ<|aA bJ 3<|Zi 1) env = .ok (.lst<|cutD (ns.map .int) (some a)<|some<|a+1) env:=by rw[<-hE];rfl
 have e2:cC (aa (aP bJ (aP Ad (Zi 7919)<|bI 3)<|Zi 61) ao) env = .ok (.lst [.int (7919*a+61)]) env:=by refine agf (bw (cW (cW rfl (by rw[<-hE];rfl) (aaY m1)) rfl rfl) dq) Ev.zz1
 generalize hL:cutD (ns.map D.int) (some a) (some<|a+1)=L at e1;have hLl:L.length<=63:=by rw[<-hL];exact Qqy (xW _ _ _) (by rw[Qqz];exact hl)
 have e3:aP bJ (G3 (aJ 0) (pZ<|aJ 3)<|pZ<|aA bJ 3<|Zi 1) (cC<|aa (aP bJ (aP Ad (Zi 7919)<|bI 3)<|Zi 61) ao) env = .ok (.lst<|L++[.int (7919*a+61)]) env:=by exact cW e1 e2<|Cv (by show L.length+1<=sizeLine;exact Qqy (Nat.succ_le_succ hLl) (by decide))
 obtain⟨c,hc,hcb⟩:∃c,uO (L++[.int (7919*a+61)]) 0=some (.int c)/\Builtin.Int.intBits c<=2^20:=by
  cases hLc:L with
  | nil=>
   refine⟨7919*a+61,rfl,Qqy (yw (b:=30) ?_) (by decide)⟩;omega
  | cons y r=>
   have hy:y∈ns.map D.int:=ajQ (by rw[hL,hLc];exact Qqw ..);obtain⟨i,hi,rfl⟩:=Qwv.mp hy;exact⟨i,CZ _ _,hb i hi⟩
 have e4:az kZ (aa (aP cZ (aP bJ (G3 (aJ 0) (pZ (aJ 3)) (pZ (aA bJ 3 (Zi 1)))) (cC (aa (aP bJ (aP Ad (Zi 7919) (bI 3)) (Zi 61)) ao))) (Zi 0)) ao) env = .ok (.int (afk c)) env:=by exact bA (bw (cW e3 rfl hc) dq) (mixed hcb)
 refine⟨f*10^(60:Int).toNat+afk c,?_,λh0=>?_⟩
 ·unfold rO;refine dI (e:=env) ?_ (by rw[<-hE];rfl);have e5:aA Ad 2 (aP Z0 (Zi 10) (Zi 60)) env = .ok (.int (f*10^(60:Int).toNat)) env:=by
   rw[<-hE];exact bV rfl rfl rfl (aaY m2)
  exact cW e5 e4 rfl
 ·rw[h0,Int.zero_mul,Int.zero_add];exact aiQ c
theorem pack(ns)(hl:ns.length<=63)(hb:aal ns)(k)(h0:0<=k)(h1:k<=500):∃p,mU [.arr (ns.map .int),.int k]=some (.lst [.int p]):=by
 obtain⟨f1,e1,b1⟩:=Qo ns hl hb k (k+1) 0 (by omega) (by decide);obtain⟨f2,e2,_⟩:=Qo ns hl hb k k f1 (by omega)<|Qqy (yw<|b1 rfl) (by decide);refine⟨f2,?_⟩;have h:pI [Zf (.arr<|ns.map .int),Zf<|.int k,Zn,Zn] = .rt true (.lst [.int f2]) [Zf (.arr<|ns.map .int),Zf<|.int k,Zf<|.int f2,Zf<|.int k]:=by
  unfold pI;refine(aW rfl).trans ?_;refine(aW (e:=[Zf (.arr<|ns.map .int),Zf<|.int k,Zf<|.int f2,Zf<|.int k]) ?_).trans rfl;refine(jK rfl).trans ?_;show mQ (aq 3) rO [.int (k+1),.int k] _=_;unfold mQ;show(match rO [Zf (.arr<|ns.map .int),Zf<|.int k,Zf<|.int 0,Zf<|.int<|k+1] with|.nx e2=>mQ (aq 3) rO [.int k] e2|.ct e2=>_|.bk e2=>_|.rt o d e2=>_|.stuck=>_)=_;rw[e1];simp;unfold mQ;show(match rO [Zf (.arr<|ns.map .int),Zf<|.int k,Zf<|.int f1,Zf<|.int k] with|.nx e2=>mQ (aq 3) rO [] e2|.ct e2=>_|.bk e2=>_|.rt o d e2=>_|.stuck=>_)=_;rw[e2]
  rfl
 show(match pI _ with|.rt true d _=>some d|_=>none)=_;have e:envOf 4 [D.arr (ns.map .int),.int k]=[Zf (.arr<|ns.map .int),Zf<|.int k,Zn,Zn]:=rfl;rw[e,h]
noncomputable def known:D:=.lst [.str [115,116,111,112],.str [115,116,111,112,115],.str [115],.str [111,112,101,110],.str [97,98,99,100,101,102,103,104]]
def Bd:cB:=bh (az nZ (aa (gr 7 8 (jy (aa (Zi 5) ao)) (aq 7) (eN (aP jb (aP W5 (aA W2 5 (bI 7)) (Zi 1)) (Zi 1))) (aA cZ 2 (bI 7))) ao)) (aq 6)
def mk(d:Nat):D:=match Bd [Zn,Zn,Zf known,Zn,Zn,Zf (.int d),Zn] with
 | .nx e=>(match e[6]? with|some (some (_,z))=>z|_=>.non)
 | _=>.non
def AllB(P:Nat->Prop):Nat->Prop
 | 0=>True
 | n+1=>AllB P n/\P n
theorem agH:∀{n},AllB P n->∀d,d<n->P d
 | 0,_,d,h=>absurd h<|Nat.not_lt_zero d
 | n+1,⟨a,b⟩,d,h=>by
  by_cases e:d=n
  ·simp_all
  ·exact agH a d (by omega)
theorem marks(d:Nat)(hd:d<32)(a b c e f:OD):Bd [a,b,Zf known,c,e,Zf (.int d),f] = .nx [a,b,Zf known,c,e,Zf (.int d),Zf (mk d)]:=by refine agH (P:=λd=>Bd [a,b,Zf known,c,e,Zf<|.int d,f] = .nx [a,b,Zf known,c,e,Zf<|.int d,Zf<|mk d]) ?_ d hd;refine⟨⟨⟨⟨⟨⟨⟨⟨⟨⟨⟨⟨⟨⟨⟨⟨⟨⟨⟨⟨⟨⟨⟨⟨⟨⟨⟨⟨⟨⟨⟨⟨trivial,?_⟩,?_⟩,?_⟩,?_⟩,?_⟩,?_⟩,?_⟩,?_⟩,?_⟩,?_⟩,?_⟩,?_⟩,?_⟩,?_⟩,?_⟩,?_⟩,?_⟩,?_⟩,?_⟩,?_⟩,?_⟩,?_⟩,?_⟩,?_⟩,?_⟩,?_⟩,?_⟩,?_⟩,?_⟩,?_⟩,?_⟩,?_⟩<;>kernel_rfl
noncomputable def arJ:D->Bool
 | .lst _=>true
 | _=>false
theorem afj(d)(hd:d<32):∃zs,mk d = .lst zs:=by
 have h:((List.range 32).all λd=>arJ<|mk d)=true:=by rfl
 have h1:=Qwk.mp h d<|Qjv.mpr hd;cases e:mk d with
 | lst zs=>simp_all
 | _=>rw[e] at h1;cases h1
inductive Rows:List D->List D->Prop where
 | nil:Rows [] []
 | cons {s m:D} {ss rs:List D}:Rows ss rs->Rows (s::ss) (.tup [s,m]::rs)
theorem Rows.len(h:Rows ss rs):rs.length=ss.length:=by
 induction h with
 | nil=>rfl
 | cons _ ih=>simp_all
theorem iJ{i:Nat}{env e:Ev.Env}(h0:env[i]? = some (Zl x0))(h1:a env = .ok d e)(h2:e[i]? = some (Zl xs))(hz:xs.length<sizeLine):iK i a env = .nx (e.set i (Zl (xs++[d]))):=by
 unfold iK;rw[h0];show gO (a env) _=_;rw[h1];show(match e[i]? with|some (some (true,.lst xs))=>if xs.length<sizeLine then Out.nx (e.set i<|Zl<|xs++[d]) else .stuck|_=>.stuck)=_
 simp_all
structure XOk(x:List Nat):Prop where
 len:x.length<=4
 pos:0<x.length
 nd:x.Nodup
 ne:35 ∉ x
inductive XSt
 | mk
noncomputable def XS:XSt:=.mk
instance:Membership (List Nat) XSt:=⟨λ_ x=>XOk x⟩
theorem Sd(h:x∈XS):XOk x:=h
theorem ass(h:XOk x):x∈XS:=h
theorem oJ:∀x∈XS,x.length<=4:=λ_ h=>(Sd h).len
theorem agM(h:x∈XS):(∃a,x=[a])\/(∃a b,x=[a,b])\/(∃a b c,x=[a,b,c])\/∃a b c d,x=[a,b,c,d]:=by
 have h1:=(Sd h).len;have h2:=(Sd h).pos
 match x,h1,h2 with
 | [a],_,_=>exact .inl ⟨a,rfl⟩
 | [a,b],_,_=>exact .inr<|.inl ⟨a,b,rfl⟩
 | [a,b,c],_,_=>exact .inr<|.inr<|.inl ⟨a,b,c,rfl⟩
 | [a,b,c,d],_,_=>exact .inr<|.inr<|.inr ⟨a,b,c,d,rfl⟩
theorem ah0(h:Rows ss rs):∀(a v1 v2:OD),∃w1 w2,Er (cO 2 (aN (aq 1) (aN (aq 2) cQ))) cP (aJ 1) rs [a,v1,v2] = .ok ss [a,w1,w2]:=by
 induction h with
 | nil=>exact λa v1 v2=>⟨v1,v2,rfl⟩
 | cons _ ih=>
  rename_i s m ss rs _;intro a v1 v2;obtain⟨w1,w2,e⟩:=ih a (Zf s)<|Zf m;refine⟨w1,w2,?_⟩;unfold Er;show bindR (Er _ cP (aJ 1) rs [a,Zf s,Zf m]) _=_;rw[e]
  rfl
theorem Qj(hx:x∈XS)(h:Rows (fc x) rs):gr 1 3 (gW (aJ 0)) (cO 2 (aN (aq 1) (aN (aq 2) cQ))) cP (aJ 1) [Zf (.tup rs)] = .ok (.lst (fc x)) [Zf (.tup rs)]:=by obtain⟨w1,w2,e⟩:=ah0 h (Zf<|.tup rs) none none;exact vP (n:=3) (aO:=[Zf (.tup rs)]) rfl rfl (by exact e) (by unfold fc;rw[Qqz];exact Qqy (oJ x hx) (by decide))
theorem sounds_of(hx:x∈XS)(h:Rows (fc x) rs):cX [.tup rs]=some (.tup (fc x)):=
 fM (cU<|bA (bw (Qj hx h) dq) rfl)
theorem join_eq:∀x∈XS,sZ (.str []) (.lst (fc x))=some (.str x):=by intro x hx;rcases agM hx with ⟨a,rfl⟩|⟨a,b,rfl⟩|⟨a,b,c,rfl⟩|⟨a,b,c,d,rfl⟩<;>rfl
theorem Mw(hx:x∈XS)(h:Rows (fc x) rs):jF [.tup rs]=some (.str x):=
 fM (cU<|cW rfl (Qj hx h) (join_eq x hx))
theorem ajB(h:a env = .ok ds e)(h':wK ds=some ys):jy a env = .ok ys e:=by
 unfold jy;rw[h];show fX (wK ds) e=_;rw[h']
 rfl
theorem lY(n)(m:Nat)(h0:0<m)(h1:m<1073741824):bL [.lst [.int n],.int m]=some (.int (n % m),.lst [.int (n / m)]):=by
 refine nR (env:=[Zl [.int (n / m)],Zf<|.int m,Zf<|.int<|n % m]) ?_ rfl;unfold lq;have g:Cu [.int n,.int m]=some (.tup [.int (n / m),.int<|n % m]):=by show(if 0<(m:Int)/\(m:Int)<1073741824 then _ else _)=_;rw[if_pos (by omega)]
 refine(aW (e:=[Zl [.int (n / m)],Zf<|.int m,Zf<|.int<|n % m]) ?_).trans rfl;exact dI (bA (by rfl) g) (by rfl)
noncomputable def JT:Option D->Bool
 | some (.bl true)=>true
 | _=>false
theorem ik(h:JT o=true):o=some (.bl true):=by
 cases o with
 | none=>cases h
 | some d=>cases d with
  | bl b=>cases b with
   | true=>rfl
   | false=>cases h
  | _=>cases h
noncomputable def M(x:List Nat):Nat:=2*2^x.length - 1
def aea:cB:=aL (bh (aP bJ (Zw [35]) (bI 1)) (aq 3)) (bu (az iz (aa (gr 4 5 (jy (aa (az dM (aa (bI 3) ao)) ao)) (aq 4) (eN (aP jb (aP W5 (aA W2 2 (bI 4)) (Zi 1)) (Zi 1))) (aA cZ 3 (bI 4))) ao)))
noncomputable def bit(d k:Nat):Bool:=Builtin.bitAnd ((1+(d:Int)) / 2^k) 1 == 1
def sgR(x:List Nat)(d:Nat):D:=.tup ((((List.range (x.length+1)).filter (bit d)).map λk=>(35::x).getD k 0).map λc=>.str [c])
def SG(x:List Nat):List D:=.non::(List.range (M x)).map (sgR x)
theorem ahR(a:OD):∀x∈XS,∀d,d<M x->∃e3,aea [a,Zs x,Zf (.int (1+d)),Zn] = .rt false (sgR x d) [a,Zs x,Zf (.int (1+d)),e3]:=by
 intro x hx d hd;have hl:=oJ x hx;refine⟨Zs (35::x),?_⟩;unfold aea;refine(aW<|dI (d:=.str (35::x)) (cW rfl rfl ?_) rfl).trans ?_
 ·unfold bJ;exact if_pos<|Qqy (show 1+x.length<=5 by omega) (by decide)
 ·have h:gr 4 5 (jy<|aa (az dM<|aa (bI 3) ao) ao) (aq 4) (eN<|aP jb (aP W5 (aA W2 2<|bI 4)<|Zi 1)<|Zi 1) (aA cZ 3<|bI 4) [a,Zs x,Zf<|.int<|1+(d:Int),Zs (35::x)] = .ok (.lst<|((List.range<|x.length+1).filter<|bit d).map λk=>.str [(35::x).getD k 0]) [a,Zs x,Zf<|.int<|1+(d:Int),Zs (35::x)]:=by
   refine aa2 (List.range<|x.length+1) (λk=>.int (k:Int)) (bit d) (λk=>.str [(35::x).getD k 0]) ?_ rfl rfl (λk hk=>?_) (λk hk _=>?_) (by rw[List.length_range];exact Qqy (show x.length+1<=5 by omega) (by decide))
   ·exact ajB rfl (aej<|Qxq (show(35::x).length<=5 by simp_all) (by decide))
   ·rfl
   ·refine bV (i:=3) rfl rfl rfl ?_;show(uO (35::x) (k:Int)).map _=_;have hk':k<(35::x).length:=Qjv.mp hk;rw[oE (v:=(35::x).getD k 0) (by simp_all)]
    rfl
  refine cU<|bA (bw h dq) ?_;unfold sgR;rw[Qzk]
  rfl
theorem signs(n)(x)(hx:x∈XS):∃r n',ql [.lst [.int n],.str x]=some (r,.lst [.int n'])/\r∈SG x:=by
 obtain⟨d,hd,e⟩:=dig n 2 (by decide);have t:eN (aP jb (iW bL 0<|aa (Zi 2) ao)<|Zi 0) [Zl [.int n],Zs x,Zn,Zn] = .ok ((d:Int) == 0) [Zl [.int (n / 2)],Zs x,Zn,Zn]:=by
  rw[<-e]
  rfl
 have hc:d=0\/d=1:=by omega
 rcases hc with rfl|rfl
 ·refine⟨.non,n / 2,nR (env:=[Zl [.int (n / 2)],Zs x,Zn,Zn]) ?_ rfl,Qqw ..⟩;unfold qp;refine(nD ?_).trans rfl;exact(lG t).trans rfl
 ·obtain⟨k,hk,ek⟩:=dig (n / 2) (M x) (by unfold M;have:0<2^x.length:=Nat.two_pow_pos _;omega);obtain⟨e3,h3⟩:=ahR (Zl [.int (n / 2 / (M x:Int))]) x hx k hk;refine⟨sgR x k,n / 2 / (M x:Int),nR (env:=[Zl [.int (n / 2 / (M x:Int))],Zs x,Zf<|.int<|1+(k:Int),e3]) ?_ rfl,Qqk _<|Qwv.mpr ⟨k,Qjv.mpr hk,rfl⟩⟩;unfold qp;refine(aW (e:=[Zl [.int (n / 2)],Zs x,Zn,Zn]) ?_).trans ?_
  ·exact(nG t).trans rfl
  ·refine(aW (e:=[Zl [.int (n / 2 / (M x:Int))],Zs x,Zf<|.int<|1+n / 2 % (M x:Int),Zn]) ?_).trans ?_
   ·have hM:aP xJ (aP acG (Zi 2)<|az dM<|aa (bI 1) ao) (Zi 1) [Zl [.int (n / 2)],Zs x,Zn,Zn] = .ok (.int (M x:Int)) [Zl [.int (n / 2)],Zs x,Zn,Zn]:=by
     have hl:=oJ x hx;refine cW (x:=.int<|2*2^x.length) (cW rfl rfl ?_) rfl ?_
     ·unfold acG gI;simp only;rw[if_pos (Qxk ⟨Int.natCast_nonneg _,by omega,by decide⟩),Qz2]
     ·show some (D.int<|2*2^x.length - 1)=_;have hp:0<2^x.length:=Nat.two_pow_pos _;have e:((M x:Nat):Int)=2*2^x.length - 1:=by
       unfold M;rw[Int.natCast_sub (by omega),Int.natCast_mul,Int.natCast_pow]
       rfl
      rw[e]
    have ht:bL [.lst [.int (n / 2)],.int (M x:Int)]=some (.int<|n / 2 % (M x:Int),.lst [.int (n / 2 / (M x:Int))]):=by have hl:=oJ x hx;have hp:0<2^x.length:=Nat.two_pow_pos _;have hq:2^x.length<=2^4:=Nat.pow_le_pow_right (by decide) hl;exact lY (n / 2) (M x) (by unfold M;omega) (by unfold M;omega)
    refine dI (cW rfl (jG rfl (bw hM dq) rfl ht) rfl) rfl
   ·rw[ek];exact h3
noncomputable def oth(x:List Nat)(c:Nat):List D:=((x.map (λa=>[a])++[[]]).filter λz=>z != [c]).map .str
def PV(x:List Nat):List (Nat×D):=x.flatMap λc=>(oth x c).map λv=>(c,v)
def one:cB:=bh (aA cZ 1 (iW bL 0 (aa (az dM (aa (bI 1) ao)) ao))) (aq 4)
def others:cB:=fD 5 (gr 6 7 (gW (aP bJ (az jN (aa (bI 1) ao)) (cC (aa (Zw []) ao)))) (aq 6) (eN (aA Up 6 (bI 4))) (aJ 6))
def Lh:cB:=wU 2 (aJ 4) (aA cZ 5 (iW bL 0 (aa (az dM (aa (bI 5) ao)) ao)))
theorem abW(a b v3 v5:OD):∀x∈XS,∀c∈x,others [a,Zs x,b,v3,Zs [c],v5] = .nx [a,Zs x,b,v3,Zs [c],Zl (oth x c)]:=by
 intro x hx c hc;have hl:=oJ x hx;unfold others;refine(KJ (e:=[a,Zs x,b,v3,Zs [c],v5]) ?_).trans rfl;have h5:(x.map (λa=>[a])++[[]]).length<=5:=by simp_all
 refine aa2 (x.map (λa=>[a])++[[]]) D.str (λz=>z != [c]) D.str ?_ rfl rfl (λz hz=>rfl) (λz hz _=>rfl) (Qqy h5 (by decide));refine yt (d:=.lst<|((x.map λa=>[a])++[[]]).map D.str) (cW rfl rfl ?_) rfl;rw[Qxz,Qzk];refine Cv (a:=fc x) ?_;unfold fc;rw[Qqz];exact Qqy (Nat.succ_le_succ hl) (by decide)
theorem aiD:∀x∈XS,∀c∈x,(oth x c).length=x.length:=by
 intro x hx c hc;have h1:=List.length_erase_of_mem hc;rw[(Sd hx).nd.erase_eq_filter] at h1;have e:(λz:List Nat=>z != [c]) ∘ (λa=>[a])=λa=>a != c:=by grind
 unfold oth
 grind
theorem vY:∀x∈XS,0<x.length:=λ_ h=>(Sd h).pos
theorem abD{i:Nat}{env e1 e2:Ev.Env}(h1:a env = .ok d e1)(h2:e1[i]? = some (some (o,x0)))(h3:k e1 = .ok kd e2)(h4:e2[i]? = some (Zt (.dct kvs)))(h5:wL kd=some q)(hz:kvs.length<sizeLine) :
  wU i k a env = .nx (e2.set i (Zt (.dct (putD kvs kd q d)))):=by
 unfold wU;rw[h1];simp[gO]
 simp_all
def aij(kvs:List (D×D))(p:Nat×D):List (D×D):=putD kvs (.str [p.1]) (.inr (strOf [p.1])) p.2
theorem round(n)(x)(hx:x∈XS)(kvs)(hk:kvs.length<=10)(v3 v4 v5:OD):∃p n' v4' v5',p∈PV x/\aL one (aL others Lh) [Zl [.int n],Zs x,Zt (.dct kvs),v3,v4,v5] = .nx [Zl [.int n'],Zs x,Zt (.dct (aij kvs p)),v3,v4',v5']:=by
 have hp:=vY x hx;have hl4:=oJ x hx;obtain⟨d,hd,e⟩:=dig n x.length hp;have hc:x[d]∈x:=List.getElem_mem hd;have hol:=aiD x hx x[d] hc;obtain⟨d',hd',e'⟩:=dig (n / (x.length:Int)) x.length hp;have hv:d'<(oth x x[d]).length:=by omega
 refine⟨(x[d],(oth x x[d])[d']),n / (x.length:Int) / (x.length:Int),Zs [x[d]],Zl<|oth x x[d],?_,?_⟩
 ·unfold PV
  simp_all
 ·refine(aW (e:=[Zl [.int (n / (x.length:Int))],Zs x,Zt<|.dct kvs,v3,Zs [x[d]],v5]) ?_).trans ?_
  ·unfold one;refine dI (e:=[Zl [.int (n / (x.length:Int))],Zs x,Zt<|.dct kvs,v3,v4,v5]) ?_ (by rfl);refine bV (y:=.int<|n % (x.length:Int)) (by rfl) ?_ (by rfl) ?_
   ·exact jG (e1:=[Zl [.int n],Zs x,Zt<|.dct kvs,v3,v4,v5]) (by rfl) (by rfl) (by rfl)<|lY n x.length hp (by omega)
   ·show(uO x<|n % (x.length:Int)).map _=_;rw[e,Hf hd]
    rfl
  ·refine(aW<|abW _ _ _ _ x hx x[d] hc).trans ?_;unfold Lh;refine(abD (e1:=[Zl [.int (n / (x.length:Int) / (x.length:Int))],Zs x,Zt<|.dct kvs,v3,Zs [x[d]],Zl<|oth x x[d]])
    ?_ (by rfl) (by rfl) (by rfl) (by rfl) (Qxq hk (by decide))).trans rfl
   refine bV (y:=.int<|n / (x.length:Int) % (x.length:Int)) (by rfl) ?_ (by rfl) ?_
   ·refine jG (e1:=[Zl [.int (n / (x.length:Int))],Zs x,Zt<|.dct kvs,v3,Zs [x[d]],Zl<|oth x x[d]]) (by rfl) ?_ (by rfl) (lY _ x.length hp (by omega));refine bw ?_ dq;refine bA (by rfl) ?_;show some (D.int ((oth x x[d]).length:Int))=_;rw[hol]
   ·show uO (oth x x[d]) (n / (x.length:Int) % (x.length:Int))=_;rw[e',Hf hv]
def agA(kvs:List (D×D)):Option D:=match nZ [.dct kvs] with
 | some (.lst ks)=>if (ks.all λk=>(m8 (.dct kvs) k).isSome) then some (.tup (ks.map λk=>.tup [k,(m8 (.dct kvs) k).getD .non])) else none
 | _=>none
def aoZ:cB:=bu (az iz (aa (gr 6 7 (gW (az nZ (aa (bI 2) ao))) (aq 6) cP (aF (Zv 6 (aa (aA m8 2 (bI 6)) ao)))) ao))
theorem WY(h:nZ [.dct kvs]=some (.lst ks)):ks.length<=64:=by
 obtain⟨zs,h1,h2⟩:=Qxy.mp h;split at h2
 ·rename_i hz;cases h2;rw[Qqz,(jD zs).length_eq];omega
 ·cases h2
theorem CJ(h:agA kvs=some ch)(a b v3 v4 v5:OD):aoZ [a,b,Zt (.dct kvs),v3,v4,v5] = .rt false ch [a,b,Zt (.dct kvs),v3,v4,v5]:=by
 unfold agA at h;split at h
 ·rename_i ks hs;split at h
  ·rename_i hall;cases h;obtain⟨env',h1,v6,rfl⟩:=Ke (g:=aq 6) (e:=aF<|Zv 6<|aa (aA m8 2<|bI 6) ao) (λenv=>∃v6,env=[a,b,Zt<|.dct kvs,v3,v4,v5,v6]) (λk=>.tup [k,(m8 (.dct kvs) k).getD .non]) ks [a,b,Zt<|.dct kvs,v3,v4,v5,Zn] ⟨none,rfl⟩
    (λk hk env ⟨v6,he⟩=>by
     subst he;obtain⟨v,hv⟩:=Qw9.mp<|Qwk.mp hall k hk;refine⟨_,[a,b,Zt<|.dct kvs,v3,v4,v5,Zf k],rfl,?_,Zf k,rfl⟩;rw[hv];exact uM (bw (by rfl)<|bw (bV (by rfl) (by rfl) (by rfl) hv) dq) Ev.zz2)
   refine cU<|bA (ds:=[.lst (ks.map λk=>.tup [k,(m8 (.dct kvs) k).getD .non])]) (bw ?_ dq) rfl;refine vP (n:=7) (aO:=[a,b,Zt<|.dct kvs,v3,v4,v5]) ?_ (by rfl) h1 ?_
   ·exact yt (bA (by rfl) hs) rfl
   ·rw[Qqz];exact Qqy (WY hs) (by decide)
  ·cases h
 ·cases h
structure Oe(x:List Nat)(kvs:List (D×D))(zs:List Nat):Prop where
 keys:kvs.map (·.1)=zs.map λc=>D.str [c]
 nd:zs.Nodup
 mem:∀c∈zs,c∈x
 vals:∀k v,(k,v)∈kvs->∃c,k = .str [c]/\(c,v)∈PV x
theorem oW(h:strOf a=strOf b):a=b:=by
 have:=Qx7 (λs:Str=>s.cps.toList) h
 assumption
theorem Dt(q)(d):∀kvs,(Jw kvs q d).map (·.1)=kvs.map (·.1)
 | []=>rfl
 | (k,e)::r=>by
  unfold Jw;rw[Qq7,Qq7,Dt q d r]
  grind
theorem KQ:∀{kvs} {k v},(k,v)∈Jw kvs q d->(k,v)∈kvs\/(wL k=some q/\v=d)
 | [],_,_,h=>by simp[Jw] at h
 | (k',e)::r,k,v,h=>by
  unfold Jw at h;rcases Qq2.mp h with h|h
  ·grind
  ·rcases KQ h with h|h
   all_goals simp_all
theorem Dk:∀{kvs},uV kvs q=none->∀k v,(k,v)∈kvs->wL k≠some q
 | [],_,k,v,hm=>by simp at hm
 | (k',e)::r,h,k,v,hm=>by
  unfold uV at h;split at h
  ·cases h
  ·rename_i hk;rcases Qq2.mp hm with hm|hm
   ·simp_all
   ·exact Dk h k v hm
theorem uE:∀{kvs},uV kvs q=some d->∃k,(k,d)∈kvs/\wL k=some q
 | [],h=>by simp[uV] at h
 | (k',e)::r,h=>by
  unfold uV at h;split at h
  ·simp_all
  ·obtain⟨k,h1,h2⟩:=uE h
   grind
theorem Oe.put(h:Oe x kvs zs)(hp:p∈PV x)(hx:p.1∈x):∃zs',Oe x (aij kvs p) zs'/\0<zs'.length/\zs'.length<=zs.length+1:=by
 unfold aij putD;cases e:uV kvs (.inr<|strOf [p.1]) with
 | none=>
  simp[Option.isSome_none,Bool.false_eq_true,if_false];refine⟨zs++[p.1],⟨?_,?_,λc hc=>?_,λk v hm=>?_⟩,by simp,by simp⟩
  ·rw[Qxz,Qxz,h.keys];rfl
  ·refine List.nodup_append.mpr ⟨h.nd,Qxj.mpr ⟨Qxw,.nil⟩,λa ha b hb=>?_⟩;rcases Qq4.mp hb with rfl;rintro rfl;have hm:D.str [p.1]∈kvs.map (·.1):=by rw[h.keys];exact Qwv.mpr ⟨p.1,ha,rfl⟩
   obtain⟨⟨k,v⟩,h1,h2⟩:=Qwv.mp hm;have h2':=h2;subst h2';exact Dk e _ _ h1 rfl
  ·rcases Qq6.mp hc with hc|hc
   ·exact h.mem c hc
   ·rw[Qq4.mp hc];exact hx
  ·rcases Qq6.mp hm with hm|hm
   ·exact h.vals k v hm
   ·have:=Qq4.mp hm;cases this;exact⟨p.1,rfl,hp⟩
 | some w=>
  simp[Option.isSome_some,if_true];obtain⟨k0,hk0,_⟩:=uE e;have hne:0<zs.length:=by have:=Qx7 List.length h.keys;rw[Qqz,Qqz] at this;rw[<-this];exact List.length_pos_of_mem hk0
  refine⟨zs,⟨by rw[Dt];exact h.keys,h.nd,h.mem,λk v hm=>?_⟩,hne,Nat.le_succ _⟩;rcases KQ hm with hm|⟨hk,rfl⟩
  ·exact h.vals k v hm
  ·have hin:k∈(Jw kvs (.inr<|strOf [p.1]) p.2).map (·.1):=Qwv.mpr ⟨_,hm,rfl⟩;rw[Dt,h.keys] at hin;obtain⟨c,hc,rfl⟩:=Qwv.mp hin;have:strOf [c]=strOf [p.1]:=by
    have:=Qw2 hk;exact Sum.inr.inj this
   have e2:=oW this;cases e2;exact⟨p.1,rfl,hp⟩
theorem Hi(h:p∈PV x):p.1∈x:=by
 unfold PV at h
 grind
theorem yl(zs):jY (zs.map D.str)=some zs:=by
 induction zs with
 | nil=>rfl
 | cons z r ih=>
  rw[Qq7];unfold jY
  simp_all
theorem abF(h:Oe x kvs zs)(h4:zs.length<=4):nZ [.dct kvs]=some (.lst ((jZ (zs.map λc=>[c])).map .str)):=by
 have e:kvs.map (·.1)=(zs.map λc=>[c]).map D.str:=by rw[h.keys,Qzk];rfl
 show(jY<|kvs.map (·.1)).bind _=_;rw[e,yl];show(if _ then _ else _)=_;rw[if_pos];refine⟨by grind,λz hz=>?_⟩;obtain⟨c,_,rfl⟩:=Qwv.mp hz;show 1<=sizeLine
 decide
def prs(kvs:List (D×D))(ks:List D):List D:=ks.map λk=>.tup [k,(m8 (.dct kvs) k).getD .non]
theorem Eu(h:Oe x kvs zs)(k)(hk:k∈(jZ (zs.map λc=>[c])).map D.str):∃c v,k = .str [c]/\m8 (.dct kvs) k=some v/\(c,v)∈PV x:=by
 obtain⟨z,hz,rfl⟩:=Qwv.mp hk;obtain⟨c,hc,rfl⟩:=Qwv.mp<|(jD _).mem_iff.mp hz;have hm:D.str [c]∈kvs.map (·.1):=by rw[h.keys];exact Qwv.mpr ⟨c,hc,rfl⟩
 obtain⟨⟨k,v⟩,h1,h2⟩:=Qwv.mp hm;have h2':=h2;subst h2';cases e:uV kvs (.inr<|strOf [c]) with
 | none=>exact absurd rfl (Dk e _ _ h1)
 | some w=>
  obtain⟨k',h3,h4⟩:=uE e;obtain⟨c',rfl,h5⟩:=h.vals k' w h3;have e2:=Sum.inr.inj<|Qw2 h4;cases oW e2;exact⟨c,w,rfl,e,h5⟩
theorem CK(h:Oe x kvs zs)(h4:zs.length<=4):agA kvs=some (.tup (prs kvs ((jZ (zs.map λc=>[c])).map D.str))):=by
 unfold agA;rw[abF h h4];simp only;rw[if_pos]
 ·rfl
 ·refine Qwk.mpr λk hk=>?_;obtain⟨c,v,_,e,_⟩:=Eu h k hk;rw[e];rfl
end j7
namespace K20
open Ev
def lq:cB:=Ai.lq
def bL:List D->Option (D×D):=qi 3 lq
def vW:cB:=bu (aP sZ (Zw []) (gr 3 4 (jy (aa (iW bL 0 (aa (aA bJ 2 (Zi 1)) ao)) ao)) (aq 3) cP (aA cZ 1 (iW bL 0 (aa (az dM (aa (bI 1) ao)) ao)))))
def mR:List D->Option (D×D):=qi 3 vW
open Ev PySem L2
noncomputable abbrev XS:=j7.XS
theorem vY:∀x∈XS,0<x.length:=λ_ h=>(j7.Sd h).pos
open j7 (lY)
theorem Zm(P:Ev.Env->Prop)(R:D->Prop):∀ds env,P env->(∀d∈ds,∀env,P env->∃y e1 e2,g d env=some e1/\e e1 = .ok y e2/\P e2/\R y)->∃ys env',Er g cP e ds env = .ok ys env'/\P env'/\(∀y∈ys,R y)/\ys.length=ds.length
 | [],env,hp,_=>⟨[],env,rfl,hp,λy hy=>by simp at hy,rfl⟩
 | d::ds,env,hp,h=>by
  obtain⟨y,e1,e2,h1,h2,h3,h4⟩:=h d (Qqw ..) env hp;obtain⟨ys,e3,h5,h6,h7,h8⟩:=Zm P R ds e2 h3 λd' hd=>h d'<|Qqk _ hd;refine⟨y::ys,e3,?_,h6,λz hz=>?_,by simp_all⟩
  ·unfold Er;rw[h1];show bindR (e e1) _=_;rw[h2];show bindR (Er g cP e ds e2) _=_;rw[h5]
   rfl
  grind
theorem Qy:∀zs,Hv [] zs=zs.flatten
 | []=>rfl
 | x::r=>by
  show r.foldl (λacc y=>acc++[]++y) x=(x::r).flatten;have go:∀(r:List (List Nat)) x,r.foldl (λacc y=>acc++[]++y) x=x++r.flatten:=by
   intro r
   induction r with
   | nil=>intro x;simp
   | cons y r ih=>simp_all
  rw[go];rfl
theorem yl(zs):jY (zs.map D.str)=some zs:=by
 induction zs with
 | nil=>rfl
 | cons z r ih=>
  rw[Qq7];unfold jY
  simp_all
theorem Ym{zs:List (List Nat)}(h:∀z∈zs,z.length<=k):(zs.map List.length).sum<=zs.length*k:=by
 induction zs with
 | nil=>simp
 | cons z r ih=>
  rw[Qq7,List.sum_cons,Qqv,Nat.add_mul]
  grind
theorem acM(h1:zs.length<=100)(h2:∀z∈zs,z.length<=10):joinFits [] zs=true:=by
 refine Qxk ?_;have:=Ym h2
 grind
theorem join_eq{zs:List (List Nat)}(h1:zs.length<=100)(h2:∀z∈zs,z.length<=10):sZ (.str []) (.lst (zs.map .str))=some (.str zs.flatten):=by show(match jY (zs.map D.str) with|some xs=>if joinFits [] xs=true then some (D.str<|Hv [] xs) else none|none=>none)=_;rw[yl];show(if joinFits [] zs=true then _ else _)=_;rw[if_pos (acM h1 h2),Qy]
theorem aaA{x:List Nat}:∀{ys},(∀y∈ys,∃c∈x,y = .str [c])->∃w:List Nat,ys=(w.map λc=>[c]).map D.str/\∀c∈w,c∈x
 | [],_=>⟨[],rfl,λc hc=>by simp at hc⟩
 | y::ys,h=>by
  obtain⟨c,hc,rfl⟩:=h y<|Qqw ..;obtain⟨w,rfl,hw⟩:=aaA λz hz=>h z<|Qqk _ hz;refine⟨c::w,rfl,λd hd=>?_⟩
  grind
theorem af8(w:List Nat):(w.map λc=>[c]).flatten=w:=by
 induction w with
 | nil=>rfl
 | cons c r ih=>simp_all
theorem aej{j:Nat}(h:j<1000):wK [.int j]=some (iu 0 1 j):=by
 have hf:lZ j=true:=by
  unfold lZ
  grind
 unfold wK
 simp_all
theorem xR(h:a env = .ok ds e)(h':wK ds=some ys):jy a env = .ok ys e:=by
 unfold jy;rw[h];show fX (wK ds) e=_;rw[h']
 rfl
theorem word(n)(x)(hx:x∈XS)(m:Nat)(hm:m<=50):∃w n',mR [.lst [.int n],.str x,.int m]=some (.str w,.lst [.int n'])/\(∀c∈w,c∈x)/\w.length<=m:=by
 have hp:=vY x hx;have hl4:=j7.oJ x hx;obtain⟨d,hd,e⟩:=dig n (m+1) (by omega);obtain⟨ys,env',h1,⟨n',v3,rfl⟩,h3,h4⟩:=Zm (g:=aq 3) (e:=aA cZ 1<|iW bL 0<|aa (az dM<|aa (bI 1) ao) ao) (λenv=>∃n v3,env=[Zl [.int n],Zs x,Zf<|.int (m:Int),v3]) (λy=>∃c∈x,y = .str [c]) (iu 0 1 d)
  [Zl [.int (n / ((m+1:Nat):Int))],Zs x,Zf<|.int (m:Int),Zn] ⟨_,_,rfl⟩
  (λs _ env ⟨n,v3,he⟩=>by
   subst he;obtain⟨j,hj,ej⟩:=dig n x.length hp;refine⟨.str [x[j]],[Zl [.int n],Zs x,Zf<|.int (m:Int),Zf s],[Zl [.int (n / (x.length:Int))],Zs x,Zf<|.int (m:Int),Zf s],rfl,?_,⟨_,_,rfl⟩,x[j],List.getElem_mem hj,rfl⟩;refine bV (y:=.int<|n % (x.length:Int)) (by rfl) ?_ (by rfl) ?_
   ·exact jG (e1:=[Zl [.int n],Zs x,Zf<|.int (m:Int),Zf s]) (by rfl) (by rfl) (by rfl)<|lY n x.length hp (by omega)
   ·show(uO x<|n % (x.length:Int)).map _=_;rw[ej,Hf hj]
    rfl)
 obtain⟨w,rfl,hw⟩:=aaA h3;have hwl:w.length=d:=by have:=h4;rw[Qqz,Qqz,mH] at this;exact this
 refine⟨w,n',nR (env:=[Zl [.int n'],Zs x,Zf<|.int (m:Int)]) ?_ rfl,hw,by omega⟩;unfold vW;refine cU (cW (by rfl) (y:=.lst ((w.map λc=>[c]).map D.str)) ?_ ?_)
 ·refine vP (n:=4) (aO:=[Zl [.int (n / ((m+1:Nat):Int))],Zs x,Zf (.int (m:Int))]) ?_ (by rfl) h1 ?_
  ·refine xR (ds:=[.int (n % ((m+1:Nat):Int))]) ?_ (by rw[e];exact aej (by omega));refine bw ?_ dq;exact jG (e1:=[Zl [.int n],Zs x,Zf (.int (m:Int))]) (by rfl) (by rfl) (by rfl) (lY n (m+1) (by omega) (by omega))
  ·rw[Qqz,Qqz,hwl];exact Qqy (show d<=100 by omega) (by decide)
 ·have:=join_eq (zs:=w.map λc=>[c]) (by grind) (λz hz=>by grind);rw[af8] at this;exact this
noncomputable def texts(x:List Nat):List (List Nat):=[[],[x.headD 0],[x.getLastD 0],[x.headD 0,x.headD 0],[x.headD 0,x.getLastD 0]]
end K20
namespace pO
open Ev
def qQ:cB:=Ai.qQ
def gC:LD:=cA 2 qQ
def lV:cB:=Ai.lV
def lQ:LD:=cA 5 lV
def pH:cB:=Ai.pH
def rD:LD:=cA 1 pH
def je:cB:=aL (bh (aJ 0) (cO 4 (aN (aq 2) (aN (aq 3) (aN (aq 4) (aN (aq 5) cQ)))))) (aL (bh (aP cZ (aA cZ 3 (Zi 0)) (Zi 1)) (aq 6)) (aL (fD 7 (cC ao)) (aL (bh (Zw [35]) (aq 8)) (aL (ju (gW (aA bJ 1 (Zw [35]))) (aq 9) (aL (dH (gF (eN (az gC (Zv 4 (Zv 8 ao)))) (eN (az gC (Zv 5 (Zv 9 ao))))) (iK 7 (aJ 6)) bN) (aL (iK 7 (aJ 9)) (bh (aJ 9) (aq 8))))) (bu (aP sZ (Zw []) (G3 (aJ 7) eZ (pZ (gH vI (Zi 1))))))))))
def jU:LD:=cA 10 je
def il:cB:=aL (bh (aJ 0) (cO 4 (aN (aq 2) (aN (aq 3) (aN (aq 4) (aN (aq 5) cQ)))))) (aL (bh (az yG (aa (bI 3) ao)) (aq 6)) (aL (bh (aA bJ 1 (Zw [35])) (aq 7)) (aL (fD 8 (cC ao)) (aL (bh (Zw [35]) (aq 9)) (aL (ju (Z1 (Zv 1 ao)) (cO 2 (aN (aq 10) (aN (aq 11) cQ))) (aL (bh (aJ 11) (aq 12)) (aL (dH (gF (eN (aA uv 11 (bI 6))) (gF (eN (az gC (Zv 4 (Zv 9 ao)))) (eN (az gC (Zv 5 (aa (aA cZ 7 (aA bJ 10 (Zi 1))) ao)))))) (bh (aA m8 6 (bI 11)) (aq 12)) bN) (aL (iK 8 (aJ 12)) (dH (eN (aA jb 2 (Zw [111,110,99,101]))) (bh (aJ 11) (aq 9)) (dH (eN (aA Up 12 (Zw []))) (bh (aJ 12) (aq 9)) bN)))))) (bu (aP sZ (Zw []) (bI 8))))))))
def jn:LD:=cA 13 il
def jz:cB:=aL (dH (eN (az rD (Zv 0 ao))) (bu (az jU (Zv 0 (Zv 1 ao)))) bN) (bu (az jn (Zv 0 (Zv 1 ao))))
def jx:LD:=cA 2 jz
def nq:cB:=aL (dH (eN (aA jb 0 (Zw [114,105,103,104,116]))) (bu (wk (az jx (aa (az lQ (Zv 1 ao)) (aa (wk (aJ 2)) ao))))) bN) (bu (az jx (Zv 1 (Zv 2 ao))))
def m9:LD:=cA 3 nq
def Ah:cB:=Ai.qQ
def gm:LD:=cA 2 Ah
def oA:cB:=aL (bh (aP bJ (aP bJ (Zw [35]) (bI 1)) (Zw [35])) (aq 2)) (aL (bh (Zw []) (aq 3)) (aL (ju (jy (aa (Zi 1) (aa (az dM (aa (bI 2) ao)) ao))) (aq 4) (aL (dH (gF (eN (az gm (aa (aA cZ 0 (Zi 2)) (aa (aA cZ 2 (aA xJ 4 (Zi 1))) ao)))) (eN (az gm (aa (aA cZ 0 (Zi 3)) (aa (aA cZ 2 (bI 4)) ao))))) (bh (aA bJ 3 (aP cZ (aP cZ (aA cZ 0 (Zi 1)) (Zi 0)) (Zi 1))) (aq 3)) bN) (bh (aA bJ 3 (aA cZ 2 (bI 4))) (aq 3)))) (bu (Xa (aJ 3) eZ (pZ (gH vI (Zi 1)))))))
def vK:LD:=cA 5 oA
def jf:cB:=aL (bh (aJ 0) (cO 4 (aN (aq 2) (aN (aq 3) (aN (aq 4) (aN (aq 5) cQ)))))) (aL (dH (eN (aP jb (aP cZ (aA cZ 3 (Zi 0)) (Zi 0)) (Zw []))) (bu (az vK (Zv 0 (Zv 1 ao)))) bN) (aL (bh (az yG (aa (bI 3) ao)) (aq 6)) (aL (bh (aP bJ (aP bJ (Zw [35]) (bI 1)) (Zw [35])) (aq 7)) (aL (bh (Zw [35]) (aq 8)) (aL (ju (jy (aa (Zi 1) (aa (aP xJ (az dM (aa (bI 7) ao)) (Zi 1)) ao))) (aq 9) (aL (bh (aA cZ 7 (aA xJ 9 (Zi 1))) (aq 10)) (aL (dH (eN (aA jb 2 (Zw [97,108,111,110,103]))) (bh (aA cZ 8 (gH vI (Zi 1))) (aq 10)) bN) (dH (gF (eN (aP uv (aA cZ 7 (bI 9)) (bI 6))) (gF (eN (az gm (Zv 4 (Zv 10 ao)))) (eN (az gm (Zv 5 (aa (aA cZ 7 (aA bJ 9 (Zi 1))) ao)))))) (bh (aA bJ 8 (aA m8 6 (aA cZ 7 (bI 9)))) (aq 8)) (bh (aA bJ 8 (aA cZ 7 (bI 9))) (aq 8)))))) (bu (Xa (aJ 8) (pZ (Zi 1)) eZ)))))))
def gA:LD:=cA 11 jf
def jH:cB:=bu (aF (aa (aA cZ 0 (Zi 0)) (aa (aA cZ 0 (Zi 1)) (aa (aA cZ 0 (Zi 3)) (aa (aA cZ 0 (Zi 2)) ao)))))
def n8:LD:=cA 1 jH
def ie:cB:=aL (dH (eN (aA jb 0 (Zw [114,105,103,104,116]))) (bu (wk (az gA (aa (az n8 (Zv 1 ao)) (aa (wk (aJ 2)) ao))))) bN) (bu (az gA (Zv 1 (Zv 2 ao))))
def gZ:LD:=cA 3 ie
open Ev PySem L2
noncomputable abbrev XS:=j7.XS
open j7 (vY oJ Oe PV SG agA prs one others Lh CJ Eu aij lY Hi CK)
theorem apo:∀x∈XS,∀p∈PV x,∃t,p.2 = .str t/\t.length<=1/\∀c∈t,c∈x:=by
 intro x hx p hp;obtain⟨c,hc,h⟩:=List.mem_flatMap.mp hp;obtain⟨v,hv,rfl⟩:=Qwv.mp h;obtain⟨t,ht,rfl⟩:=Qwv.mp hv
 grind
abbrev Pr:=Nat×List Nat
noncomputable def encC(p:Pr):D:=.tup [.str [p.1],.str p.2]
inductive oN (x:List Nat):D->Prop
 | put {c:Nat}:c∈x->oN x (.tup [.tup [.str [],.str [c]]])
 | chg {ps:List Pr}:0<ps.length->ps.length<=4->(∀p∈ps,p.1∈x/\p.2.length<=1/\∀c∈p.2,c∈x)->oN x (.tup (ps.map encC))
structure dW(x:List Nat)(w ch l r:D):Prop where
 way:w = .str [111,110,99,101]\/w = .str [97,108,111,110,103]
 chg:oN x ch
 left:l∈SG x
 right:r∈SG x
def fit(l:D)(a:Nat):Bool:=j7.JT (gC [l,.str [a]])
theorem Mz(a):∀z:List Nat,Wy (.str [a]) (z.map λc=>.str [c])=some (z.contains a)
 | []=>rfl
 | c::z=>by
  rw[Qq7];unfold Wy;rw[Mz a z];show some (([c] == [a])||z.contains a)=_;rw[List.contains_cons]
  congr 2
  grind
theorem n6:∀x∈XS,∀l∈SG x,∀a∈35::x,gC [l,.str [a]]=some (.bl (fit l a)):=by
 intro x hx l hl a ha;have h:∃b,gC [l,.str [a]]=some (.bl b):=by
  rcases Qq2.mp hl with rfl|hl
  ·exact⟨true,rfl⟩
  ·obtain⟨d,_,rfl⟩:=Qwv.mp hl;unfold j7.sgR;generalize(((List.range<|x.length+1).filter<|j7.bit d).map λk=>(35::x).getD k 0)=z;refine⟨z.contains a,fM (env:=[Zf (.tup<|z.map λc=>.str [c]),Zs [a]])<|cU ?_⟩;have e:aA xK 1 (bI 0) [Zf (.tup<|z.map λc=>.str [c]),Zs [a]] = .ok (.bl<|z.contains a) [Zf (.tup<|z.map λc=>.str [c]),Zs [a]]:=by
    refine bV rfl rfl rfl ?_;show(Option.map D.bl<|Wy (.str [a])<|z.map λc=>.str [c]).or _=_;rw[Mz]
    rfl
   assumption
 obtain⟨b,e⟩:=h;unfold fit;rw[e];cases b<;>rfl
open j7 (SG iJ)
theorem tu(h:a.length+b.length<=16000000):bJ (.str a) (.str b)=some (.str (a++b)):=by show(if a.length+b.length<=sizeLine then _ else _)=_;rw[if_pos (Qqy h (by decide))]
theorem ni(h1:a env = .ok p env)(h2:b env = .ok q env):gF a b env = .ok (p&&q) env:=by
 unfold gF;rw[h1];cases p with
 | true=>exact h2
 | false=>rfl
theorem ak0{zs:List (List Nat)}(h1:zs.length<=8100000)(h2:∀z∈zs,z.length<=2):sZ (.str []) (.lst (zs.map .str))=some (.str zs.flatten):=by
 have hf:joinFits [] zs=true:=by
  refine Qxk ?_;have:=K20.Ym h2
  grind
 show(match jY (zs.map D.str) with|some xs=>if joinFits [] xs=true then some (D.str<|Hv [] xs) else none|none=>none)=_;rw[K20.yl];show(if joinFits [] zs=true then _ else _)=_;rw[if_pos hf,K20.Qy]
theorem UJ{all done rest:List D}(h:all=done++d::rest):all[done.length]? = some d:=by rw[h];simp
theorem getD_get{z:List Nat}(h:n<z.length):z[n]? = some (z.getD n 0):=by simp_all
theorem Qz{n:Nat}(h:n<z.length):cZ (.str z) (.int n)=some (.str [z.getD n 0]):=by
 show(uO z n).map _=_;rw[oE (getD_get h)]
 rfl
theorem alW{z done rest:List _}(h:fc z=done++d::rest):d = .str [z.getD done.length 0]/\done.length<z.length:=by
 have h1:=UJ h;unfold fc at h1
 grind
theorem Xf{α:Type}(xs:List α):cutD xs none (some (-1))=xs.dropLast:=by
 unfold cutD;have e1:HT.gQ xs.length xs.length (some<|-1)=((-1)+(xs.length:Int)).toNat:=rfl;have e2:HT.gQ xs.length 0 none=0:=rfl;rw[e1,e2,List.drop_zero,List.dropLast_eq_take]
 grind
theorem acV(xs):Cy xs none (some (-1))=xs.dropLast:=Xf xs
noncomputable abbrev ed(w:List Nat):List Nat:=35::(w++[35])
abbrev sg(w:List Nat)(n:Nat):Nat:=(ed w).getD n 0
section
variable{x w:List Nat}{l r:D}
theorem Nx:(ed w).length=w.length+2:=by simp
theorem yV(hw:∀c∈w,c∈x)(h:n<w.length+2):sg w n∈35::x:=by
 have h1:n<(ed w).length:=by rw[Nx];exact h
 have:sg w n∈ed w:=List.mem_of_getElem?<|getD_get h1;rcases Qq2.mp this with e|e
 ·rw[e];exact Qqw ..
 ·rcases Qq6.mp e with e|e
  ·exact Qqk _<|hw _ e
  ·rw[Qq4.mp e];exact Qqw ..
def pc(l r:D)(c:Nat)(w:List Nat)(n:Nat):List (List Nat):=if (fit l (sg w n)&&fit r (sg w (n+1)))=true then [[c]] else []
noncomputable def pin(l r:D)(c:Nat)(w:List Nat):Nat->List (List Nat)
 | 0=>[]
 | n+1=>pin l r c w n++(pc l r c w n++[[sg w (n+1)]])
theorem aeT(c)(n):(pc l r c w n).length<=1/\∀z∈pc l r c w n,z.length=1:=by
 unfold pc;split
 ·exact⟨Qq0 _,λz hz=>by rw[Qq4.mp hz];rfl⟩
 ·exact⟨Qxx _,λz hz=>by simp at hz⟩
theorem Li(c):∀n,(pin l r c w n).length<=2*n/\∀z∈pin l r c w n,z.length=1
 | 0=>⟨Qq0 _,λz hz=>by simp[pin] at hz⟩
 | n+1=>by
  obtain⟨h1,h2⟩:=Li c n;obtain⟨h3,h4⟩:=aeT (l:=l) (r:=r) (w:=w) c n;unfold pin
  grind
theorem af9{zs:List (List Nat)}(h:∀z∈zs,z.length=1):zs.flatten.length=zs.length:=by
 induction zs with
 | nil=>rfl
 | cons z t ih=>grind
def inn(l r:D)(c:Nat)(w:List Nat):List Nat:=(pin l r c w w.length++pc l r c w w.length).flatten
theorem Lj(c):(pin l r c w (w.length+1)).dropLast=pin l r c w w.length++pc l r c w w.length:=by
 show(pin l r c w w.length++(pc l r c w w.length++[[sg w (w.length+1)]])).dropLast=_
 simp_all
theorem aeK(c):(pin l r c w (w.length+1)).flatten.dropLast=inn l r c w:=by
 show(pin l r c w w.length++(pc l r c w w.length++[[sg w (w.length+1)]])).flatten.dropLast=(pin l r c w w.length++pc l r c w w.length).flatten
 simp_all
variable(hx:x∈XS)(hl:l∈SG x)(hr:r∈SG x)(hw:∀c∈w,c∈x)(hn:w.length<=4000000)
def adD:cB:=aL (dH (gF (eN (az gC (Zv 4 (Zv 8 ao)))) (eN (az gC (Zv 5 (Zv 9 ao))))) (iK 7 (aJ 6)) bN) (aL (iK 7 (aJ 9)) (bh (aJ 9) (aq 8)))
include hx hl hr
theorem ahl(ha:a∈35::x)(hs:s∈35::x)(acc)(hac:acc.length<=8100000)(a0 a1 a2 a3:OD) :
  adD [a0,a1,a2,a3,Zf l,Zf r,Zs [c],Zl acc,Zs [a],Zs [s]] =
   .nx [a0,a1,a2,a3,Zf l,Zf r,Zs [c],Zl (acc++((if (fit l a&&fit r s)=true then [.str [c]] else [])++[.str [s]])),Zs [s],Zs [s]]:=by
 have t:gF (eN<|az gC<|Zv 4<|Zv 8 ao) (eN<|az gC<|Zv 5<|Zv 9 ao) [a0,a1,a2,a3,Zf l,Zf r,Zs [c],Zl acc,Zs [a],Zs [s]] = .ok (fit l a&&fit r s) [a0,a1,a2,a3,Zf l,Zf r,Zs [c],Zl acc,Zs [a],Zs [s]]:=
  ni (pG<|bA rfl (n6 x hx l hl a ha)) (pG<|bA rfl (n6 x hx r hr s hs))
 have tl:∀acc,acc.length<=8100001->aL (iK 7<|aJ 9) (bh (aJ 9)<|aq 8) [a0,a1,a2,a3,Zf l,Zf r,Zs [c],Zl acc,Zs [a],Zs [s]] = .nx [a0,a1,a2,a3,Zf l,Zf r,Zs [c],Zl<|acc++[.str [s]],Zs [s],Zs [s]]:=λacc hac=>
  (aW<|iJ (i:=7) (e:=[a0,a1,a2,a3,Zf l,Zf r,Zs [c],Zl acc,Zs [a],Zs [s]]) rfl rfl rfl (Qxq hac (by decide))).trans rfl
 unfold adD;cases hc:fit l a&&fit r s with
 | true=>
  rw[hc] at t;rw[if_pos rfl];refine(aW (e:=[a0,a1,a2,a3,Zf l,Zf r,Zs [c],Zl<|acc++[.str [c]],Zs [a],Zs [s]]) ?_).trans ?_
  ·exact(lG t).trans<|(iJ (i:=7) (e:=[a0,a1,a2,a3,Zf l,Zf r,Zs [c],Zl acc,Zs [a],Zs [s]]) rfl rfl rfl (Qxq hac (by decide))).trans rfl
  simp_all
 | false=>
  rw[hc] at t;rw[if_neg Qw0];exact(aW<|(nG t).trans rfl).trans (tl acc (by omega))
theorem ais(c n):((pin l r c w (n+1)).map D.str)=(pin l r c w n).map D.str++((if (fit l (sg w n)&&fit r (sg w (n+1)))=true then [.str [c]] else [])++[.str [sg w (n+1)]]):=by
 show(pin l r c w n++(pc l r c w n++[[sg w (n+1)]])).map D.str=_;rw[Qxz,Qxz];unfold pc
 grind
include hw hn
theorem with_put_in(wy)(c):jU [.tup [wy,.tup [.tup [.str [],.str [c]]],l,r],.str w]=some (.str (inn l r c w)):=by
 generalize hR:D.tup [wy,.tup [.tup [.str [],.str [c]]],l,r]=R;generalize hC:D.tup [.tup [.str [],.str [c]]]=ch;obtain⟨e',f1,hd,a9,rfl⟩:=pC (g:=aq 9) (fc<|w++[35])
  (λdone env=>done.length<=w.length+1/\∃a9,env=[Zf R,Zs w,Zf wy,Zf ch,Zf l,Zf r,Zs [c],Zl<|(pin l r c w done.length).map .str,Zs [sg w done.length],a9])
  (λdone s rest hall env ⟨hd,a9,he⟩=>by
   subst he;obtain⟨rfl,hdl⟩:=alW hall;have axg:done.length<w.length+1:=by simp_all
   have hp:=(Li (l:=l) (r:=r) (w:=w) c done.length).1;refine⟨_,_,rfl,ahl hx hl hr (s:=sg w<|done.length+1) (yV (w:=w) hw (by omega)) (yV (w:=w) hw (by omega)) _ (by grind) _ _ _ _,by grind,Zs [sg w (done.length+1)],?_⟩;rw[Qqj,Qzj,ais hx hl hr])
  [Zf R,Zs w,Zf wy,Zf ch,Zf l,Zf r,Zs [c],Zl [],Zs [35],Zn] ⟨Qxx _,Zn,rfl⟩
 have hlen:(fc<|w++[35]).length=w.length+1:=by unfold fc;rw[Qqz,Qqj,Qzj]
 rw[hlen] at f1;have hp:=Li (l:=l) (r:=r) (w:=w) c<|w.length+1;refine fM (env:=[Zf R,Zs w,Zf wy,Zf ch,Zf l,Zf r,Zs [c],Zf<|.lst ((pin l r c w (w.length+1)).map .str),Zs [sg w (w.length+1)],a9]) ?_;unfold je;refine(aW (e:=[Zf R,Zs w,Zf wy,Zf ch,Zf l,Zf r,Zn,Zn,Zn,Zn]) (by rw[<-hR,<-hC];rfl)).trans ?_;refine(aW (e:=[Zf R,Zs w,Zf wy,Zf ch,Zf l,Zf r,Zs [c],Zn,Zn,Zn]) (by rw[<-hC];rfl)).trans ?_;refine(aW rfl).trans ?_;refine(aW rfl).trans ?_;refine(aW ((jK ?_).trans f1)).trans ?_
 ·refine yt (bV rfl rfl rfl (tu (by grind))) rfl
 ·refine cU (cW rfl (y:=.lst ((pin l r c w w.length++pc l r c w w.length).map .str)) ?_ ?_)
  ·have ec:cutD ((pin l r c w (w.length+1)).map D.str) none (some (-1))=(pin l r c w w.length++pc l r c w w.length).map D.str:=by
    rw[Xf,<-List.map_dropLast,Lj c]
   rw[<-ec]
   rfl
  ·rw[<-Lj c];unfold inn;rw[<-Lj c];refine ak0 ?_ λz hz=>?_
   ·grind
   ·rw[hp.2 z (List.dropLast_subset _ hz)];decide
end
section
variable{x w:List Nat}{l r:D}
theorem aqa(h:j<16000000):wK [.int 1,.int (j+1:Nat)]=some (iu 1 1 j):=by
 have hf:lZ ((j+1))=true:=by
  unfold lZ
  grind
 have e:(((j+1:Nat):Int) - 1).toNat=j:=by omega
 unfold wK;simp only;rw[if_pos ⟨by decide,hf⟩,e]
theorem step_at{done rest:List D}(h:iu 1 1 j=done++d::rest):d = .int (done.length+1:Nat)/\done.length<j:=by
 obtain⟨h1,h2⟩:=yS<|UJ h
 grind
def afm:cB:=aL (dH (gF (eN (az gm (aa (aA cZ 0 (Zi 2)) (aa (aA cZ 2 (aA xJ 4 (Zi 1))) ao)))) (eN (az gm (aa (aA cZ 0 (Zi 3)) (aa (aA cZ 2 (bI 4)) ao))))) (bh (aA bJ 3 (aP cZ (aP cZ (aA cZ 0 (Zi 1)) (Zi 0)) (Zi 1))) (aq 3)) bN) (bh (aA bJ 3 (aA cZ 2 (bI 4))) (aq 3))
theorem alL(n):xJ (.int (n+1:Nat)) (.int 1)=some (.int n):=by
 show some (D.int<|(n+1) - 1)=_
 simp_all
variable(hx:x∈XS)(hl:l∈SG x)(hr:r∈SG x)(hw:∀c∈w,c∈x)(hn:w.length<=4000000)
include hx hl hr hw hn
theorem aiS(wy)(c n)(hnn:n<w.length+1)(f)(hf:f.length<=8100000)(a1:OD) :
  afm [Zf (.tup [wy,.tup [.tup [.str [],.str [c]]],l,r]),a1,Zs (ed w),Zs f,Zf (.int (n+1:Nat))] =
   .nx [Zf (.tup [wy,.tup [.tup [.str [],.str [c]]],l,r]),a1,Zs (ed w),Zs (f++((pc l r c w n).flatten++[sg w (n+1)])),Zf (.int (n+1:Nat))]:=by
 have hp:=aeT (l:=l) (r:=r) (w:=w) c n;have hpf:(pc l r c w n).flatten.length<=1:=by rw[af9 hp.2];exact hp.1
 have i1:=Qz (z:=ed w) (n:=n) (by rw[Nx];omega);have i2:=Qz (z:=ed w) (n:=n+1) (by rw[Nx];omega);have g2:∀f,aA cZ 2 (bI 4) [Zf (.tup [wy,.tup [.tup [.str [],.str [c]]],l,r]),a1,Zs<|ed w,Zs f,Zf<|.int ((n+1:Nat):Int)] = .ok (.str [sg w (n+1)]) [Zf (.tup [wy,.tup [.tup [.str [],.str [c]]],l,r]),a1,Zs<|ed w,Zs f,Zf<|.int ((n+1:Nat):Int)]:=λf=>
  bV rfl rfl rfl i2
 have tl:∀f,f.length<=8100001->bh (aA bJ 3<|aA cZ 2<|bI 4) (aq 3) [Zf (.tup [wy,.tup [.tup [.str [],.str [c]]],l,r]),a1,Zs<|ed w,Zs f,Zf<|.int ((n+1:Nat):Int)] = .nx [Zf (.tup [wy,.tup [.tup [.str [],.str [c]]],l,r]),a1,Zs<|ed w,Zs<|f++[sg w (n+1)],Zf (.int ((n+1:Nat):Int))]:=λf hf=>
  dI (bV rfl (g2 f) rfl (tu (by show f.length+1<=16000000;omega))) rfl
 have t:gF (eN (az gm (aa (aA cZ 0 (Zi 2)) (aa (aA cZ 2 (aA xJ 4 (Zi 1))) ao)))) (eN (az gm (aa (aA cZ 0 (Zi 3)) (aa (aA cZ 2 (bI 4)) ao)))) [Zf (.tup [wy,.tup [.tup [.str [],.str [c]]],l,r]),a1,Zs (ed w),Zs f,Zf (.int ((n+1:Nat):Int))] = .ok (fit l (sg w n)&&fit r (sg w (n+1))) [Zf (.tup [wy,.tup [.tup [.str [],.str [c]]],l,r]),a1,Zs (ed w),Zs f,Zf (.int ((n+1:Nat):Int))]:=by
  refine ni (pG (bA ?_ (n6 x hx l hl _ (yV (w:=w) hw (by omega))))) (pG (bA ?_ (n6 x hx r hr _ (yV (w:=w) hw (by omega)))))
  ·refine bw (d:=l) rfl (bw ?_ dq);exact bV rfl (bV rfl rfl rfl (alL n)) rfl i1
  ·exact bw (d:=r) rfl (bw (g2 f) dq)
 unfold afm;unfold pc at hpf ⊢;cases hc:fit l (sg w n)&&fit r (sg w (n+1)) with
 | true=>
  rw[hc] at t;rw[if_pos rfl];refine(aW (e:=[Zf (.tup [wy,.tup [.tup [.str [],.str [c]]],l,r]),a1,Zs (ed w),Zs (f++[c]),Zf (.int ((n+1:Nat):Int))]) ?_).trans ?_
  ·exact(lG t).trans (dI (bV rfl rfl rfl (tu (by show f.length+1<=16000000;omega))) rfl)
  ·rw[tl _ (by rw[Qqj,Qzj];omega),Qx6]
   rfl
 | false=>
  rw[hc] at t;rw[if_neg Qw0];exact(aW ((nG t).trans rfl)).trans (tl f (by omega))
theorem Mx(wy)(c):vK [.tup [wy,.tup [.tup [.str [],.str [c]]],l,r],.str w]=some (.str (inn l r c w)):=by
 obtain⟨e',f1,hd,a9,rfl⟩:=pC (g:=aq 4) (iu 1 1<|w.length+1)
  (λdone env=>done.length<=w.length+1/\∃a9,env=[Zf (.tup [wy,.tup [.tup [.str [],.str [c]]],l,r]),Zs w,Zs<|ed w,Zs<|(pin l r c w done.length).flatten,a9])
  (λdone s rest hall env ⟨hd,a9,he⟩=>by
   subst he;obtain⟨rfl,hdl⟩:=step_at hall;have hp:=Li (l:=l) (r:=r) (w:=w) c done.length;have hpf:=af9 hp.2;refine⟨_,_,rfl,aiS hx hl hr hw hn wy c done.length hdl _ (by omega) _,by grind,Zf<|.int ((done.length+1:Nat):Int),?_⟩;rw[Qqj,Qzj];show _=[_,_,_,Zs<|(pin l r c w done.length++(pc l r c w done.length++[[sg w (done.length+1)]])).flatten,_]
   simp_all)
  [Zf (.tup [wy,.tup [.tup [.str [],.str [c]]],l,r]),Zs w,Zs<|ed w,Zs [],Zn] ⟨Qxx _,Zn,rfl⟩
 rw[mH] at f1;refine fM (env:=[Zf (.tup [wy,.tup [.tup [.str [],.str [c]]],l,r]),Zs w,Zs<|ed w,Zs<|(pin l r c w<|w.length+1).flatten,a9]) ?_;unfold oA;refine(aW (e:=[Zf (.tup [wy,.tup [.tup [.str [],.str [c]]],l,r]),Zs w,Zs<|ed w,Zn,Zn]) ?_).trans ?_
 ·refine dI (e:=[Zf (.tup [wy,.tup [.tup [.str [],.str [c]]],l,r]),Zs w,Zn,Zn,Zn]) ?_ rfl;refine cW (x:=.str<|[35]++w) ?_ rfl (tu (by grind));exact cW rfl rfl (tu (by grind))
 refine(aW rfl).trans ?_;refine(aW ((jK ?_).trans f1)).trans ?_
 ·refine K20.xR ?_ (aqa (by omega));refine bw rfl (bw ?_ dq);refine bA rfl ?_;show some (D.int ((ed w).length:Int))=_;rw[Nx]
 ·refine cU ?_;rw[<-aeK c,<-acV]
  rfl
end
def Ss(x:List Nat)(kvs:List (D×D)):Prop:=∀k v,(k,v)∈kvs->∃t:List Nat,v = .str t/\t.length<=1/\∀c∈t,c∈x
theorem Ss.put(h:Ss x kvs)(k)(q)(t)(h1:t.length<=1)(h2:∀c∈t,c∈x):Ss x (putD kvs k q (.str t)):=by
 intro k' v hm;unfold putD at hm;split at hm
 ·rcases j7.KQ hm with hm|⟨_,rfl⟩
  ·exact h k' v hm
  simp_all
 ·rcases Qq6.mp hm with hm|hm
  ·exact h k' v hm
  simp_all
theorem Ss.all:∀(ps:List Pr) kvs,Ss x kvs->(∀p∈ps,p.1∈x/\p.2.length<=1/\∀c∈p.2,c∈x)->Ss x (pQ kvs (ps.map λp=>(.str [p.1],.str p.2)))
 | [],kvs,h,_=>h
 | p::ps,kvs,h,hp=>by
  have h1:=hp p<|Qqw ..;exact Ss.all ps _ (h.put (.str [p.1]) (.inr<|strOf [p.1]) p.2 h1.2.1 h1.2.2) λp hm=>hp p<|Qqk _ hm
theorem Qn:∀(ps:List Pr),vA (ps.map encC)=some (ps.map λp=>(.str [p.1],.str p.2))
 | []=>rfl
 | p::ps=>by
  rw[Qq7];unfold vA;rw[Qn ps]
  rfl
theorem Kf{ps:List Pr}(hp:∀p∈ps,p.1∈x/\p.2.length<=1/\∀c∈p.2,c∈x):∃kvs,yG [.tup (ps.map encC)]=some (.dct kvs)/\Ss x kvs:=by
 refine⟨pQ []<|ps.map λp=>(.str [p.1],.str p.2),?_,Ss.all ps [] (λk v h=>by simp at h) hp⟩;show(vA<|ps.map encC).map _=_;rw[Qn]
 rfl
def look(kvs:List (D×D))(s:Nat):Option (List Nat):=match uV kvs (.inr (strOf [s])) with
 | some (.str t)=>some t
 | _=>none
theorem Kd(h:Ss x kvs)(s):uv (.str [s]) (.dct kvs)=some (.bl (look kvs s).isSome):=by
 show some (D.bl (uV kvs<|.inr<|strOf [s]).isSome)=_;unfold look;cases e:uV kvs (.inr<|strOf [s]) with
 | none=>rfl
 | some v=>
  obtain⟨k,hk,_⟩:=j7.uE e;obtain⟨t,rfl,_⟩:=h k v hk
  rfl
theorem xE(h:Ss x kvs)(hs:look kvs s=some t):m8 (.dct kvs) (.str [s])=some (.str t)/\t.length<=1/\∀c∈t,c∈x:=by
 unfold look at hs;split at hs
 ·rename_i u e;cases hs;obtain⟨k,hk,_⟩:=j7.uE e;obtain⟨t',h1,h2⟩:=h k _ hk;cases h1;exact⟨e,h2⟩
 ·cases hs
section
variable{x w:List Nat}{l r:D}{kvs:List (D×D)}
def nw(kvs:List (D×D))(l r:D)(w:List Nat)(near n:Nat):List Nat:=if ((look kvs (sg w (n+1))).isSome&&(fit l near&&fit r (sg w (n+2))))=true then (look kvs (sg w (n+1))).getD [] else [sg w (n+1)]
def j8(al:Bool)(w:List Nat)(made:List (List Nat))(n:Nat):Nat:=if al=true then (35::made.flatten).getLastD 0 else sg w n
noncomputable def cg(al:Bool)(kvs:List (D×D))(l r:D)(w:List Nat):Nat->List (List Nat)
 | 0=>[]
 | n+1=>cg al kvs l r w n++[nw kvs l r w (j8 al w (cg al kvs l r w n) n) n]
theorem akE(hw:∀c∈w,c∈x)(h:n<w.length):sg w (n+1)=w.getD n 0/\sg w (n+1)∈x:=by grind
theorem afa(hk:Ss x kvs)(hw:∀c∈w,c∈x)(h:n<w.length)(near):(nw kvs l r w near n).length<=1/\∀c∈nw kvs l r w near n,c∈x:=by
 unfold nw;split
 ·cases e:look kvs (sg w<|n+1) with
  | none=>exact⟨Qxx _,λc hc=>by simp at hc⟩
  | some t=>exact(xE hk e).2
 ·exact⟨Qq0 _,λc hc=>by rw[Qq4.mp hc];exact(akE hw h).2⟩
theorem Rr(al)(hk:Ss x kvs)(hw:∀c∈w,c∈x):∀n,n<=w.length->(cg al kvs l r w n).length=n/\∀z∈cg al kvs l r w n,z.length<=1/\∀c∈z,c∈x
 | 0,_=>⟨rfl,λz hz=>by simp[cg] at hz⟩
 | n+1,h=>by
  obtain⟨h1,h2⟩:=Rr al hk hw n (by omega);unfold cg;refine⟨by rw[Qqj,Qzj,h1],λz hz=>?_⟩;rcases Qq6.mp hz with hz|hz
  ·exact h2 z hz
  ·rw[Qq4.mp hz];exact afa hk hw (by omega) _
theorem aa8(al)(hk:Ss x kvs)(hw:∀c∈w,c∈x)(h:n<=w.length):(cg al kvs l r w n).flatten.length<=n:=by obtain⟨h1,h2⟩:=Rr (l:=l) (r:=r) al hk hw n h;rw[List.length_flatten];have:=K20.Ym λz hz=>(h2 z hz).1;omega
theorem Wt:∀a z,(a::z).getLastD 0∈a::z
 | a,[]=>Qqw ..
 | a,b::z=>Qqk _<|Wt b z
theorem Wl(al)(hk:Ss x kvs)(hw:∀c∈w,c∈x)(h:n<=w.length):j8 al w (cg al kvs l r w n) n∈35::x:=by
 unfold j8;split
 ·rcases Qq2.mp (Wt 35 (cg al kvs l r w n).flatten) with e|e
  ·rw[e];exact Qqw ..
  ·obtain⟨z,hz,hc⟩:=List.mem_flatten.mp e;exact Qqk _<|((Rr al hk hw n h).2 z hz).2 _ hc
 ·exact yV hw (by omega)
theorem asp(n:Nat):bJ (.int n) (.int 1)=some (.int (n+1:Nat)):=rfl
theorem ajc(a)(z):cZ (.str (a::z)) (.int (-1))=some (.str [(a::z).getLastD 0]):=by
 have e:uO (a::z) (-1)=some ((a::z).getLastD 0):=by
  unfold uO ixN;rw[if_neg (by decide),if_pos (by grind)];show(a::z)[((-1)+((a::z).length:Int)).toNat]? = _;have e1:((-1)+((a::z).length:Int)).toNat=(a::z).length - 1:=by omega
  rw[e1,<-List.getLast?_eq_getElem?]
  rfl
 show(uO (a::z)<|-1).map _=_;rw[e]
 rfl
theorem agr(a)(z):Cy (a::z) (some 1) none=z:=by
 unfold Cy;have e1:HT.gQ (a::z).length (a::z).length none=z.length+1:=rfl;have e2:HT.gQ (a::z).length 0 (some 1)=1:=by rfl
 simp_all
theorem Zg(made)(t)(n)(h:t.length<=1):j8 true w (made++[t]) (n+1)=if t=[] then j8 true w made n else t.headD 0:=by
 unfold j8;rw[if_pos rfl,if_pos rfl]
 match t,h with
 | [],_=>simp_all
 | [a],_=>
  grind
noncomputable def jh(al:Bool):D:=if al=true then .str [97,108,111,110,103] else .str [111,110,99,101]
def adF:cB:=aL (bh (aJ 11) (aq 12)) (aL (dH (gF (eN (aA uv 11 (bI 6))) (gF (eN (az gC (Zv 4 (Zv 9 ao)))) (eN (az gC (Zv 5 (aa (aA cZ 7 (aA bJ 10 (Zi 1))) ao)))))) (bh (aA m8 6 (bI 11)) (aq 12)) bN) (aL (iK 8 (aJ 12)) (dH (eN (aA jb 2 (Zw [111,110,99,101]))) (bh (aJ 11) (aq 9)) (dH (eN (aA Up 12 (Zw []))) (bh (aJ 12) (aq 9)) bN))))
variable(hx:x∈XS)(hl:l∈SG x)(hr:r∈SG x)(hw:∀c∈w,c∈x)(hn:w.length<=4000000)(hk:Ss x kvs)
include hx hl hr hw hn hk
theorem ahn(al)(n)(hnn:n<w.length)(a0 a1 a3 a12:OD) :
  ∃b12,adF [a0,a1,Zf (jh al),a3,Zf l,Zf r,Zf (.dct kvs),Zs (w++[35]),Zl ((cg al kvs l r w n).map .str),Zs [j8 al w (cg al kvs l r w n) n],Zf (.int n),Zs [sg w (n+1)],a12] =
   .nx [a0,a1,Zf (jh al),a3,Zf l,Zf r,Zf (.dct kvs),Zs (w++[35]),Zl ((cg al kvs l r w (n+1)).map .str),Zs [j8 al w (cg al kvs l r w (n+1)) (n+1)],Zf (.int n),Zs [sg w (n+1)],b12]:=by
 have hcl:=(Rr (l:=l) (r:=r) al hk hw n (by omega)).1;have hnm:=Wl (l:=l) (r:=r) al hk hw (n:=n) (by omega);have hno:=afa (l:=l) (r:=r) hk hw hnn<|j8 al w (cg al kvs l r w n) n;have hcg:cg al kvs l r w (n+1)=cg al kvs l r w n++[nw kvs l r w (j8 al w (cg al kvs l r w n) n) n]:=rfl;have i2:=Qz (z:=w++[35]) (n:=n+1) (by simp_all);have h2m:sg w (n+2)∈35::x:=yV hw (by omega);rw[hcg];generalize hM:cg al kvs l r w n=made at *;generalize hN:j8 al w made n=near at *;have hnw:nw kvs l r w near n=if ((look kvs<|sg w<|n+1).isSome&&(fit l near&&fit r (sg w<|n+2)))=true then (look kvs<|sg w<|n+1).getD [] else [sg w (n+1)]:=rfl
 generalize hT:nw kvs l r w near n=t at *;refine⟨Zs t,?_⟩;unfold adF;refine(aW rfl).trans ?_;refine(aW (e:=[a0,a1,Zf<|jh al,a3,Zf l,Zf r,Zf<|.dct kvs,Zs<|w++[35],Zl<|made.map .str,Zs [near],Zf<|.int (n:Int),Zs [sg w (n+1)],Zs t]) ?_).trans ?_
 ·have tt:gF (eN<|aA uv 11<|bI 6) (gF (eN<|az gC<|Zv 4<|Zv 9 ao)<|eN<|az gC<|Zv 5<|aa (aA cZ 7<|aA bJ 10<|Zi 1) ao) [a0,a1,Zf<|jh al,a3,Zf l,Zf r,Zf<|.dct kvs,Zs<|w++[35],Zl<|made.map .str,Zs [near],Zf<|.int (n:Int),Zs [sg w (n+1)],Zs [sg w (n+1)]] = .ok ((look kvs<|sg w<|n+1).isSome&&(fit l near&&fit r (sg w<|n+2))) [a0,a1,Zf<|jh al,a3,Zf l,Zf r,Zf<|.dct kvs,Zs<|w++[35],Zl<|made.map .str,Zs [near],Zf<|.int (n:Int),Zs [sg w (n+1)],Zs [sg w (n+1)]]:=by
   refine ni (pG<|bV rfl rfl rfl (Kd hk _))<|ni (pG<|bA rfl (n6 x hx l hl _ hnm))<|pG<|bA ?_<|n6 x hx r hr _ h2m;refine bw (d:=r) rfl (bw ?_ dq);exact bV rfl (bV rfl rfl rfl (asp n)) rfl i2
  cases hc:(look kvs<|sg w<|n+1).isSome&&(fit l near&&fit r (sg w<|n+2)) with
  | true=>
   rw[hc] at tt hnw;rw[if_pos rfl] at hnw;obtain⟨u,hu⟩:=Qw9.mp (Qz9.mp hc).1;rw[hu] at hnw;cases hnw;exact(lG tt).trans<|dI (bV rfl rfl rfl (xE hk hu).1) rfl
  | false=>
   rw[hc] at tt hnw;rw[if_neg Qw0] at hnw;rw[hnw];exact(nG tt).trans rfl
 refine(aW (e:=[a0,a1,Zf<|jh al,a3,Zf l,Zf r,Zf<|.dct kvs,Zs<|w++[35],Zl<|(made++[t]).map .str,Zs [near],Zf<|.int (n:Int),Zs [sg w (n+1)],Zs t]) ?_).trans ?_
 ·rw[Qxz];exact(iJ (i:=8) (e:=[a0,a1,Zf<|jh al,a3,Zf l,Zf r,Zf<|.dct kvs,Zs<|w++[35],Zl<|made.map .str,Zs [near],Zf<|.int (n:Int),Zs [sg w (n+1)],Zs t]) rfl rfl rfl (by rw[Qqz,hcl];exact Qxq (show n<=4000000 by omega) (by decide))).trans rfl
 cases al with
 | false=>rfl
 | true=>
  refine(nG (e:=_) rfl).trans ?_;rw[Zg made t n hno.1,hN]
  match t,hno.1 with
  | [],_=>rfl
  | [a],_=>rfl
theorem ajM{done rest:List D}(h:yJ w=done++d::rest):d = .tup [.int done.length,.str [sg w (done.length+1)]]/\done.length<w.length:=by
 have h1:=UJ h;unfold yJ at h1
 grind
def out(al:Bool)(kvs:List (D×D))(l r:D)(w:List Nat):List Nat:=(cg al kvs l r w w.length).flatten
theorem with_changes(al)(ch)(hd:yG [ch]=some (.dct kvs)):jn [.tup [jh al,ch,l,r],.str w]=some (.str (out al kvs l r w)):=by
 generalize hR:D.tup [jh al,ch,l,r]=R;obtain⟨e',f1,hdl,a10,a11,a12,rfl⟩:=pC (g:=cO 2<|aN (aq 10)<|aN (aq 11) cQ) (yJ w)
  (λdone env=>done.length<=w.length/\∃a10 a11 a12,env=[Zf R,Zs w,Zf<|jh al,Zf ch,Zf l,Zf r,Zf<|.dct kvs,Zs<|w++[35],Zl<|(cg al kvs l r w done.length).map .str,Zs [j8 al w (cg al kvs l r w done.length) done.length],a10,a11,a12])
  (λdone s rest hall env ⟨hdl,a10,a11,a12,he⟩=>by
   subst he;obtain⟨rfl,hdl⟩:=ajM hx hl hr hw hn hk hall;obtain⟨b12,hb⟩:=ahn hx hl hr hw hn hk al done.length hdl (Zf R) (Zs w) (Zf ch) a12;refine⟨_,_,rfl,hb,by grind,Zf<|.int (done.length:Int),Zs [sg w (done.length+1)],b12,?_⟩
   simp_all)
  [Zf R,Zs w,Zf<|jh al,Zf ch,Zf l,Zf r,Zf<|.dct kvs,Zs<|w++[35],Zl [],Zs [35],Zn,Zn,Zn] ⟨Qxx _,Zn,Zn,Zn,by cases al<;>rfl⟩
 have hlen:(yJ w).length=w.length:=by unfold yJ;rw[Qqz,List.length_zipIdx]
 rw[hlen] at f1;have hok:=Rr (l:=l) (r:=r) al hk hw w.length<|Qq0 _;refine fM (env:=[Zf R,Zs w,Zf<|jh al,Zf ch,Zf l,Zf r,Zf<|.dct kvs,Zs<|w++[35],Zl<|(cg al kvs l r w w.length).map .str,Zs [j8 al w (cg al kvs l r w w.length) w.length],a10,a11,a12]) ?_;unfold il;refine(aW (e:=[Zf R,Zs w,Zf<|jh al,Zf ch,Zf l,Zf r,Zn,Zn,Zn,Zn,Zn,Zn,Zn]) (by rw[<-hR];rfl)).trans ?_;refine(aW (e:=[Zf R,Zs w,Zf<|jh al,Zf ch,Zf l,Zf r,Zf<|.dct kvs,Zn,Zn,Zn,Zn,Zn,Zn]) ?_).trans ?_
 ·exact dI (bA rfl hd) rfl
 refine(aW (e:=[Zf R,Zs w,Zf<|jh al,Zf ch,Zf l,Zf r,Zf<|.dct kvs,Zs<|w++[35],Zn,Zn,Zn,Zn,Zn]) ?_).trans ?_
 ·exact dI (bV rfl rfl rfl (tu (by grind))) rfl
 refine(aW rfl).trans ?_;refine(aW rfl).trans ?_;refine(aW<|(jK rfl).trans f1).trans ?_;refine cU (cW rfl rfl ?_);exact ak0 (by omega) λz hz=>Qqy (hok.2 z hz).1 (by decide)
theorem aeX(al):(∀c∈out al kvs l r w,c∈x)/\(out al kvs l r w).length<=2*w.length+1:=by
 unfold out;refine⟨λc hc=>?_,?_⟩
 ·obtain⟨z,hz,hcz⟩:=List.mem_flatten.mp hc;exact((Rr al hk hw w.length<|Qq0 _).2 z hz).2 c hcz
 ·have:=aa8 (l:=l) (r:=r) al hk hw<|Qq0 _;omega
end
section
variable{x w:List Nat}{l r:D}
theorem akQ(hc:c∈x)(n):∀z∈pc l r c w n,∀d∈z,d∈x:=by
 unfold pc
 simp_all
theorem aeJ(hc:c∈x)(hw:∀c∈w,c∈x):∀n,n<=w.length->∀z∈pin l r c w n,∀d∈z,d∈x
 | 0,_=>λz hz=>by simp[pin] at hz
 | n+1,h=>by
  intro z hz d hd;unfold pin at hz;rcases Qq6.mp hz with hz|hz
  ·exact aeJ hc hw n (by omega) z hz d hd
  ·rcases Qq6.mp hz with hz|hz
   ·exact akQ hc n z hz d hd
   ·rw[Qq4.mp hz] at hd;rw[Qq4.mp hd];exact(akE hw (by omega)).2
theorem afP(hc:c∈x)(hw:∀c∈w,c∈x):(∀d∈inn l r c w,d∈x)/\(inn l r c w).length<=2*w.length+1:=by
 unfold inn;refine⟨λd hd=>?_,?_⟩
 ·obtain⟨z,hz,hdz⟩:=List.mem_flatten.mp hd;rcases Qq6.mp hz with hz|hz
  ·exact aeJ hc hw w.length (Qq0 _) z hz d hdz
  ·exact akQ hc _ z hz d hdz
 ·have h1:=Li (l:=l) (r:=r) (w:=w) c w.length;have h2:=aeT (l:=l) (r:=r) (w:=w) c w.length;rw[af9 λz hz=>(Qq6.mp hz).elim (h1.2 z)<|h2.2 z,Qqj];omega
end
section
variable{x w:List Nat}{l r:D}{kvs:List (D×D)}
def afo:cB:=aL (bh (aA cZ 7 (aA xJ 9 (Zi 1))) (aq 10)) (aL (dH (eN (aA jb 2 (Zw [97,108,111,110,103]))) (bh (aA cZ 8 (gH vI (Zi 1))) (aq 10)) bN) (dH (gF (eN (aP uv (aA cZ 7 (bI 9)) (bI 6))) (gF (eN (az gm (Zv 4 (Zv 10 ao)))) (eN (az gm (Zv 5 (aa (aA cZ 7 (aA bJ 9 (Zi 1))) ao)))))) (bh (aA bJ 8 (aA m8 6 (aA cZ 7 (bI 9)))) (aq 8)) (bh (aA bJ 8 (aA cZ 7 (bI 9))) (aq 8))))
variable(hx:x∈XS)(hl:l∈SG x)(hr:r∈SG x)(hw:∀c∈w,c∈x)(hn:w.length<=4000000)(hk:Ss x kvs)
include hx hl hr hw hn hk
theorem aiT(al)(n)(hnn:n<w.length)(a0 a1 a3 a10:OD) :
  ∃b10,afo [a0,a1,Zf (jh al),a3,Zf l,Zf r,Zf (.dct kvs),Zs (ed w),Zs (35::(cg al kvs l r w n).flatten),Zf (.int (n+1:Nat)),a10] =
   .nx [a0,a1,Zf (jh al),a3,Zf l,Zf r,Zf (.dct kvs),Zs (ed w),Zs (35::(cg al kvs l r w (n+1)).flatten),Zf (.int (n+1:Nat)),b10]:=by
 have hcl:=aa8 (l:=l) (r:=r) al hk hw (n:=n) (by omega);have hnm:=Wl (l:=l) (r:=r) al hk hw (n:=n) (by omega);have hno:=afa (l:=l) (r:=r) hk hw hnn<|j8 al w (cg al kvs l r w n) n;have hcg:cg al kvs l r w (n+1)=cg al kvs l r w n++[nw kvs l r w (j8 al w (cg al kvs l r w n) n) n]:=rfl;have i0:=Qz (z:=ed w) (n:=n) (by grind);have i1:=Qz (z:=ed w) (n:=n+1) (by grind);have i2:=Qz (z:=ed w) (n:=n+2) (by simp_all);have h2m:sg w (n+2)∈35::x:=yV hw (by omega);rw[hcg,List.flatten_append];generalize hM:cg al kvs l r w n=made at *;have hnr:j8 al w made n=if al=true then (35::made.flatten).getLastD 0 else sg w n:=rfl
 generalize hN:j8 al w made n=near at *;have hnw:nw kvs l r w near n=if ((look kvs<|sg w<|n+1).isSome&&(fit l near&&fit r (sg w<|n+2)))=true then (look kvs<|sg w<|n+1).getD [] else [sg w (n+1)]:=rfl
 generalize hT:nw kvs l r w near n=t at *;generalize hF:made.flatten=f at *;refine⟨Zs [near],?_⟩;unfold afo;refine(aW (e:=[a0,a1,Zf<|jh al,a3,Zf l,Zf r,Zf<|.dct kvs,Zs<|ed w,Zs (35::f),Zf<|.int ((n+1:Nat):Int),Zs [sg w n]]) ?_).trans ?_
 ·exact dI (bV rfl (bV rfl rfl rfl (alL n)) rfl i0) rfl
 refine(aW (e:=[a0,a1,Zf<|jh al,a3,Zf l,Zf r,Zf<|.dct kvs,Zs<|ed w,Zs (35::f),Zf<|.int ((n+1:Nat):Int),Zs [near]]) ?_).trans ?_
 ·cases al with
  | false=>
   rw[if_neg Qw0] at hnr;rw[hnr]
   rfl
  | true=>
   rw[if_pos rfl] at hnr;rw[hnr];exact(lG (e:=_) rfl).trans<|dI (bV rfl rfl rfl (ajc 35 f)) rfl
 have g1:aA cZ 7 (bI 9) [a0,a1,Zf<|jh al,a3,Zf l,Zf r,Zf<|.dct kvs,Zs<|ed w,Zs (35::f),Zf<|.int ((n+1:Nat):Int),Zs [near]] = .ok (.str [sg w (n+1)]) [a0,a1,Zf<|jh al,a3,Zf l,Zf r,Zf<|.dct kvs,Zs<|ed w,Zs (35::f),Zf<|.int ((n+1:Nat):Int),Zs [near]]:=
  bV rfl rfl rfl i1
 have tt:gF (eN<|aP uv (aA cZ 7<|bI 9)<|bI 6) (gF (eN<|az gm<|Zv 4<|Zv 10 ao)<|eN<|az gm<|Zv 5<|aa (aA cZ 7<|aA bJ 9<|Zi 1) ao) [a0,a1,Zf<|jh al,a3,Zf l,Zf r,Zf<|.dct kvs,Zs<|ed w,Zs (35::f),Zf<|.int ((n+1:Nat):Int),Zs [near]] = .ok ((look kvs<|sg w<|n+1).isSome&&(fit l near&&fit r (sg w<|n+2))) [a0,a1,Zf<|jh al,a3,Zf l,Zf r,Zf<|.dct kvs,Zs<|ed w,Zs (35::f),Zf<|.int ((n+1:Nat):Int),Zs [near]]:=by refine ni (pG<|cW g1 rfl (Kd hk _))<|ni (pG<|bA rfl (n6 x hx l hl _ hnm))<|pG<|bA ?_<|n6 x hx r hr _ h2m;refine bw (d:=r) rfl (bw ?_ dq);exact bV rfl (bV rfl rfl rfl (asp<|n+1)) rfl i2
 have hfl:(35::f).length+t.length<=16000000:=by grind
 cases hc:(look kvs<|sg w<|n+1).isSome&&(fit l near&&fit r (sg w<|n+2)) with
 | true=>
  rw[hc] at tt hnw;rw[if_pos rfl] at hnw;obtain⟨u,hu⟩:=Qw9.mp (Qz9.mp hc).1;rw[hu] at hnw;have hnw':t=u:=hnw;have hfu:[t].flatten=u:=by simp_all
  rw[hfu];rw[hnw'] at hfl;exact(lG tt).trans<|dI (bV rfl (bV rfl g1 rfl (xE hk hu).1) rfl (tu hfl)) rfl
 | false=>
  rw[hc] at tt hnw;rw[if_neg Qw0] at hnw;have hfu:[t].flatten=[sg w (n+1)]:=by rw[hnw];rfl
  rw[hfu];rw[hnw] at hfl;exact(nG tt).trans<|dI (bV rfl g1 rfl (tu hfl)) rfl
theorem yF(al)(ps:List Pr)(hps:0<ps.length)(hd:yG [.tup (ps.map encC)]=some (.dct kvs)):gA [.tup [jh al,.tup (ps.map encC),l,r],.str w]=some (.str (out al kvs l r w)):=by
 have t0:∀a0 a1 a2 a4 a5,eN (aP jb (aP cZ (aA cZ 3<|Zi 0)<|Zi 0)<|Zw []) [a0,a1,a2,Zf<|.tup<|ps.map encC,a4,a5,Zn,Zn,Zn,Zn,Zn] = .ok false [a0,a1,a2,Zf<|.tup<|ps.map encC,a4,a5,Zn,Zn,Zn,Zn,Zn]:=by
  intro a0 a1 a2 a4 a5
  match ps,hps with
  | p::ps,_=>
   refine pG<|cW (x:=.str [p.1]) ?_ rfl rfl;refine cW (x:=encC p) ?_ rfl rfl;exact bV rfl rfl rfl (oE (j:=0) rfl)
 generalize hC:D.tup (ps.map encC)=ch at *;generalize hR:D.tup [jh al,ch,l,r]=R;obtain⟨e',f1,hdl,a9,a10,rfl⟩:=pC (g:=aq 9) (iu 1 1 w.length)
  (λdone env=>done.length<=w.length/\∃a9 a10,env=[Zf R,Zs w,Zf<|jh al,Zf ch,Zf l,Zf r,Zf<|.dct kvs,Zs<|ed w,Zs (35::(cg al kvs l r w done.length).flatten),a9,a10])
  (λdone s rest hall env ⟨hdl,a9,a10,he⟩=>by
   subst he;obtain⟨rfl,hdl⟩:=step_at hall;obtain⟨b10,hb⟩:=aiT hx hl hr hw hn hk al done.length hdl (Zf R) (Zs w) (Zf ch) a10;refine⟨_,_,rfl,hb,by grind,Zf<|.int ((done.length+1:Nat):Int),b10,?_⟩
   simp_all)
  [Zf R,Zs w,Zf<|jh al,Zf ch,Zf l,Zf r,Zf<|.dct kvs,Zs<|ed w,Zs [35],Zn,Zn] ⟨Qxx _,Zn,Zn,rfl⟩
 rw[mH] at f1;refine fM (env:=[Zf R,Zs w,Zf<|jh al,Zf ch,Zf l,Zf r,Zf<|.dct kvs,Zs<|ed w,Zs (35::(cg al kvs l r w w.length).flatten),a9,a10]) ?_;unfold jf;refine(aW (e:=[Zf R,Zs w,Zf<|jh al,Zf ch,Zf l,Zf r,Zn,Zn,Zn,Zn,Zn]) (by rw[<-hR];rfl)).trans ?_;refine(aW<|(nG<|t0 _ _ _ _ _).trans rfl).trans ?_;refine(aW (e:=[Zf R,Zs w,Zf<|jh al,Zf ch,Zf l,Zf r,Zf<|.dct kvs,Zn,Zn,Zn,Zn]) ?_).trans ?_
 ·exact dI (bA rfl hd) rfl
 refine(aW (e:=[Zf R,Zs w,Zf<|jh al,Zf ch,Zf l,Zf r,Zf<|.dct kvs,Zs<|ed w,Zn,Zn,Zn]) ?_).trans ?_
 ·refine dI (e:=[Zf R,Zs w,Zf<|jh al,Zf ch,Zf l,Zf r,Zf<|.dct kvs,Zn,Zn,Zn,Zn]) ?_ rfl;refine cW (x:=.str<|[35]++w) ?_ rfl (tu (by grind));exact cW rfl rfl (tu (by grind))
 refine(aW rfl).trans ?_;refine(aW ((jK ?_).trans f1)).trans ?_
 ·refine K20.xR ?_ (aqa (by omega));refine bw rfl (bw ?_ dq);refine cW ?_ rfl (alL _);refine bA rfl ?_;show some (D.int ((ed w).length:Int))=_;rw[Nx]
 ·refine cU ?_;unfold out;generalize(cg al kvs l r w w.length).flatten=z;have e1:∀env,env[8]? = some (Zs (35::z))->Xa (aJ 8) (pZ (Zi 1)) eZ env = .ok (.str (Cy (35::z) (some 1) none)) env:=λenv h=>by
   have hv:aJ 8 env = .ok (.str (35::z)) env:=by unfold aJ;rw[h]
   unfold Xa;rw[hv]
   rfl
  rw[agr] at e1
  simp_all
end
theorem akv(h:w = .str [111,110,99,101]\/w = .str [97,108,111,110,103]):∃al,w=jh al:=by
 rcases h with rfl|rfl
 ·exact⟨false,rfl⟩
 ·exact⟨true,rfl⟩
theorem from_left(hx:x∈XS)(h:dW x wy ch l r)(hw:∀c∈w,c∈x)(hn:w.length<=4000000):∃o,jx [.tup [wy,ch,l,r],.str w]=some (.str o)/\gA [.tup [wy,ch,l,r],.str w]=some (.str o)/\(∀c∈o,c∈x)/\o.length<=2*w.length+1:=by
 obtain⟨al,rfl⟩:=akv h.way;cases h.chg with
 | put hc=>
  rename_i c;refine⟨inn l r c w,?_,?_,afP hc hw⟩
  ·refine fM (env:=[Zf (.tup [jh al,.tup [.tup [.str [],.str [c]]],l,r]),Zs w]) ?_;unfold jz;refine nD ?_;refine(lG<|pG<|bA rfl rfl).trans ?_;exact cU<|bA rfl (with_put_in hx h.left h.right hw hn _ c)
  ·refine fM (env:=[Zf (.tup [jh al,.tup [.tup [.str [],.str [c]]],l,r]),Zs w,Zf<|jh al,Zf<|.tup [.tup [.str [],.str [c]]],Zf l,Zf r,Zn,Zn,Zn,Zn,Zn]) ?_;unfold jf;refine(aW rfl).trans ?_;refine nD ?_;refine(lG rfl).trans ?_;exact cU<|bA rfl (Mx hx h.left h.right hw hn _ c)
 | chg h0 h4 hp=>
  rename_i ps;obtain⟨kvs,hd,hk⟩:=Kf hp;refine⟨out al kvs l r w,?_,yF hx h.left h.right hw hn hk al ps h0 hd,aeX hx h.left h.right hw hn hk al⟩;have hpi:rD [.tup [jh al,.tup<|ps.map encC,l,r]]=some (.bl false):=by
   match ps,h0 with
   | p::ps,_=>
    refine fM (env:=[Zf (.tup [jh al,.tup<|(p::ps).map encC,l,r])])<|cU ?_;refine cW (x:=.str [p.1]) ?_ rfl rfl;refine cW (x:=encC p) ?_ rfl rfl;refine cW rfl rfl (oE rfl)
  refine fM (env:=[Zf (.tup [jh al,.tup<|ps.map encC,l,r]),Zs w]) ?_;unfold jz;refine(aW<|(nG<|pG<|bA rfl hpi).trans rfl).trans ?_;exact cU<|bA rfl (with_changes hx h.left h.right hw hn hk al _ hd)
noncomputable def sides:List D:=[.str [108,101,102,116],.str [114,105,103,104,116]]
theorem Pj(hx:x∈XS)(hl:l∈SG x)(hr:r∈SG x)(hw:∀c∈w,c∈x)(hn:w.length<=4000000)(wy)(c):gA [.tup [wy,.tup [.tup [.str [],.str [c]]],l,r],.str w]=some (.str (inn l r c w)):=by refine fM (env:=[Zf (.tup [wy,.tup [.tup [.str [],.str [c]]],l,r]),Zs w,Zf wy,Zf<|.tup [.tup [.str [],.str [c]]],Zf l,Zf r,Zn,Zn,Zn,Zn,Zn]) ?_;unfold jf;refine(aW rfl).trans ?_;refine nD ?_;refine(lG rfl).trans ?_;exact cU<|bA rfl (Mx hx hl hr hw hn _ c)
theorem Nu(hx:x∈XS)(h:dW x wy ch l r)(hw:∀c∈w,c∈x)(hn:w.length<=4000000):∃o,gA [.tup [wy,ch,l,r],.str w]=some (.str o)/\(∀c∈o,c∈x)/\o.length<=2*w.length+1:=by
 obtain⟨al,rfl⟩:=akv h.way;cases h.chg with
 | put hc=>exact⟨inn l r _ w,Pj hx h.left h.right hw hn _ _,afP hc hw⟩
 | chg h0 h4 hp=>
  obtain⟨kvs,hd,hk⟩:=Kf hp;exact⟨out al kvs l r w,yF hx h.left h.right hw hn hk al _ h0 hd,aeX hx h.left h.right hw hn hk al⟩
theorem alU{R:D}(h:gA [R,.str w]=some (.str o)):gZ [.str [108,101,102,116],R,.str w]=some (.str o):=by refine fM (env:=[Zs [108,101,102,116],Zf R,Zs w]) ?_;unfold ie;refine(aW<|(nG (by rfl)).trans rfl).trans ?_;exact cU<|bA rfl h
theorem alT{R Q:D}(ht:n8 [R]=some Q)(h:gA [Q,.str w.reverse]=some (.str o)):gZ [.str [114,105,103,104,116],R,.str w]=some (.str o.reverse):=by
 have rev:∀{a} {env} {o},a env = .ok (.str o) env->wk a env = .ok (.str o.reverse) env:=λ{a env o} e=>by unfold wk;rw[e];rfl
 refine fM (env:=[Zs [114,105,103,104,116],Zf R,Zs w]) ?_;unfold ie;refine nD<|(lG rfl).trans<|cU<|rev ?_;exact bA (bw (bA rfl ht)<|bw (rev rfl) dq) h
theorem agz(hx:x∈XS)(h:dW x wy ch l r)(hw:∀c∈w,c∈x)(hn:w.length<=4000000):∀s∈sides,∃o,gZ [s,.tup [wy,ch,l,r],.str w]=some (.str o)/\(∀c∈o,c∈x)/\o.length<=2*w.length+1:=by
 intro s hs;rcases Qq2.mp hs with rfl|hs
 ·obtain⟨o,h2,h3⟩:=Nu hx h hw hn;exact⟨o,alU h2,h3⟩
 ·rw[Qq4.mp hs];obtain⟨o,h2,h3,h4⟩:=Nu hx ⟨h.way,h.chg,h.right,h.left⟩ (λc hc=>hw c<|List.mem_reverse.mp hc) (by simp_all);exact⟨o.reverse,alT rfl h2,λc hc=>h3 c<|List.mem_reverse.mp hc,by simp_all⟩
theorem changed(hx:x∈XS)(h:dW x wy ch l r)(hw:∀c∈w,c∈x)(hn:w.length<=4000000):∀s∈sides,∃o,m9 [s,.tup [wy,ch,l,r],.str w]=some (.str o)/\gZ [s,.tup [wy,ch,l,r],.str w]=some (.str o)/\(∀c∈o,c∈x)/\o.length<=2*w.length+1:=by
 intro s hs;rcases Qq2.mp hs with rfl|hs
 ·obtain⟨o,h1,h2,h3⟩:=from_left hx h hw hn;refine⟨o,?_,?_,h3⟩
  ·refine fM (env:=[Zs [108,101,102,116],Zf<|.tup [wy,ch,l,r],Zs w]) ?_;unfold nq;refine(aW<|(nG (by rfl)).trans rfl).trans ?_;exact cU<|bA rfl h1
  ·refine fM (env:=[Zs [108,101,102,116],Zf<|.tup [wy,ch,l,r],Zs w]) ?_;unfold ie;refine(aW<|(nG (by rfl)).trans rfl).trans ?_;exact cU<|bA rfl h2
 ·rw[Qq4.mp hs];obtain⟨o,h1,h2,h3,h4⟩:=from_left hx (⟨h.way,h.chg,h.right,h.left⟩:dW x wy ch r l) (λc hc=>hw c<|List.mem_reverse.mp hc) (by simp_all);have rev:∀{a} {env},a env = .ok (.str o) env->wk a env = .ok (.str o.reverse) env:=λ{a env} e=>by unfold wk;rw[e];rfl
  refine⟨o.reverse,?_,?_,λc hc=>h3 c<|List.mem_reverse.mp hc,by simp_all⟩
  ·refine fM (env:=[Zs [114,105,103,104,116],Zf<|.tup [wy,ch,l,r],Zs w]) ?_;unfold nq;refine nD<|(lG rfl).trans<|cU<|rev ?_;exact bA rfl h1
  ·refine fM (env:=[Zs [114,105,103,104,116],Zf<|.tup [wy,ch,l,r],Zs w]) ?_;unfold ie;refine nD<|(lG rfl).trans<|cU<|rev ?_;exact bA rfl h2
end pO
namespace Hj
open Ev
def qQ:cB:=Ai.qQ
def gC:LD:=cA 2 qQ
def lV:cB:=Ai.lV
def lQ:LD:=cA 5 lV
def pH:cB:=Ai.pH
def rD:LD:=cA 1 pH
def je:cB:=pO.je
def jU:LD:=cA 10 je
def il:cB:=pO.il
def jn:LD:=cA 13 il
def jz:cB:=pO.jz
def jx:LD:=cA 2 jz
def nq:cB:=pO.nq
def m9:LD:=cA 3 nq
def Uw:cB:=aL (bh (aJ 0) (cO 2 (aN (aq 2) (aN (aq 3) cQ)))) (aL (fD 4 (cC (Zv 1 ao))) (aL (ju (gW (aJ 3)) (aq 5) (iK 4 (az m9 (Zv 2 (Zv 5 (aa (aA cZ 4 (gH vI (Zi 1))) ao)))))) (bu (az iz (aa (bI 4) ao)))))
def xM:LD:=cA 6 Uw
def Uy:cB:=Ai.Uy
def ux:LD:=cA 2 Uy
def Ah:cB:=Ai.qQ
def gm:LD:=cA 2 Ah
def oA:cB:=pO.oA
def vK:LD:=cA 5 oA
def jf:cB:=pO.jf
def gA:LD:=cA 11 jf
def jH:cB:=pO.jH
def n8:LD:=cA 1 jH
def ie:cB:=pO.ie
def gZ:LD:=cA 3 ie
open Ev PySem L2
open j7 (iJ)
open pO (XS sides dW tu)
def gG(x:List Nat)(R:D):Prop:=∃wy ch l r,R = .tup [wy,ch,l,r]/\dW x wy ch l r
def cF(s R:D)(w:List Nat):List Nat:=match pO.gZ [s,R,.str w] with
 | some (.str o)=>o
 | _=>[]
section
variable{x:List Nat}{s:D}
theorem asj(hx:x∈XS)(hs:s∈sides){R:D}(hR:gG x R)(hw:∀c∈w,c∈x)(hn:w.length<=4000000) :
  m9 [s,R,.str w]=some (.str (cF s R w))/\gZ [s,R,.str w]=some (.str (cF s R w))/\(∀c∈cF s R w,c∈x)/\(cF s R w).length<=2*w.length+1:=by
 obtain⟨wy,ch,l,r,rfl,h⟩:=hR;obtain⟨o,h1,h2,h3⟩:=pO.changed hx h hw hn s hs;have e:cF s (.tup [wy,ch,l,r]) w=o:=by unfold cF;rw[h2]
 rw[e];exact⟨h1,h2,h3⟩
theorem au6(hx:x∈XS)(hs:s∈sides){R:D}(hR:gG x R)(hw:∀c∈w,c∈x)(hn:w.length<=4000000) :
  gZ [s,R,.str w]=some (.str (cF s R w))/\(∀c∈cF s R w,c∈x)/\(cF s R w).length<=2*w.length+1:=by
 obtain⟨wy,ch,l,r,rfl,h⟩:=hR;obtain⟨o,h1,h3⟩:=pO.agz hx h hw hn s hs;have e:cF s (.tup [wy,ch,l,r]) w=o:=by unfold cF;rw[h1]
 rw[e];exact⟨h1,h3⟩
def fin(s:D)(Rs:List D)(w:List Nat):List Nat:=Rs.foldl (λv R=>cF s R v) w
noncomputable def Aj(s:D):List Nat->List D->List (List Nat)
 | w,[]=>[w]
 | w,R::Rs=>w::Aj s (cF s R w) Rs
theorem Vb:∀Rs w R,Aj s w (Rs++[R])=Aj s w Rs++[cF s R (fin s Rs w)]
 | [],w,R=>rfl
 | Q::Rs,w,R=>by
  show w::Aj s (cF s Q w) (Rs++[R])=w::Aj s (cF s Q w) Rs++[cF s R (fin s Rs<|cF s Q w)];rw[Vb Rs]
  rfl
theorem Km:∀Rs w,∃pre,Aj s w Rs=pre++[fin s Rs w]
 | [],w=>⟨[],rfl⟩
 | R::Rs,w=>by
  obtain⟨pre,e⟩:=Km Rs<|cF s R w;refine⟨w::pre,?_⟩;show w::Aj s (cF s R w) Rs=_;rw[e]
  rfl
theorem aap:∀Rs w,(Aj s w Rs).length=Rs.length+1
 | [],w=>rfl
 | R::Rs,w=>by show(w::Aj s (cF s R w) Rs).length=_;rw[Qqv,aap Rs,Qqv]
theorem agb(hx:x∈XS)(hs:s∈sides):∀Rs w,(∀R∈Rs,gG x R)->(∀c∈w,c∈x)->(w.length+1)*2^Rs.length<=6500001->(∀c∈fin s Rs w,c∈x)/\(fin s Rs w).length+1<=(w.length+1)*2^Rs.length
 | [],w,_,hw,hn=>⟨hw,by show w.length+1<=(w.length+1)*1;omega⟩
 | R::Rs,w,hR,hw,hn=>by
  have h2:(w.length+1)*2^(R::Rs).length=(2*w.length+1+1)*2^Rs.length:=by grind
  have hp:1<=2^Rs.length:=Nat.one_le_two_pow;have hwl:w.length<=4000000:=by have:2*w.length+1+1<=(2*w.length+1+1)*2^Rs.length:=Nat.le_mul_of_pos_right _ hp;omega
  obtain⟨_,h3,h4⟩:=au6 hx hs (hR R<|Qqw ..) hw hwl;have h5:((cF s R w).length+1)*2^Rs.length<=(2*w.length+1+1)*2^Rs.length:=Nat.mul_le_mul_right _ (by omega);obtain⟨h6,h7⟩:=agb hx hs Rs (cF s R w) (λQ hQ=>hR Q<|Qqk _ hQ) h3 (by omega);refine⟨h6,?_⟩;show(fin s Rs<|cF s R w).length+1<=_;omega
theorem ajs(hx:x∈XS)(hs:s∈sides)(Rs)(w)(hR:∀R∈Rs,gG x R)(hw:∀c∈w,c∈x)(hn:(w.length+1)*2^Rs.length<=3250001):(∀c∈fin s Rs w,c∈x)/\(fin s Rs w).length<=4000000:=by
 obtain⟨h1,h2⟩:=agb hx hs Rs w hR hw<|Qqy hn (by decide)
 grind
theorem amj{Rs done rest:List D}{R:D}(hall:Rs=done++R::rest)(hn:(n+1)*2^Rs.length<=6500001):(n+1)*2^done.length<=3250001:=by
 have hl:done.length+1<=Rs.length:=by simp_all
 have:=Qqy (Nat.mul_le_mul_left (n+1)<|Nat.pow_le_pow_right (by decide) hl) hn;rw[Nat.pow_succ,<-Nat.mul_assoc] at this;omega
theorem Xq{d:D}:uO (ds++[d]) (-1)=some d:=by
 unfold uO ixN;rw[if_neg (by decide),if_pos (by grind)];show(ds++[d])[((-1)+((ds++[d]).length:Int)).toNat]? = _;have e1:((-1)+((ds++[d]).length:Int)).toNat=ds.length:=by grind
 simp_all
theorem afr(Rs)(w):cZ (.lst ((Aj s w Rs).map .str)) (.int (-1))=some (.str (fin s Rs w)):=by obtain⟨pre,e⟩:=Km Rs w;rw[e,Qxz];exact Xq
theorem afq(Rs)(w):cZ (.tup ((Aj s w Rs).map .str)) (.int (-1))=some (.str (fin s Rs w)):=by obtain⟨pre,e⟩:=Km Rs w;rw[e,Qxz];exact Xq
def adE:cB:=iK 4 (az m9 (Zv 2 (Zv 5 (aa (aA cZ 4 (gH vI (Zi 1))) ao))))
variable(hx:x∈XS)(hs:s∈sides){Rs:List D}(hR:∀R∈Rs,gG x R)(h4:Rs.length<=10){w:List Nat}(hw:∀c∈w,c∈x)(hn:(w.length+1)*2^Rs.length<=6500001)
include hx hs hR h4 hw hn
theorem walk:xM [.tup [s,.tup Rs],.str w]=some (.tup ((Aj s w Rs).map .str)):=by
 generalize hO:D.tup [s,.tup Rs]=O;obtain⟨e',f1,hd,a5,rfl⟩:=pC (g:=aq 5) (b:=adE) Rs
  (λdone env=>done.length<=Rs.length/\∃a5,env=[Zf O,Zs w,Zf s,Zf<|.tup Rs,Zl<|(Aj s w done).map .str,a5])
  (λdone R rest hall env ⟨hd,a5,he⟩=>by
   subst he;have hm:∀Q∈done,gG x Q:=λQ hQ=>hR Q (by simp_all);have hRm:gG x R:=hR R (by simp_all);obtain⟨q1,q2⟩:=ajs hx hs done w hm hw<|amj hall hn;obtain⟨c1,_⟩:=asj hx hs hRm q1 q2;have hl:=Qx7 List.length hall;rw[Qqj,Qqv] at hl;refine⟨[Zf O,Zs w,Zf s,Zf<|.tup Rs,Zl<|(Aj s w done).map .str,Zf R],[Zf O,Zs w,Zf s,Zf<|.tup Rs,Zl<|(Aj s w<|done++[R]).map .str,Zf R],rfl,?_,by simp_all,_,rfl⟩;rw[Vb,Qxz];unfold adE;refine(iJ (i:=4) (e:=[Zf O,Zs w,Zf s,Zf<|.tup Rs,Zl<|(Aj s w done).map .str,Zf R]) (by rfl) ?_ (by rfl) (by rw[Qqz,aap];exact Qxq (show done.length+1<=11 by omega) (by decide))).trans rfl;refine bA (bw (d:=s) (by rfl) (bw (d:=R) (by rfl) (bw ?_ dq))) c1;exact bV (by rfl) (by rfl) (by rfl) (afr done w))
  [Zf O,Zs w,Zf s,Zf (.tup Rs),Zl [.str w],Zn] ⟨Qxx _,Zn,rfl⟩
 refine fM (env:=[Zf O,Zs w,Zf s,Zf (.tup Rs),Zl ((Aj s w Rs).map .str),a5]) ?_;unfold Uw;refine(aW (e:=[Zf O,Zs w,Zf s,Zf (.tup Rs),Zn,Zn]) (by rw[<-hO];rfl)).trans ?_;refine(aW (by rfl)).trans ?_;exact(aW ((jK (by rfl)).trans f1)).trans rfl
theorem made:ux [.tup [s,.tup Rs],.str w]=some (.str (fin s Rs w)):=by refine fM (env:=[Zf (.tup [s,.tup Rs]),Zs w])<|cU ?_;exact cW (bA (by rfl)<|walk hx hs hR h4 hw hn) (by rfl)<|afq Rs w
end
theorem aei(h:k<=n):HT.gQ n d (some k)=k:=by rw[HT.ahX];omega
theorem ap9(h:c≠0/\c.natAbs<1073741824/\Builtin.Range.small i j c=true):wK [.int i,.int j,.int c]=some (iu i c (Builtin.Range.rangeSize i j c).toNat):=by
 unfold wK
 simp_all
end Hj
namespace K14
open Ev
def qQ:cB:=Ai.qQ
def gC:LD:=cA 2 qQ
def lV:cB:=Ai.lV
def lQ:LD:=cA 5 lV
def mz:cB:=aL (bh (aJ 0) (cO 2 (aN (aq 1) (aN (aq 2) cQ)))) (aL (dH (eN (aA jb 1 (Zw [114,105,103,104,116]))) (bu (az iz (aa (gr 3 4 (gW (aJ 2)) (aq 3) cP (az lQ (Zv 3 ao))) ao))) bN) (bu (aJ 2)))
def jO:LD:=cA 3 mz
def pL:cB:=bu (az iz (aa (gr 1 5 (gW (az jO (Zv 0 ao))) (cO 4 (aN (aq 1) (aN (aq 2) (aN (aq 3) (aN (aq 4) cQ))))) cP (aF (aa (az gC (Zv 3 (aa (Zw [35]) ao))) (aa (Zw []) ao)))) ao))
def bY:LD:=cA 1 pL
def jH:cB:=pO.jH
def n8:LD:=cA 1 jH
open Ev PySem L2
open j7 (SG iJ)
open pO (XS sides dW tu fit n6 Ss look xE Kd jh encC Kf oN ni)
open Hj (gG)
abbrev St:=Bool×List Nat
noncomputable def aoP(s:St):D:=.tup [.bl s.1,.str s.2]
inductive Rl
 | put (c:Nat) (l r:D)
 | chg (al:Bool) (kvs:List (D×D)) (l r:D)
inductive Is (x:List Nat):D->Rl->Prop
 | put {wy l r:D} {c:Nat}:c∈x->l∈SG x->r∈SG x->Is x (.tup [wy,.tup [.tup [.str [],.str [c]]],l,r]) (.put c l r)
 | chg {al:Bool} {ps:List pO.Pr} {kvs:List (D×D)} {l r:D}:0<ps.length->yG [.tup (ps.map encC)]=some (.dct kvs)->Ss x kvs->l∈SG x->r∈SG x->Is x (.tup [jh al,.tup (ps.map encC),l,r]) (.chg al kvs l r)
theorem Ro(h1:g d env=some e1)(h2:b e1 = .nx e2):mQ g b (d::ds) env=mQ g b ds e2:=by
 conv=>lhs;unfold mQ
 simp_all
noncomputable def tn:D->D
 | .tup [wy,ch,l,r]=>.tup [wy,ch,r,l]
 | d=>d
noncomputable def lf:D->D
 | .tup [_,_,l,_]=>l
 | d=>d
noncomputable def rt:D->Bool
 | .str (114::_)=>true
 | _=>false
def lay(s:D)(Rs:List D):List D:=if rt s=true then Rs.map tn else Rs
theorem akB{R:D}(h:gG x R):gG x (tn R)/\lQ [R]=some (tn R)/\n8 [R]=some (tn R):=by obtain⟨wy,ch,l,r,rfl,h1,h2,h3,h4⟩:=h;exact⟨⟨wy,ch,r,l,rfl,h1,h2,h4,h3⟩,rfl,rfl⟩
theorem aiU(s)(Rs):(lay s Rs).length=Rs.length:=by
 unfold lay
 grind
theorem ani(h:∀R∈Rs,gG x R):∀R∈lay s Rs,gG x R:=by
 unfold lay;split
 ·intro R hR;obtain⟨Q,hQ,rfl⟩:=Qwv.mp hR;exact(akB<|h Q hQ).1
 ·exact h
def fss(Rs:List D):List St:=Rs.map λR=>(fit (lf R) 35,[])
section
variable{x:List Nat}{s:D}(hx:x∈XS)(hs:s∈sides){Rs:List D}(hR:∀R∈Rs,gG x R)(h4:Rs.length<=10)
include hx hs hR h4
theorem reading_rules:jO [.tup [s,.tup Rs]]=some (.tup (lay s Rs)):=by
 rcases Qq2.mp hs with rfl|hs
 ·rfl
 ·cases Qq4.mp hs;obtain⟨env',g1,v5,rfl⟩:=Ke (g:=aq 3) (e:=az lQ<|Zv 3 ao) (λenv=>∃v5,env=[Zf (.tup [.str [114,105,103,104,116],.tup Rs]),Zs [114,105,103,104,116],Zf<|.tup Rs,v5]) tn Rs
   [Zf (.tup [.str [114,105,103,104,116],.tup Rs]),Zs [114,105,103,104,116],Zf<|.tup Rs,Zn] ⟨none,rfl⟩
   (λd hd env ⟨v5,he⟩=>by
    subst he;exact⟨[Zf (.tup [.str [114,105,103,104,116],.tup Rs]),Zs [114,105,103,104,116],Zf<|.tup Rs,Zf d],_,rfl,bA rfl (akB<|hR d hd).2.1,_,rfl⟩)
  refine fM (env:=[Zf (.tup [.str [114,105,103,104,116],.tup Rs]),Zs [114,105,103,104,116],Zf<|.tup Rs]) ?_;unfold mz;refine(aW rfl).trans ?_;refine(nD ?_).trans rfl;refine(lG rfl).trans ?_;refine cU<|bA (ds:=[.lst (Rs.map tn)]) (bw ?_ dq) rfl;exact vP (n:=4) (aO:=[Zf (.tup [.str [114,105,103,104,116],.tup Rs]),Zs [114,105,103,104,116],Zf<|.tup Rs]) rfl rfl g1 (by rw[Qqz];exact Qqy h4 (by decide))
theorem first_standing:bY [.tup [s,.tup Rs]]=some (.tup ((fss (lay s Rs)).map aoP)):=by
 have h1:=reading_rules hx hs hR h4;have h2:=ani (s:=s) hR;have h3:=aiU s Rs;generalize lay s Rs=Ls at *;generalize D.tup [s,.tup Rs]=O at *;obtain⟨env',g1,v1,v2,v3,v4,rfl⟩:=Ke (g:=cO 4<|aN (aq 1)<|aN (aq 2)<|aN (aq 3)<|aN (aq 4) cQ) (e:=aF<|aa (az gC<|Zv 3<|aa (Zw [35]) ao)<|aa (Zw []) ao) (λenv=>∃v1 v2 v3 v4,env=[Zf O,v1,v2,v3,v4]) (λR=>aoP (fit (lf R) 35,[])) Ls
  [Zf O,Zn,Zn,Zn,Zn] ⟨none,Zn,Zn,Zn,rfl⟩
  (λd hd env ⟨v1,v2,v3,v4,he⟩=>by
   subst he;obtain⟨wy,ch,l,r,rfl,hro⟩:=h2 d hd;exact⟨[Zf O,Zf wy,Zf ch,Zf l,Zf r],[Zf O,Zf wy,Zf ch,Zf l,Zf r],rfl,uM (bw (bA rfl (n6 x hx l hro.left 35<|Qqw ..)) rfl) Ev.zz2,_,_,_,_,rfl⟩)
 refine fM (env:=[Zf O])<|cU<|bA (ds:=[.lst (Ls.map λR=>aoP (fit (lf R) 35,[]))]) (bw ?_ dq) ?_
 ·exact vP (n:=5) (aO:=[Zf O]) (yt (bA rfl h1) rfl) rfl g1 (by rw[Qqz,h3];exact Qqy h4 (by decide))
 ·unfold fss;rw[Qzk]
  rfl
end
end K14
section
open Ev PySem L2
local macro_rules | `(tactic| ac_rfl) => `(tactic| simp (maxSteps := 2000000) (disch := (first | ((try simp only [Qqv, Qw3, Qqj, Qqz, List.length_range, sizeLine, Nat.reducePow]) <;> omega) | fail)) only [↓sNx, ↓sRt, ↓bR, ↓bO, ↓lR, ↓lO, ↓iT, ↓iF, ↓rS, ↓bB, ↓oS, ↓nS, ↓obS, ↓kNx, ↓vS, ↓wS, ↓lS, ↓eS, ↓pS, ↓cS, ↓arf, ↓arq, ahF, zR, zO, ajw, ajH, lS, ahL, ahJ, ajq, mq, ajr, ajp, W0, arT, arU, aop, aou, ajk, sNx, sRt, sBk, sCt, alO, aoN, iT, iF, bR, bO, lR, lO, ahG, ahK, ahH, adZ, adY, asa, ajG, agh, ajK, aoI, agi, ajv, aoK, agj, rS, ajL, aoL, ajE, asb, bB, agk, ajD, agd, aoO, oS, ajI, acS, obS, ar8, nS, ajF, aoJ, ajy, ajx, ajC, agg, ahI, afU, auT, afV, gB, ajg, aoM, ajA, arH, arI, arF, arG, eS, Nv, aoG, vS, kNx, kRt, kBk, kCt, aq7, aq6, wS, agc, alZ, dRt, dNx, envOf, Rn, ak7, ak6, at0, at1, at2, at3, aoE, aoz, mO, aoA, aoB, af2, af1, ajl, ajn, ajm, af7, af4, Nq, aaX, aoC, arY, W4, ar0, ar5, arW, aoo, arZ, gt0, gtS, st0, stS, cdT, cdF, Qj0, Option.bind_some, Qq7, Qj3, List.replicate_succ, List.replicate_zero, Nat.reduceAdd, Nat.reduceSub, Qqv, Qw3, List.cons_append, List.nil_append, Bool.not_true, Bool.not_false, nc0, nc1, nc2, nc3, nc4, nc5, nc6, nc7, nc8, Int.reduceBEq, Nat.reduceBEq, Int.reduceLE, Int.reduceLT, Nat.reduceLeDiff, Nat.reduceLT, Int.reduceAdd, Int.reduceSub, decide_true, decide_false, beq_self_eq_true, ahZ, Cw, aut, auu, al0, nRt, Yp, pS, cS, arf, arq, ad0, aor, Ni, aos, aot, ajz, anV, acR, ano, acO, aow, aqK, aqL, U0, aja, ai9, aoc, aob, arA, aur, ai8, afH, afG, ai7, aoa, afF, ai6, an8, ai5, an6, an4, arx, afD, ai4, an3, an1, an0, anZ, anW, arw, ai2, ai1, ai0, anT, anS, anQ, anO, anN, anL, anJ, aru, aiZ, aiY, anI, ars, anF, anD, anB, arp, anA, aiX, aiW, anz, anx, arl, auo, ark, aiV, anw, anu, anr, arh, anq, arc, anp, ara, *] <;> try rfl)
namespace Ai
open Ev PySem L2
open j7 (mk afj marks Bd known iJ Rows JT ik lY PV Oe SG prs Eu CK Hi CJ one others Lh)
open pO (XS sides encC oN dW)
theorem ahz:bL=j7.bL:=rfl
theorem aaL:mU=j7.mU:=rfl
theorem Qf:jF=j7.jF:=rfl
theorem Be:cX=j7.cX:=rfl
theorem ahm:mR=K20.mR:=rfl
def mt(d:Nat):D:=match mk d with
 | .lst zs=>.tup (cutD zs none (some 4))
 | _=>.non
def MK:List D:=(List.range 32).map mt
inductive qU:List D->List D->Prop where
 | nil:qU [] []
 | cons {s m:D} {ss rs:List D}:m∈MK->qU ss rs->qU (s::ss) (.tup [s,m]::rs)
theorem qU.snoc(h:qU ss rs)(s)(hm:m∈MK):qU (ss++[s]) (rs++[.tup [s,m]]):=by
 induction h with
 | nil=>exact .cons hm .nil
 | cons a _ ih=>exact .cons a ih
theorem qU.rows(h:qU ss rs):Rows ss rs:=by
 induction h with
 | nil=>exact .nil
 | cons _ _ ih=>exact .cons ih
noncomputable def XL:List (List Nat):=[[97],[97,98],[97,98,99],[97,101,112,116],[109,110,122],[97,101],[109,110]]
theorem oK:∀x∈XL,x∈XS:=by intro x hx;simp[XL,Qq2,Qxw,or_false] at hx;rcases hx with rfl|rfl|rfl|rfl|rfl|rfl|rfl<;>exact j7.ass ⟨by decide,by decide,by decide,by decide⟩
theorem agN:∀x∈XL,pY [.tup (fc x)]=some (.bl true):=by
 have h:(XL.all λx=>JT<|pY [.tup (fc x)])=true:=by decide +kernel
 exact λx hx=>ik<|Qwk.mp h x hx
theorem Ld:∀c∈XL.flatten,∀m∈MK,dh [.tup [.str [c],m]]=some (.bl true):=by
 have h:(XL.flatten.all λc=>MK.all λm=>JT<|dh [.tup [.str [c],m]])=true:=by decide +kernel
 exact λc hc m hm=>ik<|Qwk.mp (Qwk.mp h c hc) m hm
theorem Ef(h:qU ss rs):∀r∈rs,∃s∈ss,∃m∈MK,r = .tup [s,m]:=by
 induction h with
 | nil=>intro r hr;cases hr
 | @cons s m ss rs a _ ih=>
  intro r hr;rcases Qq2.mp hr with rfl|hr
  ·exact⟨s,Qqw ..,m,a,rfl⟩
  ·obtain⟨s',h1,h2⟩:=ih r hr;exact⟨s',Qqk _ h1,h2⟩
theorem is_stock(hx:x∈XL)(h:qU (fc x) rs):bM [.tup rs]=some (.bl true):=by
 have hs:=j7.sounds_of (oK x hx) h.rows;rw[<-Be] at hs;have h2:=agN x hx;have hl:rs.length=x.length:=by rw[h.rows.len];simp[fc]
 have h3:=j7.oJ x<|oK x hx;have h4:=j7.vY x<|oK x hx;have hg:∀r∈rs,dh [r]=some (.bl true):=λr hr=>by
  obtain⟨s,h5,m,h6,rfl⟩:=Ef h r hr;unfold fc at h5;obtain⟨c,hc,rfl⟩:=Qwv.mp h5;exact Ld c (List.mem_flatten.mpr ⟨x,hx,hc⟩) m h6
 have hc:iZ [Zf (.tup rs)] = .ok (.lst<|rs.map λ_=>.bl true) [Zf (.tup rs)]:=by
  unfold iZ;refine ou rs id _ (by rw[List.map_id];rfl) rfl rfl (λr hr=>?_) (Qqy (show rs.length<=4 by omega) (by decide));have:=hg r hr;show az dh (Zv 1 ao) [Zf (.tup rs),Zf r]=_;clear hs h2 hg h
  ac_rfl
 have ha:=yH (λ_:D=>true) rs;rw[show rs.all (λ_=>true)=true by simp] at ha;have l1:decide (1<=(rs.length:Int))=true:=Qxk (by omega);have l2:decide ((rs.length:Int)<=4)=true:=Qxk (by omega);have ht:f9 "tuple" (.tup rs)=some (.bl true):=rfl;unfold bM sI;clear hg h hl h3 h4 hx;generalize iZ=LC at *;generalize rs.map (λ_=>D.bl true)=MM at *
 ac_rfl
def Dr:cB:=aL (bh (iW bL 0 (aa (Zi 32) ao)) (aq 5)) (aL Bd (iK 3 (aF (Zv 4 (aa (az iz (aa (G3 (aJ 6) eZ (pZ (Zi 4))) ao)) ao)))))
theorem Yn(n)(b v5 v6:OD)(acc)(s)(ha:acc.length<=10):∃m v5' v6',Dr [Zl [.int n],b,Zf known,Zl acc,Zf s,v5,v6] = .nx [Zl [.int (n / 32)],b,Zf known,Zl (acc++[.tup [s,m]]),Zf s,v5',v6']/\m∈MK:=by obtain⟨d,hd,e⟩:=dig n 32 (by decide);obtain⟨zs,hz⟩:=afj d hd;refine⟨.tup<|cutD zs none<|some 4,Zf<|.int d,Zf<|.lst zs,?_,Qwv.mpr ⟨d,Qjv.mpr hd,by unfold mt;rw[hz]⟩⟩;unfold Dr;refine(aW (e:=[Zl [.int (n / 32)],b,Zf known,Zl acc,Zf s,(Zf<|.int<|n % (32:Nat)),v6]) rfl).trans ?_;rw[e];refine(aW<|marks d hd _ _ _ _ _).trans ?_;rw[hz];exact iJ (e:=[Zl [.int (n / 32)],b,Zf known,Zl acc,Zf s,Zf<|.int d,Zf<|.lst zs]) rfl rfl rfl (Qxq ha (by decide))
theorem stock(n):∃x rows n',x∈XL/\xN [.lst [.int n]]=some (.tup rows,.lst [.int n'])/\qU (fc x) rows:=by
 obtain⟨d,hd,e⟩:=dig n 6 (by decide);obtain⟨x,hx,h1⟩:∃x,x∈XL/\∀m,(λk m=>gO (fX (cZ (.lst [.str [97],.str [97,98],.str [97,98],.str [97,98,99],.str [97,101,112,116],.str [109,110,122]])<|.int k) ([Zl [.int m],Zn,Zn,Zn,Zn,Zn,Zn]:Ev.Env)) λd aO=>Qu<|aq 1 d aO) (d:Int) m = .nx [Zl [.int m],Zs x,Zn,Zn,Zn,Zn,Zn]:=by
  have hc:d=0\/d=1\/d=2\/d=3\/d=4\/d=5:=by omega
  rcases hc with rfl|rfl|rfl|rfl|rfl|rfl
  ·exact⟨[97],by decide,λm=>rfl⟩
  ·exact⟨[97,98],by decide,λm=>rfl⟩
  ·exact⟨[97,98],by decide,λm=>rfl⟩
  ·exact⟨[97,98,99],by decide,λm=>rfl⟩
  ·exact⟨[97,101,112,116],by decide,λm=>rfl⟩
  ·exact⟨[109,110,122],by decide,λm=>rfl⟩
 have hxl:x.length<=4:=j7.oJ x<|oK x hx;obtain⟨e',f1,n',acc,v4,v5,v6,rfl,hr⟩:=pC (g:=aq 4) (b:=Dr) (fc x) (λdone env=>∃n acc v4 v5 v6,env=[Zl [.int n],Zs x,Zf known,Zl acc,v4,v5,v6]/\qU done acc)
  (λdone s rest hall env ⟨n,acc,v4,v5,v6,he,hr⟩=>by
   subst he;have hd:done.length<=4:=by
    have:=Qx7 List.length hall;unfold fc at this
    grind
   obtain⟨m,w5,w6,hb,hm⟩:=Yn n (Zs x) v5 v6 acc s (by rw[hr.rows.len];omega);exact⟨_,_,rfl,hb,n / 32,_,_,_,_,rfl,hr.snoc s hm⟩)
  [Zl [.int (n / 6)],Zs x,Zf known,Zl [],Zn,Zn,Zn] ⟨_,[],_,_,_,rfl,.nil⟩
 refine⟨x,acc,n',hx,nR (env:=[Zl [.int n'],Zs x,Zf known,Zl acc,v4,v5,v6]) ?_ rfl,hr⟩;unfold Jd;refine(aW (e:=[Zl [.int (n / 6)],Zs x,Zn,Zn,Zn,Zn,Zn]) ?_).trans ?_
 ·have h2:=h1<|n / 6;rw[<-e] at h2;exact h2
 refine(aW rfl).trans ?_;refine(aW rfl).trans ?_;refine(aW (e:=[Zl [.int n'],Zs x,Zf known,Zl acc,v4,v5,v6]) ?_).trans ?_
 ·exact f1
 ·rfl
open j7 (Rows JT ik lY PV Oe SG prs Eu CK Hi CJ one others Lh)
open Hj (gG cF fin)
theorem lt1(x y:Nat):([x] < [y])↔x<y:=by
 constructor
 ·intro h;cases h with
  | rel h=>exact h
  | cons h=>exact absurd h<|List.not_lt_nil _
 ·intro h;exact .rel h
noncomputable def up:List Nat->Bool
 | []=>true
 | [_]=>true
 | a::b::r=>decide (a<b)&&up (b::r)
theorem adL:∀z,((List.range (z.length - 1)).all λi=>decide ([z.getD i 0] < [z.getD (i+1) 0]))=up z
 | []=>rfl
 | [_]=>rfl
 | x::y::r=>by
  have ih:=adL (y::r);have e:(x::y::r).length - 1=(y::r).length - 1+1:=by simp
  rw[e,List.range_succ_eq_map,List.all_cons,List.all_map];have e2:decide ([(x::y::r).getD 0 0] < [(x::y::r).getD (0+1) 0])=decide (x<y):=by rw[Bool.eq_iff_iff,decide_eq_true_iff,decide_eq_true_iff];exact lt1 x y
  rw[e2];show _=(decide (x<y)&&up (y::r));rw[<-ih]
  rfl
theorem rises{t:List D->D}(ht:t = .tup\/t = .lst)(hz:z.length<=1000):pY [t (fc z)]=some (.bl (up z)):=by
 unfold pY abd Mm;have hlen:dM [t (fc z)]=some (.int z.length):=by rcases ht with rfl|rfl<;>simp[dM,fc]
 have hr:wK [.int ((z.length:Int) - 1)]=some ((List.range<|z.length - 1).map λ(i:Nat)=>D.int (i:Int)):=by
  cases z with
  | nil=>rfl
  | cons c r=>
   have e:(((c::r).length:Int) - 1)=((r.length:Nat):Int):=by rw[Qqv];omega
   rw[e,aej (by simp at hz;omega)]
   rfl
 have h4:=ou (lo:=1) (n:=2) (it:=jy<|aa (aP xJ (az dM<|aa (bI 0) ao)<|Zi 1) ao) (e:=aP gLt (aA cZ 0<|bI 1)<|aA cZ 0<|aA bJ 1<|Zi 1) (env:=[(Zf<|t<|fc z)]) (List.range<|z.length - 1) (λi=>.int (i:Int)) (λi=>.bl<|decide ([z.getD i 0] < [z.getD (i+1) 0])) (by ac_rfl) rfl rfl (λi hi=>by
  have hi:=Qjv.mp hi;have g:∀j,j<z.length->cZ (t<|fc z) (.int (j:Int))=some (.str [z.getD j 0]):=λj hj=>by
   rcases ht with rfl|rfl<;>simp[Rn,ak7,atN,fc,hj]
  have g1:=g i (by omega);have g2:=g (i+1) (by omega);rw[show(((i+1:Nat):Int))=(i:Int)+1 from rfl] at g2
  ac_rfl) (by rw[List.length_range];exact Qqy (show z.length - 1<=1000 by omega) (by decide))
 have h5:=yH (λi=>decide ([z.getD i 0] < [z.getD (i+1) 0])) (List.range (z.length - 1));rw[adL] at h5
 ac_rfl
theorem PQ:∀{z},(z.map λc=>[c]).Pairwise (·<= ·)->z.Nodup->up z=true
 | [],_,_=>rfl
 | [_],_,_=>rfl
 | a::b::r,h,hn=>by
  have ih:=PQ (Qx1.mp h).2 (Qxj.mp hn).2;have h1:=(Qx1.mp h).1 [b] (by simp);have h2:a≠b:=λe=>(Qxj.mp hn).1 (by simp[e]);show(decide (a<b)&&up (b::r))=true;rw[ih,Bool.and_true,decide_eq_true_iff];have h3:a<=b:=by
   rcases Nat.lt_or_ge b a with h4|h4
   ·exact absurd ((lt1 b a).mpr h4) h1
   ·exact h4
  omega
theorem af5(h:Wy d zs=some b):xK d (.tup zs)=some (.bl b):=by
 show(af6 d<|.tup zs).or _=_;have:af6 d (.tup zs)=some (.bl b):=by
  show(Wy d zs).map D.bl=_;rw[h]
  rfl
 rw[this]
 rfl
theorem Np(h:x.contains c=b):xK (.str [c]) (.tup (fc x))=some (.bl b):=af5 (by rw[fc,pO.Mz,h])
theorem ak8(x):xK (.str []) (.tup (fc x))=some (.bl false):=af5 (by
 induction x with
 | nil=>rfl
 | cons c x ih=>
  show(match jJ 59 (.str [c]) (.str []),Wy (.str []) (fc x) with|some a,some b=>some (a||b)|_,_=>none)=_;rw[ih]
  rfl)
theorem agy{ps:List pO.Pr}(h0:0<ps.length)(h4:ps.length<=4)(hp:∀p∈ps,p.1∈x/\p.2.length<=1/\(∀c∈p.2,c∈x)/\p.2≠[p.1])(hu:up (ps.map (·.1))=true):bQ [.tup (fc x),.tup (ps.map encC)]=some (.bl true):=by
 have cs:∀p∈ps,dY [.tup (fc x),encC p]=some (.bl true):=λp h=>by
  obtain⟨a1,a2,a3,a4⟩:=hp p h;have e1:du [encC p]=some (.bl true):=rfl;have e2:xK (.str [p.1]) (.tup<|fc x)=some (.bl true):=Np<|List.contains_iff_mem.mpr a1;have e5:Up (.str [p.1]) (.str p.2)=some (.bl true):=by rw[af4,Qw6.mpr<|Ne.symm a4];rfl
  match e:p.2,a2 with
  | [],_=>
   have e3:=ak8 x;rw[e] at e5;have e6:encC p = .tup [.str [p.1],.str []]:=by unfold encC;rw[e]
   rw[e6] at e1 ⊢;unfold dY jQ;clear hp a1 a2 a3 a4 e6 e hu;generalize fc x=X at *
   ac_rfl
  | [c],_=>
   have e3:=Np<|List.contains_iff_mem.mpr<|a3 c (by rw[e];simp);rw[e] at e5;have e6:encC p = .tup [.str [p.1],.str [c]]:=by unfold encC;rw[e]
   rw[e6] at e1 ⊢;unfold dY jQ;clear hp a1 a2 a3 a4 e6 e hu;generalize fc x=X at *
   ac_rfl
  | a::b::r,h=>simp at h
 have c1:gk [(Zf<|.tup<|fc x),(Zf<|.tup<|ps.map encC)] = .ok (.lst<|ps.map λ_=>.bl true) [(Zf<|.tup<|fc x),(Zf<|.tup (ps.map encC))]:=by
  unfold gk;refine ou ps encC _ rfl rfl rfl (λp h=>?_) (Qqy (show ps.length<=4 by omega) (by decide));have:=cs p h;show az dY (Zv 0 (Zv 2 ao)) [(Zf (.tup (fc x))),(Zf (.tup (ps.map encC))),Zf (encC p)]=_;generalize encC p=P at *;generalize ps.map encC=PS at *;generalize fc x=X at *;clear cs hp hu h
  ac_rfl
 have c2:gj [(Zf (.tup (fc x))),(Zf (.tup (ps.map encC)))] = .ok (.lst (fc (ps.map (·.1)))) [(Zf (.tup (fc x))),(Zf (.tup (ps.map encC)))]:=by
  unfold gj;have h4:=G4 (lo:=2) (n:=4) (it:=gW (aJ 1)) (g:=cO 2 (aN (aq 2) (aN (aq 3) cQ))) (c:=cP) (e:=aJ 2) (env:=[(Zf (.tup (fc x))),(Zf (.tup (ps.map encC)))]) ps encC (λp=>[Zs [p.1],Zs p.2]) (λ_=>true) (λp=>.str [p.1]) rfl rfl (λp hp=>by
   refine⟨rfl,λvs hv=>?_,rfl,λ_=>rfl⟩
   match vs,hv with
   | [_,_],_=>rfl) (Qqy (show ps.length<=4 by omega) (by decide))
  rw[List.filter_eq_self.mpr (λ_ _=>rfl)] at h4;rw[h4];unfold fc;rw[Qzk]
  rfl
 have ha:=yH (λ_:pO.Pr=>true) ps;rw[show ps.all (λ_=>true)=true by simp] at ha;have hr:=rises (.inr rfl) (z:=ps.map (·.1)) (by rw[Qqz];omega);rw[hu] at hr;have hl:dM [.tup (ps.map encC)]=some (.int (ps.length:Nat)):=by rw[mO,Qqz]
 have hn:jb (.int (ps.length:Nat)) (.int 0)=some (.bl false):=by rw[Nq,Qw6.mpr (by omega)]
 have ht:f9 "tuple" (.tup (ps.map encC))=some (.bl true):=rfl;have hpo:jc [.tup (fc x),(ps.map encC).headD .non]=some (.bl false):=by
  match ps,h0 with
  | p::r,_=>
   have e1:du [.tup [.str [p.1],.str p.2]]=some (.bl true):=rfl;have e2:jb (.str [p.1]) (.str [])=some (.bl false):=rfl;show jc [.tup (fc x),.tup [.str [p.1],.str p.2]]=_;unfold jc uz;generalize fc x=X at *;clear c1 c2 ha hr hl hn ht hp cs hu
   ac_rfl
 have hix:cZ (.tup (ps.map encC)) (.int 0)=some ((ps.map encC).headD .non):=by
  match ps,h0 with
  | p::r,_=>rw[Rn,Qq7,j7.CZ];rfl
 unfold bQ p7;generalize(ps.map encC).headD .non=H at *;generalize ps.map encC=PS at *;generalize fc (ps.map (·.1))=SS at *;generalize ps.map (λ_=>D.bl true)=MM at *;generalize gk=L1 at *;generalize gj=L2 at *;generalize fc x=X at *;clear cs hp hu;by_cases h1:ps.length=1
 ·have hn1:jb (.int (ps.length:Nat)) (.int 1)=some (.bl true):=by rw[Nq,h1];rfl
  generalize(ps.length:Int)=N at *;clear h0 h4 h1
  ac_rfl
 ·have hn1:jb (.int (ps.length:Nat)) (.int 1)=some (.bl false):=by rw[Nq,Qw6.mpr (by omega)]
  generalize(ps.length:Int)=N at *;clear h0 h4 h1
  ac_rfl
theorem aeC(hc:c∈x):bQ [.tup (fc x),.tup [.tup [.str [],.str [c]]]]=some (.bl true):=by
 have e1:du [.tup [.str [],.str [c]]]=some (.bl true):=rfl;have e2:xK (.str [c]) (.tup<|fc x)=some (.bl true):=Np<|List.contains_iff_mem.mpr hc;have e3:jc [.tup (fc x),.tup [.str [],.str [c]]]=some (.bl true):=by
  unfold jc uz;generalize fc x=X at *;have e4:jb (.str []) (.str [])=some (.bl true):=rfl
  ac_rfl
 unfold bQ p7;generalize fc x=X at *;have e4:f9 "tuple" (.tup [.tup [.str [],.str [c]]])=some (.bl true):=rfl;have e5:jb (.int ((0:Nat)+1:Int)) (.int 0)=some (.bl false):=rfl;have e6:jb (.int ((0:Nat)+1:Int)) (.int 1)=some (.bl true):=rfl
 ac_rfl
theorem V5(hx:x∈XS):∀ks,(∀k∈ks,∃c v,k = .str [c]/\m8 (.dct kvs) k=some v/\(c,v)∈PV x)->∃ps:List pO.Pr,prs kvs ks=ps.map encC/\ps.length=ks.length/\(∀p∈ps,p.1∈x/\p.2.length<=1/\(∀c∈p.2,c∈x)/\p.2≠[p.1])/\ks=ps.map λp=>.str [p.1]
 | [],_=>⟨[],rfl,rfl,λp hp=>by simp at hp,rfl⟩
 | k::ks,h=>by
  obtain⟨c,v,rfl,e,hv⟩:=h k<|Qqw ..;obtain⟨t,et,ht⟩:=pO.apo x hx _ hv;have hne:t≠[c]:=by
   obtain⟨c',hc',h'⟩:=List.mem_flatMap.mp hv;obtain⟨v',hv',h2⟩:=Qwv.mp h';cases h2;obtain⟨z,hz,h3⟩:=Qwv.mp hv';have et':v = .str t:=et;rw[et'] at h3;cases h3
   simpa using (List.mem_filter.mp hz).2
  obtain⟨ps,e1,e2,e3,e4⟩:=V5 hx ks λk hk=>h k<|Qqk _ hk;refine⟨(c,t)::ps,?_,by rw[Qqv,Qqv,e2],λp hp=>?_,by rw[Qq7,<-e4]⟩
  ·unfold prs at e1 ⊢;rw[Qq7,e1,e];have et':v = .str t:=et;rw[et']
   rfl
  ·rcases Qq2.mp hp with rfl|hp
   ·exact⟨Hi hv,ht.1,ht.2,hne⟩
   ·exact e3 p hp
theorem changes(n)(x)(hx:x∈XS):∃ch n',uy [.lst [.int n],.str x]=some (ch,.lst [.int n'])/\oN x ch/\bQ [.tup (fc x),ch]=some (.bl true):=by
 obtain⟨d,hd,e⟩:=dig n 5 (by decide);have hp:=j7.vY x hx;have hl4:=j7.oJ x hx;have t:eN (aP jb (iW bL 0 (aa (Zi 5) ao)) (Zi 0)) [Zl [.int n],Zs x,Zn,Zn,Zn,Zn] = .ok ((d:Int) == 0) [Zl [.int (n / 5)],Zs x,Zn,Zn,Zn,Zn]:=by
  rw[<-e]
  rfl
 by_cases h0:d=0
 ·subst h0;obtain⟨j,hj,ej⟩:=dig (n / 5) x.length hp;refine⟨.tup [.tup [.str [],.str [x[j]]]],n / 5 / (x.length:Int),nR (env:=[Zl [.int (n / 5 / (x.length:Int))],Zs x,Zn,Zn,Zn,Zn]) ?_ rfl,.put (List.getElem_mem hj),aeC (List.getElem_mem hj)⟩;unfold uA;refine(nD ?_).trans rfl;refine(lG t).trans ?_;refine cU (uM (bw (uM (bw rfl (bw ?_ dq)) Ev.zz2) dq) Ev.zz1);refine bV (y:=.int (n / 5 % (x.length:Int))) rfl ?_ rfl ?_
  ·exact jG (e1:=[Zl [.int (n / 5)],Zs x,Zn,Zn,Zn,Zn]) rfl rfl rfl (lY _ x.length hp (by omega))
  ·show(uO x (n / 5 % (x.length:Int))).map _=_;rw[ej,Hf hj]
   rfl
 ·have t0:((d:Int) == 0)=false:=by simp_all
  rw[t0] at t;obtain⟨j,hj,ej⟩:=dig (n / 5) 4 (by decide);obtain⟨ds,hds,hl1,hl2⟩:∃ds,wK [.int (1+(j:Int))]=some ds/\0<ds.length/\ds.length<=4:=by
   have hc:j=0\/j=1\/j=2\/j=3:=by omega
   rcases hc with rfl|rfl|rfl|rfl
   ·exact⟨_,rfl,by decide,by decide⟩
   ·exact⟨_,rfl,by decide,by decide⟩
   ·exact⟨_,rfl,by decide,by decide⟩
   ·exact⟨_,rfl,by decide,by decide⟩
  obtain⟨e',f1,n',kvs,zs,v3,v4,v5,rfl,hk,hz1,hz2⟩:=pC (g:=aq 3) (b:=aL one (aL others Lh)) ds
   (λdone env=>∃n kvs zs v3 v4 v5,env=[Zl [.int n],Zs x,Zt (.dct kvs),v3,v4,v5]/\Oe x kvs zs/\zs.length<=done.length/\(0<done.length->0<zs.length))
   (λdone s rest hall env ⟨n,kvs,zs,v3,v4,v5,he,hk,hz1,hz2⟩=>by
    subst he;have hdl:done.length<=4:=by grind
    have hkl:kvs.length=zs.length:=by
     have:=Qx7 List.length hk.keys
     simp_all
    obtain⟨p,n',w4,w5,hpv,hb⟩:=j7.round n x hx kvs (by omega) (Zf s) v4 v5;obtain⟨zs',hk',z1,z2⟩:=hk.put hpv (Hi hpv);exact⟨_,_,rfl,hb,n',_,zs',_,_,_,rfl,hk',by grind,λ_=>z1⟩)
   [Zl [.int (n / 5 / 4)],Zs x,Zt (.dct []),Zn,Zn,Zn] ⟨_,[],[],_,_,_,rfl,⟨rfl,.nil,λc hc=>by simp at hc,λk v h=>by simp at h⟩,Qq0 _,λh=>h⟩
  have hz3:zs.length<=4:=Qqy hz1 hl2;have hok:oN x (.tup (prs kvs ((jZ (zs.map λc=>[c])).map D.str)))/\bQ [.tup (fc x),.tup (prs kvs ((jZ (zs.map λc=>[c])).map D.str))]=some (.bl true):=by
   obtain⟨ps,e1,e2,e3,e4⟩:=V5 hx _ (Eu hk);have hl:ps.length=zs.length:=by rw[e2,Qqz,(jD _).length_eq,Qqz]
   have hu:=hz2 hl1;rw[e1];refine⟨.chg (by omega) (by omega) (λp hp=>⟨(e3 p hp).1,(e3 p hp).2.1,(e3 p hp).2.2.1⟩),agy (by omega) (by omega) e3 ?_⟩;have e6:(ps.map (·.1)).map (λc=>[c])=jZ (zs.map λc=>[c]):=by
    have:∀a b:List (List Nat),a.map D.str=b.map D.str->a=b:=λa b h=>by
     have:=Qx7 (List.map λd=>match d with|D.str z=>z|_=>[]) h
     simpa[Function.comp_def] using this
    exact this _ _ (by rw[e4,Qzk,Qzk];rfl)
   refine PQ (by rw[e6];exact u0 _) ?_;have h7:(jZ (zs.map λc=>[c])).Nodup:=(jD _).nodup_iff.mpr (List.pairwise_map.mpr (hk.nd.imp λh e=>h (by simpa using e)));rw[<-e6] at h7;exact(List.pairwise_map.mp h7).imp λh e=>h (by rw[e])
  refine⟨_,n',nR (env:=[Zl [.int n'],Zs x,Zt (.dct kvs),v3,v4,v5]) ?_ rfl,hok⟩;unfold uA;refine(aW ((nG t).trans rfl)).trans ?_;refine(aW (e:=[Zl [.int (n / 5)],Zs x,Zt (.dct []),Zn,Zn,Zn]) rfl).trans ?_;refine(aW (e:=[Zl [.int n'],Zs x,Zt (.dct kvs),v3,v4,v5]) ?_).trans ?_
  ·refine(jK ?_).trans f1;have a1:aa (aP bJ (Zi 1) (iW bL 0 (aa (Zi 4) ao))) ao [Zl [.int (n / 5)],Zs x,Zt (.dct []),Zn,Zn,Zn] = .ok [.int (1+n / 5 % 4)] [Zl [.int (n / 5 / 4)],Zs x,Zt (.dct []),Zn,Zn,Zn]:=rfl;unfold jy;rw[a1];show fX (wK [.int (1+n / 5 % ((4:Nat):Int))]) _=_;rw[ej,hds]
   rfl
  ·exact CJ (CK hk hz3) _ _ _ _ _
theorem rule(n)(x)(hx:x∈XS):∃w ch l r n',pD [.lst [.int n],.str x]=some (.tup [w,ch,l,r],.lst [.int n'])/\dW x w ch l r/\bQ [.tup (fc x),ch]=some (.bl true):=by
 obtain⟨d,hd,e⟩:=dig n 2 (by decide);obtain⟨w,hw,h1⟩:∃w,(w = .str [111,110,99,101]\/w = .str [97,108,111,110,103])/\cZ (.lst [.str [111,110,99,101],.str [97,108,111,110,103]]) (.int (d:Int))=some w:=by
  have hc:d=0\/d=1:=by omega
  rcases hc with rfl|rfl
  ·exact⟨_,.inl rfl,rfl⟩
  ·exact⟨_,.inr rfl,rfl⟩
 obtain⟨ch,n1,h2,h3,h4⟩:=changes (n / 2) x hx;obtain⟨l,n2,h5,h6⟩:=j7.signs n1 x hx;obtain⟨r,n3,h7,h8⟩:=j7.signs n2 x hx;refine⟨w,ch,l,r,n3,nR (env:=[Zl [.int n3],Zs x,Zf w,Zf ch]) ?_ rfl,⟨hw,h3,h6,h8⟩,h4⟩;unfold NP;refine(aW (e:=[Zl [.int (n / 2)],Zs x,Zf w,Zn]) ?_).trans ?_
 ·refine dI (d:=w) (e:=[Zl [.int (n / 2)],Zs x,Zn,Zn]) ?_ rfl;refine cW rfl rfl ?_
  simp_all
 refine(aW (e:=[Zl [.int n1],Zs x,Zf w,Zf ch]) ?_).trans ?_
 ·exact dI (jG (e1:=[Zl [.int (n / 2)],Zs x,Zf w,Zn]) rfl rfl rfl h2) rfl
 ·refine cU (uM (bw (d:=w) rfl (bw rfl (bw (d:=l) (e1:=[Zl [.int n2],Zs x,Zf w,Zf ch]) ?_ (bw (d:=r) ?_ dq)))) Ev.zz4)
  ·exact jG (e1:=[Zl [.int n1],Zs x,Zf w,Zf ch]) rfl rfl rfl h5
  ·exact jG (e1:=[Zl [.int n2],Zs x,Zf w,Zf ch]) rfl rfl rfl h7
theorem yU:∀x∈XL,∀l∈SG x,iV [.tup (fc x),l]=some (.bl true):=by
 have h:(XL.all λx=>(SG x).all λl=>JT<|iV [.tup (fc x),l])=true:=by decide +kernel
 exact λx hx l hl=>ik<|Qwk.mp (Qwk.mp h x hx) l hl
structure agQ(x:List Nat)(R:D):Prop where
 ok:gG x R
 isr:∀T,cX [T]=some (.tup (fc x))->dF [T,R]=some (.bl true)
theorem is_rule(hx:x∈XL)(hT:cX [T]=some (.tup (fc x)))(h:dW x w ch l r)(hc:bQ [.tup (fc x),ch]=some (.bl true)):dF [T,.tup [w,ch,l,r]]=some (.bl true):=by
 have h1:=yU x hx l h.left;have h2:=yU x hx r h.right;have h3:xK w (.tup [(.str [111,110,99,101]),(.str [97,108,111,110,103])])=some (.bl true):=by rcases h.way with rfl|rfl<;>rfl
 have ht:f9 "tuple" (.tup [w,ch,l,r])=some (.bl true):=rfl;unfold dF uN;generalize fc x=X at *;clear h
 ac_rfl
theorem order(n)(x)(hx:x∈XL)(m:Nat)(hm:m<=4):∃s Rs n',xO [.lst [.int n],.str x,.int m]=some (.tup [s,.tup Rs],.lst [.int n'])/\s∈sides/\(∀R∈Rs,agQ x R)/\Rs.length<=m:=by
 obtain⟨d,hd,e⟩:=dig n 2 (by decide);obtain⟨s,hs,h1⟩:∃s,s∈sides/\cZ (.lst [.str [108,101,102,116],.str [114,105,103,104,116]]) (.int (d:Int))=some s:=by
  have hc:d=0\/d=1:=by omega
  rcases hc with rfl|rfl
  ·exact⟨_,Qqw ..,rfl⟩
  ·exact⟨_,Qqk _ (Qqw ..),rfl⟩
 obtain⟨j,hj,ej⟩:=dig (n / 2) (m+1) (by omega);obtain⟨Rs,env',g1,⟨n',v4,rfl⟩,g3,g4⟩:=K20.Zm (g:=aq 4) (e:=iW pD 0 (Zv 1 ao)) (λenv=>∃n v4,env=[Zl [.int n],Zs x,(Zf (.int (m:Int))),Zf s,v4]) (agQ x) (iu 0 1 j)
  [Zl [.int (n / 2 / ((m+1:Nat):Int))],Zs x,(Zf (.int (m:Int))),Zf s,Zn] ⟨_,_,rfl⟩
  (λt _ env ⟨n,v4,he⟩=>by
   subst he;obtain⟨wy,ch,l,r,n',h2,h3,h4⟩:=rule n x (oK x hx);refine⟨.tup [wy,ch,l,r],_,[Zl [.int n'],Zs x,(Zf (.int (m:Int))),Zf s,Zf t],rfl,?_,⟨_,_,rfl⟩,⟨_,_,_,_,rfl,h3⟩,λT hT=>is_rule hx hT h3 h4⟩;exact jG (e1:=[Zl [.int n],Zs x,(Zf (.int (m:Int))),Zf s,Zf t]) (by rfl) (by rfl) (by rfl) h2)
 have hl:Rs.length=j:=by rw[mH] at g4;exact g4
 refine⟨s,Rs,n',nR (env:=[Zl [.int n'],Zs x,(Zf (.int (m:Int))),Zf s]) ?_ rfl,hs,g3,by omega⟩;unfold Je;refine(aW (e:=[Zl [.int (n / 2)],Zs x,(Zf (.int (m:Int))),Zf s]) ?_).trans ?_
 ·refine dI (d:=s) (e:=[Zl [.int (n / 2)],Zs x,(Zf (.int (m:Int))),Zn]) ?_ (by rfl);refine cW (by rfl) (by rfl) ?_
  grind
 refine cU (uM (bw (d:=s) (by rfl) (bw ?_ dq)) Ev.zz2);refine bA (ds:=[.lst Rs]) (bw ?_ dq) rfl;refine vP (n:=5) (aO:=[Zl [.int (n / 2 / ((m+1:Nat):Int))],Zs x,(Zf (.int (m:Int))),Zf s]) ?_ (by rfl) g1 (by rw[hl];exact Qqy (show j<=4 by omega) (by decide));refine K20.xR (ds:=[.int (n / 2 % ((m+1:Nat):Int))]) ?_ ?_
 ·have ht:=lY (n / 2) (m+1) (by omega) (by omega);rw[<-ahz] at ht;have ha:bJ (.int (m:Int)) (.int 1)=some (.int ((m+1:Nat):Int)):=rfl;generalize((m+1:Nat):Int)=M at *;clear g1 g3 h1 ej e
  ac_rfl
 ·rw[ej];exact K20.aej (by omega)
open j7 (Rows JT ik)
noncomputable def isF:Option D->Bool
 | some (.bl false)=>true
 | _=>false
theorem Uh(h:isF o=true):o=some (.bl false):=by
 unfold isF at h;split at h
 ·rfl
 ·cases h
theorem KH(ds)(h1:1<=ds.length)(h4:ds.length<=4)(p)(h:∀d∈ds,dh [d]=some (.bl (p d)))(hb:ds.all p=true->∃S,cX [.tup ds]=some S/\pY [S]=some (.bl b)):bM [.tup ds]=some (.bl (ds.all p&&b)):=by
 have hc:iZ [Zf (.tup ds)] = .ok (.lst<|ds.map λd=>.bl<|p d) [Zf (.tup ds)]:=by
  unfold iZ;refine ou ds id _ (by rw[List.map_id];rfl) rfl rfl (λr hr=>?_) (Qqy h4 (by decide));have:=h r hr;show az dh (Zv 1 ao) [Zf (.tup ds),Zf r]=_;clear hb h
  ac_rfl
 have ha:=yH p ds;have l1:decide ((1:Int)<=(ds.length:Int))=true:=Qxk (by omega);have l2:decide ((ds.length:Int)<=4)=true:=Qxk (by omega);have ht:f9 "tuple" (.tup ds)=some (.bl true):=rfl;unfold bM sI;clear h;generalize iZ=LC at *;generalize ds.map (λd=>D.bl (p d))=MM at *;cases hq:ds.all p with
 | false=>
  rw[hq] at ha;clear hb hq
  ac_rfl
 | true=>
  obtain⟨S,h5,h6⟩:=hb hq;rw[hq] at ha;clear hb hq;cases b<;>ac_rfl
theorem KD(h4:4<ds.length):bM [.tup ds]=some (.bl false):=by
 have l1:decide ((1:Int)<=(ds.length:Int))=true:=Qxk (by omega);have l2:decide ((ds.length:Int)<=4)=false:=Qwj (by omega);have ht:f9 "tuple" (.tup ds)=some (.bl true):=rfl;unfold bM sI
 ac_rfl
theorem Qe(h:dh [d]=some (.bl false)):bM [.tup [d]]=some (.bl false):=
 KH [d] (Qq0 1) (show 1<=4 by decide) (λ_=>false) (λe he=>by cases Qq4.mp he;exact h) (b:=false) (λh=>by cases h)
theorem mW(h:f9 "tuple" d=some (.bl false)):bM [d]=some (.bl false):=by
 unfold bM sI
 ac_rfl
noncomputable def NC(c:Nat):List D:=
 [.tup [.str [c]],.tup [.tup [.str [],.tup []]],.tup [.tup [.str [65],.tup []]],.tup [.tup [.str [97,98],.tup []]],.tup [.tup [.str [35],.tup []]],.tup [.tup [.non,.tup []]],
 .tup [.tup [.str [c],.tup [.str []]]],.tup [.tup [.str [c],.tup [.str [98],.str [97]]]],.tup [.tup [.str [c],.tup [.str [97],.str [97]]]],
 .tup [.tup [.str [c],.tup [.str [97],.str [98],.str [99],.str [100],.str [101]]]],.tup [.tup [.str [c],.non]],
 .tup [.tup [.str [97],.tup []],.tup [.str [98],.tup []],.tup [.str [99],.tup []],.tup [.str [100],.tup []],.tup [.str [101],.tup []]]]
theorem aqN:∀c∈XL.flatten,∀d∈NC c,bM [d]=some (.bl false):=by
 have h:(XL.flatten.all λc=>(NC c).all λd=>isF<|bM [d])=true:=by decide +kernel
 exact λc hc d hd=>Uh<|Qwk.mp (Qwk.mp h c hc) d hd
theorem apZ:∀c∈XL.flatten,vM [.str [c]]=some (.bl true):=by
 have h:(XL.flatten.all λc=>JT<|vM [.str [c]])=true:=by decide +kernel
 exact λc hc=>ik<|Qwk.mp h c hc
theorem acg(hc:c∈XL.flatten)(zs):bM [.tup [.tup [.str [c],.lst zs]]]=some (.bl false):=by
 refine Qe ?_;have h1:=apZ c hc;have h2:du [.tup [.str [c],.lst zs]]=some (.bl true):=rfl;have h3:xQ [.lst zs]=some (.bl false):=rfl;unfold dh tO
 ac_rfl
theorem Zj(c)(m):bM [.tup [.tup [.str [c],m,.int 1]]]=some (.bl false):=Qe rfl
theorem ahE(hx:x∈XL)(h:qU (fc x) rs):bM [.tup (rs++[.tup [.str [122]]])]=some (.bl false):=by
 by_cases h4:4<(rs++[D.tup [.str [122]]]).length
 ·exact KD h4
 ·refine(KH (rs++[D.tup [.str [122]]]) (by simp) (by omega) (λd=>match d with|.tup [_,_]=>true|_=>false) (λd hd=>?_) (b:=false)<|λh=>?_).trans ?_
  ·rcases Qq6.mp hd with hd|hd
   ·obtain⟨s,h5,m,h6,rfl⟩:=Ef h d hd;unfold fc at h5;obtain⟨c,hc,rfl⟩:=Qwv.mp h5;exact Ld c (List.mem_flatten.mpr ⟨x,hx,hc⟩) m h6
   ·cases Qq4.mp hd
    rfl
  ·rw[List.all_append] at h;simp at h
  ·rw[List.all_append];simp
theorem Vy(hx:x∈XL)(h:qU (fc x) rs):bM [.tup (rs++rs)]=some (.bl false):=by
 have hl:rs.length=x.length:=by rw[h.rows.len];simp[fc]
 have h0:=j7.vY x (oK x hx);by_cases h4:4<(rs++rs).length
 ·exact KD h4
 ·refine(KH (rs++rs) (by rw[Qqj];omega) (by omega) (λ_=>true) (λd hd=>?_) (b:=false) (λ_=>?_)).trans ?_
  ·obtain⟨s,h5,m,h6,rfl⟩:=Ef h d (by rcases Qq6.mp hd with h|h<;>exact h);unfold fc at h5;obtain⟨c,hc,rfl⟩:=Qwv.mp h5;exact Ld c (List.mem_flatten.mpr ⟨x,hx,hc⟩) m h6
  ·simp only[XL,Qq2,Qxw,or_false] at hx;rcases hx with rfl|rfl|rfl|rfl|rfl|rfl|rfl
   ·obtain _|⟨_,_|_⟩:=h
    exact⟨_,rfl,rfl⟩
   ·obtain _|⟨_,_|⟨_,_|_⟩⟩:=h
    exact⟨_,rfl,rfl⟩
   ·exact absurd hl (by simp at h4 ⊢;omega)
   ·exact absurd hl (by simp at h4 ⊢;omega)
   ·exact absurd hl (by simp at h4 ⊢;omega)
   ·obtain _|⟨_,_|⟨_,_|_⟩⟩:=h
    exact⟨_,rfl,rfl⟩
   ·obtain _|⟨_,_|⟨_,_|_⟩⟩:=h
    exact⟨_,rfl,rfl⟩
  ·simp
noncomputable def NS(rs:List D)(c:Nat)(zs:List D):List D:=
 [.non,.int 7,.tup [],.str [97],.lst [],.dct [],.lst rs,.tup (rs++rs),.tup (rs++[.tup [.str [122]]]),.tup [.str [c]],.tup [.tup [.str [c],.lst zs]]]
 ++ [.tup [.tup [.str [],.tup []]],.tup [.tup [.str [65],.tup []]],.tup [.tup [.str [97,98],.tup []]],.tup [.tup [.str [35],.tup []]],.tup [.tup [.non,.tup []]],.tup [.tup [.str [c],.tup [.str []]]]]
 ++ [.tup [.tup [.str [c],.tup [.str [98],.str [97]]]],.tup [.tup [.str [c],.tup [.str [97],.str [97]]]],.tup [.tup [.str [c],.tup [.str [97],.str [98],.str [99],.str [100],.str [101]]]]]
 ++ [.tup [.tup [.str [c],.non]],.tup [.tup [.str [c],.tup zs,.int 1]],.tup [.tup [.str [97],.tup []],.tup [.str [98],.tup []],.tup [.str [99],.tup []],.tup [.str [100],.tup []],.tup [.str [101],.tup []]]]
theorem apr(hx:x∈XL)(h:qU (fc x) rs)(hc:c∈x)(zs):∀d∈NS rs c zs,bM [d]=some (.bl false):=by
 have hc:c∈XL.flatten:=List.mem_flatten.mpr ⟨x,hx,hc⟩;have ho:=aqN c hc;unfold NC at ho;simp only[List.forall_mem_cons] at ho;obtain⟨o1,o2,o3,o4,o5,o6,o7,o8,o9,o10,o11,o12,_⟩:=ho;unfold NS;simp only[List.forall_mem_append,List.forall_mem_cons];have nil:∀d∈([]:List D),bM [d]=some (.bl false):=λd hd=>by cases hd
 exact⟨⟨⟨⟨mW rfl,mW rfl,rfl,mW rfl,mW rfl,mW rfl,mW rfl,Vy hx h,ahE hx h,o1,acg hc zs,nil⟩,o2,o3,o4,o5,o6,o7,nil⟩,o8,o9,o10,nil⟩,o11,Zj c _,o12,nil⟩
theorem ace(he:rs = .tup [.str [c],.tup zs]::r)(hl:rs.length<=4)(hz:zs.length<=1000):iD [.tup rs]=some (.lst (NS rs c zs)):=by
 have i0:cZ (.tup rs) (.int 0)=some (.tup [.str [c],.tup zs]):=by rw[he];ac_rfl
 have a1:bJ (.tup rs) (.tup rs)=some (.tup<|rs++rs):=mq (by unfold sizeLine;omega);have a2:bJ (.tup rs) (.tup [.tup [.str [122]]])=some (.tup (rs++[.tup [.str [122]]])):=mq (by show _+1<=_;unfold sizeLine;omega);have a3:jN [.tup rs]=some (.lst rs):=rfl;have a4:jN [.tup zs]=some (.lst zs):=rfl;unfold iD wB NS;generalize rs++rs=RR at *;generalize rs++[.tup [.str [122]]]=RZ at *;generalize D.tup zs=Z at *;generalize D.lst zs=ZL at *;generalize D.lst rs=RL at *;generalize D.tup rs=T at *;clear he hl hz
 ac_rfl
open j7 (Rows JT ik SG)
theorem zy(h:f9 "tuple" d=some (.bl false)):dF [T,d]=some (.bl false):=by
 unfold dF uN
 ac_rfl
theorem Lb(h:ds.length≠4):dF [T,.tup ds]=some (.bl false):=by
 have h1:f9 "tuple" (.tup ds)=some (.bl true):=rfl;have h2:((ds.length:Int) == 4)=false:=by rw[Qw6];omega
 unfold dF uN
 ac_rfl
section
variable{x:List Nat}{T:D}(hT:cX [T]=some (.tup (fc x)))
include hT
theorem J9(h1:xK w (.tup [(.str [111,110,99,101]),(.str [97,108,111,110,103])])=some (.bl b1))(h2:b1=true->bQ [.tup (fc x),ch]=some (.bl b2))(h3:b1=true->b2=true->iV [.tup (fc x),l]=some (.bl b3))(h4:b1=true->b2=true->b3=true->iV [.tup (fc x),r]=some (.bl b4)):dF [T,.tup [w,ch,l,r]]=some (.bl (b1&&(b2&&(b3&&b4)))):=by
 have ht:f9 "tuple" (.tup [w,ch,l,r])=some (.bl true):=rfl;unfold dF uN;generalize fc x=X at *;cases b1
 ·clear h2 h3 h4
  ac_rfl
 ·have h2:=h2 rfl;cases b2
  ·clear h3 h4
   ac_rfl
  ·have h3:=h3 rfl rfl;cases b3
   ·clear h4
    ac_rfl
   ·have h4:=h4 rfl rfl rfl;cases b4<;>ac_rfl
end
noncomputable def C1(c:Nat):List D:=[.tup [],.non]
noncomputable def C2(c:Nat):List D:=[.tup [.tup [.str [c],.str [c]]],.tup [.tup [.str [],.str []]],.tup [.tup [.str [35],.str []]],.tup [.tup [.str [c]]],.tup [.tup [.int 1,.str []]]]
noncomputable def C3(c:Nat):List D:=[.tup [.tup [.str [],.str [c]],.tup [.str [c],.str []]],.tup [.tup [.str [c],.str []],.tup [.str [c],.str []]],.tup [.tup [.str [c],.str [35]]]]
noncomputable def S1(c:Nat):List D:=[.tup [],.str [97],.lst [.str [c]],.tup [.str [c],.str [c]],.tup [.str [c],.str [35]],.tup [.str [35,35]],.tup [.str []],.tup [.non],.tup [.int 1],.bl true]
theorem amS:∀x∈XL,∀c∈x,∀d∈C1 c++C2 c++C3 c,bQ [.tup (fc x),d]=some (.bl false):=by
 have h:(XL.all λx=>x.all λc=>(C1 c++C2 c++C3 c).all λd=>isF<|bQ [.tup (fc x),d])=true:=by decide +kernel
 exact λx hx c hc d hd=>Uh<|Qwk.mp (Qwk.mp (Qwk.mp h x hx) c hc) d hd
theorem amR:∀x∈XL,∀c∈x,∀d∈S1 c,iV [.tup (fc x),d]=some (.bl false):=by
 have h:(XL.all λx=>x.all λc=>(S1 c).all λd=>isF<|iV [.tup (fc x),d])=true:=by decide +kernel
 exact λx hx c hc d hd=>Uh<|Qwk.mp (Qwk.mp (Qwk.mp h x hx) c hc) d hd
theorem aky:∀{z},up z=true->z.Pairwise (·< ·)
 | [],_=>.nil
 | [a],_=>List.pairwise_singleton _ a
 | a::b::r,h=>by
  unfold up at h;rw[Qzw] at h;have ih:=aky h.2;refine Qx1.mpr ⟨λc hc=>?_,ih⟩;have h1:=Qw8 h.1;rcases Qq2.mp hc with rfl|hc
  ·exact h1
  ·exact Nat.lt_trans h1<|(Qx1.mp ih).1 c hc
theorem adK(h:a∈z):up (z++(z++r))=false:=by
 cases hu:up (z++(z++r)) with
 | false=>rfl
 | true=>exact absurd ((List.pairwise_append.mp<|aky hu).2.2 a h a<|Qq6.mpr<|.inl h)<|Qx3 a
theorem ajT{ps:List pO.Pr}(h0:2<=ps.length)(h4:ps.length<=100)(hp:∀p∈ps,p.1∈x/\p.2.length<=1/\(∀c∈p.2,c∈x))(hu:up (ps.map (·.1))=false):bQ [.tup (fc x),.tup (ps.map encC)]=some (.bl false):=by
 have cs:∀p∈ps,dY [.tup (fc x),encC p]=some (.bl<|!([p.1] == p.2)):=λp h=>by
  obtain⟨a1,a2,a3⟩:=hp p h;have e1:du [encC p]=some (.bl true):=rfl;have e2:xK (.str [p.1]) (.tup<|fc x)=some (.bl true):=Np<|List.contains_iff_mem.mpr a1;have e5:Up (.str [p.1]) (.str p.2)=some (.bl<|!([p.1] == p.2)):=af4 _ _;generalize(!([p.1] == p.2))=v at *
  match e:p.2,a2 with
  | [],_=>
   have e3:=ak8 x;rw[e] at e5;have e6:encC p = .tup [.str [p.1],.str []]:=by unfold encC;rw[e]
   rw[e6] at e1 ⊢;unfold dY jQ;clear hp a1 a2 a3 e6 e hu;generalize fc x=X at *;cases v<;>ac_rfl
  | [c],_=>
   have e3:=Np<|List.contains_iff_mem.mpr (a3 c (by rw[e];simp));rw[e] at e5;have e6:encC p = .tup [.str [p.1],.str [c]]:=by unfold encC;rw[e]
   rw[e6] at e1 ⊢;unfold dY jQ;clear hp a1 a2 a3 e6 e hu;generalize fc x=X at *;cases v<;>ac_rfl
  | a::b::r,h=>simp at h
 have c1:gk [(Zf (.tup (fc x))),(Zf (.tup (ps.map encC)))] = .ok (.lst (ps.map λp=>.bl (!([p.1] == p.2)))) [(Zf (.tup (fc x))),(Zf (.tup (ps.map encC)))]:=by
  unfold gk;refine ou ps encC _ rfl rfl rfl (λp h=>?_) (Qqy h4 (by decide));have:=cs p h;show az dY (Zv 0 (Zv 2 ao)) [(Zf (.tup (fc x))),(Zf (.tup (ps.map encC))),Zf (encC p)]=_;generalize(!([p.1] == p.2))=v at *;generalize encC p=P at *;generalize ps.map encC=PS at *;generalize fc x=X at *;clear cs hp hu h
  ac_rfl
 have c2:gj [(Zf (.tup (fc x))),(Zf (.tup (ps.map encC)))] = .ok (.lst (fc (ps.map (·.1)))) [(Zf (.tup (fc x))),(Zf (.tup (ps.map encC)))]:=by
  unfold gj;have h4:=G4 (lo:=2) (n:=4) (it:=gW (aJ 1)) (g:=cO 2 (aN (aq 2) (aN (aq 3) cQ))) (c:=cP) (e:=aJ 2) (env:=[(Zf (.tup (fc x))),(Zf (.tup (ps.map encC)))]) ps encC (λp=>[Zs [p.1],Zs p.2]) (λ_=>true) (λp=>.str [p.1]) rfl rfl (λp hp=>by
   refine⟨rfl,λvs hv=>?_,rfl,λ_=>rfl⟩
   match vs,hv with
   | [_,_],_=>rfl) (Qqy h4 (by decide))
  rw[List.filter_eq_self.mpr (λ_ _=>rfl)] at h4;rw[h4];unfold fc;rw[Qzk]
  rfl
 have ha:=yH (λp:pO.Pr=>!([p.1] == p.2)) ps;have hr:=rises (.inr rfl) (z:=ps.map (·.1)) (by rw[Qqz];omega);rw[hu] at hr;have hl:dM [.tup (ps.map encC)]=some (.int (ps.length:Nat)):=by rw[mO,Qqz]
 have hn:jb (.int (ps.length:Nat)) (.int 0)=some (.bl false):=by rw[Nq,Qw6.mpr (by omega)]
 have hn1:jb (.int (ps.length:Nat)) (.int 1)=some (.bl false):=by rw[Nq,Qw6.mpr (by omega)]
 have ht:f9 "tuple" (.tup (ps.map encC))=some (.bl true):=rfl;unfold bQ p7;generalize(ps.all λp:pO.Pr=>!([p.1] == p.2))=v at *;generalize ps.map encC=PS at *;generalize fc (ps.map (·.1))=SS at *;generalize ps.map (λp=>D.bl (!([p.1] == p.2)))=MM at *;generalize gk=L1 at *;generalize gj=L2 at *;generalize fc x=X at *;generalize(ps.length:Int)=N at *;clear cs hp hu h0 h4;cases v<;>ac_rfl
noncomputable def five(ds:List D):List D:=ds++(ds++(ds++(ds++(ds++[]))))
theorem aiK:∀x∈XL,∀c∈x,bQ [.tup (fc x),.tup (five [.tup [.str [],.str [c]]])]=some (.bl false):=by
 have h:(XL.all λx=>x.all λc=>isF<|bQ [.tup (fc x),.tup<|five [.tup [.str [],.str [c]]]])=true:=by decide +kernel
 exact λx hx c hc=>Uh<|Qwk.mp (Qwk.mp h x hx) c hc
theorem aoY(h:oN x ch):∃ds,ch = .tup ds/\0<ds.length/\ds.length<=4:=by
 cases h with
 | put _=>exact⟨_,rfl,show 0<1 by decide,show 1<=4 by decide⟩
 | chg h1 h2 _=>exact⟨_,rfl,by rw[Qqz];exact h1,by rw[Qqz];exact h2⟩
theorem aga(hx:x∈XL)(h:oN x (.tup ds)):bQ [.tup (fc x),.tup (five ds)]=some (.bl false):=by
 generalize hd:D.tup ds=d at h;cases h with
 | put hc=>cases hd;exact aiK x hx _ hc
 | @chg ps h1 h2 h3=>
  cases hd;have e:five (ps.map encC)=(ps++(ps++(ps++(ps++(ps++[]))))).map encC:=by unfold five;simp only[Qxz,Qj3]
  rw[e];refine ajT (by simp only[Qqj];omega) (by simp only[Qqj,Qw3];omega) (λp hp=>h3 p ?_) ?_
  ·simp only[Qq6,Qxw,or_false,or_self] at hp;exact hp
  ·match ps,h1 with
   | p::r,_=>
    rw[Qxz,Qxz];exact adK (a:=p.1) (by simp)
theorem Wn(h0:0<ds.length)(h4:ds.length<=4):vJ (.tup ds) (.int 5)=some (.tup (five ds)):=by
 unfold vJ;have h1:Nj (.tup ds) (.int 5)=none:=by
  match ds,h0 with
  | a::r,_=>rfl
 rw[h1];show Rm (.tup ds) (.int 5)=_;unfold Rm;simp only[];rw[if_pos ⟨by decide,by decide,h0,Qqy (show ds.length*5<=20 by omega) (by decide)⟩];show some (D.tup [ds,ds,ds,ds,ds].flatten)=_;unfold five;simp[List.flatten_cons,List.flatten_nil]
end Ai
set_option maxHeartbeats 8000000
namespace Ai
open Ev PySem L2
open j7 (Rows JT ik SG)
open pO (XS sides encC oN dW)
section
variable(a0 a1 a7 a8:OD)(w ch l r:D)
theorem akT:∀T acc (v:OD),acc.length+T.length<=1000->∃v',mQ (aq 9) gK T [a0,a1,Zf w,Zf ch,Zf l,Zf r,Zl (acc),a7,a8,v] = .nx [a0,a1,Zf w,Zf ch,Zf l,Zf r,Zl (acc++T.map λo=>.tup [w,o,l,r]),a7,a8,v']
 | [],acc,v,_=>⟨v,by rw[Qj3,Qw1];rfl⟩
 | t::T,acc,v,h=>by
  rw[Qqv] at h;obtain⟨v',ih⟩:=akT T (acc++[.tup [w,t,l,r]]) (Zf t) (by rw[Qqj];show acc.length+1+T.length<=1000;omega);refine⟨v',?_⟩;rw[Qx6] at ih;rw[Qq7];have h1:gK [a0,a1,Zf w,Zf ch,Zf l,Zf r,Zl<|acc,a7,a8,Zf t] = .nx [a0,a1,Zf w,Zf ch,Zf l,Zf r,Zl<|acc++[.tup [w,t,l,r]],a7,a8,Zf t]:=by
   unfold gK;clear ih
   ac_rfl
  rw[Nv];show wj (gK [a0,a1,Zf w,Zf ch,Zf l,Zf r,Zl<|acc,a7,a8,Zf t]) _=_;rw[h1,kNx,ih]
  rfl
theorem akS:∀T acc (v:OD),acc.length+2*T.length<=1000->∃v',mQ (aq 9) gJ T [a0,a1,Zf w,Zf ch,Zf l,Zf r,Zl (acc),a7,a8,v] = .nx [a0,a1,Zf w,Zf ch,Zf l,Zf r,Zl (acc++T.flatMap λo=>[.tup [w,ch,o,r],.tup [w,ch,l,o]]),a7,a8,v']
 | [],acc,v,_=>⟨v,by rw[List.flatMap_nil,Qw1];rfl⟩
 | t::T,acc,v,h=>by
  rw[Qqv] at h;obtain⟨v',ih⟩:=akS T (acc++[.tup [w,ch,t,r],.tup [w,ch,l,t]]) (Zf t) (by rw[Qqj];show acc.length+2+2*T.length<=1000;omega);refine⟨v',?_⟩;rw[Qx6] at ih;rw[List.flatMap_cons];have h1:gJ [a0,a1,Zf w,Zf ch,Zf l,Zf r,Zl<|acc,a7,a8,Zf t] = .nx [a0,a1,Zf w,Zf ch,Zf l,Zf r,Zl<|acc++[.tup [w,ch,t,r],.tup [w,ch,l,t]],a7,a8,Zf t]:=by
   unfold gJ;clear ih
   ac_rfl
  rw[Nv];show wj (gJ [a0,a1,Zf w,Zf ch,Zf l,Zf r,Zl<|acc,a7,a8,Zf t]) _=_;rw[h1,kNx,ih]
end
noncomputable def R0(w ch l r:D):List D:=[.non,.tup [],.lst [w,ch,l,r],.tup [w,ch,l,r,.int 1],.tup [w,ch,l],.tup [.str [116,119,105,99,101],ch,l,r],.tup [.non,ch,l,r],.str [111,110,99,101]]
def CH(c:Nat)(ds:List D):List D:=C1 c++(.lst ds::C2 c)++(C3 c++[.tup (five ds)])
def NR(w ch l r:D)(c:Nat)(ds:List D):List D:=R0 w ch l r++((CH c ds).map λo=>.tup [w,o,l,r])++(S1 c).flatMap λo=>[.tup [w,ch,o,r],.tup [w,ch,l,o]]
theorem afc(w l r)(c)(x)(h0:0<ds.length)(h4:ds.length<=4):dU [.tup [w,.tup ds,l,r],.str (c::x)]=some (.lst (NR w (.tup ds) l r c ds)):=by
 obtain⟨v1,f1⟩:=akT (Zf<|.tup [w,.tup ds,l,r]) (Zs (c::x)) (Zs [c]) (Zf<|.lst<|CH c ds) w (.tup ds) l r (CH c ds) (R0 w (.tup ds) l r) none (by show 8+12<=1000;omega);obtain⟨v2,f2⟩:=akS (Zf (.tup [w,.tup ds,l,r])) (Zs (c::x)) (Zs [c]) (Zf (.lst (CH c ds))) w (.tup ds) l r (S1 c) (R0 w (.tup ds) l r++(CH c ds).map λo=>.tup [w,o,l,r]) v1 (by show 8+12+2*10<=1000;omega);have s0:sU (.tup [w,.tup ds,l,r]) none (some 3)=some (.tup [w,.tup ds,l]):=rfl;have s1:sU (.tup [w,.tup ds,l,r]) (some 1) none=some (.tup [.tup ds,l,r]):=rfl;have m5:=Wn h0 h4;have gl:jN [.tup ds]=some (.lst ds):=rfl;have gx:cZ (.str (c::x)) (.int 0)=some (.str [c]):=by rw[ak6,j7.CZ];rfl
 show dU [.tup [w,.tup ds,l,r],.str (c::x)]=some (.lst (R0 w (.tup ds) l r++((CH c ds).map λo=>.tup [w,o,l,r])++(S1 c).flatMap λo=>[.tup [w,.tup ds,o,r],.tup [w,.tup ds,l,o]]));generalize hA:R0 w (.tup ds) l r++((CH c ds).map λo=>.tup [w,o,l,r])++((S1 c).flatMap λo=>[.tup [w,.tup ds,o,r],.tup [w,.tup ds,l,o]])=A2 at f2 ⊢;generalize hB:R0 w (.tup ds) l r++((CH c ds).map λo=>.tup [w,o,l,r])=A1 at f1 f2;clear hA hB h0 h4;have hc1:C1 c++(.lst ds::C2 c)=[.tup [],.non,.lst ds,.tup [.tup [.str [c],.str [c]]],.tup [.tup [.str [],.str []]],.tup [.tup [.str [35],.str []]],.tup [.tup [.str [c]]],.tup [.tup [.int 1,.str []]]]:=rfl;have hc3:C3 c++[.tup (five ds)]=[.tup [.tup [.str [],.str [c]],.tup [.str [c],.str []]],.tup [.tup [.str [c],.str []],.tup [.str [c],.str []]],.tup [.tup [.str [c],.str [35]]],.tup (five ds)]:=rfl;have ga:bJ (.lst [.tup [],.non,.lst ds,.tup [.tup [.str [c],.str [c]]],.tup [.tup [.str [],.str []]],.tup [.tup [.str [35],.str []]],.tup [.tup [.str [c]]],.tup [.tup [.int 1,.str []]]]) (.lst [.tup [.tup [.str [],.str [c]],.tup [.str [c],.str []]],.tup [.tup [.str [c],.str []],.tup [.str [c],.str []]],.tup [.tup [.str [c],.str [35]]],.tup (five ds)])=some (.lst (CH c ds)):=rfl;clear hc1 hc3;generalize five ds=FV at *;generalize D.tup ds=DT at *;generalize D.lst ds=DL at *;generalize CH c ds=CC at *;unfold R0 at f1;unfold S1 at f2;unfold dU yf;generalize gK=B1 at *;generalize gJ=B2 at *
 ac_rfl
theorem agW(hx:x∈XL)(hc:c∈x)(hT:cX [T]=some (.tup (fc x)))(h:dW x w (.tup ds) l r)(hg:bQ [.tup (fc x),.tup ds]=some (.bl true)):∀d∈NR w (.tup ds) l r c ds,dF [T,d]=some (.bl false):=by
 have hw:xK w (.tup [(.str [111,110,99,101]),(.str [97,108,111,110,103])])=some (.bl true):=by rcases h.way with rfl|rfl<;>rfl
 have chg:∀o,bQ [.tup (fc x),o]=some (.bl false)->dF [T,.tup [w,o,l,r]]=some (.bl false):=λo ho=>J9 hT (b3:=true) (b4:=true) hw (λ_=>ho) (λ_ h=>by cases h) (λ_ h=>by cases h);have way:∀o,xK o (.tup [(.str [111,110,99,101]),(.str [97,108,111,110,103])])=some (.bl false)->dF [T,.tup [o,.tup ds,l,r]]=some (.bl false):=λo ho=>J9 hT (b2:=true) (b3:=true) (b4:=true) ho (λh=>by cases h) (λh=>by cases h) (λh=>by cases h);intro d hd;unfold NR at hd;rcases Qq6.mp hd with hd|hd
 ·rcases Qq6.mp hd with hd|hd
  ·simp only[R0,Qq2,Qxw,or_false] at hd;rcases hd with rfl|rfl|rfl|rfl|rfl|rfl|rfl|rfl
   ·exact zy rfl
   ·exact Lb<|show 0≠4 by decide
   ·exact zy rfl
   ·exact Lb<|show 5≠4 by decide
   ·exact Lb<|show 3≠4 by decide
   ·exact way _ rfl
   ·exact way _ rfl
   ·exact zy rfl
  ·obtain⟨o,ho,rfl⟩:=Qwv.mp hd;refine chg o ?_;unfold CH at ho;have hodd:=amS x hx c hc;rcases Qq6.mp ho with ho|ho
   ·rcases Qq6.mp ho with ho|ho
    ·exact hodd o<|Qq6.mpr<|.inl<|Qq6.mpr<|.inl ho
    ·rcases Qq2.mp ho with rfl|ho
     ·rfl
     ·exact hodd o<|Qq6.mpr<|.inl<|Qq6.mpr<|.inr ho
   ·rcases Qq6.mp ho with ho|ho
    ·exact hodd o<|Qq6.mpr<|.inr ho
    ·cases Qq4.mp ho;exact aga hx h.chg
 ·obtain⟨o,ho,hd⟩:=List.mem_flatMap.mp hd;have hs:=amR x hx c hc o ho;have hl:=yU x hx l h.left;rcases Qq2.mp hd with rfl|hd
  ·exact J9 hT (b4:=true) hw (λ_=>hg) (λ_ _=>hs)<|λ_ _ h=>by cases h
  ·cases Qq4.mp hd;exact J9 hT hw (λ_=>hg) (λ_ _=>hl)<|λ_ _ _=>hs
theorem Wa(hs:s∈sides)(h4:Rs.length<=4)(p)(hR:∀R∈Rs,dF [T,R]=some (.bl (p R))):eQ [T,.tup [s,.tup Rs]]=some (.bl (Rs.all p)):=by
 have c:pX [Zf T,Zf<|.tup [s,.tup Rs],Zf s,Zf<|.tup Rs] = .ok (.lst<|Rs.map λR=>.bl<|p R) [Zf T,Zf<|.tup [s,.tup Rs],Zf s,Zf<|.tup Rs]:=by
  unfold pX;refine ou Rs id _ (by rw[List.map_id];rfl) rfl rfl (λR h=>?_) (Qqy h4 (by decide));have:=hR R h;show az dF (Zv 0<|Zv 4 ao) [Zf T,Zf<|.tup [s,.tup Rs],Zf s,Zf<|.tup Rs,Zf R]=_;clear hR hs
  ac_rfl
 have ha:=yH p Rs;have e1:Ac s (.tup [(.str [108,101,102,116]),(.str [114,105,103,104,116])])=some (.bl false):=by
  rcases Qq2.mp hs with rfl|hs
  ·rfl
  ·cases Qq4.mp hs
   rfl
 have e2:f9 "tuple" (.tup Rs)=some (.bl true):=rfl;have e3:decide ((4:Int)<(Rs.length:Int))=false:=Qwj (by omega);have e4:du [.tup [s,.tup Rs]]=some (.bl true):=rfl;unfold eQ pK;generalize Rs.all p=v at *;generalize Rs.map (λR=>D.bl (p R))=MM at *;generalize pX=LC at *;clear hR hs
 ac_rfl
theorem rP(h:du [d]=some (.bl false)):eQ [T,d]=some (.bl false):=by
 unfold eQ pK
 ac_rfl
theorem Lq(h:Ac s (.tup [(.str [108,101,102,116]),(.str [114,105,103,104,116])])=some (.bl true)):eQ [T,.tup [s,b]]=some (.bl false):=by
 have e4:du [.tup [s,b]]=some (.bl true):=rfl;unfold eQ pK
 ac_rfl
theorem abY(hs:s∈sides)(zs):eQ [T,.tup [s,.lst zs]]=some (.bl false):=by
 have e4:du [.tup [s,.lst zs]]=some (.bl true):=rfl;have e2:f9 "tuple" (.lst zs)=some (.bl false):=rfl;have e1:Ac s (.tup [(.str [108,101,102,116]),(.str [114,105,103,104,116])])=some (.bl false):=by
  rcases Qq2.mp hs with rfl|hs
  ·rfl
  ·cases Qq4.mp hs
   rfl
 unfold eQ pK;clear hs
 ac_rfl
theorem Y7(hs:s∈sides)(h:4<Rs.length):eQ [T,.tup [s,.tup Rs]]=some (.bl false):=by
 have e4:du [.tup [s,.tup Rs]]=some (.bl true):=rfl;have e2:f9 "tuple" (.tup Rs)=some (.bl true):=rfl;have e3:decide (4<(Rs.length:Int))=true:=Qxk (by omega);have e1:Ac s (.tup [(.str [108,101,102,116]),(.str [114,105,103,104,116])])=some (.bl false):=by
  rcases Qq2.mp hs with rfl|hs
  ·rfl
  ·cases Qq4.mp hs
   rfl
 unfold eQ pK;clear hs h
 ac_rfl
def OS(s:D)(Rs:List D)(w l r:D)(c:Nat)(ds:List D):List D:=
 [.non,.tup [],.lst [s,.tup Rs],.tup [s],.tup [s,.lst Rs],.tup [.str [117,112],.tup Rs]]++((NR w (.tup ds) l r c ds).map λo=>.tup [s,.tup [o]])++[.tup [.non,.tup Rs],.tup [s,.tup Rs,.int 1],.tup [s,.tup (five [.tup [w,.tup ds,l,r]])]]
theorem apq(hx:x∈XL)(hc:c∈x)(hT:cX [T]=some (.tup (fc x)))(hs:s∈sides)(h:dW x w (.tup ds) l r)(hg:bQ [.tup (fc x),.tup ds]=some (.bl true)):∀d∈OS s Rs w l r c ds,eQ [T,d]=some (.bl false):=by
 intro d hd;unfold OS at hd;rcases Qq6.mp hd with hd|hd
 ·rcases Qq6.mp hd with hd|hd
  ·simp[Qq2,Qxw,or_false] at hd;rcases hd with rfl|rfl|rfl|rfl|rfl|rfl
   ·exact rP rfl
   ·exact rP rfl
   ·exact rP rfl
   ·exact rP rfl
   ·exact abY hs Rs
   ·exact Lq rfl
  ·obtain⟨o,ho,rfl⟩:=Qwv.mp hd;exact Wa (Rs:=[o]) hs (show 1<=4 by decide) (λ_=>false) λR hR=>by
    cases Qq4.mp hR;exact agW hx hc hT h hg _ ho
 ·simp[Qq2,Qxw,or_false] at hd;rcases hd with rfl|rfl|rfl
  ·exact Lq rfl
  ·exact rP rfl
  ·exact Y7 hs<|show 4<5 by decide
section
variable{x:List Nat}{T:D}(hT:cX [T]=some (.tup (fc x)))
include hT
theorem is_word(hw:∀c∈w,c∈x)(hl:w.length<=1000):gq [T,.str w]=some (.bl true):=by
 have c:jE [Zf T,Zs w,(Zf<|.tup<|fc x)] = .ok (.lst<|w.map λ_=>.bl true) [Zf T,Zs w,(Zf<|.tup<|fc x)]:=by
  unfold jE;refine ou w (λc=>.str [c]) _ rfl rfl rfl (λc hc=>?_) (Qqy hl (by decide));have:=Np<|List.contains_iff_mem.mpr<|hw c hc;show aA xK 3 (bI 2) [Zf T,Zs w,(Zf<|.tup<|fc x),Zs [c]]=_;generalize fc x=X at *;clear hw
  ac_rfl
 have ha:=yH (λ_:Nat=>true) w;rw[show w.all (λ_=>true)=true by simp] at ha;have ht':f9 "str" (.str w)=some (.bl true):=rfl;unfold gq Hd;generalize fc x=X at *;generalize w.map (λ_=>D.bl true)=MM at *;generalize jE=LC at *;clear hw
 ac_rfl
theorem Wj(hx:c ∉ x):gq [T,.str [c]]=some (.bl false):=by
 have h1:xK (.str [c]) (.tup<|fc x)=some (.bl false):=Np (by simpa using hx);have ht':f9 "str" (.str [c])=some (.bl true):=rfl;have ha:wM [.lst [.bl false]]=some (.bl false):=rfl;have cc:jE [Zf T,Zs [c],(Zf<|.tup<|fc x)] = .ok (.lst [.bl false]) [Zf T,Zs [c],(Zf<|.tup<|fc x)]:=by
  unfold jE;refine ou [c] (λc=>.str [c]) (λ_=>.bl false) rfl rfl rfl (λd hd=>?_) (show 1<=sizeLine by decide);cases Qq4.mp hd;show aA xK 3 (bI 2) [Zf T,Zs [c],(Zf<|.tup<|fc x),Zs [c]]=_;generalize fc x=X at *
  ac_rfl
 unfold gq Hd;generalize fc x=X at *;generalize jE=LC at *
 ac_rfl
noncomputable def WS(w:D):List D:=[.non,.int 7,.str [35],.str [90],.tup [w],.lst [w],.dct []]
theorem aph(hx:x∈XL)(w):∀d∈WS w,gq [T,d]=some (.bl false):=by
 have h35:∀x∈XL,35 ∉ x/\90 ∉ x:=by decide
 intro d hd;simp[WS,Qq2,Qxw,or_false] at hd;rcases hd with rfl|rfl|rfl|rfl|rfl|rfl|rfl
 ·rfl
 ·rfl
 ·exact Wj hT (h35 x hx).1
 ·exact Wj hT (h35 x hx).2
 ·rfl
 ·rfl
 ·rfl
noncomputable def MCn(n:Nat):D:=.tup [.str [],.tup [.tup [.str [],.tup (List.replicate n (.tup [.str [],.int 0]))]]]
theorem machine(hr:T = .tup rs)(h4:rs.length<=4):gV [T,MCn rs.length]=some (.bl true):=by
 have w0:=is_word hT (w:=[]) (by simp) (by decide);have st:uL [T,.int 1,.tup [.str [],.int 0]]=some (.bl true):=by
  have h1:du [.tup [.str [],.int 0]]=some (.bl true):=rfl;have h2:fW [.int 1,.int 0]=some (.bl true):=rfl;unfold uL RG;clear hT hr
  ac_rfl
 have sa:∀n:Nat,n<=4->dM [T]=some (.int (n:Int))->su [T,.int 1,.tup [.str [],.tup (List.replicate n (.tup [.str [],.int 0]))]]=some (.bl true):=λn hn hl=>by
  have h1:du [.tup [.str [],.tup (List.replicate n (.tup [.str [],.int 0]))]]=some (.bl true):=rfl;have h2:lg [.int (n:Int),.tup (List.replicate n (.tup [.str [],.int 0]))]=some (.bl true):=by
   have h3:f9 "tuple" (.tup (List.replicate n (.tup [.str [],.int 0])))=some (.bl true):=rfl;have h5:dM [.tup (List.replicate n (D.tup [.str [],.int 0]))]=some (.int (n:Int)):=by rw[mO,Qw4]
   have h6:jb (.int (n:Int)) (.int (n:Int))=some (.bl true):=by rw[Nq,beq_self_eq_true]
   unfold lg Xn;generalize List.replicate n (D.tup [.str [],.int 0])=RR at *;generalize(n:Int)=N at *;clear hT hr st w0 hl h1
   ac_rfl
  have c:pW [Zf T,Zf (.int 1),(Zf (.tup [.str [],.tup (List.replicate n (.tup [.str [],.int 0]))])),Zs [],(Zf (.tup (List.replicate n (.tup [.str [],.int 0]))))] = .ok (.lst ((List.replicate n (D.tup [.str [],.int 0])).map λ_=>.bl true)) [Zf T,Zf (.int 1),(Zf (.tup [.str [],.tup (List.replicate n (.tup [.str [],.int 0]))])),Zs [],(Zf (.tup (List.replicate n (.tup [.str [],.int 0]))))]:=by
   unfold pW;refine ou (List.replicate n (D.tup [.str [],.int 0])) id _ (by rw[List.map_id];rfl) rfl rfl (λd hd=>?_) (by rw[Qw4];exact Qqy hn (by decide));cases List.eq_of_mem_replicate hd;show az uL (Zv 0 (Zv 1 (Zv 5 ao))) [Zf T,Zf (.int 1),(Zf (.tup [.str [],.tup (List.replicate n (.tup [.str [],.int 0]))])),Zs [],(Zf (.tup (List.replicate n (.tup [.str [],.int 0])))),Zf (.tup [.str [],.int 0])]=_;generalize List.replicate n (D.tup [.str [],.int 0])=RR at *;generalize D.tup [.str [],.int 0]=S1 at *;clear hT hr w0 hl h1 h2
   ac_rfl
  have ha:=yH (λ_:D=>true) (List.replicate n (D.tup [.str [],.int 0]));rw[show(List.replicate n (D.tup [.str [],.int 0])).all (λ_=>true)=true by simp] at ha;unfold su NT;generalize(List.replicate n (D.tup [.str [],.int 0])).map (λ_=>D.bl true)=MM at *;generalize List.replicate n (D.tup [.str [],.int 0])=RR at *;generalize pW=LC at *;clear hT hr st
  ac_rfl
 have hl:dM [T]=some (.int (rs.length:Int)):=by rw[hr,mO]
 have s0:=sa rs.length h4 hl;clear sa st;generalize hS:(D.tup [.str [],.tup (List.replicate rs.length (.tup [.str [],.int 0]))])=S at *;have c:mj [Zf T,Zf (.tup [.str [],.tup [S]]),Zs [],Zf (.tup [S])] = .ok (.lst [.bl true]) [Zf T,Zf (.tup [.str [],.tup [S]]),Zs [],Zf (.tup [S])]:=by
  unfold mj;refine ou [S] id (λ_=>.bl true) (by rw[List.map_id];rfl) rfl rfl (λd hd=>?_) (show 1<=sizeLine by decide);cases Qq4.mp hd;have hq:dM [.tup [S]]=some (.int 1):=rfl;show az su (Zv 0 (aa (az dM (aa (bI 3) ao)) (Zv 4 ao))) [Zf T,Zf (.tup [.str [],.tup [S]]),Zs [],Zf (.tup [S]),Zf S]=_;generalize D.tup [S]=SS at *;clear hT hr w0 hl hS
  ac_rfl
 have ha:wM [.lst [.bl true]]=some (.bl true):=rfl;have h1:du [.tup [.str [],.tup [S]]]=some (.bl true):=rfl;have ht:f9 "tuple" (.tup [S])=some (.bl true):=rfl;have hq:dM [.tup [S]]=some (.int 1):=rfl;have hn:jb (.int 1) (.int 0)=some (.bl false):=rfl;show gV [T,.tup [.str [],.tup [.tup [.str [],.tup (List.replicate rs.length (.tup [.str [],.int 0]))]]]]=_;rw[hS];unfold gV CV;generalize mj=LC at *;generalize D.tup [S]=SS at *;clear hT hr hl hS s0
 ac_rfl
end
theorem ad3:∀d ∈ [D.non,.str [],.str [117,112],.int 7,.lst [.str [108,101,102,116]],.bl true],xK d (.tup [(.str [108,101,102,116]),(.str [114,105,103,104,116])])=some (.bl false):=by intro d hd;simp[Qq2,Qxw,or_false] at hd;rcases hd with rfl|rfl|rfl|rfl|rfl|rfl<;>rfl
theorem ahP(hs:s∈sides):xK s (.tup [(.str [108,101,102,116]),(.str [114,105,103,104,116])])=some (.bl true):=by
 rcases Qq2.mp hs with rfl|hs
 ·rfl
 ·cases Qq4.mp hs
  rfl
noncomputable def kO:List Nat:=[111,114,100,101,114]
noncomputable def kR:List Nat:=[114,117,108,101]
noncomputable def kW:List Nat:=[119,111,114,100]
noncomputable def kM:List Nat:=[109,97,99,104,105,110,101]
noncomputable def kB:List Nat:=[98,111,111,107]
noncomputable def kS:List Nat:=[115,105,100,101]
noncomputable def kN:List Nat:=[110,117,109,98,101,114]
section
variable{T d:D}{b:Bool}
theorem aeV(h:eQ [T,d]=some (.bl b)):cj [T,.str kO,d]=some (.bl b):=by
 unfold cj pJ;have:jb (.str kO) (.str [111,114,100,101,114])=some (.bl true):=rfl;generalize D.str kO=k at *
 ac_rfl
theorem Y6(h:dF [T,d]=some (.bl b)):cj [T,.str kR,d]=some (.bl b):=by
 unfold cj pJ;have e1:jb (.str kR) (.str [111,114,100,101,114])=some (.bl false):=rfl;have e2:jb (.str kR) (.str [114,117,108,101])=some (.bl true):=rfl;generalize D.str kR=k at *
 ac_rfl
theorem Y5(h:gq [T,d]=some (.bl b)):cj [T,.str kW,d]=some (.bl b):=by
 unfold cj pJ;have e1:jb (.str kW) (.str [111,114,100,101,114])=some (.bl false):=rfl;have e2:jb (.str kW) (.str [114,117,108,101])=some (.bl false):=rfl;have e3:jb (.str kW) (.str [119,111,114,100])=some (.bl true):=rfl;generalize D.str kW=k at *
 ac_rfl
theorem amx(h:gV [T,d]=some (.bl b)):cj [T,.str kM,d]=some (.bl b):=by
 unfold cj pJ;have e1:jb (.str kM) (.str [111,114,100,101,114])=some (.bl false):=rfl;have e2:jb (.str kM) (.str [114,117,108,101])=some (.bl false):=rfl;have e3:jb (.str kM) (.str [119,111,114,100])=some (.bl false):=rfl;have e4:jb (.str kM) (.str [109,97,99,104,105,110,101])=some (.bl true):=rfl;generalize D.str kM=k at *
 ac_rfl
theorem aeW(h:yr [T,d]=some (.bl b)):cj [T,.str kB,d]=some (.bl b):=by
 unfold cj pJ;have e1:jb (.str kB) (.str [111,114,100,101,114])=some (.bl false):=rfl;have e2:jb (.str kB) (.str [114,117,108,101])=some (.bl false):=rfl;have e3:jb (.str kB) (.str [119,111,114,100])=some (.bl false):=rfl;have e4:jb (.str kB) (.str [109,97,99,104,105,110,101])=some (.bl false):=rfl;have e5:jb (.str kB) (.str [98,111,111,107])=some (.bl true):=rfl;generalize D.str kB=k at *
 ac_rfl
theorem aeU(h:xK d (.tup [(.str [108,101,102,116]),(.str [114,105,103,104,116])])=some (.bl b)):cj [T,.str kS,d]=some (.bl b):=by
 unfold cj pJ;have e1:jb (.str kS) (.str [111,114,100,101,114])=some (.bl false):=rfl;have e2:jb (.str kS) (.str [114,117,108,101])=some (.bl false):=rfl;have e3:jb (.str kS) (.str [119,111,114,100])=some (.bl false):=rfl;have e4:jb (.str kS) (.str [109,97,99,104,105,110,101])=some (.bl false):=rfl;have e5:jb (.str kS) (.str [98,111,111,107])=some (.bl false):=rfl;have e6:jb (.str kS) (.str [115,105,100,101])=some (.bl true):=rfl;generalize D.str kS=k at *
 ac_rfl
end
theorem amw(T):cj [T,.str kN,.int 9]=some (.bl true):=rfl
theorem Xl(T):yr [T,.tup []]=some (.bl false):=rfl
abbrev Q:=List Nat×D×Bool
noncomputable def qT(qs:List Q):List D:=qs.map λq=>.str q.1
noncomputable def jR(qs:List Q):List D:=qs.map λq=>q.2.1
noncomputable def ver(qs:List Q):Bool:=qs.all λq=>q.2.2
section
variable{T:D}{qs:List Q}(hz:qs.length<=10)(hp:∀q∈qs,cj [T,.str q.1,q.2.1]=some (.bl q.2.2))
theorem XF:∀qs,Su (qT qs) (jR qs)=qs.map λq=>.tup [.str q.1,q.2.1]
 | []=>rfl
 | q::qs=>by
  show D.tup [.str q.1,q.2.1]::Su (qT qs) (jR qs)=_;rw[XF qs]
  rfl
include hz hp in
theorem Ws:kh [Zf T,(Zf (.tup (qT qs))),(Zf (.tup (jR qs)))] = .ok (.lst (qs.map λq=>.bl q.2.2)) [Zf T,(Zf (.tup (qT qs))),(Zf (.tup (jR qs)))]:=by
 unfold kh;have q:=G4 (lo:=3) (n:=5) (it:=W9<|Zv 1<|Zv 2 ao) (g:=cO 2<|aN (aq 3)<|aN (aq 4) cQ) (c:=cP) (e:=az cj<|Zv 0<|Zv 3<|Zv 4 ao) (env:=[Zf T,(Zf<|.tup<|qT qs),(Zf<|.tup<|jR qs)]) (aO:=[Zf T,(Zf<|.tup<|qT qs),(Zf<|.tup<|jR qs)])
  qs (λp=>.tup [.str p.1,p.2.1]) (λp=>[Zs p.1,Zf p.2.1]) (λ_=>true) (λp=>.bl p.2.2) (by rw[<-XF];rfl) rfl (λp hq=>by
  refine⟨rfl,λvs hv=>?_,rfl,λ_=>?_⟩
  ·match vs,hv with
   | [_,_],_=>rfl
  ·show az cj (Zv 0<|Zv 3<|Zv 4 ao) [Zf T,(Zf<|.tup<|qT qs),(Zf<|.tup (jR qs)),Zs p.1,Zf p.2.1]=_;have hp':=hp p hq;clear hp hq hz;generalize D.tup (qT qs)=A at *;generalize D.tup (jR qs)=B at *
   ac_rfl) (Qqy hz (by decide))
 rw[List.filter_eq_self.mpr (λ_ _=>rfl)] at q;exact q
include hz hp in
theorem V8(hv:ver qs=false):fY [T,.tup (qT qs),.tup (jR qs)]=some (.bl false):=by
 have c1:=Ws hz hp;have l1:dM [.tup (qT qs)]=some (.int qs.length):=by rw[mO];unfold qT;rw[Qqz]
 have l2:dM [.tup (jR qs)]=some (.int qs.length):=by rw[mO];unfold jR;rw[Qqz]
 have hn:Up (.int qs.length) (.int qs.length)=some (.bl false):=by rw[aaX,beq_self_eq_true];rfl
 have ha:=yH (λq:Q=>q.2.2) qs;rw[show(qs.all λq:Q=>q.2.2)=false from hv] at ha;unfold fY tQ;generalize kh=L1 at *;generalize j9=L2 at *;generalize qs.map (λq:Q=>D.bl q.2.2)=MM at *;generalize D.tup (qT qs)=A at *;generalize D.tup (jR qs)=B at *;generalize(qs.length:Int)=N at *;clear hp hv hz
 ac_rfl
theorem abV(h:ds.length≠ks.length):fY [T,.tup ks,.tup ds]=some (.bl false):=by
 have l1:dM [.tup ks]=some (.int ks.length):=mO _;have l2:dM [.tup ds]=some (.int ds.length):=mO _;have hn:Up (.int ds.length) (.int ks.length)=some (.bl true):=by rw[aaX,Qw6.mpr (by omega)];rfl
 unfold fY tQ;generalize(ks.length:Int)=N at *;generalize(ds.length:Int)=M at *;generalize D.tup ks=A at *;generalize D.tup ds=B at *;clear h
 ac_rfl
include hz hp in
theorem abU(hv:ver qs=true)(hs:s∈sides)(ho:∀q∈qs,q.1=kO->cZ q.2.1 (.int 0)=some s)(hk:(qs.filter λq=>q.1 == kO).length<=2):fY [T,.tup (qT qs),.tup (jR qs)]=some (.bl true):=by
 have c1:=Ws hz hp;have l1:dM [.tup (qT qs)]=some (.int (qs.length:Int)):=by rw[mO];unfold qT;rw[Qqz]
 have l2:dM [.tup (jR qs)]=some (.int (qs.length:Int)):=by rw[mO];unfold jR;rw[Qqz]
 have hn:Up (.int (qs.length:Int)) (.int (qs.length:Int))=some (.bl false):=by rw[aaX,beq_self_eq_true];rfl
 have ha:=yH (λq:Q=>q.2.2) qs;rw[show(qs.all λq:Q=>q.2.2)=true from hv] at ha;have c2:j9 [Zf T,(Zf<|.tup<|qT qs),(Zf<|.tup<|jR qs)] = .ok (.lst<|(qs.filter λq=>q.1 == kO).map λ_=>s) [Zf T,(Zf<|.tup<|qT qs),(Zf<|.tup<|jR qs)]:=by
  unfold j9;exact G4 (lo:=3) (n:=5) (it:=W9<|Zv 1<|Zv 2 ao) (g:=cO 2<|aN (aq 3)<|aN (aq 4) cQ) (c:=eN<|aA jb 3<|Zw [111,114,100,101,114]) (e:=aA cZ 4<|Zi 0) (env:=[Zf T,(Zf<|.tup<|qT qs),(Zf<|.tup<|jR qs)]) (aO:=[Zf T,(Zf<|.tup<|qT qs),(Zf<|.tup<|jR qs)])
   qs (λp=>.tup [.str p.1,p.2.1]) (λp=>[Zs p.1,Zf p.2.1]) (λq=>q.1 == kO) (λ_=>s) (by rw[<-XF];rfl) rfl (λp hq=>by
   refine⟨rfl,λvs hv=>?_,?_,λh=>?_⟩
   ·match vs,hv with
    | [_,_],_=>rfl
   ·show eN (aA jb 3<|Zw [111,114,100,101,114]) [Zf T,(Zf<|.tup<|qT qs),(Zf<|.tup<|jR qs),Zs p.1,Zf p.2.1]=_;have:jb (.str p.1) (.str [111,114,100,101,114])=some (.bl<|p.1 == kO):=af7 _ _;generalize(p.1 == kO)=v at *;generalize D.tup (qT qs)=A at *;generalize D.tup (jR qs)=B at *;clear hp hv ho hz hq c1 l1 l2 hn ha
    ac_rfl
   ·have:=ho p hq<|eq_of_beq h;show aA cZ 4 (Zi 0) [Zf T,(Zf<|.tup<|qT qs),(Zf<|.tup (jR qs)),Zs p.1,Zf p.2.1]=_;generalize D.tup (qT qs)=A at *;generalize D.tup (jR qs)=B at *;clear hp hv ho hz hq h c1 l1 l2 hn ha
    ac_rfl) (Qqy hz (by decide))
 have hg:∃n,Nk (.lst ((qs.filter λq=>q.1 == kO).map λ_=>s))=some (.int n)/\gLe (.int n) (.int 1)=some (.bl true):=by
  generalize(qs.filter λq=>q.1 == kO)=F at hk;have hs':s = .str [108,101,102,116]\/s = .str [114,105,103,104,116]:=by
   rcases Qq2.mp hs with rfl|hs
   ·exact .inl rfl
   ·exact .inr (Qq4.mp hs)
  match F,hk with
  | [],_=>exact⟨0,rfl,rfl⟩
  | [_],_=>rcases hs' with rfl|rfl<;>exact⟨1,rfl,rfl⟩
  | [_,_],_=>rcases hs' with rfl|rfl<;>exact⟨1,rfl,rfl⟩
  | _::_::_::_,h=>exact absurd h (by simp)
 obtain⟨n,g1,g2⟩:=hg;unfold fY tQ;generalize kh=L1 at *;generalize j9=L2 at *;generalize qs.map (λq:Q=>D.bl q.2.2)=MM at *;generalize(qs.filter λq=>q.1 == kO).map (λ_=>s)=FF at *;generalize D.tup (qT qs)=A at *;generalize D.tup (jR qs)=B at *;generalize(qs.length:Int)=N at *;clear hp hv hz ho hk hs
 ac_rfl
end
open Hj (gG fin Aj)
theorem first_is:bY=K14.bY:=rfl
theorem aiR:ux=Hj.ux:=rfl
theorem aho:xM=Hj.xM:=rfl
theorem held(S a b c d):iG [S,.tup [a,b,c,d],.str [97]]=some (.bl false):=by
 have h1:vN [a,.str [97]]=some (.bl false):=rfl;unfold iG RJ
 ac_rfl
theorem G5{fm:LD}(h1:a1 env = .ok S env)(h2:am env = .ok ds env)(h3:fm ds=some (.tup [a,b,c,d]))(h4:a3 env = .ok (.str [97]) env):vQ iG fm a1 am a3 env = .ok (.bl false) env:=by
 unfold vQ;rw[h1];show bindR (am env) _=_;rw[h2];show(match fm ds with
  | some dp=>bindR (a3 env) λd3 e3=>(match iG [S,dp,d3] with
   | some d=>if aaD d=true then Ev.R.ok d e3 else .stuck
   | none=>.stuck)
  | none=>.stuck)=_
 rw[h3];show bindR (a3 env) _=_;rw[h4];show(match iG [S,.tup [a,b,c,d],.str [97]] with
   | some d=>if aaD d=true then Ev.R.ok d env else .stuck
   | none=>.stuck)=_
 rw[held]
 rfl
theorem J4(h:ev env = .nx e):Sv ev Oh env=Oh e:=by unfold Sv;rw[h]
theorem Qi(h:Oh (envOf n ds)=some (d,aO))(h1:Hc aO Qx=some c1)(h2:Hc aO Qw=some c2)(h3:Hc aO Qv=some c3):Ed n Oh st1 st2 st3 Qx Qw Qv ds=some (.tup [.clo st1 c1,d,.clo st2 c2,.clo st3 c3]):=by unfold Ed;rw[h];simp[h1,h2,h3]
section
variable{x:List Nat}(hx:x∈XL){s:D}(hs:s∈sides)
include hx hs
theorem first(hR:∀R∈Rs,gG x R)(h4:Rs.length<=10):∃F,bY [.tup [s,.tup Rs]]=some F:=by rw[first_is];exact⟨_,K14.first_standing (oK x hx) hs hR h4⟩
theorem Vf{R:D}(hR:gG x R)(S b):∃p q r t,fL [S,s,.tup [R,R],b]=some (.tup [p,q,r,t]):=by
 obtain⟨F1,h1⟩:=first hx hs (Rs:=[R,R]) (λQ hQ=>by simp at hQ;rw[hQ];exact hR) (show 2<=10 by decide)
 obtain⟨F2,h2⟩:=first hx hs (Rs:=[R]) (λQ hQ=>by simp at hQ;rw[hQ];exact hR) (show 1<=10 by decide)
 have e:oU [Zf S,Zf s,Zf<|.tup [R,R],Zf b,Zn,Zn,Zn,Zn,Zn,Zn,Zn]=some (.tup [F1,F2,.bl false,.bl false],[Zf S,Zf s,Zf<|.tup [R,R],Zf b,Zf R,Zf R,Zf<|.tup [s,.tup [R,R]],Zf<|.tup [s,.tup [R]],Zn,Zn,Zn]):=by
  have a0:aF (aa (az bY<|Zv 6 ao)<|aa (az bY<|Zv 7 ao)<|aa (iB<|.bl false)<|aa (iB<|.bl false) ao) [Zf S,Zf s,Zf<|.tup [R,R],Zf b,Zf R,Zf R,Zf<|.tup [s,.tup [R,R]],Zf<|.tup [s,.tup [R]],Zn,Zn,Zn] = .ok (.tup [F1,F2,.bl false,.bl false]) [Zf S,Zf s,Zf<|.tup [R,R],Zf b,Zf R,Zf R,Zf<|.tup [s,.tup [R,R]],Zf<|.tup [s,.tup [R]],Zn,Zn,Zn]:=by
   generalize D.tup [s,.tup [R,R]]=O1 at *;generalize D.tup [s,.tup [R]]=O2 at *;clear hx hs hR
   ac_rfl
  unfold oU;refine(J4 rfl).trans ?_;refine(J4 rfl).trans ?_;refine(J4 rfl).trans ?_;unfold Ja;show(match aF (aa (az bY<|Zv 6 ao)<|aa (az bY<|Zv 7 ao)<|aa (iB<|.bl false)<|aa (iB<|.bl false) ao) [Zf S,Zf s,Zf<|.tup [R,R],Zf b,Zf R,Zf R,Zf<|.tup [s,.tup [R,R]],Zf<|.tup [s,.tup [R]],Zn,Zn,Zn] with
   | .ok d aO=>some (d,aO)
   | .stuck=>none)=_
  rw[a0]
 exact⟨_,_,_,_,Qi e rfl rfl rfl⟩
theorem machine_plan(hR:∀R∈Rs,gG x R)(h4:Rs.length<=10)(S f0 st):∃p q r t,kY [S,.tup [s,.tup Rs],.tup [f0,st]]=some (.tup [p,q,r,t]):=by
 obtain⟨F1,h1⟩:=first hx hs hR h4
 generalize hO:D.tup [s,.tup Rs]=O at *;have e:rE [Zf S,Zf O,Zf<|.tup [f0,st],Zn,Zn,Zn,Zn,Zn]=some (.tup [F1,.int 0,.str [],f0],[Zf S,Zf O,Zf<|.tup [f0,st],Zf f0,Zf st,Zn,Zn,Zn]):=by
  have a0:aF (aa (az bY<|Zv 1 ao)<|aa (Zi 0)<|aa (Zw [])<|Zv 3 ao) [Zf S,Zf O,Zf<|.tup [f0,st],Zf f0,Zf st,Zn,Zn,Zn] = .ok (.tup [F1,.int 0,.str [],f0]) [Zf S,Zf O,Zf<|.tup [f0,st],Zf f0,Zf st,Zn,Zn,Zn]:=by
   generalize D.tup [f0,st]=M at *;clear hx hs hR hO
   ac_rfl
  unfold rE;refine(J4 rfl).trans ?_;unfold Ja;show(match aF (aa (az bY<|Zv 1 ao)<|aa (Zi 0)<|aa (Zw [])<|Zv 3 ao) [Zf S,Zf O,Zf<|.tup [f0,st],Zf f0,Zf st,Zn,Zn,Zn] with
   | .ok d aO=>some (d,aO)
   | .stuck=>none)=_
  rw[a0]
 exact⟨_,_,_,_,Qi e rfl rfl rfl⟩
end
abbrev FN:=LD
def SHL:List (Str×FN):=[("makes_shown",jW),("machine_shown",iC),("alike_shown",lU),("parted_shown",kJ),("no_source_shown",iR),("endless_shown",jP),("no_common_shown",iU),("acts_shown",oh),("never_shown",jV),("way_shown",qj),("taking_shown",kI),("no_way_shown",jo),("no_taking_shown",gM)]
def aS:d7:=Zv 3 (Zv 4 (Zv 1 ao))
noncomputable def chR:List (Str×FN)->Ev
 | []=>vO
 | [p]=>j0 p.1 p.2 5 aS
 | p::q::r=>sE (j0 p.1 p.2 5 aS) (chR (q::r))
theorem af0{g:FN}(h:env[5]? = some (Zf (sS n)))(ha:aS env = .ok ds env)(hg:g ds=some d):j0 n g 5 aS env = .ok d env:=by
 unfold j0;rw[h];show(if n=n then bindR (aS env) λds aO=>fX (g ds) aO else .stuck)=_;rw[if_pos rfl,ha];show fX (g ds) env=_;rw[hg]
 rfl
theorem ajj{g:FN}(h:env[5]? = some (Zf (sS m)))(hn:m≠n):j0 n g 5 aS env = .stuck:=by unfold j0;rw[h];show(if m=n then bindR (aS env) λds aO=>fX (g ds) aO else .stuck)=_;rw[if_neg hn]
theorem chain(h:env[5]? = some (Zf (sS n)))(ha:aS env = .ok ds env)(hg:g ds=some d):∀L,(L.map (·.1)).Nodup->(n,g)∈L->chR L env = .ok d env
 | [],_,hm=>by cases hm
 | [p],_,hm=>by
  cases Qq4.mp hm;exact af0 h ha hg
 | p::q::r,hd,hm=>by
  rw[Qq7,Qxj] at hd;show(match j0 p.1 p.2 5 aS env with
   | .ok d e=>Ev.R.ok d e
   | .stuck=>chR (q::r) env)=_
  rcases Qq2.mp hm with rfl|hm
  ·rw[af0 h ha hg]
  ·rw[ajj h (λe=>hd.1<|Qwv.mpr ⟨(n,g),hm,e⟩)];exact chain h ha hg (q::r) hd.2 hm
theorem apk:(SHL.map (·.1)).Nodup:=by decide +kernel
def Ui(C:Ev):cB:=aL (dH (lF (eU (eN (gH (f9 "tuple") (aJ 0)))) (eN (aP gLt (az dM (aa (bI 0) ao)) (Zi 2)))) (bu (iB (.bl false))) bN) (aL (bh (aA cZ 0 (Zi 0)) (aq 2)) (aL (bh (aA cZ 0 (Zi 1)) (aq 3)) (aL (dH (lF (eU (eN (gH (f9 "str") (aJ 2)))) (lF (eN (gH (jM fU) (aJ 2))) (eU (eN (az bM (Zv 3 ao)))))) (bu (iB (.bl false))) bN) (aL (bh (gD (aJ 0) (pZ (Zi 2)) eZ) (aq 4)) (aL (bh (gH (lJ nA) (aJ 2)) (aq 5)) (bu (gf (az fY (Zv 3 (aa (gH (lJ fU) (aJ 2)) (Zv 4 ao)))) C)))))))
theorem MF:yx=Ui (chR SHL):=rfl
theorem au4(a b)(ds):sU (.tup (a::b::ds)) (some 2) none=some (.tup ds):=by
 rw[Ni]
 congr 2
 unfold cutD;have e1:HT.gQ (a::b::ds).length 0 (some (2:Nat))=2:=Hj.aei (by simp);have e2:HT.gQ (a::b::ds).length (a::b::ds).length none=(a::b::ds).length:=rfl;rw[show(2)=((2:Nat):Int) from rfl,e1,e2,List.take_of_length_le (by simp)]
 rfl
theorem ix1(a b)(ds):cZ (.tup (a::b::ds)) (.int 1)=some b:=by rw[Rn];exact Hf (by simp)
theorem ix0(a)(ds):cZ (.tup (a::ds)) (.int 0)=some a:=by rw[Rn,j7.CZ]
theorem MJ(hk:jM fU (.str k)=some (.bl false))(hs:lJ nA (.str k)=some (sS n))(hp:lJ fU (.str k)=some (.tup ks))(h1:bM [S]=some (.bl b1))(h2:b1=true->fY [S,.tup ks,.tup ds]=some (.bl b2))(h3:b1=true->b2=true->(n,g)∈SHL/\g [S,.tup ds,paper]=some (.bl false)):rA [.tup (.str k::S::ds),paper]=some (.bl false):=by
 show cA 6 yx _=_;rw[MF];have t1:f9 "tuple" (.tup (.str k::S::ds))=some (.bl true):=rfl;have t2:f9 "str" (.str k)=some (.bl true):=rfl;have s1:=au4 (.str k) S ds;have i0:=ix0 (.str k) (S::ds);have i1:=ix1 (.str k) S ds;have ln:dM [.tup (.str k::S::ds)]=some (.int ((ds.length+2:Nat):Int)):=by rw[mO];rfl
 have lt:gLt (.int ((ds.length+2:Nat):Int)) (.int 2)=some (.bl false):=by rw[W4,Qwj (by omega)]
 generalize((ds.length+2:Nat):Int)=N at *;have hc:b1=true->b2=true->chR SHL [some (false,.tup (.str k::S::ds)),some (false,paper),some (false,.str k),some (false,S),some (false,.tup ds),some (false,sS n)] = .ok (.bl false) [some (false,.tup (.str k::S::ds)),some (false,paper),some (false,.str k),some (false,S),some (false,.tup ds),some (false,sS n)]:=λe1 e2=>
  chain (n:=n) rfl (ds:=[S,.tup ds,paper]) rfl (h3 e1 e2).2 SHL apk (h3 e1 e2).1
 unfold Ui;clear h3;generalize chR SHL=CC at *;generalize sS n=QS at *;generalize fU=TP at *;generalize nA=TS at *;generalize D.tup (.str k::S::ds)=CL at *;generalize D.str k=KW at *;generalize D.tup ds=DS at *;generalize D.tup ks=KS at *;cases b1
 ·clear h2 hc
  ac_rfl
 ·have h2:=h2 rfl;have hc:=hc rfl;cases b2
  ·clear hc
   ac_rfl
  ·have hc:=hc rfl
   ac_rfl
theorem WN(h:f9 "tuple" d=some (.bl false)):rA [d,paper]=some (.bl false):=by
 unfold rA yx
 ac_rfl
theorem ZQ(h:f9 "str" a=some (.bl false)):rA [.tup (a::S::ds),paper]=some (.bl false):=by
 show cA 6 yx _=_;rw[MF];have t1:f9 "tuple" (.tup (a::S::ds))=some (.bl true):=rfl;have i0:=ix0 a (S::ds);have i1:=ix1 a S ds;have ln:dM [.tup (a::S::ds)]=some (.int (ds.length+2:Nat)):=by rw[mO];rfl
 have lt:gLt (.int (ds.length+2:Nat)) (.int 2)=some (.bl false):=by rw[W4,Qwj (by omega)]
 generalize(ds.length+2)=N at *;unfold Ui;generalize chR SHL=CC at *;generalize D.tup (a::S::ds)=CL at *
 ac_rfl
theorem acp(h:jM fU (.str k)=some (.bl true)):rA [.tup (.str k::S::ds),paper]=some (.bl false):=by
 show cA 6 yx _=_;rw[MF];have t1:f9 "tuple" (.tup (.str k::S::ds))=some (.bl true):=rfl;have t2:f9 "str" (.str k)=some (.bl true):=rfl;have i0:=ix0 (.str k) (S::ds);have i1:=ix1 (.str k) S ds;have ln:dM [.tup (.str k::S::ds)]=some (.int (ds.length+2)):=by rw[mO];rfl
 have lt:gLt (.int (ds.length+2)) (.int 2)=some (.bl false):=by rw[W4,Qwj (by omega)]
 generalize(ds.length+2)=N at *;unfold Ui;generalize chR SHL=CC at *;generalize fU=TP at *;generalize D.tup (.str k::S::ds)=CL at *;generalize D.str k=KW at *
 ac_rfl
section
variable{x:List Nat}(hx:x∈XL){s T:D}(hs:s∈sides){Rs:List D}(hR:∀R∈Rs,gG x R)(h2:Rs.length<=2)
theorem ad9(a b):lU [T,.tup [a,b],.str [97]]=some (.bl false):=by
 have h:lg [.int 3,.str [97]]=some (.bl false):=rfl;unfold lU yM
 ac_rfl
theorem abH(a b c):kJ [T,.tup [a,b,c],.str [97]]=some (.bl false):=by
 have h:gIs (.str [97]) .non=some (.bl false):=rfl;unfold kJ yd
 ac_rfl
theorem ad5(a b):iR [T,.tup [a,b],.str [97]]=some (.bl false):=by
 have h:lg [.int 3,.str [97]]=some (.bl false):=rfl;unfold iR tH
 ac_rfl
theorem ad6(a b c d):iU [T,.tup [a,b,c,d],.str [97]]=some (.bl false):=by
 have h:lg [.int 5,.str [97]]=some (.bl false):=rfl;unfold iU tK
 ac_rfl
theorem Yu(a b c e):jP [T,.tup [a,b,c,.str [],e],.str [97]]=some (.bl false):=by
 have h:jb (.str []) (.str [])=some (.bl true):=rfl;unfold jP wD
 ac_rfl
theorem ahQ(a b c):oh [T,.tup [a,b,c],.str [97]]=some (.bl false):=by
 have h:Nm (.str [97]) .non=some (.bl true):=rfl;unfold oh CW
 ac_rfl
theorem alV(a b c d):qj [T,.tup [a,b,c,d],.str [97]]=some (.bl false):=by
 have h:gIs (.str [97]) .non=some (.bl false):=rfl;unfold qj xY
 ac_rfl
theorem abG(a b c d):kI [T,.tup [a,b,c,d],.str [97]]=some (.bl false):=by
 have h:gIs (.str [97]) .non=some (.bl false):=rfl;unfold kI xZ
 ac_rfl
include h2 in
theorem ad7:jV [T,.tup [.tup [s,.tup Rs],.int 9],.str [97]]=some (.bl false):=by
 have h:fW [.int Rs.length,.int 9]=some (.bl false):=by
  have e1:vL [.int 9]=some (.bl true):=rfl;have e2:decide (9<(Rs.length:Int))=false:=Qwj (by omega);have e3:gLe (.int 0) (.int 9)=some (.bl true):=rfl;have e4:gLt (.int 9) (.int Rs.length)=some (.bl false):=by rw[W4,e2]
  unfold fW tM;generalize(Rs.length:Int)=N at *
  ac_rfl
 unfold jV yK;clear h2
 ac_rfl
include hx hs in
theorem ad4{R:D}(hR:gG x R):jo [T,.tup [s,R,R],.str [97]]=some (.bl false):=by
 obtain⟨p,q,r,t,h⟩:=Vf hx hs hR T<|.tup [.bl true,.bl false];have he:=G5 (a1:=aJ 0) (am:=Zv 0<|Zv 3<|aa (aF<|Zv 4<|Zv 5 ao)<|aa (aF<|aa (iB<|.bl true)<|aa (iB<|.bl false) ao) ao) (a3:=aJ 2) (env:=[Zf T,Zf<|.tup [s,R,R],Zs [97],Zf s,Zf R,Zf R]) rfl rfl h rfl;unfold jo ye;generalize vQ iG fL (aJ 0) (Zv 0<|Zv 3<|aa (aF<|Zv 4<|Zv 5 ao)<|aa (aF<|aa (iB<|.bl true)<|aa (iB<|.bl false) ao) ao) (aJ 2)=HH at *;clear hx hs hR h
 ac_rfl
include hx hs in
theorem VB{R:D}(hR:gG x R):gM [T,.tup [s,R,R],.str [97]]=some (.bl false):=by
 obtain⟨p,q,r,t,h⟩:=Vf hx hs hR T<|.tup [.bl false,.bl true];have he:=G5 (a1:=aJ 0) (am:=Zv 0<|Zv 3<|aa (aF<|Zv 4<|Zv 5 ao)<|aa (aF<|aa (iB<|.bl false)<|aa (iB<|.bl true) ao) ao) (a3:=aJ 2) (env:=[Zf T,Zf<|.tup [s,R,R],Zs [97],Zf s,Zf R,Zf R]) rfl rfl h rfl;unfold gM tD;generalize vQ iG fL (aJ 0) (Zv 0<|Zv 3<|aa (aF<|Zv 4<|Zv 5 ao)<|aa (aF<|aa (iB<|.bl false)<|aa (iB<|.bl true) ao) ao) (aJ 2)=HH at *;clear hx hs hR h
 ac_rfl
include hx hs hR h2 in
theorem Yt(hm:gV [T,.tup [f0,st]]=some (.bl true)):iC [T,.tup [.tup [s,.tup Rs],.tup [f0,st]],.str [97]]=some (.bl false):=by
 obtain⟨p,q,r,t,h⟩:=machine_plan hx hs hR (show Rs.length<=10 by omega) T f0 st;generalize hO:D.tup [s,.tup Rs]=O at *;generalize hM:D.tup [f0,st]=M at *;have hof:my [T,O,M,.str [97]]=some (.bl false):=by
  have he:=G5 (a1:=aJ 0) (am:=Zv 0<|Zv 1<|Zv 2 ao) (a3:=aJ 3) (env:=[Zf T,Zf O,Zf M,Zs [97]]) rfl rfl h rfl;unfold my wC;generalize vQ iG kY (aJ 0) (Zv 0<|Zv 1<|Zv 2 ao) (aJ 3)=HH at *;clear hx hs hR h hO hM h2
  ac_rfl
 unfold iC wA;clear hx hs hR h hO hM h2 hm
 ac_rfl
include hx hs hR h2 in
theorem ad8(hw:∀c∈w,c∈x)(hl:w.length<=4):jW [T,.tup [.tup [s,.tup Rs],.str w,.str w],.str [97]]=some (.bl false):=by
 have hb:(w.length+1)*2^Rs.length<=6500001:=Qqy (Nat.mul_le_mul (show w.length+1<=5 by omega)<|Nat.pow_le_pow_right (by decide) h2) (by decide);have h1:ux [.tup [s,.tup Rs],.str w]=some (.str<|fin s Rs w):=by rw[aiR];exact Hj.made (oK x hx) hs hR (by omega) hw hb
 have h3:xM [.tup [s,.tup Rs],.str w]=some (.tup<|(Aj s w Rs).map .str):=by rw[aho];exact Hj.walk (oK x hx) hs hR (by omega) hw hb
 have h4:jb (.str<|fin s Rs w) (.str w)=some (.bl<|fin s Rs w == w):=af7 _ _;have h5:jb (.tup<|(Aj s w Rs).map .str) (.str [97])=some (.bl false):=rfl;generalize hO:D.tup [s,.tup Rs]=O at *;generalize(fin s Rs w == w)=v at *;generalize fin s Rs w=u at *;generalize D.tup ((Aj s w Rs).map .str)=W at *;unfold jW yL;clear hx hs hR hO h2 hw hl;cases v<;>ac_rfl
end
def Bad(c p:D):Prop:=rA [c,p]=some (.bl false)
noncomputable def pr(c p:D):D:=.tup [c,p]
theorem RC(h:f9 "tuple" d=some (.bl false)):Bad d p:=WN h
theorem Xm(h:f9 "str" a=some (.bl false)):Bad (.tup (a::S::ds)) p:=ZQ h
theorem aj1(h:jM fU (.str k)=some (.bl true)):Bad (.tup (.str k::S::ds)) p:=acp h
theorem agF(hk:jM fU (.str k)=some (.bl false))(hs:lJ nA (.str k)=some (sS n))(hp:lJ fU (.str k)=some (.tup ks))(h1:bM [S]=some (.bl b1))(h2:b1=true->fY [S,.tup ks,.tup ds]=some (.bl b2))(h3:(b1&&b2)=false):Bad (.tup (.str k::S::ds)) paper:=by refine MJ (g:=ux) hk hs hp h1 h2<|λe1 e2=>?_;rw[e1,e2] at h3;cases h3
section
structure Ent where
 k:List Nat
 qs:List Q
 paper:D
structure Known(T:D)(e:Ent):Prop where
 nin:jM fU (.str e.k)=some (.bl false)
 shn:∃n,lJ nA (.str e.k)=some (sS n)
 prt:lJ fU (.str e.k)=some (.tup (qT e.qs))
 len:e.qs.length<=5
 ok:∀q∈e.qs,cj [T,.str q.1,q.2.1]=some (.bl q.2.2)
 a:Bad (.tup (.str e.k::T::jR e.qs)) (.str [97])
section
variable{T:D}{e:Ent}(h:Known T e)
include h
theorem ac4(hS:bM [S]=some (.bl false))(ds)(p):Bad (.tup (.str e.k::S::ds)) p:=by obtain⟨n,hn⟩:=h.shn;exact agF h.nin hn h.prt (b2:=false) hS (λe=>by cases e) (by decide)
theorem RB(hT:bM [T]=some (.bl true))(hp:fY [T,.tup (qT e.qs),.tup ds]=some (.bl false))(p):Bad (.tup (.str e.k::T::ds)) p:=by obtain⟨n,hn⟩:=h.shn;exact agF h.nin hn h.prt hT (λ_=>hp) (by decide)
theorem abb(hT:bM [T]=some (.bl true))(hl:ds.length≠e.qs.length)(p):Bad (.tup (.str e.k::T::ds)) p:=
 RB h hT (abV (by unfold qT;rw[Qqz];exact hl)) p
theorem CQ(hT:bM [T]=some (.bl true)){i r:List Q}(hq:e.qs=i++(k,o,b)::r)(ho:cj [T,.str k,o']=some (.bl false))(p):Bad (.tup (.str e.k::T::jR (i++(k,o',false)::r))) p:=by
 have hk:qT e.qs=qT (i++(k,o',false)::r):=by rw[hq];unfold qT;simp
 refine RB h hT ?_ p;rw[hk];refine V8 ?_ (λq hm=>?_) ?_
 ·have:=h.len;rw[hq] at this;simp at this ⊢;omega
 ·rcases Qq6.mp hm with hm|hm
  ·exact h.ok q (by rw[hq];exact Qq6.mpr<|.inl hm)
  ·rcases Qq2.mp hm with rfl|hm
   ·exact ho
   ·exact h.ok q (by rw[hq];exact Qq6.mpr<|.inr<|Qqk _ hm)
 ·unfold ver;simp
end
def fC(l:List D):Prop:=∀d∈l,∃c p,d=pr c p/\Bad c p
theorem fC.app(h1:fC a)(h2:fC b):fC (a++b):=λd hd=>by
 rcases Qq6.mp hd with h|h
 ·exact h1 d h
 ·exact h2 d h
theorem fC.cons(h1:Bad c p)(h2:fC l):fC (pr c p::l):=λd hd=>by
 rcases Qq2.mp hd with rfl|h
 ·exact⟨c,p,rfl,h1⟩
 ·exact h2 d h
theorem fC.nil:fC []:=λd hd=>by cases hd
theorem fC.map{l:List D}{f:D->D}(h:∀o∈l,Bad (f o) p):fC (l.map λo=>pr (f o) p):=λd hd=>by
 obtain⟨o,ho,rfl⟩:=Qwv.mp hd;exact⟨_,_,rfl,h o ho⟩
def X1(PK:List D)(k:List Nat)(th:List D)(p:D):List D:=PK.map λo=>pr (.tup (.str k::o::th)) p
def X2(Kh:List D)(k:List Nat)(T:D)(more:List D)(p:D):List D:=Kh.map λo=>pr (.tup (.str k::T::o::more)) p
noncomputable def SD:List D:=[.non,.str [],.str [117,112],.int 7,.lst [.str [108,101,102,116]],.bl true]
def X2s(uT:List D)(k:List Nat)(T s R:D)(more:List D)(p:D):List D:=X2 SD k T (R::R::more) p++uT.flatMap λo=>[pr (.tup (.str k::T::s::o::R::more)) p,pr (.tup (.str k::T::s::R::o::more)) p]
def X3(W:D)(k:List Nat)(T:D)(th:List D)(p:D):List D:=(WS W).map λo=>pr (.tup ((.str k::T::th).dropLast++[o])) p
def X4(k:List Nat)(T:D)(th:List D)(p:D):List D:=[pr (.tup (.str k::T::(th++[.int 1]))) p,pr (.tup (.str k::T::th).dropLast) p,pr (.lst (.str k::T::th)) p,pr (.tup (.str [105,115]::T::th)) p]
def X5(k:List Nat)(T:D)(th:List D)(p:D):List D:=[pr (.tup (.int 7::T::th)) p,pr (.tup (.lst [.str k]::T::th)) p,pr .non p,pr (.tup (.str k::T::th)) (.str [97])]
section
variable{T:D}{e:Ent}(h:Known T e)(hT:bM [T]=some (.bl true))
include h
theorem adC(hn:∀d∈PK,bM [d]=some (.bl false))(p):fC (X1 PK e.k (jR e.qs) p):=fC.map λo ho=>ac4 h (hn o ho) _ _
include hT
theorem adB{r:List Q}(hq:e.qs=(k,o,b)::r)(ho:∀d∈Kh,cj [T,.str k,d]=some (.bl false))(p):fC (X2 Kh e.k T (jR r) p):=fC.map λd hd=>CQ h hT (i:=[]) hq (ho d hd) p
theorem ahk{s R:D}{r:List Q}(hq:e.qs=(kS,s,true)::(kR,R,true)::(kR,R,true)::r)(hn:∀d∈uT,dF [T,d]=some (.bl false))(p):fC (X2s uT e.k T s R (jR r) p):=by
 refine(adB h hT hq (λd hd=>aeU<|ad3 d hd) p).app λd hd=>?_;obtain⟨o,ho,hd⟩:=List.mem_flatMap.mp hd;rcases Qq2.mp hd with rfl|hd
 ·exact⟨_,_,rfl,CQ h hT (i:=[(kS,s,true)]) hq (Y6<|hn o ho) p⟩
 ·cases Qq4.mp hd;exact⟨_,_,rfl,CQ h hT (i:=[(kS,s,true),(kR,R,true)]) hq (Y6<|hn o ho) p⟩
theorem alw(hx:x∈XL)(hs:cX [T]=some (.tup (fc x))){i:List Q}(hq:e.qs=i++[(kW,o,b)])(p):fC (X3 W e.k T (jR e.qs) p):=fC.map λd hd=>by
 have hd':(D.str e.k::T::jR e.qs).dropLast++[d]=D.str e.k::T::jR (i++[(kW,d,false)]):=by
  rw[hq];have e1:∀z,jR (i++[(kW,z,b)])=jR i++[z]:=λz=>by unfold jR;simp
  have e2:jR (i++[(kW,d,false)])=jR i++[d]:=by unfold jR;simp
  rw[e1,e2,show D.str e.k::T::(jR i++[o])=(D.str e.k::T::jR i)++[o] from rfl,List.dropLast_concat]
  rfl
 rw[hd'];exact CQ h hT hq (Y5<|aph hs hx W d hd) p
theorem alv(p)(h0:0<e.qs.length):fC (X4 e.k T (jR e.qs) p):=by
 have hl:(jR e.qs).length=e.qs.length:=by unfold jR;rw[Qqz]
 refine .cons (abb h hT (by rw[Qqj,hl];show _+1≠_;omega) p)<|.cons ?_<|.cons (RC rfl)<|.cons (aj1 rfl) .nil;have h1:(D.str e.k::T::jR e.qs).dropLast=D.str e.k::T::(jR e.qs).dropLast:=by
  match hq:jR e.qs with
  | []=>rw[hq] at hl;simp at hl;omega
  | a::r=>rfl
 rw[h1];exact abb h hT (by rw[List.length_dropLast,hl];omega) p
omit hT in
theorem alu(p):fC (X5 e.k T (jR e.qs) p):=.cons (Xm rfl)<|.cons (Xm rfl)<|.cons (RC rfl)<|.cons h.a .nil
end
end
theorem afs{T s p:D}{k:List Nat}{n:Str}{g:FN}{qs:List Q}(hk:jM fU (.str k)=some (.bl false))(hn:lJ nA (.str k)=some (sS n))(hp:lJ fU (.str k)=some (.tup (qT qs)))(hz:qs.length<=5)(ok:∀q∈qs,cj [T,.str q.1,q.2.1]=some (.bl q.2.2))(hT:bM [T]=some (.bl true))(hs:s∈sides)(ho:∀q∈qs,q.1=kO->cZ q.2.1 (.int 0)=some s)(hc:(qs.filter λq=>q.1 == kO).length<=2)(hv:ver qs=true)(hm:(n,g)∈SHL)(hg:g [T,.tup (jR qs),.str [97]]=some (.bl false)):Known T ⟨k,qs,p⟩ where
 nin:=hk
 shn:=⟨n,hn⟩
 prt:=hp
 len:=hz
 ok:=ok
 a:=MJ hk hn hp hT (λ_=>abU (Qqy hz (by decide)) ok hv hs ho hc)<|λ_ _=>⟨hm,hg⟩
structure asC(T s R:D)(Rs:List D)(w:List Nat)(f0 st:D):Prop where
 side:s∈sides
 U0:bM [T]=some (.bl true)
 ord:eQ [T,.tup [s,.tup Rs]]=some (.bl true)
 rul:dF [T,R]=some (.bl true)
 wrd:gq [T,.str w]=some (.bl true)
 nil:gq [T,.str []]=some (.bl true)
 mch:gV [T,.tup [f0,st]]=some (.bl true)
 nev:jV [T,.tup [.tup [s,.tup Rs],.int 9],.str [97]]=some (.bl false)
 now:jo [T,.tup [s,R,R],.str [97]]=some (.bl false)
 not:gM [T,.tup [s,R,R],.str [97]]=some (.bl false)
 mac:iC [T,.tup [.tup [s,.tup Rs],.tup [f0,st]],.str [97]]=some (.bl false)
 mak:jW [T,.tup [.tup [s,.tup Rs],.str w,.str w],.str [97]]=some (.bl false)
section
variable(s R O W M:D)
def e1:Ent:=⟨[109,97,107,101,115],[(kO,O,true),(kW,W,true),(kW,W,true)],.tup [W]⟩
def e2:Ent:=⟨[109,97,99,104,105,110,101],[(kO,O,true),(kM,M,true)],.tup [.tup [.tup [],.int 0,.str [],.str []]]⟩
def e3:Ent:=⟨[97,108,105,107,101],[(kO,O,true),(kO,O,true)],.tup [M,.tup [],.tup []]⟩
def e4:Ent:=⟨[112,97,114,116,101,100],[(kO,O,true),(kO,O,true),(kW,W,true)],.non⟩
def e5:Ent:=⟨[110,111,32,115,111,117,114,99,101],[(kO,O,true),(kW,W,true)],.tup [M,.tup [],.tup []]⟩
def e6:Ent:=⟨[97,99,116,115],[(kO,O,true),(kN,.int 9,true),(kW,W,true)],.non⟩
def e7:Ent:=⟨[101,110,100,108,101,115,115],[(kO,O,true),(kW,W,true),(kW,.str [],true),(kW,.str [],true),(kW,W,true)],.tup [M,.tup []]⟩
def e8:Ent:=⟨[110,101,118,101,114],[(kO,O,true),(kN,.int 9,true)],.tup []⟩
def e9:Ent:=⟨[110,111,32,99,111,109,109,111,110],[(kO,O,true),(kO,O,true),(kW,W,true),(kW,W,true)],.tup [M,.tup [],M,.tup [],.tup []]⟩
def eA:Ent:=⟨[109,97,107,101,115,32,119,97,121],[(kS,s,true),(kR,R,true),(kR,R,true),(kW,.str [],true)],.int 7⟩
def eB:Ent:=⟨[116,97,107,101,115],[(kS,s,true),(kR,R,true),(kR,R,true),(kW,W,true)],.int 7⟩
def eC:Ent:=⟨[110,111,32,119,97,121],[(kS,s,true),(kR,R,true),(kR,R,true)],.tup []⟩
def eD:Ent:=⟨[110,111,32,116,97,107,105,110,103],[(kS,s,true),(kR,R,true),(kR,R,true)],.tup []⟩
def eE:Ent:=⟨[113,117,97,114,114,101,108],[(kO,O,true),(kB,.tup [],false)],.tup []⟩
end
theorem shl(i)(h:i<SHL.length):SHL[i]∈SHL:=List.getElem_mem h
section
variable{T s R:D}{Rs:List D}{w:List Nat}{f0 st:D}(F:asC T s R Rs w f0 st)
include F
theorem amQ:cj [T,.str kO,.tup [s,.tup Rs]]=some (.bl true):=aeV F.ord
theorem at6:cj [T,.str kW,.str w]=some (.bl true):=Y5 F.wrd
theorem at9:cj [T,.str kW,.str []]=some (.bl true):=Y5 F.nil
theorem aua:cj [T,.str kM,.tup [f0,st]]=some (.bl true):=amx F.mch
theorem at7:cj [T,.str kS,s]=some (.bl true):=aeU<|ahP F.side
theorem at8:cj [T,.str kR,R]=some (.bl true):=Y6 F.rul
omit F in
theorem ixo:cZ (.tup [s,.tup Rs]) (.int 0)=some s:=ix0 _ _
def U4(T s:D)(qs:List Q):Prop:=∀q∈qs,cj [T,.str q.1,q.2.1]=some (.bl q.2.2)/\(q.1=kO->cZ q.2.1 (.int 0)=some s)
omit F in
theorem lz:U4 T s []:=λq hq=>by cases hq
omit F in
theorem rQ(h:cj [T,.str k,d]=some (.bl b))(h':k=kO->cZ d (.int 0)=some s)(hr:U4 T s r):U4 T s ((k,d,b)::r):=λq hq=>by
 rcases Qq2.mp hq with rfl|hq
 ·exact⟨h,h'⟩
 ·exact hr q hq
theorem qo(h:U4 T s r):U4 T s ((kO,.tup [s,.tup Rs],true)::r):=rQ (amQ F) (λ_=>ixo) h
theorem qw(h:U4 T s r):U4 T s ((kW,.str w,true)::r):=rQ (at6 F) (λe=>absurd e (by decide)) h
theorem qn(h:U4 T s r):U4 T s ((kW,.str [],true)::r):=rQ (at9 F) (λe=>absurd e (by decide)) h
theorem qm(h:U4 T s r):U4 T s ((kM,.tup [f0,st],true)::r):=rQ (aua F) (λe=>absurd e (by decide)) h
theorem qs'(h:U4 T s r):U4 T s ((kS,s,true)::r):=rQ (at7 F) (λe=>absurd e (by decide)) h
theorem qr(h:U4 T s r):U4 T s ((kR,R,true)::r):=rQ (at8 F) (λe=>absurd e (by decide)) h
omit F in
theorem q9(h:U4 T s r):U4 T s ((kN,.int 9,true)::r):=rQ (amw T) (λe=>absurd e (by decide)) h
theorem jm(hk:jM fU (.str k)=some (.bl false))(hn:lJ nA (.str k)=some (sS n))(hp:lJ fU (.str k)=some (.tup (qT qs)))(ok:U4 T s qs)(hz:qs.length<=5)(hc:(qs.filter λq=>q.1 == kO).length<=2)(hv:ver qs=true)(hm:(n,g)∈SHL)(hg:g [T,.tup (jR qs),.str [97]]=some (.bl false)):Known T ⟨k,qs,p⟩:=
 afs hk hn hp hz (λq h=>(ok q h).1) F.U0 F.side (λq h=>(ok q h).2) hc hv hm hg
theorem k1:Known T (e1 (.tup [s,.tup Rs]) (.str w)):=jm F rfl rfl rfl (qo F<|qw F<|qw F lz) (show 3<=5 by decide) (show 1<=2 by decide) rfl (shl 0 (by decide)) F.mak
theorem k2:Known T (e2 (.tup [s,.tup Rs]) (.tup [f0,st])):=jm F rfl rfl rfl (qo F<|qm F lz) (show 2<=5 by decide) (show 1<=2 by decide) rfl (shl 1 (by decide)) F.mac
theorem k3(M):Known T (e3 (.tup [s,.tup Rs]) M):=jm F rfl rfl rfl (qo F<|qo F lz) (show 2<=5 by decide) (show 2<=2 by decide) rfl (shl 2 (by decide)) (ad9 _ _)
theorem k4:Known T (e4 (.tup [s,.tup Rs]) (.str w)):=jm F rfl rfl rfl (qo F<|qo F<|qw F lz) (show 3<=5 by decide) (show 2<=2 by decide) rfl (shl 3 (by decide)) (abH _ _ _)
theorem k5(M):Known T (e5 (.tup [s,.tup Rs]) (.str w) M):=jm F rfl rfl rfl (qo F<|qw F lz) (show 2<=5 by decide) (show 1<=2 by decide) rfl (shl 4 (by decide)) (ad5 _ _)
theorem k6:Known T (e6 (.tup [s,.tup Rs]) (.str w)):=jm F rfl rfl rfl (qo F<|q9<|qw F lz) (show 3<=5 by decide) (show 1<=2 by decide) rfl (shl 7 (by decide)) (ahQ _ _ _)
theorem k7(M):Known T (e7 (.tup [s,.tup Rs]) (.str w) M):=jm F rfl rfl rfl (qo F<|qw F<|qn F<|qn F<|qw F lz) (show 5<=5 by decide) (show 1<=2 by decide) rfl (shl 5 (by decide)) (Yu _ _ _ _)
theorem k8:Known T (e8 (.tup [s,.tup Rs])):=jm F rfl rfl rfl (qo F<|q9 lz) (show 2<=5 by decide) (show 1<=2 by decide) rfl (shl 8 (by decide)) F.nev
theorem k9(M):Known T (e9 (.tup [s,.tup Rs]) (.str w) M):=jm F rfl rfl rfl (qo F<|qo F<|qw F<|qw F lz) (show 4<=5 by decide) (show 2<=2 by decide) rfl (shl 6 (by decide)) (ad6 _ _ _ _)
theorem kA:Known T (eA s R):=jm F rfl rfl rfl (qs' F<|qr F<|qr F<|qn F lz) (show 4<=5 by decide) (show 0<=2 by decide) rfl (shl 9 (by decide)) (alV _ _ _ _)
theorem kB':Known T (eB s R (.str w)):=jm F rfl rfl rfl (qs' F<|qr F<|qr F<|qw F lz) (show 4<=5 by decide) (show 0<=2 by decide) rfl (shl 10 (by decide)) (abG _ _ _ _)
theorem kC:Known T (eC s R):=jm F rfl rfl rfl (qs' F<|qr F<|qr F lz) (show 3<=5 by decide) (show 0<=2 by decide) rfl (shl 11 (by decide)) F.now
theorem kD:Known T (eD s R):=jm F rfl rfl rfl (qs' F<|qr F<|qr F lz) (show 3<=5 by decide) (show 0<=2 by decide) rfl (shl 12 (by decide)) F.not
theorem kE:Known T (eE (.tup [s,.tup Rs])) where
 nin:=rfl
 shn:=⟨_,rfl⟩
 prt:=rfl
 len:=(show 2<=5 by decide)
 ok:=λq hq=>by
  rcases Qq2.mp hq with rfl|hq
  ·exact amQ F
  ·cases Qq4.mp hq;exact aeW (Xl T)
 a:=MJ (g:=ux) (ks:=[.str kO,.str kB]) rfl (n:="quarrel_shown") rfl rfl F.U0 (λ_=>V8 (qs:=[(kO,.tup [s,.tup Rs],true),(kB,.tup [],false)]) (show 2<=10 by decide) (λq hq=>by
  rcases Qq2.mp hq with rfl|hq
  ·exact amQ F
  ·cases Qq4.mp hq;exact aeW (Xl T)) rfl) (λ_ e=>by cases e)
end
def cl(T:D)(e:Ent):D:=.tup (.str e.k::T::jR e.qs)
def ENT(s R O W M:D):List Ent:=[e1 O W,e2 O M,e3 O M,e4 O W,e5 O W M,e6 O W,e7 O W M,e8 O,e9 O W M,eA s R,eB s R W,eC s R,eD s R,eE O]
theorem aq2{n:Nat}(h1:1<=n)(h4:n<=4):vJ (.tup [d]) (.int n)=some (.tup (List.replicate n d)):=by
 match n,h1,h4 with
 | 1,_,_=>rfl
 | 2,_,_=>rfl
 | 3,_,_=>rfl
 | 4,_,_=>rfl
theorem aoX(h1:1<=rs.length)(h4:rs.length<=4)(s B R W):rz [.tup rs,.tup [s,B],R,W]=some (.lst ((ENT s R (.tup [s,B]) W (MCn rs.length)).map λe=>pr (cl (.tup rs) e) e.paper)):=by
 have hm:=aq2 (d:=.tup [.str [],.int 0]) h1 h4;have hl:dM [.tup rs]=some (.int rs.length):=mO _;have h0:cZ (.tup [s,B]) (.int 0)=some s:=ix0 _ _;simp only[ENT,Qq7,Qj3,pr,cl,e1,e2,e3,e4,e5,e6,e7,e8,e9,eA,eB,eC,eD,eE,jR,MCn];generalize(rs.length:Int)=N at *;generalize List.replicate rs.length (D.tup [.str [],.int 0])=RP at *;generalize D.tup rs=T at *;generalize D.tup [s,B]=O at *;unfold rz CT;clear h1 h4
 ac_rfl
theorem agt{k:Nat}(h:k<=xs.length):sU (.tup xs) (some k) none=some (.tup (xs.drop k)):=by
 rw[Ni]
 congr 2
 unfold cutD;have e1:HT.gQ xs.length 0 (some k)=k:=Hj.aei h;have e2:HT.gQ xs.length xs.length none=xs.length:=rfl;rw[e1,e2,List.take_of_length_le (by simp)]
theorem ajR{k:Nat}(h:k<=xs.length):sU (.tup xs) none (some k)=some (.tup (xs.take k)):=by
 rw[Ni]
 congr 2
 unfold cutD;have e1:HT.gQ xs.length xs.length (some k)=k:=Hj.aei h;have e2:HT.gQ xs.length 0 none=0:=rfl;rw[e1,e2]
 rfl
theorem au3(h:0<xs.length):sU (.tup xs) none (some (-1))=some (.tup xs.dropLast):=by
 rw[Ni]
 congr 2
 unfold cutD;have e1:HT.gQ xs.length xs.length (some<|-1)=xs.length - 1:=by show(if (-1)<0 then ((-1)+(xs.length:Int)).toNat else min (-1:Int).toNat xs.length)=_;rw[if_pos (by decide)];omega
 have e2:HT.gQ xs.length 0 none=0:=rfl;rw[e1,e2,List.dropLast_eq_take]
 rfl
section
variable(T O R W S p:D)(k:List Nat)(a:D)(more:List D)(hm:more.length<=5)
structure Cut(C K:D)(T a:D)(more:List D):Prop where
 c1:sU C none (some 1)=some (.tup [K])
 c2:sU C (some 2) none=some (.tup (a::more))
 t2:sU C none (some 2)=some (.tup [K,T])
 f3:sU C (some 3) none=some (.tup more)
 f1:sU C (some 1) none=some (.tup (T::a::more))
 m1:sU C none (some (-1))=some (.tup (K::T::a::more).dropLast)
 i0:cZ C (.int 0)=some K
 i2:cZ C (.int 2)=some a
 lst:jN [C]=some (.lst (K::T::a::more))
 one:bJ C (.tup [.int 1])=some (.tup (K::T::a::(more++[.int 1])))
include hm in
theorem cut(K:D):Cut (.tup (K::T::a::more)) K T a more where
 c1:=ajR (k:=1) (by simp)
 c2:=agt (k:=2) (by simp)
 t2:=ajR (k:=2) (by simp)
 f3:=agt (k:=3) (by simp)
 f1:=agt (k:=1) (by simp)
 m1:=au3 (by simp)
 i0:=ix0 _ _
 i2:=by rw[Rn];exact Hf (xs:=K::T::a::more) (d:=2) (by simp)
 lst:=rfl
 one:=mq (by simp only[Qqv,Qw3,sizeLine,Nat.reducePow];omega)
end
section
variable{T O R W S p C K a:D}{more:List D}(hm:more.length<=5)(h:Cut C K T a more)
include hm h
theorem lc1(hn:iD [T]=some (.lst PK))(hz:PK.length<=100)(acc:OD)(v8 v9:OD):qZ [Zf T,Zf O,Zf R,Zf W,acc,Zf S,Zf C,Zf p,v8,v9] = .ok (.lst (PK.map λo=>pr (.tup (K::o::a::more)) p)) [Zf T,Zf O,Zf R,Zf W,acc,Zf S,Zf C,Zf p,v8,v9]:=by
 unfold qZ;refine ou PK id _ (by rw[List.map_id];clear h hm hz;ac_rfl) rfl rfl (λo _=>?_) (Qqy hz (by decide));have c1:=h.c1;have c2:=h.c2;have g1:bJ (.tup [K,o]) (.tup (a::more))=some (.tup (K::o::a::more)):=mq (by simp only[Qqv,Qw3,sizeLine,Nat.reducePow];omega);show(aF<|aa (aP bJ (aP bJ (gD (aJ 6) eZ<|pZ<|Zi 1)<|aF<|Zv 10 ao)<|gD (aJ 6) (pZ<|Zi 2) eZ)<|Zv 7 ao) [Zf T,Zf O,Zf R,Zf W,acc,Zf S,Zf C,Zf p,v8,v9,Zf o] = .ok (.tup [.tup (K::o::a::more),p]) [Zf T,Zf O,Zf R,Zf W,acc,Zf S,Zf C,Zf p,v8,v9,Zf o];generalize D.tup (a::more)=AM at *;generalize D.tup (K::o::a::more)=RS at *;clear h hn hm hz
 ac_rfl
theorem at3(o)(acc)(v8 v9)(vs:List (OD))(x)(hx:x ([Zf T,Zf O,Zf R,Zf W,acc,Zf S,Zf C,Zf p,v8,v9]++vs) = .ok o ([Zf T,Zf O,Zf R,Zf W,acc,Zf S,Zf C,Zf p,v8,v9]++vs)):aF (aa (aP bJ (aP bJ (gD (aJ 6) eZ (pZ (Zi 2))) (aF (aa x ao))) (gD (aJ 6) (pZ (Zi 3)) eZ)) (Zv 7 ao)) ([Zf T,Zf O,Zf R,Zf W,acc,Zf S,Zf C,Zf p,v8,v9]++vs) = .ok (pr (.tup (K::T::o::more)) p) ([Zf T,Zf O,Zf R,Zf W,acc,Zf S,Zf C,Zf p,v8,v9]++vs):=by
 have c1:=h.t2;have c2:=h.f3;have g1:bJ (.tup [K,T,o]) (.tup more)=some (.tup (K::T::o::more)):=mq (by simp[Qqv,Qw3,sizeLine,Nat.reducePow];omega);unfold pr;generalize D.tup more=AM at *;generalize D.tup (K::T::o::more)=RS at *;clear h hm;simp[List.cons_append,List.nil_append] at hx ⊢
 ac_rfl
theorem lc3(hz:Kh.length<=100)(acc:OD)(v9:OD):qX [Zf T,Zf O,Zf R,Zf W,acc,Zf S,Zf C,Zf p,Zf (.lst Kh),v9] = .ok (.lst (Kh.map λo=>pr (.tup (K::T::o::more)) p)) [Zf T,Zf O,Zf R,Zf W,acc,Zf S,Zf C,Zf p,Zf (.lst Kh),v9]:=by unfold qX;exact ou Kh id _ (by rw[List.map_id];rfl) rfl rfl (λo _=>at3 hm h o acc _ v9 [Zf o] (aJ 10) rfl) (Qqy hz (by decide))
theorem lc4(acc:OD)(v8 v9:OD):qW [Zf T,Zf O,Zf R,Zf W,acc,Zf S,Zf C,Zf p,v8,v9] = .ok (.lst ((WS W).map λo=>pr (.tup ((K::T::a::more).dropLast++[o])) p)) [Zf T,Zf O,Zf R,Zf W,acc,Zf S,Zf C,Zf p,v8,v9]:=by
 unfold qW;refine ou (WS W) id _ (aO:=[Zf T,Zf O,Zf R,Zf W,acc,Zf S,Zf C,Zf p,v8,v9]) (by rw[List.map_id];unfold WS;clear h hm;ac_rfl) rfl rfl (λo _=>?_) (show 7<=sizeLine by decide);have c1:=h.m1;have hl:(K::T::a::more).dropLast.length<=10:=by rw[List.length_dropLast];simp only[Qqv];omega
 generalize(K::T::a::more).dropLast=DL at *;have g1:bJ (.tup DL) (.tup [o])=some (.tup<|DL++[o]):=mq (by simp only[Qqv,Qw3,sizeLine,Nat.reducePow];omega);show(aF<|aa (aP bJ (gD (aJ 6) eZ<|pZ<|gH vI<|Zi 1)<|aF<|Zv 10 ao)<|Zv 7 ao) [Zf T,Zf O,Zf R,Zf W,acc,Zf S,Zf C,Zf p,v8,v9,Zf o] = .ok (.tup [.tup (DL++[o]),p]) [Zf T,Zf O,Zf R,Zf W,acc,Zf S,Zf C,Zf p,v8,v9,Zf o];have gn:vI (.int 1)=some (.int<|-1):=rfl;generalize D.tup DL=AM at *;generalize D.tup (DL++[o])=RS at *;clear h hm hl
 ac_rfl
end
section
variable{T O R W S p C K a:D}{more:List D}
theorem yp{v8 v9:OD}(hx:x [Zf T,Zf O,Zf R,Zf W,Zf (.lst acc),Zf S,Zf C,Zf p,v8,v9] = .ok (.lst L) [Zf T,Zf O,Zf R,Zf W,Zf (.lst acc),Zf S,Zf C,Zf p,v8,v9])(hl:acc.length+L.length<=100000):fD 4 (aP uw (aJ 4) x) [Zf T,Zf O,Zf R,Zf W,Zl (acc),Zf S,Zf C,Zf p,v8,v9] = .nx [Zf T,Zf O,Zf R,Zf W,Zl (acc++L),Zf S,Zf C,Zf p,v8,v9]:=by ac_rfl
theorem app{v8 v9:OD}(hx:x [Zf T,Zf O,Zf R,Zf W,Zl (acc),Zf S,Zf C,Zf p,v8,v9] = .ok d [Zf T,Zf O,Zf R,Zf W,Zl (acc),Zf S,Zf C,Zf p,v8,v9])(hl:acc.length<=10000):iK 4 x [Zf T,Zf O,Zf R,Zf W,Zl (acc),Zf S,Zf C,Zf p,v8,v9] = .nx [Zf T,Zf O,Zf R,Zf W,Zl (acc++[d]),Zf S,Zf C,Zf p,v8,v9]:=by ac_rfl
variable(hm:more.length<=5)(h:Cut C K T a more)
include hm h
theorem t4(acc:OD)(v8 v9:OD):cC (aa (aF (aa (aA bJ 6 (aF (aa (Zi 1) ao))) (Zv 7 ao))) (aa (aF (aa (gD (aJ 6) eZ (pZ (gH vI (Zi 1)))) (Zv 7 ao))) (aa (aF (aa (az jN (aa (bI 6) ao)) (Zv 7 ao))) (aa (aF (aa (aP bJ (aF (aa (Zw [105,115]) ao)) (gD (aJ 6) (pZ (Zi 1)) eZ)) (Zv 7 ao))) ao)))) [Zf T,Zf O,Zf R,Zf W,acc,Zf S,Zf C,Zf p,v8,v9] = .ok (.lst [pr (.tup (K::T::a::(more++[.int 1]))) p,pr (.tup (K::T::a::more).dropLast) p,pr (.lst (K::T::a::more)) p,pr (.tup (.str [105,115]::T::a::more)) p]) [Zf T,Zf O,Zf R,Zf W,acc,Zf S,Zf C,Zf p,v8,v9]:=by
 have c1:=h.m1;have c2:=h.lst;have c3:=h.one;have c4:=h.f1;have gn:vI (.int 1)=some (.int<|-1):=rfl;have g1:bJ (.tup [.str [105,115]]) (.tup (T::a::more))=some (.tup (.str [105,115]::T::a::more)):=mq (by simp[Qqv,Qw3,sizeLine,Nat.reducePow];omega);unfold pr;generalize(K::T::a::more).dropLast=DL at *;generalize D.tup (T::a::more)=AM at *;generalize D.lst (K::T::a::more)=L1 at *;generalize D.tup (.str [105,115]::T::a::more)=L2 at *;generalize D.tup (K::T::a::(more++[.int 1]))=L3 at *;clear h hm
 ac_rfl
theorem t5(acc:OD)(v8 v9:OD):cC (aa (aF (aa (aP bJ (aF (aa (Zi 7) ao)) (gD (aJ 6) (pZ (Zi 1)) eZ)) (Zv 7 ao))) (aa (aF (aa (aP bJ (aF (aa (cC (aa (aA cZ 6 (Zi 0)) ao)) ao)) (gD (aJ 6) (pZ (Zi 1)) eZ)) (Zv 7 ao))) (aa (aF (aa (iB .non) (Zv 7 ao))) (aa (aF (Zv 6 (aa (Zw [97]) ao))) ao)))) [Zf T,Zf O,Zf R,Zf W,acc,Zf S,Zf C,Zf p,v8,v9] = .ok (.lst [pr (.tup (.int 7::T::a::more)) p,pr (.tup (.lst [K]::T::a::more)) p,pr .non p,pr C (.str [97])]) [Zf T,Zf O,Zf R,Zf W,acc,Zf S,Zf C,Zf p,v8,v9]:=by
 have c4:=h.f1;have c0:=h.i0;have g1:bJ (.tup [.int 7]) (.tup (T::a::more))=some (.tup (.int 7::T::a::more)):=mq (by simp[Qqv,Qw3,sizeLine,Nat.reducePow];omega);have g2:bJ (.tup [.lst [K]]) (.tup (T::a::more))=some (.tup (.lst [K]::T::a::more)):=mq (by simp[Qqv,Qw3,sizeLine,Nat.reducePow];omega);unfold pr;generalize D.tup (T::a::more)=AM at *;generalize D.tup (.int 7::T::a::more)=L2 at *;generalize D.tup (.lst [K]::T::a::more)=L3 at *;clear h hm
 ac_rfl
noncomputable def six:D:=.lst [.str [109,97,107,101,115],.str [110,111,32,115,111,117,114,99,101],.str [101,110,100,108,101,115,115],.str [110,111,32,99,111,109,109,111,110],.str [109,97,107,101,115,32,119,97,121],.str [116,97,107,101,115]]
def ahO:Ev:=cC (aa (Zw [109,97,107,101,115]) (aa (Zw [110,111,32,115,111,117,114,99,101]) (aa (Zw [101,110,100,108,101,115,115]) (aa (Zw [110,111,32,99,111,109,109,111,110]) (aa (Zw [109,97,107,101,115,32,119,97,121]) (aa (Zw [116,97,107,101,115]) ao))))))
def X3i(b:Bool)(W K T a:D)(more:List D)(p:D):List D:=if b=true then (WS W).map λo=>pr (.tup ((K::T::a::more).dropLast++[o])) p else []
def adU:cB:=aL (dH (eN (aP xK (aA cZ 6 (Zi 0)) ahO)) (fD 4 (aP uw (aJ 4) (qW))) bN) (aL (fD 4 (aP uw (aJ 4) (cC (aa (aF (aa (aA bJ 6 (aF (aa (Zi 1) ao))) (Zv 7 ao))) (aa (aF (aa (gD (aJ 6) eZ (pZ (gH vI (Zi 1)))) (Zv 7 ao))) (aa (aF (aa (az jN (aa (bI 6) ao)) (Zv 7 ao))) (aa (aF (aa (aP bJ (aF (aa (Zw [105,115]) ao)) (gD (aJ 6) (pZ (Zi 1)) eZ)) (Zv 7 ao))) ao))))))) (fD 4 (aP uw (aJ 4) (cC (aa (aF (aa (aP bJ (aF (aa (Zi 7) ao)) (gD (aJ 6) (pZ (Zi 1)) eZ)) (Zv 7 ao))) (aa (aF (aa (aP bJ (aF (aa (cC (aa (aA cZ 6 (Zi 0)) ao)) ao)) (gD (aJ 6) (pZ (Zi 1)) eZ)) (Zv 7 ao))) (aa (aF (aa (iB .non) (Zv 7 ao))) (aa (aF (Zv 6 (aa (Zw [97]) ao))) ao))))))))
def Xt(b:Bool)(W K T a:D)(more:List D)(p C:D):List D:=X3i b W K T a more p++([pr (.tup (K::T::a::(more++[.int 1]))) p,pr (.tup (K::T::a::more).dropLast) p,pr (.lst (K::T::a::more)) p,pr (.tup (.str [105,115]::T::a::more)) p]++[pr (.tup (.int 7::T::a::more)) p,pr (.tup (.lst [K]::T::a::more)) p,pr .non p,pr C (.str [97])])
theorem tail_eq(h6:xK K six=some (.bl b))(ha:acc.length<=5000)(v8 v9:OD):adU [Zf T,Zf O,Zf R,Zf W,Zl (acc),Zf S,Zf C,Zf p,v8,v9] = .nx [Zf T,Zf O,Zf R,Zf W,Zl (acc++Xt b W K T a more p C),Zf S,Zf C,Zf p,v8,v9]:=by
 have hl:(X3i b W K T a more p).length<=7:=by
  unfold X3i;split
  ·rw[Qqz];show 7<=7;exact Qq0 _
  ·exact Qxx _
 unfold adU Xt;refine(aW (e:=[Zf T,Zf O,Zf R,Zf W,Zl<|acc++X3i b W K T a more p,Zf S,Zf C,Zf p,v8,v9]) ?_).trans ?_
 ·have c0:=h.i0;have hs:∀env,ahO env = .ok six env:=λenv=>rfl;have hb:eN (aP xK (aA cZ 6<|Zi 0) ahO) [Zf T,Zf O,Zf R,Zf W,Zl<|acc,Zf S,Zf C,Zf p,v8,v9] = .ok b [Zf T,Zf O,Zf R,Zf W,Zl<|acc,Zf S,Zf C,Zf p,v8,v9]:=by
   generalize six=SX at *;generalize ahO=SE at *;clear h hm hl
   ac_rfl
  cases b
  ·refine(nG hb).trans ?_;unfold X3i;rw[if_neg (by decide),Qw1]
   rfl
  ·refine(lG hb).trans ?_;unfold X3i;rw[if_pos rfl];exact yp (lc4 hm h (Zf<|.lst acc) v8 v9) (by rw[Qqz];show acc.length+7<=_;omega)
 ·refine(aW (yp (p:=p) (t4 hm h _ v8 v9) (by rw[Qqj];show acc.length+_+4<=_;omega))).trans ?_;have:=yp (O:=O) (R:=R) (W:=W) (S:=S) (p:=p) (t5 hm h (Zf (.lst ((acc++X3i b W K T a more p)++[pr (.tup (K::T::a::(more++[.int 1]))) p,pr (.tup (K::T::a::more).dropLast) p,pr (.lst (K::T::a::more)) p,pr (.tup (.str [105,115]::T::a::more)) p]))) v8 v9) (by rw[Qqj,Qqj];show acc.length+_+4+4<=_;omega);rw[this];simp only[Qx6]
end
def amz:cB:=aL (bh (cC (aa (iB .non) (aa (aF ao) (aa (az jN (aa (bI 1) ao)) (aa (aF (aa (aA cZ 1 (Zi 0)) ao)) (aa (aF (aa (aA cZ 1 (Zi 0)) (aa (az jN (aa (aA cZ 1 (Zi 1)) ao)) ao))) (aa (aF (aa (Zw [117,112]) (aa (aA cZ 1 (Zi 1)) ao))) ao))))))) (aq 8)) (aL (bh (aA bJ 8 (qY)) (aq 8)) (aL (bh (aA bJ 8 (cC (aa (aF (aa (iB .non) (aa (aA cZ 1 (Zi 1)) ao))) (aa (aA bJ 1 (aF (aa (Zi 1) ao))) (aa (aF (aa (aA cZ 1 (Zi 0)) (aa (aP vJ (aF (Zv 2 ao)) (Zi 5)) ao))) ao))))) (aq 8)) (fD 4 (aP uw (aJ 4) (qX)))))
def sdS:cB:=aL (ju (gW (cC (aa (iB .non) (aa (Zw []) (aa (Zw [117,112]) (aa (Zi 7) (aa (cC (aa (Zw [108,101,102,116]) ao)) (aa (iB (.bl true)) ao)))))))) (aq 9) (nY)) (ju (gW (az dU (Zv 2 (Zv 5 ao)))) (aq 9) (lB))
theorem aj2:rm=aL (fD 4 (aP uw (aJ 4) (qZ))) (aL (dH (eN (gH (f9 "tuple") (aA cZ 6 (Zi 2)))) amz sdS) adU):=rfl
def Kh(s B:D)(Rs uT:List D)(R:D):List D:=[.non,.tup [],.lst [s,.tup Rs],.tup [s],.tup [s,.lst Rs],.tup [.str [117,112],.tup Rs]]++(uT.map λo=>.tup [s,.tup [o]])++[.tup [.non,.tup Rs],.tup [s,.tup Rs,.int 1],.tup [s,.tup (five [R])]]
section
variable{T O R W S p C K a s:D}{more Rs uT:List D}
theorem lc2(hO:cZ O (.int 0)=some s)(hn:dU [R,S]=some (.lst uT))(hz:uT.length<=100)(a4 v8 v9:OD):qY [Zf T,Zf O,Zf R,Zf W,a4,Zf S,Zf C,Zf p,v8,v9] = .ok (.lst (uT.map λo=>.tup [s,.tup [o]])) [Zf T,Zf O,Zf R,Zf W,a4,Zf S,Zf C,Zf p,v8,v9]:=by
 unfold qY;refine ou uT id _ (by rw[List.map_id];clear hO hz;ac_rfl) rfl rfl (λo _=>?_) (Qqy hz (by decide));show(aF<|aa (aA cZ 1<|Zi 0)<|aa (aF<|Zv 10 ao) ao) [Zf T,Zf O,Zf R,Zf W,a4,Zf S,Zf C,Zf p,v8,v9,Zf o]=_;clear hn hz
 ac_rfl
variable(hm:more.length<=5)(h:Cut C K T a more)
include hm h
theorem amy(hO:O = .tup [s,.tup Rs])(hn:dU [R,S]=some (.lst uT))(hz:uT.length=40)(ha:acc.length<=5000)(v8 v9:OD):amz [Zf T,Zf O,Zf R,Zf W,Zl (acc),Zf S,Zf C,Zf p,v8,v9] = .nx [Zf T,Zf O,Zf R,Zf W,(Zl (acc++(Kh s O Rs uT R).map λo=>pr (.tup (K::T::o::more)) p)),Zf S,Zf C,Zf p,(Zf (.lst (Kh s O Rs uT R))),v9]:=by
 have h0:cZ O (.int 0)=some s:=by rw[hO];exact ix0 _ _
 have h1:cZ O (.int 1)=some (.tup Rs):=by rw[hO];exact ix1 _ _ _
 have h2:jN [O]=some (.lst [s,.tup Rs]):=by rw[hO];rfl
 have h3:jN [.tup Rs]=some (.lst Rs):=rfl;have h4:bJ O (.tup [.int 1])=some (.tup [s,.tup Rs,.int 1]):=by rw[hO];rfl
 have h5:vJ (.tup [R]) (.int 5)=some (.tup<|five [R]):=Wn (show 0<1 by decide) (show 1<=4 by decide);have hl:(Kh s O Rs uT R).length=49:=by
  unfold Kh;rw[Qqj,Qqj,Qqz,hz]
  rfl
 unfold amz;refine(aW (e:=[Zf T,Zf O,Zf R,Zf W,Zl (acc),Zf S,Zf C,Zf p,Zf (.lst [.non,.tup [],.lst [s,.tup Rs],.tup [s],.tup [s,.lst Rs],.tup [.str [117,112],.tup Rs]]),v9]) ?_).trans ?_
 ·clear h hm hn hl hz ha h4 h5 hO;generalize D.tup Rs=B at *;generalize D.lst Rs=L1 at *
  ac_rfl
 refine(aW (e:=[Zf T,Zf O,Zf R,Zf W,Zl (acc),Zf S,Zf C,Zf p,(Zf (.lst ([.non,.tup [],.lst [s,.tup Rs],.tup [s],.tup [s,.lst Rs],.tup [.str [117,112],.tup Rs]]++(uT.map λo=>.tup [s,.tup [o]])))),v9]) ?_).trans ?_
 ·have q:=lc2 (p:=p) (C:=C) (T:=T) (W:=W) h0 hn (by omega) (Zl acc) (Zf (.lst [.non,.tup [],.lst [s,.tup Rs],.tup [s],.tup [s,.lst Rs],.tup [.str [117,112],.tup Rs]])) v9;have hz':(uT.map λo=>D.tup [s,.tup [o]]).length=40:=by rw[Qqz,hz]
  generalize(uT.map λo=>D.tup [s,.tup [o]])=ML at *;have g:bJ (.lst [.non,.tup [],.lst [s,.tup Rs],.tup [s],.tup [s,.lst Rs],.tup [.str [117,112],.tup Rs]]) (.lst ML)=some (.lst ([.non,.tup [],.lst [s,.tup Rs],.tup [s],.tup [s,.lst Rs],.tup [.str [117,112],.tup Rs]]++ML)):=Cv (by rw[hz'];show 6+40<=sizeLine;decide);generalize D.lst ([.non,.tup [],.lst [s,.tup Rs],.tup [s],.tup [s,.lst Rs],.tup [.str [117,112],.tup Rs]]++ML)=G2 at *;generalize D.lst [.non,.tup [],.lst [s,.tup Rs],.tup [s],.tup [s,.lst Rs],.tup [.str [117,112],.tup Rs]]=G1 at *;clear h hm hn hl hz ha h4 h5 hO
  ac_rfl
 refine(aW (e:=[Zf T,Zf O,Zf R,Zf W,Zl (acc),Zf S,Zf C,Zf p,(Zf (.lst (Kh s O Rs uT R))),v9]) ?_).trans ?_
 ·have hz':(uT.map λo=>D.tup [s,.tup [o]]).length=40:=by rw[Qqz,hz]
  unfold Kh;generalize(uT.map λo=>D.tup [s,.tup [o]])=ML at *;have g:bJ (.lst ([.non,.tup [],.lst [s,.tup Rs],.tup [s],.tup [s,.lst Rs],.tup [.str [117,112],.tup Rs]]++ML)) (.lst [.tup [.non,.tup Rs],.tup [s,.tup Rs,.int 1],.tup [s,.tup (five [R])]])=some (.lst ([.non,.tup [],.lst [s,.tup Rs],.tup [s],.tup [s,.lst Rs],.tup [.str [117,112],.tup Rs]]++ML++[.tup [.non,.tup Rs],.tup [s,.tup Rs,.int 1],.tup [s,.tup (five [R])]])):=Cv (by rw[Qqj,hz'];show 6+40+3<=sizeLine;decide);generalize D.lst ([.non,.tup [],.lst [s,.tup Rs],.tup [s],.tup [s,.lst Rs],.tup [.str [117,112],.tup Rs]]++ML++[.tup [.non,.tup Rs],.tup [s,.tup Rs,.int 1],.tup [s,.tup (five [R])]])=G2 at *;generalize D.lst ([.non,.tup [],.lst [s,.tup Rs],.tup [s],.tup [s,.lst Rs],.tup [.str [117,112],.tup Rs]]++ML)=G1 at *;generalize five [R]=F5 at *;clear h hm hn hl hz ha hO;generalize D.tup Rs=B at *
  ac_rfl
 exact yp (lc3 hm h (by omega) _ v9) (by rw[Qqz,hl];omega)
end
section
variable{T O R W S p C s:D}{k:List Nat}{more uT:List D}(hm:more.length<=1)(hC:C = .tup (.str k::T::s::R::R::more))
include hm hC
theorem side1:∀L acc (v8 v9:OD),acc.length+L.length<=9000->∃v',mQ (aq 9) nY L [Zf T,Zf O,Zf R,Zf W,Zl (acc),Zf S,Zf C,Zf p,v8,v9] = .nx [Zf T,Zf O,Zf R,Zf W,(Zl (acc++L.map λo=>pr (.tup (.str k::T::o::R::R::more)) p)),Zf S,Zf C,Zf p,v8,v']
 | [],acc,v8,v9,_=>⟨v9,by rw[Qj3,Qw1];rfl⟩
 | o::L,acc,v8,v9,hl=>by
  rw[Qqv] at hl;obtain⟨v',ih⟩:=side1 L (acc++[pr (.tup (.str k::T::o::R::R::more)) p]) v8 (Zf o) (by rw[Qqj];show acc.length+1+L.length<=9000;omega);refine⟨v',?_⟩;rw[Qx6] at ih;have hc:=cut T s (R::R::more) (by simp only[Qqv];omega)<|.str k;rw[<-hC] at hc;have h1:nY [Zf T,Zf O,Zf R,Zf W,Zl<|acc,Zf S,Zf C,Zf p,v8,Zf o] = .nx [Zf T,Zf O,Zf R,Zf W,(Zl<|acc++[pr (.tup (.str k::T::o::R::R::more)) p]),Zf S,Zf C,Zf p,v8,Zf o]:=
   app (at3 (by simp only[Qqv];omega) hc o (Zl acc) v8 (Zf o) [] (aJ 9) rfl) (by omega)
  rw[Nv,Qq7];show wj (nY [Zf T,Zf O,Zf R,Zf W,Zl<|acc,Zf S,Zf C,Zf p,v8,Zf o]) _=_;rw[h1,kNx,ih]
  rfl
theorem side2:∀(L acc:List D) (v8 v9:OD),acc.length+2*L.length<=9000->∃v',mQ (aq 9) lB L [Zf T,Zf O,Zf R,Zf W,Zl (acc),Zf S,Zf C,Zf p,v8,v9] = .nx [Zf T,Zf O,Zf R,Zf W,(Zl (acc++L.flatMap λo=>[pr (.tup (.str k::T::s::o::R::more)) p,pr (.tup (.str k::T::s::R::o::more)) p])),Zf S,Zf C,Zf p,v8,v']
 | [],acc,v8,v9,_=>⟨v9,by rw[List.flatMap_nil,Qw1];rfl⟩
 | o::L,acc,v8,v9,hl=>by
  rw[Qqv] at hl;obtain⟨v',ih⟩:=side2 L (acc++[pr (.tup (.str k::T::s::o::R::more)) p,pr (.tup (.str k::T::s::R::o::more)) p]) v8 (Zf o) (by rw[Qqj];show acc.length+2+2*L.length<=9000;omega);refine⟨v',?_⟩;rw[Qx6] at ih;have h1:lB [Zf T,Zf O,Zf R,Zf W,Zl (acc),Zf S,Zf C,Zf p,v8,Zf o] = .nx [Zf T,Zf O,Zf R,Zf W,(Zl (acc++[pr (.tup (.str k::T::s::o::R::more)) p,pr (.tup (.str k::T::s::R::o::more)) p])),Zf S,Zf C,Zf p,v8,Zf o]:=by
   have a1:sU C none (some 3)=some (.tup [.str k,T,s]):=by rw[hC];exact ajR (k:=3) (by simp)
   have a2:sU C (some 4) none=some (.tup (R::more)):=by rw[hC];exact agt (k:=4) (by simp)
   have a3:sU C none (some 4)=some (.tup [.str k,T,s,R]):=by rw[hC];exact ajR (k:=4) (by simp)
   have a4:sU C (some 5) none=some (.tup more):=by rw[hC];exact agt (k:=5) (by simp)
   have g1:bJ (.tup [.str k,T,s,o]) (.tup (R::more))=some (.tup (.str k::T::s::o::R::more)):=mq (by simp only[Qqv,Qw3,sizeLine,Nat.reducePow];omega);have g2:bJ (.tup [.str k,T,s,R,o]) (.tup more)=some (.tup (.str k::T::s::R::o::more)):=mq (by simp only[Qqv,Qw3,sizeLine,Nat.reducePow];omega);unfold lB pr;generalize D.tup (.str k::T::s::R::o::more)=Q2 at *;generalize D.tup (.str k::T::s::o::R::more)=Q1 at *;generalize D.tup (R::more)=RM at *;generalize D.tup more=MM at *;generalize D.str k=K at *;clear ih hC hm
   ac_rfl
   rw[Qx6]
   rfl
  rw[Nv,List.flatMap_cons];show wj (lB [Zf T,Zf O,Zf R,Zf W,Zl (acc),Zf S,Zf C,Zf p,v8,Zf o]) _=_;rw[h1,kNx,ih]
theorem ap2(hn:dU [R,S]=some (.lst uT))(hz:uT.length=40){acc:List D}(ha:acc.length<=5000)(v8 v9:OD):∃v',sdS [Zf T,Zf O,Zf R,Zf W,Zl (acc),Zf S,Zf C,Zf p,v8,v9] = .nx [Zf T,Zf O,Zf R,Zf W,Zl (acc++X2s uT k T s R more p),Zf S,Zf C,Zf p,v8,v']:=by
 obtain⟨v1,f1⟩:=side1 (O:=O) (W:=W) (S:=S) (p:=p) hm hC SD acc v8 v9 (by show acc.length+6<=9000;omega);obtain⟨v2,f2⟩:=side2 (O:=O) (W:=W) (S:=S) (p:=p) hm hC uT (acc++SD.map λo=>pr (.tup (.str k::T::o::R::R::more)) p) v8 v1 (by rw[Qqj];show acc.length+6+_<=9000;omega);refine⟨v2,?_⟩;unfold sdS;refine(aW (e:=[Zf T,Zf O,Zf R,Zf W,(Zl (acc++SD.map λo=>pr (.tup (.str k::T::o::R::R::more)) p)),Zf S,Zf C,Zf p,v8,v1]) ?_).trans ?_
 ·exact(jK (by rfl)).trans f1
 ·refine(jK (ds:=uT) (e:=[Zf T,Zf O,Zf R,Zf W,(Zl (acc++SD.map λo=>pr (.tup (.str k::T::o::R::R::more)) p)),Zf S,Zf C,Zf p,v8,v1]) ?_).trans ?_
  ·clear f1 f2 hC hm ha
   ac_rfl
  ·rw[f2];unfold X2s X2;rw[Qx6]
end
structure Made(x:List Nat)(T O R W S s:D)(Rs PK uT:List D):Prop where
 hx:x∈XL
 U0:bM [T]=some (.bl true)
 snd:cX [T]=some (.tup (fc x))
 sd:s∈sides
 ord:O = .tup [s,.tup Rs]
 ns:iD [T]=some (.lst PK)
 nsl:PK.length=23
 nsb:∀d∈PK,bM [d]=some (.bl false)
 nr:dU [R,S]=some (.lst uT)
 nrl:uT.length=40
 nrb:∀d∈uT,dF [T,d]=some (.bl false)
 osb:∀d∈Kh s O Rs uT R,eQ [T,d]=some (.bl false)
 atO:f9 "tuple" s=some (.bl false)
structure Kind(T O R s:D)(e:Ent):Prop where
 known:Known T e
 six:∃b,xK (.str e.k) six=some (.bl b)/\(b=true->∃i o b',e.qs=i++[(kW,o,b')])
 two:(∃r,e.qs=(kO,O,true)::r)\/∃r,e.qs=(kS,s,true)::(kR,R,true)::(kR,R,true)::r/\r.length<=1
section
variable{x:List Nat}{T O R W S s:D}{Rs PK uT:List D}(M:Made x T O R W S s Rs PK uT)
include M
theorem adx{e:Ent}(h:Known T e){b:Bool}(h6:b=true->∃i o b',e.qs=i++[(kW,o,b')]){a:D}{more:List D}(hq:jR e.qs=a::more)(p:D):fC (Xt b W (.str e.k) T a more p (.tup (.str e.k::T::a::more))):=by
 have h0:0<e.qs.length:=by have:=Qx7 List.length hq;unfold jR at this;rw[Qqz,Qqv] at this;omega
 have h4:=alv h M.U0 p h0;have h5:=alu h p;rw[hq] at h4 h5;unfold Xt;refine fC.app ?_ (fC.app h4 h5);unfold X3i;split
 ·rename_i hb;obtain⟨i,o,b',he⟩:=h6 hb;have h3:=alw h M.U0 M.hx M.snd (W:=W) he p;unfold X3 at h3;rw[hq] at h3;exact h3
 ·exact fC.nil
theorem adw(b:Bool)(K a p C:D)(more:List D):(Xt b W K T a more p C).length<=15:=by
 have hl:(X3i b W K T a more p).length<=7:=by
  unfold X3i;split
  ·rw[Qqz];show 7<=7;exact Qq0 _
  ·exact Qxx _
 unfold Xt;rw[Qqj];show _+8<=15;omega
theorem body{e:Ent}(h:Kind T O R s e){acc:List D}(ha:acc.length<=4000)(hb:fC acc){C p:D}(hC:C=cl T e)(hp:p=e.paper)(v8 v9:OD):∃acc' w8 w9,rm [Zf T,Zf O,Zf R,Zf W,Zl (acc),Zf S,Zf C,Zf p,v8,v9] = .nx [Zf T,Zf O,Zf R,Zf W,Zl (acc'),Zf S,Zf C,Zf p,w8,w9]/\fC acc'/\acc'.length<=acc.length+150:=by
 obtain⟨b,hb6,h6⟩:=h.six;have hle:=h.known.len;have hth:(jR e.qs).length=e.qs.length:=by unfold jR;rw[Qqz]
 rw[aj2];rcases h.two with ⟨r,hq⟩|⟨r,hq,hr⟩
 ·have ht:jR e.qs=O::jR r:=by rw[hq];rfl
  have hm:(jR r).length<=5:=by rw[ht,Qqv] at hth;omega
  have hc:=cut T O (jR r) hm (.str e.k);have hCe:C = .tup (.str e.k::T::O::jR r):=by rw[hC];unfold cl;rw[ht]
  rw[<-hCe] at hc;have a1:=adC h.known M.nsb p;have a2:=adB h.known M.U0 hq (Kh:=Kh s O Rs uT R) (λd hd=>aeV (M.osb d hd)) p;have a3:=adx M h.known h6 ht p;rw[<-hCe] at a3;unfold X1 at a1;unfold X2 at a2;rw[ht] at a1;have hl2:(Kh s O Rs uT R).length=49:=by
   unfold Kh;rw[Qqj,Qqj,Qqz,M.nrl]
   rfl
  have l3:=adw M b (.str e.k) O p C (jR r);refine⟨_,_,_,(aW (yp (lc1 hm hc M.ns (by rw[M.nsl];decide) (Zf (.lst acc)) v8 v9) (by rw[Qqz,M.nsl];omega))).trans ((aW ((lG ?_).trans (amy hm hc M.ord M.nr M.nrl (by rw[Qqj,Qqz,M.nsl];omega) v8 v9))).trans (tail_eq hm hc hb6 (by rw[Qqj,Qqj,Qqz,Qqz,M.nsl,hl2];omega) _ _)),(((hb.app a1).app a2).app a3),?_⟩
  ·have i2:=hc.i2;have hO:f9 "tuple" O=some (.bl true):=by rw[M.ord];rfl
   generalize acc++PK.map (λo=>pr (.tup (.str e.k::o::O::jR r)) p)=AC;clear a1 a2 a3 hc hCe M h hb6 h6 hC hp
   ac_rfl
  ·rw[Qqj,Qqj,Qqj,Qqz,Qqz,M.nsl,hl2];omega
 ·have ht:jR e.qs=s::R::R::jR r:=by rw[hq];rfl
  have hr':(jR r).length<=1:=by unfold jR;rw[Qqz];exact hr
  have hm:(R::R::jR r).length<=5:=by simp only[Qqv];omega
  have hc:=cut T s (R::R::jR r) hm (.str e.k);have hCe:C = .tup (.str e.k::T::s::R::R::jR r):=by rw[hC];unfold cl;rw[ht]
  rw[<-hCe] at hc;have a1:=adC h.known M.nsb p;have a2:=ahk h.known M.U0 hq M.nrb p;have a3:=adx M h.known h6 ht p;rw[<-hCe] at a3;unfold X1 at a1;rw[ht] at a1;have hl2:(X2s uT e.k T s R (jR r) p).length=86:=by
   have:∀L:List D,(L.flatMap λo=>[pr (.tup (.str e.k::T::s::o::R::jR r)) p,pr (.tup (.str e.k::T::s::R::o::jR r)) p]).length=2*L.length:=λL=>by
    induction L with
    | nil=>rfl
    | cons o L ih=>rw[List.flatMap_cons,Qqj,ih];simp only[Qqv,Qw3];omega
   unfold X2s;rw[Qqj,this,M.nrl]
   rfl
  have l3:=adw M b (.str e.k) s p C (R::R::jR r);obtain⟨v',f2⟩:=ap2 (O:=O) (W:=W) (S:=S) (p:=p) hr' hCe M.nr M.nrl (acc:=acc++PK.map λo=>pr (.tup (.str e.k::o::s::R::R::jR r)) p) (by rw[Qqj,Qqz,M.nsl];omega) v8 v9;refine⟨_,_,_,(aW (yp (lc1 hm hc M.ns (by rw[M.nsl];decide) (Zf (.lst acc)) v8 v9) (by rw[Qqz,M.nsl];omega))).trans ((aW ((nG ?_).trans f2)).trans (tail_eq hm hc hb6 (by rw[Qqj,Qqj,Qqz,M.nsl,hl2];omega) _ _)),(((hb.app a1).app a2).app a3),?_⟩
  ·have i2:=hc.i2;have hO:=M.atO;generalize acc++PK.map (λo=>pr (.tup (.str e.k::o::s::R::R::jR r)) p)=AC at *;clear a1 a2 a3 hc hCe M h hb6 h6 hC hp f2
   ac_rfl
  ·rw[Qqj,Qqj,Qqj,Qqz,M.nsl,hl2];omega
theorem bodies:∀(L:List Ent) (acc:List D) (v6 v7 v8 v9:OD),(∀e∈L,Kind T O R s e)->acc.length+150*L.length<=4000->fC acc->∃acc' w6 w7 w8 w9,mQ (cO 2 (aN (aq 6) (aN (aq 7) cQ))) rm (L.map λe=>pr (cl T e) e.paper) [Zf T,Zf O,Zf R,Zf W,Zl (acc),Zf S,v6,v7,v8,v9] = .nx [Zf T,Zf O,Zf R,Zf W,Zl (acc'),Zf S,w6,w7,w8,w9]/\fC acc'/\acc'.length<=acc.length+150*L.length
 | [],acc,v6,v7,v8,v9,_,_,hb=>⟨acc,v6,v7,v8,v9,rfl,hb,by simp⟩
 | e::L,acc,v6,v7,v8,v9,hk,hl,hb=>by
  rw[Qqv] at hl;obtain⟨au8,w8,w9,h1,h2,h3⟩:=body M (hk e (Qqw ..)) (acc:=acc) (by omega) hb (C:=cl T e) (p:=e.paper) rfl rfl v8 v9;obtain⟨acc',u6,u7,u8,u9,ih,h4,h5⟩:=bodies L au8 (Zf (cl T e)) (Zf e.paper) w8 w9 (λe' he=>hk e' (Qqk _ he)) (by omega) h2;refine⟨acc',u6,u7,u8,u9,?_,h4,by rw[Qqv];omega⟩;rw[Qq7];exact(K14.Ro (e1:=[Zf T,Zf O,Zf R,Zf W,Zl acc,Zf S,Zf (cl T e),Zf e.paper,v8,v9]) rfl h1).trans ih
end
theorem ana:∀m∈MK,∃zs,m = .tup zs/\zs.length<=1000:=by
 have h:(MK.all λm=>match m with|.tup zs=>decide (zs.length<=1000)|_=>false)=true:=by decide +kernel
 intro m hm;have:=Qwk.mp h m hm;split at this
 ·exact⟨_,rfl,Qw8 this⟩
 ·cases this
structure Drawn(x:List Nat)(rs:List D)(s:D)(Rs:List D)(w ch l r:D)(u:List Nat):Prop where
 hx:x∈XL
 rows:qU (fc x) rs
 sd:s∈sides
 hR:∀Q∈Rs,agQ x Q
 few:Rs.length<=2
 rul:dW x w ch l r
 chg:bQ [.tup (fc x),ch]=some (.bl true)
 wrd:∀c∈u,c∈x
 wl:u.length<=3
section
variable{x:List Nat}{rs:List D}{s:D}{Rs:List D}{w ch l r:D}{u:List Nat}(d:Drawn x rs s Rs w ch l r u)
include d
theorem ap0:cX [.tup rs]=some (.tup (fc x)):=by rw[Be];exact j7.sounds_of (oK x d.hx) d.rows.rows
theorem YQ:rs.length=x.length:=by rw[d.rows.rows.len];simp[fc]
theorem fine:asC (.tup rs) s (.tup [w,ch,l,r]) Rs u (.str []) (.tup [.tup [.str [],.tup (List.replicate rs.length (.tup [.str [],.int 0]))]]):=by have hs:=ap0 d;have h4:=j7.oJ x (oK x d.hx);have hl:=YQ d;have hst:=is_stock d.hx d.rows;have hRD:gG x (.tup [w,ch,l,r]):=⟨w,ch,l,r,rfl,d.rul⟩;have hRs:∀R∈Rs,gG x R:=λR h=>(d.hR R h).ok;have hm:=machine hs (rs:=rs) rfl (by omega);have ho:=Wa (T:=.tup rs) d.sd (Rs:=Rs) (Qqy d.few (by decide)) (λ_=>true) (λR h=>(d.hR R h).isr _ hs);rw[show Rs.all (λ_=>true)=true by simp] at ho;have few:=d.few;have wl:=d.wl;exact⟨d.sd,hst,ho,is_rule d.hx hs d.rul d.chg,is_word hs d.wrd (by omega),is_word hs (by simp) (by decide),hm,ad7 d.few,ad4 d.hx d.sd hRD,VB d.hx d.sd hRD,Yt d.hx d.sd hRs d.few hm,ad8 d.hx d.sd hRs d.few d.wrd (by omega)⟩
theorem aq3:∃PK uT,Made x (.tup rs) (.tup [s,.tup Rs]) (.tup [w,ch,l,r]) (.str u) (.str x) s Rs PK uT:=by
 have hs:=ap0 d;have h4:=j7.oJ x (oK x d.hx);have h0:=j7.vY x (oK x d.hx);have hl:=YQ d;obtain⟨ds,rfl,d0,d4⟩:=aoY d.rul.chg;have arO:=d.rows;have hxx:=d.hx;have hc:∃c x' m rs',x=c::x'/\rs = .tup [.str [c],m]::rs'/\m∈MK:=by
  match x,rs,h0,arO with
  | c::x',_,_,.cons hm hr=>exact⟨c,x',_,_,rfl,rfl,hm⟩
 obtain⟨c,x',m,rs',hxe,hre,hm⟩:=hc;obtain⟨zs,rfl,hz⟩:=ana m hm;have hcx:c∈x:=by rw[hxe];exact Qqw ..
 have hos:Kh s (.tup [s,.tup Rs]) Rs (NR w (.tup ds) l r c ds) (.tup [w,.tup ds,l,r])=OS s Rs w l r c ds:=rfl;refine⟨NS rs c zs,NR w (.tup ds) l r c ds,d.hx,is_stock d.hx d.rows,hs,d.sd,rfl,ace hre (by omega) hz,rfl,apr d.hx d.rows hcx zs,?_,rfl,agW d.hx hcx hs d.rul d.chg,?_,?_⟩
 ·rw[hxe];exact afc w l r c x' d0 d4
 ·rw[hos];exact apq d.hx hcx hs d.sd d.rul d.chg
 ·rcases Qq2.mp d.sd with rfl|h
  ·rfl
  ·cases Qq4.mp h
   rfl
theorem kinds:∀e∈ENT s (.tup [w,ch,l,r]) (.tup [s,.tup Rs]) (.str u) (MCn rs.length),Kind (.tup rs) (.tup [s,.tup Rs]) (.tup [w,ch,l,r]) s e:=by
 have F:=fine d;intro e he;simp only[ENT,Qq2,Qxw,or_false] at he;rcases he with rfl|rfl|rfl|rfl|rfl|rfl|rfl|rfl|rfl|rfl|rfl|rfl|rfl|rfl
 ·exact⟨k1 F,⟨true,rfl,λ_=>⟨[_,_],_,_,rfl⟩⟩,.inl ⟨_,rfl⟩⟩
 ·exact⟨k2 F,⟨false,rfl,λh=>by cases h⟩,.inl ⟨_,rfl⟩⟩
 ·exact⟨k3 F _,⟨false,rfl,λh=>by cases h⟩,.inl ⟨_,rfl⟩⟩
 ·exact⟨k4 F,⟨false,rfl,λh=>by cases h⟩,.inl ⟨_,rfl⟩⟩
 ·exact⟨k5 F _,⟨true,rfl,λ_=>⟨[_],_,_,rfl⟩⟩,.inl ⟨_,rfl⟩⟩
 ·exact⟨k6 F,⟨false,rfl,λh=>by cases h⟩,.inl ⟨_,rfl⟩⟩
 ·exact⟨k7 F _,⟨true,rfl,λ_=>⟨[_,_,_,_],_,_,rfl⟩⟩,.inl ⟨_,rfl⟩⟩
 ·exact⟨k8 F,⟨false,rfl,λh=>by cases h⟩,.inl ⟨_,rfl⟩⟩
 ·exact⟨k9 F _,⟨true,rfl,λ_=>⟨[_,_,_],_,_,rfl⟩⟩,.inl ⟨_,rfl⟩⟩
 ·exact⟨kA F,⟨true,rfl,λ_=>⟨[_,_,_],_,_,rfl⟩⟩,.inr ⟨_,rfl,show 1<=1 by decide⟩⟩
 ·exact⟨kB' F,⟨true,rfl,λ_=>⟨[_,_,_],_,_,rfl⟩⟩,.inr ⟨_,rfl,show 1<=1 by decide⟩⟩
 ·exact⟨kC F,⟨false,rfl,λh=>by cases h⟩,.inr ⟨_,rfl,show 0<=1 by decide⟩⟩
 ·exact⟨kD F,⟨false,rfl,λh=>by cases h⟩,.inr ⟨_,rfl,show 0<=1 by decide⟩⟩
 ·exact⟨kE F,⟨false,rfl,λh=>by cases h⟩,.inl ⟨_,rfl⟩⟩
theorem bad:∃L,GR [.tup rs,.tup [s,.tup Rs],.tup [w,ch,l,r],.str u]=some (.lst L)/\fC L:=by
 obtain⟨PK,uT,M⟩:=aq3 d;have hk:=kinds d;have h4:=j7.oJ x (oK x d.hx);have h0:=j7.vY x (oK x d.hx);have hl:=YQ d;have hc:=aoX (rs:=rs) (by omega) (by omega) s (.tup Rs) (.tup [w,ch,l,r]) (.str u);have hsn:=j7.Mw (oK x d.hx) d.rows.rows;rw[<-Qf] at hsn;have hel:(ENT s (.tup [w,ch,l,r]) (.tup [s,.tup Rs]) (.str u) (MCn rs.length)).length<=14:=Qq0 _;generalize ENT s (.tup [w,ch,l,r]) (.tup [s,.tup Rs]) (.str u) (MCn rs.length)=EL at *;obtain⟨acc',w6,w7,w8,w9,h1,h2,_⟩:=bodies M EL [] none none none none hk (by show 0+_<=4000;omega) fC.nil;refine⟨acc',?_,h2⟩;generalize D.tup rs=T at *;generalize D.tup [s,.tup Rs]=O at *;generalize D.tup [w,ch,l,r]=R at *;generalize D.str u=W at *;generalize D.str x=S at *;refine fM (env:=[Zf T,Zf O,Zf R,Zf W,Zf (.lst acc'),Zf S,w6,w7,w8,w9]) ?_;unfold RD;refine(aW (e:=[Zf T,Zf O,Zf R,Zf W,Zl [],Zn,Zn,Zn,Zn,Zn]) rfl).trans ?_;refine(aW (e:=[Zf T,Zf O,Zf R,Zf W,Zl ([]),Zf S,Zn,Zn,Zn,Zn]) ?_).trans ?_
 ·exact dI (bA (ds:=[T]) (by rfl) hsn) (by rfl)
 refine(aW ((jK (yt (bA (ds:=[T,O,R,W]) (by rfl) hc) (by rfl))).trans h1)).trans ?_
 rfl
end
theorem loop:∀(L:List D) (a0 a1 a2 a3 a4 a5 a6 v7 v8 v9:OD),fC L->∃u7 u8 u9,mQ (cO 2 (aN (aq 7) (aN (aq 8) cQ))) Mv L [a0,a1,a2,a3,a4,a5,a6,v7,v8,v9] = .nx [a0,a1,a2,a3,a4,a5,a6,u7,u8,u9]
 | [],_,_,_,_,_,_,_,v7,v8,v9,_=>⟨v7,v8,v9,rfl⟩
 | dd::L,a0,a1,a2,a3,a4,a5,a6,v7,v8,v9,h=>by
  obtain⟨c,p,rfl,hb⟩:=h dd (Qqw ..);obtain⟨u7,u8,u9,ih⟩:=loop L a0 a1 a2 a3 a4 a5 a6 (Zf c) (Zf p) (Zb false) (λd hd=>h d (Qqk _ hd));refine⟨u7,u8,u9,(K14.Ro (e1:=[a0,a1,a2,a3,a4,a5,a6,Zf c,Zf p,v9]) rfl ?_).trans ih⟩;have hb':rA [c,p]=some (.bl false):=hb;have t:f9 "bool" (.bl false)=some (.bl true):=rfl;unfold Mv;clear hb h ih
  ac_rfl
theorem afp(ns:List Int)(hl:ns.length<=63)(hb:aal ns)(k:Int)(h0:0<=k)(h1:k<=400)(a2 a3 a4 a5 a6 a7 a8 a9:OD):∃b2 b3 b4 b5 b6 b7 b8 b9,Bv [(Zf (.arr (ns.map .int))),Zf (.int k),a2,a3,a4,a5,a6,a7,a8,a9] = .nx [(Zf (.arr (ns.map .int))),Zf (.int k),b2,b3,b4,b5,b6,b7,b8,b9]:=by
 obtain⟨p,hp⟩:=j7.pack ns hl hb k h0 (by omega);rw[<-aaL] at hp;obtain⟨x,rs,n,hx,hst,hr⟩:=stock p;obtain⟨s,Rs,n1,hor,hs,hRs,hRl⟩:=order n x hx 2 (by decide);obtain⟨q,hq⟩:=j7.pack ns hl hb (k+2) (by omega) (by omega);rw[<-aaL] at hq;obtain⟨w,ch,l,r,q1,hru,hok,hch⟩:=rule q x (oK x hx);obtain⟨u,q2,hw,w1,w2⟩:=K20.word q1 x (oK x hx) 3 (by decide);rw[<-ahm] at hw;have hsn:=j7.Mw (oK x hx) hr.rows;rw[<-Qf] at hsn;obtain⟨L,hL,hB⟩:=bad ⟨hx,hr,hs,hRs,hRl,hok,hch,w1,w2⟩;generalize hA:((Zf (.arr (ns.map .int))):OD)=A0;generalize D.tup rs=T at *;generalize D.tup [s,.tup Rs]=O at *;generalize D.tup [w,ch,l,r]=R at *;generalize D.str u=W at *;obtain⟨u7,u8,u9,hlp⟩:=loop L A0 (Zf (.int k)) (Zl [.int n1]) (Zf T) (Zs x) (Zl [.int q2]) (Zf O) a7 a8 a9 hB;refine⟨(Zl [.int n1]),Zf T,Zs x,Zl [.int q2],Zf O,u7,u8,u9,?_⟩;unfold Bv;refine(aW (e:=[A0,Zf (.int k),Zl [.int p],a3,a4,a5,a6,a7,a8,a9]) ?_).trans ?_
 ·rw[<-hA];exact(KJ (bA (by rfl) hp)).trans rfl
 refine(aW (e:=[A0,Zf (.int k),Zl [.int n],Zf T,a4,a5,a6,a7,a8,a9]) ?_).trans ?_
 ·exact dI (d:=T) (e:=[A0,Zf (.int k),Zl [.int n],a3,a4,a5,a6,a7,a8,a9]) (jG (x:=.lst [.int p]) (x0:=.lst [.int p]) (ds:=[]) (e1:=[A0,Zf (.int k),Zl [.int p],a3,a4,a5,a6,a7,a8,a9]) (by rfl) (by rfl) (by rfl) hst) (by rfl)
 refine(aW (e:=[A0,Zf (.int k),Zl [.int n],Zf T,Zs x,a5,a6,a7,a8,a9]) ?_).trans ?_
 ·exact dI (bA (ds:=[T]) (by rfl) hsn) (by rfl)
 refine(aW (e:=[A0,Zf (.int k),Zl [.int n],Zf T,Zs x,Zl [.int q],a6,a7,a8,a9]) ?_).trans ?_
 ·rw[<-hA];exact(KJ (bA (by rfl) hq)).trans rfl
 refine(aW (e:=[A0,Zf (.int k),Zl [.int n1],Zf T,Zs x,Zl [.int q],Zf O,a7,a8,a9]) ?_).trans ?_
 ·exact dI (jG (by rfl) (by rfl) (by rfl) hor) (by rfl)
 have g1:iW pD 5 (Zv 4 ao) [A0,Zf (.int k),Zl [.int n1],Zf T,Zs x,Zl [.int q],Zf O,a7,a8,a9] = .ok R [A0,Zf (.int k),Zl [.int n1],Zf T,Zs x,Zl [.int q1],Zf O,a7,a8,a9]:=jG (x:=.lst [.int q]) (x0:=.lst [.int q]) (ds:=[.str x]) (e1:=[A0,Zf (.int k),Zl [.int n1],Zf T,Zs x,Zl [.int q],Zf O,a7,a8,a9]) (by rfl) (by rfl) (by rfl) hru;have g2:iW mR 5 (Zv 4 (aa (Zi 3) ao)) [A0,Zf (.int k),Zl [.int n1],Zf T,Zs x,Zl [.int q1],Zf O,a7,a8,a9] = .ok W [A0,Zf (.int k),Zl [.int n1],Zf T,Zs x,Zl [.int q2],Zf O,a7,a8,a9]:=jG (x:=.lst [.int q1]) (x0:=.lst [.int q1]) (ds:=[.str x,.int 3]) (e1:=[A0,Zf (.int k),Zl [.int n1],Zf T,Zs x,Zl [.int q1],Zf O,a7,a8,a9]) (by rfl) (by rfl) (by rfl) hw;exact(jK (yt (bA (ds:=[T,O,R,W]) (bw (by rfl) (bw (by rfl) (bw g1 (bw g2 dq)))) hL) (by rfl))).trans hlp
theorem adT(ns:List Int)(hl:ns.length<=63)(hb:aal ns):aa1 [.arr (ns.map .int)]=some (.bl true):=by
 have hlen:az dM (aa (bI 0) ao) [(Zf (D.arr (ns.map .int))),Zn,Zn,Zn,Zn,Zn,Zn,Zn,Zn,Zn] = .ok (.int (ns.length:Int)) [(Zf (D.arr (ns.map .int))),Zn,Zn,Zn,Zn,Zn,Zn,Zn,Zn,Zn]:=by
  show R.ok (D.int ((ns.map D.int).length:Int)) _=_
  simp_all
 obtain⟨ds,hds,hk⟩:∃ds,jy (aa (Zi 0) (aa (az acI (aa (Zi 1) (aa (az acH (aa (az dM (aa (bI 0) ao)) (aa (Zi 18) ao))) ao))) (aa (Zi 6) ao))) [(Zf (D.arr (ns.map .int))),Zn,Zn,Zn,Zn,Zn,Zn,Zn,Zn,Zn] = .ok ds [(Zf (D.arr (ns.map .int))),Zn,Zn,Zn,Zn,Zn,Zn,Zn,Zn,Zn]/\∀d∈ds,∃k:Int,d = .int k/\0<=k/\k<=400:=by
  generalize hE:([(Zf (D.arr (ns.map .int))),Zn,Zn,Zn,Zn,Zn,Zn,Zn,Zn,Zn]:Ev.Env)=env at hlen ⊢;have a1:aa (Zi 0) (aa (az acI (aa (Zi 1) (aa (az acH (aa (az dM (aa (bI 0) ao)) (aa (Zi 18) ao))) ao))) (aa (Zi 6) ao)) env = .ok [.int 0,.int (if (if (18:Int)<ns.length then 18 else (ns.length:Int)) > 1 then (if (18:Int)<ns.length then 18 else (ns.length:Int)) else 1),.int 6] env:=
   bw (by rfl) (bw (bA (bw (by rfl) (bw (bA (bw hlen (by rfl)) (by rfl)) dq)) (by rfl)) (by rfl))
  generalize hm:(if (if (18:Int)<ns.length then 18 else (ns.length:Int)) > 1 then (if (18:Int)<ns.length then 18 else (ns.length:Int)) else 1)=m at a1;have hm1:1<=m/\m<=18:=by omega
  obtain⟨j,rfl⟩:∃j:Nat,m=(j:Int):=⟨m.toNat,by omega⟩;have hsm:(6:Int)≠0/\(6:Int).natAbs<1073741824/\Builtin.Range.small 0 (j:Int) 6=true:=by
   refine⟨by decide,by decide,?_⟩;have hall:((List.range 51).all λj=>Builtin.Range.small 0 (j:Int) 6)=true:=by rfl
   grind
  have hsz:(Builtin.Range.rangeSize 0 (j:Int) 6).toNat<=20:=by
   have hall:((List.range 51).all λj=>decide ((Builtin.Range.rangeSize 0 (j:Int) 6).toNat<=20))=true:=by rfl
   grind
  refine⟨iu 0 6 (Builtin.Range.rangeSize 0 (j:Int) 6).toNat,K20.xR a1 (Hj.ap9 hsm),λd hd=>?_⟩;unfold iu at hd
  grind
 obtain⟨e',f1,b1,b2,b3,b4,b5,b6,b7,b8,b9,rfl⟩:=W7 (g:=aq 1) (b:=Bv) (λenv=>∃b1 b2 b3 b4 b5 b6 b7 b8 b9,env=[(Zf (.arr (ns.map .int))),b1,b2,b3,b4,b5,b6,b7,b8,b9]) ds
  (λd hd env ⟨b1,b2,b3,b4,b5,b6,b7,b8,b9,he⟩=>by
   subst he;obtain⟨k,rfl,h0,h1⟩:=hk d hd;obtain⟨c2,c3,c4,c5,c6,c7,c8,c9,hb⟩:=afp ns hl hb k h0 h1 b2 b3 b4 b5 b6 b7 b8 b9;exact⟨_,_,rfl,hb,_,_,_,_,_,_,_,_,_,rfl⟩)
  [(Zf (.arr (ns.map .int))),Zn,Zn,Zn,Zn,Zn,Zn,Zn,Zn,Zn] ⟨_,_,_,_,_,_,_,_,_,rfl⟩
 refine fM (env:=[(Zf (.arr (ns.map .int))),b1,b2,b3,b4,b5,b6,b7,b8,b9]) ?_;unfold alg;refine(aW ?_).trans rfl;exact(jK hds).trans f1
end Ai
end
namespace Ai
open PySem PySem.Spec PyProof.Rows L2 Ev
theorem all_mk{P:Program}{w:World}{K:Fg}{h:Heap}{mg:Str->Option Value}{fa:Addr}(X:K.In h)(G:h.Ns mainGlobals mg)(hfa:mg "law" = some (.ref fa))
  {alG:Tok} {abB:Tok} {Kz:Tok} {Td:Tok} {Tc:Tok} {S9:Tok} {Ov:Tok} {WX:Addr} {afZ:Nat} {acF:Array (Option Value)} {acE acD:Tok} {aaW:Addr} {aji:Nat} {afY:Array (Option Value)} {afX afW:Tok} {Cr:Addr} {WT:Nat} {Rj Rh Rf Rb Q9 Q7 Q5 Q3 QZ QW Nf M9 M7 M5:Tok} {GP GJ GC Gy Gw Gu Gr Gp Gm Gj Ab z9 z7 zZ:Value} {ZR:Nat} {Wz:Array (Option Value)} {MN:Addr} {BL BK:Tok} {ZS:Nat} {WD:Array (Option Value)} {MP:Addr} {BV BR BP:Tok} {ZV:Nat} {WK:Array (Option Value)} {MT:Addr} {BZ BX BW:Tok} {ZW:Nat} {WL:Array (Option Value)} {M3:Addr} {Ci Cg Ce Ca:Tok} {acq:Nat} {Zy:Array (Option Value)} {QD:Addr} {HD HB Hy Hx:Tok} {acr:Nat} {Zz:Array (Option Value)} {QF:Addr} {HJ HF:Tok} {acs:Nat} {ZC:Array (Option Value)} {QG:Addr} {HR HQ HN:Tok} {acu:Nat} {ZD:Array (Option Value)} {QH:Addr} {HY HX HW HS:Tok} {acv:Nat} {ZF:Array (Option Value)} {QJ:Addr} {Ij Ii Ih Ig Ie:Tok} {acw:Nat} {ZG:Array (Option Value)} {QK:Addr} {Il Ik:Tok} {acx:Nat} {ZJ:Array (Option Value)} {QL:Addr} {Ip Io Im:Tok} {acy:Nat} {ZK:Array (Option Value)} {QM:Addr} {Iu Ir:Tok} {acz:Nat} {ZM:Array (Option Value)} {QR:Addr} {Iw Iv:Tok} {acA:Nat} {ZP:Array (Option Value)} {QT:Addr} {IW IV IK:Tok} {Cq:Addr} {WR:Nat} {Ri Rg Rc Ra Q8 Q6 Q4 Q0 QX QV Nb M8 M6 M4:Tok} {GK GF Gz Gx Gv Gs Gq Gn Gk Gi Aa z8 z6 zY:Value}
  (akt:PySem.W.nsIn K mainGlobals "all" = some none) (adv:PySem.W.nsIn K mainGlobals "bool" = some none) (adu:PySem.W.nsIn K mainGlobals "dict" = some none) (U6:PySem.W.nsIn K mainGlobals "divmod" = some none) (Hk:PySem.W.nsIn K mainGlobals "enumerate" = some none) (aks:PySem.W.nsIn K mainGlobals "int" = some none) (Am:PySem.W.nsIn K mainGlobals "isinstance" = some none) (akr:PySem.W.nsIn K mainGlobals "len" = some none) (adt:PySem.W.nsIn K mainGlobals "list" = some none) (akq:PySem.W.nsIn K mainGlobals "max" = some none) (akp:PySem.W.nsIn K mainGlobals "min" = some none) (aan:PySem.W.nsIn K mainGlobals "range" = some none) (U5:PySem.W.nsIn K mainGlobals "sorted" = some none) (ako:PySem.W.nsIn K mainGlobals "str" = some none) (aam:PySem.W.nsIn K mainGlobals "tuple" = some none) (akn:PySem.W.nsIn K mainGlobals "zip" = some none) (uJ:∀d:D,PySem.W.kitOne K (.type (tyD d)) (.type "bool")=some (sY d "bool")) (BJ:∀d:D,PySem.W.kitOne K (.type (tyD d)) (.type "int")=some (sY d "int")) (vB:∀d:D,PySem.W.kitOne K (.type (tyD d)) (.type "str")=some (sY d "str")) (fK:∀d:D,PySem.W.kitOne K (.type (tyD d)) (.type "tuple")=some (sY d "tuple")) (ZZ:PySem.W.nsIn K mainGlobals "EDGE" = some (some (.str "#" alG))) (GQ:PySem.W.nsIn K mainGlobals "LETTERS" = some (some (.str "abcdefghijklmnopqrstuvwxyz" abB))) (sr:PySem.W.nsIn K mainGlobals "MOST_LETTERS" = some (some (.int 8 Kz))) (vH:PySem.W.nsIn K mainGlobals "MOST_MARKS" = some (some (.int 4 Td))) (vG:PySem.W.nsIn K mainGlobals "MOST_PAIRS" = some (some (.int 6 Tc))) (vD:PySem.W.nsIn K mainGlobals "MOST_RULES" = some (some (.int 4 S9))) (ur:PySem.W.nsIn K mainGlobals "MOST_SOUNDS" = some (some (.int 4 Ov))) (Uj:PySem.W.nsIn K mainGlobals "SIDES" = some (some (.ref WX))) (iQ:K.lookup WX=some ⟨.type "tuple",none,.seq #[.str "left" acE,.str "right" acD] afZ,acF⟩) (ZX:PySem.W.nsIn K mainGlobals "WAYS" = some (some (.ref aaW))) (rn:K.lookup aaW=some ⟨.type "tuple",none,.seq #[.str "once" afX,.str "along" afW] aji,afY⟩) (Ul:PySem.W.nsIn K mainGlobals "PARTS" = some (some (.ref Cr))) (Nh:(Cr == sysModules)=false) (uK:K.lookup Cr=some ⟨.type "dict",none,.dict #[⟨PyData.keyHash w.params (strOf [109,97,107,101,115]),.str (strOf [109,97,107,101,115]) Rj,GP⟩,⟨PyData.keyHash w.params (strOf [109,97,99,104,105,110,101]),.str (strOf [109,97,99,104,105,110,101]) Rh,GJ⟩,⟨PyData.keyHash w.params (strOf [97,108,105,107,101]),.str (strOf [97,108,105,107,101]) Rf,GC⟩,⟨PyData.keyHash w.params (strOf [112,97,114,116,101,100]),.str (strOf [112,97,114,116,101,100]) Rb,Gy⟩,⟨PyData.keyHash w.params (strOf [110,111,32,115,111,117,114,99,101]),.str (strOf [110,111,32,115,111,117,114,99,101]) Q9,Gw⟩,⟨PyData.keyHash w.params (strOf [101,110,100,108,101,115,115]),.str (strOf [101,110,100,108,101,115,115]) Q7,Gu⟩,⟨PyData.keyHash w.params (strOf [110,111,32,99,111,109,109,111,110]),.str (strOf [110,111,32,99,111,109,109,111,110]) Q5,Gr⟩,⟨PyData.keyHash w.params (strOf [97,99,116,115]),.str (strOf [97,99,116,115]) Q3,Gp⟩,⟨PyData.keyHash w.params (strOf [110,101,118,101,114]),.str (strOf [110,101,118,101,114]) QZ,Gm⟩,⟨PyData.keyHash w.params (strOf [109,97,107,101,115,32,119,97,121]),.str (strOf [109,97,107,101,115,32,119,97,121]) QW,Gj⟩,⟨PyData.keyHash w.params (strOf [116,97,107,101,115]),.str (strOf [116,97,107,101,115]) Nf,Ab⟩,⟨PyData.keyHash w.params (strOf [110,111,32,119,97,121]),.str (strOf [110,111,32,119,97,121]) M9,z9⟩,⟨PyData.keyHash w.params (strOf [110,111,32,116,97,107,105,110,103]),.str (strOf [110,111,32,116,97,107,105,110,103]) M7,z7⟩,⟨PyData.keyHash w.params (strOf [113,117,97,114,114,101,108]),.str (strOf [113,117,97,114,114,101,108]) M5,zZ⟩] WT, #[]⟩) (zN:zZ = .ref MN) (zJ:K.lookup MN=some ⟨.type "tuple",none,.seq #[.str (strOf [111,114,100,101,114]) BL,.str (strOf [98,111,111,107]) BK] ZR,Wz⟩) (zP:z7 = .ref MP) (zK:K.lookup MP=some ⟨.type "tuple",none,.seq #[.str (strOf [115,105,100,101]) BV,.str (strOf [114,117,108,101]) BR,.str (strOf [114,117,108,101]) BP] ZS,WD⟩) (zQ:z9 = .ref MT) (zL:K.lookup MT=some ⟨.type "tuple",none,.seq #[.str (strOf [115,105,100,101]) BZ,.str (strOf [114,117,108,101]) BX,.str (strOf [114,117,108,101]) BW] ZV,WK⟩) (zT:Ab = .ref M3) (zM:K.lookup M3=some ⟨.type "tuple",none,.seq #[.str (strOf [115,105,100,101]) Ci,.str (strOf [114,117,108,101]) Cg,.str (strOf [114,117,108,101]) Ce,.str (strOf [119,111,114,100]) Ca] ZW,WL⟩) (Fq:Gj = .ref QD) (Ez:K.lookup QD=some ⟨.type "tuple",none,.seq #[.str (strOf [115,105,100,101]) HD,.str (strOf [114,117,108,101]) HB,.str (strOf [114,117,108,101]) Hy,.str (strOf [119,111,114,100]) Hx] acq,Zy⟩) (Ft:Gm = .ref QF) (EY:K.lookup QF=some ⟨.type "tuple",none,.seq #[.str (strOf [111,114,100,101,114]) HJ,.str (strOf [110,117,109,98,101,114]) HF] acr,Zz⟩) (Fv:Gp = .ref QG) (Fb:K.lookup QG=some ⟨.type "tuple",none,.seq #[.str (strOf [111,114,100,101,114]) HR,.str (strOf [110,117,109,98,101,114]) HQ,.str (strOf [119,111,114,100]) HN] acs,ZC⟩) (Fw:Gr = .ref QH) (Fd:K.lookup QH=some ⟨.type "tuple",none,.seq #[.str (strOf [111,114,100,101,114]) HY,.str (strOf [111,114,100,101,114]) HX,.str (strOf [119,111,114,100]) HW,.str (strOf [119,111,114,100]) HS] acu,ZD⟩) (Fx:Gu = .ref QJ) (Fe:K.lookup QJ=some ⟨.type "tuple",none,.seq #[.str (strOf [111,114,100,101,114]) Ij,.str (strOf [119,111,114,100]) Ii,.str (strOf [119,111,114,100]) Ih,.str (strOf [119,111,114,100]) Ig,.str (strOf [119,111,114,100]) Ie] acv,ZF⟩) (Fy:Gw = .ref QK) (Ff:K.lookup QK=some ⟨.type "tuple",none,.seq #[.str (strOf [111,114,100,101,114]) Il,.str (strOf [119,111,114,100]) Ik] acw,ZG⟩) (Fz:Gy = .ref QL) (Fi:K.lookup QL=some ⟨.type "tuple",none,.seq #[.str (strOf [111,114,100,101,114]) Ip,.str (strOf [111,114,100,101,114]) Io,.str (strOf [119,111,114,100]) Im] acx,ZJ⟩) (FJ:GC = .ref QM) (Fj:K.lookup QM=some ⟨.type "tuple",none,.seq #[.str (strOf [111,114,100,101,114]) Iu,.str (strOf [111,114,100,101,114]) Ir] acy,ZK⟩) (FP:GJ = .ref QR) (Fl:K.lookup QR=some ⟨.type "tuple",none,.seq #[.str (strOf [111,114,100,101,114]) Iw,.str (strOf [109,97,99,104,105,110,101]) Iv] acz,ZM⟩) (FQ:GP = .ref QT) (Fo:K.lookup QT=some ⟨.type "tuple",none,.seq #[.str (strOf [111,114,100,101,114]) IW,.str (strOf [119,111,114,100]) IV,.str (strOf [119,111,114,100]) IK] acA,ZP⟩) (Uk:PySem.W.nsIn K mainGlobals "SHOWN" = some (some (.ref Cq))) (Ng:(Cq == sysModules)=false) (xH:K.lookup Cq=some ⟨.type "dict",none,.dict #[⟨PyData.keyHash w.params (strOf [109,97,107,101,115]),.str (strOf [109,97,107,101,115]) Ri,GK⟩,⟨PyData.keyHash w.params (strOf [109,97,99,104,105,110,101]),.str (strOf [109,97,99,104,105,110,101]) Rg,GF⟩,⟨PyData.keyHash w.params (strOf [97,108,105,107,101]),.str (strOf [97,108,105,107,101]) Rc,Gz⟩,⟨PyData.keyHash w.params (strOf [112,97,114,116,101,100]),.str (strOf [112,97,114,116,101,100]) Ra,Gx⟩,⟨PyData.keyHash w.params (strOf [110,111,32,115,111,117,114,99,101]),.str (strOf [110,111,32,115,111,117,114,99,101]) Q8,Gv⟩,⟨PyData.keyHash w.params (strOf [101,110,100,108,101,115,115]),.str (strOf [101,110,100,108,101,115,115]) Q6,Gs⟩,⟨PyData.keyHash w.params (strOf [110,111,32,99,111,109,109,111,110]),.str (strOf [110,111,32,99,111,109,109,111,110]) Q4,Gq⟩,⟨PyData.keyHash w.params (strOf [97,99,116,115]),.str (strOf [97,99,116,115]) Q0,Gn⟩,⟨PyData.keyHash w.params (strOf [110,101,118,101,114]),.str (strOf [110,101,118,101,114]) QX,Gk⟩,⟨PyData.keyHash w.params (strOf [109,97,107,101,115,32,119,97,121]),.str (strOf [109,97,107,101,115,32,119,97,121]) QV,Gi⟩,⟨PyData.keyHash w.params (strOf [116,97,107,101,115]),.str (strOf [116,97,107,101,115]) Nb,Aa⟩,⟨PyData.keyHash w.params (strOf [110,111,32,119,97,121]),.str (strOf [110,111,32,119,97,121]) M8,z8⟩,⟨PyData.keyHash w.params (strOf [110,111,32,116,97,107,105,110,103]),.str (strOf [110,111,32,116,97,107,105,110,103]) M6,z6⟩,⟨PyData.keyHash w.params (strOf [113,117,97,114,114,101,108]),.str (strOf [113,117,97,114,114,101,108]) M4,zY⟩] WR, #[]⟩) (zU:PySem.W.nsIn K mainGlobals "quarrel_shown" = some (some zY)) (zV:PySem.W.nsIn K mainGlobals "no_taking_shown" = some (some z6)) (zW:PySem.W.nsIn K mainGlobals "no_way_shown" = some (some z8)) (zX:PySem.W.nsIn K mainGlobals "taking_shown" = some (some Aa)) (FT:PySem.W.nsIn K mainGlobals "way_shown" = some (some Gi)) (FW:PySem.W.nsIn K mainGlobals "never_shown" = some (some Gk)) (FZ:PySem.W.nsIn K mainGlobals "acts_shown" = some (some Gn)) (Ga:PySem.W.nsIn K mainGlobals "no_common_shown" = some (some Gq)) (Gb:PySem.W.nsIn K mainGlobals "endless_shown" = some (some Gs)) (Gd:PySem.W.nsIn K mainGlobals "no_source_shown" = some (some Gv)) (Ge:PySem.W.nsIn K mainGlobals "parted_shown" = some (some Gx)) (Gf:PySem.W.nsIn K mainGlobals "alike_shown" = some (some Gz)) (Gg:PySem.W.nsIn K mainGlobals "machine_shown" = some (some GF)) (Gh:PySem.W.nsIn K mainGlobals "makes_shown" = some (some GK)) (R5:FA K "is_name" DY) (Oc:FA K "is_sound" zr) (abe:FA K "rises" Tz) (R4:FA K "is_pair" DX) (Jo:FA K "are_marks" xn) (tV:FA K "is_marked_sound" nQ) (Jf:FA K "sounds_of" wW) (Oa:FA K "is_stock" zp) (RW:FA K "is_word" DP) (wI:FA K "changes_sound" qI) (yO:FA K "puts_one_in" t6) (yQ:FA K "are_changes" ug) (Jl:FA K "are_signs" xj) (R1:FA K "is_rule" DR) (Od:FA K "is_order" zx) (agL:FA K "fits" YM) (Xv:FA K "turned" K9) (RQ:FA K "puts_in" DK) (yN:FA K "with_put_in" tY) (yg:FA K "with_changes" rF) (Jk:FA K "from_left" xg) (R8:FA K "changed" Ec) (agJ:FA K "walk" YK) (agK:FA K "made" YL) (wF:FA K "reading_rules" qC) (uP:FA K "first_standing" oZ) (N8:FA K "is_whole" zm) (tU:FA K "is_number_below" nO) (Xw:FA K "is_row" La) (Df:FA K "are_rising" vo) (RX:FA K "is_step" DQ) (Ob:FA K "is_state" zq) (De:FA K "is_machine" vh) (yj:FA K "is_told_pair" rN) (R7:FA K "is_book" Eb) (R6:FA K "is_held" Ea) (sJ:FC K "machine_plan" rK) (pM:FC K "two_rules_plan" oX) (R3:FA K "is_part" DW) (Jm:FA K "are_parts" xm) (wH:FA K "is_machine_of" qG) (qb:FA K "makes_shown" ue) (mD:FA K "machine_shown" qD) (qd:FA K "alike_shown" um) (oG:FA K "parted_shown" rH) (j5:FA K "no_source_shown" nJ) (j6:FA K "no_common_shown" nM) (mF:FA K "endless_shown" qH) (rB:FA K "acts_shown" vp) (p8:FA K "never_shown" t7) (tR:FA K "way_shown" wV) (oF:FA K "taking_shown" rG) (oH:FA K "no_way_shown" rJ) (j4:FA K "no_taking_shown" nH) (RT:FA K "layings" Qh) (qR:FA K "quarrel_shown" wg) (abf:FA K "holds" TF) (Jj:FA K "_law_mixed" xf) (N7:FA K "_law_pack" zj) (N5:FA K "_law_take" zf) (Jg:FA K "_law_stock" wX) (Dc:FA K "_law_sounds" vf) (Jh:FA K "_law_signs" wY) (yP:FA K "_law_changes" uf) (N6:FA K "_law_rule" zg) (Ji:FA K "_law_order" wZ) (NZ:FA K "_law_word" zc) (wG:FA K "_law_no_stocks" qF) (yh:FA K "_law_no_rules" rM) (Dd:FA K "_law_claims" vg) (RV:FA K "_law_bad" DN) (ali:FA K "law" aeh) (tne:((jC K "two_rules_plan").2 == (jC K "machine_plan").2)=false) :
  (∀y∈tabs,∃cp,PySem.W.tabIn K y.1=some cp)/\∃fd:FuncData,(∀(s:Shared) (v:Value),BindsTo s fd ⟨[v],[]⟩ [("_law_script",v)])/\∀base:Heap,K.In base->base.Ns mainGlobals mg->(∀y∈tabs,PB base mg (jC K y.1).1 (jC K y.1).2)->pP P w K mg base yR 9 fa fd ["_law_script"] (spT (oV K tabs) (jg K 1 aa1)):=
 ⟨(λy hy=>by rcases Qq2.mp (show y ∈ [(("machine_plan" : Str),dX),(("two_rules_plan" : Str),dg)] from hy) with rfl|hy;exact sJ.tab;rcases Qq2.mp hy with rfl|hy;exact pM.tab;cases hy),ali.aul X G hfa (λs v=>.of_eq rfl) λbase hB F=>aoH ⟨yz X G akt,
  yz X G adv,
  yz X G adu,
  yz X G U6,
  yz X G Hk,
  yz X G aks,
  yz X G Am,
  yz X G akr,
  yz X G adt,
  yz X G akq,
  yz X G akp,
  yz X G aan,
  yz X G U5,
  yz X G ako,
  yz X G aam,
  yz X G akn,
  uJ,
  BJ,
  vB,
  fK,
  aaV X G ZZ (by decide +kernel) (by decide),
  aaV X G GQ (by decide +kernel) (by decide),
  Ck X G sr,
  Ck X G vH,
  Ck X G vG,
  Ck X G vD,
  Ck X G ur,
  WW X G Uj iQ (.str (by decide +kernel) (by decide)) (.str (by decide +kernel) (by decide)),
  WW X G ZX rn (.str (by decide +kernel) (by decide)) (.str (by decide +kernel) (by decide)),
  ⟨Cr,_,WT,Qzy X G Ul,Nh,uK,⟨Rj,GP,_,rfl,(λ_ h=>by cases h;subst FQ;exact iH (zs:=[[111,114,100,101,114],[119,111,114,100],[119,111,114,100]]) (ts:=[IW,IV,IK]) Fo rfl rfl (by decide)),⟨Rh,GJ,_,rfl,(λ_ h=>by cases h;subst FP;exact iH (zs:=[[111,114,100,101,114],[109,97,99,104,105,110,101]]) (ts:=[Iw,Iv]) Fl rfl rfl (by decide)),⟨Rf,GC,_,rfl,(λ_ h=>by cases h;subst FJ;exact iH (zs:=[[111,114,100,101,114],[111,114,100,101,114]]) (ts:=[Iu,Ir]) Fj rfl rfl (by decide)),⟨Rb,Gy,_,rfl,(λ_ h=>by cases h;subst Fz;exact iH (zs:=[[111,114,100,101,114],[111,114,100,101,114],[119,111,114,100]]) (ts:=[Ip,Io,Im]) Fi rfl rfl (by decide)),⟨Q9,Gw,_,rfl,(λ_ h=>by cases h;subst Fy;exact iH (zs:=[[111,114,100,101,114],[119,111,114,100]]) (ts:=[Il,Ik]) Ff rfl rfl (by decide)),⟨Q7,Gu,_,rfl,(λ_ h=>by cases h;subst Fx;exact iH (zs:=[[111,114,100,101,114],[119,111,114,100],[119,111,114,100],[119,111,114,100],[119,111,114,100]]) (ts:=[Ij,Ii,Ih,Ig,Ie]) Fe rfl rfl (by decide)),⟨Q5,Gr,_,rfl,(λ_ h=>by cases h;subst Fw;exact iH (zs:=[[111,114,100,101,114],[111,114,100,101,114],[119,111,114,100],[119,111,114,100]]) (ts:=[HY,HX,HW,HS]) Fd rfl rfl (by decide)),⟨Q3,Gp,_,rfl,(λ_ h=>by cases h;subst Fv;exact iH (zs:=[[111,114,100,101,114],[110,117,109,98,101,114],[119,111,114,100]]) (ts:=[HR,HQ,HN]) Fb rfl rfl (by decide)),⟨QZ,Gm,_,rfl,(λ_ h=>by cases h;subst Ft;exact iH (zs:=[[111,114,100,101,114],[110,117,109,98,101,114]]) (ts:=[HJ,HF]) EY rfl rfl (by decide)),⟨QW,Gj,_,rfl,(λ_ h=>by cases h;subst Fq;exact iH (zs:=[[115,105,100,101],[114,117,108,101],[114,117,108,101],[119,111,114,100]]) (ts:=[HD,HB,Hy,Hx]) Ez rfl rfl (by decide)),⟨Nf,Ab,_,rfl,(λ_ h=>by cases h;subst zT;exact iH (zs:=[[115,105,100,101],[114,117,108,101],[114,117,108,101],[119,111,114,100]]) (ts:=[Ci,Cg,Ce,Ca]) zM rfl rfl (by decide)),⟨M9,z9,_,rfl,(λ_ h=>by cases h;subst zQ;exact iH (zs:=[[115,105,100,101],[114,117,108,101],[114,117,108,101]]) (ts:=[BZ,BX,BW]) zL rfl rfl (by decide)),⟨M7,z7,_,rfl,(λ_ h=>by cases h;subst zP;exact iH (zs:=[[115,105,100,101],[114,117,108,101],[114,117,108,101]]) (ts:=[BV,BR,BP]) zK rfl rfl (by decide)),⟨M5,zZ,_,rfl,(λ_ h=>by cases h;subst zN;exact iH (zs:=[[111,114,100,101,114],[98,111,111,107]]) (ts:=[BL,BK]) zJ rfl rfl (by decide)),rfl⟩⟩⟩⟩⟩⟩⟩⟩⟩⟩⟩⟩⟩⟩,by decide +kernel⟩,
  ⟨Cq,_,WR,Qzy X G Uk,Ng,xH,⟨Ri,GK,_,rfl,(λ_ h=>by cases h;exact qb.valAt Gh),⟨Rg,GF,_,rfl,(λ_ h=>by cases h;exact mD.valAt Gg),⟨Rc,Gz,_,rfl,(λ_ h=>by cases h;exact qd.valAt Gf),⟨Ra,Gx,_,rfl,(λ_ h=>by cases h;exact oG.valAt Ge),⟨Q8,Gv,_,rfl,(λ_ h=>by cases h;exact j5.valAt Gd),⟨Q6,Gs,_,rfl,(λ_ h=>by cases h;exact mF.valAt Gb),⟨Q4,Gq,_,rfl,(λ_ h=>by cases h;exact j6.valAt Ga),⟨Q0,Gn,_,rfl,(λ_ h=>by cases h;exact rB.valAt FZ),⟨QX,Gk,_,rfl,(λ_ h=>by cases h;exact p8.valAt FW),⟨QV,Gi,_,rfl,(λ_ h=>by cases h;exact tR.valAt FT),⟨Nb,Aa,_,rfl,(λ_ h=>by cases h;exact oF.valAt zX),⟨M8,z8,_,rfl,(λ_ h=>by cases h;exact oH.valAt zW),⟨M6,z6,_,rfl,(λ_ h=>by cases h;exact j4.valAt zV),⟨M4,zY,_,rfl,(λ_ h=>by cases h;exact qR.valAt zU),rfl⟩⟩⟩⟩⟩⟩⟩⟩⟩⟩⟩⟩⟩⟩,by decide +kernel⟩,
  rB.val X G,
  qd.val X G,
  mF.val X G,
  mD.val X G,
  qb.val X G,
  p8.val X G,
  j6.val X G,
  j5.val X G,
  j4.val X G,
  oH.val X G,
  oG.val X G,
  oF.val X G,
  tR.val X G,
  tne,
  R5.a1 X G,
  Oc.a1 X G,
  abe.a1 X G,
  R4.a1 X G,
  Jo.a1 X G,
  tV.a1 X G,
  Jf.a1 X G,
  Oa.a1 X G,
  RW.a2 X G,
  wI.a2 X G,
  yO.a2 X G,
  yQ.a2 X G,
  Jl.a2 X G,
  R1.a2 X G,
  Od.a2 X G,
  agL.a2 X G,
  Xv.a1 X G,
  RQ.a1 X G,
  yN.a2 X G,
  yg.a2 X G,
  Jk.a2 X G,
  R8.a3 X G,
  agJ.a2 X G,
  agK.a2 X G,
  wF.a1 X G,
  uP.a1 X G,
  N8.a1 X G,
  tU.a2 X G,
  Xw.a2 X G,
  Df.a2 X G,
  RX.a3 X G,
  Ob.a3 X G,
  De.a2 X G,
  yj.a2 X G,
  R7.a2 X G,
  R6.a3 X G,
  sJ.at X G (fun|[_,_,_],_=>rfl),
  pM.at X G (fun|[_,_,_,_],_=>rfl),
  R3.a3 X G,
  Jm.a3 X G,
  wH.a4 X G,
  qb.a3 X G,
  mD.a3 X G,
  qd.a3 X G,
  oG.a3 X G,
  j5.a3 X G,
  j6.a3 X G,
  mF.a3 X G,
  rB.a3 X G,
  p8.a3 X G,
  tR.a3 X G,
  oF.a3 X G,
  oH.a3 X G,
  j4.a3 X G,
  RT.a1 X G,
  qR.a3 X G,
  abf.a2 X G,
  Jj.a1 X G,
  N7.a2 X G,
  N5.a2 X G,
  Jg.a1 X G,
  Dc.a1 X G,
  Jh.a2 X G,
  yP.a2 X G,
  N6.a2 X G,
  Ji.a3 X G,
  NZ.a3 X G,
  wG.a1 X G,
  yh.a2 X G,
  Dd.a4 X G,
  RV.a4 X G⟩ hB F⟩
end Ai
theorem PySem.W.Fast.tw8855111578581435288:True:=trivial
theorem PySem.W.Fast.tw3578453347547319485:True:=trivial
theorem PySem.W.Fast.tw16113956731268430360:True:=trivial
theorem PySem.W.Fast.tw2121798350429582152:True:=trivial
theorem PySem.W.Fast.tw14931789771135419926:True:=trivial
theorem PySem.W.Fast.tw1602301380695245553:True:=trivial
theorem PySem.W.Fast.tw6897745032244192347:True:=trivial
theorem PySem.W.Fast.tw6161993077383320105:True:=trivial
theorem PySem.W.Fast.tw984016738605482444:True:=trivial
theorem PySem.W.Fast.tw16237712946307146561:True:=trivial
theorem PySem.W.Fast.tw908509694251639495:True:=trivial
theorem PySem.W.Fast.tw2669209421088605678:True:=trivial
theorem PySem.W.Fast.tw13367301177110424511:True:=trivial
theorem PySem.W.Fast.tw5610339063584081974:True:=trivial
theorem PySem.W.Fast.tw12962437922969702624:True:=trivial
theorem PySem.W.Fast.tw781948900503410802:True:=trivial
theorem PySem.W.Fast.tw7303115634483785405:True:=trivial
theorem PySem.W.Fast.tw15216007618548394368:True:=trivial
theorem PySem.W.Fast.tw4480545542647784168:True:=trivial
theorem PySem.W.Fast.tw12570004284394596992:True:=trivial
theorem PySem.W.Fast.tw6693763710521951125:True:=trivial
theorem PySem.W.Fast.tw3993730049063052188:True:=trivial
theorem PySem.W.Fast.tw9513830827955890088:True:=trivial
theorem PySem.W.Fast.tw492705807028816569:True:=trivial
theorem PySem.W.Fast.tw9654570579069467278:True:=trivial
theorem PySem.W.Fast.tw14505147953933693756:True:=trivial
theorem PySem.W.Fast.tw15028663244937478216:True:=trivial
theorem PySem.W.Fast.tw13128602063072824275:True:=trivial
theorem PySem.W.Fast.tw18114001558708068988:True:=trivial
theorem PySem.W.Fast.tw5089693066990367032:True:=trivial
theorem PySem.W.Fast.tw16509941889359219523:True:=trivial
theorem PySem.W.Fast.tw1678683431419421756:True:=trivial
theorem PySem.W.Fast.tw5077352080654570269:True:=trivial
theorem PySem.W.Fast.tw16946247157446127519:True:=trivial
theorem PySem.W.Fast.tw8995954425324737659:True:=trivial
theorem PySem.W.Fast.tw11576536763628140174:True:=trivial
theorem PySem.W.Fast.tw3052427240256413586:True:=trivial
theorem PySem.W.Fast.tw397919121077675873:True:=trivial
theorem PySem.W.Fast.tw17065159762655923001:True:=trivial
theorem PySem.W.Fast.tw17989401734589483149:True:=trivial
theorem PySem.W.Fast.tw505664144507743472:True:=trivial
theorem PySem.W.Fast.tw17551496980088569947:True:=trivial
theorem PySem.W.Fast.tw5037451791515082678:True:=trivial
theorem PySem.W.Fast.tw8499709196604803821:True:=trivial
theorem PySem.W.Fast.tw9335226185520026933:True:=trivial
theorem PySem.W.Fast.tw12887520499240151613:True:=trivial
theorem PySem.W.Fast.tw14497868937012085667:True:=trivial
theorem PySem.W.Fast.tw12861434160932988049:True:=trivial
theorem PySem.W.Fast.tw17848722203977323923:True:=trivial
theorem PySem.W.Fast.tw17074334801941637521:True:=trivial
theorem PySem.W.Fast.tw6860438466816465660:True:=trivial
theorem PySem.W.Fast.tw1111226778550943500:True:=trivial
theorem PySem.W.Fast.tw6275563702445054681:True:=trivial
theorem PySem.W.Fast.tw2601052316957777650:True:=trivial
theorem PySem.W.Fast.tw11786111167316872752:True:=trivial
theorem PySem.W.Fast.tw15755177613053497256:True:=trivial
theorem PySem.W.Fast.tw7583187480506647394:True:=trivial
theorem PySem.W.Fast.tw3330775963534064861:True:=trivial
theorem PySem.W.Fast.tw9553466977918299709:True:=trivial
theorem PySem.W.Fast.tw5843122634421872566:True:=trivial
theorem PySem.W.Fast.tw15326063631753710571:True:=trivial
theorem PySem.W.Fast.tw12996590117722887513:True:=trivial
theorem PySem.W.Fast.tw9116813475595062724:True:=trivial
theorem PySem.W.Fast.tw10728945623089820385:True:=trivial
theorem PySem.W.Fast.tw18216929135979938616:True:=trivial
theorem PySem.W.Fast.tw5013548603749955117:True:=trivial
theorem PySem.W.Fast.tw5823811488893155642:True:=trivial
theorem PySem.W.Fast.tw15338722231368764174:True:=trivial
theorem PySem.W.Fast.tw13112991099903512043:True:=trivial
theorem PySem.W.Fast.tw4134043357146196710:True:=trivial
theorem PySem.W.Fast.tw17661492041284817713:True:=trivial
theorem PySem.W.Fast.tw16362044127784821456:True:=trivial
theorem PySem.W.Fast.tw5699030188316985548:True:=trivial
theorem PySem.W.Fast.tw17285293996270005882:True:=trivial
theorem PySem.W.Fast.tw15966442978989758391:True:=trivial
theorem PySem.W.Fast.tw18191782954572542248:True:=trivial
theorem PySem.W.Fast.tw13325741298379659616:True:=trivial
theorem PySem.W.Fast.tw5599220393743444642:True:=trivial
theorem PySem.W.Fast.tw9413640479091247514:True:=trivial
theorem PySem.W.Fast.tw18148185599787099979:True:=trivial
theorem PySem.W.Fast.tw15900011028821377544:True:=trivial
theorem PySem.W.Fast.tw3795557148099880496:True:=trivial
theorem PySem.W.Fast.tw12361269306178149337:True:=trivial
theorem PySem.W.Fast.tw13401417160428565566:True:=trivial
theorem PySem.W.Fast.tw8716160243914570754:True:=trivial
theorem PySem.W.Fast.tw15529418925586867984:True:=trivial
theorem PySem.W.Fast.tw4997885597301094842:True:=trivial
theorem PySem.W.Fast.tw16482285028956103360:True:=trivial
theorem PySem.W.Fast.tw15939933514719395850:True:=trivial
theorem PySem.W.Fast.tw5026613287285072660:True:=trivial
theorem PySem.W.Fast.tw2061141256009394975:True:=trivial
theorem PySem.W.Fast.tw11115373888760991420:True:=trivial
theorem PySem.W.Fast.tw14489495817913557341:True:=trivial
theorem PySem.W.Fast.tw3583980285453209856:True:=trivial
theorem PySem.W.Fast.tw7933690979042735767:True:=trivial
theorem PySem.W.Fast.tw4674122417916988853:True:=trivial
theorem PySem.W.Fast.tw13092688166972717262:True:=trivial
theorem PySem.W.Fast.tw8287990013598126944:True:=trivial
theorem PySem.W.Fast.tw18064712233139879835:True:=trivial
theorem PySem.W.Fast.tw1515285865537953591:True:=trivial
theorem PySem.W.Fast.tw1551308410366559017:True:=trivial
theorem PySem.W.Fast.tw3632132904459921659:True:=trivial
theorem PySem.W.Fast.tw2724345874510778068:True:=trivial
theorem PySem.W.Fast.tw12925736249361660756:True:=trivial
theorem PySem.W.Fast.tw13095342565375076519:True:=trivial
theorem PySem.W.Fast.tw5262178830047061277:True:=trivial
theorem PySem.W.Fast.tw9282038670739425142:True:=trivial
theorem PySem.W.Fast.tw14392369677431960123:True:=trivial
open PySem PySem.W PyProof.Rows
set_option maxRecDepth 100000 in
set_option maxHeartbeats 0 in
theorem PySem.Challenge.cw_soundrules_k66_things_that_are_none_holds : PySem.Challenge.rw_soundrules_k66_things_that_are_none.Holds := by
 w_on;o_law;k_head;(case hw=>w_witness2)
 k_fill
 refine Ev.alx (l:=PySem.Challenge.rw_soundrules_k66_things_that_are_none) (k:=9) (x:="_law_script") (f:=Ai.aa1) Ai.tabs rfl (by decide) rfl ⟨rfl,by decide,by decide⟩ (λw h Y=>PySem.W.km_in_of Y) Ai.adT (λw=>by kernel_rfl) (λy hy=>by rcases Qq2.mp (show y ∈ [(("machine_plan" : Str),Ai.dX),(("two_rules_plan" : Str),Ai.dg)] from hy) with rfl|hy;exact⟨_,rfl⟩;rcases Qq2.mp hy with rfl|hy;exact⟨_,rfl⟩;cases hy) ?F
 case F=>
  intro w mg fa h KX G hmg
  refine' Ai.all_mk KX G hmg ?akt ?adv ?adu ?U6 ?Hk ?aks ?Am ?akr ?adt ?akq ?akp ?aan ?U5 ?ako ?aam ?akn ?uJ ?BJ ?vB ?fK ?ZZ ?GQ ?sr ?vH ?vG ?vD ?ur ?Uj ?iQ ?ZX ?rn ?Ul ?Nh ?uK ?zN ?zJ ?zP ?zK ?zQ ?zL ?zT ?zM ?Fq ?Ez ?Ft ?EY ?Fv ?Fb ?Fw ?Fd ?Fx ?Fe ?Fy ?Ff ?Fz ?Fi ?FJ ?Fj ?FP ?Fl ?FQ ?Fo ?Uk ?Ng ?xH ?zU ?zV ?zW ?zX ?FT ?FW ?FZ ?Ga ?Gb ?Gd ?Ge ?Gf ?Gg ?Gh ?R5 ?Oc ?abe ?R4 ?Jo ?tV ?Jf ?Oa ?RW ?wI ?yO ?yQ ?Jl ?R1 ?Od ?agL ?Xv ?RQ ?yN ?yg ?Jk ?R8 ?agJ ?agK ?wF ?uP ?N8 ?tU ?Xw ?Df ?RX ?Ob ?De ?yj ?R7 ?R6 ?sJ ?pM ?R3 ?Jm ?wH ?qb ?mD ?qd ?oG ?j5 ?j6 ?mF ?rB ?p8 ?tR ?oF ?oH ?j4 ?RT ?qR ?abf ?Jj ?N7 ?N5 ?Jg ?Dc ?Jh ?yP ?N6 ?Ji ?NZ ?wG ?yh ?Dd ?RV ?ali ?tne
  (case uJ=>(intro d;cases d with|clo=>(show PySem.W.kitOne _ (.type "NoneType") (.type "bool")=some false;kit_is)|non=>(show PySem.W.kitOne _ (.type "NoneType") (.type "bool")=some false;kit_is)|bl=>(show PySem.W.kitOne _ (.type "bool") (.type "bool")=some true;kit_is)|int=>(show PySem.W.kitOne _ (.type "int") (.type "bool")=some false;kit_is)|str=>(show PySem.W.kitOne _ (.type "str") (.type "bool")=some false;kit_is)|tup=>(show PySem.W.kitOne _ (.type "tuple") (.type "bool")=some false;kit_is)|lst=>(show PySem.W.kitOne _ (.type "list") (.type "bool")=some false;kit_is)|arr=>(show PySem.W.kitOne _ (.type "list") (.type "bool")=some false;kit_is)|dct=>(show PySem.W.kitOne _ (.type "dict") (.type "bool")=some false;kit_is)|G8=>(show PySem.W.kitOne _ (.type "dict") (.type "bool")=some false;kit_is)))
  (case BJ=>(intro d;cases d with|clo=>(show PySem.W.kitOne _ (.type "NoneType") (.type "int")=some false;kit_is)|non=>(show PySem.W.kitOne _ (.type "NoneType") (.type "int")=some false;kit_is)|bl=>(show PySem.W.kitOne _ (.type "bool") (.type "int")=some true;kit_is)|int=>(show PySem.W.kitOne _ (.type "int") (.type "int")=some true;kit_is)|str=>(show PySem.W.kitOne _ (.type "str") (.type "int")=some false;kit_is)|tup=>(show PySem.W.kitOne _ (.type "tuple") (.type "int")=some false;kit_is)|lst=>(show PySem.W.kitOne _ (.type "list") (.type "int")=some false;kit_is)|arr=>(show PySem.W.kitOne _ (.type "list") (.type "int")=some false;kit_is)|dct=>(show PySem.W.kitOne _ (.type "dict") (.type "int")=some false;kit_is)|G8=>(show PySem.W.kitOne _ (.type "dict") (.type "int")=some false;kit_is)))
  (case vB=>(intro d;cases d with|clo=>(show PySem.W.kitOne _ (.type "NoneType") (.type "str")=some false;kit_is)|non=>(show PySem.W.kitOne _ (.type "NoneType") (.type "str")=some false;kit_is)|bl=>(show PySem.W.kitOne _ (.type "bool") (.type "str")=some false;kit_is)|int=>(show PySem.W.kitOne _ (.type "int") (.type "str")=some false;kit_is)|str=>(show PySem.W.kitOne _ (.type "str") (.type "str")=some true;kit_is)|tup=>(show PySem.W.kitOne _ (.type "tuple") (.type "str")=some false;kit_is)|lst=>(show PySem.W.kitOne _ (.type "list") (.type "str")=some false;kit_is)|arr=>(show PySem.W.kitOne _ (.type "list") (.type "str")=some false;kit_is)|dct=>(show PySem.W.kitOne _ (.type "dict") (.type "str")=some false;kit_is)|G8=>(show PySem.W.kitOne _ (.type "dict") (.type "str")=some false;kit_is)))
  (case fK=>(intro d;cases d with|clo=>(show PySem.W.kitOne _ (.type "NoneType") (.type "tuple")=some false;kit_is)|non=>(show PySem.W.kitOne _ (.type "NoneType") (.type "tuple")=some false;kit_is)|bl=>(show PySem.W.kitOne _ (.type "bool") (.type "tuple")=some false;kit_is)|int=>(show PySem.W.kitOne _ (.type "int") (.type "tuple")=some false;kit_is)|str=>(show PySem.W.kitOne _ (.type "str") (.type "tuple")=some false;kit_is)|tup=>(show PySem.W.kitOne _ (.type "tuple") (.type "tuple")=some true;kit_is)|lst=>(show PySem.W.kitOne _ (.type "list") (.type "tuple")=some false;kit_is)|arr=>(show PySem.W.kitOne _ (.type "list") (.type "tuple")=some false;kit_is)|dct=>(show PySem.W.kitOne _ (.type "dict") (.type "tuple")=some false;kit_is)|G8=>(show PySem.W.kitOne _ (.type "dict") (.type "tuple")=some false;kit_is)))
  (case ZZ=>k_is)
  (case GQ=>k_is)
  (case sr=>k_is)
  (case vH=>k_is)
  (case vG=>k_is)
  (case vD=>k_is)
  (case ur=>k_is)
  (case Uj=>k_is)
  (case iQ=>k_is)
  (case ZX=>k_is)
  (case rn=>k_is)
  (case Ul=>k_is)
  (case Nh=>rfl)
  (case uK=>k_is)
  (case zN=>rfl)
  (case zJ=>k_is)
  (case zP=>rfl)
  (case zK=>k_is)
  (case zQ=>rfl)
  (case zL=>k_is)
  (case zT=>rfl)
  (case zM=>k_is)
  (case Fq=>rfl)
  (case Ez=>k_is)
  (case Ft=>rfl)
  (case EY=>k_is)
  (case Fv=>rfl)
  (case Fb=>k_is)
  (case Fw=>rfl)
  (case Fd=>k_is)
  (case Fx=>rfl)
  (case Fe=>k_is)
  (case Fy=>rfl)
  (case Ff=>k_is)
  (case Fz=>rfl)
  (case Fi=>k_is)
  (case FJ=>rfl)
  (case Fj=>k_is)
  (case FP=>rfl)
  (case Fl=>k_is)
  (case FQ=>rfl)
  (case Fo=>k_is)
  (case Uk=>k_is)
  (case Ng=>rfl)
  (case xH=>k_is)
  (case zU=>k_is)
  (case zV=>k_is)
  (case zW=>k_is)
  (case zX=>k_is)
  (case FT=>k_is)
  (case FW=>k_is)
  (case FZ=>k_is)
  (case Ga=>k_is)
  (case Gb=>k_is)
  (case Gd=>k_is)
  (case Ge=>k_is)
  (case Gf=>k_is)
  (case Gg=>k_is)
  (case Gh=>k_is)
  (case tne=>kernel_rfl)
  all_goals first|k_is|(refine' Ev.FA.mk ?a ?l ?c ?k;(case a=>k_is);(case l=>k_is);(case c=>k_is);(case k=>k_is))|(refine' Ev.FC.mk ?a ?l ?c ?k ?lc ?v;(case a=>k_is);(case l=>k_is);(case c=>k_is);(case k=>k_is);(case lc=>k_is);(case v=>exact rfl))

