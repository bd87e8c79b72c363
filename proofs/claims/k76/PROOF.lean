import PyProof.Rows.All
import Wide.All
import OpenK.AllK
import Wide.FinOn
import Lean
import PyProof.EqAt
import PyProof.EqKinds
import PyProof.TupleCall
import PyProof.TupleKey
import PyProof.DictRoadsH
import PyProof.FactsAll.bool_1
import PyProof.AttrMissHeap
import KE.KDictOf
import PyProof.ListMulRoad
import PyProof.FactsAll.tuple_2
import KE.KSortTup
import PyProof.TupleOfSeq
import PyProof.ListRange
import PyProof.DictTable
import PyProof.Rows.TupTab
import PyProof.FactsAll.range_1
import KE.KDictList
import PyProof.SetRoads
import PyProof.DictTruth
import PySem.Challenge.RW_soundrules_k76_whole_orders_from_texts
noncomputable section
set_option Elab.async false
set_option linter.all false
set_option maxRecDepth 100000
set_option maxHeartbeats 4000000
theorem Qqq:type_of% @List.length_append:=@List.length_append
theorem Qqx:type_of% @List.length_map:=@List.length_map
theorem Qqz:type_of% @List.mem_cons_self:=@List.mem_cons_self
theorem Qqj:type_of% @List.mem_cons_of_mem:=@List.mem_cons_of_mem
theorem Qqk:type_of% @List.length_cons:=@List.length_cons
theorem Qqv:type_of% @PySem.wpAny_bind:=@PySem.wpAny_bind
theorem Qqw:type_of% @PySem.Heap.get?_push_of_some:=@PySem.Heap.get?_push_of_some
theorem Qqy:type_of% @Nat.le_trans:=@Nat.le_trans
theorem Qq0:type_of% @Nat.le_refl:=@Nat.le_refl
theorem Qq1:type_of% @List.size_toArray:=@List.size_toArray
theorem Qq2:type_of% @List.mem_singleton:=@List.mem_singleton
theorem Qq3:type_of% @List.mem_cons:=@List.mem_cons
theorem Qq4:type_of% @List.getElem?_eq_some_iff:=@List.getElem?_eq_some_iff
theorem Qq5:type_of% @List.all_eq_true:=@List.all_eq_true
theorem Qq6:type_of% @PySem.wpAny_pure:=@PySem.wpAny_pure
theorem Qq7:type_of% @of_decide_eq_true:=@of_decide_eq_true
theorem Qq8:type_of% @List.mem_map:=@List.mem_map
theorem Qq9:type_of% @Option.map_eq_some_iff:=@Option.map_eq_some_iff
theorem Qwq:type_of% @List.length_singleton:=@List.length_singleton
theorem Qwx:type_of% @List.getElem?_set_ne:=@List.getElem?_set_ne
theorem Qwz:type_of% @List.map_cons:=@List.map_cons
theorem Qwj:type_of% @PySem.Heap.lt_size:=@PySem.Heap.lt_size
theorem Qwk:type_of% @List.getElem?_set_self:=@List.getElem?_set_self
theorem Qwv:type_of% @PySem.Heap.get?_push_size:=@PySem.Heap.get?_push_size
theorem Qww:type_of% @List.mem_append_right:=@List.mem_append_right
theorem Qwy:type_of% @Bool.and_eq_true:=@Bool.and_eq_true
theorem Qw0:type_of% @Nat.lt_of_lt_of_le:=@Nat.lt_of_lt_of_le
theorem Qw1:type_of% @Option.some.inj:=@Option.some.inj
theorem Qw2:type_of% @Option.some.injEq:=@Option.some.injEq
theorem Qw3:type_of% @List.getElem?_append_left:=@List.getElem?_append_left
theorem Qw4:type_of% @List.mem_append:=@List.mem_append
theorem Qw5:type_of% @Nat.ne_of_lt:=@Nat.ne_of_lt
theorem Qw6:type_of% @List.append_assoc:=@List.append_assoc
theorem Qw7:type_of% @decide_eq_false:=@decide_eq_false
theorem Qw8:type_of% @Bool.false_ne_true:=@Bool.false_ne_true
theorem Qw9:type_of% @decide_eq_true:=@decide_eq_true
theorem Qxq:type_of% @List.getElem?_map:=@List.getElem?_map
theorem Qxx:type_of% @List.length_take:=@List.length_take
theorem Qxz:type_of% @List.getElem?_append_right:=@List.getElem?_append_right
theorem Qxj:type_of% @List.map_append:=@List.map_append
theorem Qxk:type_of% @List.not_mem_nil:=@List.not_mem_nil
theorem Qxv:type_of% @Option.isSome_iff_exists:=@Option.isSome_iff_exists
theorem Qxw:type_of% @PyProof.Rows.slot_tuple_getitem:=@PyProof.Rows.slot_tuple_getitem
theorem Qxy:type_of% @beq_eq_false_iff_ne:=@beq_eq_false_iff_ne
theorem Qx0:type_of% @List.length_reverse:=@List.length_reverse
theorem Qx1:type_of% @List.length_set:=@List.length_set
theorem Qx2:type_of% @List.lookup_cons:=@List.lookup_cons
theorem Qx3:type_of% @Nat.zero_le:=@Nat.zero_le
theorem Qx4:type_of% @Nat.lt_of_le_of_lt:=@Nat.lt_of_le_of_lt
theorem Qx5:type_of% @PyProof.Rows.callWith_type1:=@PyProof.Rows.callWith_type1
theorem Qx6:type_of% @List.length_drop:=@List.length_drop
theorem Qx7:type_of% @Option.bind_eq_some_iff:=@Option.bind_eq_some_iff
theorem Qx8:type_of% @List.getD_eq_getElem?_getD:=@List.getD_eq_getElem?_getD
theorem Qx9:type_of% @List.mem_append_left:=@List.mem_append_left
theorem Qzq:type_of% @congrArg:=@congrArg
theorem Qzx:type_of% @List.eq_nil_of_length_eq_zero:=@List.eq_nil_of_length_eq_zero
theorem Qzz:type_of% @List.getElem?_eq_getElem:=@List.getElem?_eq_getElem
theorem Qzj:type_of% @List.length_replicate:=@List.length_replicate
theorem Qzk:type_of% @List.getElem?_replicate:=@List.getElem?_replicate
theorem Qzv:type_of% @Bool.and_eq_true_iff:=@Bool.and_eq_true_iff
theorem Qzw:type_of% @PySem.wpAny_truthy_bool:=@PySem.wpAny_truthy_bool
theorem Qzy:type_of% @List.mem_range:=@List.mem_range
theorem Qz0:type_of% @List.getElem?_take_of_lt:=@List.getElem?_take_of_lt
theorem Qz1:type_of% @PySem.wpAny_mono:=@PySem.wpAny_mono
theorem Qz2:type_of% @List.mem_flatMap:=@List.mem_flatMap
theorem Qz3:type_of% @List.mem_of_getElem?:=@List.mem_of_getElem?
theorem Qz4:type_of% @List.map_map:=@List.map_map
theorem Qz5:type_of% @Nat.ne_of_gt:=@Nat.ne_of_gt
theorem Qz6:type_of% @List.foldl_cons:=@List.foldl_cons
theorem Qz7:type_of% @List.getElem_mem:=@List.getElem_mem
theorem Qz8:type_of% @Nat.lt_irrefl:=@Nat.lt_irrefl
theorem Qz9:type_of% @PySem.wpAny_holding:=@PySem.wpAny_holding
theorem Qjq:type_of% @Nat.le_of_ble_eq_true:=@Nat.le_of_ble_eq_true
theorem Qjx:type_of% @List.append_nil:=@List.append_nil
theorem Qjz:type_of% @List.nodup_cons:=@List.nodup_cons
theorem Qjj:type_of% @PySem.wpAny_newObj_type:=@PySem.wpAny_newObj_type
theorem Qjk:type_of% @List.map_congr_left:=@List.map_congr_left
theorem Qjv:type_of% @Array.length_toList:=@Array.length_toList
theorem Qjw:type_of% @List.flatten_append:=@List.flatten_append
theorem Qjy:type_of% @PySem.mem_of_lookup:=@PySem.mem_of_lookup
theorem Qj0:type_of% @beq_self_eq_true:=@beq_self_eq_true
theorem Qj1:type_of% @List.pairwise_cons:=@List.pairwise_cons
theorem Qj2:type_of% @List.find?_cons:=@List.find?_cons
theorem Qj3:type_of% @Bool.eq_iff_iff:=@Bool.eq_iff_iff
theorem Qj4:type_of% @Nat.le_of_succ_le:=@Nat.le_of_succ_le
theorem Qj5:type_of% @Nat.le_of_lt:=@Nat.le_of_lt
theorem Qj6:type_of% @or_false:=@or_false
abbrev nDb(x:PySem.Str):Prop:=(x == ("__debug__" : PySem.Str))=false
abbrev nCd(x:PySem.Str):Prop:=(x == ("__classdict__" : PySem.Str))=false
open PySem PySem.Spec PyProof.Rows in
abbrev sEn(e:Expr)(E:PySem.Env):Prop:=starEach [e] E=(false,eval e E)::starEach [] E
namespace L2
open PySem PySem.Spec PyProof.Rows
inductive NK where
 | num (i:Int)
 | txt (x:Str)
 | tup (xs:List NK)
noncomputable instance:DecidableEq NK:=λ_ _=>Classical.propDecidable _
mutual
def IsN(h:Heap):NK->Value->Prop
 | .num i,v=>(∃t,v = .int i t)\/∃b:Bool,v = .bool b/\i=if b then 1 else 0
 | .txt x,v=>∃t,v = .str x t
 | .tup ks,v=>∃a o items n,v = .ref a/\h.get? a=some o/\o.cls = .type "tuple"/\o.data = .seq items n/\IsNs h ks items.toList
def IsNs(h:Heap):List NK->List Value->Prop
 | [],vs=>vs=[]
 | k::ks,vs=>∃v r,vs=v::r/\IsN h k v/\IsNs h ks r
end
mutual
def NK.dep:NK->Nat
 | .num _=>0
 | .txt _=>0
 | .tup ks=>1+NK.deps ks
def NK.deps:List NK->Nat
 | []=>0
 | k::ks=>max (NK.dep k) (NK.deps ks)
end
mutual
def NK.draws:NK->Nat
 | .num _=>1
 | .txt _=>1
 | .tup ks=>NK.drawss ks+1
def NK.drawss:List NK->Nat
 | []=>0
 | k::ks=>NK.draws k+NK.drawss ks
end
section
variable(P:Program)(w:World)
mutual
def NK.hash:NK->Int
 | .num i=>hashInt i
 | .txt x=>(strKind P w).hash x
 | .tup ks=>reduceHash (Builtin.Tuple.tupleHashOf (NK.hashes ks))
def NK.hashes:List NK->List Int
 | []=>[]
 | k::ks=>NK.hash k::NK.hashes ks
end
end
theorem IsNs.length{h:Heap}:∀{ks:List NK} {vs:List Value},IsNs h ks vs->vs.length=ks.length
 | [],_,e=>by cases e;rfl
 | k::ks,_,e=>by obtain⟨v,r,rfl,_,q⟩:=e;rw[Qqk,Qqk,q.length]
theorem IsNs.get{h:Heap}:∀{ks:List NK} {vs:List Value} {j:Nat} {v:Value},IsNs h ks vs->vs[j]? = some v->∃k,ks[j]? = some k/\IsN h k v
 | [],_,_,_,e,g=>by cases e;simp at g
 | k::ks,_,j,v,e,g=>by
  obtain⟨u,r,rfl,h1,h2⟩:=e;cases j with
  | zero=>simp at g;subst g;exact⟨k,rfl,h1⟩
  | succ j=>obtain⟨k',e1,e2⟩:=IsNs.get h2 (j:=j) (by simpa using g);exact⟨k',by simpa using e1,e2⟩
theorem NK.deps_mem:∀{ks:List NK} {j:Nat} {k:NK},ks[j]? = some k->k.dep<=NK.deps ks
 | [],_,_,e=>by simp at e
 | c::ks,j,k,e=>by
  unfold NK.deps;cases j with
  | zero=>simp at e;subst e;exact Nat.le_max_left _ _
  | succ j=>exact Qqy (NK.deps_mem (j:=j) (by simpa using e)) (Nat.le_max_right _ _)
mutual
theorem IsN.inj{h:Heap}:∀{x y:NK} {v:Value},IsN h x v->IsN h y v->x=y
 | .num i,.num j,v,a,b=>by
  rcases a with ⟨t,rfl⟩|⟨c,rfl,rfl⟩
  ·rcases b with ⟨t',e⟩|⟨c,e,_⟩
   ·cases e;rfl
   ·cases e
  ·rcases b with ⟨t',e⟩|⟨c,e,rfl⟩
   ·cases e
   ·cases e;rfl
 | .num i,.txt x,v,a,b=>by obtain⟨t,rfl⟩:=b;rcases a with ⟨t',e⟩|⟨c,e,_⟩<;>cases e
 | .num i,.tup ks,v,a,b=>by obtain⟨_,_,_,_,rfl,_⟩:=b;rcases a with ⟨t',e⟩|⟨c,e,_⟩<;>cases e
 | .txt x,.num i,v,a,b=>by obtain⟨t,rfl⟩:=a;rcases b with ⟨t',e⟩|⟨c,e,_⟩<;>cases e
 | .txt x,.txt y,v,a,b=>by obtain⟨t,rfl⟩:=a;obtain⟨t',e⟩:=b;cases e;rfl
 | .txt x,.tup ks,v,a,b=>by obtain⟨t,rfl⟩:=a;obtain⟨_,_,_,_,e,_⟩:=b;cases e
 | .tup ks,.num i,v,a,b=>by obtain⟨_,_,_,_,rfl,_⟩:=a;rcases b with ⟨t',e⟩|⟨c,e,_⟩<;>cases e
 | .tup ks,.txt y,v,a,b=>by obtain⟨_,_,_,_,rfl,_⟩:=a;obtain⟨t',e⟩:=b;cases e
 | .tup ks,.tup ls,v,a,b=>by
  obtain⟨p,o,items,n,rfl,h1,_,h3,h4⟩:=a;obtain⟨p',o',items',n',e,h1',_,h3',h4'⟩:=b;cases e;rw[h1] at h1';cases h1';rw[h3] at h3';cases h3';rw[IsNs.inj h4 h4']
theorem IsNs.inj{h:Heap}:∀{x y:List NK} {v:List Value},IsNs h x v->IsNs h y v->x=y
 | [],[],_,_,_=>rfl
 | [],k::ks,_,a,b=>by cases a;obtain⟨_,_,e,_⟩:=b;cases e
 | k::ks,[],_,a,b=>by cases b;obtain⟨_,_,e,_⟩:=a;cases e
 | k::ks,l::ls,_,a,b=>by
  obtain⟨v,r,rfl,h1,h2⟩:=a;obtain⟨v',r',e,h1',h2'⟩:=b;cases e;rw[IsN.inj h1 h1',IsNs.inj h2 h2']
end
mutual
theorem IsN.keeps{h h':Heap}{d:Addr}{o:Obj}{es ep}(ho:h.get? d=some o)(hd:o.data = .dict es ep)(hs:Heap.SameBut d h h'):∀{k:NK} {v:Value},IsN h k v->IsN h' k v
 | .num _,_,e=>e
 | .txt _,_,e=>e
 | .tup ks,_,e=>by
  obtain⟨a,o',items,n,rfl,h1,h2,h3,h4⟩:=e;have hne:a≠d:=by rintro rfl;rw[h1] at ho;cases ho;rw[h3] at hd;cases hd
  exact⟨a,o',items,n,rfl,(hs.2 a hne).trans h1,h2,h3,IsNs.keeps ho hd hs h4⟩
theorem IsNs.keeps{h h':Heap}{d:Addr}{o:Obj}{es ep}(ho:h.get? d=some o)(hd:o.data = .dict es ep)(hs:Heap.SameBut d h h'):∀{ks:List NK} {vs:List Value},IsNs h ks vs->IsNs h' ks vs
 | [],_,e=>e
 | k::ks,_,e=>by obtain⟨v,r,rfl,h1,h2⟩:=e;exact⟨v,r,rfl,IsN.keeps ho hd hs h1,IsNs.keeps ho hd hs h2⟩
end
section
variable{P:Program}{w:World}
theorem hash_bool{A:Around}{E:Value->Shared->Prop}{s:Shared}{b:Bool}{Q:Int->Shared->Prop}(h:Q (hashInt (if b then 1 else 0)) { s with toks:=s.toks+1 }):wpAny (model P w) A (pyHash (.bool b)) Q E s:=by
 have hT:s.TypeIs (.bool b) "bool":=rfl;have hr:=rawHash_range (if b then 1 else 0);unfold pyHash;have hv:[Value.bool b].any Value.onHeap=false:=rfl;refine Qqv ?_;rw[cRoomFor,if_neg (by rw[hv];exact Qw8)];refine Qq6 ?_;refine Qqv (wpAny_specialOf hT F.slot_bool_hash.lookup ?_);show wpAny _ _ (if (some (Value.builtin "int.__hash__") == some Value.none)=true then _ else _) Q E s;rw[if_neg (by rw[beq_builtin_none];exact Qw8)];refine Qqv (wpAny_specialOf hT F.slot_bool_hash.lookup ?_);show wpAny _ _ (callSpecialIfBoundUnlessNone? (.bool b) "__hash__" _ >>= _) Q E s;refine Qqv (wpAny_callSpecialIfBoundUnlessNone?_slot hT F.slot_bool_hash
  (wpAny_call_entry F.slot_bool_hash hT entry_int_hash
   (show wpAny _ _ (do ret (<-mkInt (rawHash (if b then 1 else 0)))) _ _ s from wpAny_ret_mkInt ?_) (args_int_hash _)))
 show wpAny _ _ (if (decide (-(2:Int)^63<=rawHash (if b then 1 else 0))&&decide (rawHash (if b then 1 else 0)<2^63))=true then _ else _) Q E _;rw[if_pos (by rw[Qw9 hr.1,Qw9 hr.2];rfl)];exact Qq6 h
mutual
theorem n_hash:∀(k:NK) (v:Value) (A:Around) (E:Value->Shared->Prop) (s:Shared) (Q:Int->Shared->Prop),A.units+k.dep<cLine->IsN s.heap k v->Q (k.hash P w) { s with toks:=s.toks+k.draws }->wpAny (model P w) A (pyHash v) Q E s
 | .num i,v,A,E,s,Q,hu,e,h=>by
  rcases e with ⟨t,rfl⟩|⟨b,rfl,rfl⟩
  ·exact wpAny_pyHash_int h
  ·exact hash_bool h
 | .txt x,v,A,E,s,Q,hu,e,h=>by
  obtain⟨t,rfl⟩:=e;exact wpAny_pyHash_str h
 | .tup ks,v,A,E,s,Q,hu,e,h=>by
  obtain⟨a,o,items,n,rfl,ho,hc,hd,hi⟩:=e;have hT:s.TypeIs (.ref a) "tuple":=⟨o,ho,hc⟩;have hdep:(NK.tup ks).dep=1+NK.deps ks:=by rw[NK.dep]
  rw[hdep] at hu;have hu0:A.units<cLine:=by omega
  have hin:A.in1.units+NK.deps ks<cLine:=by show A.units+1+NK.deps ks<cLine;omega
  unfold pyHash
  first|unfold pyHashByItsType|skip
  first|refine Qqv (wpAny_cRoomFor_or (.inr hu0) ?_)|skip
  refine Qqv (wpAny_specialOf hT F.slot_tuple_hash.lookup ?_);show wpAny _ _ (if (some (Value.builtin "tuple.__hash__") == some Value.none)=true then _ else _) Q E s;rw[if_neg (by rw[beq_builtin_none];exact Qw8)];refine Qqv (wpAny_specialOf hT F.slot_tuple_hash.lookup ?_);show wpAny _ _ (callSpecialIfBoundUnlessNone? (.ref a) "__hash__" _ >>= _) Q E s;refine Qqv (wpAny_callSpecialIfBoundUnlessNone?_slot hT F.slot_tuple_hash (wpAny_call_entry F.slot_tuple_hash hT F.entry_tuple_hash ?_ (F.args_tuple_hash_1 _)));show wpAny _ _ (Builtin.Tuple.tupleItemsOf (.ref a) >>= _) _ _ s;refine Qqv (wpAny_tupleItemsOf ho hd ?_);refine Qqv ?_;rw[<-Array.forIn_toList];refine n_hashes ks items.toList A.in1 _ s _ _ #[] hin hi (λx b s' R q=>?_) ?_
  ·first
    | exact Qqv (Qz1 q (λz s2 hz=>Qq6 hz) λ_ _ z=>z)
    | exact Qqv (Qz1 q (λz s2 hz=>Qqv (Qq6 (Qq6 hz))) λ_ _ z=>z)
  ·show wpAny _ _ (retInt (Builtin.Tuple.tupleHashOf ((#[]:Array Int).toList++NK.hashes P w ks))) _ _ _;have hh:(NK.tup ks).hash P w=reduceHash (Builtin.Tuple.tupleHashOf (NK.hashes P w ks)):=by rw[NK.hash]
   have hdr:(NK.tup ks).draws=NK.drawss ks+1:=by rw[NK.draws]
   rw[hh,hdr] at h;rw[show(#[]:Array Int).toList++NK.hashes P w ks=NK.hashes P w ks from rfl];refine wpAny_ret_mkInt ?_;show wpAny _ _ (if (decide (-(2:Int)^63<=Builtin.Tuple.tupleHashOf (NK.hashes P w ks))&&decide (Builtin.Tuple.tupleHashOf (NK.hashes P w ks)<2^63))=true then _ else _) Q E _;unfold reduceHash at h;by_cases hr:(decide (-(2:Int)^63<=Builtin.Tuple.tupleHashOf (NK.hashes P w ks))&&decide (Builtin.Tuple.tupleHashOf (NK.hashes P w ks)<2^63))=true
   ·rw[if_pos hr];rw[if_pos hr] at h;exact Qq6 (by simpa[Nat.add_assoc] using h)
   ·rw[if_neg hr];rw[if_neg hr] at h;exact Qqv (wpAny_rule (Qq6 (by simpa[Nat.add_assoc] using h)))
theorem n_hashes:∀(ks:List NK) (vs:List Value) (A:Around) (E:Value->Shared->Prop) (s:Shared) (body:Value->Array Int->Sem (ForInStep (Array Int))) (Q:Array Int->Shared->Prop) (acc:Array Int),A.units+NK.deps ks<cLine->IsNs s.heap ks vs->
  (∀x b s' (R:ForInStep (Array Int)->Shared->Prop),wpAny (model P w) A (pyHash x) (λz s2=>R (.yield (b.push z)) s2) E s'->wpAny (model P w) A (body x b) R E s')->
  Q (acc.toList++NK.hashes P w ks).toArray { s with toks:=s.toks+NK.drawss ks }->wpAny (model P w) A (forIn vs acc body) Q E s
 | [],vs,A,E,s,body,Q,acc,hu,e,hb,q=>by
  cases e;rw[List.forIn_nil];refine Qq6 ?_;have:(acc.toList++NK.hashes P w []).toArray=acc:=by rw[NK.hashes];simp
  rw[this] at q;have e0:NK.drawss []=0:=by rw[NK.drawss]
  rw[e0] at q;exact q
 | k::ks,vs,A,E,s,body,Q,acc,hu,e,hb,q=>by
  obtain⟨v,r,rfl,h1,h2⟩:=e;have hdep:NK.deps (k::ks)=max k.dep (NK.deps ks):=by rw[NK.deps]
  rw[hdep] at hu;rw[List.forIn_cons];refine Qqv (hb v acc s _ (n_hash k v A E s _ (by omega) h1 ?_));refine n_hashes ks r A E { s with toks:=s.toks+k.draws } body Q (acc.push (k.hash P w)) (by omega) h2 hb ?_;have e1:NK.hashes P w (k::ks)=k.hash P w::NK.hashes P w ks:=by rw[NK.hashes]
  have e2:NK.drawss (k::ks)=k.draws+NK.drawss ks:=by rw[NK.drawss]
  rw[e1,e2] at q
  simpa[Nat.add_assoc] using q
end
theorem n_eq:∀(n:Nat) (x y:NK) (u v:Value) (A:Around) (s:Shared),x.dep<=n->A.units+n+1<cLine->IsN s.heap x u->IsN s.heap y v->SeqAt.EqAt A s u v (decide (x=y))
 | n,.num i,.num j,u,v,A,s,hn,hu,hx,hy=>by
  have e:decide (NK.num i=NK.num j)=(i == j):=by rw[Qj3];simp
  rw[e];rcases hx with ⟨t,rfl⟩|⟨b,rfl,rfl⟩
  ·rcases hy with ⟨t',rfl⟩|⟨c,rfl,rfl⟩
   ·exact SeqAt.EqAt.int_int i t j t'
   ·exact SeqAt.EqAt.int_bool i t c
  ·rcases hy with ⟨t',rfl⟩|⟨c,rfl,rfl⟩
   ·exact SeqAt.EqAt.bool_int b j t'
   ·have:((if b then (1:Int) else 0) == (if c then 1 else 0))=(b == c):=by cases b<;>cases c<;>rfl
    rw[this];exact SeqAt.EqAt.bool_bool b c
 | n,.num i,.txt z,u,v,A,s,hn,hu,hx,hy=>by
  rw[Qw7 (λe=>by cases e)];obtain⟨t,rfl⟩:=hy;rcases hx with ⟨t',rfl⟩|⟨b,rfl,rfl⟩
  ·exact SeqAt.EqAt.int_str i t' _ t
  ·exact SeqAt.EqAt.bool_str b _ t
 | n,.num i,.tup ks,u,v,A,s,hn,hu,hx,hy=>by
  rw[Qw7 (λe=>by cases e)];obtain⟨a,o,items,m,rfl,h1,h2,h3,_⟩:=hy;have p:s.heap.IsTuple a items:=⟨o,h1,h2,m,h3⟩;rcases hx with ⟨t',rfl⟩|⟨b,rfl,rfl⟩
  ·exact SeqAt.EqAt.int_tuple i t' p (by omega)
  ·exact SeqAt.EqAt.bool_tuple b p (by omega)
 | n,.txt z,.num i,u,v,A,s,hn,hu,hx,hy=>by
  rw[Qw7 (λe=>by cases e)];obtain⟨t,rfl⟩:=hx;rcases hy with ⟨t',rfl⟩|⟨b,rfl,rfl⟩
  ·exact SeqAt.EqAt.str_int _ t i t'
  ·exact SeqAt.EqAt.str_bool _ t b
 | n,.txt z,.txt z',u,v,A,s,hn,hu,hx,hy=>by
  have e:decide (NK.txt z=NK.txt z')=(z == z'):=by rw[Qj3];simp
  rw[e];obtain⟨t,rfl⟩:=hx;obtain⟨t',rfl⟩:=hy;exact SeqAt.EqAt.str_str _ t _ t'
 | n,.txt z,.tup ks,u,v,A,s,hn,hu,hx,hy=>by
  rw[Qw7 (λe=>by cases e)];obtain⟨t,rfl⟩:=hx;obtain⟨a,o,items,m,rfl,h1,h2,h3,_⟩:=hy;have p:s.heap.IsTuple a items:=⟨o,h1,h2,m,h3⟩;exact SeqAt.EqAt.str_tuple _ t p (by omega)
 | n,.tup ks,.num i,u,v,A,s,hn,hu,hx,hy=>by
  rw[Qw7 (λe=>by cases e)];obtain⟨a,o,items,m,rfl,h1,h2,h3,_⟩:=hx;have p:s.heap.IsTuple a items:=⟨o,h1,h2,m,h3⟩;rcases hy with ⟨t',rfl⟩|⟨b,rfl,rfl⟩
  ·exact SeqAt.EqAt.tuple_int i t' p (by omega)
  ·exact SeqAt.EqAt.tuple_bool b p (by omega)
 | n,.tup ks,.txt z,u,v,A,s,hn,hu,hx,hy=>by
  rw[Qw7 (λe=>by cases e)];obtain⟨a,o,items,m,rfl,h1,h2,h3,_⟩:=hx;have p:s.heap.IsTuple a items:=⟨o,h1,h2,m,h3⟩;obtain⟨t,rfl⟩:=hy;exact SeqAt.EqAt.tuple_str _ t p (by omega)
 | 0,.tup ks,.tup ls,u,v,A,s,hn,hu,hx,hy=>by
  rw[NK.dep] at hn;omega
 | n+1,.tup ks,.tup ls,u,v,A,s,hn,hu,hx,hy=>by
  have hx0:=hx;have hy0:=hy;obtain⟨a,o,items,m,rfl,h1,h2,h3,h4⟩:=hx;obtain⟨a',o',items',m',rfl,h1',h2',h3',h4'⟩:=hy;have p:s.heap.IsTuple a items:=⟨o,h1,h2,m,h3⟩;have p':s.heap.IsTuple a' items':=⟨o',h1',h2',m',h3'⟩;rw[NK.dep] at hn;by_cases haa:a=a'
  ·subst haa;rw[Qw9 (IsN.inj hx0 hy0)];exact SeqAt.EqAt.same _
  ·refine SeqAt.EqAt.of_refs haa ?_;have l1:=h4.length;have l2:=h4'.length;rw[Qjv] at l1 l2;have hu0:A.units<cLine:=by omega
   have:=SeqAt.RcAt.tuples (e:=λj=>decide (ks[j]? = ls[j]?)) p p' hu0 λj q1 q2=>?_
   ·have e:((List.range (min items.size items'.size)).all (λj=>decide (ks[j]? = ls[j]?))&&items.size == items'.size)=decide (NK.tup ks=NK.tup ls):=by
     rw[Qj3];simp only[Qwy,Qq5,Qzy,decide_eq_true_eq,beq_iff_eq,NK.tup.injEq];constructor
     ·rintro⟨g1,g2⟩;apply List.ext_getElem?;intro j;by_cases hj:j<min items.size items'.size
      ·exact g1 j hj
      ·rw[List.getElem?_eq_none (by omega),List.getElem?_eq_none (by omega)]
     ·rintro rfl;exact⟨λ_ _=>rfl,by omega⟩
    rw[<-e];exact this
   ·have g1:items.toList[j]? = some items[j]:=by simp
    have g2:items'.toList[j]? = some items'[j]:=by simp
    obtain⟨k,r1,r2⟩:=h4.get g1;obtain⟨l,r3,r4⟩:=h4'.get g2;have e:decide (ks[j]? = ls[j]?)=decide (k=l):=by rw[r1,r3];simp
    rw[e];exact n_eq n k l _ _ A.in1 s (Qqy (NK.deps_mem r1) (by omega)) (by show A.units+1+n+1<cLine;omega) r2 r4
theorem n_quiet:∀(n:Nat) (k:NK) (v:Value) (A:Around) (E:Value->Shared->Prop) (s:Shared) (Q:Bool->Shared->Prop),k.dep<=n->IsN s.heap k v->Q true s->wpAny (model P w) A (eqIsQuiet n v) Q E s
 | n,.num i,v,A,E,s,Q,hn,e,h=>by
  rcases e with ⟨t,rfl⟩|⟨b,rfl,rfl⟩
  ·rw[eqIsQuiet_byValue n rfl];exact Qq6 h
  ·rw[eqIsQuiet_byValue n rfl];exact Qq6 h
 | n,.txt x,v,A,E,s,Q,hn,e,h=>by
  obtain⟨t,rfl⟩:=e;rw[eqIsQuiet_byValue n rfl];exact Qq6 h
 | 0,.tup ks,v,A,E,s,Q,hn,e,h=>by
  rw[NK.dep] at hn;omega
 | n+1,.tup ks,v,A,E,s,Q,hn,e,h=>by
  obtain⟨a,o,items,m,rfl,ho,hc,hd,hi⟩:=e;rw[NK.dep] at hn;have hT:s.TypeIs (.ref a) "tuple":=⟨o,ho,hc⟩;unfold eqIsQuiet;refine Qqv (wpAny_specialOf hT F.slot_tuple_eq.lookup ?_);show wpAny _ _ (isInstance (.ref a) (.type "tuple") >>= _) _ _ s;refine Qqv (wpAny_isInstance hT isSubtype_tuple_tuple ?_);simp only[Bool.not_true,Bool.false_eq_true,if_false];refine Qqv (wpAny_seqItems ho hd ?_);refine Qqv ?_;show wpAny _ _ (forIn items _ _) _ _ s;rw[<-Array.forIn_toList];refine wpAny_forIn_list _ (λrest r s'=>r.1=none/\s'=s/\∀v∈rest,∃k:NK,k.dep<=n/\IsN s.heap k v) _ ?_ ?_ _ _ ⟨rfl,rfl,λv hv=>?_⟩
  ·rintro v rest r s' ⟨hr,rfl,hall⟩;obtain⟨k,hk1,hk2⟩:=hall v Qqz;refine Qqv (n_quiet n k v A E _ _ hk1 hk2 ?_);simp only[Bool.not_true,Bool.false_eq_true,if_false];exact Qq6 ⟨rfl,rfl,λu hu'=>hall u (Qqj _ hu')⟩
  ·rintro⟨r1,r2⟩ s' ⟨hr,rfl,_⟩;simp only at hr;subst hr;exact Qq6 h
  ·obtain⟨j,hj,rfl⟩:=List.mem_iff_getElem.mp hv;obtain⟨k,r1,r2⟩:=hi.get (Qzz hj);exact⟨k,Qqy (NK.deps_mem r1) (by omega),r2⟩
noncomputable def nestKind(P:Program)(w:World):HeapKind P w NK where
 is:=λh k a=>IsN h k (.ref a)/\k.dep<=8
 hash:=NK.hash P w
 draws:=NK.draws
 room:=λA=>A.units+10<cLine
 inj:=λhx hy=>hx.1.inj hy.1
 keeps:=λx ho hd hs=>⟨x.1.keeps ho hd hs,x.2⟩
 pyHash:=λhu hk h=>n_hash _ _ _ _ _ _ (by have:=hk.2;omega) hk.1 h
 eqBool:=λhu hx hy h=>n_eq 8 _ _ _ _ _ _ hx.2 (by omega) hx.1 hy.1 P w _ _ h
 quiet:=λhk h=>n_quiet 8 _ _ _ _ _ _ hk.2 hk.1 h
end
abbrev Key:=Sum Int Str
def keyIs:Key->Value->Bool
 | .inl k,v=>Value.isInt k v
 | .inr x,v=>Value.isStrOf x v
def keyH(w:World):Key->Int
 | .inl k=>hashInt k
 | .inr x=>hashStr w x
theorem keyIs_shape:∀{k:Key} {v:Value},keyIs k v=true->(∃i t,k=Sum.inl i/\v=Value.int i t)\/(∃x t,k=Sum.inr x/\v=Value.str x t)
 | .inl i,v,h=>by
  obtain⟨t,e⟩:=Value.isInt_shape (k:=i) (v:=v) h;exact .inl ⟨i,t,rfl,e⟩
 | .inr x,v,h=>by
  obtain⟨t,e⟩:=Value.isStrOf_shape (x:=x) (v:=v) h;exact .inr ⟨x,t,rfl,e⟩
theorem keyIs_int(i:Int)(t:Tok):keyIs (.inl i) (.int i t)=true:=by simp[keyIs,Value.isInt]
theorem keyIs_str(x:Str)(t:Tok):keyIs (.inr x) (.str x t)=true:=by simp[keyIs,Value.isStrOf]
theorem key_ll(a b:Int):decide ((Sum.inl a:Key)=Sum.inl b)=(a == b):=by
 by_cases e:a=b
 ·subst e;simp
 ·have h:¬(Sum.inl a:Key)=Sum.inl b:=λq=>e (Sum.inl.inj q);rw[Qw7 h];exact(Qxy.mpr e).symm
theorem key_rr(a b:Str):decide ((Sum.inr a:Key)=Sum.inr b)=decide (a=b):=by
 by_cases e:a=b
 ·subst e;simp
 ·have h:¬(Sum.inr a:Key)=Sum.inr b:=λq=>e (Sum.inr.inj q);rw[Qw7 h,Qw7 e]
theorem key_lr(a:Int)(b:Str):decide ((Sum.inl a:Key)=Sum.inr b)=false:=Qw7 (λq=>nomatch q)
theorem key_rl(a:Str)(b:Int):decide ((Sum.inr a:Key)=Sum.inl b)=false:=Qw7 (λq=>nomatch q)
def mixKind(prog:Program)(w:World):PySem.KeyKind prog w Key where
 is:=keyIs
 hash:=keyH w
 inj:=λv a b ha hb=>by
  rcases keyIs_shape ha with ⟨i,t,rfl,rfl⟩|⟨x,t,rfl,rfl⟩
  ·rcases keyIs_shape hb with ⟨j,u,rfl,e⟩|⟨y,u,rfl,e⟩
   ·injection e with e1 _;rw[e1]
   ·exact nomatch e
  ·rcases keyIs_shape hb with ⟨j,u,rfl,e⟩|⟨y,u,rfl,e⟩
   ·exact nomatch e
   ·injection e with e1 _;rw[e1]
 byValue:=λk v h=>by
  rcases keyIs_shape h with ⟨i,t,rfl,rfl⟩|⟨x,t,rfl,rfl⟩<;>rfl
 pyHash:=λhv h=>by
  rcases keyIs_shape hv with ⟨i,t,rfl,rfl⟩|⟨x,t,rfl,rfl⟩
  ·exact wpAny_pyHash_int h
  ·exact wpAny_pyHash_str h
 eqBool:=λhu hv h=>by
  rcases keyIs_shape hu with ⟨i,t,rfl,rfl⟩|⟨x,t,rfl,rfl⟩
  ·rcases keyIs_shape hv with ⟨j,u,rfl,rfl⟩|⟨y,u,rfl,rfl⟩
   ·rw[key_ll] at h;exact wpAny_eqBool_int h
   ·rw[key_lr] at h;exact SeqAt.EqAt.int_str i t y u _ _ _ _ h
  ·rcases keyIs_shape hv with ⟨j,u,rfl,rfl⟩|⟨y,u,rfl,rfl⟩
   ·rw[key_rl] at h;exact SeqAt.EqAt.str_int x t j u _ _ _ _ h
   ·rw[key_rr] at h;exact wpAny_eqBool_str h
 «strs»:=λk x t v h=>by
  rcases keyIs_shape h with ⟨i,u,rfl,e⟩|⟨y,u,rfl,e⟩
  ·exact nomatch e
  ·injection e with e1 _
   subst e1;cases v<;>rfl
theorem mixKind_int(prog:Program)(w:World)(i:Int)(t:Tok):(mixKind prog w).is (.inl i) (.int i t)=true:=keyIs_int i t
theorem mixKind_str(prog:Program)(w:World)(x:Str)(t:Tok):(mixKind prog w).is (.inr x) (.str x t)=true:=keyIs_str x t
inductive V where
 | non|bl (b:Bool)|int (i:Int)|str (x:Str)|byt (b:Array UInt8)|flt (b:UInt64)|ref (a:Addr)|ty (n:String)
 deriving DecidableEq
def RelV:V->Value->Prop
 | .non,u=>u=Value.none
 | .bl b,u=>u=Value.bool b
 | .int i,u=>∃t,u=Value.int i t
 | .str x,u=>∃t,u=Value.str x t
 | .byt b,u=>∃t,u=Value.bytes b t
 | .flt b,u=>∃t,u=Value.float b t
 | .ref a,u=>u=Value.ref a
 | .ty n,u=>u=Value.type n
abbrev Vals:List V->List Value->Prop:=Paired RelV
theorem Vals.length{xs:List V}{us:List Value}(r:Vals xs us):xs.length=us.length:=Paired.length r
theorem Vals.get:∀{xs:List V} {us:List Value} {i:Nat} {x:V},Vals xs us->xs[i]? = some x->∃u,us[i]? = some u/\RelV x u
 | _,_,_,_,.nil,e=>by simp at e
 | _,_,0,_,.cons r _,e=>by simp at e;subst e;exact⟨_,rfl,r⟩
 | _,_,i+1,x,.cons _ t,e=>by
  obtain⟨u,h1,h2⟩:=Vals.get (i:=i) (x:=x) t (by simpa using e);exact⟨u,by simpa using h1,h2⟩
theorem Vals.set{x:V}{u:Value}(r:RelV x u):∀{xs:List V} {us:List Value} (i:Nat),Vals xs us->Vals (xs.set i x) (us.set i u)
 | _,_,_,.nil=>.nil
 | _,_,0,.cons _ t=>.cons r t
 | _,_,i+1,.cons q t=>.cons q (Vals.set r i t)
theorem Vals.append:∀{xs ys:List V} {us ws:List Value},Vals xs us->Vals ys ws->Vals (xs++ys) (us++ws)
 | _,_,_,_,.nil,s=>s
 | _,_,_,_,.cons r t,s=>.cons r (Vals.append t s)
theorem Vals.take:∀{xs:List V} {us:List Value} (n:Nat),Vals xs us->Vals (xs.take n) (us.take n)
 | _,_,0,_=>.nil
 | _,_,_+1,.nil=>.nil
 | _,_,n+1,.cons r t=>.cons r (Vals.take n t)
theorem Vals.drop:∀{xs:List V} {us:List Value} (n:Nat),Vals xs us->Vals (xs.drop n) (us.drop n)
 | _,_,0,r=>r
 | _,_,_+1,.nil=>.nil
 | _,_,n+1,.cons _ t=>Vals.drop n t
def RelO:Option V->Option Value->Prop
 | some v,some u=>RelV v u
 | none,none=>True
 | _,_=>False
def KV{κ:Type}:List (κ×V)->List (κ×Value)->Prop:=Paired λ(p:κ×V) (q:κ×Value)=>p.1=q.1/\RelV p.2 q.2
def kV:Key->V
 | .inl i=>.int i
 | .inr x=>.str x
inductive HO where
 /-- a list -/
 | lst (xs:List V)
 /-- a tuple (never changes) -/
 | tup (xs:List V)
 /-- a dict whose keys are ints and texts;one whose keys are tuples of ints and texts (the empty one is both) -/
 | dK (kvs:List (Key×V))|dT (kvs:List (List Key×V))|dN (kvs:List (NK×V×V))
 /-- a set of ints: its members,its size -/
 | set (S:Int->Bool) (n:Nat)
 /-- an instance of the class at C,its dict at dx,its attributes -/
 | ins (C dx:Addr) (fs:List (Str×V))
 /-- the dict of the instance at x -/
 | own (x:Addr)
 /-- the dict of an exception -/
 | xd (fs:List (Str×V))
 /-- a bound method,f of x -/
 | met (f x:Addr)
 /-- a range object lo,lo+1,.. below hi -/
 | rng (lo hi:Int)
 /-- a thing that is known to the object (the script;a dict while a loop walks it): read,never written while it is so -/
 | frz (o:Obj) (u:HO)
 /-- a code object's table -/
 | tbl (ps:Array Value)
 /-- a code object's table: whatever it holds,the codes made at these places are known and bear these names -/
 | tab (qs:List (Pos×Str))
 /-- any other thing,by what is true of its one object (a def of one's own: SetO a S n:=HO.ext λh=>..) -/
 | ext (φ:Heap->Prop)
abbrev Hp:=Addr->Option HO
def upd(H:Hp)(a:Addr)(o:HO):Hp:=λb=>if b=a then some o else H b
theorem bJ{H:Hp}{a:Addr}{o:HO}:upd H a o a=some o:=by unfold upd;rw[if_pos rfl]
theorem bY{H:Hp}{a b:Addr}{o:HO}(h:b≠a):upd H a o b=H b:=by unfold upd;rw[if_neg h]
theorem upd_upd{H:Hp}{a:Addr}{o u:HO}:upd (upd H a o) a u=upd H a u:=by funext b;unfold upd;split<;>rfl
theorem ne_of{H:Hp}{a b:Addr}{o u:HO}(h:H a=some o)(h':H b=some u)(d:o≠u):a≠b:=by intro e;subst e;rw[h] at h';exact d (Qw1 h')
theorem ne_of_none{H:Hp}{a b:Addr}{o:HO}(h:H a=some o)(h':H b=none):a≠b:=by intro e;subst e;rw[h] at h';cases h'
def TupD(h:Heap)(a:Addr)(items:Array Value):Prop:=∃o,h.get? a=some o/\o.cls = .type "tuple"/\(∃n,o.data = .seq items n)/\o.dict=none
theorem TupD.is{h:Heap}{a:Addr}{items:Array Value}(x:TupD h a items):IsTup h a items:=let ⟨o,h1,h2,h3,_⟩:=x;⟨o,h1,h2,h3⟩
theorem TupD.new(h:Heap)(items:Array Value):TupD (h.push { cls:=.type "tuple",data:=.seq items }) h.objs.size items:=⟨_,Qwv _ rfl,rfl,⟨_,rfl⟩,rfl⟩
section
variable(P:Program)(w:World)
def ObjOk(H:Hp)(h:Heap)(a:Addr):HO->Prop
 | .lst xs=>xs.length<=sizeLine/\∃(its:List Value) (n:Nat),Vals xs its/\h.get? a=some { cls:=.type "list",data:=.seq its.toArray n }
 | .tup xs=>xs.length<=sizeLine/\∃its:List Value,Vals xs its/\TupD h a its.toArray
 | .dK kvs=>kvs.length<=sizeLine/\(a == sysModules)=false/\∃vs,KV kvs vs/\h.DictOf (mixKind P w) a vs
 | .dT kvs=>kvs.length<=sizeLine/\(a == sysModules)=false/\∃xs:List (List Key×Addr×Value),
   Paired (λ(p:List Key×V) (q:List Key×Addr×Value)=>p.1=q.1/\H q.2.1=some (.tup (p.1.map kV))/\RelV p.2 q.2.2) kvs xs/\
   ∃o es ep,h.get? a=some o/\o.ExactDict/\o.data = .dict es ep/\es.toList=xs.map (entryOfKey (tupleKind (mixKind P w)))/\(xs.map (·.1)).Nodup
 | .dN kvs=>kvs.length<=sizeLine/\(a == sysModules)=false/\∃xs:List (NK×Addr×Value),
   Paired (λ(p:NK×V×V) (q:NK×Addr×Value)=>p.1=q.1/\p.2.1 = .ref q.2.1/\RelV p.2.2 q.2.2) kvs xs/\
   ∃o es ep,h.get? a=some o/\o.ExactDict/\o.data = .dict es ep/\es.toList=xs.map (entryOfKey (nestKind P w))/\(xs.map (·.1)).Nodup
 | .set S n=>h.SetOf (intKind P w) a S n
 | .ins C dx fs=>H dx=some (.own a)/\fs.length<=1000/\dx≠a/\h.get? a=some (PySem.W.instObj C dx)/\
   ∃mA,h.Ns1 dx mA/\(∀f,RelO (fs.lookup f) (mA f))/\PySem.Within mA (fs.map (·.1))
 | .own _=>∃o,h.get? a=some o
 | .xd fs=>∃mA,h.Ns1 a mA/\∀f,RelO (fs.lookup f) (mA f)
 | .rng lo hi=>∃t u v,h.get? a=some { cls:=.type "range",data:=.fields #[.int lo t,.int hi u,.int 1 v] }
 | .frz o u=>h.get? a=some o/\ObjOk H h a u
 | .tbl ps=>h.get? a=some { cls:=.none,data:=.fields ps }
 | .tab qs=>∃ps:Array Value,h.get? a=some { cls:=.none,data:=.fields ps }/\TriplesOk ps.toList/\∀q∈qs,codeAmong q.1 ps.toList=none\/∃(c:Addr) (o:Obj) (u:HO) (vs:Array Value) (t:Tok),codeAmong q.1 ps.toList=some (.ref c)/\H c=some (.frz o u)/\o.data = .fields vs/\vs[1]? = some (.str q.2 t)
 | .met f x=>h.get? a=some (PySem.W.methodObj (.ref f) (.ref x))
 | .ext φ=>φ h/\(∃o,h.get? a=some o)/\∀h1 h2:Heap,φ h1->(∀o,h1.get? a=some o->h2.get? a=some o)->φ h2
def HOk(H:Hp)(h:Heap):Prop:=∀a o,H a=some o->ObjOk P w H h a o
end
section
variable{P:Program}{w:World}{H H':Hp}{h h':Heap}{a:Addr}{o:HO}
theorem ObjOk.lt(x:ObjOk P w H h a o):a<h.objs.size:=by
 cases o with
 | lst xs=>obtain⟨_,_,_,_,e⟩:=x;exact Qwj e
 | tup xs=>obtain⟨_,_,_,p⟩:=x;exact p.is.lt
 | dK kvs=>obtain⟨_,_,_,_,o,_,_,e,_⟩:=x;exact Qwj e
 | dT kvs=>obtain⟨_,_,_,_,o,_,_,e,_⟩:=x;exact Qwj e
 | dN kvs=>obtain⟨_,_,_,_,o,_,_,e,_⟩:=x;exact Qwj e
 | set S n=>obtain⟨o,_,_,_,e,_⟩:=x;exact Qwj e
 | ins C dx fs=>obtain⟨_,_,_,e,_⟩:=x;exact Qwj e
 | own y=>obtain⟨_,e⟩:=x;exact Qwj e
 | xd fs=>obtain⟨_,⟨_,_,_,e,_⟩,_⟩:=x;exact Qwj e
 | rng lo hi=>obtain⟨_,_,_,e⟩:=x;exact Qwj e
 | frz ob u=>obtain⟨e,_⟩:=x;exact Qwj e
 | tbl ps=>exact Qwj (show h.get? a=some _ from x)
 | tab qs=>obtain⟨_,e,_⟩:=x;exact Qwj e
 | met f y=>exact Qwj (show h.get? a=some _ from x)
 | ext φ=>obtain⟨_,⟨_,e⟩,_⟩:=x;exact Qwj e
theorem Paired.mapP{α β:Type}{F G:α->β->Prop}:∀{l₁:List α} {l₂:List β},Paired F l₁ l₂->(∀a b,F a b->G a b)->Paired G l₁ l₂
 | _,_,.nil,_=>.nil
 | _,_,.cons r t,f=>.cons (f _ _ r) (Paired.mapP t f)
theorem ObjOk.stay(x:ObjOk P w H h a o)(k:∀b u,(b=a\/H b=some (.own a))->h.get? b=some u->h'.get? b=some u)
  (ho:∀b,H b=some (.own a)->H' b=some (.own a)) (ht:∀b xs,H b=some (.tup xs)->H' b=some (.tup xs))
  (hz:∀(b:Addr) (o:Obj) (u:HO) (vs:Array Value),o.data = .fields vs->H b=some (.frz o u)->H' b=some (.frz o u):=by intro _ _ _ _ _ q;exact q):ObjOk P w H' h' a o:=by
 induction o with
 | lst xs=>obtain⟨z,its,n,r,e⟩:=x;exact⟨z,its,n,r,k _ _ (.inl rfl) e⟩
 | tup xs=>obtain⟨z,its,r,ob,e,c⟩:=x;exact⟨z,its,r,ob,k _ _ (.inl rfl) e,c⟩
 | dK kvs=>obtain⟨z,y,vs,r,ob,es,ep,e,c⟩:=x;exact⟨z,y,vs,r,ob,es,ep,k _ _ (.inl rfl) e,c⟩
 | dT kvs=>
  obtain⟨z,y,xs,r,ob,es,ep,e,c⟩:=x;exact⟨z,y,xs,Paired.mapP r λp q z=>⟨z.1,ht _ _ z.2.1,z.2.2⟩,ob,es,ep,k _ _ (.inl rfl) e,c⟩
 | dN kvs=>obtain⟨z,y,xs,r,ob,es,ep,e,c⟩:=x;exact⟨z,y,xs,r,ob,es,ep,k _ _ (.inl rfl) e,c⟩
 | set S n=>obtain⟨ob,es,ep,t,e,c⟩:=x;exact⟨ob,es,ep,t,k _ _ (.inl rfl) e,c⟩
 | ins C dx fs=>
  obtain⟨d,z,ne,e,mA,⟨od,es,ep,e2,c⟩,r⟩:=x;exact⟨ho _ d,z,ne,k _ _ (.inl rfl) e,mA,⟨od,es,ep,k _ _ (.inr d) e2,c⟩,r⟩
 | own y=>obtain⟨ob,e⟩:=x;exact⟨ob,k _ _ (.inl rfl) e⟩
 | xd fs=>obtain⟨mA,⟨od,es,ep,e,c⟩,r⟩:=x;exact⟨mA,⟨od,es,ep,k _ _ (.inl rfl) e,c⟩,r⟩
 | rng lo hi=>obtain⟨t,u,v,e⟩:=x;exact⟨t,u,v,k _ _ (.inl rfl) e⟩
 | frz ob u ih=>obtain⟨e,q⟩:=x;exact⟨k _ _ (.inl rfl) e,ih q⟩
 | tbl ps=>
  have e:h.get? a=some { cls:=.none,data:=.fields ps }:=x;show h'.get? a=some { cls:=.none,data:=.fields ps };exact k a _ (.inl rfl) e
 | tab qs=>
  obtain⟨ps,e,t,r⟩:=x;refine⟨ps,k a _ (.inl rfl) e,t,λq hq=>?_⟩;rcases r q hq with z|⟨c,o,u,vs,t,h1,h2,h3,h4⟩
  ·exact .inl z
  ·exact .inr ⟨c,o,u,vs,t,h1,hz c o u vs h3 h2,h3,h4⟩
 | met f y=>
  have e:h.get? a=some (PySem.W.methodObj (.ref f) (.ref y)):=x;show h'.get? a=some (PySem.W.methodObj (.ref f) (.ref y));exact k a _ (.inl rfl) e
 | ext φ=>obtain⟨p,⟨o,e⟩,st⟩:=x;exact⟨st _ _ p λo q=>k _ _ (.inl rfl) q,⟨o,k _ _ (.inl rfl) e⟩,st⟩
theorem HOk.lt(x:HOk P w H h)(e:H a=some o):a<h.objs.size:=(x a o e).lt
theorem HOk.fresh(x:HOk P w H h)(e:h.objs.size<=a):H a=none:=by
 cases q:H a with
 | none=>rfl
 | some u=>exact absurd (Qw0 (x.lt q) e) (Qz8 _)
theorem HOk.kept(x:HOk P w H h)(k:∀b u,h.get? b=some u->h'.get? b=some u):HOk P w H h':=λa o e=>
 (x a o e).stay (λb u _ q=>k b u q) (λ_ q=>q) λ_ _ q=>q
theorem HOk.laid(x:HOk P w H h)(k:∀b u,h.get? b=some u->h'.get? b=some u)(hp:h.objs.size<=a)(new:ObjOk P w (upd H a o) h' a o):HOk P w (upd H a o) h':=λb u e=>by
 have hn:=x.fresh hp;by_cases hb:b=a
 ·subst hb;rw[bJ] at e;cases e;exact new
 ·rw[bY hb] at e;exact(x b u e).stay (λc v _ q=>k c v q) (λc q=>by rw[bY (ne_of_none q hn)];exact q) (λc xs q=>by rw[bY (ne_of_none q hn)];exact q) λc _ _ _ _ q=>by rw[bY (ne_of_none q hn)];exact q
end
def Rd(H:Hp)(a:Addr)(u:HO):Prop:=H a=some u\/∃o,H a=some (.frz o u)
theorem Rd.ok{P:Program}{w:World}{H:Hp}{h:Heap}{a:Addr}{u:HO}(r:Rd H a u)(x:HOk P w H h):ObjOk P w H h a u:=by
 rcases r with r|⟨o,r⟩
 ·exact x a u r
 ·obtain⟨_,q⟩:=x a _ r;exact q
def Mut:Option HO->Prop
 | some (.lst _)=>True
 | some (.dK _)=>True
 | some (.dT _)=>True
 | some (.dN _)=>True
 | some (.set _ _)=>True
 | some (.ins _ _ _)=>True
 | some (.ext _)=>True
 | _=>False
section
variable{P:Program}{w:World}{H:Hp}{h h':Heap}{x e:Addr}{o':HO}
theorem HOk.write(ok:HOk P w H h)(mu:Mut (H x))(he:e=x\/H e=some (.own x))(k:∀b u,b≠e->h.get? b=some u->h'.get? b=some u)(heo:∃u,h'.get? e=some u)
  (new:ObjOk P w (upd H x o') h' x o'):HOk P w (upd H x o') h':=λb u q=>by
 have nown:∀c y,H c=some (.own y)->c≠x:=λc y r z=>by subst z;rw[r] at mu;exact mu
 have ntup:∀c xs,H c=some (.tup xs)->c≠x:=λc xs r z=>by subst z;rw[r] at mu;exact mu
 by_cases hb:b=x
 ·subst hb;rw[bJ] at q;cases q;exact new
 ·rw[bY hb] at q;by_cases hbe:b=e
  ·have q':H b=some (.own x):=by
    rcases he with z|z
    ·exact absurd (hbe.trans z) hb
    ·rw[hbe];exact z
   rw[q] at q';cases q';obtain⟨v,hv⟩:=heo;exact⟨v,by rw[hbe];exact hv⟩
  ·refine(ok b u q).stay (λc v hc r=>k c v ?_ r) (λc r=>by rw[bY (nown c b r)];exact r) (λc xs r=>by rw[bY (ntup c xs r)];exact r) λc _ _ _ _ r=>by rw[bY (λz=>by subst z;rw[r] at mu;exact mu)];exact r
   rcases hc with rfl|hc
   ·exact hbe
   ·rintro rfl;rcases he with z|z
    ·exact nown c b hc z
    ·rw[hc] at z;cases z;exact hb rfl
end
structure Un(fs ex:List Addr)(H H':Hp)(h h':Heap):Prop where
 keep:∀b o,h.get? b=some o->H b=none->b ∉ fs->b ∉ ex->h'.get? b=some o
 slot:∀b o,h.get? b=some o->H b=none->b∈fs->b ∉ ex->∃sl,h'.get? b=some { o with slots:=sl }
 free:∀b o,h.get? b=some o->H b=none->b ∉ ex->H' b=none
 there:∀b o,h.get? b=some o->b ∉ ex->∃o',h'.get? b=some o'
 tups:∀b xs,H b=some (.tup xs)->H' b=some (.tup xs)
 frzs:∀b o u,H b=some (.frz o u)->H' b=some (.frz o u)
 tbls:∀b ps,H b=some (.tbl ps)->∃more,H' b=some (.tbl (ps++more))
 tabs:∀b qs,H b=some (.tab qs)->H' b=some (.tab qs)
section
variable{fs fs' ex ex':List Addr}{H H1 H2:Hp}{h h1 h2 h':Heap}{a x e:Addr}{o:HO}
theorem Un.any(u:Un fs ex H H1 h h1){b:Addr}{ob:Obj}(q:h.get? b=some ob)(n:H b=none)(hx:b ∉ ex):∃sl,h1.get? b=some { ob with slots:=sl }:=by
 by_cases hb:b∈fs
 ·exact u.slot b ob q n hb hx
 ·exact⟨ob.slots,u.keep b ob q n hb hx⟩
theorem Un.kept(k:∀b u,h.get? b=some u->h'.get? b=some u):Un fs ex H H h h':=
 ⟨λb ob q _ _ _=>k b ob q,λb ob q _ _ _=>⟨ob.slots,k b ob q⟩,λ_ _ _ n _=>n,λb ob q _=>⟨ob,k b ob q⟩,λ_ _ q=>q,λ_ _ _ q=>q,λ_ ps q=>⟨#[],by rw[q];simp⟩,λ_ _ q=>q⟩
theorem Un.refl:Un fs ex H H h h:=Un.kept λ_ _ q=>q
theorem Un.laid(k:∀b u,h.get? b=some u->h'.get? b=some u)(hp:h.objs.size<=a)(hn:H a=none):Un fs ex H (upd H a o) h h' where
 keep:=λb u q _ _ _=>k b u q
 slot:=λb u q _ _ _=>⟨u.slots,k b u q⟩
 free:=λb u q n _=>by rw[bY (Qw5 (Qw0 (Qwj q) hp))];exact n
 there:=λb u q _=>⟨u,k b u q⟩
 tups:=λb xs q=>by rw[bY (ne_of_none q hn)];exact q
 frzs:=λb u xs q=>by rw[bY (ne_of_none q hn)];exact q
 tbls:=λb ps q=>⟨#[],by rw[bY (ne_of_none q hn),q];simp⟩
 tabs:=λb qs q=>by rw[bY (ne_of_none q hn)];exact q
theorem Un.write(mu:Mut (H x))(he:e=x\/H e=some (.own x))(k:∀b u,b≠e->h.get? b=some u->h'.get? b=some u)(heo:∃u,h'.get? e=some u):Un fs ex H (upd H x o) h h':=by
 have hx:∀b,H b=none->b≠x:=λb n z=>by subst z;rw[n] at mu;exact mu
 have hb:∀b,H b=none->b≠e:=λb n z=>by
  subst z;rcases he with r|r
  ·exact hx b n r
  ·rw[n] at r;cases r
 have hm:∀b u,H b=some u->¬Mut (some u)->b≠x:=λb u q nm z=>by subst z;rw[q] at mu;exact nm mu
 refine⟨λb u q n _ _=>k b u (hb b n) q,λb u q n _ _=>⟨u.slots,k b u (hb b n) q⟩,λb u q n _=>by rw[bY (hx b n)];exact n,λb u q _=>?_,
  λb xs q=>by rw[bY (hm b _ q λz=>z)];exact q,λb u xs q=>by rw[bY (hm b _ q λz=>z)];exact q,λb ps q=>⟨#[],by rw[bY (hm b _ q λz=>z),q];simp⟩,λb qs q=>by rw[bY (hm b _ q λz=>z)];exact q⟩
 by_cases hbe:b=e
 ·subst hbe;exact heo
 ·exact⟨u,k b u hbe q⟩
end
def trk(h:Heap)(H:Hp):List Addr:=(List.range h.objs.size).filter λa=>(H a).isSome
def hidT(h:Heap)(H:Hp):Heap:=PySem.W.hideAll h (trk h H)
theorem hidT_size(h:Heap)(H:Hp):(hidT h H).objs.size=h.objs.size:=PySem.W.hideAll_size _ _
theorem hidT_get{h:Heap}{H:Hp}{b:Addr}{o:Obj}(e:h.get? b=some o)(n:H b=none):(hidT h H).get? b=some o:=
 PySem.W.hideAll_get _ e λhm=>by
  have q:(H b).isSome=true:=(List.mem_filter.mp hm).2;rw[n] at q;simp at q
theorem of_hidT{h:Heap}{H:Hp}{b:Addr}{o:Obj}(e:(hidT h H).get? b=some o):h.get? b=some o/\H b=none:=by
 have e':h.get? b=some o:=PySem.W.of_hideAll (trk h H) e;refine⟨e',?_⟩;cases q:H b with
 | none=>rfl
 | some x=>
  have hm:b∈trk h H:=List.mem_filter.mpr ⟨Qzy.mpr (Qwj e'),by simp[q]⟩;have z:(hidT h H).get? b=none:=PySem.W.hideAll_none (trk h H) hm;rw[z] at e;cases e
def allNews(g h:Heap)(L:Addr):List (Addr×Obj):=(List.range h.objs.size).filterMap λa=>if a=L\/(g.get? a).isSome=true then none else (h.get? a).map λo=>(a,o)
def rest(g h:Heap)(L d:Addr):List (Addr×Obj):=(allNews g h L).filter λp=>decide (p.1≠d)
structure Mod(K:PySem.W.Frag)(mg:Str->Option Value)(base:Heap):Prop where
 kin:K.In base
 glob:base.Ns mainGlobals mg
 blt:∃mb,base.Ns builtinsNs mb/\∀x:Str,x ≠ "__name__"->mb x=bootBuiltins x
 nolimit:base.NoLimit
structure Cx where
 prog:Program
 w:World
 K:PySem.W.Frag
 mg:Str->Option Value
 base:Heap
 A:Around
 N:List Str
 s₀:Shared
 H₀:Hp
 env:Env
 outer:List Env
 stack:List Env
 ex:List Addr
 fn:Str->Bool
 calm:Bool
 pn:List (Addr×Obj)
 xe:Value->Shared->Prop
def frs(l:List Env):List Addr:=l.filterMap (·.frame)
abbrev Cx.fs(X:Cx):List Addr:=frs X.outer
def Vis(sc:Scope)(x:Str):Prop:=sc.names.lookup x=some .local\/sc.names.lookup x=some .cell\/sc.names.lookup x=some .free
def Loc(sc:Scope)(x:Str):Prop:=sc.names.lookup x=some .local\/sc.names.lookup x=some .cell
def Look(env:Env)(h:Heap)(m:Str->Option Value)(x:Str)(u:Value):Prop:=
 (env.kindOf x=some .local/\m x=some u)\/((env.kindOf x=some .cell\/env.kindOf x=some .free)/\∃c,env.cells.lookup x=some c/\h.IsCell c (some u))
structure Cx.Ok(X:Cx):Prop where
 mod:Mod X.K X.mg X.base
 kind:X.env.scope.kind = .function
 glob:X.env.globals=mainGlobals
 blt:X.env.builtins=builtinsNs
 above:X.s₀.heap.objs.size<=X.env.locals
 inj:∀x y c,X.env.cells.lookup x=some c->X.env.cells.lookup y=some c->x=y
 has:∀x,(X.env.kindOf x=some .cell\/X.env.kindOf x=some .free)->∃c,X.env.cells.lookup x=some c
 cab:∀x c,X.fn x=true->X.env.cells.lookup x=some c->X.s₀.heap.objs.size<=c
 hd:X.calm=true->X.A.handled=none
 frames:X.A.frames=some X.stack
 stk:X.stack=X.outer\/(X.stack=X.env::X.outer/\X.env.frame=some X.env.locals)
 exf:∀b∈X.ex,b≠X.env.locals/\∀x c,X.env.cells.lookup x=some c->c≠b
 bs:∀b o,X.base.get? b=some o->X.s₀.heap.get? b=some o/\X.H₀ b=none
 bsz:X.base.objs.size<=X.s₀.heap.objs.size
 noex:∀b o,X.base.get? b=some o->b ∉ X.ex
 exfs:∀b∈X.ex,b ∉ X.fs
 funs:X.s₀.heap.FunFrames X.base X.outer
 frf:∀b∈X.fs,X.H₀ b=none
structure Inv(X:Cx)(pins:List (Addr×Obj))(σ:List (Option V))(H:Hp)(s:Shared):Prop where
 ok:X.Ok
 os:s.os=X.s₀.os
 bare:AllBare s.gens
 base:Un X.fs X.ex X.H₀ H X.s₀.heap s.heap
 loc:∃m,s.heap.Ns X.env.locals m/\∀(i:Nat) (x:Str) (v:V),X.N[i]? = some x->σ[i]? = some (some v)->Vis X.env.scope x->∃u,RelV v u/\Look X.env s.heap m x u
 cell:∀x c,X.env.cells.lookup x=some c->∃v,s.heap.IsCell c v
 free:H X.env.locals=none
 freeC:∀x c,X.env.cells.lookup x=some c->H c=none\/(X.fn x=false/\∃o u,H c=some (.frz o u))
 pin:∀p∈X.pn++pins,s.heap.get? p.1=some p.2/\H p.1=none/\p.1≠X.env.locals/\p.1 ∉ X.fs/\∀v,p.2.data ≠ .cell v
 hok:HOk X.prog X.w H s.heap
 len:σ.length=X.N.length
section
variable{X:Cx}{pins:List (Addr×Obj)}{σ:List (Option V)}{H H':Hp}{s:Shared}{h':Heap}
theorem Cx.Ok.nofr(ok:X.Ok){b:Addr}{o:Obj}(e:X.base.get? b=some o):b ∉ X.fs:=λhb=>by
 have:=(ok.funs.mem hb).1;rw[e] at this;cases this
theorem Inv.bs(I:Inv X pins σ H s):∀b o,X.base.get? b=some o->s.heap.get? b=some o/\H b=none:=λb o e=>
 ⟨I.base.keep b o (I.ok.bs b o e).1 (I.ok.bs b o e).2 (I.ok.nofr e) (I.ok.noex b o e),I.base.free b o (I.ok.bs b o e).1 (I.ok.bs b o e).2 (I.ok.noex b o e)⟩
theorem Inv.bk(I:Inv X pins σ H s):∀b o,X.base.get? b=some o->s.heap.get? b=some o:=λb o e=>(I.bs b o e).1
theorem Inv.mod(I:Inv X pins σ H s):Mod X.K X.mg X.base:=I.ok.mod
theorem Inv.kIn(I:Inv X pins σ H s):X.K.In s.heap:=I.ok.mod.kin.keeps I.bk
theorem Inv.lt(I:Inv X pins σ H s):X.env.locals<s.heap.objs.size:=let ⟨_,hn,_⟩:=I.loc;hn.lt
theorem Inv.sz(I:Inv X pins σ H s):X.s₀.heap.objs.size<=s.heap.objs.size:=Qqy I.ok.above (Qj5 I.lt)
theorem Inv.nofs(I:Inv X pins σ H s){a:Addr}(h:s.heap.objs.size<=a):a ∉ X.fs:=λhb=>by
 obtain⟨_,o,ho,_⟩:=I.ok.funs.mem hb;exact absurd (Qw0 (Qwj ho) (Qqy I.sz h)) (Qz8 _)
theorem Inv.cne(I:Inv X pins σ H s):∀x c,X.env.cells.lookup x=some c->c≠X.env.locals:=λx c e z=>by
 obtain⟨v,o,ho,hd⟩:=I.cell x c e;obtain⟨m,⟨o',es,ep,ho',hd',_⟩,_⟩:=I.loc;rw[z,ho'] at ho;cases ho;rw[hd'] at hd;cases hd
theorem Inv.funs(I:Inv X pins σ H s):s.heap.FunFrames X.base X.outer:=by
 have all:∀(l:List Env),(∀b∈frs l,b∈X.fs)->X.s₀.heap.FunFrames X.base l->s.heap.FunFrames X.base l:=by
  intro l
  induction l with
  | nil=>intro _ _;trivial
  | cons env r ih=>
   intro hs hl;obtain⟨hk,⟨L,o,hf,hn,ho,hd⟩,hr⟩:=hl;have hL:L∈X.fs:=hs L (by unfold frs;rw[List.filterMap_cons,hf];exact Qqz);obtain⟨sl,e⟩:=I.base.slot L o ho (I.ok.frf L hL) hL λz=>I.ok.exfs L z hL;exact⟨hk,⟨L,_,hf,hn,e,hd⟩,ih (λb hb=>hs b (by unfold frs;rw[List.filterMap_cons,hf];exact Qqj _ hb)) hr⟩
 exact all X.outer (λ_ hb=>hb) I.ok.funs
theorem Inv.stack(I:Inv X pins σ H s):s.heap.FunFrames X.base X.stack:=by
 rcases I.ok.stk with e|⟨e,hf⟩
 ·rw[e];exact I.funs
 ·rw[e];obtain⟨m,hn,_⟩:=I.loc;refine .cons (by rw[I.ok.kind];decide) hf hn ?_ I.funs;exact Heap.get?_none_of_le (Qqy I.ok.bsz I.ok.above)
theorem Inv.stkSub(I:Inv X pins σ H s):∀b∈frs X.stack,b∈X.env.locals::X.fs:=λb hb=>by
 rcases I.ok.stk with e|⟨e,hf⟩
 ·rw[e] at hb;exact Qqj _ hb
 ·rw[e] at hb;unfold frs at hb;rw[List.filterMap_cons,hf] at hb;exact hb
theorem Inv.stkFree(I:Inv X pins σ H s):∀b∈frs X.stack,H b=none:=λb hb=>by
 rcases Qq3.mp (I.stkSub b hb) with e|hb
 ·rw[e];exact I.free
 ·obtain⟨_,o,ho,_⟩:=I.ok.funs.mem hb;exact I.base.free b o ho (I.ok.frf b hb) λz=>I.ok.exfs b z hb
theorem Inv.step{g':Array GenState}{t':Nat}{d':Drawn}{ch:List Addr}(I:Inv X pins σ H s)
  (hch:∀b∈ch,(b∈X.ex\/X.s₀.heap.objs.size<=b)/\b≠X.env.locals/\(∀x c,X.env.cells.lookup x=some c->c≠b)/\∀p∈X.pn++pins,p.1≠b)
  (keep:∀b o,b≠X.env.locals->b ∉ X.fs->b ∉ ch->s.heap.get? b=some o->H b=none->h'.get? b=some o)
  (slot:∀b o,b≠X.env.locals->b∈X.fs->b ∉ ch->s.heap.get? b=some o->H b=none->∃sl,h'.get? b=some { o with slots:=sl }) (free:∀b o,b ∉ ch->s.heap.get? b=some o->H b=none->H' b=none)
  (there:∀b o,b ∉ ch->s.heap.get? b=some o->∃o',h'.get? b=some o')
  (tups:∀b xs,H b=some (.tup xs)->H' b=some (.tup xs)) (frzs:∀b o u,H b=some (.frz o u)->H' b=some (.frz o u)) (tbls:∀b ps,H b=some (.tbl ps)->∃more,H' b=some (.tbl (ps++more)))
  (ns:∀m,s.heap.Ns X.env.locals m->h'.Ns X.env.locals m) (hok:HOk X.prog X.w H' h') (hg:AllBare g')
  (tabs:∀(b:Addr) (qs:List (Pos×Str)),H b=some (.tab qs)->H' b=some (.tab qs):=by intro _ _ q;exact q) :
  Inv X pins σ H' { s with heap:=h',gens:=g',drawn:=d',toks:=t' }:=by
 have neL:∀b o,X.s₀.heap.get? b=some o->b≠X.env.locals:=λb o e=>Qw5 (Qw0 (Qwj e) I.ok.above);have neC:∀b o,X.s₀.heap.get? b=some o->b ∉ X.ex->b ∉ ch:=λb o e hx hb=>by
  rcases(hch b hb).1 with z|z
  ·exact hx z
  ·exact absurd (Qw0 (Qwj e) z) (Qz8 _)
 have cellK:∀x c,X.env.cells.lookup x=some c->∀v,s.heap.IsCell c v->h'.IsCell c v:=λx c e v ⟨o,ho,hd⟩=>by
  have nch:c ∉ ch:=λz=>(hch c z).2.2.1 x c e rfl;rcases I.freeC x c e with hn|⟨_,fo,fu,hz⟩
  ·by_cases hc:c∈X.fs
   ·obtain⟨sl,q⟩:=slot c o (I.cne x c e) hc nch ho hn;exact⟨_,q,hd⟩
   ·exact⟨o,keep c o (I.cne x c e) hc nch ho hn,hd⟩
  ·have e1:=(I.hok c _ hz).1;rw[ho] at e1;cases e1;exact⟨o,(hok c _ (frzs c o fu hz)).1,hd⟩
 refine⟨I.ok,I.os,hg,⟨λb o e n hb hx=>?_,λb o e n hb hx=>?_,λb o e n hx=>?_,λb o e hx=>?_,λb xs e=>tups b xs (I.base.tups b xs e),λb o xs e=>frzs b o xs (I.base.frzs b o xs e),λb ps e=>?_,λb qs e=>tabs b qs (I.base.tabs b qs e)⟩,?_,λx c e=>?_,?_,λx c e=>?_,λp hp=>?_,hok,I.len⟩
 ·exact keep b o (neL b o e) hb (neC b o e hx) (I.base.keep b o e n hb hx) (I.base.free b o e n hx)
 ·obtain⟨sl,e1⟩:=I.base.slot b o e n hb hx;obtain⟨sl',e2⟩:=slot b _ (neL b o e) hb (neC b o e hx) e1 (I.base.free b o e n hx);exact⟨sl',e2⟩
 ·obtain⟨o',e1⟩:=I.base.there b o e hx;exact free b o' (neC b o e hx) e1 (I.base.free b o e n hx)
 ·obtain⟨o',e1⟩:=I.base.there b o e hx;exact there b o' (neC b o e hx) e1
 ·obtain⟨m1,e1⟩:=I.base.tbls b ps e;obtain⟨m2,e2⟩:=tbls b _ e1;exact⟨m1++m2,by rw[e2,Array.append_assoc]⟩
 ·obtain⟨m,hn,hl⟩:=I.loc;refine⟨m,ns m hn,λi x v e1 e2 e3=>?_⟩;obtain⟨u,r,l⟩:=hl i x v e1 e2 e3;refine⟨u,r,?_⟩;rcases l with l|⟨k,c,e,z⟩
  ·exact .inl l
  ·exact .inr ⟨k,c,e,cellK x c e _ z⟩
 ·obtain⟨v,z⟩:=I.cell x c e;exact⟨v,cellK x c e v z⟩
 ·obtain⟨m,⟨o,_,_,ho,_⟩,_⟩:=I.loc;exact free _ o (λz=>(hch _ z).2.1 rfl) ho I.free
 ·rcases I.freeC x c e with hn|⟨h1,fo,fu,hz⟩
  ·obtain⟨v,o,ho,hd⟩:=I.cell x c e;exact .inl (free c o (λz=>(hch c z).2.2.1 x c e rfl) ho hn)
  ·exact .inr ⟨h1,fo,fu,frzs c fo fu hz⟩
 ·obtain⟨e,n,ne,nf,d⟩:=I.pin p hp;have nch:p.1 ∉ ch:=λz=>(hch p.1 z).2.2.2 p hp rfl;exact⟨keep p.1 p.2 ne nf nch e n,free p.1 p.2 nch e n,ne,nf,d⟩
theorem Inv.un{t':Nat}(I:Inv X pins σ H s)(u:Un X.fs [] H H' s.heap h')(hok:HOk X.prog X.w H' h'):Inv X pins σ H' { s with heap:=h',toks:=t' }:=by
 obtain⟨m,⟨o,es,ep,ho,r⟩,_⟩:=id I.loc;obtain⟨sl,hL⟩:=u.any ho I.free (by simp);exact I.step (g':=s.gens) (d':=s.drawn) (ch:=[]) (λ_ z=>nomatch z) (λb o _ hb _ e n=>u.keep b o e n hb (by simp)) (λb o _ hb _ e n=>u.slot b o e n hb (by simp)) (λb o _ e n=>u.free b o e n (by simp)) (λb o _ e=>u.there b o e (by simp)) u.tups u.frzs u.tbls (λm' hm=>by
  obtain⟨o',es',ep',ho',r'⟩:=hm;rw[ho] at ho';cases ho';exact⟨_,es',ep',hL,r'⟩) hok I.bare u.tabs
theorem Inv.call{g':Array GenState}{t':Nat}{d':Drawn}{ch:List Addr}(I:Inv X pins σ H s)(u:Un (frs X.stack) ch H H' s.heap h')(hok:HOk X.prog X.w H' h')(hg:AllBare g')
  (hch:∀b∈ch,(b∈X.ex\/X.s₀.heap.objs.size<=b)/\b≠X.env.locals/\(∀x c,X.env.cells.lookup x=some c->c≠b)/\∀p∈X.pn++pins,p.1≠b) :
  Inv X pins σ H' { s with heap:=h',gens:=g',drawn:=d',toks:=t' }:=by
 obtain⟨m,⟨o,es,ep,ho,r⟩,_⟩:=id I.loc;obtain⟨sl,hL⟩:=u.any ho I.free λz=>(hch _ z).2.1 rfl;exact I.step (ch:=ch) hch (λb o hL hb hc e n=>u.keep b o e n (λz=>(Qq3.mp (I.stkSub b z)).elim hL hb) hc) (λb o _ _ hc e n=>u.any e n hc) (λb o hc e n=>u.free b o e n hc) (λb o hc e=>u.there b o e hc) u.tups u.frzs u.tbls (λm' hm=>by
  obtain⟨o',es',ep',ho',r'⟩:=hm;rw[ho] at ho';cases ho';exact⟨_,es',ep',hL,r'⟩) hok hg u.tabs
theorem Inv.turned{t':Nat}{it:Addr}(I:Inv X pins σ H s)(k:∀b o,b≠it->s.heap.get? b=some o->h'.get? b=some o)(hn:H it=none)(hL:it≠X.env.locals)
  (h1:it∈X.ex\/X.s₀.heap.objs.size<=it) (h2:∀x c,X.env.cells.lookup x=some c->c≠it) (h3:∀p∈X.pn++pins,p.1≠it):Inv X pins σ H { s with heap:=h',toks:=t' }:=by
 have nit:∀b u,H b=some u->b≠it:=λb u e z=>by rw[z,hn] at e;cases e
 refine I.step (g':=s.gens) (d':=s.drawn) (ch:=[it]) (λb hb=>?_) (λb o _ _ hc e _=>k b o (λz=>hc (by simp[z])) e) (λb o _ _ hc e _=>⟨o.slots,k b o (λz=>hc (by simp[z])) e⟩) (λ_ _ _ _ n=>n)
  (λb o hc e=>⟨o,k b o (λz=>hc (by simp[z])) e⟩) (λ_ _ e=>e) (λ_ _ _ e=>e) (λb ps e=>⟨#[],by rw[e];simp⟩) (λm hm=>?_) (λb u e=>?_) I.bare
 ·have e:b=it:=by simpa using hb
  subst e;exact⟨h1,hL,h2,h3⟩
 ·obtain⟨o,es,ep,ho,r⟩:=hm;exact⟨o,es,ep,k _ o (Ne.symm hL) ho,r⟩
 ·refine(I.hok b u e).stay (λc v hc q=>k c v ?_ q) (λ_ q=>q) λ_ _ q=>q;rcases hc with z|z
  ·rw[z];exact nit b u e
  ·exact nit c _ z
theorem Inv.tok(I:Inv X pins σ H s)(t:Nat):Inv X pins σ H { s with toks:=t }:=I.un (h':=s.heap) (t':=t) Un.refl I.hok
theorem Inv.kept{t':Nat}(I:Inv X pins σ H s)(k:∀b u,s.heap.get? b=some u->h'.get? b=some u):Inv X pins σ H { s with heap:=h',toks:=t' }:=I.un (Un.kept k) (I.hok.kept k)
theorem Inv.laid{a:Addr}{o:HO}{t':Nat}(I:Inv X pins σ H s)(k:∀b u,s.heap.get? b=some u->h'.get? b=some u)(hp:s.heap.objs.size<=a)(new:ObjOk X.prog X.w (upd H a o) h' a o) :
  Inv X pins σ (upd H a o) { s with heap:=h',toks:=t' }:=I.un (Un.laid k hp (I.hok.fresh hp)) (I.hok.laid k hp new)
theorem Inv.write{x e:Addr}{o:HO}{t':Nat}(I:Inv X pins σ H s)(mu:Mut (H x))(he:e=x\/H e=some (.own x))(k:∀b u,b≠e->s.heap.get? b=some u->h'.get? b=some u)(heo:∃u,h'.get? e=some u)
  (new:ObjOk X.prog X.w (upd H x o) h' x o):Inv X pins σ (upd H x o) { s with heap:=h',toks:=t' }:=I.un (Un.write mu he k heo) (I.hok.write mu he k heo new)
theorem Inv.pins_of{pins':List (Addr×Obj)}(I:Inv X pins σ H s)(h:∀p∈pins',s.heap.get? p.1=some p.2/\H p.1=none/\p.1≠X.env.locals/\p.1 ∉ X.fs/\∀v,p.2.data ≠ .cell v):Inv X pins' σ H s:=
 ⟨I.ok,I.os,I.bare,I.base,I.loc,I.cell,I.free,I.freeC,λp hp=>(Qw4.mp hp).elim (λz=>I.pin p (Qx9 _ z)) (h p),I.hok,I.len⟩
theorem nodup_ix{N:List Str}(hN:N.Nodup){i j:Nat}{x:Str}(a:N[i]? = some x)(b:N[j]? = some x):i=j:=by obtain⟨h1,e1⟩:=Qq4.mp a;obtain⟨h2,e2⟩:=Qq4.mp b;exact(List.getElem_inj hN).mp (e1.trans e2.symm)
theorem store_ok2{M:Model}{A:Around}{E:Value->Shared->Prop}{i:Nat}{x:Str}{v:V}{u:Value}{Q:Unit->Shared->Prop}(I:Inv X pins σ H s)(hN:X.N.Nodup)(hi:X.N[i]? = some x)(hx:Loc X.env.scope x)(r:RelV v u)
  (h:∀s',Inv X pins (σ.set i (some v)) H s'->(∃a,Heap.SameBut a s.heap s'.heap/\(a=X.env.locals\/X.env.cells.lookup x=some a))->Q () s') (hf:X.fn x=true\/X.env.scope.names.lookup x=some .local:=by first|exact .inl rfl|exact .inr rfl|assumption):wpAny M A (storeName X.env x u) Q E s:=by
 obtain⟨m,hn,hl⟩:=id I.loc;have hcls:(X.env.scope.kind == .class||(X.env.scope.kind == .module&&X.env.locals != X.env.globals))=false:=by rw[I.ok.kind];rfl
 have hiσ:i<σ.length:=by rw[I.len];exact(Qq4.mp hi).1
 have cne:=I.cne;have tracked:∀{a:Addr} {h':Heap},(∃o,s.heap.get? a=some o/\H a=none)->Heap.SameBut a s.heap h'->HOk X.prog X.w H h':=λ{a h'} ha hs b ob e=>by
  obtain⟨_,_,hfree⟩:=ha;refine(I.hok b ob e).stay (λc w' hc q=>(hs.2 c ?_).trans q) (λ_ q=>q) λ_ _ q=>q;rintro rfl;rcases hc with rfl|hc
  ·rw[hfree] at e;cases e
  ·rw[hfree] at hc;cases hc
 rcases hx with hk|hk
 ·refine wpAny_storeName_local hk hn (λh' hn' hs=>?_) hcls;obtain⟨oL,_,_,hoL,_⟩:=id hn;refine h _ ⟨I.ok,I.os,I.bare,⟨λb o e n hb hx=>?_,λb o e n hb hx=>?_,I.base.free,λb o e hx=>?_,I.base.tups,I.base.frzs,I.base.tbls,I.base.tabs⟩,⟨_,hn',λj y v' e1 e2 e3=>?_⟩,λy c e=>?_,I.free,I.freeC,λp hp=>?_,tracked ⟨oL,hoL,I.free⟩ hs,by simpa using I.len⟩ ⟨_,hs,.inl rfl⟩
  ·exact(hs.2 b (Qw5 (Qw0 (Qwj e) I.ok.above))).trans (I.base.keep b o e n hb hx)
  ·obtain⟨sl,e1⟩:=I.base.slot b o e n hb hx;exact⟨sl,(hs.2 b (Qw5 (Qw0 (Qwj e) I.ok.above))).trans e1⟩
  ·obtain⟨o',e1⟩:=I.base.there b o e hx;exact⟨o',(hs.2 b (Qw5 (Qw0 (Qwj e) I.ok.above))).trans e1⟩
  ·by_cases hj:j=i
   ·subst hj;rw[hi] at e1;cases e1;rw[Qwk hiσ] at e2;cases e2;exact⟨u,r,.inl ⟨hk,by simp⟩⟩
   ·rw[Qwx (Ne.symm hj)] at e2;obtain⟨u',r',q⟩:=hl j y v' e1 e2 e3;refine⟨u',r',?_⟩;rcases q with ⟨k,e⟩|⟨k,c,e,z⟩
    ·refine .inl ⟨k,?_⟩;have:y≠x:=λe=>hj (nodup_ix hN e1 (e ▸ hi));simp[this,e]
    ·exact .inr ⟨k,c,e,z.sameBut hs (cne y c e)⟩
  ·obtain⟨w',z⟩:=I.cell y c e;exact⟨w',z.sameBut hs (cne y c e)⟩
  ·obtain⟨e,n,ne,nf,d⟩:=I.pin p hp;exact⟨(hs.2 p.1 ne).trans e,n,ne,nf,d⟩
 ·have hfn:X.fn x=true:=by
   rcases hf with z|z
   ·exact z
   ·rw[z] at hk;cases hk
  obtain⟨c,hc⟩:=I.ok.has x (.inl hk);obtain⟨w',z⟩:=I.cell x c hc;refine wpAny_storeName_cell I.ok.kind hk hc z (λh' hc' hs=>?_);obtain⟨oc,hoc,hocd⟩:=id z;refine h { s with heap:=h' } ⟨I.ok,I.os,I.bare,⟨λb o e n hb hx=>?_,λb o e n hb hx=>?_,I.base.free,λb o e hx=>?_,I.base.tups,I.base.frzs,I.base.tbls,I.base.tabs⟩,⟨m,hn.sameBut hs (Ne.symm (cne x c hc)),λj y v' e1 e2 e3=>?_⟩,λy c' e=>?_,I.free,I.freeC,λp hp=>?_,tracked ⟨oc,hoc,(I.freeC x c hc).resolve_right λz=>by rw[hfn] at z;cases z.1⟩ hs,by simpa using I.len⟩ ⟨c,hs,.inr hc⟩
  ·exact(hs.2 b (Qw5 (Qw0 (Qwj e) (I.ok.cab x c hfn hc)))).trans (I.base.keep b o e n hb hx)
  ·obtain⟨sl,e1⟩:=I.base.slot b o e n hb hx;exact⟨sl,(hs.2 b (Qw5 (Qw0 (Qwj e) (I.ok.cab x c hfn hc)))).trans e1⟩
  ·obtain⟨o',e1⟩:=I.base.there b o e hx;exact⟨o',(hs.2 b (Qw5 (Qw0 (Qwj e) (I.ok.cab x c hfn hc)))).trans e1⟩
  ·by_cases hj:j=i
   ·subst hj;rw[hi] at e1;cases e1;rw[Qwk hiσ] at e2;cases e2;exact⟨u,r,.inr ⟨.inl hk,c,hc,hc'⟩⟩
   ·rw[Qwx (Ne.symm hj)] at e2;obtain⟨u',r',q⟩:=hl j y v' e1 e2 e3;refine⟨u',r',?_⟩;rcases q with q|⟨k,c',e,z'⟩
    ·exact .inl q
    ·refine .inr ⟨k,c',e,z'.sameBut hs ?_⟩;rintro rfl;exact hj (nodup_ix hN e1 (I.ok.inj _ _ _ e hc ▸ hi))
  ·by_cases hcc:c'=c
   ·subst hcc;exact⟨_,hc'⟩
   ·obtain⟨w2,z2⟩:=I.cell y c' e;exact⟨w2,z2.sameBut hs hcc⟩
  ·obtain⟨e,n,ne,nf,d⟩:=I.pin p hp;refine⟨(hs.2 p.1 ?_).trans e,n,ne,nf,d⟩;intro q;rw[q,hoc] at e;have q':oc=p.2:=Qw1 e;exact d w' (by rw[<-q'];exact hocd)
theorem store_ok{M:Model}{A:Around}{E:Value->Shared->Prop}{i:Nat}{x:Str}{v:V}{u:Value}{Q:Unit->Shared->Prop}(I:Inv X pins σ H s)(hN:X.N.Nodup)(hi:X.N[i]? = some x)(hx:Loc X.env.scope x)(r:RelV v u)
  (h:∀s',Inv X pins (σ.set i (some v)) H s'->Q () s') (hf:X.fn x=true\/X.env.scope.names.lookup x=some .local:=by first|exact .inl rfl|exact .inr rfl|assumption):wpAny M A (storeName X.env x u) Q E s:=
 store_ok2 I hN hi hx r (λs' I' _=>h s' I') hf
theorem Inv.call'{s':Shared}{ch:List Addr}(I:Inv X pins σ H s)(ho:s'.os=s.os)(u:Un (frs X.stack) ch H H' s.heap s'.heap)(hok:HOk X.prog X.w H' s'.heap)(hg:AllBare s'.gens)
  (hch:∀b∈ch,(b∈X.ex\/X.s₀.heap.objs.size<=b)/\b≠X.env.locals/\(∀x c,X.env.cells.lookup x=some c->c≠b)/\∀p∈X.pn++pins,p.1≠b):Inv X pins σ H' s':=by
 obtain⟨h',g',d',t',o'⟩:=s';have e:o'=s.os:=ho;subst e;exact I.call (g':=g') (t':=t') (d':=d') u hok hg hch
end
abbrev XK:=Value->Option Addr->Hp->Prop
abbrev St:=List (Option V)
abbrev VK:=V->Hp->Prop
abbrev TE:=St->Hp->VK->Prop
abbrev TT:=St->Hp->(Bool->Hp->Prop)->Prop
abbrev TA:=St->Hp->(List V->Hp->Prop)->Prop
structure Ends where
 nx:St->Hp->Prop
 rt:VK
 bk:St->Hp->Prop:=λ_ _=>False
 ct:St->Hp->Prop:=λ_ _=>False
abbrev TS:=Ends->St->Hp->Prop
def EP(X:Cx)(pins:List (Addr×Obj))(σ:St)(Q:VK)(u:Value)(s':Shared):Prop:=∃v H',Inv X pins σ H' s'/\RelV v u/\Q v H'
def TP(X:Cx)(pins:List (Addr×Obj))(σ:St)(Q:Bool->Hp->Prop)(b:Bool)(s':Shared):Prop:=∃H',Inv X pins σ H' s'/\Q b H'
def AP(X:Cx)(pins:List (Addr×Obj))(σ:St)(Q:List V->Hp->Prop)(us:List Value)(s':Shared):Prop:=∃vs H',Inv X pins σ H' s'/\Vals vs us/\Q vs H'
def SP(X:Cx)(pins:List (Addr×Obj))(D:Ends)(f:Flow)(s':Shared):Prop:=
 match f with
 | .next=>∃σ' H',Inv X pins σ' H' s'/\D.nx σ' H'
 | .brk=>∃σ' H',Inv X pins σ' H' s'/\D.bk σ' H'
 | .cont=>∃σ' H',Inv X pins σ' H' s'/\D.ct σ' H'
 | .ret u=>∃v σ' H',Inv X pins σ' H' s'/\RelV v u/\D.rt v H'
def PE(X:Cx)(e:Expr)(t:TE):Prop:=
 ∀(pins:List (Addr×Obj)) (s:Shared) (σ:St) (H:Hp) (Q:VK),Inv X pins σ H s->t σ H Q->wpAny (model X.prog X.w) X.A (eval e X.env) (EP X pins σ Q) X.xe s
def PT(X:Cx)(e:Expr)(t:TT):Prop:=
 ∀(pins:List (Addr×Obj)) (s:Shared) (σ:St) (H:Hp) (Q:Bool->Hp->Prop),Inv X pins σ H s->t σ H Q->wpAny (model X.prog X.w) X.A (isTrue e X.env (eval e X.env)) (TP X pins σ Q) X.xe s
def PW(X:Cx)(e:Expr)(t:TT):Prop:=
 ∀(whole:Sem Value) (pins:List (Addr×Obj)) (s:Shared) (σ:St) (H:Hp) (Q:Bool->Hp->Prop),Inv X pins σ H s->t σ H Q->wpAny (model X.prog X.w) X.A (isTrue e X.env whole) (TP X pins σ Q) X.xe s
theorem PW.pt{X:Cx}{e:Expr}{t:TT}(h:PW X e t):PT X e t:=h _
def PA(X:Cx)(es:List Expr)(t:TA):Prop:=
 ∀(pos:Pos) (pins:List (Addr×Obj)) (s:Shared) (σ:St) (H:Hp) (Q:List V->Hp->Prop),Inv X pins σ H s->t σ H Q->wpAny (model X.prog X.w) X.A (spliced (backTo pos (starEach es X.env))) (AP X pins σ Q) X.xe s
def PS(X:Cx)(st:Stmt)(t:TS):Prop:=
 ∀(pins:List (Addr×Obj)) (s:Shared) (σ:St) (H:Hp) (D:Ends),Inv X pins σ H s->t D σ H->wpAny (model X.prog X.w) X.A (exec st X.env) (SP X pins D) X.xe s
def PSs(X:Cx)(st:List Stmt)(t:TS):Prop:=
 ∀(pins:List (Addr×Obj)) (s:Shared) (σ:St) (H:Hp) (D:Ends),Inv X pins σ H s->t D σ H->wpAny (model X.prog X.w) X.A (execs st X.env) (SP X pins D) X.xe s
theorem thn{α:Type}{t:Sem α}{Q Q':α->Shared->Prop}{M:Model}{A:Around}{E:Value->Shared->Prop}{s:Shared}(h:wpAny M A t Q E s)(hQ:∀a s,Q a s->Q' a s):wpAny M A t Q' E s:=Qz1 h hQ λ_ _ x=>x
section
variable{X:Cx}
def tVar(i:Nat):TE:=λσ H Q=>∃v,σ[i]? = some (some v)/\Q v H
def tC(v:V):TE:=λ_ H Q=>Q v H
theorem pe_var{i:Nat}{x:Str}{pos:Pos}(hN:X.N[i]? = some x)(hv:Vis X.env.scope x)(hd:nDb x:=by decide)(hcd:nCd x:=by decide):PE X (.Name x pos) (tVar i):=by
 intro pins s σ H Q I h;obtain⟨v,e,h⟩:=h;obtain⟨m,hn,hl⟩:=I.loc;obtain⟨u,r,l⟩:=hl i x v hN e hv;have fin:EP X pins σ Q u s:=⟨v,H,I,r,h⟩;rcases l with ⟨hk,hm⟩|⟨hk,c,hc,hcell⟩
 ·exact wpAny_Name (wpAny_loadName_local I.ok.kind hk hn hm fin) hd
 ·rcases hk with hk|hk
  ·exact wpAny_Name (wpAny_loadName_cell I.ok.kind hk hc hcell fin) hd
  ·exact wpAny_Name (wpAny_loadName_free I.ok.kind hk hc hcell fin hcd) hd
theorem pe_int{i j pos}:PE X (.Constant (.int i) j pos) (tC (.int i)):=λ_ _ _ H _ I h=>wpAny_Constant_int ⟨.int i,H,I.tok _,⟨_,rfl⟩,h⟩
theorem pe_bl{b j pos}:PE X (.Constant (.bool b) j pos) (tC (.bl b)):=λ_ _ _ H _ I h=>Constant_bool ⟨.bl b,H,I,rfl,h⟩
theorem pe_non{j pos}:PE X (.Constant .none j pos) (tC .non):=λ_ _ _ H _ I h=>Constant_none ⟨.non,H,I,rfl,h⟩
theorem pe_str{x j pos}:PE X (.Constant (.str x) j pos) (tC (.str x)):=λ_ _ _ H _ I h=>Calls.Constant_str ⟨.str x,H,I.tok _,⟨_,rfl⟩,h⟩
def Gl(X:Cx)(x:Str):Prop:=X.env.kindOf x=some .globalImplicit
theorem ld_glob{E:Value->Shared->Prop}{pins:List (Addr×Obj)}{s:Shared}{σ:St}{H:Hp}{x:Str}{u:Value}{pos:Pos}{Q:Value->Shared->Prop}(I:Inv X pins σ H s)(hg:Gl X x)(hm:X.mg x=some u)(h:Q u s)
  (hd:nDb x:=by decide):wpAny (model X.prog X.w) X.A (eval (.Name x pos) X.env) Q E s:=
 Calls.Name_function_global I.ok.kind hg (Calls.loadGlobal_global (by rw[I.ok.glob];exact I.mod.glob.keeps I.bk) hm h) hd
theorem ld_blt{E:Value->Shared->Prop}{pins:List (Addr×Obj)}{s:Shared}{σ:St}{H:Hp}{x:Str}{u:Value}{pos:Pos}{Q:Value->Shared->Prop}(I:Inv X pins σ H s)(hg:Gl X x)(hm:X.mg x=none)(hv:bootBuiltins x=some u)(h:Q u s)
  (hn:x ≠ "__name__":=by decide) (hd:nDb x:=by decide):wpAny (model X.prog X.w) X.A (eval (.Name x pos) X.env) Q E s:=by
 obtain⟨mb,h1,h2⟩:=I.mod.blt;exact Calls.Name_function_global I.ok.kind hg (Calls.loadGlobal_builtin (by rw[I.ok.glob];exact I.mod.glob.keeps I.bk) hm (by rw[I.ok.blt];exact h1.keeps I.bk) ((h2 x hn).trans hv) h) hd
theorem pe_glob{x:Str}{v:V}{u:Value}{pos:Pos}(hg:Gl X x)(hm:X.mg x=some u)(r:RelV v u)(hd:nDb x:=by decide):PE X (.Name x pos) (tC v):=
 λ_ _ _ H _ I h=>ld_glob I hg hm ⟨v,H,I,r,h⟩ hd
theorem pe_bltn{x:Str}{v:V}{u:Value}{pos:Pos}(hg:Gl X x)(hm:X.mg x=none)(hv:bootBuiltins x=some u)(r:RelV v u)(hn:x ≠ "__name__":=by decide)(hd:nDb x:=by decide):PE X (.Name x pos) (tC v):=
 λ_ _ _ H _ I h=>ld_blt I hg hm hv ⟨v,H,I,r,h⟩ hn hd
variable{a b:Expr}{ta tb:TE}{pos:Pos}
def tB(t:TE):TT:=λσ H Q=>t σ H λx H1=>∃c,x = .bl c/\Q c H1
theorem pt_val{e:Expr}{t:TE}(h:PE X e t)(he:∀whole,isTrue e X.env whole=(do let v <-whole;standAt e.pos;holding [v] (truthy v)):=by intro _;rfl):PT X e (tB t):=by intro pins s σ H Q I hw;refine isTrue_plain (thn (h pins s σ H _ I hw) λv s1 ⟨x,H1,I1,r1,q1⟩=>?_) (he _);obtain⟨d,rfl,q⟩:=q1;cases r1;exact Qzw ⟨H1,I1,q⟩
variable{tA tB':TT}{rest:List Expr}
def tAnd(t u:TT):TT:=λσ H Q=>t σ H λc H1=>if c=true then u σ H1 Q else Q false H1
def tOr(t u:TT):TT:=λσ H Q=>t σ H λc H1=>if c=true then Q true H1 else u σ H1 Q
def tNot(t:TT):TT:=λσ H Q=>t σ H λc H1=>Q (!c) H1
theorem pw_and1(ha:PT X a tA):PW X (.BoolOp .And [a] pos) tA:=by
 intro wh pins s σ H Q I h;refine isTrue_and (thn (ha pins s σ H Q I h) λc s1 e=>?_);cases c with
 | true=>exact isTrue_and_nil e
 | false=>exact e
theorem pw_or1(ha:PT X a tA):PW X (.BoolOp .Or [a] pos) tA:=by
 intro wh pins s σ H Q I h;refine isTrue_or (thn (ha pins s σ H Q I h) λc s1 e=>?_);cases c with
 | false=>exact isTrue_or_nil e
 | true=>exact e
theorem pw_and(ha:PT X a tA)(hb:PW X (.BoolOp .And (b::rest) pos) tB'):PW X (.BoolOp .And (a::b::rest) pos) (tAnd tA tB'):=by
 intro wh pins s σ H Q I h;refine isTrue_and (thn (ha pins s σ H _ I h) λc s1 ⟨H1,I1,q1⟩=>?_);cases c with
 | true=>exact hb wh pins s1 σ H1 Q I1 q1
 | false=>exact⟨H1,I1,q1⟩
theorem pw_or(ha:PT X a tA)(hb:PW X (.BoolOp .Or (b::rest) pos) tB'):PW X (.BoolOp .Or (a::b::rest) pos) (tOr tA tB'):=by
 intro wh pins s σ H Q I h;refine isTrue_or (thn (ha pins s σ H _ I h) λc s1 ⟨H1,I1,q1⟩=>?_);cases c with
 | true=>exact⟨H1,I1,q1⟩
 | false=>exact hb wh pins s1 σ H1 Q I1 q1
theorem pt_not(ha:PT X a tA):PT X (.UnaryOp .Not a pos) (tNot tA):=by intro pins s σ H Q I h;exact isTrue_not (ha pins s σ H (λc H1=>Q (!c) H1) I h)
def tAndV(ta tb:TE):TE:=λσ H Q=>ta σ H λx H1=>∃c,x = .bl c/\if c=true then tb σ H1 Q else Q (.bl false) H1
def tOrV(ta tb:TE):TE:=λσ H Q=>ta σ H λx H1=>∃c,x = .bl c/\if c=true then Q (.bl true) H1 else tb σ H1 Q
theorem pe_one{op}{t:TE}(h:PE X a t):PE X (.BoolOp op [a] pos) t:=λpins s σ H Q I hw=>BoolOp_one (h pins s σ H Q I hw)
theorem pe_and(ha:PE X a ta)(hb:PE X (.BoolOp .And (b::rest) pos) tb):PE X (.BoolOp .And (a::b::rest) pos) (tAndV ta tb):=by
 intro pins s σ H Q I h;refine BoolOp_and (thn (ha pins s σ H _ I h) λv s1 ⟨x,H1,I1,r1,q1⟩=>?_);obtain⟨c,rfl,q1⟩:=q1;cases r1;refine Qzw ?_;cases c with
 | true=>exact hb pins s1 σ H1 Q I1 q1
 | false=>exact⟨.bl false,H1,I1,rfl,q1⟩
theorem pe_or(ha:PE X a ta)(hb:PE X (.BoolOp .Or (b::rest) pos) tb):PE X (.BoolOp .Or (a::b::rest) pos) (tOrV ta tb):=by
 intro pins s σ H Q I h;refine BoolOp_or (thn (ha pins s σ H _ I h) λv s1 ⟨x,H1,I1,r1,q1⟩=>?_);obtain⟨c,rfl,q1⟩:=q1;cases r1;refine Qzw ?_;cases c with
 | false=>exact hb pins s1 σ H1 Q I1 q1
 | true=>exact⟨.bl true,H1,I1,rfl,q1⟩
def tIf(t:TT)(ta tb:TE):TE:=λσ H Q=>t σ H λc H1=>if c=true then ta σ H1 Q else tb σ H1 Q
theorem pe_ifExp{c:Expr}(hc:PT X c tA)(ha:PE X a ta)(hb:PE X b tb):PE X (.IfExp c a b pos) (tIf tA ta tb):=by
 intro pins s σ H Q I h;refine wpAny_IfExp (thn (hc pins s σ H _ I h) λd s1 ⟨H1,I1,q1⟩=>?_);cases d with
 | true=>exact ha pins s1 σ H1 Q I1 q1
 | false=>exact hb pins s1 σ H1 Q I1 q1
end
def SqL(K:PySem.W.Frag)(H:Hp)(a:Addr)(xs:List V):Prop:=
 Rd H a (.lst xs)\/
  ∃(o:Obj) (its:Array Value) (n:Nat),K.lookup a=some o/\o.cls = .type "list"/\o.dict=none/\o.data = .seq its n/\its.size<=sizeLine/\Vals xs its.toList
def SqT(K:PySem.W.Frag)(H:Hp)(a:Addr)(xs:List V):Prop:=
 Rd H a (.tup xs)\/
  ∃(o:Obj) (its:Array Value) (n:Nat),K.lookup a=some o/\o.cls = .type "tuple"/\o.dict=none/\o.data = .seq its n/\its.size<=sizeLine/\Vals xs its.toList
def absV:Value->Option V
 | .none=>some .non
 | .bool b=>some (.bl b)
 | .int i _=>some (.int i)
 | .str x _=>some (.str x)
 | .bytes b _=>some (.byt b)
 | .float b _=>some (.flt b)
 | .ref a=>some (.ref a)
 | .type n=>some (.ty n)
 | _=>none
theorem RelV.abs{x:V}{u:Value}(r:RelV x u):absV u=some x:=by
 cases x with
 | non=>cases r;rfl
 | bl _=>cases r;rfl
 | int _=>obtain⟨t,rfl⟩:=r;rfl
 | str _=>obtain⟨t,rfl⟩:=r;rfl
 | byt _=>obtain⟨t,rfl⟩:=r;rfl
 | flt _=>obtain⟨t,rfl⟩:=r;rfl
 | ref _=>cases r;rfl
 | ty _=>cases r;rfl
theorem RelV.inj{x y:V}{u:Value}(r:RelV x u)(q:RelV y u):x=y:=Qw1 (r.abs.symm.trans q.abs)
theorem Vals.inj:∀{xs ys:List V} {us:List Value},Vals xs us->Vals ys us->xs=ys
 | _,_,_,.nil,.nil=>rfl
 | _,_,_,.cons r t,.cons r' t'=>by rw[r.inj r',Vals.inj t t']
section
variable{X:Cx}{pins:List (Addr×Obj)}{σ:St}{H:Hp}{s:Shared}{a:Addr}{xs ys:List V}
theorem SqL.of{K:PySem.W.Frag}(h:H a=some (.lst xs)):SqL K H a xs:=.inl (.inl h)
theorem SqT.of{K:PySem.W.Frag}(h:H a=some (.tup xs)):SqT K H a xs:=.inl (.inl h)
theorem Inv.list(I:Inv X pins σ H s)(h:SqL X.K H a xs):∃its:List Value,Vals xs its/\PlainL s.heap a its.toArray/\xs.length<=sizeLine:=by
 rcases h with h|⟨o,its,n,hk,hc,hd,hs,hz,r⟩
 ·obtain⟨z,its,n,r,e⟩:=h.ok I.hok;exact⟨its,r,⟨_,n,e,rfl,rfl,rfl⟩,z⟩
 ·refine⟨its.toList,r,⟨o,n,I.kIn a o hk,hc,hd,by simpa using hs⟩,?_⟩;have e:=r.length;simp only[Qjv] at e;omega
theorem Inv.tuple(I:Inv X pins σ H s)(h:SqT X.K H a xs):∃its:List Value,Vals xs its/\IsTup s.heap a its.toArray/\xs.length<=sizeLine:=by
 rcases h with h|⟨o,its,n,hk,hc,hdn,hs,hz,r⟩
 ·obtain⟨z,its,r,p⟩:=h.ok I.hok;exact⟨its,r,p.is,z⟩
 ·refine⟨its.toList,r,⟨o,I.kIn a o hk,hc,n,by simpa using hs⟩,?_⟩;have e:=r.length;simp only[Qjv] at e;omega
theorem Inv.list_inj(I:Inv X pins σ H s)(h:SqL X.K H a xs)(h':SqL X.K H a ys):xs=ys:=by
 obtain⟨its,r,⟨o,n,e,_,_,d⟩,_⟩:=I.list h;obtain⟨its',r',⟨o',n',e',_,_,d'⟩,_⟩:=I.list h';rw[e] at e';cases e';rw[d] at d';injection d' with d1 _
 have:its=its':=by simpa using Qzq Array.toList d1
 subst this;exact r.inj r'
theorem Inv.tuple_inj(I:Inv X pins σ H s)(h:SqT X.K H a xs)(h':SqT X.K H a ys):xs=ys:=by
 obtain⟨its,r,⟨o,e,_,n,d⟩,_⟩:=I.tuple h;obtain⟨its',r',⟨o',e',_,n',d'⟩,_⟩:=I.tuple h';rw[e] at e';cases e';rw[d] at d';injection d' with d1 _
 have:its=its':=by simpa using Qzq Array.toList d1
 subst this;exact r.inj r'
end
abbrev Cx.wish(X:Cx)(E:Value->Shared->Prop):Cx:={ X with xe:=E }
abbrev Cx.nox(X:Cx):Cx:=X.wish λ_ _=>False
theorem Cx.Ok.wish{X:Cx}(ok:X.Ok)(E:Value->Shared->Prop):(X.wish E).Ok:=
 ⟨ok.mod,ok.kind,ok.glob,ok.blt,ok.above,ok.inj,ok.has,ok.cab,ok.hd,ok.frames,ok.stk,ok.exf,ok.bs,ok.bsz,ok.noex,ok.exfs,ok.funs,ok.frf⟩
theorem Cx.Ok.unwish{X:Cx}{E:Value->Shared->Prop}(ok:(X.wish E).Ok):X.Ok:=
 ⟨ok.mod,ok.kind,ok.glob,ok.blt,ok.above,ok.inj,ok.has,ok.cab,ok.hd,ok.frames,ok.stk,ok.exf,ok.bs,ok.bsz,ok.noex,ok.exfs,ok.funs,ok.frf⟩
section
variable{X:Cx}{pins:List (Addr×Obj)}{σ:St}{H:Hp}{s:Shared}{E:Value->Shared->Prop}
theorem Inv.wish(I:Inv X pins σ H s)(E:Value->Shared->Prop):Inv (X.wish E) pins σ H s:=⟨I.ok.wish E,I.os,I.bare,I.base,I.loc,I.cell,I.free,I.freeC,I.pin,I.hok,I.len⟩
theorem Inv.unwish(I:Inv (X.wish E) pins σ H s):Inv X pins σ H s:=⟨I.ok.unwish,I.os,I.bare,I.base,I.loc,I.cell,I.free,I.freeC,I.pin,I.hok,I.len⟩
theorem SP.unwish{D:Ends}{f:Flow}{s':Shared}(h:SP (X.wish E) pins D f s'):SP X pins D f s':=by
 cases f with
 | next=>obtain⟨σ',H',I,q⟩:=h;exact⟨σ',H',I.unwish,q⟩
 | brk=>obtain⟨σ',H',I,q⟩:=h;exact⟨σ',H',I.unwish,q⟩
 | cont=>obtain⟨σ',H',I,q⟩:=h;exact⟨σ',H',I.unwish,q⟩
 | ret u=>obtain⟨v,σ',H',I,r,q⟩:=h;exact⟨v,σ',H',I.unwish,r,q⟩
theorem PSs.nox{st:List Stmt}{t:TS}(h:PSs X.nox st t):PSs X st t:=λpins s σ H D I hw=>
 Qz1 (h pins s σ H D (I.wish _) hw) (λ_ _ q=>q.unwish) λ_ _ z=>False.elim z
end
section
variable{X:Cx}{st:Stmt}{rest:List Stmt}{t u:TS}{e:Expr}{te:TE}{pos:Pos}
def tNext:TS:=λD σ H=>D.nx σ H
def tSeq(t u:TS):TS:=λD σ H=>t { D with nx:=u D } σ H
theorem pss_nil:PSs X [] tNext:=λ_ _ σ H _ I h=>wpAny_execs_nil ⟨σ,H,I,h⟩
theorem pss_cons(h1:PS X st t)(h2:PSs X rest u):PSs X (st::rest) (tSeq t u):=by
 intro pins s σ H D I h;refine wpAny_execs_cons (thn (h1 pins s σ H { D with nx:=u D } I h) λf s1 q=>?_);cases f with
 | next=>
  obtain⟨σ',H',I',q⟩:=q;exact h2 pins s1 σ' H' D I' q
 | ret v=>exact q
 | brk=>exact q
 | cont=>exact q
theorem pss_one(h1:PS X st t):PSs X [st] t:=by
 intro pins s σ H D I h;refine wpAny_execs_cons (thn (h1 pins s σ H D I h) λf s1 q=>?_);cases f with
 | next=>exact wpAny_execs_nil q
 | ret v=>exact q
 | brk=>exact q
 | cont=>exact q
theorem Inv.quiet{pins:List (Addr×Obj)}{σ:St}{H:Hp}{s:Shared}(I:Inv X pins σ H s):interactive X.env=false:=by simp[interactive,I.ok.kind]
def tDrop(te:TE):TS:=λD σ H=>te σ H λ_ H1=>D.nx σ H1
theorem ps_expr(he:PE X e te)(hs:swapsWith e none pos.line X.env=pure false:=by rfl):PS X (.Expr e pos) (tDrop te):=by intro pins s σ H D I h;exact wpAny_Expr_any (thn (he pins s σ H _ I h) λv s1 ⟨x,H1,I1,r1,q1⟩=>⟨σ,H1,I1,q1⟩) I.quiet hs
def tRet(te:TE):TS:=λD σ H=>te σ H D.rt
theorem ps_ret(he:PE X e te):PS X (.Return (some e) pos) (tRet te):=by intro pins s σ H D I h;exact wpAny_Return_some (thn (he pins s σ H _ I h) λv s1 ⟨x,H1,I1,r1,q1⟩=>⟨x,σ,H1,I1,r1,q1⟩)
def tIfS(c:TT)(t u:TS):TS:=λD σ H=>c σ H λb H1=>if b=true then t D σ H1 else u D σ H1
theorem ps_if{c:Expr}{a b:List Stmt}{tc:TT}(hc:PT X c tc)(ha:PSs X a t)(hb:PSs X b u):PS X (.If c a b pos) (tIfS tc t u):=by
 intro pins s σ H D I h;refine wpAny_If (thn (hc pins s σ H _ I h) λd s1 ⟨H1,I1,q1⟩=>?_);cases d with
 | true=>exact ha pins s1 σ H1 D I1 q1
 | false=>exact hb pins s1 σ H1 D I1 q1
end
abbrev TG:=V->St->Hp->(St->Hp->Prop)->Prop
abbrev TGs:=List V->St->Hp->(St->Hp->Prop)->Prop
def PG(X:Cx)(target:Expr)(t:TG):Prop:=
 ∀(pins:List (Addr×Obj)) (s:Shared) (σ:St) (H:Hp) (v:V) (u:Value) (Q:St->Hp->Prop),Inv X pins σ H s->RelV v u->t v σ H Q->
  wpAny (model X.prog X.w) X.A (assign target X.env u) (λ_ s'=>∃σ' H',Inv X pins σ' H' s'/\Q σ' H') X.xe s
def PGs(X:Cx)(ts:List Expr)(t:TGs):Prop:=
 ∀(pins:List (Addr×Obj)) (s:Shared) (σ:St) (H:Hp) (vs:List V) (us:List Value) (Q:St->Hp->Prop),Inv X pins σ H s->Vals vs us->t vs σ H Q->
  wpAny (model X.prog X.w) X.A (assignInOrder ((assignEach ts X.env).map (·.2)) us) (λ_ s'=>∃σ' H',Inv X pins σ' H' s'/\Q σ' H') X.xe s
abbrev TSet:=V->V->V->Hp->(Hp->Prop)->Prop
def PSet(X:Cx)(t:TSet):Prop:=
 ∀(pins:List (Addr×Obj)) (s:Shared) (σ:St) (H:Hp) (o i v:V) (ov iv u:Value) (Q:Hp->Prop),Inv X pins σ H s->RelV o ov->RelV i iv->RelV v u->t o i v H Q->
  wpAny (model X.prog X.w) X.A (setItem ov iv u) (λ_ s'=>∃H',Inv X pins σ H' s'/\Q H') X.xe s
section
variable{X:Cx}{pos:Pos}
def gName(i:Nat):TG:=λv σ H Q=>Q (σ.set i (some v)) H
theorem pg_name{i:Nat}{x:Str}(hN:X.N.Nodup)(hi:X.N[i]? = some x)(hx:Loc X.env.scope x)(hf:X.fn x=true\/X.env.scope.names.lookup x=some .local:=by first|exact .inl rfl|exact .inr rfl|assumption):PG X (.Name x pos) (gName i):=by intro pins s σ H v u Q I r h;exact wpAny_assign_Name (store_ok I hN hi hx r (λs' I'=>⟨_,H,I',h⟩) hf)
def gNil:TGs:=λvs σ H Q=>vs=[]/\Q σ H
def gCons(t:TG)(u:TGs):TGs:=λvs σ H Q=>∃v r,vs=v::r/\t v σ H λσ' H'=>u r σ' H' Q
theorem pgs_nil:PGs X [] gNil:=by intro pins s σ H vs us Q I r h;obtain⟨e,h⟩:=h;subst e;cases r;exact assignInOrder_nil ⟨σ,H,I,h⟩
theorem pgs_cons{e:Expr}{es:List Expr}{t:TG}{u:TGs}(h1:PG X e t)(h2:PGs X es u)
  (hs:(assignEach (e::es) X.env).map (·.2)=assign e X.env::(assignEach es X.env).map (·.2):=by rfl):PGs X (e::es) (gCons t u):=by
 intro pins s σ H vs us Q I r h;obtain⟨v,vr,e1,h⟩:=h;subst e1;cases r with
 | cons r rr=>
  rw[hs];refine assignInOrder_cons (thn (h1 pins s σ H _ _ _ I r h) λ_ s1 ⟨σ1,H1,I1,q1⟩=>?_);exact h2 pins s1 σ1 H1 _ _ Q I1 rr q1
def gTup(K:PySem.W.Frag)(n:Nat)(t:TGs):TG:=λv σ H Q=>∃a xs,v = .ref a/\SqT K H a xs/\xs.length=n/\t xs σ H Q
theorem pg_tup{es:List Expr}{k:Nat}{t:TGs}{n:Nat}(hc:X.calm=true)(h:PGs X es t)
  (hn:(assignEach es X.env).length=n:=by rfl) (hst:(assignEach es X.env).findIdx? (·.1)=none:=by rfl):PG X (.Tuple es k pos) (gTup X.K n t):=by
 intro pins s σ H v u Q I r hw;obtain⟨a,xs,e1,hq,hl,hw⟩:=hw;subst e1;cases r;obtain⟨its,rv,ht,hz⟩:=I.tuple hq;refine assign_Tuple_tuple (I.ok.hd hc) ht (by simp[hn,<-hl,rv.length]) hst λh' hx=>?_;have I1:Inv X pins σ H { s with heap:=h' }:=I.kept (t':=s.toks) λb o e=>hx b o (Qw5 (Qwj e)) e;exact h pins _ σ H xs _ Q I1 (by simpa using rv) hw
def gSub(to ti:TE)(t:TSet):TG:=λv σ H Q=>to σ H λo H1=>ti σ H1 λi H2=>t o i v H2 λH3=>Q σ H3
theorem pg_sub{o i:Expr}{to ti:TE}{t:TSet}(ho:PE X o to)(hi:PE X i ti)(hs:PSet X t)
  (ha:∀v,assign (.Subscript o i pos) X.env v=(do
   let ov <-holding [v] (eval o X.env)
   let iv <-holding [v,ov] (eval i X.env)
   standAt pos
   holding [v,ov,iv] (setItem ov iv v)
   release [v,ov,iv] []):=by intro _;rfl):PG X (.Subscript o i pos) (gSub to ti t):=by
 intro pins s σ H v u Q I r h;rw[ha];refine Qqv (Qz9 (thn (ho pins s σ H _ I h) λov s1 ⟨x,H1,I1,r1,q1⟩=>?_));refine Qqv (Qz9 (thn (hi pins s1 σ H1 _ I1 q1) λiv s2 ⟨y,H2,I2,r2,q2⟩=>?_));refine Qqv (wpAny_standAt (Qqv (Qz9 (thn (hs pins s2 σ H2 x y v ov iv u _ I2 r1 r2 r q2) λ_ s3 ⟨H3,I3,q3⟩=>?_))));exact wpAny_release ⟨σ,H3,I3,q3⟩
def tAsg(te:TE)(g:TG):TS:=λD σ H=>te σ H λx H1=>g x σ H1 D.nx
theorem ps_asg{tg e:Expr}{te:TE}{g:TG}(he:PE X e te)(hg:PG X tg g)(hs:swapsWithSole [tg] e pos.line X.env=pure false:=by rfl)(hw:swappedStores [tg] e X.env=pure none:=by rfl)
  (h1:(assignEach [tg] X.env).map (·.2)=[assign tg X.env]:=by rfl):PS X (.Assign [tg] e pos) (tAsg te g):=by
 intro pins s σ H D I h;refine wpAny_Assign_stores (thn (he pins s σ H _ I h) λv s1 ⟨x,H1,I1,r1,q1⟩=>?_) hs hw;rw[h1];exact thn (hg pins s1 σ H1 x v _ I1 r1 q1) λ_ s2 q=>q
theorem ps_set{i:Nat}{x:Str}{e:Expr}{te:TE}{pos':Pos}(hN:X.N.Nodup)(hi:X.N[i]? = some x)(hx:Loc X.env.scope x)(he:PE X e te)(hs:swapsWith e (some (.Name x pos')) pos.line X.env=pure false:=by rfl)(hf:X.fn x=true\/X.env.scope.names.lookup x=some .local:=by first|exact .inl rfl|exact .inr rfl|assumption) :
  PS X (.Assign [.Name x pos'] e pos) (tAsg te (gName i)):=by
 intro pins s σ H D I h;refine wpAny_Assign_Name (thn (he pins s σ H _ I h) λv s1 ⟨y,H1,I1,r1,q1⟩=>?_) hs;exact store_ok I1 hN hi hx r1 (λs2 I2=>⟨_,H1,I2,q1⟩) hf
end
structure It where
 go:Nat->Hp->Prop
 yld:Nat->Hp->V->Hp->Prop
 stop:Nat->Hp->Prop
def FpOk(X:Cx)(pins:List (Addr×Obj))(H:Hp)(b:Addr):Prop:=
 H b=none/\b≠X.env.locals/\b ∉ X.fs/\(b∈X.ex\/X.s₀.heap.objs.size<=b)/\(∀x c,X.env.cells.lookup x=some c->c≠b)/\∀p∈X.pn++pins,p.1≠b
theorem Inv.fpOk{X:Cx}{pins:List (Addr×Obj)}{σ:St}{H H':Hp}{s:Shared}{b:Addr}(I:Inv X pins σ H s)(hb:s.heap.objs.size<=b)(hn:H' b=none):FpOk X pins H' b:=by
 refine⟨hn,Qz5 (Qw0 I.lt hb),I.nofs hb,.inr (Qqy I.sz hb),λx c e z=>?_,λp hp z=>?_⟩
 ·obtain⟨v,q⟩:=I.cell x c e;exact absurd (Qw0 q.lt (by rw[z];exact hb)) (Qz8 _)
 ·exact absurd (Qw0 (Qwj (I.pin p hp).1) (by rw[z];exact hb)) (Qz8 _)
structure Turn(P:Program)(w:World)(K:PySem.W.Frag)(tg:Expr)(J:It)(fp:List Addr)(it:Addr)(tn:Nat->Heap->Prop):Prop where
 mem:it∈fp
 obj:∀i h,tn i h->∀b∈fp,∃o,h.get? b=some o/\∀v,o.data ≠ .cell v
 keep:∀i h h',tn i h->(∀b∈fp,∀o,h.get? b=some o->h'.get? b=some o)->tn i h'
 item:∀(X:Cx),X.prog=P->X.w=w->X.K=K->X.calm=true->∀(i:Nat) (pins:List (Addr×Obj)) (s:Shared) (σ:St) (H:Hp) (E:Value->Shared->Prop),Inv X pins σ H s->(∀b∈fp,FpOk X pins H b)->tn i s.heap->J.go i H->
  wpAny (model P w) X.A (pyNext (.ref it)) (λr s1=>∃u,r=some u/\
   wpAny (model P w) X.A (letOwnedTupleGo tg (.ref it) u) (λ_ s2=>∃x H',Inv X pins σ H' s2/\RelV x u/\J.yld i H x H'/\tn (i+1) s2.heap/\∀b∈fp,H' b=none) E s1) E s
 done:∀(X:Cx),X.prog=P->X.w=w->X.K=K->X.calm=true->∀(i:Nat) (pins:List (Addr×Obj)) (s:Shared) (σ:St) (H:Hp) (E:Value->Shared->Prop),Inv X pins σ H s->(∀b∈fp,FpOk X pins H b)->tn i s.heap->J.stop i H->
  wpAny (model P w) X.A (pyNext (.ref it)) (λr s1=>r=none/\Inv X pins σ H s1) E s
 self:∀(A:Around) (i:Nat) (s:Shared) (Q:Value->Shared->Prop) (E:Value->Shared->Prop),tn i s.heap->Q (.ref it) s->wpAny (model P w) A (pyIter (.ref it)) Q E s
abbrev TI:=St->Hp->(It->Hp->Prop)->Prop
def PIE(X:Cx)(pins:List (Addr×Obj))(σ:St)(tg:Expr)(R:It->Hp->Prop)(itv:Value)(s2:Shared):Prop:=
 ∃(it:Addr) (fp:List Addr) (tn:Nat->Heap->Prop) (J:It) (H':Hp),itv = .ref it/\Inv X pins σ H' s2/\Turn X.prog X.w X.K tg J fp it tn/\tn 0 s2.heap/\(∀b∈fp,FpOk X pins H' b)/\R J H'
def PI(X:Cx)(tg iter:Expr)(wi:TI):Prop:=
 ∀(pins:List (Addr×Obj)) (s:Shared) (σ:St) (H:Hp) (R:It->Hp->Prop),Inv X pins σ H s->wi σ H R->
  wpAny (model X.prog X.w) X.A (eval iter X.env) (λv s1=>wpAny (model X.prog X.w) X.A (pyIter v) (PIE X pins σ tg R) X.xe s1) X.xe s
theorem go_of{M : Model}{A : Around}{E : Value → Shared → Prop}{s : Shared}{tg : Expr}{it : Addr}{u : Value}{o : Obj}{n : String}{vs : Array Value}{Q : Unit → Shared → Prop}(ho : s.heap.get? it = some o)(hc : o.cls = .type n)(hd : o.data = .fields vs)
    (hn : ["enumerate", "zip", "dict_itemiterator", "dict_reverseitemiterator", "odict_iterator", "itertools.zip_longest", "itertools.pairwise"].contains n = false) (hQ : Q () s) : wpAny M A (letOwnedTupleGo tg (.ref it) u) Q E s := by
  unfold letOwnedTupleGo;cases tg <;> first
    | exact Qq6 hQ
    | (cases u <;> first
        | exact Qq6 hQ
        | (refine Qqv (wpAny_load ho ?_)
           rw [hc, hd];show wpAny M A (if (["enumerate", "zip", "dict_itemiterator", "dict_reverseitemiterator", "odict_iterator", "itertools.zip_longest", "itertools.pairwise"].contains n && vs[0]? == some (rawInt _)) = true then _ else _) Q E s;rw [if_neg (by intro h; rw [hn, Bool.false_and] at h; cases h)];exact Qq6 hQ))
def Itl(K:PySem.W.Frag)(a:Addr):It:=
 ⟨λi H=>∃xs x,SqL K H a xs/\xs[i]? = some x,λi H x H'=>H'=H/\∀xs,SqL K H a xs->xs[i]? = some x,λi H=>∃xs,SqL K H a xs/\xs.length<=i⟩
def Itt(K:PySem.W.Frag)(a:Addr):It:=
 ⟨λi H=>∃xs x,SqT K H a xs/\xs[i]? = some x,λi H x H'=>H'=H/\∀xs,SqT K H a xs->xs[i]? = some x,λi H=>∃xs,SqT K H a xs/\xs.length<=i⟩
def Itr(lo:Int)(n:Nat):It:=⟨λi _=>i<n,λi H x H'=>H'=H/\x = .int (lo+i),λi _=>n<=i⟩
theorem turn_list{P:Program}{w:World}{K:PySem.W.Frag}{tg:Expr}(a it:Addr):Turn P w K tg (Itl K a) [it] it (λi h=>h.IsListIter it a i) where
 mem:=by simp
 obj:=λi h st b hb=>by
  have e:b=it:=by simpa using hb
  subst e;obtain⟨o,e,c,d⟩:=st;exact⟨o,e,λv z=>by rw[d] at z;cases z⟩
 keep:=λi h h' st k=>st.at λo e=>k it (by simp) o e
 item:=by intro X hP hw hK hc i pins s σ H E I hf st hg;subst hP hw hK;obtain⟨xs,x,hq,hx⟩:=hg;obtain⟨its,rv,p,hz⟩:=I.list hq;obtain⟨u,hu,ru⟩:=rv.get hx;obtain⟨f0,f1,f2,f3,f4,f5⟩:=hf it (by simp);refine wpAny_pyNext_list_item st p.isList (x:=u) (by simpa using hu) λh' st' sb=>?_;have I1:Inv X pins σ H { s with heap:=h' }:=I.turned (t':=s.toks) (λb o hb e=>(sb.2 b hb).trans e) f0 f1 f3 f4 f5;obtain⟨o,e,c,d⟩:=id st';exact⟨u,rfl,go_of (s:={ s with heap:=h' }) e c d (by decide) ⟨x,H,I1,ru,⟨rfl,λys hy=>by rw[I.list_inj hy hq];exact hx⟩,st',λb hb=>(hf b hb).1⟩⟩
 done:=by intro X hP hw hK hc i pins s σ H E I hf st hg;subst hP hw hK;obtain⟨xs,hq,hx⟩:=hg;obtain⟨its,rv,p,hz⟩:=I.list hq;obtain⟨f0,f1,f2,f3,f4,f5⟩:=hf it (by simp);have hl:=rv.length;exact wpAny_pyNext_list_end (I.ok.hd hc) st p.isList (by simp;omega) λh' eb=>⟨rfl,I.turned (t':=s.toks) (λb o hb e=>eb b o hb e) f0 f1 f3 f4 f5⟩
 self:=λ_ _ _ _ _ st h=>wpAny_pyIter_listiter st h
theorem turn_tuple{P:Program}{w:World}{K:PySem.W.Frag}{tg:Expr}(a it:Addr):Turn P w K tg (Itt K a) [it] it (λi h=>h.IsTupleIter it a i) where
 mem:=by simp
 obj:=λi h st b hb=>by
  have e:b=it:=by simpa using hb
  subst e;obtain⟨o,e,c,d⟩:=st;exact⟨o,e,λv z=>by rw[d] at z;cases z⟩
 keep:=λi h h' st k=>st.at λo e=>k it (by simp) o e
 item:=by intro X hP hw hK hc i pins s σ H E I hf st hg;subst hP hw hK;obtain⟨xs,x,hq,hx⟩:=hg;obtain⟨its,rv,p,hz⟩:=I.tuple hq;obtain⟨u,hu,ru⟩:=rv.get hx;obtain⟨f0,f1,f2,f3,f4,f5⟩:=hf it (by simp);refine wpAny_pyNext_tuple_item st (show s.heap.IsTuple a its.toArray from p) (x:=u) (by simpa using hu) λh' st' sb=>?_;have I1:Inv X pins σ H { s with heap:=h' }:=I.turned (t':=s.toks) (λb o hb e=>(sb.2 b hb).trans e) f0 f1 f3 f4 f5;obtain⟨o,e,c,d⟩:=id st';exact⟨u,rfl,go_of (s:={ s with heap:=h' }) e c d (by decide) ⟨x,H,I1,ru,⟨rfl,λys hy=>by rw[I.tuple_inj hy hq];exact hx⟩,st',λb hb=>(hf b hb).1⟩⟩
 done:=by intro X hP hw hK hc i pins s σ H E I hf st hg;subst hP hw hK;obtain⟨xs,hq,hx⟩:=hg;obtain⟨its,rv,p,hz⟩:=I.tuple hq;obtain⟨f0,f1,f2,f3,f4,f5⟩:=hf it (by simp);have hl:=rv.length;exact wpAny_pyNext_tuple_end (I.ok.hd hc) st (show s.heap.IsTuple a its.toArray from p) (by simp;omega) λh' eb=>⟨rfl,I.turned (t':=s.toks) (λb o hb e=>eb b o hb e) f0 f1 f3 f4 f5⟩
 self:=λ_ _ _ _ _ st h=>wpAny_pyIter_tupleiter st h
theorem turn_range{P:Program}{w:World}{K:PySem.W.Frag}{tg:Expr}(it:Addr)(lo:Int)(n:Nat):Turn P w K tg (Itr lo n) [it] it (λi h=>IsRangeIter h it (lo+(i:Nat)*1) ((n:Int) - (i:Nat)) 1) where
 mem:=by simp
 obj:=λi h st b hb=>by
  have e:b=it:=by simpa using hb
  subst e;exact⟨_,st,λv z=>by
   have z':Data.fields _=Data.cell v:=z;cases z'⟩
 keep:=λi h h' st k=>k it (by simp) _ st
 item:=by intro X hP hw hK hc i pins s σ H E I hf st hg;subst hP hw hK;obtain⟨f0,f1,f2,f3,f4,f5⟩:=hf it (by simp);have W:=Walks.range (prog:=X.prog) (w:=X.w) (I.ok.hd hc) it lo 1 n;refine W.item i s _ _ hg st λv h' tk hv st' kk=>?_;obtain⟨t,rfl⟩:=hv;have I1:Inv X pins σ H { s with heap:=h',toks:=tk }:=I.turned (λb o hb e=>kk b o (by simpa using hb) e) f0 f1 f3 f4 f5;refine⟨_,rfl,go_of (s:={ s with heap:=h',toks:=tk }) (n:="range_iterator") st' rfl rfl (by decide) ⟨.int (lo+i),H,I1,⟨t,?_⟩,⟨rfl,rfl⟩,st',λb hb=>(hf b hb).1⟩⟩;rw[Int.mul_one]
 done:=by intro X hP hw hK hc i pins s σ H E I hf st hg;subst hP hw hK;obtain⟨f0,f1,f2,f3,f4,f5⟩:=hf it (by simp);exact wpAny_pyNext_range_end (I.ok.hd hc) st (by have:n<=i:=hg;omega) λh' eb=>⟨rfl,I.turned (t':=s.toks) (λb o hb e=>eb b o hb e) f0 f1 f3 f4 f5⟩
 self:=λ_ _ _ _ _ st h=>wpAny_pyIter_rangeiter st h
section
variable{X:Cx}{tg:Expr}
theorem range_it{pins:List (Addr×Obj)}{σ:St}{H:Hp}{s:Shared}{R:It->Hp->Prop}{E:Value->Shared->Prop}{lo hi:Int}{t u v:Tok}{tk:Nat}(I:Inv X pins σ H s)(h1 : -(2^62)<=lo)(h2:lo<2^62)(h3 : -(2^62)<=hi)(h4:hi<2^62)
  (q:R (Itr lo (hi - lo).toNat) H):wpAny (model X.prog X.w) X.A (pyIter (.ref s.heap.objs.size)) (PIE X pins σ tg R) E { s with heap:=s.heap.push { cls:=.type "range",data:=.fields #[.int lo t,.int hi u,.int 1 v] },toks:=tk }:=by
 refine wpAny_pyIter_range (IsRange.new ..) (small_one h1 h2 h3 h4) ?_;have I1:Inv X pins σ H { s with heap:=s.heap.push { cls:=.type "range",data:=.fields #[.int lo t,.int hi u,.int 1 v] },toks:=tk }:=I.kept λb o e=>Qqw _ e;refine⟨(s.heap.push { cls:=.type "range",data:=.fields #[.int lo t,.int hi u,.int 1 v] }).objs.size,[(s.heap.push { cls:=.type "range",data:=.fields #[.int lo t,.int hi u,.int 1 v] }).objs.size],_,_,H,rfl,
  I1.kept (t':=tk) λb o e=>Qqw _ e,turn_range _ lo (hi - lo).toNat,?_,λb hb=>?_,q⟩
 ·have e1:lo+((0:Nat):Int)*1=lo:=by simp
  have e2:(((hi - lo).toNat:Nat):Int) - ((0:Nat):Int)=Builtin.Range.rangeSize lo hi 1:=by rw[rangeSize_one];split<;>omega
  show IsRangeIter _ _ (lo+((0:Nat):Int)*1) ((((hi - lo).toNat:Nat):Int) - ((0:Nat):Int)) 1;rw[e1,e2];exact Qwv _ rfl
 ·have e:b=(s.heap.push { cls:=.type "range",data:=.fields #[.int lo t,.int hi u,.int 1 v] }).objs.size:=by simpa using hb
  subst e;exact I1.fpOk (Qq0 _) (I1.hok.fresh (Qq0 _))
def iRng1(ta:TA):TI:=λσ H R=>ta σ H λvs H1=>∃j:Int,vs=[.int j]/\-(2^62)<=j/\j<2^62/\R (Itr 0 j.toNat) H1
def iRng2(ta:TA):TI:=λσ H R=>ta σ H λvs H1=>∃i j:Int,vs=[.int i,.int j]/\(-(2^62)<=i/\i<2^62/\-(2^62)<=j/\j<2^62)/\R (Itr i (j - i).toNat) H1
theorem pi_range1{a:Expr}{ta:TA}{p pos:Pos}(hg:Gl X "range")(hm:X.mg "range" = none)(ha:PA X [a] ta)(hs:starEach [a] X.env=[(false,eval a X.env)]:=by rfl):PI X tg (.Call (.Name "range" p) [a] [] pos) (iRng1 ta):=by
 intro pins s σ H R I h;refine Call_ (ld_blt I hg hm boot_range (Qx5 (thn (ha pos pins s σ H _ I h) λus s1 ⟨vs,H1,I1,r1,q1⟩=>?_) hs rfl));obtain⟨j,e,q1,q2,q⟩:=q1;subst e;cases r1 with
 | cons r rr=>
  cases rr;obtain⟨t,rfl⟩:=r;exact call_range_1 (range_it I1 (by omega) (by omega) q1 q2 (by simpa using q))
theorem pi_range2{a b:Expr}{ta:TA}{p pos:Pos}(hg:Gl X "range")(hm:X.mg "range" = none)(ha:PA X [a,b] ta)(hs:starEach [a,b] X.env=[(false,eval a X.env),(false,eval b X.env)]:=by rfl)(hs2:starEach [b] X.env=[(false,eval b X.env)]:=by rfl) :
  PI X tg (.Call (.Name "range" p) [a,b] [] pos) (iRng2 ta):=by
 intro pins s σ H R I h;refine Call_ (ld_blt I hg hm boot_range (Qx5 (thn (ha pos pins s σ H _ I h) λus s1 ⟨vs,H1,I1,r1,q1⟩=>?_) (by rw[hs,hs2]) (by rw[hs2];rfl)));obtain⟨i,j,e,⟨q1,q2,q3,q4⟩,q⟩:=q1;subst e;cases r1 with
 | cons r rr=>
  cases rr with
  | cons r' rr=>
   cases rr;obtain⟨t,rfl⟩:=r;obtain⟨t',rfl⟩:=r';exact call_range_2 (range_it I1 q1 q2 q3 q4 q)
def tFor(wi:TI)(g:TG)(tb:TS):TS:=λD σ H=>wi σ H λJ H1=>∃W:Nat->Nat->St->Hp->Prop,(∃m,W 0 m σ H1)/\∀i m σ H,W i m σ H->
 (J.stop i H/\D.nx σ H)\/(J.go i H/\∃N:St->Hp->Prop,(∀σ' H',N σ' H'->∃m',m'<m/\W (i+1) m' σ' H')/\∀x H',J.yld i H x H'->g x σ H' λσ2 H2=>tb { D with nx:=N,ct:=N,bk:=D.nx } σ2 H2)
def pinsAt(fp:List Addr)(h:Heap):List (Addr×Obj):=fp.filterMap λb=>(h.get? b).map λo=>(b,o)
theorem mem_pinsAt{fp:List Addr}{h:Heap}{b:Addr}{o:Obj}(hb:b∈fp)(e:h.get? b=some o):(b,o)∈pinsAt fp h:=List.mem_filterMap.mpr ⟨b,hb,by rw[e];rfl⟩
theorem of_pinsAt{fp:List Addr}{h:Heap}{p:Addr×Obj}(hp:p∈pinsAt fp h):p.1∈fp/\h.get? p.1=some p.2:=by
 obtain⟨b,hb,e⟩:=List.mem_filterMap.mp hp;cases q:h.get? b with
 | none=>rw[q] at e;cases e
 | some o=>
  rw[q] at e;have e':(b,o)=p:=Qw1 e;subst e';exact⟨hb,q⟩
theorem Inv.pinned{pins:List (Addr×Obj)}{σ:St}{H:Hp}{s:Shared}{fp:List Addr}(I:Inv X pins σ H s)(hf:∀b∈fp,FpOk X pins H b)(ho:∀b∈fp,∃o,s.heap.get? b=some o/\∀v,o.data ≠ .cell v):Inv X (pins++pinsAt fp s.heap) σ H s:=
 I.pins_of λp hp=>(Qw4.mp hp).elim (λz=>I.pin p (Qww _ z)) λz=>by
  obtain⟨hb,e⟩:=of_pinsAt z;obtain⟨f0,f1,f2,_⟩:=hf p.1 hb;obtain⟨o,e',d⟩:=ho p.1 hb;rw[e] at e';cases e';exact⟨e,f0,f1,f2,d⟩
theorem Inv.unpinned{pins pl:List (Addr×Obj)}{σ:St}{H:Hp}{s:Shared}(I:Inv X (pins++pl) σ H s):Inv X pins σ H s:=I.pins_of λp hp=>I.pin p (Qww _ (Qx9 _ hp))
theorem ps_for{iter:Expr}{body:List Stmt}{wi:TI}{g:TG}{tb:TS}{pos:Pos}(hp:PassesOwn (model X.prog X.w) X.A X.env X.xe)(hc:X.calm=true)(hi:PI X tg iter wi)(hg:PG X tg g)(hb:PSs X body tb)
  (hs:∀x,foldedSetIterable iter X.env x=pure x:=by intro _;rfl):PS X (.For tg iter body [] pos) (tFor wi g tb):=by
 intro pins s σ H D I h;refine wpAny_For (thn (hi pins s σ H _ I h) λv s1 h1=>thn h1 λitv s2 h2=>?_) hs;obtain⟨it,fp,tn,J,H2,e,I2,T,st2,f2,W,⟨m0,w0⟩,turn⟩:=h2;subst e
 -- what stays true of the iterator's objects through the loop
 have stat:∀{H':Hp},(∀b∈fp,H' b=none)->∀b∈fp,FpOk X pins H' b:=λhn b hb=>⟨hn b hb,(f2 b hb).2⟩;refine codeAny_forLoop_any (λn s'=>∃i σ' H',Inv X pins σ' H' s'/\tn i s'.heap/\(∀b∈fp,H' b=none)/\W i n σ' H') ?_ m0 ⟨0,σ,H2,I2,st2,λb hb=>(f2 b hb).1,w0⟩;rintro n s3 ⟨i,σ3,H3,I3,st3,fr3,w3⟩;rcases turn i n σ3 H3 w3 with ⟨stop,qn⟩|⟨go,N,hN,step⟩
 ·refine wpAny_passesOwn hp (thn (T.done X rfl rfl rfl hc i pins s3 σ3 H3 X.xe I3 (stat fr3) st3 stop) λr s4 ⟨hr,I4⟩=>?_);subst hr;exact wpAny_execs_nil ⟨σ3,H3,I4,qn⟩
 ·refine wpAny_passesOwn hp (thn (T.item X rfl rfl rfl hc i pins s3 σ3 H3 X.xe I3 (stat fr3) st3 go) λr s4 ⟨u,hr,h4⟩=>?_);subst hr;refine wpAny_passesOwn hp (thn h4 λ_ s5 ⟨x,H5,I5,r5,y5,st5,fr5⟩=>?_);have I5':=I5.pinned (stat fr5) (T.obj _ _ st5);refine wpAny_passesOwn hp (thn (hg _ s5 σ3 H5 x u _ I5' r5 (step x H5 y5)) λ_ s6 ⟨σ6,H6,I6,q6⟩=>?_);refine wpAny_passesOwn hp (thn (hb _ s6 σ6 H6 _ I6 q6) λf s7 q7=>?_);have again:∀{σ7:St} {H7:Hp},Inv X (pins++pinsAt fp s5.heap) σ7 H7 s7->N σ7 H7->∃m,m<n/\∃i σ' H',Inv X pins σ' H' s7/\tn i s7.heap/\(∀b∈fp,H' b=none)/\W i m σ' H':=λ{σ7 H7} I7 n7=>by
   obtain⟨m',hm,w7⟩:=hN σ7 H7 n7;refine⟨m',hm,i+1,σ7,H7,I7.unpinned,T.keep _ _ _ st5 λb hb o e=>(I7.pin (b,o) (Qww _ (Qww _ (mem_pinsAt hb e)))).1,λb hb=>?_,w7⟩;obtain⟨o,e,d⟩:=T.obj _ _ st5 b hb;exact(I7.pin (b,o) (Qww _ (Qww _ (mem_pinsAt hb e)))).2.1
  cases f with
  | next=>obtain⟨σ7,H7,I7,n7⟩:=q7;exact again I7 n7
  | cont=>obtain⟨σ7,H7,I7,n7⟩:=q7;exact again I7 n7
  | brk=>obtain⟨σ7,H7,I7,q7⟩:=q7;exact⟨σ7,H7,I7.unpinned,q7⟩
  | ret v=>obtain⟨x7,σ7,H7,I7,r7,q7⟩:=q7;exact⟨x7,σ7,H7,I7.unpinned,r7,q7⟩
end
abbrev R2:=V->V->Hp->VK->Prop
def OpR(X:Cx)(f:Value->Value->Sem Value)(r:R2):Prop:=
 ∀(pins:List (Addr×Obj)) (s:Shared) (σ:St) (H:Hp) (x y:V) (v u:Value) (Q:VK),Inv X pins σ H s->RelV x v->RelV y u->r x y H Q->
  wpAny (model X.prog X.w) X.A (f v u) (EP X pins σ Q) X.xe s
def UnR(X:Cx)(f:Value->Sem Value)(r:V->Hp->VK->Prop):Prop:=
 ∀(pins:List (Addr×Obj)) (s:Shared) (σ:St) (H:Hp) (x:V) (v:Value) (Q:VK),Inv X pins σ H s->RelV x v->r x H Q->
  wpAny (model X.prog X.w) X.A (f v) (EP X pins σ Q) X.xe s
def CallR(X:Cx)(f:Value)(r:List V->Hp->VK->Prop):Prop:=
 ∀(pins:List (Addr×Obj)) (s:Shared) (σ:St) (H:Hp) (xs:List V) (us:List Value) (Q:VK),Inv X pins σ H s->Vals xs us->r xs H Q->
  wpAny (model X.prog X.w) X.A (call f us) (EP X pins σ Q) X.xe s
def tOp(r:R2)(ta tb:TE):TE:=λσ H Q=>ta σ H λx H1=>tb σ H1 λy H2=>r x y H2 Q
def tUn(r:V->Hp->VK->Prop)(ta:TE):TE:=λσ H Q=>ta σ H λx H1=>r x H1 Q
def rI(C:Int->Int->Prop)(g:Int->Int->V):R2:=λx y H Q=>∃i j,x = .int i/\y = .int j/\C i j/\Q (g i j) H
def rI0(g:Int->Int->V):R2:=λx y H Q=>∃i j,x = .int i/\y = .int j/\Q (g i j) H
def rU(g:Int->V):V->Hp->VK->Prop:=λx H Q=>∃i,x = .int i/\Q (g i) H
section
variable{X:Cx}{a b c:Expr}{ta tb tc:TE}{pos:Pos}
theorem binT(ha:PE X a ta)(hb:PE X b tb){pins:List (Addr×Obj)}{s:Shared}{σ:St}{H:Hp}{R:V->V->Hp->Prop}(I:Inv X pins σ H s)
  (h:ta σ H λx H1=>tb σ H1 λy H2=>R x y H2) {Q:Value->Shared->Prop} {f:Value->Value->Sem Value}
  (hf:∀v u s2 x y H2,Inv X pins σ H2 s2->RelV x v->RelV y u->R x y H2->wpAny (model X.prog X.w) X.A (f v u) Q X.xe s2) :
  wpAny (model X.prog X.w) X.A (eval a X.env) (λv s₁=>wpAny (model X.prog X.w) X.A (eval b X.env) (λu s₂=>wpAny (model X.prog X.w) X.A (f v u) Q X.xe s₂) X.xe s₁) X.xe s:=by
 refine thn (ha pins s σ H _ I h) λv s1 ⟨x,H1,I1,r1,q1⟩=>?_;refine thn (hb pins s1 σ H1 _ I1 q1) λu s2 ⟨y,H2,I2,r2,q2⟩=>?_;exact hf v u s2 x y H2 I2 r1 r2 q2
theorem pe_op{op:Operator}{r:R2}(ho:OpR X (binaryOp op) r)(ha:PE X a ta)(hb:PE X b tb):PE X (.BinOp a op b pos) (tOp r ta tb):=by intro pins s σ H Q I h;exact wpAny_BinOp (binT ha hb I h λv u s2 x y H2 I2 rx ry q=>ho pins s2 σ H2 x y v u Q I2 rx ry q)
theorem pe_un{op:UnaryOp}{r:V->Hp->VK->Prop}(ho:UnR X (unaryOp op) r)(ha:PE X a ta):PE X (.UnaryOp op a pos) (tUn r ta):=by intro pins s σ H Q I h;exact UnaryOp_ (thn (ha pins s σ H _ I h) λv s1 ⟨x,H1,I1,r1,q1⟩=>ho pins s1 σ H1 x v Q I1 r1 q1)
theorem opI{f:Value->Value->Sem Value}{C:Int->Int->Prop}{g:Int->Int->Int}
  (rule:∀(i j:Int) (t u:Tok) (s:Shared) (Q:Value->Shared->Prop) (E:Value->Shared->Prop),C i j->Q (.int (g i j) s.toks) { s with toks:=s.toks+1 }->wpAny (model X.prog X.w) X.A (f (.int i t) (.int j u)) Q E s) :
  OpR X f (rI C λi j=>.int (g i j)):=by
 intro pins s σ H x y v u Q I rx ry h;obtain⟨i,j,rfl,rfl,hc,q⟩:=h;obtain⟨t,rfl⟩:=rx;obtain⟨t',rfl⟩:=ry;exact rule i j t t' s _ _ hc ⟨.int (g i j),H,I.tok _,⟨_,rfl⟩,q⟩
theorem opI0{f:Value->Value->Sem Value}{g:Int->Int->Int}
  (rule:∀(i j:Int) (t u:Tok) (s:Shared) (Q:Value->Shared->Prop) (E:Value->Shared->Prop),Q (.int (g i j) s.toks) { s with toks:=s.toks+1 }->wpAny (model X.prog X.w) X.A (f (.int i t) (.int j u)) Q E s) :
  OpR X f (rI0 λi j=>.int (g i j)):=by
 intro pins s σ H x y v u Q I rx ry h;obtain⟨i,j,rfl,rfl,q⟩:=h;obtain⟨t,rfl⟩:=rx;obtain⟨t',rfl⟩:=ry;exact rule i j t t' s _ _ ⟨.int (g i j),H,I.tok _,⟨_,rfl⟩,q⟩
theorem opB0{f:Value->Value->Sem Value}{g:Int->Int->Bool}
  (rule:∀(i j:Int) (t u:Tok) (s:Shared) (Q:Value->Shared->Prop) (E:Value->Shared->Prop),Q (.bool (g i j)) s->wpAny (model X.prog X.w) X.A (f (.int i t) (.int j u)) Q E s) :
  OpR X f (rI0 λi j=>.bl (g i j)):=by
 intro pins s σ H x y v u Q I rx ry h;obtain⟨i,j,rfl,rfl,q⟩:=h;obtain⟨t,rfl⟩:=rx;obtain⟨t',rfl⟩:=ry;exact rule i j t t' s _ _ ⟨.bl (g i j),H,I,rfl,q⟩
def CDiv(i j:Int):Prop:=0<j/\j<1073741824
def CPow(i j:Int):Prop:=0<=j/\j<=1000000/\i.natAbs<2^64
theorem two_pow_nn(k:Nat):(0:Int)<=2^k:=by rw[two_pow_cast];exact Int.natCast_nonneg _
theorem op_add:OpR X (binaryOp .Add) (rI0 λi j=>.int (i+j)):=opI0 λ_ _ _ _ _ _ _ q=>add_int q
theorem op_sub:OpR X (binaryOp .Sub) (rI0 λi j=>.int (i - j)):=opI0 λ_ _ _ _ _ _ _ q=>sub_int q
theorem op_mod:OpR X (binaryOp .Mod) (rI (λ_ j=>0<j) λi j=>.int (i % j)):=opI λi j _ _ _ _ _ hc q=>by
 have h1:(0:Int)<j:=hc;exact mod_int' (by omega) (by rw[Int.fmod_eq_emod_of_nonneg i (by omega)];exact q)
theorem op_pow:OpR X (binaryOp .Pow) (rI CPow λi j=>.int (i^j.toNat)):=opI λ_ _ _ _ _ _ _ hc q=>pow_int_small hc.1 hc.2.1 hc.2.2 q
theorem op_shl:OpR X (binaryOp .LShift) (rI CPow λi j=>.int (i*2^j.toNat)):=opI λ_ _ _ _ _ _ _ hc q=>lshift_int_small hc.1 hc.2.1 hc.2.2 q
theorem op_shr:OpR X (binaryOp .RShift) (rI (λ_ j=>0<=j) λi j=>.int (i / 2^j.toNat)):=opI λi j _ _ _ _ _ hc q=>
 rshift_int hc (by rw[Int.fdiv_eq_ediv_of_nonneg i (two_pow_nn _)];exact q)
theorem op_and:OpR X (binaryOp .BitAnd) (rI0 λi j=>.int (Builtin.bitAnd i j)):=opI0 λ_ _ _ _ _ _ _ q=>and_int q
theorem unI{f:Value->Sem Value}{g:Int->Int}
  (rule:∀(i:Int) (t:Tok) (s:Shared) (Q:Value->Shared->Prop) (E:Value->Shared->Prop),Q (.int (g i) s.toks) { s with toks:=s.toks+1 }->wpAny (model X.prog X.w) X.A (f (.int i t)) Q E s) :
  UnR X f (rU λi=>.int (g i)):=by
 intro pins s σ H x v Q I rx h;obtain⟨i,rfl,q⟩:=h;obtain⟨t,rfl⟩:=rx;exact rule i t s _ _ ⟨.int (g i),H,I.tok _,⟨_,rfl⟩,q⟩
theorem un_neg:UnR X (unaryOp .USub) (rU λi=>.int (-i)):=unI λ_ _ _ _ _ q=>neg_int q
end
theorem dec_bl{i j:Bool}:decide (V.bl i=V.bl j)=(i == j):=by rw[Qj3];simp
section
variable{X:Cx}{a b c:Expr}{ta tb tc:TE}{pos:Pos}
theorem fin_bl{pins:List (Addr×Obj)}{σ:St}{H:Hp}{s:Shared}{Q:VK}{k k':Bool}(I:Inv X pins σ H s)(q:Q (.bl k) H)(e:k=k'):EP X pins σ Q (.bool k') s:=by subst e;exact⟨.bl k,H,I,rfl,q⟩
theorem op_lt:OpR X (compareOp .Lt) (rI0 λi j=>.bl (decide (i<j))):=opB0 λ_ _ _ _ _ _ _ q=>lt_int q
theorem op_le:OpR X (compareOp .LtE) (rI0 λi j=>.bl (decide (i<=j))):=opB0 λ_ _ _ _ _ _ _ q=>le_int q
theorem op_gt:OpR X (compareOp .Gt) (rI0 λi j=>.bl (decide (j<i))):=opB0 λ_ _ _ _ _ _ _ q=>gt_int q
theorem op_lt_str:OpR X (compareOp .Lt) (λx y H Q=>∃i j,x = .str i/\y = .str j/\Q (.bl (decide (i.cps.toList<j.cps.toList))) H):=by intro pins s σ H x y v u Q I rx ry h;obtain⟨i,j,rfl,rfl,q⟩:=h;obtain⟨t,rfl⟩:=rx;obtain⟨t',rfl⟩:=ry;exact lt_str (fin_bl I q rfl)
theorem op_in_str:OpR X (compareOp .In) (λx y H Q=>∃i j,x = .str i/\y = .str j/\Q (.bl (!(Builtin.Str.occurrences j i 0 j.length 1).isEmpty)) H):=by intro pins s σ H x y v u Q I rx ry h;obtain⟨i,j,rfl,rfl,q⟩:=h;obtain⟨t,rfl⟩:=rx;obtain⟨t',rfl⟩:=ry;exact in_str (fin_bl I q rfl)
theorem op_isN:OpR X (compareOp .Is) (λx y H Q=>y = .non/\Q (.bl (decide (x = .non))) H):=by
 intro pins s σ H x y v u Q I rx ry h;obtain⟨rfl,q⟩:=h;cases ry;refine is_none_gen (fin_bl I q ?_);cases x<;>first
  | (cases rx;rfl)
  | (obtain⟨t,rfl⟩:=rx;rfl)
theorem op_notin_str:OpR X (compareOp .NotIn) (λx y H Q=>∃i j,x = .str i/\y = .str j/\Q (.bl (!(!(Builtin.Str.occurrences j i 0 j.length 1).isEmpty))) H):=by intro pins s σ H x y v u Q I rx ry h;obtain⟨i,j,rfl,rfl,q⟩:=h;obtain⟨t,rfl⟩:=rx;obtain⟨t',rfl⟩:=ry;exact notIn_str (fin_bl I q rfl)
theorem OpR.or{f:Value->Value->Sem Value}{r r':R2}(h:OpR X f r)(h':OpR X f r'):OpR X f (λx y H Q=>r x y H Q\/r' x y H Q):=by
 intro pins s σ H x y v u Q I rx ry q;rcases q with q|q
 ·exact h pins s σ H x y v u Q I rx ry q
 ·exact h' pins s σ H x y v u Q I rx ry q
theorem pe_cmpR{op:CmpOp}{r:R2}(ho:OpR X (compareOp op) r)(ha:PE X a ta)(hb:PE X b tb)(hm:behindInMarks op b=false):PE X (.Compare a [op] [b] pos) (tOp r ta tb):=by intro pins s σ H Q I h;exact wpAny_Compare1 (binT ha hb I h λv u s2 x y H2 I2 rx ry q=>ho pins s2 σ H2 x y v u Q I2 rx ry q) hm
def tTest(t:TE):TT:=λσ H Q=>t σ H λx H'=>∃k,x = .bl k/\Q k H'
theorem pt_cmpR{op:CmpOp}{r:R2}(ho:OpR X (compareOp op) r)(ha:PE X a ta)(hb:PE X b tb)(hm:behindInMarks op b=false):PT X (.Compare a [op] [b] pos) (tTest (tOp r ta tb)):=by
 intro pins s σ H Q I h;refine wpAny_isTrue_Compare1 (thn (ha pins s σ H _ I h) λv s1 ⟨x,H1,I1,r1,q1⟩=>thn (hb pins s1 σ H1 _ I1 q1) λu s2 ⟨y,H2,I2,r2,q2⟩=>
  thn (ho pins s2 σ H2 x y v u _ I2 r1 r2 q2) λc s3 ⟨z,H3,I3,r3,k,e,q3⟩=>?_) hm
 subst e;cases r3;exact Qzw ⟨H3,I3,q3⟩
def tChain(r r':R2)(ta tb tc:TE):TE:=λσ H Q=>ta σ H λx H1=>tb σ H1 λy H2=>r x y H2 λz H3=>∃k,z = .bl k/\
 (if k=true then tc σ H3 λw' H4=>r' y w' H4 Q else Q (.bl false) H3)
theorem pe_chain{op op':CmpOp}{r r':R2}(ho:OpR X (compareOp op) r)(ho':OpR X (compareOp op') r')(ha:PE X a ta)(hb:PE X b tb)(hc:PE X c tc)
  (hm:lastMarks [op,op'] [b,c]=false:=by with_unfolding_all rfl):PE X (.Compare a [op,op'] [b,c] pos) (tChain r r' ta tb tc):=by
 intro pins s σ H Q I h;refine Compare_chain (thn (ha pins s σ H _ I h) λv s1 ⟨x,H1,I1,r1,q1⟩=>chain_link (thn (hb pins s1 σ H1 _ I1 q1) λu s2 ⟨y,H2,I2,r2,q2⟩=>
  thn (ho pins s2 σ H2 x y v u _ I2 r1 r2 q2) λd s3 ⟨z,H3,I3,r3,k,e,q3⟩=>?_)) hm
 subst e;cases r3;refine Qzw ?_;cases k with
 | false=>exact ite_ff ⟨.bl false,H3,I3,rfl,q3⟩
 | true=>exact ite_tt (chain_last (thn (hc pins s3 σ H3 _ I3 q3) λw' s4 ⟨z',H4,I4,r4,q4⟩=>ho' pins s4 σ H4 y z' u w' Q I4 r2 r4 q4))
theorem pt_chain{op op':CmpOp}{r r':R2}(ho:OpR X (compareOp op) r)(ho':OpR X (compareOp op') r')(ha:PE X a ta)(hb:PE X b tb)(hc:PE X c tc)
  (hm:lastMarks [op,op'] [b,c]=false:=by with_unfolding_all rfl):PT X (.Compare a [op,op'] [b,c] pos) (tTest (tChain r r' ta tb tc)):=by
 intro pins s σ H Q I h;refine isTrue_chain (thn (ha pins s σ H _ I h) λv s1 ⟨x,H1,I1,r1,q1⟩=>test_link (thn (hb pins s1 σ H1 _ I1 q1) λu s2 ⟨y,H2,I2,r2,q2⟩=>
  thn (ho pins s2 σ H2 x y v u _ I2 r1 r2 q2) λd s3 ⟨z,H3,I3,r3,k,e,q3⟩=>?_)) hm
 subst e;cases r3;refine Qzw ?_;cases k with
 | false=>
  obtain⟨k',e',q'⟩:=q3;cases e';exact ite_ff ⟨H3,I3,q'⟩
 | true=>
  refine ite_tt (test_last (thn (hc pins s3 σ H3 _ I3 q3) λw' s4 ⟨z',H4,I4,r4,q4⟩=>thn (ho' pins s4 σ H4 y z' u w' _ I4 r2 r4 q4) λd' s5 ⟨z2,H5,I5,r5,k2,e2,q5⟩=>?_));subst e2;cases r5;exact Qzw ⟨H5,I5,q5⟩
theorem isEmpty_kv{κ:Type}{kvs:List (κ×V)}{vs:List (κ×Value)}(r:KV kvs vs):(!vs.isEmpty) = !kvs.isEmpty:=by cases r<;>rfl
theorem isEmpty_of{xs:List V}{its:List Value}(r:Vals xs its):(!its.toArray.isEmpty) = !xs.isEmpty:=by cases r<;>simp
theorem line63:(sizeLine:Nat)<2^63:=by rw[sizeLine_eq];decide
theorem op_add_str:OpR X (binaryOp .Add) (λx y H Q=>∃i j,x = .str i/\y = .str j/\i.length+j.length<=sizeLine/\Q (.str (i++j)) H):=by intro pins s σ H x y v u Q I rx ry h;obtain⟨i,j,rfl,rfl,hz,q⟩:=h;obtain⟨t,rfl⟩:=rx;obtain⟨t',rfl⟩:=ry;exact add_str (λt' tk=>⟨.str (i++j),H,I.tok _,⟨_,rfl⟩,q⟩) hz
theorem vals1{x:V}{us:List Value}(r:Vals [x] us):∃u,us=[u]/\RelV x u:=by
 cases r with
 | cons r1 r2=>cases r2;exact⟨_,rfl,r1⟩
theorem vals2{x y:V}{us:List Value}(r:Vals [x,y] us):∃u w',us=[u,w']/\RelV x u/\RelV y w':=by
 cases r with
 | cons r1 r2=>
  cases r2 with
  | cons r3 r4=>cases r4;exact⟨_,_,rfl,r1,r3⟩
theorem call_max2(hc:X.calm=true):CallR X (.builtin "max") (λxs H Q=>∃i j,xs=[.int i,.int j]/\Q (.int (if j > i then j else i)) H):=by
 intro pins s σ H xs us Q I r h;obtain⟨i,j,rfl,q⟩:=h;obtain⟨u,w',rfl,⟨t,rfl⟩,⟨t',rfl⟩⟩:=vals2 r;refine max_two_ints (I.ok.hd hc) λh' tk k=>⟨_,H,I.kept k,?_,q⟩;by_cases hj:j > i
 ·rw[if_pos hj,if_pos hj];exact⟨_,rfl⟩
 ·rw[if_neg hj,if_neg hj];exact⟨_,rfl⟩
theorem call_min2(hc:X.calm=true):CallR X (.builtin "min") (λxs H Q=>∃i j,xs=[.int i,.int j]/\Q (.int (if j<i then j else i)) H):=by
 intro pins s σ H xs us Q I r h;obtain⟨i,j,rfl,q⟩:=h;obtain⟨u,w',rfl,⟨t,rfl⟩,⟨t',rfl⟩⟩:=vals2 r;refine min_two_ints (I.ok.hd hc) λh' tk k=>⟨_,H,I.kept k,?_,q⟩;by_cases hj:j<i
 ·rw[if_pos hj,if_pos hj];exact⟨_,rfl⟩
 ·rw[if_neg hj,if_neg hj];exact⟨_,rfl⟩
def LenV(K:PySem.W.Frag)(x:V)(H:Hp)(n:Nat):Prop:=
 match x with
 | .str y=>y.length<=sizeLine/\n=y.length
 | .byt y=>y.size<=sizeLine/\n=y.size
 | .ref p=>(∃xs,SqL K H p xs/\n=xs.length)\/∃xs,SqT K H p xs/\n=xs.length
 | _=>False
theorem call_len:CallR X (.builtin "len") (λxs H Q=>∃x n,xs=[x]/\LenV X.K x H n/\Q (.int n) H):=by
 intro pins s σ H xs us Q I r h;obtain⟨x,n,rfl,e,q⟩:=h;obtain⟨u,rfl,rx⟩:=vals1 r;have hl:=line63;have hs:sizeLine=16777216:=sizeLine_eq;cases x with
 | str y=>
  obtain⟨t,rfl⟩:=rx;obtain⟨hy,e'⟩:y.length<=sizeLine/\n=y.length:=e;subst e';exact len_str (by omega) ⟨.int _,H,I.tok _,⟨_,rfl⟩,q⟩
 | byt y=>
  obtain⟨t,rfl⟩:=rx;obtain⟨hy,e'⟩:y.size<=sizeLine/\n=y.size:=e;subst e';exact PySem.W.len_bytes (by omega) ⟨.int _,H,I.tok _,⟨_,rfl⟩,q⟩
 | ref p=>
  cases rx;have e':(∃xs,SqL X.K H p xs/\n=xs.length)\/∃xs,SqT X.K H p xs/\n=xs.length:=e;rcases e' with ⟨xs,hx,e'⟩|⟨xs,hx,e'⟩
  ·subst e';obtain⟨its,r',pl,hz⟩:=I.list hx;have hlen:=r'.length;exact Calls.call_len_list pl.isList (by simp only[Qq1];omega) ⟨.int xs.length,H,I.tok _,⟨_,by simp only[Qq1];rw[hlen]⟩,q⟩
  ·subst e';obtain⟨its,r',pl,hz⟩:=I.tuple hx;have hlen:=r'.length;exact len_tuple pl (by simp only[Qq1];omega) ⟨.int xs.length,H,I.tok _,⟨_,by simp only[Qq1];rw[hlen]⟩,q⟩
 | _=>exact(show False from e).elim
theorem call_divmod:CallR X (.builtin "divmod") (λxs H Q=>∃i j,xs=[.int i,.int j]/\CDiv i j/\∀p,H p=none->Q (.ref p) (upd H p (.tup [.int (i / j),.int (i % j)]))):=by intro pins s σ H xs us Q I r h;obtain⟨i,j,rfl,⟨h1,h2⟩,q⟩:=h;obtain⟨u,w',rfl,⟨t,rfl⟩,⟨t',rfl⟩⟩:=vals2 r;refine divmod_int (by omega) ?_ (.inl (PyProof.noPylong_small (by omega)));rw[Int.fdiv_eq_ediv_of_nonneg i (by omega),Int.fmod_eq_emod_of_nonneg i (by omega)];have hn:H s.heap.objs.size=none:=I.hok.fresh (Qq0 _);refine⟨.ref s.heap.objs.size,_,?_,rfl,q _ hn⟩;refine I.laid (λb o e=>Qqw _ e) (Qq0 _) ⟨by simp only[Qqk,List.length_nil];rw[sizeLine_eq];decide,[.int (i / j) s.toks,.int (i % j) (s.toks+1)],.cons ⟨_,rfl⟩ (.cons ⟨_,rfl⟩ .nil),?_⟩;exact⟨_,Qwv s.heap rfl,rfl,⟨0,rfl⟩,rfl⟩
end
theorem RelO.some_of{v:V}{o:Option Value}(r:RelO (some v) o):∃u,o=some u/\RelV v u:=by
 cases o with
 | none=>exact(show False from r).elim
 | some u=>exact⟨u,rfl,r⟩
structure Room(k:Nat)(A:Around):Prop where
 hd:A.handled=none
 dp:A.depth+3*k+5<recursionLimit
 un:A.units+16*k+200<cLine
theorem Room.mono{j k:Nat}{A:Around}(r:Room k A)(h:j<=k):Room j A:=⟨r.hd,by have:=r.dp;omega,by have:=r.un;omega⟩
theorem Room.deeper{k:Nat}{A:Around}(r:Room (k+1) A)(env:Env):Room k (A.deeper env):=
 ⟨r.hd,by have:=r.dp;show A.depth+1+3*k+5<_;omega,by have:=r.un;show A.units+3+16*k+200<_;omega⟩
theorem Room.depth{k:Nat}{A:Around}(r:Room k A):A.depth<recursionLimit:=by have:=r.dp;omega
theorem Room.units{k:Nat}{A:Around}(r:Room k A):A.units+64<cLine:=by have:=r.un;omega
def tNil:TA:=λ_ H Q=>Q [] H
def tCons(ta:TE)(tr:TA):TA:=λσ H Q=>ta σ H λx H1=>tr σ H1 λxs H2=>Q (x::xs) H2
section
variable{X:Cx}{e:Expr}{es:List Expr}{te:TE}{t:TA}{pos:Pos}
theorem pa_nil:PA X [] tNil:=λ_ _ _ _ H Q I h=>Calls.spliced_nil ⟨[],H,I,.nil,h⟩
theorem pa_cons(ha:PE X e te)(hr:PA X es t)(hs:starEach (e::es) X.env=(false,eval e X.env)::starEach es X.env:=by rfl):PA X (e::es) (tCons te t):=by intro pos pins s σ H Q I h;rw[hs];show wpAny _ _ (spliced ((false,eval e X.env)::backTo pos (starEach es X.env))) _ _ s;refine Calls.spliced_cons (thn (ha pins s σ H _ I h) λu s1 ⟨x,H1,I1,r1,q1⟩=>?_);exact thn (hr pos pins s1 σ H1 _ I1 q1) λus s2 ⟨xs,H2,I2,r2,q2⟩=>⟨x::xs,H2,I2,.cons r1 r2,q2⟩
def tTup(t:TA):TE:=λσ H Q=>t σ H λxs H1=>xs.length<=sizeLine/\∀p,H1 p=none->Q (.ref p) (upd H1 p (.tup xs))
def tLst(t:TA):TE:=λσ H Q=>t σ H λxs H1=>xs.length<=sizeLine/\∀p,H1 p=none->Q (.ref p) (upd H1 p (.lst xs))
theorem pe_tup{x1}(h:PA X es t):PE X (.Tuple es x1 pos) (tTup t):=by intro pins s σ H Q I hq;refine wpAny_Tuple_spliced (thn (h pos pins s σ H _ I hq) λus s1 ⟨xs,H1,I1,r,z,q⟩=>⟨by rw[<-r.length];exact z,?_⟩);have hf:H1 s1.heap.objs.size=none:=I1.hok.fresh (Qq0 _);refine⟨.ref s1.heap.objs.size,upd H1 s1.heap.objs.size (.tup xs),I1.laid (t':=s1.toks) (λb u e=>Qqw _ e) (Qq0 _) ?_,rfl,q _ hf⟩;exact⟨z,us,r,TupD.new _ _⟩
theorem pe_lst(h:PA X es t):PE X (.List es pos) (tLst t):=by intro pins s σ H Q I hq;refine wpAny_List_spliced (thn (h pos pins s σ H _ I hq) λus s1 ⟨xs,H1,I1,r,z,q⟩=>⟨by rw[<-r.length];exact z,?_⟩);have hf:H1 s1.heap.objs.size=none:=I1.hok.fresh (Qq0 _);refine⟨.ref s1.heap.objs.size,upd H1 s1.heap.objs.size (.lst xs),I1.laid (t':=s1.toks) (λb u e=>Qqw _ e) (Qq0 _) ?_,rfl,q _ hf⟩;exact⟨z,us,0,r,Qwv _ rfl⟩
end
abbrev Sp:=List V->Hp->VK->XK->Prop
abbrev CXT:=List Env->Hp->Shared->XK->Value->Shared->Prop
structure Env0(P:Program)(w:World)(K:PySem.W.Frag)(mg:Str->Option Value)(base:Heap)(A:Around)(outer:List Env)(s:Shared)(H:Hp):Prop where
 frames:A.frames=some outer
 mod:Mod K mg base
 bs:∀b o,base.get? b=some o->s.heap.get? b=some o/\H b=none
 bsz:base.objs.size<=s.heap.objs.size
 funs:s.heap.FunFrames base outer
 frf:∀b∈frs outer,H b=none
 hok:HOk P w H s.heap
 bare:AllBare s.gens
def CE(outer:List Env)(P:Program)(w:World)(H:Hp)(s:Shared)(Q:VK)(u:Value)(s':Shared):Prop:=
 ∃v H',s'.os=s.os/\AllBare s'.gens/\Un (frs outer) [] H H' s.heap s'.heap/\HOk P w H' s'.heap/\RelV v u/\Q v H'
def CR(CX:CXT)(outer:List Env)(P:Program)(w:World)(H:Hp)(s:Shared)(Q:VK)(E:XK)(r:Result)(s':Shared):Prop:=
 match r with
 | .ok (.ret u)=>CE outer P w H s Q u s'
 | .ok _=>False
 | .error e=>CX outer H s E e s'
structure FnOk(P:Program)(w:World)(K:PySem.W.Frag)(mg:Str->Option Value)(base:Heap)(CX:CXT)(k:Nat)(f:Addr)(fd:FuncData)(ps:List Str)(sp:Sp):Prop where
 len:∀vs H Q E,sp vs H Q E->vs.length=ps.length
 run:∀(A:Around) (outer:List Env) (s:Shared) (H:Hp) (args:Args) (us:List Value) (vs:List V) (Q:VK) (E:XK),Room k A->Env0 P w K mg base A outer s H->BindsTo s fd args (ps.zip us)->Vals vs us->sp vs H Q E->
  codeAny (model P w) A (.call (.ref f) args) (CR CX outer P w H s Q E) s
section
variable{X:Cx}{pins:List (Addr×Obj)}{σ:St}{H:Hp}{s s':Shared}
theorem Inv.env0(I:Inv X pins σ H s):Env0 X.prog X.w X.K X.mg X.base X.A X.stack s H:=
 ⟨I.ok.frames,I.ok.mod,I.bs,Qqy I.ok.bsz I.sz,I.stack,I.stkFree,I.hok,I.bare⟩
theorem Inv.after{Q:VK}{u:Value}(I:Inv X pins σ H s)(h:CE X.stack X.prog X.w H s Q u s'):EP X pins σ Q u s':=by obtain⟨v,H',os,bare,un,hok,r,q⟩:=h;obtain⟨hh,g,d,t,os'⟩:=s';obtain rfl:os'=s.os:=os;exact⟨v,H',I.call (h':=hh) (g':=g) (d':=d) (t':=t) (ch:=[]) un hok bare (λb z=>absurd z (by simp)),r,q⟩
end
def tCall(sp:Sp)(dvs:List V)(E:XK)(t:TA):TE:=λσ H Q=>t σ H λvs H1=>sp (vs++dvs) H1 Q E
def Binds(K:PySem.W.Frag)(fd:FuncData)(ps:List Str)(ds:List Value):Prop:=
 ∀(s:Shared) (us:List Value),K.In s.heap->(us++ds).length=ps.length->BindsTo s fd ⟨us,[]⟩ (ps.zip (us++ds))
theorem Binds.all{K:PySem.W.Frag}{fd:FuncData}{ps:List Str}(h:∀us:List Value,us.length=ps.length->bindArgs fd ⟨us,[]⟩=pure (ps.zip us)):Binds K fd ps []:=λs us _ hl=>by
 rw[Qjx] at hl ⊢;exact .of_eq (h us hl)
def Passes(CX:CXT)(X:Cx)(E:XK):Prop:=∀(pins:List (Addr×Obj)) (σ:St) (H:Hp) (s:Shared) (e:Value) (s':Shared),Inv X pins σ H s->CX X.stack H s E e s'->X.xe e s'
section
variable{X:Cx}{CX:CXT}{k:Nat}{f C:Addr}{fd:FuncData}{ps:List Str}{sp:Sp}{dvs:List V}{ds:List Value}{E:XK}{x m:Str}{p pos apos:Pos}{e o:Expr}{es:List Expr}{ta:TE}{t:TA}
theorem run_fn{pins:List (Addr×Obj)}{σ:St}{H:Hp}{s:Shared}{Q:VK}{us:List Value}{vs:List V}(F:FnOk X.prog X.w X.K X.mg X.base CX k f fd ps sp)(hr:Room k X.A)(hb:Binds X.K fd ps ds)(hd:Vals dvs ds)(hx:Passes CX X E)
  (I:Inv X pins σ H s) (r:Vals vs us) (h:sp (vs++dvs) H Q E):wpAny (model X.prog X.w) X.A (call (.ref f) us) (EP X pins σ Q) X.xe s:=by
 have r2:Vals (vs++dvs) (us++ds):=r.append hd;have hl:(us++ds).length=ps.length:=by rw[<-r2.length];exact F.len _ _ _ _ h
 refine wpAny_call (codeAny_mono (F.run X.A X.stack s H ⟨us,[]⟩ (us++ds) (vs++dvs) Q E hr I.env0 (hb s us I.kIn hl) r2 h) λr s' hq=>?_);cases r with
 | error e=>exact hx pins σ H s e s' I hq
 | ok fl=>
  cases fl with
  | ret u=>exact I.after hq
  | next=>exact False.elim hq
  | brk=>exact False.elim hq
  | cont=>exact False.elim hq
theorem pe_call(F:FnOk X.prog X.w X.K X.mg X.base CX k f fd ps sp)(hr:Room k X.A)(hg:Gl X x)(hm:X.mg x=some (.ref f))(hk:PySem.W.keepIn X.K (.ref f)=true)(hb:Binds X.K fd ps ds)(hd:Vals dvs ds)(hx:Passes CX X E)
  (ha:PA X (e::es) t) (hdb:nDb x:=by decide) (he:starEach (e::es) X.env=(false,eval e X.env)::starEach es X.env:=by rfl) (hpl:(backTo pos (starEach es X.env)).any (·.1)=false:=by rfl) :
  PE X (.Call (.Name x p) (e::es) [] pos) (tCall sp dvs E t):=by
 intro pins s σ H Q I h;refine wpAny_Call_Name_kw (ld_glob I hg hm ?_ hdb);refine PySem.W.callWith_K (h₀:=X.base) I.ok.mod.kin hk (thn (ha pos pins s σ H _ I h) λus s1 ⟨vs,H1,I1,r,q⟩=>⟨I1.kIn,?_⟩) he hpl;exact run_fn F hr hb hd hx I1 r q
end
structure bj(N P:List Str)(sc:Scope):Prop where
 kind:sc.kind = .function
 co:sc.isCoroutine=false
 gen:sc.isGenerator=false
 nd:N.Nodup
 pre:N.take P.length=P
 par:∀x∈P,sc.names.lookup x=some .local\/sc.names.lookup x=some .cell
 nofree:∀y∈sc.names,y.2 ≠ .free
theorem bindL_out{kindOf:Str->Option NameKind}{x:Str}:∀{binds:List (Str×Value)} {m:Str->Option Value},(∀v,(x,v) ∉ binds)->bindL kindOf binds m x=m x
 | [],_,_=>rfl
 | (n,v)::r,m,h=>by
  unfold bindL;rw[bindL_out λw hw=>h w (Qqj _ hw)];split
  ·have:x≠n:=by rintro rfl;exact h v Qqz
   simp[this]
  ·rfl
theorem bindC_out{kindOf:Str->Option NameKind}{x:Str}:∀{binds:List (Str×Value)} {m:Str->Option Value},(∀v,(x,v) ∉ binds)->bindC kindOf binds m x=m x
 | [],_,_=>rfl
 | (n,v)::r,m,h=>by
  unfold bindC;rw[bindC_out λw hw=>h w (Qqj _ hw)];split
  ·rfl
  ·have:x≠n:=by rintro rfl;exact h v Qqz
   simp[this]
theorem bindL_get{kindOf:Str->Option NameKind}{x:Str}{v:Value}:∀{P:List Str} {vs:List Value} {i:Nat} {m:Str->Option Value},P.Nodup->P[i]? = some x->vs[i]? = some v->kindOf x=some .local->
  bindL kindOf (P.zip vs) m x=some v
 | [],_,_,_,_,h,_,_=>by simp at h
 | _::_,[],_,_,_,_,h,_=>by simp at h
 | p::P,w::vs,0,m,nd,h1,h2,hk=>by
  simp at h1 h2;subst h1;subst h2;show bindL kindOf ((p,w)::P.zip vs) m p=_;unfold bindL;rw[bindL_out λv hv=>(Qjz.mp nd).1 (List.of_mem_zip hv).1,if_pos hk];simp
 | p::P,w::vs,i+1,m,nd,h1,h2,hk=>by
  show bindL kindOf ((p,w)::P.zip vs) m x=_;unfold bindL;exact bindL_get (i:=i) (Qjz.mp nd).2 (by simpa using h1) (by simpa using h2) hk
theorem bindC_get{kindOf:Str->Option NameKind}{x:Str}{v:Value}:∀{P:List Str} {vs:List Value} {i:Nat} {m:Str->Option Value},P.Nodup->P[i]? = some x->vs[i]? = some v->kindOf x≠some .local->
  bindC kindOf (P.zip vs) m x=some v
 | [],_,_,_,_,h,_,_=>by simp at h
 | _::_,[],_,_,_,_,h,_=>by simp at h
 | p::P,w::vs,0,m,nd,h1,h2,hk=>by
  simp at h1 h2;subst h1;subst h2;show bindC kindOf ((p,w)::P.zip vs) m p=_;unfold bindC;rw[bindC_out λv hv=>(Qjz.mp nd).1 (List.of_mem_zip hv).1,if_neg hk];simp
 | p::P,w::vs,i+1,m,nd,h1,h2,hk=>by
  show bindC kindOf ((p,w)::P.zip vs) m x=_;unfold bindC;exact bindC_get (i:=i) (Qjz.mp nd).2 (by simpa using h1) (by simpa using h2) hk
def start(N:List Str)(vs:List V):St:=vs.map some++List.replicate (N.length - vs.length) none
def cxOf(CX:CXT)(P:Program)(w:World)(K:PySem.W.Frag)(mg:Str->Option Value)(base:Heap)(N:List Str)(qual:Str)(scope:Scope)(f:Addr)(cd:Value)(A:Around)(outer:List Env)(s:Shared)(H:Hp)(E:XK):Cx where
 prog:=P
 w:=w
 K:=K
 mg:=mg
 base:=base
 A:=A.deeper (envOfC qual scope s.heap.objs.size f cd)
 N:=N
 s₀:=s
 H₀:=H
 env:=envOfC qual scope s.heap.objs.size f cd
 outer:=outer
 stack:=envOfC qual scope s.heap.objs.size f cd::outer
 ex:=[]
 calm:=true
 fn:=λ_=>true
 pn:=[]
 xe:=λe s'=>wpAny (model P w) (A.deeper (envOfC qual scope s.heap.objs.size f cd)) (leaving (envOfC qual scope s.heap.objs.size f cd) e) (λ_ s''=>CX outer H s E e s'') (λe' s''=>CX outer H s E e' s'') s'
theorem cell_has{sc:Scope}{n:Nat}{x:Str}(h:sc.names.lookup x=some .cell):∃c,(cellsFrom n sc.names []).lookup x=some c:=by have q:=PySem.W.cellsFrom_some sc.names n [] (.inl h);exact Qxv.mp q
theorem inv_start{CX:CXT}{P:Program}{w:World}{K:PySem.W.Frag}{mg:Str->Option Value}{base:Heap}{N ps:List Str}{qual:Str}{scope:Scope}{f:Addr}{cd:Value}{A:Around}{outer:List Env}{s s1:Shared}{H:Hp}{E:XK}{us:List Value}{vs:List V}
  (S:bj N ps scope) (hd:A.handled=none) (e0:Env0 P w K mg base A outer s H) (hl:vs.length=ps.length) (r:Vals vs us)
  (x:InCallC s s.heap.objs.size (bindL (envOfC qual scope s.heap.objs.size f cd).kindOf (ps.zip us) λ_=>none) (cellsFrom (s.heap.objs.size+1) scope.names []) (bindC (envOfC qual scope s.heap.objs.size f cd).kindOf (ps.zip us) λ_=>none) s1) :
  Inv (cxOf CX P w K mg base N qual scope f cd A outer s H E) [] (start N vs) H s1:=by
 have hpl:ps.length<=N.length:=by have:=Qzq List.length S.pre;rw[Qxx] at this;omega
 obtain⟨h1,tk,rfl,hk⟩:=x.done;have noA:∀b:Addr,b ∉ (cxOf CX P w K mg base N qual scope f cd A outer s H E).ex:=λb z=>absurd (show b∈([]:List Addr) from z) (by simp);refine⟨⟨e0.mod,S.kind,rfl,rfl,Qq0 _,λy z c h1 h2=>?_,λy hy=>?_,λy c _ h=>?_,λ_=>hd,Around.frames_deeper e0.frames,.inr ⟨rfl,rfl⟩,λb z=>absurd z (noA b),e0.bs,e0.bsz,λb _ _=>noA b,λb z=>absurd z (noA b),e0.funs,e0.frf⟩,
  rfl,e0.bare,Un.kept hk,⟨_,x.toInCall.ns,λi y v h1 h2 h3=>?_⟩,λy c h=>⟨_,x.cell y c h⟩,e0.hok.fresh (Qq0 _),λy c h=>?_,λp hp=>absurd (show p∈([]:List (Addr×Obj)) from hp) (by simp),e0.hok.kept hk,?_⟩
 ·exact name_of_addr x.apart (Qjy h1) (Qjy h2)
 ·have hy:scope.names.lookup y=some .cell\/scope.names.lookup y=some .free:=hy;rcases hy with hy|hy
  ·exact cell_has hy
  ·exact absurd rfl (S.nofree _ (Qjy hy))
 ·exact Qj5 (x.above y c (Qjy h))
 ·have hi:i<vs.length:=by
   unfold start at h2;by_cases hi:i<vs.length
   ·exact hi
   ·rw[Qxz (by simpa using hi)] at h2;rw[Qzk] at h2;split at h2<;>cases h2
  have ha:vs[i]? = some v:=by
   unfold start at h2;rw[Qw3 (by simpa using hi),Qxq] at h2;cases e:vs[i]? with
   | none=>rw[e] at h2;cases h2
   | some a=>rw[e] at h2;cases h2;rfl
  obtain⟨u,hu,rv⟩:=r.get ha;have hp:ps[i]? = some y:=by rw[<-S.pre,Qz0 (by omega)];exact h1
  have ndP:ps.Nodup:=by rw[<-S.pre];exact S.nd.sublist (List.take_sublist _ _)
  refine⟨u,rv,?_⟩;rcases S.par y (Qz3 hp) with k|k
  ·exact .inl ⟨k,bindL_get ndP hp hu k⟩
  ·obtain⟨c,e⟩:=cell_has (n:=s.heap.objs.size+1) k;refine .inr ⟨.inl k,c,e,?_⟩;have q:=x.cell y c e;rw[bindC_get ndP hp hu (by show scope.names.lookup y≠_;rw[k];decide)] at q;exact q
 ·exact .inl (e0.hok.fresh (Qj5 (x.above y c (Qjy h))))
 ·unfold start;show _=N.length;rw[Qqq,Qqx,Qzj];omega
theorem fn_of{CX:CXT}{P:Program}{w:World}{K:PySem.W.Frag}{mg:Str->Option Value}{base:Heap}{k:Nat}{f:Addr}{name qual:Str}{params:Arguments}{body:List Stmt}{scope:Scope}{dV kV doc pm cdv ct oc:Value}{an od:Option Addr}
  {osl:Array (Option Value)} {N ps:List Str} {sp:Sp} (lk:K.lookup f=some ⟨oc,od,.func (PySem.W.fnOf name qual params body scope dV kV doc pm an cdv ct),osl⟩) (hcd:PySem.W.codeIn K cdv qual=true) (S:bj N ps scope)
  (len:∀vs H Q E,sp vs H Q E->vs.length=ps.length)
  (hbody:∀(A:Around) (outer:List Env) (s:Shared) (H:Hp) (vs:List V) (Q:VK) (E:XK),Room k (A.deeper (envOfC qual scope s.heap.objs.size f cdv))->sp vs H Q E->
   ∃t,PSs (cxOf CX P w K mg base N qual scope f cdv A outer s H E) body t/\t { nx:=λ_ H'=>Q .non H',rt:=Q } (start N vs) H) :
  FnOk P w K mg base CX (k+1) f (PySem.W.fnOf name qual params body scope dV kV doc pm an cdv ct) ps sp:=by
 refine⟨len,λA outer s H args us vs Q E hr e0 hb r hsp=>?_⟩;have hl:=len _ _ _ _ hsp;have KX:K.In s.heap:=e0.mod.kin.keeps λb o e=>(e0.bs b o e).1;have lim:s.heap.NoLimit:=e0.mod.nolimit.keeps λb o e=>(e0.bs b o e).1;have hkind:∀y∈ps.zip us,scope.names.lookup y.1=some .local\/(scope.names.lookup y.1=some .cell/\((cellsFrom (s.heap.objs.size+1) scope.names []).lookup y.1).isSome=true):=λ⟨n,v⟩ hy=>by
  rcases S.par n (List.of_mem_zip hy).1 with q|q
  ·exact .inl q
  ·exact .inr ⟨q,PySem.W.cellsFrom_some _ _ _ (.inl q)⟩
 refine codeAny_call_function hr.depth (KX _ _ lk) rfl S.co S.gen rfl (PySem.W.codeRec_of KX hcd) (hb _ _ _ _ ?_);refine wpAny_newFunctionEnv_cells S.kind hkind λenv he s1 x=>?_;subst he;refine⟨lim.keeps x.toInCall.keep,codeAny_func ?_⟩;obtain⟨t,ht,hq⟩:=hbody A outer s H vs Q E (hr.deeper _) hsp;have I:Inv (cxOf CX P w K mg base N qual scope f cdv A outer s H E) [] (start N vs) H s1:=inv_start S hr.hd e0 hl r x;refine Qz1 (ht [] s1 (start N vs) H _ I hq) (λfl s' hs=>?_) λe s' hs=>hs;have fin:∀{σ':St} {H':Hp} {v:V} {u:Value},Inv (cxOf CX P w K mg base N qual scope f cdv A outer s H E) [] σ' H' s'->RelV v u->Q v H'->CE outer P w H s Q u s':=
  λ{σ' H' v u} J rv q=>⟨v,H',J.os,J.bare,J.base,J.hok,rv,q⟩
 cases fl with
 | ret u=>
  obtain⟨v,σ',H',J,rv,q⟩:=hs;exact fin J rv q
 | next=>
  obtain⟨σ',H',J,q⟩:=hs;exact fin (v:=V.non) (u:=Value.none) J rfl q
 | brk=>
  obtain⟨_,_,_,q⟩:=hs;exact False.elim q
 | cont=>
  obtain⟨_,_,_,q⟩:=hs;exact False.elim q
section
variable{X:Cx}{x:Str}{p pos:Pos}{e:Expr}{es:List Expr}{t:TA}{id T:String}{r:List V->Hp->VK->Prop}
def tCB(r:List V->Hp->VK->Prop)(t:TA):TE:=λσ H Q=>t σ H λvs H1=>r vs H1 Q
theorem pe_callB(hc:CallR X (.builtin id) r)(hg:Gl X x)(hm:X.mg x=none)(hv:bootBuiltins x=some (.builtin id))(ha:PA X (e::es) t)(hn:x ≠ "__name__":=by decide)(hdb:nDb x:=by decide)
  (he:starEach (e::es) X.env=(false,eval e X.env)::starEach es X.env:=by rfl) (hpl:(backTo pos (starEach es X.env)).any (·.1)=false:=by rfl):PE X (.Call (.Name x p) (e::es) [] pos) (tCB r t):=by
 intro pins s σ H Q I h;refine wpAny_Call_Name_kw (ld_blt I hg hm hv ?_ hn hdb);exact PyProof.Rows.callWith_builtin1 (thn (ha pos pins s σ H _ I h) λus s1 ⟨vs,H1,I1,r1,q1⟩=>hc pins s1 σ H1 vs us Q I1 r1 q1) he hpl
theorem pe_callTy(hc:CallR X (.type T) r)(hg:Gl X x)(hm:X.mg x=none)(hv:bootBuiltins x=some (.type T))(ha:PA X (e::es) t)(hn:x ≠ "__name__":=by decide)(hdb:nDb x:=by decide)
  (he:starEach (e::es) X.env=(false,eval e X.env)::starEach es X.env:=by rfl) (hpl:(backTo pos (starEach es X.env)).any (·.1)=false:=by rfl):PE X (.Call (.Name x p) (e::es) [] pos) (tCB r t):=by
 intro pins s σ H Q I h;refine wpAny_Call_Name_kw (ld_blt I hg hm hv ?_ hn hdb);exact Qx5 (thn (ha pos pins s σ H _ I h) λus s1 ⟨vs,H1,I1,r1,q1⟩=>hc pins s1 σ H1 vs us Q I1 r1 q1) he hpl
end
end L2
namespace HT
open PySem PyProof.Rows
section
variable{prog:Program}{w:World}{A:Around}{E:Value->Shared->Prop}{s:Shared}
theorem cat_tup{t b:Addr}{vs ws:List Value}{Q:Value->Shared->Prop}(ht:IsTup s.heap t vs.toArray)(hb:IsTup s.heap b ws.toArray)(hv:vs≠[])
  (h1:ws=[]->Q (.ref t) s) (h2:ws≠[]->Q (.ref s.heap.objs.size) { s with heap:=s.heap.push { cls:=.type "tuple",data:=.seq (vs++ws).toArray } })
  (hsz:vs.length+ws.length<=sizeLine):wpAny (model prog w) A (binaryOp .Add (.ref t) (.ref b)) Q E s:=by
 obtain⟨⟨cls,dd,data,sl⟩,ho,hc,n,hd⟩:=id ht;obtain⟨⟨cls2,dd2,data2,sl2⟩,ho2,hc2,n2,hd2⟩:=id hb;simp only at hc hd hc2 hd2;subst hc hd hc2 hd2;have e:vs.toArray++ws.toArray=(vs++ws).toArray:=by simp
 by_cases hw:ws=[]
 ·exact concat_meets ⟨_,ho,rfl⟩ ⟨_,ho2,rfl⟩ noFill_tuple_add seq_tuple_add PySem.F.slot_tuple_add PySem.F.entry_tuple_add (PySem.F.args_tuple_add_2 _ _)
   (tuple_addW1 t b vs.toArray ws.toArray n n2 dd dd2 sl sl2 (by simpa using hv) (by simp[hw])) ⟨ho,ho2,h1 hw⟩
 ·refine concat_meets ⟨_,ho,rfl⟩ ⟨_,ho2,rfl⟩ noFill_tuple_add seq_tuple_add PySem.F.slot_tuple_add PySem.F.entry_tuple_add (PySem.F.args_tuple_add_2 _ _)
   (tuple_addW2 t b vs.toArray ws.toArray n n2 dd dd2 sl sl2 (by simpa using hv) (by simpa using hw) (by rw[Qq1,Qq1];exact hsz)) ⟨ho,ho2,?_⟩
  rw[e];exact h2 hw
def sIx(n d:Nat):Option Int->Nat
 | none=>d
 | some v=>if v<0 then (v+(n:Int)).toNat else min v.toNat n
theorem sIx_nat(n d k:Nat):sIx n d (some (k:Int))=min k n:=by show(if (k:Int)<0 then ((k:Int)+(n:Int)).toNat else min (k:Int).toNat n)=min k n;rw[if_neg (by omega),Int.toNat_natCast]
theorem sIx_le(n d:Nat)(hd:d<=n)(o:Option Int):sIx n d o<=n:=by
 cases o with
 | none=>exact hd
 | some v=>
  show(if v<0 then (v+(n:Int)).toNat else min v.toNat n)<=n;by_cases hv:v<0
  ·rw[if_pos hv];omega
  ·rw[if_neg hv];exact Nat.min_le_right _ _
theorem clip_eq(v:Int)(n d:Nat):(if v<0 then max (v+(n:Int)) 0 else min v (n:Int))=((sIx n d (some v):Nat):Int):=by
 show(if v<0 then max (v+(n:Int)) 0 else min v (n:Int))=(((if v<0 then (v+(n:Int)).toNat else min v.toNat n):Nat):Int);by_cases hv:v<0
 ·simp only[if_pos hv];omega
 ·simp only[if_neg hv];omega
theorem adjust_gen(lo hi:Option Int)(n:Nat):Builtin.Slice.sliceAdjust lo hi 1 (n:Int)=(((sIx n 0 lo:Nat):Int),((sIx n n hi:Nat):Int)):=by
 have h1:¬((1:Int)<0):=by omega
 unfold Builtin.Slice.sliceAdjust;simp only[h1,if_false];refine Prod.ext ?_ ?_
 ·cases lo with
  | none=>rfl
  | some v=>exact clip_eq v n 0
 ·cases hi with
  | none=>rfl
  | some v=>exact clip_eq v n n
theorem places_gen(i j:Nat):Builtin.Slice.slicePlaces (i:Int) (j:Int) 1=j - i:=by
 unfold Builtin.Slice.slicePlaces;have h1:(1:Int) > 0:=by omega
 simp only[h1,if_true,Int.ediv_one];split<;>omega
theorem slicePart_{v:Value}{o:Option Int}{Q:Option Int->Shared->Prop}(p:IsPart v o)(h:Q o s):wpAny (model prog w) A (Builtin.Slice.slicePartIndex v) Q E s:=by
 cases p with
 | none=>exact slicePart_none h
 | int i t=>exact slicePart_int h
theorem sliceApplied_gen{sl:Addr}{vl vu:Value}{lo hi:Option Int}{n:Nat}{Q:Int×Int×Nat->Shared->Prop}(hs:s.heap.IsSliceOf sl vl vu .none)(pl:IsPart vl lo)(pu:IsPart vu hi)
  (h:Q (((sIx n 0 lo:Nat):Int),1,sIx n n hi - sIx n 0 lo) s):wpAny (model prog w) A (Builtin.Slice.sliceApplied (.ref sl) (pure (n:Int))) Q E s:=by
 obtain⟨os,hos,hcs,hds⟩:=id hs;unfold Builtin.Slice.sliceApplied Builtin.Slice.sliceFields;refine Qqv (Qqv (wpAny_field hos hds (x:=vl) rfl (Qqv (wpAny_field hos hds (x:=vu) rfl (Qqv (wpAny_field hos hds (x:=.none) rfl (Qq6 ?_)))))));refine Qqv (slicePart_none ?_);show wpAny _ _ (if ((1:Int) == 0)=true then _ else _) _ _ s;rw[if_neg (by decide)];refine Qqv (slicePart_ pl (Qqv (slicePart_ pu (Qqv (Qq6 ?_)))));show wpAny _ _ (match Builtin.Slice.sliceAdjust lo hi 1 (n:Int) with|(lo,hi)=>pure (lo,(1:Int),Builtin.Slice.slicePlaces lo hi 1)) _ _ s;rw[adjust_gen lo hi n];show wpAny _ _ (pure (((sIx n 0 lo:Nat):Int),(1:Int),Builtin.Slice.slicePlaces ((sIx n 0 lo:Nat):Int) ((sIx n n hi:Nat):Int) 1)) _ _ s;rw[places_gen];exact Qq6 h
theorem pick_gen(xs:Array Value)(i k:Nat):((List.range k).filterMap λ(m:Nat)=>xs[((i:Int)+(m:Int)*1).toNat]?).toArray=((xs.toList.drop i).take k).toArray:=by
 have e:(λ(m:Nat)=>xs[((i:Int)+(m:Int)*1).toNat]?)=λm=>xs[i+m]?:=by
  funext m
  have:((i:Int)+(m:Int)*1).toNat=i+m:=by omega
  rw[this]
 rw[e];have:=pick_run xs i k;rw[List.filterMap_map] at this;have e2:((λx=>xs[x]?) ∘ λx=>i+x)=λm=>xs[i+m]?:=rfl;rw[e2] at this;rw[this]
theorem getItem_tuple_cut{t sl:Addr}{items:Array Value}{vl vu:Value}{lo hi:Option Int}{Q:Value->Shared->Prop}(ht:IsTup s.heap t items)(hs:s.heap.IsSliceOf sl vl vu .none)(pl:IsPart vl lo)(pu:IsPart vu hi)
  (hw:¬(sIx items.size 0 lo=0/\sIx items.size items.size hi=items.size))
  (h:Q (.ref s.heap.objs.size) { s with heap:=s.heap.push { cls:=.type "tuple",data:=.seq ((items.toList.drop (sIx items.size 0 lo)).take (sIx items.size items.size hi - sIx items.size 0 lo)).toArray } })
  (hsz:items.size<=sizeLine):wpAny (model prog w) A (getItem (.ref t) (.ref sl)) Q E s:=by
 have htake:sizeOk (.seq ((items.toList.drop (sIx items.size 0 lo)).take (sIx items.size items.size hi - sIx items.size 0 lo)).toArray):=by show((items.toList.drop (sIx items.size 0 lo)).take (sIx items.size items.size hi - sIx items.size 0 lo)).toArray.size<=sizeLine;rw[Qq1,Qxx,Qx6,Qjv];omega
 have hj:sIx items.size items.size hi<=items.size:=sIx_le _ _ (Qq0 _) hi;obtain⟨os,hos,hcs,hds⟩:=id hs;have hTs:s.TypeIs (.ref sl) "slice":=⟨os,hos,hcs⟩;unfold getItem
 try with_reducible refine Qz9 ?_
 first|refine Qqv (Qq6 ?_)|skip
 refine Qqv (wpAny_sequenceKey ht.typeIs (by decide) ?_);refine Qqv (wpAny_callSpecial?_slot (name:=Str.ofString "__getitem__") ht.typeIs Qxw
  (wpAny_call_entry Qxw ht.typeIs entry_tuple_getitem ?_ (args_tuple_getitem _ _)))
 show wpAny _ _ (Builtin.Tuple.tupleItemsOf (.ref t) >>= _) _ _ s;refine Qqv (tupleItemsOf_ ht ?_);refine Qqv (wpAny_typeOf hTs ?_);rw[if_pos (by decide)];refine Qqv (sliceApplied_gen hs pl pu ?_);have hno:¬((((sIx items.size 0 lo:Nat):Int) == 0&&(1:Int) == 1&&(sIx items.size items.size hi - sIx items.size 0 lo) == items.size)=true):=by intro q;rw[Qwy,Qwy] at q;have q1:((sIx items.size 0 lo:Nat):Int)=0:=eq_of_beq q.1.1;have q2:sIx items.size items.size hi - sIx items.size 0 lo=items.size:=eq_of_beq q.2;exact hw ⟨by omega,by omega⟩
 show wpAny _ _ (if (((sIx items.size 0 lo:Nat):Int) == 0&&(1:Int) == 1&&(sIx items.size items.size hi - sIx items.size 0 lo) == items.size)=true then _ else _) _ _ s;rw[if_neg hno,pick_gen]
 first
  | exact Qqv (m:=Builtin.Tuple.tupleExact _) (Qjj (Qq6 ⟨_,rfl,Qq6 h⟩) htake)
  | exact Qqv (m:=Builtin.Tuple.tupleExact _) (Qjj (Qqv (Qq6 (Qq6 ⟨_,rfl,Qq6 h⟩))) htake)
  | exact Qqv (Qqv (m:=Builtin.Tuple.tupleExact _) (Qjj (Qq6 (Qq6 ⟨_,rfl,Qq6 h⟩)) htake))
  | exact Qqv (Qqv (m:=Builtin.Tuple.tupleExact _) (Qjj (Qq6 ⟨_,rfl,Qq6 h⟩) htake))
end
end HT
namespace L2
open PySem PySem.Spec PyProof.Rows
abbrev TO:=St->Hp->(Option Int->Hp->Prop)->Prop
def PO(X:Cx)(e:Option Expr)(t:TO):Prop:=
 ∀(pins:List (Addr×Obj)) (s:Shared) (σ:St) (H:Hp) (Q:Option Int->Hp->Prop),Inv X pins σ H s->t σ H Q->
  wpAny (model X.prog X.w) X.A (evalPart e X.env) (λu s'=>∃o H',Inv X pins σ H' s'/\IsPart u o/\Q o H') X.xe s
def tNoPart:TO:=λ_ H Q=>Q none H
def tPart(t:TE):TO:=λσ H Q=>t σ H λx H1=>∃i,x = .int i/\Q (some i) H1
section
variable{X:Cx}{e:Expr}{te:TE}{lo hi:Option Expr}{tl th:TO}{pos p2:Pos}
theorem po_none:PO X none tNoPart:=by intro pins s σ H Q I h;rw[evalPart_none];exact Qq6 ⟨none,H,I,.none,h⟩
theorem po_some(h:PE X e te):PO X (some e) (tPart te):=by intro pins s σ H Q I hw;rw[evalPart_some];refine thn (h pins s σ H _ I hw) λu s1 ⟨x,H1,I1,r1,q1⟩=>?_;obtain⟨i,rfl,q⟩:=q1;obtain⟨t,rfl⟩:=r1;exact⟨some i,H1,I1,.int i t,q⟩
def SlR(X:Cx)(r:V->Option Int->Option Int->Hp->VK->Prop):Prop:=
 ∀(pins:List (Addr×Obj)) (s:Shared) (σ:St) (H:Hp) (x:V) (v vl vu:Value) (lo hi:Option Int) (sl:Addr) (Q:VK),Inv X pins σ H s->RelV x v->s.heap.IsSliceOf sl vl vu .none->IsPart vl lo->IsPart vu hi->r x lo hi H Q->
  ∃T id,typeLookup (.type T) "__getitem__" = pure (some (.builtin id))/\s.TypeIs v T/\wpAny (model X.prog X.w) X.A (getItem v (.ref sl)) (EP X pins σ Q) X.xe s
theorem SlR.or{r r':V->Option Int->Option Int->Hp->VK->Prop}(h:SlR X r)(h':SlR X r'):SlR X (λx lo hi H Q=>r x lo hi H Q\/r' x lo hi H Q):=by
 intro pins s σ H x v vl vu lo hi sl Q I rx hs pl pu q;rcases q with q|q
 ·exact h pins s σ H x v vl vu lo hi sl Q I rx hs pl pu q
 ·exact h' pins s σ H x v vl vu lo hi sl Q I rx hs pl pu q
def tSl(r:V->Option Int->Option Int->Hp->VK->Prop)(te:TE)(tl th:TO):TE:=λσ H Q=>te σ H λx H1=>tl σ H1 λl H2=>th σ H2 λu H3=>r x l u H3 Q
theorem pe_slice{r:V->Option Int->Option Int->Hp->VK->Prop}(hr:SlR X r)(he:PE X e te)(hl:PO X lo tl)(hu:PO X hi th):PE X (.Subscript e (.Slice lo hi none p2) pos) (tSl r te tl th):=by intro pins s σ H Q I h;refine Subscript_ (thn (he pins s σ H _ I h) λv s1 ⟨x,H1,I1,r1,q1⟩=>?_);refine wpAny_Slice (thn (hl pins s1 σ H1 _ I1 q1) λvl s2 ⟨l,H2,I2,pl,q2⟩=>thn (hu pins s2 σ H2 _ I2 q2) λvu s3 ⟨u,H3,I3,pu,q3⟩=>?_);rw[evalPart_none];refine Qq6 ?_;have I4:Inv X pins σ H3 { s3 with heap:=s3.heap.push { cls:=.type "slice",data:=.fields #[vl,vu,.none] } }:=I3.kept (t':=s3.toks) λb ob q=>Qqw _ q;obtain⟨T,id,hT,ht,hg⟩:=hr pins { s3 with heap:=s3.heap.push { cls:=.type "slice",data:=.fields #[vl,vu,.none] } } σ H3 x v vl vu l u s3.heap.objs.size Q I4 r1 (Heap.IsSliceOf.new ..) pl pu q3;show wpAny (model X.prog X.w) X.A (subscriptTail e (.Slice lo hi none p2) v (.ref s3.heap.objs.size)) (EP X pins σ Q) X.xe { s3 with heap:=s3.heap.push { cls:=.type "slice",data:=.fields #[vl,vu,.none] } };exact tail_any (ops:=[.ref s3.heap.objs.size,v]) ht hT hg (by with_unfolding_all rfl)
def cutV(xs:List V)(lo hi:Option Int):List V:=(xs.drop (HT.sIx xs.length 0 lo)).take (HT.sIx xs.length xs.length hi - HT.sIx xs.length 0 lo)
theorem cutV_length(xs:List V)(lo hi:Option Int):(cutV xs lo hi).length<=xs.length:=by unfold cutV;rw[Qxx,Qx6];omega
def rSlT(K:PySem.W.Frag):V->Option Int->Option Int->Hp->VK->Prop:=λx lo hi H Q=>∃a xs,x = .ref a/\SqT K H a xs/\
 ¬(HT.sIx xs.length 0 lo=0/\HT.sIx xs.length xs.length hi=xs.length)/\∀p,H p=none->Q (.ref p) (upd H p (.tup (cutV xs lo hi)))
theorem sl_tup:SlR X (rSlT X.K):=by
 intro pins s σ H x v vl vu lo hi sl Q I rx hs pl pu h;obtain⟨a,xs,rfl,hx,hw,q⟩:=h;cases rx;obtain⟨its,r,ht,hz⟩:=I.tuple hx;have hlen:its.toArray.size=xs.length:=by rw[Qq1];exact r.length.symm
 refine⟨"tuple",_,PyProof.Rows.slot_tuple_getitem.lookup,ht.typeIs,?_⟩;refine HT.getItem_tuple_cut ht hs pl pu (by rw[hlen];exact hw) ?_ (by rw[hlen];exact hz);rw[hlen];refine⟨.ref s.heap.objs.size,_,I.laid (t':=s.toks) (o:=.tup (cutV xs lo hi)) (λb ob q=>Qqw _ q) (Qq0 _) ?_,rfl,q _ (I.hok.fresh (Qq0 _))⟩;exact⟨Qqy (cutV_length xs lo hi) hz,_,(r.drop (HT.sIx xs.length 0 lo)).take (HT.sIx xs.length xs.length hi - HT.sIx xs.length 0 lo),TupD.new _ _⟩
def rCatT(K:PySem.W.Frag):R2:=λx y H Q=>∃a b xs ys,x = .ref a/\y = .ref b/\SqT K H a xs/\SqT K H b ys/\xs≠[]/\xs.length+ys.length<=sizeLine/\
 (ys=[]->Q (.ref a) H)/\(ys≠[]->∀p,H p=none->Q (.ref p) (upd H p (.tup (xs++ys))))
theorem Vals.nil_iff{xs:List V}{us:List Value}(r:Vals xs us):us=[]↔xs=[]:=by
 cases r with
 | nil=>simp
 | cons _ _=>simp
theorem op_catT:OpR X (binaryOp .Add) (rCatT X.K):=by intro pins s σ H x y v u Q I rx ry h;obtain⟨a,b,xs,ys,rfl,rfl,ha,hb,hx,hz,q1,q2⟩:=h;cases rx;cases ry;obtain⟨its,r1,p1,_⟩:=I.tuple ha;obtain⟨its2,r2,p2,_⟩:=I.tuple hb;refine HT.cat_tup p1 p2 (λz=>hx (r1.nil_iff.mp z)) (λz=>⟨.ref a,H,I,rfl,q1 (r2.nil_iff.mp z)⟩) (λz=>?_) (by rw[<-r1.length,<-r2.length];exact hz);refine⟨.ref s.heap.objs.size,_,I.laid (t':=s.toks) (o:=.tup (xs++ys)) (λb ob q=>Qqw _ q) (Qq0 _) ?_,rfl,q2 (λw=>z (r2.nil_iff.mpr w)) _ (I.hok.fresh (Qq0 _))⟩;exact⟨by rw[Qqq];exact hz,_,r1.append r2,TupD.new _ _⟩
end
def ixN(n:Nat)(i:Int):Option Nat:=if 0<=i then (if i<n then some i.toNat else none) else if -(n:Int)<=i then some (i+n).toNat else none
def atI{α:Type}(xs:List α)(i:Int):Option α:=(ixN xs.length i).bind λj=>xs[j]?
theorem ixN_seq{n:Nat}{i:Int}{j:Nat}(h:ixN n i=some j):seqIndex? i n=some j/\j<n/\-(n:Int)<=i/\i<n:=by
 unfold ixN at h;by_cases h0:0<=i
 ·rw[if_pos h0] at h;by_cases h1:i<n
  ·rw[if_pos h1] at h;have e:i.toNat=j:=Qw1 h;exact⟨by rw[seqIndex_of h0 h1,e],by omega,by omega,h1⟩
  ·rw[if_neg h1] at h;cases h
 ·rw[if_neg h0] at h;by_cases h1 : -(n:Int)<=i
  ·rw[if_pos h1] at h;have e:(i+n).toNat=j:=Qw1 h;exact⟨by rw[seqIndex_neg (by omega) h1,e],by omega,h1,by omega⟩
  ·rw[if_neg h1] at h;cases h
theorem atI_get{α:Type}{xs:List α}{i:Int}{v:α}(h:atI xs i=some v):∃j,seqIndex? i xs.length=some j/\xs[j]? = some v/\j<xs.length/\-(xs.length:Int)<=i/\i<xs.length:=by
 unfold atI at h;cases e:ixN xs.length i with
 | none=>rw[e] at h;cases h
 | some j=>
  rw[e] at h;obtain⟨h1,h2,h3,h4⟩:=ixN_seq e;exact⟨j,h1,h,h2,h3,h4⟩
theorem atI_nat{α:Type}{xs:List α}{j:Nat}{v:α}(h:xs[j]? = some v):atI xs (j:Int)=some v:=by
 have hj:j<xs.length:=(Qq4.mp h).1;have e:ixN xs.length (j:Int)=some j:=by unfold ixN;rw[if_pos (by omega),if_pos (by omega)];simp
 unfold atI;rw[e];exact h
def PlainIx(b:Expr):Prop:=∀o i,subscripted b false o i=operate [o,i] (getItem o i)
def IxR(X:Cx)(r:R2):Prop:=
 ∀(value slice:Expr) (pins:List (Addr×Obj)) (s:Shared) (σ:St) (H:Hp) (x y:V) (v u:Value) (Q:VK),Inv X pins σ H s->RelV x v->RelV y u->r x y H Q->
  subscripted slice false v u=operate [v,u] (getItem v u)->wpAny (model X.prog X.w) X.A (subscriptTail value slice v u) (EP X pins σ Q) X.xe s
def MtR(X:Cx)(id:String)(r:V->List V->Hp->VK->Prop):Prop:=
 ∀(pins:List (Addr×Obj)) (s:Shared) (σ:St) (H:Hp) (x:V) (xs:List V) (v:Value) (us:List Value) (Q:VK),Inv X pins σ H s->RelV x v->Vals xs us->r x xs H Q->
  wpAny (model X.prog X.w) X.A (call (.builtin id) (v::us)) (EP X pins σ Q) X.xe s
section
variable{X:Cx}{a b:Expr}{ta tb:TE}{pos:Pos}
theorem IxR.or{r r':R2}(h:IxR X r)(h':IxR X r'):IxR X (λx y H Q=>r x y H Q\/r' x y H Q):=by
 intro value slice pins s σ H x y v u Q I rx ry q hs;rcases q with q|q
 ·exact h value slice pins s σ H x y v u Q I rx ry q hs
 ·exact h' value slice pins s σ H x y v u Q I rx ry q hs
theorem pe_ix{r:R2}(hr:IxR X r)(ha:PE X a ta)(hb:PE X b tb)(hs:PlainIx b):PE X (.Subscript a b pos) (tOp r ta tb):=by intro pins s σ H Q I h;exact Subscript_ (binT ha hb I h λv u s2 x y H2 I2 rx ry q=>hr a b pins s2 σ H2 x y v u Q I2 rx ry q (hs _ _))
def rIxL(K:PySem.W.Frag):R2:=λx y H Q=>∃p xs i v,x = .ref p/\y = .int i/\SqL K H p xs/\atI xs i=some v/\Q v H
def rIxT(K:PySem.W.Frag):R2:=λx y H Q=>∃p xs i v,x = .ref p/\y = .int i/\SqT K H p xs/\atI xs i=some v/\Q v H
def rIxS:R2:=λx y H Q=>∃z i c,x = .str z/\y = .int i/\z.length<=sizeLine/\atI z.cps.toList i=some c/\Q (.str ⟨#[c]⟩) H
theorem ix_list:IxR X (rIxL X.K):=by
 intro value slice pins s σ H x y v u Q I rx ry h hs;obtain⟨p,xs,i,z,rfl,rfl,hq,he,q⟩:=h;cases rx;obtain⟨t,rfl⟩:=ry;obtain⟨its,r,pl,hz⟩:=I.list hq;obtain⟨j,h1,h2,h3,h4,h5⟩:=atI_get he;obtain⟨w,ew,rw'⟩:=r.get h2;have hl:=r.length;have hn:=line63;have fin:EP X pins σ Q w s:=⟨z,H,I,rw',q⟩;by_cases h0:0<=i
 ·have hj:i.toNat=j:=by
   rw[seqIndex_of h0 h5] at h1;exact Qw1 h1
  exact item_listR pl.isList h0 (by omega) (by rw[hj];simpa using ew) fin hs
 ·have hj:(i+(its.toArray.size:Int)).toNat=j:=by
   rw[seqIndex_neg (by omega) h4] at h1;rw[Qq1,<-hl];exact Qw1 h1
  exact subscriptTail_builtinR (x:=w) pl.isList.typeIs slot_list_getitem.lookup
   (wpAny_getItem_list_neg (Q:=λr s'=>r=w/\EP X pins σ Q r s') pl.isList (by omega) (by rw[Qq1]<;>omega) (by omega) (by rw[hj];simpa using ew) ⟨rfl,fin⟩) hs
theorem ix_tup:IxR X (rIxT X.K):=by
 intro value slice pins s σ H x y v u Q I rx ry h hs;obtain⟨p,xs,i,z,rfl,rfl,hq,he,q⟩:=h;cases rx;obtain⟨t,rfl⟩:=ry;obtain⟨its,r,pl,hz⟩:=I.tuple hq;obtain⟨j,h1,h2,h3,h4,h5⟩:=atI_get he;obtain⟨w,ew,rw'⟩:=r.get h2;have hl:=r.length;have hn:=line63;have fin:EP X pins σ Q w s:=⟨z,H,I,rw',q⟩;exact subscriptTail_builtinR (x:=w) pl.typeIs slot_tuple_getitem.lookup
  (getItem_tuple (j:=j) (Q:=λr s'=>r=w/\EP X pins σ Q r s') pl (by omega) (by omega) (by rw[Qq1,<-hl];exact h1) (by simpa using ew) ⟨rfl,fin⟩) hs
theorem ix_str:IxR X rIxS:=by
 intro value slice pins s σ H x y v u Q I rx ry h hs;obtain⟨z,i,c,rfl,rfl,hz,he,q⟩:=h;obtain⟨t,rfl⟩:=rx;obtain⟨t',rfl⟩:=ry;obtain⟨j,h1,h2,h3,h4,h5⟩:=atI_get he;have hl:z.cps.toList.length=z.length:=by simp[Str.length]
 rw[hl] at h1 h4 h5;have hn:=line63;exact tail_any (typeIs_str s z t) slot_str_getitem.lookup (getItem_str (c:=c) (by
  have e1:decide (i < -(2^63:Int))=false:=Qw7 (by omega);have e2:decide (i ≥ 2^63)=false:=Qw7 (by omega);rw[e1,e2,Bool.or_false]) (by rw[h1];simpa using h2) ⟨.str ⟨#[c]⟩,H,I.tok _,⟨_,rfl⟩,q⟩) hs
def rIx(K:PySem.W.Frag):R2:=λx y H Q=>rIxL K x y H Q\/rIxT K x y H Q\/rIxS x y H Q
theorem ix_seq:IxR X (rIx X.K):=ix_list.or (ix_tup.or ix_str)
theorem mapSeq_set(its:List Value)(n j:Nat)(u:Value):Obj.mapSeq (·.setIfInBounds j u) { cls:=.type "list",data:=.seq its.toArray n } = { cls:=.type "list",data:=.seq (its.set j u).toArray n }:=by simp[Obj.mapSeq]
theorem Inv.lst{pins:List (Addr×Obj)}{σ:St}{H:Hp}{s:Shared}{p:Addr}{xs:List V}(I:Inv X pins σ H s)(h:H p=some (.lst xs)) :
  ∃(its:List Value) (n:Nat),Vals xs its/\s.heap.get? p=some { cls:=.type "list",data:=.seq its.toArray n }/\xs.length<=sizeLine:=by
 obtain⟨z,its,n,r,e⟩:=I.hok p _ h;exact⟨its,n,r,e,z⟩
theorem Inv.lstUpd{pins:List (Addr×Obj)}{σ:St}{H:Hp}{s:Shared}{p:Addr}{xs ys:List V}{its its':List Value}{n n':Nat}{f:Obj->Obj}(I:Inv X pins σ H s)(h:H p=some (.lst xs))
  (ho:s.heap.get? p=some { cls:=.type "list",data:=.seq its.toArray n }) (hf:f { cls:=.type "list",data:=.seq its.toArray n } = { cls:=.type "list",data:=.seq its'.toArray n' }) (r:Vals ys its') (hz:ys.length<=sizeLine) (t:Nat) :
  Inv X pins σ (upd H p (.lst ys)) { s with heap:=s.heap.update p f,toks:=t }:=by
 have e:(s.heap.update p f).get? p=some { cls:=.type "list",data:=.seq its'.toArray n' }:=by rw[Heap.get?_update_self f ho (by rw[hf]<;>rfl),hf]
 refine I.write (x:=p) (e:=p) (by rw[h];trivial) (.inl rfl) (λb u hb q=>(Heap.get?_update_other _ _ (Ne.symm hb)).trans q) ⟨_,e⟩ ?_;exact⟨hz,its',n',r,e⟩
def rSetL:V->V->V->Hp->(Hp->Prop)->Prop:=λo i v H Q=>∃p xs k j,o = .ref p/\i = .int k/\H p=some (.lst xs)/\ixN xs.length k=some j/\Q (upd H p (.lst (xs.set j v)))
theorem set_list:PSet X rSetL:=by
 intro pins s σ H o i v ov iv u Q I ro ri rv h;obtain⟨p,xs,k,j,rfl,rfl,hp,hj,q⟩:=h;cases ro;obtain⟨t,rfl⟩:=ri;obtain⟨its,n,r,ho,hz⟩:=I.lst hp;obtain⟨h1,h2,h3,h4⟩:=ixN_seq hj;have hl:=r.length;have hn:=line63;have I':Inv X pins σ (upd H p (.lst (xs.set j v))) { s with heap:=s.heap.update p (Obj.mapSeq (·.setIfInBounds j u)) }:=
  I.lstUpd hp ho (mapSeq_set its n j u) (r.set rv j) (by rw[Qx1];exact hz) s.toks
 by_cases h0:0<=k
 ·have hk:k.toNat=j:=by
   rw[seqIndex_of h0 h4] at h1;exact Qw1 h1
  exact PySem.W.ki_setAt ho h0 (by omega) (by rw[Qq1,<-hl];exact h4) (by rw[hk];exact⟨_,I',q⟩)
 ·have hk:(k+(its.toArray.size:Int)).toNat=j:=by
   rw[seqIndex_neg (by omega) h3] at h1;rw[Qq1,<-hl];exact Qw1 h1
  exact PySem.W.ki_setBack ho (by omega) (by rw[Qq1,<-hl];exact h3) (by omega) (by rw[hk];exact⟨_,I',q⟩)
theorem slice_bounds(lo hi:Option Int)(n:Nat):(sliceBounds lo hi none n).1=((HT.sIx n 0 lo:Nat):Int)/\(sliceBounds lo hi none n).2.1=((HT.sIx n n hi:Nat):Int)/\(sliceBounds lo hi none n).2.2=1:=by
 refine⟨?_,?_,rfl⟩
 ·cases lo with
  | none=>simp[sliceBounds,HT.sIx]
  | some i=>
   simp only[sliceBounds,HT.sIx,Option.getD_none,show(1:Int) > 0 by decide,if_true];by_cases h:i<0
   ·simp only[h,if_true]<;>omega
   ·simp only[h,if_false]<;>omega
 ·cases hi with
  | none=>simp[sliceBounds,HT.sIx]
  | some i=>
   simp only[sliceBounds,HT.sIx,Option.getD_none,show(1:Int) > 0 by decide,if_true];by_cases h:i<0
   ·simp only[h,if_true]<;>omega
   ·simp only[h,if_false]<;>omega
theorem slicePick_cut(its:List Value)(lo hi:Option Int):slicePick its.toArray lo hi none=((its.drop (HT.sIx its.length 0 lo)).take (HT.sIx its.length its.length hi - HT.sIx its.length 0 lo)).toArray:=by obtain⟨h1,h2,h3⟩:=slice_bounds lo hi its.toArray.size;unfold slicePick;rw[h1,h2,h3];simp only[sliceRange_one,pick_run,Qq1]<;>rfl
def rSlL(K:PySem.W.Frag):V->Option Int->Option Int->Hp->VK->Prop:=λx lo hi H Q=>∃a xs,x = .ref a/\SqL K H a xs/\∀p,H p=none->Q (.ref p) (upd H p (.lst (cutV xs lo hi)))
theorem sl_list:SlR X (rSlL X.K):=by intro pins s σ H x v vl vu lo hi sl Q I rx hs pl pu h;obtain⟨a,xs,rfl,hx,q⟩:=h;cases rx;obtain⟨its,r,ht,hz⟩:=I.list hx;have hlen:=r.length;refine⟨"list",_,slot_list_getitem.lookup,ht.isList.typeIs,?_⟩;refine wpAny_getItem_list_slice ht.isList hs pl pu .none (by simp) ?_ (by rw[Qq1]<;>omega);rw[slicePick_cut,<-hlen];refine⟨.ref s.heap.objs.size,_,I.laid (t':=s.toks) (o:=.lst (cutV xs lo hi)) (λb ob q=>Qqw _ q) (Qq0 _) ?_,rfl,q _ (I.hok.fresh (Qq0 _))⟩;exact⟨Qqy (cutV_length xs lo hi) hz,_,0,(r.drop (HT.sIx xs.length 0 lo)).take (HT.sIx xs.length xs.length hi - HT.sIx xs.length 0 lo),Qwv _ rfl⟩
theorem CallR.or{f:Value}{r r':List V->Hp->VK->Prop}(h:CallR X f r)(h':CallR X f r'):CallR X f (λxs H Q=>r xs H Q\/r' xs H Q):=by
 intro pins s σ H xs us Q I rs q;rcases q with q|q
 ·exact h pins s σ H xs us Q I rs q
 ·exact h' pins s σ H xs us Q I rs q
theorem call_list_of:CallR X (.type "list") (λxs H Q=>∃p ys,xs=[.ref p]/\(SqL X.K H p ys\/SqT X.K H p ys)/\∀l,H l=none->Q (.ref l) (upd H l (.lst ys))):=by
 intro pins s σ H xs us Q I r h;obtain⟨p,ys,rfl,hq,q⟩:=h;obtain⟨u,rfl,rx⟩:=vals1 r;cases rx;have fin:∀(its:List Value),Vals ys its->ys.length<=sizeLine->∀(h':Heap) (c':Nat),(∀b o',s.heap.get? b=some o'->h'.get? b=some o')->
   h'.get? s.heap.objs.size=some { cls:=.type "list",dict:=none,data:=.seq its.toArray c',slots:=#[] }->EP X pins σ Q (.ref s.heap.objs.size) { s with heap:=h' }:=λits r' hz h' c' kp e=>
  ⟨.ref s.heap.objs.size,_,I.laid (t':=s.toks) kp (Qq0 _) (show ObjOk X.prog X.w _ h' _ (.lst ys) from⟨hz,its,c',r',e⟩),rfl,q _ (I.hok.fresh (Qq0 _))⟩
 rcases hq with hq|hq
 ·obtain⟨its,r',pl,hz⟩:=I.list hq;have hlen:=r'.length;obtain⟨o,ho,hc,n,hd⟩:=pl.isList;exact call_list_seq p (.inl rfl) ho hc hd (λh' c' kp e=>fin its r' hz h' c' kp e) (by simp only[Qq1]<;>omega)
 ·obtain⟨its,r',pl,hz⟩:=I.tuple hq;have hlen:=r'.length;obtain⟨o,ho,hc,n,hd⟩:=pl;exact call_list_seq p (.inr rfl) ho hc hd (λh' c' kp e=>fin its r' hz h' c' kp e) (by simp only[Qq1]<;>omega)
theorem call_tuple_of:CallR X (.type "tuple") (λxs H Q=>∃p ys,xs=[.ref p]/\((SqL X.K H p ys/\∀l,H l=none->Q (.ref l) (upd H l (.tup ys)))\/(SqT X.K H p ys/\Q (.ref p) H))):=by
 intro pins s σ H xs us Q I r h;obtain⟨p,ys,rfl,h⟩:=h;obtain⟨u,rfl,rx⟩:=vals1 r;cases rx;rcases h with ⟨hq,q⟩|⟨hq,q⟩
 ·obtain⟨its,r',pl,hz⟩:=I.list hq;have hlen:=r'.length;refine call_tuple_list pl.isList (λh' kp=>?_) (by simp only[Qq1]<;>omega);have I1:Inv X pins σ H { s with heap:=h' }:=I.kept (t':=s.toks) kp;have I2:Inv X pins σ (upd H h'.objs.size (.tup ys)) { s with heap:=h'.push { cls:=.type "tuple",data:=.seq its.toArray } }:=
   I1.laid (t':=s.toks) (λb o e=>Qqw _ e) (Qq0 _) (show ObjOk X.prog X.w _ _ _ (.tup ys) from⟨hz,its,r',TupD.new _ _⟩)
  exact⟨.ref h'.objs.size,_,I2,rfl,q _ (I1.hok.fresh (Qq0 _))⟩
 ·obtain⟨its,r',pl,hz⟩:=I.tuple hq;exact call_tuple_same pl ⟨.ref p,H,I,rfl,q⟩
def tyV(K:PySem.W.Frag)(T:String)(x:V)(H:Hp):Prop:=match x with
 | .str _=>T = "str"
 | .int _=>T = "int"
 | .ref p=>(T = "list"/\∃xs,SqL K H p xs)\/(T = "tuple"/\∃o,K.lookup p=some o/\o.cls = .type "tuple"/\o.dict=none)\/
   (T = "dict"/\((∃kvs,H p=some (.dK kvs))\/∃kvs,H p=some (.dT kvs)))\/(T = "set"/\∃S n,H p=some (.set S n))
 | _=>False
theorem tyV_is{pins:List (Addr×Obj)}{σ:St}{H:Hp}{s:Shared}{T:String}{x:V}{v:Value}(I:Inv X pins σ H s)(r:RelV x v)(ty:tyV X.K T x H) :
  s.TypeIs v T/\∀a,v = .ref a->∃ob,s.heap.get? a=some ob/\ob.dict=none:=by
 cases x with
 | str z=>
  obtain⟨t,rfl⟩:=r;cases(show T = "str" from ty);exact⟨typeIs_str s z t,λ_ e=>nomatch e⟩
 | int i=>
  obtain⟨t,rfl⟩:=r;cases(show T = "int" from ty);exact⟨typeIs_int s i t,λ_ e=>nomatch e⟩
 | ref p=>
  cases r;rcases ty with ⟨rfl,xs,hq⟩|⟨rfl,o,hk,hc,hd⟩|⟨rfl,hk⟩|⟨rfl,S,n,hk⟩
  ·obtain⟨its,_,pl,_⟩:=I.list hq;refine⟨pl.isList.typeIs,λa e=>?_⟩;cases e;obtain⟨o,n,e,c,hd,_⟩:=pl;exact⟨o,e,hd⟩
  ·refine⟨⟨o,I.kIn p o hk,hc⟩,λa e=>?_⟩;cases e;exact⟨o,I.kIn _ o hk,hd⟩
  ·have z:∃o,s.heap.get? p=some o/\o.ExactDict:=by
    rcases hk with ⟨kvs,hk⟩|⟨kvs,hk⟩
    ·obtain⟨_,_,_,_,o,_,_,e,ex,_⟩:=I.hok p _ hk;exact⟨o,e,ex⟩
    ·obtain⟨_,_,_,_,o,_,_,e,ex,_⟩:=I.hok p _ hk;exact⟨o,e,ex⟩
   obtain⟨o,e,ex⟩:=z;refine⟨⟨o,e,ex.1⟩,λa e2=>?_⟩;cases e2;exact⟨o,e,ex.2.1⟩
  ·obtain⟨o,_,_,_,e,ex,_⟩:=I.hok p _ hk;refine⟨⟨o,e,ex.1⟩,λa e2=>?_⟩;cases e2;exact⟨o,e,ex.2.1⟩
 | _=>exact False.elim ty
def tBM(K:PySem.W.Frag)(T:String)(r:V->List V->Hp->VK->Prop)(to:TE)(t:TA):TE:=λσ H Q=>to σ H λx H1=>tyV K T x H1/\t σ H1 λxs H2=>r x xs H2 Q
variable{o e:Expr}{es:List Expr}{to:TE}{t:TA}{name:Str}{apos cpos:Pos}{T id:String}{r:V->List V->Hp->VK->Prop}
theorem pe_bm(pa:PlainAttrs T)(slot:Slot T name id)(hty:typeOf (.builtin id)=pure (.type "method_descriptor"))(hm:MtR X id r)(ho:PE X o to)(ha:PA X (e::es) t)
  (hbase:attributeBase o name X.env (eval o X.env)=eval o X.env:=by rfl)
  (hfew:((backTo cpos (starEach (e::es) X.env)).all (λx=>!x.1)&&(backToKw cpos (keywordEach [] X.env)).all (λx=>x.1.isSome)
   && decide ((e::es).length+([]:List Keyword).length+(if ([]:List Keyword).isEmpty then 0 else 1)<30))=true:=by rfl)
  (hline:(apos.endLine == cpos.line)=true:=by rfl) (hs:starEach (e::es) X.env=(false,eval e X.env)::starEach es X.env:=by rfl) (hplain:(backTo cpos (starEach es X.env)).any (·.1)=false:=by rfl) :
  PE X (.Call (.Attribute o name apos) (e::es) [] cpos) (tBM X.K T r to t):=by
 intro pins s σ H Q I h;refine wpAny_Call_method_late hbase hfew hline rfl (thn (ho pins s σ H _ I h) λv s1 ⟨x,H1,I1,r1,ty,q1⟩=>?_);obtain⟨h1,h2⟩:=tyV_is I1 r1 ty;refine⟨T,id,pa,slot,hty,h1,h2,?_⟩;have hA:=ha cpos pins s1 σ H1 _ I1 q1;rw[hs] at hA ⊢;refine Calls.callWith_builtin (by show(false||(backTo cpos (starEach es X.env)).any (·.1))=false;rw[hplain]<;>rfl) (Calls.evalArgs_plain ?_);exact thn hA λus s2 ⟨vs,H2,I2,r2,q2⟩=>hm pins s2 σ H2 x vs v us Q I2 r1 r2 q2
end
def MtM(X:Cx)(id:String)(r:V->List V->Hp->VK->Prop):Prop:=
 ∀(pins:List (Addr×Obj)) (s:Shared) (σ:St) (H:Hp) (x:V) (xs:List V) (v:Value) (us:List Value) (Q:VK),Inv X pins σ H s->RelV x v->Vals xs us->r x xs H Q->
  wpAny (model X.prog X.w) X.A (call (.builtin id) (v::us)) (EP X pins σ Q) X.xe s
theorem Vals.one:∀{x:V} {us:List Value},Vals [x] us->∃u,us=[u]/\RelV x u
 | _,_,.cons r .nil=>⟨_,rfl,r⟩
theorem Vals.two:∀{x y:V} {us:List Value},Vals [x,y] us->∃u v,us=[u,v]/\RelV x u/\RelV y v
 | _,_,_,.cons r (.cons q .nil)=>⟨_,_,rfl,r,q⟩
section
variable{X:Cx}{pins:List (Addr×Obj)}{σ:St}{H:Hp}{s:Shared}{l b:Addr}{xs ys zs:List V}
theorem Inv.lset{its its':List Value}{n:Nat}{f:Array Value->Array Value}{t':Nat}(I:Inv X pins σ H s)(hH:H l=some (.lst xs))
  (e:s.heap.get? l=some { cls:=.type "list",data:=.seq its.toArray n }) (hf:f its.toArray=its'.toArray) (hv:Vals ys its') (hz:ys.length<=sizeLine) :
  Inv X pins σ (upd H l (.lst ys)) { s with heap:=s.heap.update l (Obj.mapSeq f),toks:=t' }:=by
 have q:=PySem.IsL.update e f;rw[hf] at q;refine I.write (x:=l) (e:=l) (by rw[hH];exact trivial) (.inl rfl) (λb' u hb hu=>(Heap.get?_update_other s.heap (Obj.mapSeq f) (Ne.symm hb)).trans hu) ⟨_,q⟩ ?_;exact⟨hz,its',_,hv,q⟩
theorem Inv.lnew{its:List Value}{t':Nat}(I:Inv X pins σ H s)(hv:Vals ys its)(hz:ys.length<=sizeLine) :
  Inv X pins σ (upd H s.heap.objs.size (.lst ys)) { s with heap:=s.heap.push { cls:=.type "list",data:=.seq its.toArray },toks:=t' }:=
 I.laid (λ_ _ q=>Qqw _ q) (Qq0 _) ⟨hz,its,0,hv,Qwv _ rfl⟩
theorem Inv.fresh(I:Inv X pins σ H s):H s.heap.objs.size=none:=I.hok.fresh (Qq0 _)
theorem Inv.lstM(I:Inv X pins σ H s)(hH:H l=some (.lst xs)):xs.length<=sizeLine/\∃(its:List Value) (n:Nat),Vals xs its/\xs.length=its.length/\s.heap.get? l=some { cls:=.type "list",data:=.seq its.toArray n }:=by obtain⟨z,its,n,r,e⟩:=I.hok l _ hH;exact⟨z,its,n,r,r.length,e⟩
theorem notLongL{n:Nat}(h:n<=sizeLine):Builtin.List.listTooLong n=false:=by unfold Builtin.List.listTooLong;exact Qw7 (by omega)
end
section
variable{X:Cx}{prog:Program}{w:World}{A:Around}{E:Value->Shared->Prop}{s:Shared}
def rAppend:V->List V->Hp->VK->Prop:=λx vs H Q=>∃l xs y,x = .ref l/\vs=[y]/\H l=some (.lst xs)/\xs.length<sizeLine/\Q .non (upd H l (.lst (xs++[y])))
theorem mt_append:MtM X "list.append" rAppend:=by intro pins s σ H x vs v us Q I rx rv h;obtain⟨l,xs,y,rfl,rfl,hH,hz,q⟩:=h;cases rx;obtain⟨u,rfl,ru⟩:=rv.one;obtain⟨z,its,n,r,hl,e⟩:=I.lstM hH;refine call_meets F.slot_list_append ⟨_,e,rfl⟩ F.entry_list_append (F.args_list_append_2 _ _) (PySem.list_append l its.toArray n u (by rw[Qq1];omega)) ⟨e,?_⟩;refine⟨.non,_,I.lset (its':=its++[u]) hH e (by simp) (r.append (.cons ru .nil)) ?_,rfl,q⟩;rw[Qqq,Qwq];omega
def rCat:R2:=λx y H Q=>∃l b xs zs,x = .ref l/\y = .ref b/\H l=some (.lst xs)/\H b=some (.lst zs)/\xs.length+zs.length<=sizeLine/\∀p,H p=none->Q (.ref p) (upd H p (.lst (xs++zs)))
theorem op_cat:OpR X (binaryOp .Add) rCat:=by
 intro pins s σ H x y v u Q I rx ry h;obtain⟨l,b,xs,zs,rfl,rfl,hH,hB,hz,q⟩:=h;cases rx;cases ry;obtain⟨z,its,n,r,hl,e⟩:=I.lstM hH;obtain⟨z2,its2,n2,r2,hl2,e2⟩:=I.lstM hB;refine PySem.P.add_list e e2 ?_ (by rw[Qq1,Qq1];omega);have ea:its.toArray++its2.toArray=(its++its2).toArray:=by simp
 rw[ea];exact⟨.ref _,_,I.lnew (t':=s.toks) (r.append r2) (by rw[Qqq];omega),rfl,q _ I.fresh⟩
set_option maxRecDepth 100000 in
end
end L2
namespace Att
open PySem PySem.W PySem.Calls PyProof.Rows
theorem ints_of_wellAll{P:Params}{h:Heap}:∀(ns:List Int) (vs:List Value),WellAll P h vs (ns.map WData.int)->IntsAre vs ns:=by
 intro ns
 induction ns with
 | nil=>
  intro vs w;rw[List.map_nil] at w;cases w;exact .nil
 | cons n ns ih=>
  intro vs w;rw[Qwz] at w;cases w with
  | cons a b=>
   cases a;exact .cons _ _ (ih _ b)
theorem script_of{l:OpenLaw}{n:Nat}(hn:l.most=some n){P:Params}{h:Heap}{args:List WData}{vals:List Value}
  (hpre:l.row.toRowW.claim.pre args=true) (hwl:WellAll P h vals args) :
  ∃a vs ns,vals=[Value.ref a]/\args=[WData.list (ns.map WData.int)]/\h.get? a=some { cls:=.type "list",data:=.seq vs.toArray }/\IntsAre vs ns/\ns.length<=n:=by
 have hsh:WShape.hasAll [] args [.list .int]=true:=(pre_splitW hpre).1;have hc:l.pre.holds [] { args:=args }=true:=(pre_splitW hpre).2;obtain⟨d,r,rfl,h1,h2⟩:=hasAllW_cons hsh;obtain rfl:=hasAllW_nil h2;obtain⟨xs,rfl,h3⟩:=hasW_list h1;obtain⟨ns,rfl⟩:=items_int h3;have hlen:ns.length<=n:=by
  unfold OpenLaw.pre at hc;have h4:(WTm.not (.lt (.lit (.int (n:Int))) (.len (.arg 0)))).holds [] { args:=[.list (ns.map .int)] }=true:=by have h4:=(holds_andW hc).1;rw[hn] at h4;exact h4
  have h5:=condW_of h4 (w_not (w_lt w_lit (w_len_list (w_arg rfl))));rw[Qqx] at h5;refine Nat.le_of_not_lt λq=>?_;have q':(n:Int)<((ns.length:Nat):Int):=by omega
  first
   | (rw[Qw9 q'] at h5;exact absurd h5 (by decide))
   | (simp at h5;omega)
 cases hwl with
 | cons w1 w2=>
  cases w2;cases w1 with
  | list ho hall=>exact⟨_,_,ns,rfl,rfl,ho,ints_of_wellAll ns _ hall,hlen⟩
theorem post_true(l:OpenLaw)(args:List WData):l.row.toRowW.claim.post args (.bool true) args=true:=
 postW_of (r:=l.row.toRowW) (X:=(true == true))
  (show WShape.has [] (.bool true) .bool=true by first|rfl|decide|simp[WShape.has,WShape.arms,WShape.armsAll])
  (show(WTm.eq .res (.lit (.bool true))).value [] { args:=args,res:=some (.bool true),after:=args }=some (.bool (true == true)) from w_eq_bool (w_res rfl) w_lit) rfl
end Att
namespace L2
open PySem PySem.Spec PyProof.Rows
theorem vals_ints:∀{vs:List Value} {ns:List Int},IntsAre vs ns->Vals (ns.map V.int) vs
 | _,_,.nil=>.nil
 | _,_,.cons n t h=>.cons ⟨t,rfl⟩ (vals_ints h)
def Only(H:Hp):Prop:=∀b,H b=none\/∃o xs,H b=some (.frz o (.lst xs))
theorem law_call{P:Program}{w:World}{K:PySem.W.Frag}{mg mb:Str->Option Value}{CX:CXT}{k:Nat}{fa a:Addr}{fd:FuncData}{x:Str}{sp:Sp}{s₁:Shared}{vs:List Value}{ns:List Int}
  (KX:K.In s₁.heap) (hns:s₁.heap.Ns mainGlobals mg) (hb:s₁.heap.Ns builtinsNs mb) (hbb:∀x:Str,x ≠ "__name__"->mb x=bootBuiltins x) (hlim:s₁.heap.NoLimit) (hg:s₁.gens = #[])
  (ha:s₁.heap.get? a=some { cls:=.type "list",data:=.seq vs.toArray }) (hi:IntsAre vs ns) (hl:ns.length<=sizeLine) (hr:Room k callerA)
  (F:∀base:Heap,K.In base->base.Ns mainGlobals mg->FnOk P w K mg base CX k fa fd [x] sp) (hbind:∀(s:Shared) (u:Value),BindsTo s fd ⟨[u],[]⟩ [(x,u)])
  (hsp:∀H:Hp,Only H->SqL K H a (ns.map V.int)->sp [.ref a] H (λv _=>v = .bl true) λ_ _ _=>False)
  (hCX:∀H e s',CX [] H s₁ (λ_ _ _=>False) e s'->False) :
  codeAny (model P w) callerA (.call (.ref fa) ⟨[.ref a],[]⟩) (λr s'=>r = .ok (.ret (.bool true))/\OldK s₁.heap s'.heap/\s'.os=s₁.os/\AllBare s'.gens) s₁:=by
 have rv:=vals_ints hi;have lenV:=hi.length
 -- from an abstract heap in which nothing but the script may be tracked
 have core:∀H:Hp,Only H->SqL K H a (ns.map V.int)->HOk P w H s₁.heap->(∀b,H b≠none->b=a)->(H a≠none->K.lookup a=none)->
   codeAny (model P w) callerA (.call (.ref fa) ⟨[.ref a],[]⟩) (λr s'=>r = .ok (.ret (.bool true))/\OldK s₁.heap s'.heap/\s'.os=s₁.os/\AllBare s'.gens) s₁:=by
  intro H hO hS hok hA hK;have base_of:∀{b:Addr} {o:Obj},s₁.heap.get? b=some o->H b=none->(hidT s₁.heap H).get? b=some o:=λe n=>hidT_get e n;have noA:∀{b:Addr} {o:Obj} {es:Array DictEntry} {ep:Nat},s₁.heap.get? b=some o->o.data = .dict es ep->H b=none:=λ{b o es ep} e d=>by
   cases q:H b with
   | none=>rfl
   | some u=>
    have e':b=a:=hA b (by rw[q];simp);subst e';rw[ha] at e;cases e;have d':Data.seq vs.toArray _=Data.dict es ep:=d;cases d'
  have nsK:∀{b:Addr} {m:Str->Option Value},s₁.heap.Ns b m->(hidT s₁.heap H).Ns b m:=λ{b m} ⟨o,es,ep,e,d,r⟩=>⟨o,es,ep,base_of e (noA e d),d,r⟩;have hKb:K.In (hidT s₁.heap H):=λb o e=>base_of (KX b o e) (by
   cases q:H b with
   | none=>rfl
   | some u=>
    have e':b=a:=hA b (by rw[q];simp);subst e';rw[hK (by rw[q];simp)] at e;cases e)
  have hM:Mod K mg (hidT s₁.heap H):=⟨hKb,nsK hns,⟨mb,nsK hb,hbb⟩,let ⟨mc,h1,h2⟩:=hlim;⟨mc,nsK h1,h2⟩⟩;have e0:Env0 P w K mg (hidT s₁.heap H) callerA [] s₁ H:=⟨rfl,hM,λb o e=>of_hidT e,Nat.le_of_eq (hidT_size _ _),trivial,λb hb=>absurd (show b∈([]:List Addr) from hb) (by simp),hok,.of_eq hg⟩;refine codeAny_mono ((F _ hKb (nsK hns)).run callerA [] s₁ H ⟨[.ref a],[]⟩ [.ref a] [.ref a] _ _ hr e0 (hbind s₁ (.ref a)) (.cons rfl .nil) (hsp H hO hS)) λr s' h=>?_;cases r with
  | error e=>exact(hCX H e s' h).elim
  | ok fl=>
   cases fl with
   | next=>exact False.elim h
   | brk=>exact False.elim h
   | cont=>exact False.elim h
   | ret u=>
    obtain⟨v,H',os,bare,un,hok',r',q⟩:=h;have q':v = .bl true:=q;subst q';obtain rfl:u=Value.bool true:=r';refine⟨rfl,OldK.of_keep λb o e=>?_,os,bare⟩;cases q:H b with
    | none=>exact un.keep b o e q (by intro z;exact absurd (show b∈([]:List Addr) from z) (by simp)) (by simp)
    | some u=>
     rcases hO b with z|⟨ob,xs,z⟩
     ·rw[q] at z;cases z
     ·have z2:=un.frzs b ob _ z;obtain⟨e1,_⟩:=hok b _ z;obtain⟨e2,_⟩:=hok' b _ z2;rw[e] at e1;cases e1;exact e2
 cases hk:K.lookup a with
 | some o=>
  -- the script is one of the module's own objects
  have e:=KX a o hk;rw[ha] at e;cases e;refine core (λ_=>none) (λ_=>.inl rfl) (.inr ⟨_,vs.toArray,_,hk,rfl,rfl,rfl,by rw[Qq1,lenV];exact hl,by simpa using rv⟩) (λb u z=>by have z':(none:Option HO)=some u:=z;cases z') (λb z=>absurd rfl z) λz=>absurd rfl z
 | none=>
  refine core (λb=>if b=a then some (.frz { cls:=.type "list",data:=.seq vs.toArray } (.lst (ns.map V.int))) else none) (λb=>?_) (.inl (.inr ⟨{ cls:=.type "list",data:=.seq vs.toArray },if_pos rfl⟩)) (λb u z=>?_) (λb z=>?_) λ_=>hk
  ·by_cases hb:b=a
   ·exact .inr ⟨_,_,if_pos hb⟩
   ·exact .inl (if_neg hb)
  ·by_cases hb:b=a
   ·have z':=(if_pos hb).symm.trans z;cases z';subst hb;exact⟨ha,by rw[Qqx];exact hl,vs,_,rv,ha⟩
   ·have z':=(if_neg hb).symm.trans z;cases z'
  ·by_cases hb:b=a
   ·exact hb
   ·exact absurd (if_neg hb) z
def defArgs(s:Stmt):Arguments:=match s with
 | .FunctionDef _ a _ _ _ _ _ _ _ _=>a
 | _=>{ posonlyargs:=[],args:=[],vararg:=none,kwonlyargs:=[],kw_defaults:=[],kwarg:=none,defaults:=[] }
def defBody(s:Stmt):List Stmt:=match s with
 | .FunctionDef _ _ b _ _ _ _ _ _ _=>b
 | _=>[]
def aL(s:Stmt):Scope:=match s with
 | .FunctionDef _ _ _ _ _ _ sc _ _ _=>sc
 | _=>{ kind:=.function,names:=[],isGenerator:=false,isCoroutine:=false }
abbrev CX0:CXT:=λ_ _ _ _ _ _=>False
abbrev E0:XK:=λ_ _ _=>False
theorem pass0{X:Cx}:Passes CX0 X E0:=λ_ _ _ _ _ _ _ h=>h.elim
structure Fun(K:PySem.W.Frag)(x qual:Str)(st:Stmt)(f:Addr)(fd:FuncData):Prop where
 ex:∃(oc:Value) (od:Option Addr) (kV doc pm:Value) (an:Option Addr) (cdv ct:Value) (osl:Array (Option Value)),
  fd=PySem.W.fnOf x qual (defArgs st) (defBody st) (aL st) .none kV doc pm an cdv ct/\K.lookup f=some ⟨oc,od,.func fd,osl⟩/\PySem.W.codeIn K cdv qual=true
 kp:PySem.W.keepIn K (.ref f)=true
section
variable{P:Program}{w:World}{K:PySem.W.Frag}{mg:Str->Option Value}{base:Heap}
theorem Fun.ok{x qual:Str}{st:Stmt}{f:Addr}{fd:FuncData}{N ps:List Str}{k:Nat}{sp:Sp}(F:Fun K x qual st f fd)(S:bj N ps (aL st))(len:∀vs H Q E,sp vs H Q E->vs.length=ps.length)
  (hbody:∀(cdv:Value) (A:Around) (outer:List Env) (s:Shared) (H:Hp) (vs:List V) (Q:VK) (E:XK),Room k (A.deeper (envOfC qual (aL st) s.heap.objs.size f cdv))->sp vs H Q E->
   ∃t,PSs (cxOf CX0 P w K mg base N qual (aL st) f cdv A outer s H E).nox (defBody st) t/\t { nx:=λ_ H'=>Q .non H',rt:=Q } (start N vs) H):FnOk P w K mg base CX0 (k+1) f fd ps sp:=by
 obtain⟨oc,od,kV,doc,pm,an,cdv,ct,osl,rfl,lk,hcd⟩:=F.ex;refine fn_of lk hcd S len λA outer s H vs Q E hr hsp=>?_;obtain⟨t,h,q⟩:=hbody cdv A outer s H vs Q E hr hsp;exact⟨t,h.nox,q⟩
theorem Fun.binds{x qual:Str}{st:Stmt}{f:Addr}{fd:FuncData}{ps:List Str}(F:Fun K x qual st f fd)
  (h:∀(kV doc pm:Value) (an:Option Addr) (cdv ct:Value) (us:List Value),us.length=ps.length->bindArgs (PySem.W.fnOf x qual (defArgs st) (defBody st) (aL st) .none kV doc pm an cdv ct) ⟨us,[]⟩=pure (ps.zip us)):Binds K fd ps []:=by
 obtain⟨oc,od,kV,doc,pm,an,cdv,ct,osl,rfl,lk,hcd⟩:=F.ex;exact .all (h kV doc pm an cdv ct)
theorem fun_mk{x qual:Str}{st:Stmt}{f:Addr}{oc:Value}{od an:Option Addr}{osl:Array (Option Value)}{kV doc pm cdv ct:Value}(l:K.lookup f=some ⟨oc,od,.func (PySem.W.fnOf x qual (defArgs st) (defBody st) (aL st) .none kV doc pm an cdv ct),osl⟩)
  (c:PySem.W.codeIn K cdv qual=true) (k:PySem.W.keepIn K (.ref f)=true):Fun K x qual st f (PySem.W.fnOf x qual (defArgs st) (defBody st) (aL st) .none kV doc pm an cdv ct):=⟨⟨oc,od,kV,doc,pm,an,cdv,ct,osl,rfl,l,c⟩,k⟩
end
theorem iteF{A B:Prop}(h:B):if false=true then A else B:=by rw[if_neg Qw8];exact h
theorem iteT{A B:Prop}(h:A):if true=true then A else B:=by rw[if_pos rfl];exact h
def bu(H H':Hp):Prop:=∀b o,H b=some o->H' b=some o
theorem bu.refl(H:Hp):bu H H:=λ_ _ h=>h
theorem bu.trans{H H1 H2:Hp}(a:bu H H1)(b:bu H1 H2):bu H H2:=λc o h=>b c o (a c o h)
theorem bu.free{H H':Hp}(e:bu H H'){l:Addr}(h:H' l=Option.none):H l=Option.none:=by
 cases q:H l with
 | none=>rfl
 | some o=>
  rw[e l o q] at h;cases h
theorem bu.seq{K:PySem.W.Frag}{H H':Hp}{a:Addr}{xs:List V}(e:bu H H')(h:SqL K H a xs):SqL K H' a xs:=by
 rcases h with (h|⟨o,h⟩)|h
 ·exact .inl (.inl (e _ _ h))
 ·exact .inl (.inr ⟨o,e _ _ h⟩)
 ·exact .inr h
section
variable{κ:Type}[DecidableEq κ]
def valV(kvs:List (κ×V))(k:κ):Option V:=(kvs.find? λkv=>decide (kv.1=k)).map (·.2)
def putK(kvs:List (κ×V))(k:κ)(v:V):List (κ×V):=
 if (kvs.any λkv=>decide (kv.1=k))=true then kvs.map (λkv=>if kv.1=k then (kv.1,v) else kv) else kvs++[(k,v)]
theorem valV_pos{p:κ×V}{r:List (κ×V)}{k:κ}(e:p.1=k):valV (p::r) k=some p.2:=by simp[valV,Qj2,e]
theorem valV_neg{p:κ×V}{r:List (κ×V)}{k:κ}(e:¬p.1=k):valV (p::r) k=valV r k:=by simp[valV,Qj2,e]
theorem valV_any(k:κ):∀kvs:List (κ×V),(kvs.any λkv=>decide (kv.1=k))=(valV kvs k).isSome
 | []=>rfl
 | p::r=>by
  rw[List.any_cons];by_cases e:p.1=k
  ·simp only[valV_pos e,Qw9 e,Bool.true_or,Option.isSome_some]
  ·rw[valV_neg e,Qw7 e,Bool.false_or];exact valV_any k r
theorem length_putK(kvs:List (κ×V))(k:κ)(v:V):(putK kvs k v).length<=kvs.length+1:=by
 unfold putK;split
 ·rw[Qqx];omega
 ·rw[Qqq,Qqk,List.length_nil];omega
theorem RelO.isSome_eq{o:Option V}{u:Option Value}(r:RelO o u):o.isSome=u.isSome:=by
 cases o with
 | none=>cases u with
  | none=>rfl
  | some _=>exact(show False from r).elim
 | some _=>cases u with
  | none=>exact(show False from r).elim
  | some _=>rfl
theorem KV.val{kvs:List (κ×V)}{vs:List (κ×Value)}(r:KV kvs vs)(k:κ):RelO (valV kvs k) (valueAt vs k):=by
 unfold KV at r
 induction r with
 | nil=>exact True.intro
 | @cons p q ps qs h t ih=>
  obtain⟨h1,h2⟩:=h;by_cases e:p.1=k
  ·have e':q.1=k:=h1.symm.trans e;have b:valueAt (q::qs) k=some q.2:=by simp[valueAt,Qj2,e']
   rw[valV_pos e,b];exact h2
  ·have e':¬q.1=k:=λz=>e (h1.trans z);have b:valueAt (q::qs) k=valueAt qs k:=by simp[valueAt,Qj2,e']
   rw[valV_neg e,b];exact ih
theorem KV.any{kvs:List (κ×V)}{vs:List (κ×Value)}(r:KV kvs vs)(k:κ):(kvs.any λkv=>decide (kv.1=k))=vs.any λkv=>decide (kv.1=k):=by
 unfold KV at r
 induction r with
 | nil=>rfl
 | cons h t ih=>rw[List.any_cons,List.any_cons,ih,h.1]
theorem KV.repl{kvs:List (κ×V)}{vs:List (κ×Value)}(r:KV kvs vs)(k:κ){y:V}{u:Value}(ry:RelV y u) :
  KV (kvs.map λkv=>if kv.1=k then (kv.1,y) else kv) (vs.map λkv=>if kv.1=k then (kv.1,u) else kv):=by
 unfold KV at r ⊢
 induction r with
 | nil=>exact .nil
 | @cons p q ps qs h t ih=>
  rw[Qwz,Qwz];refine .cons ?_ ih;obtain⟨h1,h2⟩:=h;by_cases e:p.1=k
  ·rw[if_pos e,if_pos (h1.symm.trans e)];exact⟨h1,ry⟩
  ·rw[if_neg e,if_neg (λz=>e (h1.trans z))];exact⟨h1,h2⟩
theorem KV.put{kvs:List (κ×V)}{vs:List (κ×Value)}(r:KV kvs vs)(k:κ){y:V}{u:Value}(ry:RelV y u):KV (putK kvs k y) (stored vs k u):=by
 unfold putK stored;rw[r.any k];by_cases e:(vs.any λkv=>decide (kv.1=k))=true
 ·rw[if_pos e,if_pos e];exact r.repl k ry
 ·rw[if_neg e,if_neg e];exact Paired.snoc r ⟨rfl,ry⟩
theorem KV.keys{kvs:List (κ×V)}{vs:List (κ×Value)}(r:KV kvs vs):kvs.map (·.1)=vs.map (·.1):=by
 unfold KV at r
 induction r with
 | nil=>rfl
 | cons h t ih=>rw[Qwz,Qwz,ih,h.1]
theorem KV.length{kvs:List (κ×V)}{vs:List (κ×Value)}(r:KV kvs vs):kvs.length=vs.length:=Paired.length r
end
theorem kV_is{P:Program}{w:World}{k:Key}{u:Value}(r:RelV (kV k) u):(mixKind P w).is k u=true:=by
 cases k with
 | inl i=>obtain⟨t,e⟩:=(show ∃t,u=Value.int i t from r);subst e;exact mixKind_int P w i t
 | inr x=>obtain⟨t,e⟩:=(show ∃t,u=Value.str x t from r);subst e;exact mixKind_str P w x t
theorem items_are{P:Program}{w:World}:∀{ks:List Key} {us:List Value},Vals (ks.map kV) us->ItemsAre (mixKind P w) ks us
 | [],_,r=>by rw[List.map_nil] at r;cases r;exact .nil
 | k::ks,_,r=>by
  rw[Qwz] at r;cases r with
  | cons h t=>exact .cons (kV_is h) (items_are t)
abbrev KT(H:Hp):List (List Key×V)->List (List Key×Addr×Value)->Prop:=Paired λp q=>p.1=q.1/\H q.2.1=some (.tup (p.1.map kV))/\RelV p.2 q.2.2
theorem KT.val{H:Hp}{kvs:List (List Key×V)}{xs:List (List Key×Addr×Value)}(r:KT H kvs xs)(k:List Key):RelO (valV kvs k) ((atKey xs k).map (·.2)):=by
 induction r with
 | nil=>exact True.intro
 | @cons p q ps qs h t ih=>
  obtain⟨h1,_,h2⟩:=h;by_cases e:p.1=k
  ·have e':q.1=k:=h1.symm.trans e;have b:atKey (q::qs) k=some q.2:=by simp[atKey,Qj2,e']
   rw[valV_pos e,b];exact h2
  ·have e':¬q.1=k:=λz=>e (h1.trans z);have b:atKey (q::qs) k=atKey qs k:=by simp[atKey,Qj2,e']
   rw[valV_neg e,b];exact ih
theorem KT.repl{H:Hp}{kvs:List (List Key×V)}{xs:List (List Key×Addr×Value)}(r:KT H kvs xs)(k:List Key){y:V}{u:Value}(ry:RelV y u) :
  KT H (kvs.map λkv=>if kv.1=k then (kv.1,y) else kv) (xs.map (putAt k u)):=by
 induction r with
 | nil=>exact .nil
 | @cons p q ps qs h t ih=>
  rw[Qwz,Qwz];refine .cons ?_ ih;obtain⟨h1,h2,h3⟩:=h;unfold putAt;by_cases e:p.1=k
  ·rw[if_pos e,if_pos (h1.symm.trans e)];exact⟨h1,h2,ry⟩
  ·rw[if_neg e,if_neg (λz=>e (h1.trans z))];exact⟨h1,h2,h3⟩
theorem KT.put{H:Hp}{kvs:List (List Key×V)}{xs:List (List Key×Addr×Value)}(r:KT H kvs xs)(k:List Key){b:Addr}{y:V}{u:Value}(hb:H b=some (.tup (k.map kV)))(ry:RelV y u) :
  KT H (putK kvs k y) (storedH xs k b u):=by
 have e:(kvs.any λkv=>decide (kv.1=k))=(atKey xs k).isSome:=by rw[valV_any,(r.val k).isSome_eq,Option.isSome_map]
 unfold putK storedH;rw[e];by_cases q:(atKey xs k).isSome=true
 ·rw[if_pos q,if_pos q];exact r.repl k ry
 ·rw[if_neg q,if_neg q];exact Paired.snoc r ⟨rfl,hb,ry⟩
theorem KT.keeps{H H':Hp}{kvs:List (List Key×V)}{xs:List (List Key×Addr×Value)}(r:KT H kvs xs)(ht:∀b ys,H b=some (.tup ys)->H' b=some (.tup ys)):KT H' kvs xs:=
 Paired.mapP r λ_ _ z=>⟨z.1,ht _ _ z.2.1,z.2.2⟩
section
variable{P:Program}{w:World}{H:Hp}{h:Heap}{a:Addr}
theorem rd_of{u:HO}(ok:HOk P w H h)(e:Rd H a u):ObjOk P w H h a u:=e.ok ok
theorem dk_rd{kvs:List (Key×V)}(ok:HOk P w H h)(e:Rd H a (.dK kvs)):kvs.length<=sizeLine/\(a == sysModules)=false/\∃vs,KV kvs vs/\h.DictOf (mixKind P w) a vs:=
 show ObjOk P w H h a (.dK kvs) from rd_of ok e
theorem dk_of{kvs:List (Key×V)}(ok:HOk P w H h)(e:H a=some (.dK kvs)):kvs.length<=sizeLine/\(a == sysModules)=false/\∃vs,KV kvs vs/\h.DictOf (mixKind P w) a vs:=dk_rd ok (.inl e)
theorem key_of{ks:List Key}(ok:HOk P w H h)(e:H a=some (.tup (ks.map kV))):(tupleKind (mixKind P w)).is h ks a:=by obtain⟨_,its,r,o,h1,h2,⟨n,h3⟩,_⟩:=(show ObjOk P w H h a (.tup (ks.map kV)) from ok a _ e);exact⟨o,its.toArray,n,h1,h2,h3,by simpa using items_are r⟩
theorem dt_rd{kvs:List (List Key×V)}(ok:HOk P w H h)(e:Rd H a (.dT kvs)):kvs.length<=sizeLine/\(a == sysModules)=false/\
  ∃xs,KT H kvs xs/\h.DictOfH (tupleKind (mixKind P w)) a xs:=by
 obtain⟨z,y,xs,r,o,es,ep,h1,h2,h3,h4,h5⟩:=(show ObjOk P w H h a (.dT kvs) from rd_of ok e);refine⟨z,y,xs,r,o,es,ep,h1,h2,h3,h4,λx hx=>?_,h5⟩;have all:∀{l:List (List Key×V)} {m:List (List Key×Addr×Value)},KT H l m->∀x∈m,(tupleKind (mixKind P w)).is h x.1 x.2.1:=by
  intro l m q
  induction q with
  | nil=>intro x hx;exact nomatch hx
  | @cons p q ps qs hq t ih=>
   intro x hx;rcases Qq3.mp hx with e|hx
   ·subst e;exact key_of ok (by rw[<-hq.1];exact hq.2.1)
   ·exact ih x hx
 exact all r x hx
theorem dt_of{kvs:List (List Key×V)}(ok:HOk P w H h)(e:H a=some (.dT kvs)):kvs.length<=sizeLine/\(a == sysModules)=false/\
  ∃xs,KT H kvs xs/\h.DictOfH (tupleKind (mixKind P w)) a xs:=dt_rd ok (.inl e)
end
def DGet(H:Hp)(a:Addr)(y:V)(r:Option V):Prop:=
 (∃kvs k,Rd H a (.dK kvs)/\y=kV k/\r=valV kvs k)\/∃kvs k b,Rd H a (.dT kvs)/\y = .ref b/\H b=some (.tup (k.map kV))/\r=valV kvs k
def DPut(H:Hp)(a:Addr)(y v:V)(H':Hp):Prop:=
 (∃kvs k,H a=some (.dK kvs)/\y=kV k/\kvs.length<sizeLine/\H'=upd H a (.dK (putK kvs k v)))\/
 ∃kvs k b,H a=some (.dT kvs)/\y = .ref b/\H b=some (.tup (k.map kV))/\kvs.length<sizeLine/\H'=upd H a (.dT (putK kvs k v))
theorem DPut.k{H:Hp}{a:Addr}{kvs:List (Key×V)}{k:Key}{v:V}(e:H a=some (.dK kvs))(hl:kvs.length<sizeLine):DPut H a (kV k) v (upd H a (.dK (putK kvs k v))):=.inl ⟨kvs,k,e,rfl,hl,rfl⟩
section
variable{X:Cx}{pins:List (Addr×Obj)}{σ:St}{H:Hp}{s:Shared}{a:Addr}{y v:V}{u r:Value}{o:Option V}{A:Around}{E:Value->Shared->Prop}
theorem Inv.big(I:Inv X pins σ H s):sysModules<s.heap.objs.size:=by have h:mainGlobals<s.heap.objs.size:=(I.mod.glob.keeps I.bk).lt;exact Nat.lt_trans (by decide) h
theorem d_getItem{Q:Value->Shared->Prop}(hu:A.units+1<cLine)(I:Inv X pins σ H s)(g:DGet H a y (some v))(ry:RelV y u)(h:∀w' s',Inv X pins σ H s'->RelV v w'->Q w' s') :
  wpAny (model X.prog X.w) A (getItem (.ref a) u) Q E s:=by
 rcases g with ⟨kvs,k,e,ey,l⟩|⟨kvs,k,b,e,ey,eb,l⟩
 ·subst ey;obtain⟨z,hd,vs,rel,dd⟩:=dk_rd I.hok e;obtain⟨w',hw,rw'⟩:=RelO.some_of (v:=v) (o:=valueAt vs k) (by rw[l];exact rel.val k);exact wpAny_getItem_of (kV_is ry) dd.mapOf hw (h w' _ (I.tok _) rw')
 ·subst ey;cases(show u=Value.ref b from ry);obtain⟨z,hd,xs,rel,dd⟩:=dt_rd I.hok e;obtain⟨w',hw,rw'⟩:=RelO.some_of (v:=v) (o:=(atKey xs k).map (·.2)) (by rw[l];exact rel.val k);obtain⟨p,hp,hp2⟩:=Qq9.mp hw;refine wpAny_getItem_heap (tupleKind_room_in1 hu) (key_of I.hok eb) dd hp ?_;rw[hp2];exact h w' _ (I.tok _) rw'
theorem d_in{Q:Value->Shared->Prop}(hu:A.units+1<cLine)(I:Inv X pins σ H s)(g:DGet H a y o)(ry:RelV y u)(h:∀s',Inv X pins σ H s'->Q (.bool o.isSome) s') :
  wpAny (model X.prog X.w) A (compareOp .In u (.ref a)) Q E s:=by
 rcases g with ⟨kvs,k,e,ey,l⟩|⟨kvs,k,b,e,ey,eb,l⟩
 ·subst ey;obtain⟨z,hd,vs,rel,dd⟩:=dk_rd I.hok e;refine wpAny_in_of (kV_is ry) hd dd.mapOf ?_;rw[<-(rel.val k).isSome_eq,<-l];exact h _ (I.tok _)
 ·subst ey;cases(show u=Value.ref b from ry);obtain⟨z,hd,xs,rel,dd⟩:=dt_rd I.hok e;refine wpAny_in_heap (tupleKind_room_in1 hu) (key_of I.hok eb) hd dd ?_;have q:=(rel.val k).isSome_eq;rw[Option.isSome_map] at q;rw[<-q,<-l];exact h _ (I.tok _)
theorem d_write{h':Heap}{t':Nat}{ob:HO}(I:Inv X pins σ H s)(mu:Mut (H a))(hs:Heap.SameBut a s.heap h')(he:∃q,h'.get? a=some q)(new:ObjOk X.prog X.w (upd H a ob) h' a ob) :
  Inv X pins σ (upd H a ob) { s with heap:=h',toks:=t' }:=
 I.write (x:=a) (e:=a) mu (.inl rfl) (λb q hb z=>(hs.2 b hb).trans z) he new
theorem dk_new{P:Program}{w:World}{H':Hp}{h':Heap}{kvs:List (Key×V)}{vs:List (Key×Value)}(z:kvs.length<=sizeLine)(hd:(a == sysModules)=false)(rel:KV kvs vs)(dd:h'.DictOf (mixKind P w) a vs) :
  ObjOk P w H' h' a (.dK kvs):=⟨z,hd,vs,rel,dd⟩
theorem d_setItem{H':Hp}{Q:Unit->Shared->Prop}(hu:A.units+1<cLine)(I:Inv X pins σ H s)(g:DPut H a y v H')(ry:RelV y u)(rv:RelV v r)(h:∀s',Inv X pins σ H' s'->Q () s') :
  wpAny (model X.prog X.w) A (setItem (.ref a) u r) Q E s:=by
 rcases g with ⟨kvs,k,e,ey,l,eH⟩|⟨kvs,k,b,e,ey,eb,l,eH⟩
 ·subst ey eH;obtain⟨z,hd,vs,rel,dd⟩:=dk_of I.hok e;have hz:vs.length<=sizeLine:=by rw[<-rel.length];exact z
  have hl:(putK kvs k v).length<=sizeLine:=by have:=length_putK kvs k v;omega
  refine wpAny_setItem_pairs (hsz:=hz) (kV_is ry) dd λh' dd' hs=>h _ ?_;have he:∃q,h'.get? a=some q:=let ⟨q,_,_,hq,_⟩:=dd';⟨q,hq⟩
  exact d_write I (by rw[e];exact True.intro) hs he (dk_new hl hd (rel.put k rv) dd')
 ·subst ey eH;cases(show u=Value.ref b from ry);obtain⟨z,hd,xs,rel,dd⟩:=dt_of I.hok e;have hz:xs.length<=sizeLine:=by rw[<-Paired.length rel];exact z
  have hl:(putK kvs k v).length<=sizeLine:=by have:=length_putK kvs k v;omega
  refine wpAny_setItem_heap (hsz:=hz) (tupleKind_room_in1 hu) (key_of I.hok eb) dd λh' dd' hs=>h _ ?_;obtain⟨q,es,ep,hq,h2,h3,h4,_,h5⟩:=dd';refine d_write I (by rw[e];exact True.intro) hs ⟨q,hq⟩ ⟨hl,hd,_,(rel.put k eb rv).keeps λc ys ec=>?_,q,es,ep,hq,h2,h3,h4,h5⟩;rw[bY (ne_of ec e (λz=>nomatch z))];exact ec
end
def NoSl(i:Expr):Prop:=∀ov iv,subscripted i false ov iv=operate [ov,iv] (getItem ov iv)
theorem subD_of{prog:Program}{w:World}{A:Around}{E:Value->Shared->Prop}{s:Shared}{env:Env}{value slice:Expr}{pos:Pos}{T id:String}{Q:Value->Shared->Prop}
  (hl:typeLookup (.type T) "__getitem__" = pure (some (.builtin id))) (hs:NoSl slice)
  (h:wpAny (model prog w) A (eval value env) (λo s₁=>wpAny (model prog w) A (eval slice env) (λi s₂=>s₂.TypeIs o T/\wpAny (model prog w) A (getItem o i) Q E s₂) E s₁) E s) :
  wpAny (model prog w) A (eval (.Subscript value slice pos) env) Q E s:=by
 refine Subscript_ (Qz1 h (λo s₁ h₁=>Qz1 h₁ (λi s₂ h₂=>?_) λ_ _ x=>x) λ_ _ x=>x);obtain⟨hT,h₂⟩:=h₂;unfold subscriptTail;refine Qqv ?_;rw[getitemInPython_of_ne hT.not_modules];refine Qqv (wpAny_specialOf hT hl ?_);have fin:wpAny (model prog w) A (subscripted slice false o i) (λr s₃=>wpAny (model prog w) A (letTemporaryGo value o r >>= λ_=>pure r) Q E s₃) E s₂:=by rw[hs o i];exact wpAny_operating (Qz1 h₂ (λr s₃ h₃=>Qqv (wpAny_letTemporaryGo (Qq6 h₃))) λ_ _ x=>x)
 first
  | exact Qq6 (Qqv fin)
  | exact Qqv (Qq6 (Qqv fin))
  | exact Qqv fin
theorem dict_typeIs{X:Cx}{pins:List (Addr×Obj)}{σ:St}{H:Hp}{s:Shared}{a:Addr}{y:V}{o:Option V}(I:Inv X pins σ H s)(g:DGet H a y o):s.TypeIs (.ref a) "dict":=by
 rcases g with ⟨kvs,k,e,_,_⟩|⟨kvs,k,b,e,_,_,_⟩
 ·obtain⟨_,_,vs,_,dd⟩:=dk_rd I.hok e;exact dd.typeIs
 ·obtain⟨_,_,xs,_,dd⟩:=dt_rd I.hok e;exact dd.typeIs
def tDGet(td ty:TE):TE:=λσ H Q=>td σ H λx H1=>ty σ H1 λy H2=>∃a v,x = .ref a/\DGet H2 a y (some v)/\Q v H2
def sDPut(td ty tv:TE):TS:=λD σ H=>tv σ H λv H1=>td σ H1 λx H2=>ty σ H2 λy H3=>∃a H4,x = .ref a/\DPut H3 a y v H4/\D.nx σ H4
section
variable{X:Cx}{o i e value:Expr}{pos pos' tpos:Pos}{td ty tv:TE}
theorem pe_dget(hu:X.A.units+1<cLine)(ho:PE X o td)(hi:PE X i ty)(hs:NoSl i):PE X (.Subscript o i pos) (tDGet td ty):=by intro pins s σ H Q I h;refine subD_of PySem.F.slot_dict_getitem.lookup hs (thn (ho pins s σ H _ I h) λu s1 ⟨x,H1,I1,rx,q1⟩=>thn (hi pins s1 σ H1 _ I1 q1) λiv s2 ⟨y,H2,I2,ry,a,v,ex,g,q2⟩=>?_);subst ex;obtain rfl:u=Value.ref a:=rx;exact⟨dict_typeIs I2 g,d_getItem hu I2 g ry λw' s3 I3 rw'=>⟨v,H2,I3,rw',q2⟩⟩
theorem ps_dput(hu:X.A.units+1<cLine)(ho:PE X o td)(hi:PE X i ty)(hv:PE X value tv)(hs:swapsWith value (some (.Subscript o i pos')) pos.line X.env=pure false) :
  PS X (.Assign [.Subscript o i pos'] value pos) (sDPut td ty tv):=by
 intro pins s σ H D I h;refine wpAny_Assign_Subscript (thn (hv pins s σ H _ I h) λr s1 ⟨v,H1,I1,rv,q1⟩=>thn (ho pins s1 σ H1 _ I1 q1) λu s2 ⟨x,H2,I2,rx,q2⟩=>thn (hi pins s2 σ H2 _ I2 q2) λiv s3 ⟨y,H3,I3,ry,a,H4,ex,g,q3⟩=>?_) hs;subst ex;obtain rfl:u=Value.ref a:=rx;exact d_setItem hu I3 g ry rv λs4 I4=>⟨σ,H4,I4,q3⟩
end
theorem dk_empty{P:Program}{w:World}{H:Hp}(h:Heap)(hb:sysModules<h.objs.size):ObjOk P w H (h.push { cls:=.type "dict",data:=.dict #[] }) h.objs.size (.dK []):=
 ⟨Qx3 _,Qxy.mpr (Ne.symm (Qw5 hb)),[],.nil,Heap.DictOf.new h⟩
def tDNewK:TE:=λ_ H Q=>∀p,H p=none->Q (.ref p) (upd H p (.dK []))
section
variable{X:Cx}{pos:Pos}
theorem pe_dnewK:PE X (.Dict [] [] pos) tDNewK:=λpins s σ H Q I h=>
 wpAny_Dict_empty ⟨.ref s.heap.objs.size,_,I.laid (a:=s.heap.objs.size) (o:=.dK []) (t':=s.toks) (λ_ _ q=>Qqw _ q) (Qq0 _) (dk_empty s.heap I.big),rfl,h _ (I.hok.fresh (Qq0 _))⟩
end
def clOf(env:Env):List (Str×NameKind)->List (Str×Addr)->List (Str×Addr)
 | [],acc=>acc
 | (n,k)::r,acc=>if k == .free then clOf env r ((n,(env.cells.lookup n).getD 0)::acc) else clOf env r acc
theorem closure_go{env:Env}(f:Str×NameKind->List (Str×Addr)->Sem (ForInStep (List (Str×Addr))))
  (hf:∀n k cs,f (n,k) cs=if k == .free then (do let a <-cellOf env n;pure (.yield ((n,a)::cs))) else pure (.yield cs)) :
  ∀(names:List (Str×NameKind)) (acc:List (Str×Addr)),(∀n,(n,NameKind.free)∈names->∃c,env.cells.lookup n=some c)->forIn names acc f=pure (clOf env names acc)
 | [],acc,_=>by rw[List.forIn_nil];rfl
 | (n,k)::r,acc,h=>by
  have ih:=closure_go f hf r;have hr:∀n,(n,NameKind.free)∈r->∃c,env.cells.lookup n=some c:=λm hm=>h m (Qqj _ hm);rw[List.forIn_cons,hf];cases hk:k == NameKind.free with
  | true=>
   have hk':k = .free:=by simpa using hk
   obtain⟨c,hc⟩:=h n (by rw[hk'];exact Qqz);rw[if_pos rfl];unfold cellOf;rw[hc];simp only[pure_bind];rw[ih _ hr]
   conv=>rhs;unfold clOf
   rw[if_pos hk,hc]
   rfl
  | false=>
   rw[if_neg (by simp)];simp only[pure_bind];rw[ih _ hr]
   conv=>rhs;unfold clOf
   rw[if_neg (by simp[hk])]
theorem closure_eq{scope:Scope}{env:Env}(h:∀n,(n,NameKind.free)∈scope.names->∃c,env.cells.lookup n=some c):closureFor scope env=pure (clOf env scope.names []):=by
 simp only[closureFor];rw[closure_go (env:=env) _ (λn k cs=>by cases hk:k == NameKind.free<;>simp[hk]) _ _ h]
 rfl
theorem clOf_acc{env:Env}:∀(names:List (Str×NameKind)) (acc:List (Str×Addr)) (x:Str) (c:Addr),(∀n,(n,NameKind.free)∈names->∃c,env.cells.lookup n=some c)->
  (∀y d,acc.lookup y=some d->env.cells.lookup y=some d)->(clOf env names acc).lookup x=some c->env.cells.lookup x=some c
 | [],acc,x,c,_,ha,h=>ha x c h
 | (n,k)::r,acc,x,c,hn,ha,h=>by
  have hr:∀n,(n,NameKind.free)∈r->∃c,env.cells.lookup n=some c:=λm hm=>hn m (Qqj _ hm);unfold clOf at h;split at h
  ·rename_i hk;have hk':k = .free:=by simpa using hk
   obtain⟨d,hd⟩:=hn n (by rw[hk'];exact Qqz);refine clOf_acc r _ x c hr (λy e he=>?_) h;rw[Qx2] at he;cases hy:y == n with
   | true=>
    rw[hy] at he;have e1:y=n:=by simpa using hy
    rw[e1,hd];rw[hd] at he;exact he
   | false=>
    rw[hy] at he;exact ha y e he
  ·exact clOf_acc r acc x c hr ha h
theorem clOf_keep{env:Env}:∀(names:List (Str×NameKind)) (acc:List (Str×Addr)) (x:Str),(acc.lookup x).isSome=true->((clOf env names acc).lookup x).isSome=true
 | [],acc,x,h=>h
 | (n,k)::r,acc,x,h=>by
  unfold clOf;split
  ·refine clOf_keep r _ x ?_;rw[Qx2];split
   ·rfl
   ·exact h
  ·exact clOf_keep r acc x h
theorem clOf_has{env:Env}:∀(names:List (Str×NameKind)) (acc:List (Str×Addr)) (x:Str),(x,NameKind.free)∈names->((clOf env names acc).lookup x).isSome=true
 | [],acc,x,h=>nomatch h
 | (n,k)::r,acc,x,h=>by
  unfold clOf;rcases Qq3.mp h with e|h
  ·obtain⟨e1,e2⟩:=Prod.mk.inj e;subst e1 e2;rw[if_pos (by rfl)];refine clOf_keep r _ x ?_;rw[Qx2];simp
  ·split
   ·exact clOf_has r _ x h
   ·exact clOf_has r acc x h
theorem cellsFrom_app:∀(names:List (Str×NameKind)) (n:Nat) (acc:List (Str×Addr)),cellsFrom n names acc=cellsFrom n names []++acc
 | [],n,acc=>rfl
 | (x,k)::r,n,acc=>by
  unfold cellsFrom;split
  ·rw[cellsFrom_app r (n+1) ((x,n)::acc),cellsFrom_app r (n+1) [(x,n)],Qw6]
   rfl
  ·exact cellsFrom_app r n acc
theorem mem_cellsFrom:∀(names:List (Str×NameKind)) (n:Nat) (x:Str) (c:Addr),(x,c)∈cellsFrom n names []->(x,NameKind.cell)∈names
 | [],n,x,c,h=>nomatch h
 | (y,k)::r,n,x,c,h=>by
  unfold cellsFrom at h;split at h
  ·rename_i hk;have hk':k = .cell:=by simpa using hk
   rw[cellsFrom_app] at h;rcases Qw4.mp h with h|h
   ·exact Qqj _ (mem_cellsFrom r _ x c h)
   ·have e:=Qq2.mp h;cases e;rw[hk'];exact Qqz
  ·exact Qqj _ (mem_cellsFrom r _ x c h)
theorem lookup_app{α:Type}:∀(l m:List (Str×α)) (x:Str),(l++m).lookup x=match l.lookup x with|some v=>some v|none=>m.lookup x
 | [],m,x=>rfl
 | (k,v)::r,m,x=>by
  rw[List.cons_append,Qx2,Qx2];cases h:x == k with
  | true=>rfl
  | false=>exact lookup_app r m x
theorem lookup_none_of{α:Type}:∀(l:List (Str×α)) (x:Str),(∀v,(x,v) ∉ l)->l.lookup x=none
 | [],x,_=>rfl
 | (k,v)::r,x,h=>by
  rw[Qx2];cases e:x == k with
  | true=>
   have e':x=k:=by simpa using e
   exact absurd (by rw[e'];exact Qqz) (h v)
  | false=>exact lookup_none_of r x λw hw=>h w (Qqj _ hw)
theorem lookup_mem{α:Type}:∀(l:List (Str×α)) (x:Str) (v:α),l.lookup x=some v->(x,v)∈l
 | [],x,v,h=>nomatch h
 | (k,w)::r,x,v,h=>by
  rw[Qx2] at h;cases e:x == k with
  | true=>
   rw[e] at h;cases h;have e':x=k:=by simpa using e
   rw[e'];exact Qqz
  | false=>
   rw[e] at h;exact Qqj _ (lookup_mem r x v h)
theorem lookup_of_mem{α:Type}:∀(l:List (Str×α)) (x:Str) (v:α),(l.map (·.1)).Nodup->(x,v)∈l->l.lookup x=some v
 | [],x,v,_,h=>nomatch h
 | (k,w)::r,x,v,nd,h=>by
  rw[Qx2];have nd':=Qjz.mp nd;rcases Qq3.mp h with e|h
  ·cases e;simp
  ·have hne:¬x=k:=λe=>nd'.1 (by rw[<-e];exact Qq8.mpr ⟨(x,v),h,rfl⟩);have hb:(x == k)=false:=by simpa using hne
   rw[hb];exact lookup_of_mem r x v nd'.2 h
theorem newEnv_comp{M:Model}{A:Around}{E:Value->Shared->Prop}{s:Shared}{scope:Scope}{globals:Addr}{cl:List (Str×Addr)}{qual:Str}{outer:Env}{Q:Env->Shared->Prop}
  (hQ:∀h',h'.Ns s.heap.objs.size (λ_=>none)->(∀b o,s.heap.get? b=some o->h'.get? b=some o)->CellsOk h' (s.heap.objs.size+1) (cellsFrom (s.heap.objs.size+1) scope.names [])->
   Q { scope,locals:=s.heap.objs.size,globals,cells:=cellsFrom (s.heap.objs.size+1) scope.names cl,qual,func:=none,code:=outer.code,frame:=outer.frame,builtins:=outer.builtins } { s with heap:=h' }) :
  wpAny M A (newFunctionEnv scope globals cl [] qual none .none (some outer)) Q E s:=by
 simp only[newFunctionEnv,Option.isSome_some,if_true];refine Qqv (wpAny_alloc ?_);refine Qqv (wpAny_layCells _ (λname kind cells=>by cases hkc:kind == NameKind.cell<;>simp[hkc]) _ _ _ _ ?_);have ok:=cellsFrom_ok scope.names (s.heap.push { cls:=.type "dict",data:=.dict #[] }) (s.heap.objs.size+1) [] ⟨λ_ _ hm=>(nomatch hm),List.Pairwise.nil⟩ (by rw[Heap.size_push];exact Qq0 _);rw[Heap.size_push] at ok;rw[show({ s with heap:=s.heap.push { cls:=.type "dict",data:=.dict #[] } }:Shared).heap.objs.size=s.heap.objs.size+1 from Heap.size_push ..];refine Qqv ?_;rw[List.forIn_nil];refine Qq6 (Qq6 (hQ _ ?_ ?_ ?_))
 ·exact(Heap.Ns.new s.heap (.type "dict")).keeps (pushCells_keeps _ _)
 ·exact λb o e=>pushCells_keeps _ _ b o (Qqw _ e)
 ·exact ok
def cxC(X:Cx)(scope:Scope)(N':List Str)(cells:List (Str×Addr))(C:Addr)(s0:Shared)(H0:Hp)(fp:List Addr):Cx:=
 { X with N:=N',s₀:=s0,H₀:=H0,env:=compEnvC scope cells C X.env,outer:=X.stack,stack:=X.stack,ex:=fp,fn:=λx=>decide (scope.names.lookup x=some .cell),pn:=[],xe:=λ_ _=>False }
theorem lookup_relabel{env:Env}:∀(names:List (Str×NameKind)) (x:Str),
  (names.map λ(n,k)=>if (k == NameKind.free&&env.scope.kind == .function&&env.kindOf n == some .cell) then (n,NameKind.cell) else (n,k)).lookup x =
   (names.lookup x).map λk=>if (k == NameKind.free&&env.scope.kind == .function&&env.kindOf x == some .cell) then NameKind.cell else k
 | [],x=>rfl
 | (n,k)::r,x=>by
  show List.lookup x ((if (k == NameKind.free&&env.scope.kind == .function&&env.kindOf n == some .cell)=true then (n,NameKind.cell) else (n,k))::_)=_;cases hx:x == n with
  | true=>
   have e:x=n:=by simpa using hx
   subst e;simp only[Qx2,hx,Option.map_some];split<;>simp[Qx2]
  | false=>
   simp only[Qx2,hx];rw[<-lookup_relabel r x];split<;>simp only[Qx2,hx]
def chkC(names:List (Str×NameKind)):List Str->List Str->Bool
 | _,[]=>true
 | [],_::_=>false
 | x'::N',x::N=>((names.lookup x').isNone||(x' == x&&names.lookup x' == some .free))&&chkC names N' N
theorem chkC_get{names:List (Str×NameKind)}:∀{N' N:List Str},chkC names N' N=true->∀(i:Nat) (x:Str),i<N.length->N'[i]? = some x->(names.lookup x).isSome=true->N[i]? = some x/\names.lookup x=some .free
 | _,[],_,i,x,h,_,_=>absurd h (Nat.not_lt_zero _)
 | [],_::_,h,_,_,_,_,_=>by cases h
 | x'::N',y::N,h,i,x,hi,e,hs=>by
  unfold chkC at h;have h1:=(Qzv.mp h).1;have h2:=(Qzv.mp h).2;cases i with
  | zero=>
   have e':x'=x:=by simpa using e
   subst e';rcases Bool.or_eq_true_iff.mp h1 with q|q
   ·cases z:names.lookup x' with
    | none=>rw[z] at hs;cases hs
    | some k=>rw[z] at q;cases q
   ·have q1:=(Qzv.mp q).1;have q2:=(Qzv.mp q).2;have e1:x'=y:=by simpa using q1
    have e2:names.lookup x'=some .free:=by simpa using q2
    exact⟨by rw[e1];rfl,e2⟩
  | succ i=>exact chkC_get h2 i x (by simpa using hi) (by simpa using e) hs
structure CompOk(X:Cx)(scope:Scope)(N':List Str):Prop where
 kind:scope.kind = .function
 nd:(scope.names.map (·.1)).Nodup
 free:∀x∈scope.names,x.2 = .free->X.env.kindOf x.1=some .cell\/X.env.kindOf x.1=some .free
 chk:chkC scope.names N' X.N=true
 len:X.N.length<=N'.length
def PIf(X:Cx)(ifs:List Expr)(t:TT):Prop:=
 ∀(pins:List (Addr×Obj)) (s:Shared) (σ:St) (H:Hp) (Q:Bool->Hp->Prop),Inv X pins σ H s->t σ H Q->
  wpAny (model X.prog X.w) X.A (forIn ifs true λc r=>if r=true then do let ok <-isTrue c X.env (eval c X.env);pure (ForInStep.yield ok) else pure (ForInStep.yield r)) (TP X pins σ Q) X.xe s
theorem pif_nil{X:Cx}:PIf X [] (λ_ H Q=>Q true H):=λpins s σ H Q I h=>by
 rw[List.forIn_nil];exact Qq6 ⟨H,I,h⟩
theorem pif_one{X:Cx}{c:Expr}{t:TT}(h:PT X c t):PIf X [c] t:=λpins s σ H Q I hw=>by
 rw[List.forIn_cons,if_pos rfl];refine Qqv (Qqv (thn (h pins s σ H Q I hw) λb s' q=>?_));refine Qq6 ?_;show wpAny _ _ (forIn [] b _) _ _ _;rw[List.forIn_nil];exact Qq6 q
def padS(n:Nat)(σ:St):St:=σ++List.replicate n none
def tLC(n:Nat)(wi:TI)(g:TG)(tc:TT)(te:TE):TE:=λσ H Q=>wi σ H λJ H1=>∀d,H1 d=none->∃W:Nat->Nat->St->Hp->Prop,(∃m,W 0 m (padS (n - σ.length) σ) (upd H1 d (.lst [])))/\∀i m σ' H',W i m σ' H'->
 (J.stop i H'/\Q (.ref d) H')\/(J.go i H'/\∃N:St->Hp->Prop,(∀σ2 H2,N σ2 H2->∃m',m'<m/\W (i+1) m' σ2 H2)/\∀x H2,J.yld i H' x H2->g x σ' H2 λσ3 H3=>tc σ3 H3 λb H4=>
  if b=true then te σ3 H4 λy H5=>∃ys,H5 d=some (.lst ys)/\ys.length<sizeLine/\N σ3 (upd H5 d (.lst (ys++[y]))) else N σ3 H4)
section
variable{prog:Program}{w:World}{A:Around}{R:Result->Shared->Prop}{s:Shared}
theorem compLoop_any{elt target iter:Expr}{ifs:List Expr}{scope:Scope}{pos:Pos}{it acc:Value}{env:Env}(I:Nat->Shared->Prop)
  (turn:∀n s,I n s->wpAny (model prog w) A (pyNext it) (λr s₁=>match r with
   | none=>R (.ok .next) s₁
   | some v=>wpAny (model prog w) A (letOwnedTupleGo target it v) (λ_ s₁'=>wpAny (model prog w) A (assign target env v) (λ_ s₂=>
     wpAny (model prog w) A (forIn ifs true λc r=>if r=true then do let ok <-isTrue c env (eval c env);pure (ForInStep.yield ok) else pure (ForInStep.yield r)) (λok s₃=>
      if ok=true then wpAny (model prog w) A (eval elt env) (λx s₄=>
       wpAny (model prog w) A (call (.builtin "list.append") [acc,x]) (λ_ s₅=>∃m,m<n/\I m s₅) (λ_ _=>False) s₄) (λ_ _=>False) s₃
      else ∃m,m<n/\I m s₃) (λ_ _=>False) s₂) (λ_ _=>False) s₁') (λ_ _=>False) s₁) (λ_ _=>False) s)
  (n:Nat) (h:I n s) :
  codeAny (model prog w) A (.compLoop (.ListComp elt [⟨target,iter,ifs,0⟩] scope pos) 0 it acc env) R s:=by
 refine codeAny_loop rfl I (λn s hI=>?_) n h;show wpAny _ A ((compTurn (.ListComp elt [⟨target,iter,ifs,0⟩] scope pos) 0 it acc env).onRaise (λx=>do noteFrame x env;theTreesLotGoes x)) _ _ s;refine wpAny_noted ?_;rw[compTurn_list];refine Qqv (wpAny_standAt (Qqv (Qz1 (turn n s hI) (λr s₁ h₁=>?_) λ_ _ h'=>h'.elim)));cases r with
 | none=>exact Qq6 h₁
 | some v=>
  refine Qqv (Qz1 h₁ (λ_ s₁' h₁'=>?_) λ_ _ h'=>h'.elim);refine Qqv (Qz1 h₁' (λ_ s₂ h₂=>Qqv (Qz1 h₂ (λok s₃ h₃=>?_) λ_ _ h'=>h'.elim)) λ_ _ h'=>h'.elim);cases ok with
  | false=>exact Qq6 ⟨rfl,h₃⟩
  | true=>
   exact Qqv (Qqv (Qz1 h₃ (λx s₄ h₄=>Qqv (Qz1 h₄ (λ_ s₅ h₅=>Qq6 (Qq6 ⟨rfl,h₅⟩)) λ_ _ h'=>h'.elim)) λ_ _ h'=>h'.elim))
end
theorem inv_comp{X:Cx}{scope:Scope}{N':List Str}{pins:List (Addr×Obj)}{σ:St}{H:Hp}{s:Shared}{h':Heap}{fp:List Addr}(ok:CompOk X scope N')(I:Inv X pins σ H s)(hf:∀b∈fp,FpOk X pins H b)(hlt:∀b∈fp,b<s.heap.objs.size)
  (hn:h'.Ns s.heap.objs.size (λ_=>none)) (hk:∀b o,s.heap.get? b=some o->h'.get? b=some o) (co:CellsOk h' (s.heap.objs.size+1) (cellsFrom (s.heap.objs.size+1) scope.names [])) :
  Inv (cxC X scope N' (cellsFrom (s.heap.objs.size+1) scope.names (clOf X.env scope.names [])) s.heap.objs.size s H fp) [] (padS (N'.length - σ.length) σ) H { s with heap:=h' }:=by
 have hfree:∀n,(n,NameKind.free)∈scope.names->∃c,X.env.cells.lookup n=some c:=λn hm=>I.ok.has n (ok.free _ hm rfl)
 -- the cells by name
 have cell_of:∀x c,(cellsFrom (s.heap.objs.size+1) scope.names (clOf X.env scope.names [])).lookup x=some c->
   ((x,c)∈cellsFrom (s.heap.objs.size+1) scope.names []/\(cellsFrom (s.heap.objs.size+1) scope.names []).lookup x=some c)\/((cellsFrom (s.heap.objs.size+1) scope.names []).lookup x=none/\X.env.cells.lookup x=some c):=λx c e=>by
  rw[cellsFrom_app,lookup_app] at e;cases q:(cellsFrom (s.heap.objs.size+1) scope.names []).lookup x with
  | some d=>rw[q] at e;cases e;exact .inl ⟨lookup_mem _ _ _ q,rfl⟩
  | none=>rw[q] at e;exact .inr ⟨rfl,clOf_acc _ _ x c hfree (λy d h=>by simp at h) e⟩
 have own_ge:∀x c,(x,c)∈cellsFrom (s.heap.objs.size+1) scope.names []->s.heap.objs.size+1<=c:=λx c h=>(co.empty x c h).2;have out_lt:∀x c,X.env.cells.lookup x=some c->c<s.heap.objs.size:=λx c h=>let ⟨v,q⟩:=I.cell x c h;q.lt
 have kind_of:∀x,(relabel scope X.env).names.lookup x=(scope.names.lookup x).map λk=>if (k == NameKind.free&&X.env.scope.kind == .function&&X.env.kindOf x == some .cell) then NameKind.cell else k:=λx=>lookup_relabel _ _
 have has_cell:∀x,(x,NameKind.cell)∈scope.names->∃c,(cellsFrom (s.heap.objs.size+1) scope.names []).lookup x=some c:=λx hx=>by
  have q:=PySem.W.cellsFrom_some scope.names (s.heap.objs.size+1) [] (.inl (lookup_of_mem _ _ _ ok.nd hx));exact Qxv.mp q
 have fpC:∀b∈fp,∀x c,(cellsFrom (s.heap.objs.size+1) scope.names (clOf X.env scope.names [])).lookup x=some c->c≠b:=λb hb x c e=>by
  rcases cell_of x c e with ⟨h1,_⟩|⟨_,h2⟩
  ·have h3:=own_ge x c h1;have h4:=hlt b hb;rintro rfl;exact absurd (Qw0 h4 (Qj4 h3)) (Qz8 _)
  ·exact(hf b hb).2.2.2.2.1 x c h2
 refine⟨⟨I.ok.mod,ok.kind,I.ok.glob,I.ok.blt,Qq0 _,λx y c h1 h2=>?_,λx hx=>?_,λx c hx e=>?_,I.ok.hd,I.ok.frames,.inl rfl,λb hb=>⟨Qw5 (hlt b hb),λx c e=>fpC b hb x c e⟩,I.bs,Qqy I.ok.bsz I.sz,λb o e hb=>?_,λb hb=>?_,I.stack,I.stkFree⟩,
  rfl,I.bare,Un.kept hk,⟨_,hn,λi x v e1 e2 e3=>?_⟩,λx c e=>?_,I.hok.fresh (Qq0 _),λx c e=>?_,λp hp=>absurd (show p∈([]:List (Addr×Obj)) from hp) (by simp),I.hok.kept hk,?_⟩
 ·-- one name a cell
  rcases cell_of x c h1 with ⟨p1,_⟩|⟨_,p2⟩
  ·rcases cell_of y c h2 with ⟨q1,_⟩|⟨_,q2⟩
   ·exact name_of_addr co.apart p1 q1
   ·exact absurd (Qw0 (out_lt y c q2) (Qj4 (own_ge x c p1))) (Qz8 _)
  ·rcases cell_of y c h2 with ⟨q1,_⟩|⟨_,q2⟩
   ·exact absurd (Qw0 (out_lt x c p2) (Qj4 (own_ge y c q1))) (Qz8 _)
   ·exact I.ok.inj x y c p2 q2
 ·-- each cell name has one
  show ∃c,(cellsFrom (s.heap.objs.size+1) scope.names (clOf X.env scope.names [])).lookup x=some c;have hx:(relabel scope X.env).names.lookup x=some .cell\/(relabel scope X.env).names.lookup x=some .free:=hx;rw[kind_of] at hx;cases q:scope.names.lookup x with
  | none=>rw[q] at hx;rcases hx with hx|hx<;>cases hx
  | some k=>
   rw[q] at hx;rw[cellsFrom_app,lookup_app];cases z:(cellsFrom (s.heap.objs.size+1) scope.names []).lookup x with
   | some d=>exact⟨d,rfl⟩
   | none=>
    have hkf:k = .free:=by
     cases k with
     | free=>rfl
     | cell=>obtain⟨c,hc⟩:=has_cell x (lookup_mem _ _ _ q);rw[hc] at z;cases z
     | _=>rcases hx with hx|hx<;>simp at hx
    subst hkf;exact Qxv.mp (clOf_has _ _ x (lookup_mem _ _ _ q))
 ·-- its own cells are new
  have hx':scope.names.lookup x=some .cell:=Qq7 hx;rcases cell_of x c e with ⟨p1,_⟩|⟨p1,_⟩
  ·exact Qj4 (own_ge x c p1)
  ·obtain⟨d,hd⟩:=has_cell x (lookup_mem _ _ _ hx');rw[hd] at p1;cases p1
 ·rcases(hf b hb).2.2.2.1 with z|z
  ·exact I.ok.noex b o e z
  ·have h1:=Qwj e;have h2:=I.ok.bsz;exact absurd (Qw0 h1 (Qqy h2 z)) (Qz8 _)
 ·intro hm;rcases Qq3.mp (I.stkSub b hm) with z|z
  ·exact(hf b hb).2.1 z
  ·exact(hf b hb).2.2.1 z
 ·-- the names
  have hiσ:i<σ.length:=by
   by_cases hi:i<σ.length
   ·exact hi
   ·unfold padS at e2;rw[Qxz (by omega),Qzk] at e2;split at e2<;>cases e2
  have e2':σ[i]? = some (some v):=by
   unfold padS at e2
   rwa [Qw3 hiσ] at e2
  have vis:(scope.names.lookup x).isSome=true:=by
   have e3:(relabel scope X.env).names.lookup x=some .local\/(relabel scope X.env).names.lookup x=some .cell\/(relabel scope X.env).names.lookup x=some .free:=e3;rw[kind_of] at e3;cases q:scope.names.lookup x with
   | none=>rw[q] at e3;rcases e3 with z|z|z<;>cases z
   | some k=>rfl
  obtain⟨hN,hfr⟩:=chkC_get ok.chk i x (by rw[<-I.len];exact hiσ) e1 vis;have hm:=lookup_mem _ _ _ hfr;have hkk:=ok.free _ hm rfl;obtain⟨m,hns,hl⟩:=I.loc;obtain⟨u,ru,lk⟩:=hl i x v hN e2' (hkk.elim (λz=>.inr (.inl z)) λz=>.inr (.inr z));refine⟨u,ru,.inr ⟨?_,?_⟩⟩
  ·show(relabel scope X.env).names.lookup x=some .cell\/(relabel scope X.env).names.lookup x=some .free;rw[kind_of,hfr];by_cases hc:(NameKind.free == NameKind.free&&X.env.scope.kind == .function&&X.env.kindOf x == some .cell)=true
   ·left;rw[Option.map_some,if_pos hc]
   ·right;rw[Option.map_some,if_neg hc]
  ·rcases lk with ⟨hl1,_⟩|⟨_,c,hc,hcell⟩
   ·rcases hkk with z|z<;>(rw[z] at hl1;cases hl1)
   ·refine⟨c,?_,hcell.keeps hk⟩;show(cellsFrom (s.heap.objs.size+1) scope.names (clOf X.env scope.names [])).lookup x=some c;rw[cellsFrom_app,lookup_app];have hno:(cellsFrom (s.heap.objs.size+1) scope.names []).lookup x=none:=lookup_none_of _ _ λd hd=>by
     have h1:=lookup_of_mem _ _ _ ok.nd (mem_cellsFrom _ _ _ _ hd);rw[hfr] at h1;cases h1
    rw[hno];obtain⟨d,hd⟩:=Qxv.mp (clOf_has (env:=X.env) scope.names [] x hm);have h2:=clOf_acc _ _ x d hfree (λy d h=>by simp at h) hd;rw[hc] at h2;show(clOf X.env scope.names []).lookup x=some c;rw[hd,h2]
 ·rcases cell_of x c e with ⟨p1,_⟩|⟨_,p2⟩
  ·exact⟨_,(co.empty x c p1).1⟩
  ·obtain⟨v,q⟩:=I.cell x c p2;exact⟨v,q.keeps hk⟩
 ·rcases cell_of x c e with ⟨p1,_⟩|⟨p0,p2⟩
  ·exact .inl (I.hok.fresh (Qj4 (own_ge x c p1)))
  ·rcases I.freeC x c p2 with z|⟨_,z⟩
   ·exact .inl z
   ·refine .inr ⟨?_,z⟩;show decide (scope.names.lookup x=some .cell)=false;refine Qw7 λq=>?_;obtain⟨d,hd⟩:=cell_has (n:=s.heap.objs.size+1) q;rw[p0] at hd;cases hd
 ·show(padS (N'.length - σ.length) σ).length=N'.length;unfold padS;rw[Qqq,Qzj];have h1:=ok.len;have h2:=I.len;omega
abbrev CxAt(X:Cx)(scope:Scope)(N':List Str)(X':Cx):Prop:=
 ∃(cells:List (Str×Addr)) (C:Addr) (s0:Shared) (H0:{ H:Hp // ∀b qs,X.H₀ b=some (.tab qs)->H b=some (.tab qs) }) (fp:List Addr),X'=cxC X scope N' cells C s0 H0.1 fp
theorem comp_core{X:Cx}{elt tg iter:Expr}{ifs:List Expr}{scope:Scope}{N':List Str}{pos:Pos}{g:TG}{tc:TT}{te:TE}{use:Option (Value->Sem Unit)}{QQ:Value->Shared->Prop}
  (ok:CompOk X scope N') (hc:X.calm=true)
  (bg:∀X',CxAt X scope N' X'->PG X' tg g) (bc:∀X',CxAt X scope N' X'->PIf X' ifs tc) (be:∀X',CxAt X scope N' X'->PE X' elt te)
  {pins:List (Addr×Obj)} {s2:Shared} {σ:St} {H2:Hp} {Q:VK} {it:Addr} {fp:List Addr} {tn:Nat->Heap->Prop} {J:It} (I2:Inv X pins σ H2 s2) (T:Turn X.prog X.w X.K tg J fp it tn) (st2:tn 0 s2.heap) (f2:∀b∈fp,FpOk X pins H2 b)
  (q:∀d,H2 d=none->∃W:Nat->Nat->St->Hp->Prop,(∃m,W 0 m (padS (N'.length - σ.length) σ) (upd H2 d (.lst [])))/\∀i m σ' H',W i m σ' H'->
   (J.stop i H'/\Q (.ref d) H')\/(J.go i H'/\∃N:St->Hp->Prop,(∀σ2 H2,N σ2 H2->∃m',m'<m/\W (i+1) m' σ2 H2)/\∀x H2,J.yld i H' x H2->g x σ' H2 λσ3 H3=>tc σ3 H3 λb H4=>
    if b=true then te σ3 H4 λy H5=>∃ys,H5 d=some (.lst ys)/\ys.length<sizeLine/\N σ3 (upd H5 d (.lst (ys++[y]))) else N σ3 H4))
  (fin:∀d C m s' H',Inv X pins σ H' s'->Q (.ref d) H'->s'.heap.Ns C m->H' C=none->C≠X.env.locals->X.s₀.heap.objs.size<=C->(∀x c,X.env.cells.lookup x=some c->c≠C)->(∀p∈X.pn++pins,p.1≠C)->
   compPost (model X.prog X.w) X.A X.xe use QQ (.ref d) C (.ok .next) s') :
  wpAny (model X.prog X.w) X.A (newList []) (λacc s₃=>wpAny (model X.prog X.w) X.A (newFunctionEnv scope X.env.globals (clOf X.env scope.names []) [] X.env.qual none .none (some X.env)) (λcenv s₄=>
   codeAny (model X.prog X.w) X.A (.compStart (.ListComp elt [⟨tg,iter,ifs,0⟩] scope pos) 0 (.ref it) acc { cenv with scope:=relabel scope X.env }) (compPost (model X.prog X.w) X.A X.xe use QQ acc cenv.locals) s₄) X.xe s₃) X.xe s2:=by
 have hd2:H2 s2.heap.objs.size=none:=I2.fresh;refine Qjj (newEnv_comp λh' hns hkeep hco=>?_)
 -- the state behind the list
 obtain⟨W,⟨m0,w0⟩,turn⟩:=q s2.heap.objs.size hd2;have I3:Inv X pins σ (upd H2 s2.heap.objs.size (.lst [])) { s2 with heap:=s2.heap.push { cls:=.type "list",data:=.seq ([]:List Value).toArray } }:=I2.lnew (t':=s2.toks) .nil (Qx3 _);have lt2:∀b∈fp,b<s2.heap.objs.size:=λb hb=>by
  obtain⟨o,e,_⟩:=T.obj _ _ st2 b hb;exact Qwj e
 have f3:∀b∈fp,FpOk X pins (upd H2 s2.heap.objs.size (.lst [])) b:=λb hb=>by
  refine⟨?_,(f2 b hb).2⟩;rw[bY (Qw5 (lt2 b hb))];exact(f2 b hb).1
 have lt3:∀b∈fp,b<({ s2 with heap:=s2.heap.push { cls:=.type "list",data:=.seq ([]:List Value).toArray } }:Shared).heap.objs.size:=λb hb=>by
  show b<(s2.heap.push _).objs.size;rw[Heap.size_push];exact Nat.lt_succ_of_lt (lt2 b hb)
 have st3:tn 0 h':=T.keep _ _ _ st2 λb hb o e=>hkeep b o (Qqw _ e);have I4:=inv_comp (fp:=fp) ok I3 f3 lt3 hns hkeep hco;generalize hs3:({ s2 with heap:=s2.heap.push { cls:=.type "list",data:=.seq ([]:List Value).toArray } }:Shared)=s3 at *;have sz3:s3.heap.objs.size=s2.heap.objs.size+1:=by rw[<-hs3];exact Heap.size_push ..
 generalize hX':cxC X scope N' (cellsFrom (s3.heap.objs.size+1) scope.names (clOf X.env scope.names [])) s3.heap.objs.size s3 (upd H2 s2.heap.objs.size (.lst [])) fp=X' at I4;have at':CxAt X scope N' X':=⟨_,_,_,⟨_,I3.base.tabs⟩,_,hX'.symm⟩;have hg:=bg X' at';have hif:=bc X' at';have he:=be X' at';have eP:X'.prog=X.prog:=by rw[<-hX'];rfl
 have eW:X'.w=X.w:=by rw[<-hX'];rfl
 have eK:X'.K=X.K:=by rw[<-hX'];rfl
 have eA:X'.A=X.A:=by rw[<-hX'];rfl
 have eC:X'.calm=true:=by rw[<-hX'];exact hc
 have eX:X'.xe=λ_ _=>False:=by rw[<-hX'];rfl
 have ePn:X'.pn=[]:=by rw[<-hX'];rfl
 have eEx:X'.ex=fp:=by rw[<-hX'];rfl
 have eL:X'.env.locals=s3.heap.objs.size:=by rw[<-hX'];rfl
 have eFs:X'.fs=frs X.stack:=by rw[<-hX'];rfl
 have eEnv:compEnvC scope (cellsFrom (s3.heap.objs.size+1) scope.names (clOf X.env scope.names [])) s3.heap.objs.size X.env=X'.env:=by rw[<-hX'];rfl
 have eS0:X'.s₀=s3:=by rw[<-hX'];rfl
 have eH0:X'.H₀=upd H2 s2.heap.objs.size (.lst []):=by rw[<-hX'];rfl
 -- what is true of the iterator's objects in the block
 have stat:∀{H':Hp},(∀b∈fp,H' b=none)->∀b∈fp,FpOk X' [] H' b:=λ{H'} hn b hb=>by
  refine⟨hn b hb,?_,?_,.inl (by rw[eEx];exact hb),λx c e=>?_,λp hp=>?_⟩
  ·rw[eL];exact Qw5 (lt3 b hb)
  ·have:=I4.ok.exfs b (by rw[eEx];exact hb);exact this
  ·exact(I4.ok.exf b (by rw[eEx];exact hb)).2 x c e
  ·rw[ePn] at hp;exact absurd hp (by simp)
 -- the outer context again
 have back:∀σ' H' s',Inv X' [] σ' H' s'->Inv X pins σ H' s':=λσ' H' s' J'=>by
  have hb:=J'.base;rw[eFs,eEx,eS0,eH0] at hb;have hos:=J'.os;rw[eS0] at hos;have hok:=J'.hok;rw[eP,eW] at hok;exact I3.call' (ch:=fp) hos hb hok J'.bare λb hbm=>⟨(f3 b hbm).2.2.2.1,(f3 b hbm).2.1,(f3 b hbm).2.2.2.2.1,(f3 b hbm).2.2.2.2.2⟩
 have loop:∀s4:Shared,s4 = { s3 with heap:=h' }->codeAny (model X.prog X.w) X.A (.compLoop (.ListComp elt [⟨tg,iter,ifs,0⟩] scope pos) 0 (.ref it) (.ref s2.heap.objs.size) X'.env) (compPost (model X.prog X.w) X.A X.xe use QQ (.ref s2.heap.objs.size) s3.heap.objs.size) s4:=by
  rintro s4 rfl;refine compLoop_any (λn s'=>∃i σ' H',Inv X' [] σ' H' s'/\tn i s'.heap/\(∀b∈fp,H' b=none)/\W i n σ' H') ?_ m0 ⟨0,_,_,I4,st3,λb hb=>(f3 b hb).1,w0⟩;rintro n s5 ⟨i,σ5,H5,I5,st5,fr5,w5⟩;rcases turn i n σ5 H5 w5 with ⟨stop,qn⟩|⟨go,N,hN,step⟩
  ·have td:=T.done X' eP eW eK eC i [] s5 σ5 H5 (λ_ _=>False) I5 (stat fr5) st5 stop;rw[eA] at td;refine thn td λr s6 ⟨hr,I6⟩=>?_;subst hr;obtain⟨mC,hnC,_⟩:=id I6.loc;rw[eL] at hnC;have lc:X.env.locals<s3.heap.objs.size:=by
    have:=I3.lt;exact this
   refine fin _ _ mC s6 H5 (back _ _ _ I6) qn hnC ?_ (Qz5 lc) I3.sz (λx c e=>?_) (λp hp=>?_)
   ·have:=I6.free;rw[eL] at this;exact this
   ·obtain⟨v,z⟩:=I3.cell x c e;exact Qw5 z.lt
   ·exact Qw5 (Qwj (I3.pin p hp).1)
  ·have ti:=T.item X' eP eW eK eC i [] s5 σ5 H5 (λ_ _=>False) I5 (stat fr5) st5 go;rw[eA] at ti;refine thn ti λr s6 ⟨u,hr,h6⟩=>?_;subst hr;refine thn h6 λ_ s7 ⟨x,H7,I7,r7,y7,st7,fr7⟩=>?_;have I7':=I7.pinned (stat fr7) (T.obj _ _ st7);have hg':=hg _ s7 σ5 H7 x u _ I7' r7 (step x H7 y7);rw[eP,eW,eA,eX] at hg';refine thn hg' λ_ s8 ⟨σ8,H8,I8,q8⟩=>?_;have hif':=hif _ s8 σ8 H8 _ I8 q8;rw[eP,eW,eA,eX] at hif';refine thn hif' λb s9 ⟨H9,I9,q9⟩=>?_;have again:∀{σz:St} {Hz:Hp} {sz:Shared},Inv X' ([]++pinsAt fp s7.heap) σz Hz sz->N σz Hz->∃m,m<n/\∃i σ' H',Inv X' [] σ' H' sz/\tn i sz.heap/\(∀b∈fp,H' b=none)/\W i m σ' H':=λ{σz Hz sz} Iz nz=>by
    obtain⟨m',hm,wz⟩:=hN σz Hz nz;refine⟨m',hm,i+1,σz,Hz,Iz.unpinned,T.keep _ _ _ st7 λb hb o e=>(Iz.pin (b,o) (Qww _ (Qww _ (mem_pinsAt hb e)))).1,λb hb=>?_,wz⟩;obtain⟨o,e,d⟩:=T.obj _ _ st7 b hb;exact(Iz.pin (b,o) (Qww _ (Qww _ (mem_pinsAt hb e)))).2.1
   cases b with
   | false=>
    rw[if_neg Qw8] at q9 ⊢;exact again I9 q9
   | true=>
    rw[if_pos rfl] at q9 ⊢;have he':=he _ s9 σ8 H9 _ I9 q9;rw[eP,eW,eA,eX] at he';refine thn he' λy sa ⟨yv,Ha,Ia,ra,ys,hys,hlen,qa⟩=>?_;have ap:=mt_append (X:=X') _ sa σ8 Ha (.ref s2.heap.objs.size) [yv] (.ref s2.heap.objs.size) [y] (λv H'=>v = .non/\N σ8 H') Ia rfl (.cons ra .nil) ⟨_,ys,yv,rfl,rfl,hys,hlen,rfl,qa⟩;rw[eP,eW,eA,eX] at ap;refine thn ap λ_ sb ⟨vb,Hb,Ib,rb,_,nb⟩=>?_;exact again Ib nb
 show codeAny _ _ (.compStart _ 0 (.ref it) (.ref s2.heap.objs.size) (compEnvC scope (cellsFrom (s3.heap.objs.size+1) scope.names (clOf X.env scope.names [])) s3.heap.objs.size X.env)) (compPost (model X.prog X.w) X.A X.xe use QQ (.ref s2.heap.objs.size) s3.heap.objs.size) _;rw[eEnv];exact codeAny_compStart_list (loop _ rfl) (T.self X.A 0 _ _ _ st3 (loop _ rfl))
theorem pe_lc{X:Cx}{elt tg iter:Expr}{ifs:List Expr}{scope:Scope}{N':List Str}{pos:Pos}{wi:TI}{g:TG}{tc:TT}{te:TE}
  (ok:CompOk X scope N') (hc:X.calm=true) (hi:PI X tg iter wi)
  (bg:∀X',CxAt X scope N' X'->PG X' tg g) (bc:∀X',CxAt X scope N' X'->PIf X' ifs tc) (be:∀X',CxAt X scope N' X'->PE X' elt te)
  (hs:∀x,foldedSetIterable iter X.env x=pure x:=by intro _;rfl) :
  PE X (.ListComp elt [⟨tg,iter,ifs,0⟩] scope pos) (tLC N'.length wi g tc te):=by
 intro pins s σ H Q I h;rw[eval_ListComp];have hfree:∀n,(n,NameKind.free)∈scope.names->∃c,X.env.cells.lookup n=some c:=λn hm=>I.ok.has n (ok.free _ hm rfl);refine wpAny_comprehension_free (use:=none) rfl hs (closure_eq hfree) ok.kind (λx hx hl=>lookup_of_mem _ _ _ ok.nd (by rw[<-hl];exact hx)) ?_;refine thn (hi pins s σ H _ I h) λv s1 h1=>thn h1 λitv s2 h2=>?_;obtain⟨it,fp,tn,J,H2,e,I2,T,st2,f2,q⟩:=h2;subst e;refine comp_core ok hc bg bc be I2 T st2 f2 q λd C m s' H' I' hq hn hC hL h0 hcell hpin=>?_;refine⟨m,hn,λh' hs'=>?_⟩;have I'':Inv X pins σ H' { s' with heap:=h',toks:=s'.toks }:=I'.turned (it:=C) (λb o hb e=>(hs'.2 b hb).trans e) hC hL (.inr h0) hcell hpin;exact⟨.ref d,H',I'',rfl,hq⟩
theorem ps_setLC{X:Cx}{elt tg iter:Expr}{ifs:List Expr}{scope:Scope}{N':List Str}{pos spos py:Pos}{wi:TI}{g:TG}{tc:TT}{te:TE}{i:Nat}{y:Str}
  (ok:CompOk X scope N') (hc:X.calm=true) (hi:PI X tg iter wi)
  (bg:∀X',CxAt X scope N' X'->PG X' tg g) (bc:∀X',CxAt X scope N' X'->PIf X' ifs tc) (be:∀X',CxAt X scope N' X'->PE X' elt te)
  (hN:X.N.Nodup) (hy:X.N[i]? = some y) (hx:Loc X.env.scope y)
  (hsw:swapsWith (.ListComp elt [⟨tg,iter,ifs,0⟩] scope pos) (some (.Name y py)) spos.line X.env=pure true)
  (hf:X.fn y=true\/X.env.scope.names.lookup y=some .local:=by first|exact .inl rfl|exact .inr rfl|assumption)
  (hs:∀x,foldedSetIterable iter X.env x=pure x:=by intro _;rfl) :
  PS X (.Assign [.Name y py] (.ListComp elt [⟨tg,iter,ifs,0⟩] scope pos) spos) (tAsg (tLC N'.length wi g tc te) (gName i)):=by
 intro pins s σ H D I h;rw[exec_Assign_Name_used _ _ _ _ hsw];refine Qqv (wpAny_standAt (Qqv ?_));have hfree:∀n,(n,NameKind.free)∈scope.names->∃c,X.env.cells.lookup n=some c:=λn hm=>I.ok.has n (ok.free _ hm rfl);show wpAny _ X.A (do let _ <-comprehension (.ListComp elt [⟨tg,iter,ifs,0⟩] scope pos) scope X.env _ (newList []) false (eval iter X.env) (some (assign (.Name y py) X.env))) _ _ s;refine Qqv (Qz1 (wpAny_comprehension_free (use:=some (assign (.Name y py) X.env)) (Q:=λ_ s'=>SP X pins D .next s') rfl hs (closure_eq hfree) ok.kind (λx hx hl=>lookup_of_mem _ _ _ ok.nd (by rw[<-hl];exact hx)) ?_) (λ_ s' hq=>Qq6 (Qq6 hq)) λ_ _ e=>e);refine thn (hi pins s σ H _ I h) λv s1 h1=>thn h1 λitv s2 h2=>?_;obtain⟨it,fp,tn,J,H2,e,I2,T,st2,f2,q⟩:=h2;subst e;refine comp_core (Q:=λx H1=>gName i x σ H1 D.nx) ok hc bg bc be I2 T st2 f2 q λd C m s' H' I' hq hn hC hL h0 hcell hpin=>?_;refine wpAny_assign_Name (store_ok2 (v:=.ref d) I' hN hy hx rfl (λs'' I'' sb=>?_) hf);obtain⟨a,hsb,ha⟩:=sb;have haC:C≠a:=by
  rcases ha with z|z
  ·rw[z];exact hL
  ·exact(hcell y a z).symm
 refine⟨m,hn.sameBut hsb haC,λh' hs'=>?_⟩;have I3:Inv X pins (σ.set i (some (.ref d))) H' { s'' with heap:=h',toks:=s''.toks }:=I''.turned (it:=C) (λb o hb e=>(hs'.2 b hb).trans e) hC hL (.inr h0) hcell hpin;exact⟨_,H',I3,hq⟩
end L2
namespace Ev
open PySem PySem.Spec PyProof.Rows L2
inductive D where
 | non
 | bl (b:Bool)
 | int (i:Int)
 | str (x:List Nat)
 | tup (xs:List D)
 | lst (xs:List D)
 | arr (xs:List D)
 | dct (kvs:List (D×D))
 | dcn (kvs:List (D×D))
 | clo (st:Stmt) (ds:List D)
 deriving Inhabited
abbrev Fg:=PySem.W.Frag
def strOf(x:List Nat):Str:=⟨x.toArray⟩
def keyD:D->Option Key
 | .int i=>some (.inl i)
 | .str x=>some (.inr (strOf x))
 | _=>none
mutual
def nkD:D->Option NK
 | .int i=>some (.num i)
 | .bl b=>some (.num (if b then 1 else 0))
 | .str x=>some (.txt (strOf x))
 | .tup xs=>(nkDs xs).map .tup
 | _=>none
def nkDs:List D->Option (List NK)
 | []=>some []
 | d::ds=>match nkD d,nkDs ds with
  | some k,some ks=>some (k::ks)
  | _,_=>none
end
def defName(s:Stmt):Str:=match s with
 | .FunctionDef n _ _ _ _ _ _ _ _ _=>n
 | _=>""
def freeOf(s:Stmt):List Str:=(((aL s).names.filter (·.2 == .free)).map (·.1)).reverse
def CellAt(F:Hp)(c:Addr)(v:V):Prop:=∃(o:Obj) (u:HO) (w:Value),F c=some (.frz o u)/\o.data = .cell (some w)/\RelV v w
def CellsAt(F:Hp):List (Str×Addr)->List V->Prop
 | [],vs=>vs=[]
 | (_,c)::r,vs=>∃v vs',vs=v::vs'/\CellAt F c v/\CellsAt F r vs'
def CodeAt(F:Hp)(c:Addr)(q:Str):Prop:=∃(o:Obj) (u:HO) (vs:Array Value) (t:Tok),F c=some (.frz o u)/\o.data = .fields vs/\vs[1]? = some (.str q t)
def Clo0(F:Hp)(st:Stmt)(a:Addr)(vs:List V):Prop:=∃(u:HO) (q:Str) (cl:List (Str×Addr)) (doc pm ctv:Value) (c:Addr),
 F a=some (.frz (PySem.W.fnMade (defName st) q (defArgs st) (defBody st) (aL st) cl doc pm c ctv) u)/\CodeAt F c q/\cl.map (·.1)=freeOf st/\(cl.map (·.2)).Nodup/\CellsAt F cl vs
theorem bu.cells{F F':Hp}(e:bu F F'):∀{cl:List (Str×Addr)} {vs:List V},CellsAt F cl vs->CellsAt F' cl vs
 | [],_,h=>h
 | (_,c)::r,_,⟨v,vs',h0,⟨o,u,w,h1,h2⟩,h3⟩=>⟨v,vs',h0,⟨o,u,w,e _ _ h1,h2⟩,bu.cells e h3⟩
def Mark(K:Fg)(st:Stmt)(a:Addr):Prop:=∃(n:Str) (p:Pos) (oc:Value) (od:Option Addr) (fd:FuncData) (sl:Array (Option Value)),st = .Global [n] p/\PySem.W.nsIn K mainGlobals n=some (some (.ref a))/\K.lookup a=some ⟨oc,od,.func fd,sl⟩
def isGl(st:Stmt):Bool:=match st with
 | .Global _ _=>true
 | _=>false
def Clo(K:Fg)(F:Hp)(st:Stmt)(a:Addr)(vs:List V):Prop:=Clo0 F st a vs/\isGl st=false\/Mark K st a
theorem bu.clo{K:Fg}{F F':Hp}{st:Stmt}{a:Addr}{vs:List V}(e:bu F F')(h:Clo K F st a vs):Clo K F' st a vs:=by
 rcases h with ⟨h,hg⟩|h
 rotate_left
 ·exact .inr h
 refine .inl ⟨?_,hg⟩;obtain⟨u,q,cl,doc,pm,ctv,c,h1,⟨o,u2,ws,t,h2,h3⟩,h4,h5,h6⟩:=h;exact⟨u,q,cl,doc,pm,ctv,c,e _ _ h1,⟨o,u2,ws,t,e _ _ h2,h3⟩,h4,h5,bu.cells e h6⟩
mutual
def Rep(K:Fg)(F:Hp):D->V->Prop
 | .non,v=>v = .non
 | .bl b,v=>v = .bl b
 | .int i,v=>v = .int i
 | .str x,v=>v = .str (strOf x)/\x.length<=sizeLine
 | .tup xs,v=>xs.length<=sizeLine/\∃a vs,v = .ref a/\SqT K F a vs/\bU K F xs vs
 | .lst xs,v=>xs.length<=sizeLine/\∃a vs,v = .ref a/\F a=some (.lst vs)/\bU K F xs vs
 | .arr xs,v=>xs.length<=sizeLine/\∃a vs,v = .ref a/\SqL K F a vs/\bU K F xs vs
 | .dct kvs,v=>kvs.length<=sizeLine/\∃a ks,v = .ref a/\Rd F a (.dK ks)/\RepKs K F kvs ks
 | .dcn kvs,v=>kvs.length<=sizeLine/\∃a ks,v = .ref a/\Rd F a (.dN ks)/\RepNs K F kvs ks
 | .clo st ds,v=>∃a vs,v = .ref a/\Clo K F st a vs/\bU K F ds vs
def bU(K:Fg)(F:Hp):List D->List V->Prop
 | [],vs=>vs=[]
 | d::ds,vs=>∃v r,vs=v::r/\Rep K F d v/\bU K F ds r
def RepKs(K:Fg)(F:Hp):List (D×D)->List (Key×V)->Prop
 | [],vs=>vs=[]
 | (k,d)::ds,vs=>∃q v r,vs=(q,v)::r/\keyD k=some q/\Rep K F d v/\RepKs K F ds r
def RepNs(K:Fg)(F:Hp):List (D×D)->List (NK×V×V)->Prop
 | [],vs=>vs=[]
 | (k,d)::ds,vs=>∃q u v r,vs=(q,u,v)::r/\nkD k=some q/\q.dep<=8/\Rep K F k u/\Rep K F d v/\RepNs K F ds r
end
theorem bu.rd{F F':Hp}{a:Addr}{u:HO}(e:bu F F')(h:Rd F a u):Rd F' a u:=by
 rcases h with h|⟨o,h⟩
 ·exact .inl (e _ _ h)
 ·exact .inr ⟨o,e _ _ h⟩
theorem bu.tupK{K:Fg}{F F':Hp}{a:Addr}{xs:List V}(e:bu F F')(h:SqT K F a xs):SqT K F' a xs:=by
 rcases h with h|h
 ·exact .inl (bu.rd e h)
 ·exact .inr h
mutual
theorem Rep.mono{K:Fg}{F F':Hp}(e:bu F F'):∀(d:D) (v:V),Rep K F d v->Rep K F' d v
 | .non,_,h=>h
 | .bl _,_,h=>h
 | .int _,_,h=>h
 | .str _,_,h=>h
 | .tup xs,v,h=>by
  obtain⟨z,a,vs,rfl,h1,h2⟩:=h;exact⟨z,a,vs,rfl,bu.tupK e h1,bU.mono e xs vs h2⟩
 | .lst xs,v,h=>by
  obtain⟨z,a,vs,rfl,h1,h2⟩:=h;exact⟨z,a,vs,rfl,e _ _ h1,bU.mono e xs vs h2⟩
 | .arr xs,v,h=>by
  obtain⟨z,a,vs,rfl,h1,h2⟩:=h;exact⟨z,a,vs,rfl,e.seq h1,bU.mono e xs vs h2⟩
 | .dct kvs,v,h=>by
  obtain⟨z,a,ks,rfl,h1,h2⟩:=h;exact⟨z,a,ks,rfl,bu.rd e h1,RepKs.mono e kvs ks h2⟩
 | .dcn kvs,v,h=>by
  obtain⟨z,a,ks,rfl,h1,h2⟩:=h;exact⟨z,a,ks,rfl,bu.rd e h1,RepNs.mono e kvs ks h2⟩
 | .clo st ds,v,h=>by
  obtain⟨a,vs,rfl,h1,h2⟩:=h;exact⟨a,vs,rfl,bu.clo e h1,bU.mono e ds vs h2⟩
theorem bU.mono{K:Fg}{F F':Hp}(e:bu F F'):∀(ds:List D) (vs:List V),bU K F ds vs->bU K F' ds vs
 | [],_,h=>h
 | d::ds,vs,h=>by
  obtain⟨v,r,rfl,h1,h2⟩:=h;exact⟨v,r,rfl,Rep.mono e d v h1,bU.mono e ds r h2⟩
theorem RepKs.mono{K:Fg}{F F':Hp}(e:bu F F'):∀(ds:List (D×D)) (vs:List (Key×V)),RepKs K F ds vs->RepKs K F' ds vs
 | [],_,h=>h
 | (k,d)::ds,vs,h=>by
  obtain⟨q,v,r,rfl,h0,h1,h2⟩:=h;exact⟨q,v,r,rfl,h0,Rep.mono e d v h1,RepKs.mono e ds r h2⟩
theorem RepNs.mono{K:Fg}{F F':Hp}(e:bu F F'):∀(ds:List (D×D)) (vs:List (NK×V×V)),RepNs K F ds vs->RepNs K F' ds vs
 | [],_,h=>h
 | (k,d)::ds,vs,h=>by
  obtain⟨q,u,v,r,rfl,h0,h3,h4,h1,h2⟩:=h;exact⟨q,u,v,r,rfl,h0,h3,Rep.mono e k u h4,Rep.mono e d v h1,RepNs.mono e ds r h2⟩
end
theorem bU.length{K:Fg}{F:Hp}:∀{ds:List D} {vs:List V},bU K F ds vs->vs.length=ds.length
 | [],_,h=>by cases h;rfl
 | d::ds,vs,h=>by
  obtain⟨v,r,rfl,_,h2⟩:=h;rw[Qqk,Qqk,h2.length]
theorem bU.get{K:Fg}{F:Hp}:∀{ds:List D} {vs:List V} {i:Nat} {d:D},bU K F ds vs->ds[i]? = some d->∃v,vs[i]? = some v/\Rep K F d v
 | [],_,_,_,_,e=>by simp at e
 | c::ds,vs,i,d,h,e=>by
  obtain⟨v,r,rfl,h1,h2⟩:=h;cases i with
  | zero=>simp at e;subst e;exact⟨v,rfl,h1⟩
  | succ i=>obtain⟨u,e1,e2⟩:=bU.get h2 (i:=i) (by simpa using e);exact⟨u,by simpa using e1,e2⟩
theorem bU.append{K:Fg}{F:Hp}:∀{ds es:List D} {vs ws:List V},bU K F ds vs->bU K F es ws->bU K F (ds++es) (vs++ws)
 | [],es,vs,ws,h,g=>by cases h;exact g
 | d::ds,es,vs,ws,h,g=>by
  obtain⟨v,r,rfl,h1,h2⟩:=h;exact⟨v,r++ws,rfl,h1,bU.append h2 g⟩
theorem bU.drop{K:Fg}{F:Hp}:∀(n:Nat) {ds:List D} {vs:List V},bU K F ds vs->bU K F (ds.drop n) (vs.drop n)
 | 0,_,_,h=>h
 | _+1,[],_,h=>by cases h;exact rfl
 | n+1,d::ds,vs,h=>by
  obtain⟨v,r,rfl,_,h2⟩:=h;exact bU.drop n h2
theorem bU.take{K:Fg}{F:Hp}:∀(n:Nat) {ds:List D} {vs:List V},bU K F ds vs->bU K F (ds.take n) (vs.take n)
 | 0,_,_,_=>rfl
 | _+1,[],_,h=>by cases h;exact rfl
 | n+1,d::ds,vs,h=>by
  obtain⟨v,r,rfl,h1,h2⟩:=h;exact⟨v,r.take n,rfl,h1,bU.take n h2⟩
theorem bU.reverse{K:Fg}{F:Hp}:∀{ds:List D} {vs:List V},bU K F ds vs->bU K F ds.reverse vs.reverse
 | [],_,h=>by cases h;exact rfl
 | d::ds,vs,h=>by
  obtain⟨v,r,rfl,h1,h2⟩:=h;rw[List.reverse_cons,List.reverse_cons];exact bU.append (bU.reverse h2) ⟨v,[],rfl,h1,rfl⟩
theorem bU.set{K:Fg}{F:Hp}{d:D}{v:V}(hd:Rep K F d v):∀(i:Nat) {ds:List D} {vs:List V},bU K F ds vs->bU K F (ds.set i d) (vs.set i v)
 | _,[],_,h=>by cases h;exact rfl
 | 0,c::ds,vs,h=>by
  obtain⟨u,r,rfl,_,h2⟩:=h;exact⟨v,r,rfl,hd,h2⟩
 | i+1,c::ds,vs,h=>by
  obtain⟨u,r,rfl,h1,h2⟩:=h;exact⟨u,r.set i v,rfl,h1,bU.set hd i h2⟩
theorem bU.one{K:Fg}{F:Hp}{d:D}{v:V}(h:Rep K F d v):bU K F [d] [v]:=⟨v,[],rfl,h,rfl⟩
abbrev Env:=List (Option (Bool×D))
inductive R (α:Type) where
 | ok (a:α) (env:Env)
 | stuck
abbrev Ev:=Env->R D
abbrev EvT:=Env->R Bool
abbrev EvA:=Env->R (List D)
structure Cfg where
 K:Fg
 fx:Nat->Option Addr
def OwnAt(K:Fg)(F H:Hp):D->Addr->Prop
 | .lst xs,a=>xs.length<=sizeLine/\∃vs,H a=some (.lst vs)/\bU K F xs vs
 | .dct kvs,a=>kvs.length<=sizeLine/\∃ks,H a=some (.dK ks)/\RepKs K F kvs ks
 | .dcn kvs,a=>kvs.length<=sizeLine/\∃ks,H a=some (.dN ks)/\RepNs K F kvs ks
 | _,_=>False
theorem OwnAt.mono{K:Fg}{F F' H H':Hp}(e:bu F F'){d:D}{a:Addr}(k:H' a=H a)(h:OwnAt K F H d a):OwnAt K F' H' d a:=by
 cases d with
 | lst xs=>obtain⟨z,vs,h1,h2⟩:=h;exact⟨z,vs,k.trans h1,bU.mono e _ _ h2⟩
 | dct kvs=>obtain⟨z,ks,h1,h2⟩:=h;exact⟨z,ks,k.trans h1,RepKs.mono e _ _ h2⟩
 | dcn kvs=>obtain⟨z,ks,h1,h2⟩:=h;exact⟨z,ks,k.trans h1,RepNs.mono e _ _ h2⟩
 | _=>exact h
theorem OwnAt.some{K:Fg}{F H:Hp}{d:D}{a:Addr}(h:OwnAt K F H d a):∃o,H a=some o:=by
 cases d with
 | lst xs=>obtain⟨z,vs,h1,h2⟩:=h;exact⟨_,h1⟩
 | dct kvs=>obtain⟨z,ks,h1,h2⟩:=h;exact⟨_,h1⟩
 | dcn kvs=>obtain⟨z,ks,h1,h2⟩:=h;exact⟨_,h1⟩
 | _=>exact h.elim
def BRep(K:Fg)(F H:Hp)(d:D)(v:V):Prop:=Rep K F d v\/∃a,v = .ref a/\OwnAt K F H d a
theorem BRep.rep{K:Fg}{F H:Hp}{d:D}{v:V}(s:bu F H)(h:BRep K F H d v):Rep K H d v:=by
 rcases h with h|⟨a,rfl,h⟩
 ·exact Rep.mono s d v h
 ·cases d with
  | lst xs=>obtain⟨z,vs,h1,h2⟩:=h;exact⟨z,a,vs,rfl,h1,bU.mono s _ _ h2⟩
  | dct kvs=>obtain⟨z,ks,h1,h2⟩:=h;exact⟨z,a,ks,rfl,.inl h1,RepKs.mono s _ _ h2⟩
  | dcn kvs=>obtain⟨z,ks,h1,h2⟩:=h;exact⟨z,a,ks,rfl,.inl h1,RepNs.mono s _ _ h2⟩
  | _=>exact h.elim
theorem BRep.lst{K:Fg}{F H:Hp}{xs:List D}{v:V}(s:bu F H)(h:BRep K F H (.lst xs) v):xs.length<=sizeLine/\∃a vs,v = .ref a/\H a=some (.lst vs)/\bU K F xs vs:=by
 rcases h with ⟨z,a,vs,rfl,h1,h2⟩|⟨a,rfl,z,vs,h1,h2⟩
 ·exact⟨z,a,vs,rfl,s _ _ h1,h2⟩
 ·exact⟨z,a,vs,rfl,h1,h2⟩
theorem BRep.arr{K:Fg}{F H:Hp}{xs:List D}{v:V}(s:bu F H)(h:BRep K F H (.arr xs) v):xs.length<=sizeLine/\∃a vs,v = .ref a/\SqL K H a vs/\bU K F xs vs:=by
 rcases h with ⟨z,a,vs,rfl,h1,h2⟩|⟨a,rfl,h⟩
 ·exact⟨z,a,vs,rfl,s.seq h1,h2⟩
 ·exact h.elim
theorem BRep.tup{K:Fg}{F H:Hp}{xs:List D}{v:V}(s:bu F H)(h:BRep K F H (.tup xs) v):xs.length<=sizeLine/\∃a vs,v = .ref a/\SqT K H a vs/\SqT K F a vs/\bU K F xs vs:=by
 rcases h with ⟨z,a,vs,rfl,h1,h2⟩|⟨a,rfl,h⟩
 ·exact⟨z,a,vs,rfl,bu.tupK s h1,h1,h2⟩
 ·exact h.elim
theorem BRep.int{K:Fg}{F H:Hp}{i:Int}{v:V}(h:BRep K F H (.int i) v):v = .int i:=by
 rcases h with h|⟨a,rfl,h⟩
 ·exact h
 ·exact h.elim
theorem BRep.bl{K:Fg}{F H:Hp}{i:Bool}{v:V}(h:BRep K F H (.bl i) v):v = .bl i:=by
 rcases h with h|⟨a,rfl,h⟩
 ·exact h
 ·exact h.elim
theorem BRep.non{K:Fg}{F H:Hp}{v:V}(h:BRep K F H .non v):v = .non:=by
 rcases h with h|⟨a,rfl,h⟩
 ·exact h
 ·exact h.elim
theorem BRep.str{K:Fg}{F H:Hp}{x:List Nat}{v:V}(h:BRep K F H (.str x) v):v = .str (strOf x)/\x.length<=sizeLine:=by
 rcases h with h|⟨a,rfl,h⟩
 ·exact h
 ·exact h.elim
structure Rel(C:Cfg)(Pr F:Hp)(env:Env)(σ:L2.St)(H:Hp):Prop where
 pr:bu Pr H
 fr:bu F H
 len:env.length=σ.length
 val:∀(i:Nat) (d:D),env[i]? = some (some (false,d))->∃v,σ[i]? = some (some v)/\Rep C.K F d v
 own:∀(i:Nat) (d:D),env[i]? = some (some (true,d))->∃a,σ[i]? = some (some (V.ref a))/\OwnAt C.K F H d a/\F a=none/\Pr a=none
 apart:∀(i j:Nat) (d e:D) (a:Addr),env[i]? = some (some (true,d))->env[j]? = some (some (true,e))->σ[i]? = some (some (V.ref a))->σ[j]? = some (some (V.ref a))->i=j
 dj:∀b o,F b=some o->Pr b=none
 fix:∀i a,C.fx i=some a->σ[i]? = some (some (V.ref a))
theorem same_upd{H:Hp}{a:Addr}{o:HO}(h:H a=none):bu H (upd H a o):=λb u e=>by
 rw[bY (ne_of_none e h)];exact e
theorem Rel.new{C:Cfg}{Pr F:Hp}{env:Env}{σ:L2.St}{H:Hp}{a:Addr}{o:HO}(r:Rel C Pr F env σ H)(h:H a=none):Rel C Pr (upd F a o) env σ (upd H a o)/\bu F (upd F a o):=by
 have hF:F a=none:=r.fr.free h;have s1:bu F (upd F a o):=same_upd hF;refine⟨⟨r.pr.trans (same_upd h),λb u e=>?_,r.len,λi d e1=>?_,λi d e1=>?_,r.apart,λb u e=>?_,r.fix⟩,s1⟩
 ·by_cases hb:b=a
  ·subst hb;rw[bJ] at e ⊢;exact e
  ·rw[bY hb] at e ⊢;exact r.fr b u e
 ·obtain⟨v,h1,h2⟩:=r.val i d e1;exact⟨v,h1,Rep.mono s1 d v h2⟩
 ·obtain⟨b,h1,h2,h3,h4⟩:=r.own i d e1;obtain⟨u,hu⟩:=h2.some;have hb:b≠a:=ne_of_none hu h;exact⟨b,h1,h2.mono s1 (bY hb),by rw[bY hb];exact h3,h4⟩
 ·by_cases hb:b=a
  ·subst hb;exact r.pr.free h
  ·rw[bY hb] at e;exact r.dj b u e
theorem Rel.fresh{C:Cfg}{Pr F:Hp}{env:Env}{σ:L2.St}{H:Hp}{a:Addr}{o:HO}(r:Rel C Pr F env σ H)(h:H a=none):Rel C Pr F env σ (upd H a o):=by refine⟨r.pr.trans (same_upd h),r.fr.trans (same_upd h),r.len,r.val,λi d e1=>?_,r.apart,r.dj,r.fix⟩;obtain⟨b,h1,h2,h3,h4⟩:=r.own i d e1;obtain⟨u,hu⟩:=h2.some;have hb:b≠a:=ne_of_none hu h;exact⟨b,h1,h2.mono (bu.refl F) (bY hb),h3,h4⟩
theorem Rel.aside{C:Cfg}{Pr F:Hp}{env:Env}{σ:L2.St}{H:Hp}{a:Addr}{o:HO}(r:Rel C Pr F env σ H)(h:H a=none):Rel C (upd Pr a o) F env σ (upd H a o):=by
 have r':=r.fresh (o:=o) h;have hF:F a=none:=r.fr.free h;refine⟨λb u e=>?_,r'.fr,r.len,r.val,λi d e1=>?_,r.apart,λb u e=>?_,r.fix⟩
 ·by_cases hb:b=a
  ·subst hb;rw[bJ] at e ⊢;exact e
  ·rw[bY hb] at e ⊢;exact r.pr b u e
 ·obtain⟨b,h1,h2,h3,h4⟩:=r'.own i d e1;obtain⟨b',h1',h2',_⟩:=r.own i d e1;rw[h1] at h1';cases h1';obtain⟨u,hu⟩:=h2'.some;have hb:b≠a:=ne_of_none hu h;exact⟨b,h1,h2,h3,by rw[bY hb];exact h4⟩
 ·have hb:b≠a:=λz=>by rw[z,hF] at e;cases e
  rw[bY hb];exact r.dj b u e
theorem Rel.turn{C:Cfg}{Pr F:Hp}{env:Env}{σ:L2.St}{H:Hp}{a:Addr}{o u:HO}(r:Rel C Pr F env σ H)(h:Pr a=some o):Rel C (upd Pr a u) F env σ (upd H a u):=by
 have hF:F a=none:=by
  cases e:F a with
  | none=>rfl
  | some w=>have:=r.dj a w e;rw[h] at this;cases this
 refine⟨λb w e=>?_,λb w e=>?_,r.len,r.val,λi d e1=>?_,r.apart,λb w e=>?_,r.fix⟩
 ·by_cases hb:b=a
  ·subst hb;rw[bJ] at e ⊢;exact e
  ·rw[bY hb] at e ⊢;exact r.pr b w e
 ·have hb:b≠a:=λz=>by rw[z,hF] at e;cases e
  rw[bY hb];exact r.fr b w e
 ·obtain⟨b,h1,h2,h3,h4⟩:=r.own i d e1;have hb:b≠a:=λz=>by rw[z,h] at h4;cases h4
  exact⟨b,h1,h2.mono (bu.refl F) (bY hb),h3,by rw[bY hb];exact h4⟩
 ·have hb:b≠a:=λz=>by rw[z,hF] at e;cases e
  rw[bY hb];exact r.dj b w e
theorem Rel.less{C:Cfg}{Pr Pr' F:Hp}{env:Env}{σ:L2.St}{H:Hp}(r:Rel C Pr F env σ H)(s:bu Pr' Pr):Rel C Pr' F env σ H:=
 ⟨s.trans r.pr,r.fr,r.len,r.val,λi d e=>let ⟨b,h1,h2,h3,h4⟩:=r.own i d e;⟨b,h1,h2,h3,s.free h4⟩,r.apart,λb o e=>s.free (r.dj b o e),r.fix⟩
theorem Rel.freeze{C:Cfg}{Pr F:Hp}{env:Env}{σ:L2.St}{H:Hp}(r:Rel C Pr F env σ H){i:Nat}{d:D}(h:env[i]? = some (some (true,d))) :
  ∃(F':Hp) (v:V),Rel C Pr F' (env.set i (some (false,d))) σ H/\bu F F'/\σ[i]? = some (some v)/\Rep C.K F' d v:=by
 obtain⟨a,h1,h2,h3,h4⟩:=r.own i d h;obtain⟨o,ho⟩:=h2.some;have s1:bu F (upd F a o):=same_upd h3;have hi:i<env.length:=(Qq4.mp h).1;have rep:Rep C.K (upd F a o) d (.ref a):=by
  cases d with
  | lst xs=>obtain⟨z,vs,g1,g2⟩:=h2;rw[ho] at g1;cases g1;exact⟨z,a,vs,rfl,bJ,bU.mono s1 _ _ g2⟩
  | dct kvs=>obtain⟨z,ks,g1,g2⟩:=h2;rw[ho] at g1;cases g1;exact⟨z,a,ks,rfl,.inl bJ,RepKs.mono s1 _ _ g2⟩
  | dcn kvs=>obtain⟨z,ks,g1,g2⟩:=h2;rw[ho] at g1;cases g1;exact⟨z,a,ks,rfl,.inl bJ,RepNs.mono s1 _ _ g2⟩
  | _=>exact h2.elim
 refine⟨upd F a o,.ref a,⟨r.pr,λb u e=>?_,by rw[Qx1];exact r.len,λj e he=>?_,λj e he=>?_,λj k e f b hj hk g1 g2=>?_,λb u e=>?_,r.fix⟩,s1,h1,rep⟩
 ·by_cases hb:b=a
  ·subst hb;rw[bJ] at e;cases e;exact ho
  ·rw[bY hb] at e;exact r.fr b u e
 ·by_cases hj:j=i
  ·subst hj;rw[Qwk hi] at he;cases he;exact⟨_,h1,rep⟩
  ·rw[Qwx (Ne.symm hj)] at he;obtain⟨v,g1,g2⟩:=r.val j e he;exact⟨v,g1,Rep.mono s1 e v g2⟩
 ·by_cases hj:j=i
  ·subst hj;rw[Qwk hi] at he;cases he
  ·rw[Qwx (Ne.symm hj)] at he;obtain⟨b,g1,g2,g3,g4⟩:=r.own j e he;have hb:b≠a:=λz=>hj (r.apart j i e d a he h (by rw[<-z];exact g1) h1);exact⟨b,g1,g2.mono s1 rfl,by rw[bY hb];exact g3,g4⟩
 ·have nj:j≠i:=λz=>by subst z;rw[Qwk hi] at hj;cases hj
  have nk:k≠i:=λz=>by subst z;rw[Qwk hi] at hk;cases hk
  rw[Qwx (Ne.symm nj)] at hj;rw[Qwx (Ne.symm nk)] at hk;exact r.apart j k e f b hj hk g1 g2
 ·by_cases hb:b=a
  ·subst hb;exact h4
  ·rw[bY hb] at e;exact r.dj b u e
def tE(C:Cfg)(ev:Ev):TE:=λσ H Q=>∃(Pr F:Hp) (env env':Env) (d:D),Rel C Pr F env σ H/\ev env = .ok d env'/\
 ∀v H' F',Rel C Pr F' env' σ H'->bu F F'->Rep C.K F' d v->Q v H'
def tRd(C:Cfg)(ev:Ev):TE:=λσ H Q=>∃(Pr F:Hp) (env env':Env) (d:D),Rel C Pr F env σ H/\ev env = .ok d env'/\
 ∀v H' F',Rel C Pr F' env' σ H'->bu F F'->BRep C.K F' H' d v->Q v H'
def tT(C:Cfg)(ev:EvT):TT:=λσ H Q=>∃(Pr F:Hp) (env env':Env) (b:Bool),Rel C Pr F env σ H/\ev env = .ok b env'/\
 ∀H' F',Rel C Pr F' env' σ H'->bu F F'->Q b H'
def tA(C:Cfg)(ev:EvA):TA:=λσ H Q=>∃(Pr F:Hp) (env env':Env) (ds:List D),Rel C Pr F env σ H/\ev env = .ok ds env'/\
 ∀vs H' F',Rel C Pr F' env' σ H'->bu F F'->bU C.K F' ds vs->Q vs H'
def PX(X:Cx)(C:Cfg)(e:Expr)(ev:Ev):Prop:=PE X e (tE C ev)
def PXB(X:Cx)(C:Cfg)(e:Expr)(ev:Ev):Prop:=PE X e (tRd C ev)
def PXT(X:Cx)(C:Cfg)(e:Expr)(ev:EvT):Prop:=PT X e (tT C ev)
def PXA(X:Cx)(C:Cfg)(es:List Expr)(ev:EvA):Prop:=PA X es (tA C ev)
theorem _root_.L2.PE.imp{X:Cx}{e:Expr}{t t':TE}(h:PE X e t)(i:∀σ H Q,t' σ H Q->t σ H Q):PE X e t':=λpins s σ H Q I q=>h pins s σ H Q I (i σ H Q q)
theorem _root_.L2.PT.imp{X:Cx}{e:Expr}{t t':TT}(h:PT X e t)(i:∀σ H Q,t' σ H Q->t σ H Q):PT X e t':=λpins s σ H Q I q=>h pins s σ H Q I (i σ H Q q)
theorem _root_.L2.PW.imp{X:Cx}{e:Expr}{t t':TT}(h:PW X e t)(i:∀σ H Q,t' σ H Q->t σ H Q):PW X e t':=λwhole pins s σ H Q I q=>h whole pins s σ H Q I (i σ H Q q)
theorem _root_.L2.PA.imp{X:Cx}{e:List Expr}{t t':TA}(h:PA X e t)(i:∀σ H Q,t' σ H Q->t σ H Q):PA X e t':=λpos pins s σ H Q I q=>h pos pins s σ H Q I (i σ H Q q)
theorem _root_.L2.PS.imp{X:Cx}{e:Stmt}{t t':TS}(h:PS X e t)(i:∀D σ H,t' D σ H->t D σ H):PS X e t':=λpins s σ H D I q=>h pins s σ H D I (i D σ H q)
theorem _root_.L2.PSs.imp{X:Cx}{e:List Stmt}{t t':TS}(h:PSs X e t)(i:∀D σ H,t' D σ H->t D σ H):PSs X e t':=λpins s σ H D I q=>h pins s σ H D I (i D σ H q)
def bindR{α β:Type}(x:R α)(f:α->Env->R β):R β:=match x with
 | .ok a env=>f a env
 | .stuck=>.stuck
def liftR{α:Type}(o:Option α)(env:Env):R α:=match o with
 | some a=>.ok a env
 | none=>.stuck
theorem aU{α β:Type}{x:R α}{f:α->Env->R β}{b:β}{env':Env}(h:bindR x f = .ok b env'):∃a aO,x = .ok a aO/\f a aO = .ok b env':=by
 cases x with
 | ok a aO=>exact⟨a,aO,rfl,h⟩
 | stuck=>cases h
theorem cM{α:Type}{o:Option α}{env env':Env}{a:α}(h:liftR o env = .ok a env'):o=some a/\env'=env:=by
 cases o with
 | some b=>cases h;exact⟨rfl,rfl⟩
 | none=>cases h
section
variable{X:Cx}{C:Cfg}{pos:Pos}
def aQ(i:Nat):Ev:=λenv=>match env[i]? with
 | some (some (false,d))=>.ok d env
 | some (some (true,d))=>.ok d (env.set i (some (false,d)))
 | _=>.stuck
theorem px_var(i:Nat){x:Str}(hN:X.N[i]? = some x)(hv:Vis X.env.scope x)(hd:nDb x:=by decide)(hcd:nCd x:=by decide):PX X C (.Name x pos) (aQ i):=by
 refine(pe_var hN hv hd hcd).imp λσ H Q h=>?_;obtain⟨Pr,F,env,env',d,r,e,q⟩:=h;unfold aQ at e;split at e
 ·rename_i d' hd';cases e;obtain⟨v,h1,h2⟩:=r.val i d hd';exact⟨v,h1,q v H F r (bu.refl F) h2⟩
 ·rename_i d' hd';cases e;obtain⟨F',v,r',s',h1,h2⟩:=r.freeze hd';exact⟨v,h1,q v H F' r' s' h2⟩
 ·cases e
theorem PX.b{e:Expr}{ev:Ev}(h:PX X C e ev):PXB X C e ev:=PE.imp h λσ H Q hq=>by
 obtain⟨Pr,F,env,env',d,r,e,q⟩:=hq;exact⟨Pr,F,env,env',d,r,e,λv H' F' r' s' p'=>q v H' F' r' s' (.inl p')⟩
def bB(i:Nat):Ev:=λenv=>match env[i]? with
 | some (some (_,d))=>.ok d env
 | _=>.stuck
theorem Rel.rd{Pr F:Hp}{env:Env}{σ:L2.St}{H:Hp}(r:Rel C Pr F env σ H){i:Nat}{o:Bool}{d:D}(h:env[i]? = some (some (o,d))):∃v,σ[i]? = some (some v)/\BRep C.K F H d v:=by
 cases o with
 | true=>obtain⟨a,h1,h2,_⟩:=r.own i d h;exact⟨_,h1,.inr ⟨a,rfl,h2⟩⟩
 | false=>obtain⟨v,h1,h2⟩:=r.val i d h;exact⟨v,h1,.inl h2⟩
theorem pxb_var(i:Nat){x:Str}(hN:X.N[i]? = some x)(hv:Vis X.env.scope x)(hd:nDb x:=by decide)(hcd:nCd x:=by decide):PXB X C (.Name x pos) (bB i):=by
 refine(pe_var hN hv hd hcd).imp λσ H Q h=>?_;obtain⟨Pr,F,env,env',d,r,e,q⟩:=h;unfold bB at e;split at e
 ·rename_i o' d' hd';cases e;obtain⟨v,h1,h2⟩:=r.rd hd';exact⟨v,h1,q v H F r (bu.refl F) h2⟩
 ·cases e
def evC(d:D):Ev:=λenv=>.ok d env
theorem px_int{i:Int}{j:Nat}:PX X C (.Constant (.int i) j pos) (evC (.int i)):=pe_int.imp λσ H Q h=>by
 obtain⟨Pr,F,env,env',d,r,e,q⟩:=h;cases e;exact q _ _ F r (bu.refl F) rfl
theorem px_bl{b:Bool}{j:Nat}:PX X C (.Constant (.bool b) j pos) (evC (.bl b)):=pe_bl.imp λσ H Q h=>by
 obtain⟨Pr,F,env,env',d,r,e,q⟩:=h;cases e;exact q _ _ F r (bu.refl F) rfl
theorem px_non{j:Nat}:PX X C (.Constant .none j pos) (evC .non):=pe_non.imp λσ H Q h=>by
 obtain⟨Pr,F,env,env',d,r,e,q⟩:=h;cases e;exact q _ _ F r (bu.refl F) rfl
def aj:EvA:=λenv=>.ok [] env
def aa(a:Ev)(r:EvA):EvA:=λenv=>bindR (a env) λd aO=>bindR (r aO) λds bZ=>.ok (d::ds) bZ
theorem pxa_nil:PXA X C [] aj:=pa_nil.imp λσ H Q h=>by
 obtain⟨Pr,F,env,env',d,r,e,q⟩:=h;cases e;exact q _ _ F r (bu.refl F) rfl
theorem pxa_cons{e:Expr}{es:List Expr}{a:Ev}{r:EvA}(ha:PX X C e a)(hr:PXA X C es r)(hs:starEach (e::es) X.env=(false,eval e X.env)::starEach es X.env:=by rfl):PXA X C (e::es) (aa a r):=
 (pa_cons ha hr hs).imp λσ H Q h=>by
  obtain⟨Pr,F,env,env',ds,rl,e,q⟩:=h;obtain⟨d1,aO,e1,e2⟩:=aU e;obtain⟨ds2,bZ,e3,e4⟩:=aU e2;cases e4;refine⟨Pr,F,env,aO,d1,rl,e1,λv H1 F1 r1 s1 p1=>?_⟩;refine⟨Pr,F1,aO,env',ds2,r1,e3,λvs H2 F2 r2 s2 p2=>?_⟩;exact q _ H2 F2 r2 (s1.trans s2) ⟨v,vs,rfl,Rep.mono s2 d1 v p1,p2⟩
def evTup(r:EvA):Ev:=λenv=>bindR (r env) λds aO=>if ds.length<=sizeLine then .ok (.tup ds) aO else .stuck
def cW(r:EvA):Ev:=λenv=>bindR (r env) λds aO=>if ds.length<=sizeLine then .ok (.lst ds) aO else .stuck
def aG(g:D->D->Option D)(a b:Ev):Ev:=λenv=>bindR (a env) λx aO=>bindR (b aO) λy bZ=>liftR (g x y) bZ
def evUn(g:D->Option D)(a:Ev):Ev:=λenv=>bindR (a env) λx aO=>liftR (g x) aO
def OpD(C:Cfg)(r:R2)(g:D->D->Option D):Prop:=∀(Pr F:Hp) (env:Env) (σ:L2.St) (H:Hp) (x y d:D) (vx vy:V) (Q:VK),Rel C Pr F env σ H->BRep C.K F H x vx->BRep C.K F H y vy->g x y=some d->
 (∀v H' F',Rel C Pr F' env σ H'->bu F F'->Rep C.K F' d v->Q v H')->r vx vy H Q
def UnD(C:Cfg)(r:V->Hp->VK->Prop)(g:D->Option D):Prop:=∀(Pr F:Hp) (env:Env) (σ:L2.St) (H:Hp) (x d:D) (vx:V) (Q:VK),Rel C Pr F env σ H->BRep C.K F H x vx->g x=some d->
 (∀v H' F',Rel C Pr F' env σ H'->bu F F'->Rep C.K F' d v->Q v H')->r vx H Q
theorem bin_go{r:R2}{g:D->D->Option D}{a b:Ev}(o:OpD C r g)(σ:L2.St)(H:Hp)(Q:VK)(h:tE C (aG g a b) σ H Q):tOp r (tE C a) (tRd C b) σ H Q:=by obtain⟨Pr,F,env,env',d,rl,e,q⟩:=h;obtain⟨x,aO,e1,e2⟩:=aU e;obtain⟨y,bZ,e3,e4⟩:=aU e2;obtain⟨e5,rfl⟩:=cM e4;refine⟨Pr,F,env,aO,x,rl,e1,λvx H1 F1 r1 s1 p1=>⟨Pr,F1,aO,env',y,r1,e3,λvy H2 F2 r2 s2 p2=>?_⟩⟩;exact o Pr F2 env' σ H2 x y d vx vy Q r2 (.inl (Rep.mono s2 x vx p1)) p2 e5 λv H3 F3 r3 s3 p3=>q v H3 F3 r3 ((s1.trans s2).trans s3) p3
def aq(g:D->D->Option D)(i:Nat)(b:Ev):Ev:=λenv=>match env[i]? with
 | some (some (_,_))=>bindR (b env) λy bZ=>(match bZ[i]? with
  | some (some (_,x))=>liftR (g x y) bZ
  | _=>.stuck)
 | _=>.stuck
theorem binO_go{r:R2}{g:D->D->Option D}{i:Nat}{b:Ev}(o:OpD C r g)(σ:L2.St)(H:Hp)(Q:VK)(h:tE C (aq g i b) σ H Q):tOp r (tVar i) (tRd C b) σ H Q:=by
 obtain⟨Pr,F,env,env',d,rl,e,q⟩:=h;unfold aq at e;split at e
 ·rename_i o0 d0 h0;obtain⟨v,hv,_⟩:=rl.rd h0;obtain⟨y,bZ,e1,e2⟩:=aU e;split at e2
  ·rename_i o2 x h2;obtain⟨e5,rfl⟩:=cM e2;refine⟨v,hv,Pr,F,env,env',y,rl,e1,λvy H2 F2 r2 s2 p2=>?_⟩;obtain⟨v',hv',p⟩:=r2.rd h2;rw[hv] at hv';cases hv';exact o Pr F2 env' σ H2 x y d v vy Q r2 p p2 e5 λv H3 F3 r3 s3 p3=>q v H3 F3 r3 (s2.trans s3) p3
  ·cases e2
 ·cases e
theorem px_op{op:Operator}{r:R2}{g:D->D->Option D}{x y:Expr}{a b:Ev}(ho:OpR X (binaryOp op) r)(o:OpD C r g)(ha:PX X C x a)(hb:PXB X C y b):PX X C (.BinOp x op y pos) (aG g a b):=
 (pe_op ho ha hb).imp (bin_go o)
theorem px_opO{op:Operator}{r:R2}{g:D->D->Option D}{y:Expr}{b:Ev}{px:Pos}(i:Nat){x:Str}(hN:X.N[i]? = some x)(hv:Vis X.env.scope x)(ho:OpR X (binaryOp op) r)(o:OpD C r g)(hb:PXB X C y b)
  (hd:nDb x:=by decide) (hcd:nCd x:=by decide):PX X C (.BinOp (.Name x px) op y pos) (aq g i b):=
 (pe_op ho (pe_var hN hv hd hcd) hb).imp (binO_go o)
theorem px_cmp{op:CmpOp}{r:R2}{g:D->D->Option D}{x y:Expr}{a b:Ev}(ho:OpR X (compareOp op) r)(o:OpD C r g)(ha:PX X C x a)(hb:PXB X C y b)(hm:behindInMarks op y=false):PX X C (.Compare x [op] [y] pos) (aG g a b):=
 (pe_cmpR ho ha hb hm).imp (bin_go o)
theorem px_un{op:UnaryOp}{r:V->Hp->VK->Prop}{g:D->Option D}{x:Expr}{a:Ev}(ho:UnR X (unaryOp op) r)(o:UnD C r g)(ha:PX X C x a):PX X C (.UnaryOp op x pos) (evUn g a):=
 (pe_un ho ha).imp λσ H Q h=>by
  obtain⟨Pr,F,env,env',d,rl,e,q⟩:=h;obtain⟨x,aO,e1,e2⟩:=aU e;obtain⟨e3,rfl⟩:=cM e2;exact⟨Pr,F,env,env',x,rl,e1,λvx H1 F1 r1 s1 p1=>o Pr F1 env' σ H1 x d vx Q r1 (.inl p1) e3 λv H3 F3 r3 s3 p3=>q v H3 F3 r3 (s1.trans s3) p3⟩
def cU(a:Ev):EvT:=λenv=>bindR (a env) λd aO=>match d with
 | .bl b=>.ok b aO
 | _=>.stuck
theorem tB_go{a:Ev}{σ:L2.St}{H:Hp}{Q:Bool->Hp->Prop}(h:tT C (cU a) σ H Q):tE C a σ H λx H'=>∃k,x = .bl k/\Q k H':=by
 obtain⟨Pr,F,env,env',b,rl,e,q⟩:=h;obtain⟨d,aO,e1,e2⟩:=aU e;refine⟨Pr,F,env,aO,d,rl,e1,λv H1 F1 r1 s1 p1=>?_⟩;cases d with
 | bl c=>cases e2;exact⟨_,p1,q H1 F1 r1 s1⟩
 | _=>cases e2
theorem pxt_cmp{op:CmpOp}{r:R2}{g:D->D->Option D}{x y:Expr}{a b:Ev}(ho:OpR X (compareOp op) r)(o:OpD C r g)(ha:PX X C x a)(hb:PXB X C y b)(hm:behindInMarks op y=false):PXT X C (.Compare x [op] [y] pos) (cU (aG g a b)):=
 (pt_cmpR ho ha hb hm).imp λσ H Q h=>by
  have h1:=tB_go h;exact bin_go o σ H _ h1
def evNotT(a:EvT):EvT:=λenv=>bindR (a env) λb aO=>.ok (!b) aO
def evAndT(a b:EvT):EvT:=λenv=>bindR (a env) λc aO=>if c=true then b aO else .ok false aO
def evOrT(a b:EvT):EvT:=λenv=>bindR (a env) λc aO=>if c=true then .ok true aO else b aO
def PXW(X:Cx)(C:Cfg)(e:Expr)(ev:EvT):Prop:=PW X e (tT C ev)
theorem PXW.pt{e:Expr}{a:EvT}(h:PXW X C e a):PXT X C e a:=PW.pt h
def evAnd(a b:Ev):Ev:=λenv=>bindR (a env) λc aO=>match c with
 | .bl true=>b aO
 | .bl false=>.ok (.bl false) aO
 | _=>.stuck
def evOr(a b:Ev):Ev:=λenv=>bindR (a env) λc aO=>match c with
 | .bl true=>.ok (.bl true) aO
 | .bl false=>b aO
 | _=>.stuck
def evIf(t:EvT)(a b:Ev):Ev:=λenv=>bindR (t env) λc aO=>if c=true then a aO else b aO
end
def eqL(f:D->D->Option Bool):List D->List D->Option Bool
 | [],[]=>some true
 | x::xs,y::ys=>match f x y,eqL f xs ys with
  | some a,some b=>some (a&&b)
  | _,_=>none
 | [],_::_=>some false
 | _::_,[]=>some false
def bI:Nat->D->D->Option Bool
 | 0,_,_=>none
 | n+1,.tup xs,.tup ys=>eqL (bI n) xs ys
 | n+1,.lst xs,.lst ys=>eqL (bI n) xs ys
 | _+1,.dct _,_=>none
 | _+1,.dcn _,_=>none
 | _+1,.clo _ _,_=>none
 | _+1,_,.dct _=>none
 | _+1,_,.dcn _=>none
 | _+1,_,.clo _ _=>none
 | _+1,.arr _,_=>none
 | _+1,_,.arr _=>none
 | _+1,.non,.non=>some true
 | _+1,.bl a,.bl b=>some (a == b)
 | _+1,.bl a,.int b=>some ((if a then 1 else 0) == b)
 | _+1,.int a,.bl b=>some (a == (if b then 1 else 0))
 | _+1,.int a,.int b=>some (a == b)
 | _+1,.str a,.str b=>some (a == b)
 | _+1,_,_=>some false
mutual
def Sh(h:Heap):D->Value->Prop
 | .non,u=>u = .none
 | .bl b,u=>u = .bool b
 | .int i,u=>∃t,u = .int i t
 | .str x,u=>∃t,u = .str (strOf x) t
 | .tup xs,u=>∃a its,u = .ref a/\IsTup h a its.toArray/\Shs h xs its
 | .lst xs,u=>∃a its,u = .ref a/\PlainL h a its.toArray/\Shs h xs its
 | .arr xs,u=>∃a its,u = .ref a/\PlainL h a its.toArray/\Shs h xs its
 | .dct _,u=>∃a o,u = .ref a/\h.get? a=some o/\o.ExactDict
 | .dcn _,u=>∃a o,u = .ref a/\h.get? a=some o/\o.ExactDict
 | .clo _ _,u=>∃a,u = .ref a
def Shs(h:Heap):List D->List Value->Prop
 | [],us=>us=[]
 | d::ds,us=>∃u r,us=u::r/\Sh h d u/\Shs h ds r
end
theorem Shs.length{h:Heap}:∀{ds:List D} {us:List Value},Shs h ds us->us.length=ds.length
 | [],_,e=>by cases e;rfl
 | d::ds,us,e=>by obtain⟨u,r,rfl,_,h2⟩:=e;rw[Qqk,Qqk,h2.length]
section
variable{X:Cx}{pins:List (Addr×Obj)}{σ:L2.St}{H:Hp}{s:Shared}
mutual
theorem Rep.sh(I:Inv X pins σ H s):∀(d:D) (v:V) (u:Value),Rep X.K H d v->RelV v u->Sh s.heap d u
 | .non,_,_,h,r=>by cases h;exact r
 | .bl _,_,_,h,r=>by cases h;exact r
 | .int _,_,_,h,r=>by cases h;exact r
 | .str _,_,_,h,r=>by obtain⟨h,_⟩:=h;cases h;exact r
 | .tup xs,v,u,h,r=>by
  obtain⟨z,a,vs,rfl,h1,h2⟩:=h;cases r;obtain⟨its,rv,p,_⟩:=I.tuple h1;exact⟨a,its,rfl,p,bU.sh I xs vs its h2 rv⟩
 | .lst xs,v,u,h,r=>by
  obtain⟨z,a,vs,rfl,h1,h2⟩:=h;cases r;obtain⟨its,rv,p,_⟩:=I.list (SqL.of h1);exact⟨a,its,rfl,p,bU.sh I xs vs its h2 rv⟩
 | .arr xs,v,u,h,r=>by
  obtain⟨z,a,vs,rfl,h1,h2⟩:=h;cases r;obtain⟨its,rv,p,_⟩:=I.list h1;exact⟨a,its,rfl,p,bU.sh I xs vs its h2 rv⟩
 | .dct kvs,v,u,h,r=>by
  obtain⟨z,a,ks,rfl,h1,h2⟩:=h;cases r;obtain⟨_,_,vs,_,o,_,_,e,ex,_⟩:=h1.ok I.hok;exact⟨a,o,rfl,e,ex⟩
 | .dcn kvs,v,u,h,r=>by
  obtain⟨z,a,ks,rfl,h1,h2⟩:=h;cases r;obtain⟨_,_,vs,_,o,_,_,e,ex,_⟩:=h1.ok I.hok;exact⟨a,o,rfl,e,ex⟩
 | .clo st ds,v,u,h,r=>by
  obtain⟨a,vs,rfl,h1,h2⟩:=h;cases r;exact⟨a,rfl⟩
theorem bU.sh(I:Inv X pins σ H s):∀(ds:List D) (vs:List V) (us:List Value),bU X.K H ds vs->Vals vs us->Shs s.heap ds us
 | [],_,_,h,r=>by cases h;cases r;exact rfl
 | d::ds,vs,us,h,r=>by
  obtain⟨v,rr,rfl,h1,h2⟩:=h;cases r with
  | cons q qs=>exact⟨_,_,rfl,Rep.sh I d v _ h1 q,bU.sh I ds rr _ h2 qs⟩
end
end
theorem tup_inj{h:Heap}{a:Addr}{xs ys:Array Value}(p:IsTup h a xs)(q:IsTup h a ys):xs=ys:=by obtain⟨o,e,_,n,d⟩:=p;obtain⟨o',e',_,n',d'⟩:=q;rw[e] at e';cases e';rw[d] at d';cases d';rfl
theorem lst_inj{h:Heap}{a:Addr}{xs ys:Array Value}(p:PlainL h a xs)(q:PlainL h a ys):xs=ys:=by obtain⟨o,e,_,n,d⟩:=p.isList;obtain⟨o',e',_,n',d'⟩:=q.isList;rw[e] at e';cases e';rw[d] at d';cases d';rfl
theorem tup_lst{h:Heap}{a:Addr}{xs ys:Array Value}(p:IsTup h a xs)(q:PlainL h a ys):False:=by obtain⟨o,e,c,n,d⟩:=p;obtain⟨o',e',c',n',d'⟩:=q.isList;rw[e] at e';cases e';rw[c] at c';simp at c'
theorem eqN_same{h:Heap}:∀(n:Nat) (d e:D) (u:Value) (b:Bool),Sh h d u->Sh h e u->bI n d e=some b->b=true
 | 0,_,_,_,_,_,_,hb=>by simp[bI] at hb
 | n+1,d,e,u,b,hd,he,hb=>by
  have all:∀(xs ys:List D) (us:List Value) (b:Bool),Shs h xs us->Shs h ys us->eqL (bI n) xs ys=some b->b=true:=by
   intro xs
   induction xs with
   | nil=>
    intro ys us b h1 h2 hb;cases h1;cases ys with
    | nil=>simp[eqL] at hb;exact hb
    | cons y ys=>obtain⟨u,r,q,_⟩:=h2;cases q
   | cons x xs ih=>
    intro ys us b h1 h2 hb;obtain⟨u,r,rfl,h3,h4⟩:=h1;cases ys with
    | nil=>cases h2
    | cons y ys=>
     obtain⟨u',r',q,h5,h6⟩:=h2;cases q;unfold eqL at hb;cases q1:bI n x y with
     | none=>rw[q1] at hb;simp at hb
     | some c=>
      cases q2:eqL (bI n) xs ys with
      | none=>rw[q1,q2] at hb;simp at hb
      | some c'=>
       rw[q1,q2] at hb;have e1:=eqN_same n x y u c h3 h5 q1;have e2:=ih ys r c' h4 h6 q2;subst e1 e2;simp at hb;exact hb
  cases d with
  | non=>cases hd;cases e<;>simp[Sh] at he;simp[bI] at hb;exact hb
  | bl c=>cases hd;cases e<;>simp[Sh] at he;subst he;simp[bI] at hb;exact hb
  | int i=>obtain⟨t,rfl⟩:=hd;cases e<;>simp[Sh] at he;subst he;simp[bI] at hb;exact hb
  | str x=>
   obtain⟨t,rfl⟩:=hd;cases e with
   | str y=>
    obtain⟨t',q⟩:=he;injection q with q1 _
    unfold strOf at q1;injection q1 with q2
    have q3:=Qzq Array.toList q2;simp at q3;subst q3;simp[bI] at hb;exact hb
   | _=>simp[Sh] at he
  | tup xs=>
   obtain⟨a,its,rfl,p,hs⟩:=hd;cases e with
   | tup ys=>
    obtain⟨a',its',q,p',hs'⟩:=he;cases q;have e2:its=its':=by simpa using tup_inj p p'
    subst e2;exact all xs ys its b hs hs' (by simpa only[bI] using hb)
   | lst ys=>
    obtain⟨a',its',q,p',hs'⟩:=he;cases q;exact(tup_lst p p').elim
   | dct kvs=>simp[bI] at hb
   | dcn kvs=>simp[bI] at hb
   | clo _ _=>simp[bI] at hb
   | arr kvs=>simp[bI] at hb
   | _=>simp[Sh] at he
  | lst xs=>
   obtain⟨a,its,rfl,p,hs⟩:=hd;cases e with
   | lst ys=>
    obtain⟨a',its',q,p',hs'⟩:=he;cases q;have e2:its=its':=by simpa using lst_inj p p'
    subst e2;exact all xs ys its b hs hs' (by simpa only[bI] using hb)
   | tup ys=>
    obtain⟨a',its',q,p',hs'⟩:=he;cases q;exact(tup_lst p' p).elim
   | dct kvs=>simp[bI] at hb
   | dcn kvs=>simp[bI] at hb
   | clo _ _=>simp[bI] at hb
   | arr kvs=>simp[bI] at hb
   | _=>simp[Sh] at he
  | dct kvs=>cases e<;>simp[bI] at hb
  | dcn kvs=>cases e<;>simp[bI] at hb
  | clo _ _=>cases e<;>simp[bI] at hb
  | arr kvs=>cases e<;>simp[bI] at hb
theorem eqN_det{h:Heap}:∀(n:Nat) (d d' e:D) (u:Value) (b b':Bool),Sh h d u->Sh h d' u->bI n d e=some b->bI n d' e=some b'->b=b'
 | 0,_,_,_,_,_,_,_,_,hb,_=>by simp[bI] at hb
 | n+1,d,d',e,u,b,b',hd,hd',hb,hb'=>by
  have all:∀(xs xs' ys:List D) (us:List Value) (b b':Bool),Shs h xs us->Shs h xs' us->eqL (bI n) xs ys=some b->eqL (bI n) xs' ys=some b'->b=b':=by
   intro xs
   induction xs with
   | nil=>
    intro xs' ys us b b' h1 h2 hb hb';cases h1;cases xs' with
    | nil=>rw[hb] at hb';exact Qw1 hb'
    | cons y ys=>obtain⟨u,r,q,_⟩:=h2;cases q
   | cons x xs ih=>
    intro xs' ys us b b' h1 h2 hb hb';obtain⟨u,r,rfl,h3,h4⟩:=h1;cases xs' with
    | nil=>cases h2
    | cons x' xs'=>
     obtain⟨u',r',q,h5,h6⟩:=h2;cases q;cases ys with
     | nil=>simp[eqL] at hb hb';rw[hb,hb']
     | cons y ys=>
      unfold eqL at hb hb';cases q1:bI n x y with
      | none=>rw[q1] at hb;simp at hb
      | some c=>
       cases q2:eqL (bI n) xs ys with
       | none=>rw[q1,q2] at hb;simp at hb
       | some c2=>
        cases q3:bI n x' y with
        | none=>rw[q3] at hb';simp at hb'
        | some c3=>
         cases q4:eqL (bI n) xs' ys with
         | none=>rw[q3,q4] at hb';simp at hb'
         | some c4=>
          rw[q1,q2] at hb;rw[q3,q4] at hb';have e1:=eqN_det n x x' y u c c3 h3 h5 q1 q3;have e2:=ih xs' ys r c2 c4 h4 h6 q2 q4;subst e1 e2;simp at hb hb';rw[<-hb,<-hb']
  cases d with
  | non=>cases hd;cases d'<;>simp[Sh] at hd';rw[hb] at hb';exact Qw1 hb'
  | bl c=>cases hd;cases d'<;>simp[Sh] at hd';subst hd';rw[hb] at hb';exact Qw1 hb'
  | int i=>obtain⟨t,rfl⟩:=hd;cases d'<;>simp[Sh] at hd';subst hd';rw[hb] at hb';exact Qw1 hb'
  | str x=>
   obtain⟨t,rfl⟩:=hd;cases d' with
   | str y=>
    obtain⟨t',q⟩:=hd';injection q with q1 _
    unfold strOf at q1;injection q1 with q2
    have q3:=Qzq Array.toList q2;simp at q3;subst q3;rw[hb] at hb';exact Qw1 hb'
   | _=>simp[Sh] at hd'
  | tup xs=>
   obtain⟨a,its,rfl,p,hs⟩:=hd;cases d' with
   | tup xs'=>
    obtain⟨a',its',q,p',hs'⟩:=hd';cases q;have e2:its=its':=by simpa using tup_inj p p'
    subst e2;cases e with
    | tup ys=>exact all xs xs' ys its b b' hs hs' (by simpa only[bI] using hb) (by simpa only[bI] using hb')
    | _=>first|(simp[bI] at hb;done)|(simp only[bI,Qw2] at hb hb';rw[<-hb,<-hb'])
   | lst ys=>
    obtain⟨a',its',q,p',hs'⟩:=hd';cases q;exact(tup_lst p p').elim
   | dct kvs=>cases e<;>simp[bI] at hb'
   | dcn kvs=>cases e<;>simp[bI] at hb'
   | clo _ _=>cases e<;>simp[bI] at hb'
   | arr kvs=>cases e<;>simp[bI] at hb'
   | _=>simp[Sh] at hd'
  | lst xs=>
   obtain⟨a,its,rfl,p,hs⟩:=hd;cases d' with
   | lst xs'=>
    obtain⟨a',its',q,p',hs'⟩:=hd';cases q;have e2:its=its':=by simpa using lst_inj p p'
    subst e2;cases e with
    | lst ys=>exact all xs xs' ys its b b' hs hs' (by simpa only[bI] using hb) (by simpa only[bI] using hb')
    | _=>first|(simp[bI] at hb;done)|(simp only[bI,Qw2] at hb hb';rw[<-hb,<-hb'])
   | tup ys=>
    obtain⟨a',its',q,p',hs'⟩:=hd';cases q;exact(tup_lst p' p).elim
   | dct kvs=>cases e<;>simp[bI] at hb'
   | dcn kvs=>cases e<;>simp[bI] at hb'
   | clo _ _=>cases e<;>simp[bI] at hb'
   | arr kvs=>cases e<;>simp[bI] at hb'
   | _=>simp[Sh] at hd'
  | dct kvs=>cases e<;>simp[bI] at hb
  | dcn kvs=>cases e<;>simp[bI] at hb
  | clo _ _=>cases e<;>simp[bI] at hb
  | arr kvs=>cases e<;>simp[bI] at hb
theorem strOf_beq(x y:List Nat):(strOf x == strOf y)=(x == y):=by
 rw[Qj3];simp only[beq_iff_eq];constructor
 ·intro e;unfold strOf at e;injection e with e
  simpa using Qzq Array.toList e
 ·intro e;rw[e]
theorem eqL_len:∀{f:D->D->Option Bool} {xs ys:List D},xs.length≠ys.length->∀b,eqL f xs ys=some b->b=false
 | f,[],[],h,b,e=>absurd rfl h
 | f,[],_::_,_,b,e=>by simp[eqL] at e;exact e
 | f,_::_,[],_,b,e=>by simp[eqL] at e;exact e
 | f,x::xs,y::ys,h,b,e=>by
  unfold eqL at e;cases h1:f x y with
  | none=>rw[h1] at e;simp at e
  | some c=>
   cases h2:eqL f xs ys with
   | none=>rw[h1,h2] at e;simp at e
   | some d=>
    rw[h1,h2] at e;have:=eqL_len (f:=f) (xs:=xs) (ys:=ys) (by simpa using h) d h2;subst this;simp at e;exact e
theorem eqL_at:∀{f:D->D->Option Bool} (xs ys:List D) (b:Bool),eqL f xs ys=some b->∃e:Nat->Bool,(∀(j:Nat) (x y:D),xs[j]? = some x->ys[j]? = some y->f x y=some (e j))/\b=((List.range (min xs.length ys.length)).all e&&xs.length == ys.length)
 | f,[],ys,b,h=>by
  refine⟨λ_=>true,λj x y hx=>by simp at hx,?_⟩;cases ys with
  | nil=>simp[eqL] at h;simp[h.symm]
  | cons y ys=>simp[eqL] at h;simp[h.symm]
 | f,x::xs,[],b,h=>by
  refine⟨λ_=>true,λj x y _ hy=>by simp at hy,?_⟩;simp[eqL] at h;simp[h.symm]
 | f,x::xs,y::ys,b,h=>by
  unfold eqL at h;cases h1:f x y with
  | none=>rw[h1] at h;simp at h
  | some c=>
   cases h2:eqL f xs ys with
   | none=>rw[h1,h2] at h;simp at h
   | some d=>
    rw[h1,h2] at h;obtain⟨e,he,hd⟩:=eqL_at xs ys d h2;refine⟨λj=>match j with|0=>c|j+1=>e j,λj x' y' hx hy=>?_,?_⟩
    ·cases j with
     | zero=>simp at hx hy;subst hx hy;exact h1
     | succ j=>exact he j x' y' (by simpa using hx) (by simpa using hy)
    ·have hb:b=(c&&d):=by simpa using h.symm
     have hm:min (x::xs).length (y::ys).length=min xs.length ys.length+1:=by simp only[Qqk];omega
     rw[hb,hd,hm,List.range_succ_eq_map,List.all_cons,List.all_map,Bool.and_assoc];have hl:((x::xs).length == (y::ys).length)=(xs.length == ys.length):=by simp
     rw[hl]
     rfl
theorem shs_get{h:Heap}:∀{ds:List D} {us:List Value} {j:Nat} {u:Value},Shs h ds us->us[j]? = some u->∃d,ds[j]? = some d/\Sh h d u
 | [],_,_,_,e,g=>by cases e;simp at g
 | d::ds,us,j,u,e,g=>by
  obtain⟨v,r,rfl,h1,h2⟩:=e;cases j with
  | zero=>simp at g;subst g;exact⟨d,rfl,h1⟩
  | succ j=>obtain⟨c,e1,e2⟩:=shs_get h2 (j:=j) (by simpa using g);exact⟨c,by simpa using e1,e2⟩
theorem eqN_at:∀(n:Nat) (d e:D) (u v:Value) (b:Bool) (A:Around) (s:Shared),Sh s.heap d u->Sh s.heap e v->bI n d e=some b->A.units+n<cLine->SeqAt.EqAt A s u v b
 | 0,_,_,_,_,_,_,_,_,_,h,_=>by simp[bI] at h
 | n+1,d,e,u,v,b,A,s,hd,he,h,hu=>by
  have hu0:A.units<cLine:=by omega
  have hin:A.in1.units+n<cLine:=by show A.units+1+n<cLine;omega
  cases d with
  | non=>
   cases hd;cases e with
   | non=>cases he;simp[bI] at h;subst h;exact SeqAt.EqAt.same _
   | bl c=>cases he;simp[bI] at h;subst h;exact SeqAt.EqAt.none_bool c
   | int i=>obtain⟨t,rfl⟩:=he;simp[bI] at h;subst h;exact SeqAt.EqAt.none_int i t
   | str x=>obtain⟨t,rfl⟩:=he;simp[bI] at h;subst h;exact SeqAt.EqAt.none_str _ t
   | tup ys=>obtain⟨a,its,rfl,p,_⟩:=he;simp[bI] at h;subst h;exact SeqAt.EqAt.none_tuple p hu0
   | lst ys=>obtain⟨a,its,rfl,p,_⟩:=he;simp[bI] at h;subst h;exact SeqAt.EqAt.none_list p.isList hu0
   | dct kvs=>simp[bI] at h
   | dcn kvs=>simp[bI] at h
   | clo _ _=>simp[bI] at h
   | arr kvs=>simp[bI] at h
  | bl c=>
   cases hd;cases e with
   | non=>cases he;simp[bI] at h;subst h;exact SeqAt.EqAt.bool_none c
   | bl c'=>cases he;simp only[bI,Qw2] at h;subst h;exact SeqAt.EqAt.bool_bool c c'
   | int i=>obtain⟨t,rfl⟩:=he;simp only[bI,Qw2] at h;subst h;exact SeqAt.EqAt.bool_int c i t
   | str x=>obtain⟨t,rfl⟩:=he;simp[bI] at h;subst h;exact SeqAt.EqAt.bool_str c _ t
   | tup ys=>obtain⟨a,its,rfl,p,_⟩:=he;simp[bI] at h;subst h;exact SeqAt.EqAt.bool_tuple c p hu0
   | lst ys=>obtain⟨a,its,rfl,p,_⟩:=he;simp[bI] at h;subst h;exact SeqAt.EqAt.bool_list c p.isList hu0
   | dct kvs=>simp[bI] at h
   | dcn kvs=>simp[bI] at h
   | clo _ _=>simp[bI] at h
   | arr kvs=>simp[bI] at h
  | int i=>
   obtain⟨t',rfl⟩:=hd;cases e with
   | non=>cases he;simp[bI] at h;subst h;exact SeqAt.EqAt.int_none i t'
   | bl c'=>cases he;simp only[bI,Qw2] at h;subst h;exact SeqAt.EqAt.int_bool i t' c'
   | int j=>obtain⟨t,rfl⟩:=he;simp only[bI,Qw2] at h;subst h;exact SeqAt.EqAt.int_int i t' j t
   | str x=>obtain⟨t,rfl⟩:=he;simp[bI] at h;subst h;exact SeqAt.EqAt.int_str i t' _ t
   | tup ys=>obtain⟨a,its,rfl,p,_⟩:=he;simp[bI] at h;subst h;exact SeqAt.EqAt.int_tuple i t' p hu0
   | lst ys=>obtain⟨a,its,rfl,p,_⟩:=he;simp[bI] at h;subst h;exact SeqAt.EqAt.int_list i t' p.isList hu0
   | dct kvs=>simp[bI] at h
   | dcn kvs=>simp[bI] at h
   | clo _ _=>simp[bI] at h
   | arr kvs=>simp[bI] at h
  | str x=>
   obtain⟨t',rfl⟩:=hd;cases e with
   | non=>cases he;simp[bI] at h;subst h;exact SeqAt.EqAt.str_none _ t'
   | bl c'=>cases he;simp[bI] at h;subst h;exact SeqAt.EqAt.str_bool _ t' c'
   | int j=>obtain⟨t,rfl⟩:=he;simp[bI] at h;subst h;exact SeqAt.EqAt.str_int _ t' j t
   | str y=>obtain⟨t,rfl⟩:=he;simp only[bI,Qw2] at h;subst h;rw[<-strOf_beq];exact SeqAt.EqAt.str_str _ t' _ t
   | tup ys=>obtain⟨a,its,rfl,p,_⟩:=he;simp[bI] at h;subst h;exact SeqAt.EqAt.str_tuple _ t' p hu0
   | lst ys=>obtain⟨a,its,rfl,p,_⟩:=he;simp[bI] at h;subst h;exact SeqAt.EqAt.str_list _ t' p.isList hu0
   | dct kvs=>simp[bI] at h
   | dcn kvs=>simp[bI] at h
   | clo _ _=>simp[bI] at h
   | arr kvs=>simp[bI] at h
  | tup xs=>
   obtain⟨a,its,rfl,p,hs⟩:=hd;cases e with
   | non=>cases he;simp[bI] at h;subst h;exact SeqAt.EqAt.tuple_none p hu0
   | bl c'=>cases he;simp[bI] at h;subst h;exact SeqAt.EqAt.tuple_bool c' p hu0
   | int j=>obtain⟨t,rfl⟩:=he;simp[bI] at h;subst h;exact SeqAt.EqAt.tuple_int j t p hu0
   | str y=>obtain⟨t,rfl⟩:=he;simp[bI] at h;subst h;exact SeqAt.EqAt.tuple_str _ t p hu0
   | tup ys=>
    obtain⟨a',its',rfl,p',hs'⟩:=he;by_cases haa:a=a'
    ·subst haa;have:=eqN_same (n+1) (.tup xs) (.tup ys) (.ref a) b ⟨a,its,rfl,p,hs⟩ ⟨a,its',rfl,p',hs'⟩ h;subst this;exact SeqAt.EqAt.same _
    ·simp only[bI] at h;obtain⟨f,hf,hb⟩:=eqL_at xs ys b h;have l1:=hs.length;have l2:=hs'.length;refine SeqAt.EqAt.of_refs haa ?_;have:=SeqAt.RcAt.tuples (e:=f) p p' hu0 λj h1 h2=>?_
     ·rw[hb];simp only[Qq1] at this;rw[l1,l2] at this;exact this
     ·have g1:its[j]? = some its.toArray[j]:=by simp at h1 ⊢
      have g2:its'[j]? = some its'.toArray[j]:=by simp at h2 ⊢
      obtain⟨x,q1,q2⟩:=shs_get hs g1;obtain⟨y,q3,q4⟩:=shs_get hs' g2;exact eqN_at n x y _ _ _ A.in1 s q2 q4 (hf j x y q1 q3) hin
   | lst ys=>obtain⟨a',its',rfl,p',_⟩:=he;simp[bI] at h;subst h;exact SeqAt.EqAt.tuple_list p p'.isList hu0
   | dct kvs=>simp[bI] at h
   | dcn kvs=>simp[bI] at h
   | clo _ _=>simp[bI] at h
   | arr kvs=>simp[bI] at h
  | lst xs=>
   obtain⟨a,its,rfl,p,hs⟩:=hd;cases e with
   | non=>cases he;simp[bI] at h;subst h;exact SeqAt.EqAt.list_none p.isList hu0
   | bl c'=>cases he;simp[bI] at h;subst h;exact SeqAt.EqAt.list_bool c' p.isList hu0
   | int j=>obtain⟨t,rfl⟩:=he;simp[bI] at h;subst h;exact SeqAt.EqAt.list_int j t p.isList hu0
   | str y=>obtain⟨t,rfl⟩:=he;simp[bI] at h;subst h;exact SeqAt.EqAt.list_str _ t p.isList hu0
   | lst ys=>
    obtain⟨a',its',rfl,p',hs'⟩:=he;have l1:=hs.length;have l2:=hs'.length;by_cases haa:a=a'
    ·subst haa;have:=eqN_same (n+1) (.lst xs) (.lst ys) (.ref a) b ⟨a,its,rfl,p,hs⟩ ⟨a,its',rfl,p',hs'⟩ h;subst this;exact SeqAt.EqAt.same _
    ·simp only[bI] at h;refine SeqAt.EqAt.of_refs haa ?_;by_cases hl:xs.length=ys.length
     ·obtain⟨f,hf,hb⟩:=eqL_at xs ys b h;have:=SeqAt.RcAt.lists (e:=f) p.isList p'.isList (by simp only[Qq1];omega) hu0 λj h1 h2=>?_
      ·rw[hb,<-hl,Nat.min_self,Qj0,Bool.and_true,<-l1];simp only[Qq1] at this;exact this
      ·have g1:its[j]? = some its.toArray[j]:=by simp at h1 ⊢
       have g2:its'[j]? = some its'.toArray[j]:=by simp at h2 ⊢
       obtain⟨x,q1,q2⟩:=shs_get hs g1;obtain⟨y,q3,q4⟩:=shs_get hs' g2;exact eqN_at n x y _ _ _ A.in1 s q2 q4 (hf j x y q1 q3) hin
     ·have:=eqL_len hl b h;subst this;exact SeqAt.RcAt.lists_lengths p.isList p'.isList (by simp only[Qq1];rw[l1,l2];simpa using hl) hu0
   | tup ys=>obtain⟨a',its',rfl,p',_⟩:=he;simp[bI] at h;subst h;exact SeqAt.EqAt.list_tuple p.isList p' hu0
   | dct kvs=>simp[bI] at h
   | dcn kvs=>simp[bI] at h
   | clo _ _=>simp[bI] at h
   | arr kvs=>simp[bI] at h
  | dct kvs=>cases e<;>simp[bI] at h
  | dcn kvs=>cases e<;>simp[bI] at h
  | clo _ _=>cases e<;>simp[bI] at h
  | arr kvs=>cases e<;>simp[bI] at h
theorem items_at(n:Nat)(its its':List Value)(xs ys:List D)(f:Nat->Bool)(A:Around)(s:Shared)(hs:Shs s.heap xs its)(hs':Shs s.heap ys its')(hf:∀(j:Nat) (x y:D),xs[j]? = some x->ys[j]? = some y->bI n x y=some (f j))(hin:A.in1.units+n<cLine)
  (j:Nat) (h1:j<its.toArray.size) (h2:j<its'.toArray.size):SeqAt.EqAt A.in1 s its.toArray[j] its'.toArray[j] (f j):=by
 have g1:its[j]? = some its.toArray[j]:=by simp at h1 ⊢
 have g2:its'[j]? = some its'.toArray[j]:=by simp at h2 ⊢
 obtain⟨x,q1,q2⟩:=shs_get hs g1;obtain⟨y,q3,q4⟩:=shs_get hs' g2;exact eqN_at n x y _ _ _ A.in1 s q2 q4 (hf j x y q1 q3) hin
theorem rc_at(n:Nat)(d e:D)(u v:Value)(b:Bool)(A:Around)(s:Shared)(hd:Sh s.heap d u)(he:Sh s.heap e v)(h:bI (n+1) d e=some b)(hu:A.units+(n+1)<cLine):SeqAt.RcAt A s u v b:=by
 have hu0:A.units<cLine:=by omega
 have hin:A.in1.units+n<cLine:=by show A.units+1+n<cLine;omega
 cases d with
 | non=>
  cases hd;cases e with
  | non=>
   cases he;simp[bI] at h;subst h;exact SeqAt.RcAt.none_none
  | bl c'=>
   cases he;simp[bI] at h;subst h;exact SeqAt.RcAt.none_bool c'
  | int j=>
   obtain⟨t,rfl⟩:=he;simp[bI] at h;subst h;exact SeqAt.RcAt.none_int j t
  | str y=>
   obtain⟨t,rfl⟩:=he;simp[bI] at h;subst h;exact SeqAt.RcAt.none_str _ t
  | tup ys=>
   obtain⟨a',its',rfl,p',hs'⟩:=he;simp[bI] at h;subst h;exact SeqAt.RcAt.none_tuple p' hu0
  | lst ys=>
   obtain⟨a',its',rfl,p',hs'⟩:=he;simp[bI] at h;subst h;exact SeqAt.RcAt.none_list p'.isList hu0
  | arr kvs=>
   simp[bI] at h
  | dct kvs=>
   simp[bI] at h
  | dcn kvs=>
   simp[bI] at h
  | clo _ _=>
   simp[bI] at h
 | bl c=>
  cases hd;cases e with
  | non=>
   cases he;simp[bI] at h;subst h;exact SeqAt.RcAt.bool_none c
  | bl c'=>
   cases he;simp only[bI,Qw2] at h;subst h;exact SeqAt.RcAt.bool_bool c c'
  | int j=>
   obtain⟨t,rfl⟩:=he;simp only[bI,Qw2] at h;subst h;exact SeqAt.RcAt.bool_int c j t
  | str y=>
   obtain⟨t,rfl⟩:=he;simp[bI] at h;subst h;exact SeqAt.RcAt.bool_str c _ t
  | tup ys=>
   obtain⟨a',its',rfl,p',hs'⟩:=he;simp[bI] at h;subst h;exact SeqAt.RcAt.bool_tuple c p' hu0
  | lst ys=>
   obtain⟨a',its',rfl,p',hs'⟩:=he;simp[bI] at h;subst h;exact SeqAt.RcAt.bool_list c p'.isList hu0
  | arr kvs=>
   simp[bI] at h
  | dct kvs=>
   simp[bI] at h
  | dcn kvs=>
   simp[bI] at h
  | clo _ _=>
   simp[bI] at h
 | int i=>
  obtain⟨t',rfl⟩:=hd;cases e with
  | non=>
   cases he;simp[bI] at h;subst h;exact SeqAt.RcAt.int_none i t'
  | bl c'=>
   cases he;simp only[bI,Qw2] at h;subst h;exact SeqAt.RcAt.int_bool i t' c'
  | int j=>
   obtain⟨t,rfl⟩:=he;simp only[bI,Qw2] at h;subst h;exact SeqAt.RcAt.int_int i t' j t
  | str y=>
   obtain⟨t,rfl⟩:=he;simp[bI] at h;subst h;exact SeqAt.RcAt.int_str i t' _ t
  | tup ys=>
   obtain⟨a',its',rfl,p',hs'⟩:=he;simp[bI] at h;subst h;exact SeqAt.RcAt.int_tuple i t' p' hu0
  | lst ys=>
   obtain⟨a',its',rfl,p',hs'⟩:=he;simp[bI] at h;subst h;exact SeqAt.RcAt.int_list i t' p'.isList hu0
  | arr kvs=>
   simp[bI] at h
  | dct kvs=>
   simp[bI] at h
  | dcn kvs=>
   simp[bI] at h
  | clo _ _=>
   simp[bI] at h
 | str x=>
  obtain⟨t',rfl⟩:=hd;cases e with
  | non=>
   cases he;simp[bI] at h;subst h;exact SeqAt.RcAt.str_none _ t'
  | bl c'=>
   cases he;simp[bI] at h;subst h;exact SeqAt.RcAt.str_bool _ t' c'
  | int j=>
   obtain⟨t,rfl⟩:=he;simp[bI] at h;subst h;exact SeqAt.RcAt.str_int _ t' j t
  | str y=>
   obtain⟨t,rfl⟩:=he;simp only[bI,Qw2] at h;subst h;rw[<-strOf_beq];exact SeqAt.RcAt.str_str _ t' _ t
  | tup ys=>
   obtain⟨a',its',rfl,p',hs'⟩:=he;simp[bI] at h;subst h;exact SeqAt.RcAt.str_tuple _ t' p' hu0
  | lst ys=>
   obtain⟨a',its',rfl,p',hs'⟩:=he;simp[bI] at h;subst h;exact SeqAt.RcAt.str_list _ t' p'.isList hu0
  | arr kvs=>
   simp[bI] at h
  | dct kvs=>
   simp[bI] at h
  | dcn kvs=>
   simp[bI] at h
  | clo _ _=>
   simp[bI] at h
 | tup xs=>
  obtain⟨a,its,rfl,p,hs⟩:=hd;cases e with
  | non=>
   cases he;simp[bI] at h;subst h;exact SeqAt.RcAt.tuple_none p hu0
  | bl c'=>
   cases he;simp[bI] at h;subst h;exact SeqAt.RcAt.tuple_bool c' p hu0
  | int j=>
   obtain⟨t,rfl⟩:=he;simp[bI] at h;subst h;exact SeqAt.RcAt.tuple_int j t p hu0
  | str y=>
   obtain⟨t,rfl⟩:=he;simp[bI] at h;subst h;exact SeqAt.RcAt.tuple_str _ t p hu0
  | tup ys=>
   obtain⟨a',its',rfl,p',hs'⟩:=he;simp only[bI] at h;have l1:=hs.length;have l2:=hs'.length;obtain⟨f,hf,hb⟩:=eqL_at xs ys b h;have:=SeqAt.RcAt.tuples (e:=f) p p' hu0 λj h1 h2=>?_
   ·rw[hb];simp only[Qq1] at this;rw[l1,l2] at this;exact this
   ·exact items_at n its its' xs ys f A s hs hs' hf hin j h1 h2
  | lst ys=>
   obtain⟨a',its',rfl,p',hs'⟩:=he;simp[bI] at h;subst h;exact SeqAt.RcAt.tuple_list p p'.isList hu0
  | arr kvs=>
   simp[bI] at h
  | dct kvs=>
   simp[bI] at h
  | dcn kvs=>
   simp[bI] at h
  | clo _ _=>
   simp[bI] at h
 | lst xs=>
  obtain⟨a,its,rfl,p,hs⟩:=hd;cases e with
  | non=>
   cases he;simp[bI] at h;subst h;exact SeqAt.RcAt.list_none p.isList hu0
  | bl c'=>
   cases he;simp[bI] at h;subst h;exact SeqAt.RcAt.list_bool c' p.isList hu0
  | int j=>
   obtain⟨t,rfl⟩:=he;simp[bI] at h;subst h;exact SeqAt.RcAt.list_int j t p.isList hu0
  | str y=>
   obtain⟨t,rfl⟩:=he;simp[bI] at h;subst h;exact SeqAt.RcAt.list_str _ t p.isList hu0
  | tup ys=>
   obtain⟨a',its',rfl,p',hs'⟩:=he;simp[bI] at h;subst h;exact SeqAt.RcAt.list_tuple p.isList p' hu0
  | lst ys=>
   obtain⟨a',its',rfl,p',hs'⟩:=he;simp only[bI] at h;have l1:=hs.length;have l2:=hs'.length;by_cases hl:xs.length=ys.length
   ·obtain⟨f,hf,hb⟩:=eqL_at xs ys b h;have:=SeqAt.RcAt.lists (e:=f) p.isList p'.isList (by simp only[Qq1];omega) hu0 λj h1 h2=>?_
    ·rw[hb,<-hl,Nat.min_self,Qj0,Bool.and_true,<-l1];simp only[Qq1] at this;exact this
    ·exact items_at n its its' xs ys f A s hs hs' hf hin j h1 h2
   ·have:=eqL_len hl b h;subst this;exact SeqAt.RcAt.lists_lengths p.isList p'.isList (by simp only[Qq1];rw[l1,l2];simpa using hl) hu0
  | arr kvs=>
   simp[bI] at h
  | dct kvs=>
   simp[bI] at h
  | dcn kvs=>
   simp[bI] at h
  | clo _ _=>
   simp[bI] at h
 | arr kvs=>
  cases e<;>simp[bI] at h
 | dct kvs=>
  cases e<;>simp[bI] at h
 | dcn kvs=>
  cases e<;>simp[bI] at h
 | clo _ _=>
  cases e<;>simp[bI] at h
theorem rcne_at(n:Nat)(d e:D)(u v:Value)(b:Bool)(A:Around)(s:Shared)(hd:Sh s.heap d u)(he:Sh s.heap e v)(h:bI (n+1) d e=some b)(hu:A.units+(n+1)<cLine):SeqAt.RcNeAt A s u v (!b):=by
 have hu0:A.units<cLine:=by omega
 have hin:A.in1.units+n<cLine:=by show A.units+1+n<cLine;omega
 cases d with
 | non=>
  cases hd;cases e with
  | non=>
   cases he;simp[bI] at h;subst h;exact SeqAt.RcNeAt.none_none
  | bl c'=>
   cases he;simp[bI] at h;subst h;exact SeqAt.RcNeAt.none_bool c'
  | int j=>
   obtain⟨t,rfl⟩:=he;simp[bI] at h;subst h;exact SeqAt.RcNeAt.none_int j t
  | str y=>
   obtain⟨t,rfl⟩:=he;simp[bI] at h;subst h;exact SeqAt.RcNeAt.none_str _ t
  | tup ys=>
   obtain⟨a',its',rfl,p',hs'⟩:=he;simp[bI] at h;subst h;exact SeqAt.RcNeAt.none_tuple p' hu0
  | lst ys=>
   obtain⟨a',its',rfl,p',hs'⟩:=he;simp[bI] at h;subst h;exact SeqAt.RcNeAt.none_list p'.isList hu0
  | arr kvs=>
   simp[bI] at h
  | dct kvs=>
   simp[bI] at h
  | dcn kvs=>
   simp[bI] at h
  | clo _ _=>
   simp[bI] at h
 | bl c=>
  cases hd;cases e with
  | non=>
   cases he;simp[bI] at h;subst h;exact SeqAt.RcNeAt.bool_none c
  | bl c'=>
   cases he;simp only[bI,Qw2] at h;subst h;exact SeqAt.RcNeAt.bool_bool c c'
  | int j=>
   obtain⟨t,rfl⟩:=he;simp only[bI,Qw2] at h;subst h;exact SeqAt.RcNeAt.bool_int c j t
  | str y=>
   obtain⟨t,rfl⟩:=he;simp[bI] at h;subst h;exact SeqAt.RcNeAt.bool_str c _ t
  | tup ys=>
   obtain⟨a',its',rfl,p',hs'⟩:=he;simp[bI] at h;subst h;exact SeqAt.RcNeAt.bool_tuple c p' hu0
  | lst ys=>
   obtain⟨a',its',rfl,p',hs'⟩:=he;simp[bI] at h;subst h;exact SeqAt.RcNeAt.bool_list c p'.isList hu0
  | arr kvs=>
   simp[bI] at h
  | dct kvs=>
   simp[bI] at h
  | dcn kvs=>
   simp[bI] at h
  | clo _ _=>
   simp[bI] at h
 | int i=>
  obtain⟨t',rfl⟩:=hd;cases e with
  | non=>
   cases he;simp[bI] at h;subst h;exact SeqAt.RcNeAt.int_none i t'
  | bl c'=>
   cases he;simp only[bI,Qw2] at h;subst h;exact SeqAt.RcNeAt.int_bool i t' c'
  | int j=>
   obtain⟨t,rfl⟩:=he;simp only[bI,Qw2] at h;subst h;exact SeqAt.RcNeAt.int_int i t' j t
  | str y=>
   obtain⟨t,rfl⟩:=he;simp[bI] at h;subst h;exact SeqAt.RcNeAt.int_str i t' _ t
  | tup ys=>
   obtain⟨a',its',rfl,p',hs'⟩:=he;simp[bI] at h;subst h;exact SeqAt.RcNeAt.int_tuple i t' p' hu0
  | lst ys=>
   obtain⟨a',its',rfl,p',hs'⟩:=he;simp[bI] at h;subst h;exact SeqAt.RcNeAt.int_list i t' p'.isList hu0
  | arr kvs=>
   simp[bI] at h
  | dct kvs=>
   simp[bI] at h
  | dcn kvs=>
   simp[bI] at h
  | clo _ _=>
   simp[bI] at h
 | str x=>
  obtain⟨t',rfl⟩:=hd;cases e with
  | non=>
   cases he;simp[bI] at h;subst h;exact SeqAt.RcNeAt.str_none _ t'
  | bl c'=>
   cases he;simp[bI] at h;subst h;exact SeqAt.RcNeAt.str_bool _ t' c'
  | int j=>
   obtain⟨t,rfl⟩:=he;simp[bI] at h;subst h;exact SeqAt.RcNeAt.str_int _ t' j t
  | str y=>
   obtain⟨t,rfl⟩:=he;simp only[bI,Qw2] at h;subst h;rw[<-strOf_beq];exact SeqAt.RcNeAt.str_str _ t' _ t
  | tup ys=>
   obtain⟨a',its',rfl,p',hs'⟩:=he;simp[bI] at h;subst h;exact SeqAt.RcNeAt.str_tuple _ t' p' hu0
  | lst ys=>
   obtain⟨a',its',rfl,p',hs'⟩:=he;simp[bI] at h;subst h;exact SeqAt.RcNeAt.str_list _ t' p'.isList hu0
  | arr kvs=>
   simp[bI] at h
  | dct kvs=>
   simp[bI] at h
  | dcn kvs=>
   simp[bI] at h
  | clo _ _=>
   simp[bI] at h
 | tup xs=>
  obtain⟨a,its,rfl,p,hs⟩:=hd;cases e with
  | non=>
   cases he;simp[bI] at h;subst h;exact SeqAt.RcNeAt.tuple_none p hu0
  | bl c'=>
   cases he;simp[bI] at h;subst h;exact SeqAt.RcNeAt.tuple_bool c' p hu0
  | int j=>
   obtain⟨t,rfl⟩:=he;simp[bI] at h;subst h;exact SeqAt.RcNeAt.tuple_int j t p hu0
  | str y=>
   obtain⟨t,rfl⟩:=he;simp[bI] at h;subst h;exact SeqAt.RcNeAt.tuple_str _ t p hu0
  | tup ys=>
   obtain⟨a',its',rfl,p',hs'⟩:=he;simp only[bI] at h;have l1:=hs.length;have l2:=hs'.length;obtain⟨f,hf,hb⟩:=eqL_at xs ys b h;have:=SeqAt.RcNeAt.tuples (e:=f) p p' hu0 λj h1 h2=>?_
   ·rw[hb];simp only[Qq1] at this;rw[l1,l2] at this;exact this
   ·exact items_at n its its' xs ys f A s hs hs' hf hin j h1 h2
  | lst ys=>
   obtain⟨a',its',rfl,p',hs'⟩:=he;simp[bI] at h;subst h;exact SeqAt.RcNeAt.tuple_list p p'.isList hu0
  | arr kvs=>
   simp[bI] at h
  | dct kvs=>
   simp[bI] at h
  | dcn kvs=>
   simp[bI] at h
  | clo _ _=>
   simp[bI] at h
 | lst xs=>
  obtain⟨a,its,rfl,p,hs⟩:=hd;cases e with
  | non=>
   cases he;simp[bI] at h;subst h;exact SeqAt.RcNeAt.list_none p.isList hu0
  | bl c'=>
   cases he;simp[bI] at h;subst h;exact SeqAt.RcNeAt.list_bool c' p.isList hu0
  | int j=>
   obtain⟨t,rfl⟩:=he;simp[bI] at h;subst h;exact SeqAt.RcNeAt.list_int j t p.isList hu0
  | str y=>
   obtain⟨t,rfl⟩:=he;simp[bI] at h;subst h;exact SeqAt.RcNeAt.list_str _ t p.isList hu0
  | tup ys=>
   obtain⟨a',its',rfl,p',hs'⟩:=he;simp[bI] at h;subst h;exact SeqAt.RcNeAt.list_tuple p.isList p' hu0
  | lst ys=>
   obtain⟨a',its',rfl,p',hs'⟩:=he;simp only[bI] at h;have l1:=hs.length;have l2:=hs'.length;by_cases hl:xs.length=ys.length
   ·obtain⟨f,hf,hb⟩:=eqL_at xs ys b h;have:=SeqAt.RcNeAt.lists (e:=f) p.isList p'.isList (by simp only[Qq1];omega) hu0 λj h1 h2=>?_
    ·rw[hb,<-hl,Nat.min_self,Qj0,Bool.and_true,<-l1];simp only[Qq1] at this;exact this
    ·exact items_at n its its' xs ys f A s hs hs' hf hin j h1 h2
   ·have:=eqL_len hl b h;subst this;exact SeqAt.RcNeAt.lists_lengths p.isList p'.isList (by simp only[Qq1];rw[l1,l2];simpa using hl) hu0
  | arr kvs=>
   simp[bI] at h
  | dct kvs=>
   simp[bI] at h
  | dcn kvs=>
   simp[bI] at h
  | clo _ _=>
   simp[bI] at h
 | arr kvs=>
  cases e<;>simp[bI] at h
 | dct kvs=>
  cases e<;>simp[bI] at h
 | dcn kvs=>
  cases e<;>simp[bI] at h
 | clo _ _=>
  cases e<;>simp[bI] at h
section
variable{X:Cx}{C:Cfg}
def rEqD(K:Fg):R2:=λx y H Q=>∃dx dy b,Rep K H dx x/\Rep K H dy y/\bI 60 dx dy=some b/\Q (.bl b) H
def rNeD(K:Fg):R2:=λx y H Q=>∃dx dy b,Rep K H dx x/\Rep K H dy y/\bI 60 dx dy=some b/\Q (.bl (!b)) H
theorem op_eqD(hu:X.A.units+60<cLine):OpR X (compareOp .Eq) (rEqD X.K):=by intro pins s σ H x y v u Q I rx ry h;obtain⟨dx,dy,b,h1,h2,h3,q⟩:=h;exact rc_at 59 dx dy v u b X.A s (Rep.sh I dx x v h1 rx) (Rep.sh I dy y u h2 ry) h3 hu X.prog X.w X.xe _ ⟨.bl b,H,I,rfl,q⟩
theorem op_neD(hu:X.A.units+60<cLine):OpR X (compareOp .NotEq) (rNeD X.K):=by intro pins s σ H x y v u Q I rx ry h;obtain⟨dx,dy,b,h1,h2,h3,q⟩:=h;exact rcne_at 59 dx dy v u b X.A s (Rep.sh I dx x v h1 rx) (Rep.sh I dy y u h2 ry) h3 hu X.prog X.w X.xe _ ⟨.bl (!b),H,I,rfl,q⟩
def gEq(x y:D):Option D:=(bI 60 x y).map .bl
def gNe(x y:D):Option D:=(bI 60 x y).map λb=>.bl (!b)
theorem od_eq:OpD C (rEqD C.K) gEq:=by
 intro Pr F env σ H x y d vx vy Q r hx hy h q;unfold gEq at h;cases e:bI 60 x y with
 | none=>rw[e] at h;cases h
 | some b=>
  rw[e] at h;cases h;exact⟨x,y,b,hx.rep r.fr,hy.rep r.fr,e,q _ H F r (bu.refl F) rfl⟩
theorem od_ne:OpD C (rNeD C.K) gNe:=by
 intro Pr F env σ H x y d vx vy Q r hx hy h q;unfold gNe at h;cases e:bI 60 x y with
 | none=>rw[e] at h;cases h
 | some b=>
  rw[e] at h;cases h;exact⟨x,y,b,hx.rep r.fr,hy.rep r.fr,e,q _ H F r (bu.refl F) rfl⟩
def inL(x:D):List D->Option Bool
 | []=>some false
 | y::ys=>match bI 59 y x,inL x ys with
  | some a,some b=>some (a||b)
  | _,_=>none
theorem inL_any(x:D):∀(ys:List D) (b:Bool),inL x ys=some b->(∀y∈ys,∃c,bI 59 y x=some c)/\(b=true ↔ ∃y∈ys,bI 59 y x=some true)
 | [],b,h=>by simp[inL] at h;subst h;simp
 | y::ys,b,h=>by
  unfold inL at h;cases h1:bI 59 y x with
  | none=>rw[h1] at h;simp at h
  | some c=>
   cases h2:inL x ys with
   | none=>rw[h1,h2] at h;simp at h
   | some d=>
    rw[h1,h2] at h;obtain⟨i1,i2⟩:=inL_any x ys d h2;have hb:b=(c||d):=by simpa using h.symm
    refine⟨λz hz=>?_,?_⟩
    ·rcases Qq3.mp hz with rfl|hz
     ·exact⟨c,h1⟩
     ·exact i1 z hz
    ·rw[hb,Bool.or_eq_true];constructor
     ·rintro(hc|hd)
      ·exact⟨y,Qqz,by rw[h1,hc]⟩
      ·obtain⟨z,hz,e⟩:=i2.mp hd;exact⟨z,Qqj _ hz,e⟩
     ·rintro⟨z,hz,e⟩;rcases Qq3.mp hz with rfl|hz
      ·rw[h1] at e;left;simpa using e
      ·right;exact i2.mpr ⟨z,hz,e⟩
open Classical in
noncomputable def ansU(h:Heap)(x:D)(u:Value):Bool:=decide (∃y,Sh h y u/\bI 59 y x=some true)
open Classical in
theorem ansU_eq{h:Heap}{x y:D}{u:Value}{c:Bool}(hy:Sh h y u)(e:bI 59 y x=some c):ansU h x u=c:=by
 unfold ansU;cases c with
 | true=>exact Qw9 ⟨y,hy,e⟩
 | false=>
  refine Qw7 ?_;rintro⟨z,hz,e'⟩;have:=eqN_det 59 z y x u true false hz hy e' e;cases this
theorem in_ans{s:Shared}{A:Around}{x:D}{v:Value}{ys:List D}{us:List Value}{b:Bool}(hx:Sh s.heap x v)(hs:Shs s.heap ys us)(h:inL x ys=some b)(hu:A.units+59<cLine) :
  (∀w,w∈us.toArray->SeqAt.EqAt A s w v (ansU s.heap x w))/\us.toArray.any (ansU s.heap x)=b:=by
 obtain⟨h1,h2⟩:=inL_any x ys b h;have item:∀w∈us,∃y∈ys,Sh s.heap y w:=λw hw=>by
  obtain⟨j,hj,e⟩:=List.mem_iff_getElem.mp hw;obtain⟨d,e1,e2⟩:=shs_get hs (show us[j]? = some w by rw[Qzz hj,e]);exact⟨d,Qz3 e1,e2⟩
 have back:∀{ys:List D} {us:List Value},Shs s.heap ys us->∀y∈ys,∃w∈us,Sh s.heap y w:=by
  intro ys
  induction ys with
  | nil=>intro us _ y hy;cases hy
  | cons z zs ih=>
   intro us hs y hy;obtain⟨w,r,rfl,g1,g2⟩:=hs;rcases Qq3.mp hy with rfl|hy
   ·exact⟨w,Qqz,g1⟩
   ·obtain⟨w',m,g⟩:=ih g2 y hy;exact⟨w',Qqj _ m,g⟩
 refine⟨λw hw=>?_,?_⟩
 ·obtain⟨y,hy,sy⟩:=item w (by simpa using hw);obtain⟨c,hc⟩:=h1 y hy;rw[ansU_eq sy hc];exact eqN_at 59 y x w v c A s sy hx hc hu
 ·rw[List.any_toArray,Qj3,h2,List.any_eq_true];constructor
  ·rintro⟨w,hw,e⟩;obtain⟨y,hy,sy⟩:=item w hw;obtain⟨c,hc⟩:=h1 y hy;rw[ansU_eq sy hc] at e;subst e;exact⟨y,hy,hc⟩
  ·rintro⟨y,hy,e⟩;obtain⟨w,hw,sy⟩:=back hs y hy;exact⟨w,hw,ansU_eq sy e⟩
def seqOf:D->Option (List D)
 | .tup xs=>some xs
 | .lst xs=>some xs
 | .arr xs=>some xs
 | _=>none
def rInD(K:Fg)(neg:Bool):R2:=λx y H Q=>∃dx dy ys b,Rep K H dx x/\Rep K H dy y/\seqOf dy=some ys/\inL dx ys=some b/\Q (.bl (if neg then !b else b)) H
theorem op_inD(hu:X.A.units+61<cLine):OpR X (compareOp .In) (rInD X.K false):=by
 intro pins s σ H x y v u Q I rx ry h;obtain⟨dx,dy,ys,b,h1,h2,h3,h4,q⟩:=h;have hx:=Rep.sh I dx x v h1 rx;have hy:=Rep.sh I dy y u h2 ry;have hin:X.A.in1.units+59<cLine:=by show X.A.units+1+59<cLine;omega
 cases dy with
 | tup zs=>
  cases h3;obtain⟨a,its,rfl,p,hs⟩:=hy;obtain⟨g1,g2⟩:=in_ans (A:=X.A.in1) hx hs h4 hin;refine SeqAt.in_tupleAt (ansU s.heap dx) p g1 ⟨.bl _,H,I,rfl,?_⟩;rw[g2];exact q
 | lst zs=>
  cases h3;obtain⟨a,its,rfl,p,hs⟩:=hy;obtain⟨g1,g2⟩:=in_ans (A:=X.A.in1) hx hs h4 hin;refine SeqAt.in_listAt (ansU s.heap dx) p.isList g1 ⟨.bl _,H,I,rfl,?_⟩;rw[g2];exact q
 | arr zs=>
  cases h3;obtain⟨a,its,rfl,p,hs⟩:=hy;obtain⟨g1,g2⟩:=in_ans (A:=X.A.in1) hx hs h4 hin;refine SeqAt.in_listAt (ansU s.heap dx) p.isList g1 ⟨.bl _,H,I,rfl,?_⟩;rw[g2];exact q
 | _=>cases h3
theorem op_notInD(hu:X.A.units+61<cLine):OpR X (compareOp .NotIn) (rInD X.K true):=by
 intro pins s σ H x y v u Q I rx ry h;obtain⟨dx,dy,ys,b,h1,h2,h3,h4,q⟩:=h;have hx:=Rep.sh I dx x v h1 rx;have hy:=Rep.sh I dy y u h2 ry;have hin:X.A.in1.units+59<cLine:=by show X.A.units+1+59<cLine;omega
 cases dy with
 | tup zs=>
  cases h3;obtain⟨a,its,rfl,p,hs⟩:=hy;obtain⟨g1,g2⟩:=in_ans (A:=X.A.in1) hx hs h4 hin;refine SeqAt.notIn_tupleAt (ansU s.heap dx) p g1 ⟨.bl _,H,I,rfl,?_⟩;rw[g2];exact q
 | lst zs=>
  cases h3;obtain⟨a,its,rfl,p,hs⟩:=hy;obtain⟨g1,g2⟩:=in_ans (A:=X.A.in1) hx hs h4 hin;refine SeqAt.notIn_listAt (ansU s.heap dx) p.isList g1 ⟨.bl _,H,I,rfl,?_⟩;rw[g2];exact q
 | arr zs=>
  cases h3;obtain⟨a,its,rfl,p,hs⟩:=hy;obtain⟨g1,g2⟩:=in_ans (A:=X.A.in1) hx hs h4 hin;refine SeqAt.notIn_listAt (ansU s.heap dx) p.isList g1 ⟨.bl _,H,I,rfl,?_⟩;rw[g2];exact q
 | _=>cases h3
end
theorem OpD.or{C:Cfg}{r r':R2}{g g':D->D->Option D}(h:OpD C r g)(h':OpD C r' g'):OpD C (λx y H Q=>r x y H Q\/r' x y H Q) (λx y=>(g x y).or (g' x y)):=by
 intro Pr F env σ H x y d vx vy Q rl hx hy e q;have e:(g x y).or (g' x y)=some d:=e;cases e1:g x y with
 | some c=>
  rw[e1] at e;cases e;exact .inl (h Pr F env σ H x y d vx vy Q rl hx hy e1 q)
 | none=>
  rw[e1] at e;exact .inr (h' Pr F env σ H x y d vx vy Q rl hx hy e q)
section
variable{X:Cx}{C:Cfg}
def gInS(x y:D):Option D:=match seqOf y with
 | some ys=>(inL x ys).map .bl
 | none=>none
def gNotInS(x y:D):Option D:=match seqOf y with
 | some ys=>(inL x ys).map λb=>.bl (!b)
 | none=>none
theorem od_inS:OpD C (rInD C.K false) gInS:=by
 intro Pr F env σ H x y d vx vy Q r hx hy h q;unfold gInS at h;cases e1:seqOf y with
 | none=>rw[e1] at h;cases h
 | some ys=>
  rw[e1] at h;cases e:inL x ys with
  | none=>simp only[e,Option.map_none] at h;cases h
  | some b=>
   simp only[e,Option.map_some] at h;cases h;exact⟨x,y,ys,b,hx.rep r.fr,hy.rep r.fr,e1,e,q _ H F r (bu.refl F) rfl⟩
theorem od_notInS:OpD C (rInD C.K true) gNotInS:=by
 intro Pr F env σ H x y d vx vy Q r hx hy h q;unfold gNotInS at h;cases e1:seqOf y with
 | none=>rw[e1] at h;cases h
 | some ys=>
  rw[e1] at h;cases e:inL x ys with
  | none=>simp only[e,Option.map_none] at h;cases h
  | some b=>
   simp only[e,Option.map_some] at h;cases h;exact⟨x,y,ys,b,hx.rep r.fr,hy.rep r.fr,e1,e,q _ H F r (bu.refl F) rfl⟩
def gInT(x y:D):Option D:=match x,y with
 | .str [c],.str z=>some (.bl (decide (c∈z)))
 | _,_=>none
def gNotInT(x y:D):Option D:=match x,y with
 | .str [c],.str z=>some (.bl (!decide (c∈z)))
 | _,_=>none
abbrev rInT:R2:=λx y H Q=>∃i j,x = .str i/\y = .str j/\Q (.bl (!(Builtin.Str.occurrences j i 0 j.length 1).isEmpty)) H
abbrev rNotInT:R2:=λx y H Q=>∃i j,x = .str i/\y = .str j/\Q (.bl (!(!(Builtin.Str.occurrences j i 0 j.length 1).isEmpty))) H
theorem one_sign(c:Nat)(z:List Nat):(!(Builtin.Str.occurrences (strOf z) (strOf [c]) 0 (strOf z).length 1).isEmpty)=decide (c∈z):=by
 have:=StrLaws.found_one (strOf z) c;unfold strOf at this ⊢
 simpa using this
theorem od_inT:OpD C rInT gInT:=by
 intro Pr F env σ H x y d vx vy Q r hx hy h q;unfold gInT at h;split at h
 ·rename_i c z;cases h;obtain⟨rfl,_⟩:=hx.str;obtain⟨rfl,_⟩:=hy.str;refine⟨_,_,rfl,rfl,?_⟩;rw[one_sign];exact q _ H F r (bu.refl F) rfl
 ·cases h
theorem od_notInT:OpD C rNotInT gNotInT:=by
 intro Pr F env σ H x y d vx vy Q r hx hy h q;unfold gNotInT at h;split at h
 ·rename_i c z;cases h;obtain⟨rfl,_⟩:=hx.str;obtain⟨rfl,_⟩:=hy.str;refine⟨_,_,rfl,rfl,?_⟩;rw[one_sign];exact q _ H F r (bu.refl F) rfl
 ·cases h
def gIn(x y:D):Option D:=(gInS x y).or (gInT x y)
def gNotIn(x y:D):Option D:=(gNotInS x y).or (gNotInT x y)
abbrev rIn2(K:Fg):R2:=λx y H Q=>rInD K false x y H Q\/rInT x y H Q
abbrev rNotIn2(K:Fg):R2:=λx y H Q=>rInD K true x y H Q\/rNotInT x y H Q
theorem op_in2(hu:X.A.units+61<cLine):OpR X (compareOp .In) (rIn2 X.K):=(op_inD hu).or op_in_str
theorem op_notIn2(hu:X.A.units+61<cLine):OpR X (compareOp .NotIn) (rNotIn2 X.K):=(op_notInD hu).or op_notin_str
theorem od_in:OpD C (rIn2 C.K) gIn:=od_inS.or od_inT
theorem od_notIn:OpD C (rNotIn2 C.K) gNotIn:=od_notInS.or od_notInT
def isPlain(x:V):Prop:=x = .non\/∃b,x = .bl b
theorem op_is2:OpR X (compareOp .Is) (λx y H Q=>isPlain y/\Q (.bl (decide (x=y))) H):=by
 intro pins s σ H x y v u Q I rx ry h;obtain⟨hp,q⟩:=h;rcases hp with rfl|⟨b,rfl⟩
 ·exact op_isN pins s σ H x .non v u Q I rx ry ⟨rfl,q⟩
 ·cases ry;refine wpAny_is_plain ?_ (fin_bl I q ?_)
  ·cases x<;>first|(cases rx;rfl)|(obtain⟨t,rfl⟩:=rx;rfl)
  ·cases x with
   | bl c=>cases rx;cases b<;>cases c<;>rfl
   | _=>first|(cases rx;rfl)|(obtain⟨t,rfl⟩:=rx;rfl)
def isD:D->D->Option Bool
 | .non,.non=>some true
 | .bl a,.bl b=>some (a == b)
 | _,.non=>some false
 | _,.bl _=>some false
 | _,_=>none
def gIs(x y:D):Option D:=(isD x y).map .bl
theorem isD_v{F H:Hp}{x y:D}{vx vy:V}{b:Bool}(hx:BRep C.K F H x vx)(hy:BRep C.K F H y vy)(h:isD x y=some b):isPlain vy/\decide (vx=vy)=b:=by
 have ref_no:∀a,¬(V.ref a=V.non):=λa e=>by cases e
 cases y with
 | non=>
  obtain rfl:=hy.non;refine⟨.inl rfl,?_⟩;cases x with
  | non=>obtain rfl:=hx.non;simp[isD] at h;simp[h]
  | bl c=>obtain rfl:=hx.bl;simp[isD] at h;simp[h]
  | int i=>obtain rfl:=hx.int;simp[isD] at h;simp[h]
  | str z=>obtain⟨rfl,_⟩:=hx.str;simp[isD] at h;simp[h]
  | tup xs=>rcases hx with ⟨_,a,_,rfl,_⟩|⟨a,rfl,_⟩<;>(simp[isD] at h;simp[h])
  | lst xs=>rcases hx with ⟨_,a,_,rfl,_⟩|⟨a,rfl,_⟩<;>(simp[isD] at h;simp[h])
  | arr xs=>rcases hx with ⟨_,a,_,rfl,_⟩|⟨a,rfl,_⟩<;>(simp[isD] at h;simp[h])
  | dct xs=>rcases hx with ⟨_,a,_,rfl,_⟩|⟨a,rfl,_⟩<;>(simp[isD] at h;simp[h])
  | dcn xs=>rcases hx with ⟨_,a,_,rfl,_⟩|⟨a,rfl,_⟩<;>(simp[isD] at h;simp[h])
  | clo st xs=>rcases hx with ⟨a,_,rfl,_⟩|⟨a,rfl,_⟩<;>(simp[isD] at h;simp[h])
 | bl k=>
  obtain rfl:=hy.bl;refine⟨.inr ⟨k,rfl⟩,?_⟩;cases x with
  | non=>obtain rfl:=hx.non;simp[isD] at h;simp[h]
  | bl c=>obtain rfl:=hx.bl;simp only[isD,Qw2] at h;rw[<-h,dec_bl]
  | int i=>obtain rfl:=hx.int;simp[isD] at h;simp[h]
  | str z=>obtain⟨rfl,_⟩:=hx.str;simp[isD] at h;simp[h]
  | tup xs=>rcases hx with ⟨_,a,_,rfl,_⟩|⟨a,rfl,_⟩<;>(simp[isD] at h;simp[h])
  | lst xs=>rcases hx with ⟨_,a,_,rfl,_⟩|⟨a,rfl,_⟩<;>(simp[isD] at h;simp[h])
  | arr xs=>rcases hx with ⟨_,a,_,rfl,_⟩|⟨a,rfl,_⟩<;>(simp[isD] at h;simp[h])
  | dct xs=>rcases hx with ⟨_,a,_,rfl,_⟩|⟨a,rfl,_⟩<;>(simp[isD] at h;simp[h])
  | dcn xs=>rcases hx with ⟨_,a,_,rfl,_⟩|⟨a,rfl,_⟩<;>(simp[isD] at h;simp[h])
  | clo st xs=>rcases hx with ⟨a,_,rfl,_⟩|⟨a,rfl,_⟩<;>(simp[isD] at h;simp[h])
 | _=>cases x<;>simp[isD] at h
theorem od_is:OpD C (λx y H Q=>isPlain y/\Q (.bl (decide (x=y))) H) gIs:=by
 intro Pr F env σ H x y d vx vy Q r hx hy h q;unfold gIs at h;cases e:isD x y with
 | none=>rw[e] at h;cases h
 | some b=>
  rw[e] at h;cases h;obtain⟨h1,h2⟩:=isD_v hx hy e;exact⟨h1,by rw[h2];exact q _ H F r (bu.refl F) rfl⟩
def gI(c:Int->Int->Bool)(f:Int->Int->D)(x y:D):Option D:=match x,y with
 | .int i,.int j=>if c i j=true then some (f i j) else none
 | _,_=>none
theorem od_I{Cd:Int->Int->Prop}{c:Int->Int->Bool}{f:Int->Int->D}{g:Int->Int->V}(hc:∀i j,c i j=true->Cd i j)(hf:∀i j F,Rep C.K F (f i j) (g i j)):OpD C (rI Cd g) (gI c f):=by
 intro Pr F env σ H x y d vx vy Q r hx hy h q;unfold gI at h;split at h
 ·rename_i i j;split at h
  ·rename_i hcc;cases h;obtain rfl:=hx.int;obtain rfl:=hy.int;exact⟨i,j,rfl,rfl,hc i j hcc,q _ H F r (bu.refl F) (hf i j F)⟩
  ·cases h
 ·cases h
theorem od_I0{f:Int->Int->D}{g:Int->Int->V}(hf:∀i j F,Rep C.K F (f i j) (g i j)):OpD C (rI0 g) (gI (λ_ _=>true) f):=by
 intro Pr F env σ H x y d vx vy Q r hx hy h q;unfold gI at h;split at h
 ·rename_i i j;rw[if_pos rfl] at h;cases h;obtain rfl:=hx.int;obtain rfl:=hy.int;exact⟨i,j,rfl,rfl,q _ H F r (bu.refl F) (hf i j F)⟩
 ·cases h
def mulFits(i j:Int):Bool:=decide (Builtin.Int.intBits i+Builtin.Int.intBits j<=134217728)
theorem op_mulB:OpR X (binaryOp .Mult) (rI (λi j=>mulFits i j=true) λi j=>.int (i*j)):=
 opI λi j _ _ _ _ _ hc q=>mul_int q (mulOk_of_bits (Qq0 _) (Qq0 _) (Qq7 hc))
def gMul:D->D->Option D:=gI mulFits λi j=>.int (i*j)
def gSub:D->D->Option D:=gI (λ_ _=>true) λi j=>.int (i - j)
def gMod:D->D->Option D:=gI (λ_ j=>decide (0<j)) λi j=>.int (i % j)
def gPow:D->D->Option D:=gI (λi j=>decide (0<=j/\j<=1000000/\i.natAbs<2^64)) λi j=>.int (i^j.toNat)
def gShl:D->D->Option D:=gI (λi j=>decide (0<=j/\j<=1000000/\i.natAbs<2^64)) λi j=>.int (i*2^j.toNat)
def gShr:D->D->Option D:=gI (λ_ j=>decide (0<=j)) λi j=>.int (i / 2^j.toNat)
def gAnd:D->D->Option D:=gI (λ_ _=>true) λi j=>.int (Builtin.bitAnd i j)
theorem od_mul:OpD C (rI (λi j=>mulFits i j=true) λi j=>.int (i*j)) gMul:=od_I (λ_ _ h=>h) λ_ _ _=>rfl
theorem od_sub:OpD C (rI0 λi j=>.int (i - j)) gSub:=od_I0 λ_ _ _=>rfl
theorem od_mod:OpD C (rI (λ_ j=>0<j) λi j=>.int (i % j)) gMod:=od_I (λ_ _ h=>Qq7 h) λ_ _ _=>rfl
theorem od_pow:OpD C (rI CPow λi j=>.int (i^j.toNat)) gPow:=od_I (λi j h=>(show 0<=j/\j<=1000000/\i.natAbs<2^64 from Qq7 h)) λ_ _ _=>rfl
theorem od_shl:OpD C (rI CPow λi j=>.int (i*2^j.toNat)) gShl:=od_I (λi j h=>(show 0<=j/\j<=1000000/\i.natAbs<2^64 from Qq7 h)) λ_ _ _=>rfl
theorem od_shr:OpD C (rI (λ_ j=>0<=j) λi j=>.int (i / 2^j.toNat)) gShr:=od_I (λ_ _ h=>Qq7 h) λ_ _ _=>rfl
theorem od_and:OpD C (rI0 λi j=>.int (Builtin.bitAnd i j)) gAnd:=od_I0 λ_ _ _=>rfl
abbrev rLtT:R2:=λx y H Q=>∃i j,x = .str i/\y = .str j/\Q (.bl (decide (i.cps.toList<j.cps.toList))) H
def gLtI:D->D->Option D:=gI (λ_ _=>true) λi j=>.bl (decide (i<j))
def gLtS(x y:D):Option D:=match x,y with
 | .str a,.str b=>some (.bl (decide (a<b)))
 | _,_=>none
def gLt(x y:D):Option D:=(gLtI x y).or (gLtS x y)
def gLe:D->D->Option D:=gI (λ_ _=>true) λi j=>.bl (decide (i<=j))
def gGt:D->D->Option D:=gI (λ_ _=>true) λi j=>.bl (decide (j<i))
theorem od_ltS:OpD C rLtT gLtS:=by
 intro Pr F env σ H x y d vx vy Q r hx hy h q;unfold gLtS at h;split at h
 ·cases h;obtain⟨rfl,_⟩:=hx.str;obtain⟨rfl,_⟩:=hy.str;exact⟨_,_,rfl,rfl,q _ H F r (bu.refl F) (by show V.bl _=V.bl _;congr)⟩
 ·cases h
abbrev rLt2:R2:=λx y H Q=>rI0 (λi j=>.bl (decide (i<j))) x y H Q\/rLtT x y H Q
theorem op_lt2:OpR X (compareOp .Lt) rLt2:=op_lt.or op_lt_str
theorem od_ltI:OpD C (rI0 λi j=>.bl (decide (i<j))) gLtI:=od_I0 λ_ _ _=>rfl
theorem od_lt:OpD C rLt2 gLt:=od_ltI.or od_ltS
theorem od_le:OpD C (rI0 λi j=>.bl (decide (i<=j))) gLe:=od_I0 λ_ _ _=>rfl
theorem od_gt:OpD C (rI0 λi j=>.bl (decide (j<i))) gGt:=od_I0 λ_ _ _=>rfl
def rCatT0(K:Fg):R2:=λx y H Q=>∃a b ys,x = .ref a/\y = .ref b/\SqT K H a []/\SqT K H b ys/\Q (.ref b) H
theorem op_catT0:OpR X (binaryOp .Add) (rCatT0 X.K):=by
 intro pins s σ H x y v u Q I rx ry h;obtain⟨a,b,ys,rfl,rfl,ha,hb,q⟩:=h;cases rx;cases ry;obtain⟨its,r1,p1,_⟩:=I.tuple ha;obtain⟨its2,r2,p2,_⟩:=I.tuple hb;cases r1;obtain⟨⟨cls,dd,data,sl⟩,ho,hc,n,hd⟩:=id p1;obtain⟨⟨cls2,dd2,data2,sl2⟩,ho2,hc2,n2,hd2⟩:=id p2;simp only at hc hd hc2 hd2;subst hc hd hc2 hd2;exact concat_meets ⟨_,ho,rfl⟩ ⟨_,ho2,rfl⟩ noFill_tuple_add seq_tuple_add PySem.F.slot_tuple_add PySem.F.entry_tuple_add (PySem.F.args_tuple_add_2 _ _)
  (tuple_addW0 a b ([]:List Value).toArray its2.toArray n n2 dd dd2 sl sl2 (by simp)) ⟨ho,ho2,⟨.ref b,H,I,rfl,q⟩⟩
abbrev rAddS:R2:=λx y H Q=>∃i j,x = .str i/\y = .str j/\i.length+j.length<=sizeLine/\Q (.str (i++j)) H
abbrev rAdd(K:Fg):R2:=λx y H Q=>rI0 (λi j=>.int (i+j)) x y H Q\/rAddS x y H Q\/rCat x y H Q\/rCatT K x y H Q\/rCatT0 K x y H Q
theorem op_add2:OpR X (binaryOp .Add) (rAdd X.K):=op_add.or (op_add_str.or (op_cat.or (op_catT.or op_catT0)))
def bN(x y:D):Option D:=match x,y with
 | .int i,.int j=>some (.int (i+j))
 | .str a,.str b=>if a.length+b.length<=sizeLine then some (.str (a++b)) else none
 | .lst a,.lst b=>if a.length+b.length<=sizeLine then some (.lst (a++b)) else none
 | .tup a,.tup b=>if a.length+b.length<=sizeLine then some (.tup (a++b)) else none
 | _,_=>none
theorem strOf_append(a b:List Nat):strOf a++strOf b=strOf (a++b):=by show(⟨(strOf a).cps++(strOf b).cps⟩:Str)=_;unfold strOf;simp
theorem bF(a:List Nat):(strOf a).length=a.length:=by show a.toArray.size=a.length;simp
theorem od_add:OpD C (rAdd C.K) bN:=by
 intro Pr F env σ H x y d vx vy Q r hx hy h q;unfold bN at h;split at h
 ·cases h;obtain rfl:=hx.int;obtain rfl:=hy.int;exact .inl ⟨_,_,rfl,rfl,q _ H F r (bu.refl F) rfl⟩
 ·split at h
  ·rename_i hz;cases h;obtain⟨rfl,_⟩:=hx.str;obtain⟨rfl,_⟩:=hy.str;refine .inr (.inl ⟨_,_,rfl,rfl,by rw[bF,bF];exact hz,?_⟩);rw[strOf_append];exact q _ H F r (bu.refl F) ⟨rfl,by rw[Qqq];exact hz⟩
  ·cases h
 ·split at h
  ·rename_i hz;cases h;obtain⟨_,a,vs,rfl,h1,h2⟩:=hx.lst r.fr;obtain⟨_,b,ws,rfl,h3,h4⟩:=hy.lst r.fr;refine .inr (.inr (.inl ⟨a,b,vs,ws,rfl,rfl,h1,h3,by rw[h2.length,h4.length];exact hz,λp hp=>?_⟩));obtain⟨r2,s2⟩:=r.new (o:=.lst (vs++ws)) hp;exact q _ _ _ r2 s2 ⟨by rw[Qqq];exact hz,p,_,rfl,bJ,bU.mono s2 _ _ (h2.append h4)⟩
  ·cases h
 ·split at h
  ·rename_i hz;cases h;obtain⟨z1,a,vs,rfl,h1,f1,h2⟩:=hx.tup r.fr;obtain⟨z2,b,ws,rfl,h3,f3,h4⟩:=hy.tup r.fr;by_cases hv:vs=[]
   ·subst hv;have e1:_=0:=h2.length.symm;have e2:=Qzx e1;subst e2;refine .inr (.inr (.inr (.inr ⟨a,b,ws,rfl,rfl,h1,h3,?_⟩)));exact q _ H F r (bu.refl F) ⟨z2,b,ws,rfl,f3,h4⟩
   ·refine .inr (.inr (.inr (.inl ⟨a,b,vs,ws,rfl,rfl,h1,h3,hv,by rw[h2.length,h4.length];exact hz,λhw=>?_,λhw p hp=>?_⟩)))
    ·subst hw;have e1:_=0:=h4.length.symm;have e2:=Qzx e1;subst e2;rw[Qjx] at q;exact q _ H F r (bu.refl F) ⟨z1,a,vs,rfl,f1,h2⟩
    ·obtain⟨r2,s2⟩:=r.new (o:=.tup (vs++ws)) hp;exact q _ _ _ r2 s2 ⟨by rw[Qqq];exact hz,p,_,rfl,SqT.of bJ,bU.mono s2 _ _ (h2.append h4)⟩
  ·cases h
 ·cases h
def BReps(K:Fg)(F H:Hp):List D->List V->Prop
 | [],vs=>vs=[]
 | d::ds,vs=>∃v r,vs=v::r/\BRep K F H d v/\BReps K F H ds r
def tAB(C:Cfg)(ev:EvA):TA:=λσ H Q=>∃(Pr F:Hp) (env env':Env) (ds:List D),Rel C Pr F env σ H/\ev env = .ok ds env'/\
 ∀vs H' F',Rel C Pr F' env' σ H'->bu F F'->BReps C.K F' H' ds vs->Q vs H'
def PXAB(X:Cx)(C:Cfg)(es:List Expr)(ev:EvA):Prop:=PA X es (tAB C ev)
def CallD(C:Cfg)(r:List V->Hp->VK->Prop)(g:List D->Option D):Prop:=∀(Pr F:Hp) (env:Env) (σ:L2.St) (H:Hp) (ds:List D) (d:D) (vs:List V) (Q:VK),Rel C Pr F env σ H->BReps C.K F H ds vs->g ds=some d->
 (∀v H' F',Rel C Pr F' env σ H'->bu F F'->Rep C.K F' d v->Q v H')->r vs H Q
def ao(g:List D->Option D)(a:EvA):Ev:=λenv=>bindR (a env) λds aO=>liftR (g ds) aO
theorem call_go{r:List V->Hp->VK->Prop}{g:List D->Option D}{a:EvA}(o:CallD C r g)(σ:L2.St)(H:Hp)(Q:VK)(h:tE C (ao g a) σ H Q):tCB r (tAB C a) σ H Q:=by obtain⟨Pr,F,env,env',d,rl,e,q⟩:=h;obtain⟨ds,aO,e1,e2⟩:=aU e;obtain⟨e3,rfl⟩:=cM e2;exact⟨Pr,F,env,env',ds,rl,e1,λvs H1 F1 r1 s1 p1=>o Pr F1 env' σ H1 ds d vs Q r1 p1 e3 λv H2 F2 r2 s2 p2=>q v H2 F2 r2 (s1.trans s2) p2⟩
theorem px_callB{x:Str}{p pos:Pos}{e:Expr}{es:List Expr}{id:String}{r:List V->Hp->VK->Prop}{g:List D->Option D}{a:EvA}(hc:CallR X (.builtin id) r)(o:CallD C r g)(hg:Gl X x)(hm:X.mg x=none)(hv:bootBuiltins x=some (.builtin id))(ha:PXAB X C (e::es) a)
  (hn:x ≠ "__name__":=by decide) (hdb:nDb x:=by decide) (he:starEach (e::es) X.env=(false,eval e X.env)::starEach es X.env:=by rfl) (hpl:(backTo pos (starEach es X.env)).any (·.1)=false:=by rfl) :
  PX X C (.Call (.Name x p) (e::es) [] pos) (ao g a):=(pe_callB hc hg hm hv ha hn hdb he hpl).imp (call_go o)
theorem px_callTy{x:Str}{p pos:Pos}{e:Expr}{es:List Expr}{T:String}{r:List V->Hp->VK->Prop}{g:List D->Option D}{a:EvA}(hc:CallR X (.type T) r)(o:CallD C r g)(hg:Gl X x)(hm:X.mg x=none)(hv:bootBuiltins x=some (.type T))(ha:PXAB X C (e::es) a)
  (hn:x ≠ "__name__":=by decide) (hdb:nDb x:=by decide) (he:starEach (e::es) X.env=(false,eval e X.env)::starEach es X.env:=by rfl) (hpl:(backTo pos (starEach es X.env)).any (·.1)=false:=by rfl) :
  PX X C (.Call (.Name x p) (e::es) [] pos) (ao g a):=(pe_callTy hc hg hm hv ha hn hdb he hpl).imp (call_go o)
theorem breps1{K:Fg}{F H:Hp}{d:D}{vs:List V}(h:BReps K F H [d] vs):∃v,vs=[v]/\BRep K F H d v:=by obtain⟨v,r,rfl,h1,h2⟩:=h;cases h2;exact⟨v,rfl,h1⟩
theorem breps2{K:Fg}{F H:Hp}{d e:D}{vs:List V}(h:BReps K F H [d,e] vs):∃v w,vs=[v,w]/\BRep K F H d v/\BRep K F H e w:=by obtain⟨v,r,rfl,h1,h2⟩:=h;obtain⟨w,rfl,h3⟩:=breps1 h2;exact⟨v,w,rfl,h1,h3⟩
def gLen:List D->Option D
 | [.str x]=>some (.int x.length)
 | [.tup xs]=>some (.int xs.length)
 | [.lst xs]=>some (.int xs.length)
 | [.arr xs]=>some (.int xs.length)
 | _=>none
theorem cd_len:CallD C (λxs H Q=>∃x n,xs=[x]/\LenV C.K x H n/\Q (.int n) H) gLen:=by
 intro Pr F env σ H ds d vs Q r hs h q;unfold gLen at h;split at h
 ·cases h;obtain⟨v,rfl,hv⟩:=breps1 hs;obtain⟨rfl,hz⟩:=hv.str;exact⟨_,_,rfl,⟨by rw[bF];exact hz,(bF _).symm⟩,q _ H F r (bu.refl F) rfl⟩
 ·cases h;obtain⟨v,rfl,hv⟩:=breps1 hs;obtain⟨_,a,ws,rfl,h1,_,h2⟩:=hv.tup r.fr;exact⟨_,_,rfl,.inr ⟨ws,h1,h2.length.symm⟩,q _ H F r (bu.refl F) rfl⟩
 ·cases h;obtain⟨v,rfl,hv⟩:=breps1 hs;obtain⟨_,a,ws,rfl,h1,h2⟩:=hv.lst r.fr;exact⟨_,_,rfl,.inl ⟨ws,SqL.of h1,h2.length.symm⟩,q _ H F r (bu.refl F) rfl⟩
 ·cases h;obtain⟨v,rfl,hv⟩:=breps1 hs;obtain⟨_,a,ws,rfl,h1,h2⟩:=hv.arr r.fr;exact⟨_,_,rfl,.inl ⟨ws,h1,h2.length.symm⟩,q _ H F r (bu.refl F) rfl⟩
 ·cases h
def gTuple:List D->Option D
 | [.tup xs]=>some (.tup xs)
 | [.lst xs]=>some (.tup xs)
 | _=>none
abbrev rTuple(K:Fg):List V->Hp->VK->Prop:=λxs H Q=>∃p ys,xs=[.ref p]/\((SqL K H p ys/\∀l,H l=none->Q (.ref l) (upd H l (.tup ys)))\/(SqT K H p ys/\Q (.ref p) H))
theorem cd_tuple:CallD C (rTuple C.K) gTuple:=by
 intro Pr F env σ H ds d vs Q r hs h q;unfold gTuple at h;split at h
 ·cases h;obtain⟨v,rfl,hv⟩:=breps1 hs;obtain⟨z,a,ws,rfl,h1,f1,h2⟩:=hv.tup r.fr;exact⟨a,ws,rfl,.inr ⟨h1,q _ H F r (bu.refl F) ⟨z,a,ws,rfl,f1,h2⟩⟩⟩
 ·cases h;obtain⟨v,rfl,hv⟩:=breps1 hs;obtain⟨z,a,ws,rfl,h1,h2⟩:=hv.lst r.fr;refine⟨a,ws,rfl,.inl ⟨SqL.of h1,λl hl=>?_⟩⟩;obtain⟨r2,s2⟩:=r.new (o:=.tup ws) hl;exact q _ _ _ r2 s2 ⟨z,l,ws,rfl,SqT.of bJ,bU.mono s2 _ _ h2⟩
 ·cases h
def signs(x:List Nat):List D:=x.map λc=>.str [c]
abbrev rListS:List V->Hp->VK->Prop:=λxs H Q=>∃z,xs=[.str z]/\z.length<=sizeLine/\∀l,H l=none->Q (.ref l) (upd H l (.lst (z.cps.toList.map λc=>V.str ⟨#[c]⟩)))
theorem call_listS(hh:X.calm=true):CallR X (.type "list") rListS:=by
 intro pins s σ H xs us Q I r h;obtain⟨z,rfl,hz,q⟩:=h;obtain⟨u,rfl,⟨t,rfl⟩⟩:=vals1 r;refine call_list_str (I.ok.hd hh) z t (λh' tk acc' c' kp e hacc=>?_) hz;refine⟨.ref s.heap.objs.size,_,I.laid kp (Qq0 _) (show ObjOk X.prog X.w _ h' _ (.lst (z.cps.toList.map λc=>V.str ⟨#[c]⟩)) from⟨?_,acc'.toList,c',?_,by simpa using e⟩),rfl,q _ (I.hok.fresh (Qq0 _))⟩
 ·simpa[Str.length] using hz
 ·obtain⟨hsz,hit⟩:=hacc;have go:∀(cs:List Nat) (vs:List Value),vs.length=cs.length->(∀(j:Nat) (v:Value),vs[j]? = some v->∃(c:Nat) (u:Tok),cs[j]? = some c/\v=Value.str ⟨#[c]⟩ u)->Vals (cs.map λc=>V.str ⟨#[c]⟩) vs:=by
   intro cs
   induction cs with
   | nil=>intro vs hl _;rw[Qzx hl];exact .nil
   | cons c cs ih=>
    intro vs hl hv;cases vs with
    | nil=>simp at hl
    | cons v vs=>
     obtain⟨c',u,e1,e2⟩:=hv 0 v rfl;simp at e1;subst e1 e2;exact .cons ⟨u,rfl⟩ (ih vs (by simpa using hl) λj w hw=>by simpa using hv (j+1) w (by simpa using hw))
  refine go _ _ (by simpa using hsz) λj v hv=>?_;obtain⟨c,u,e1,e2⟩:=hit j v (by simpa using hv);exact⟨c,u,by simpa using e1,e2⟩
def gList:List D->Option D
 | [.tup xs]=>some (.lst xs)
 | [.lst xs]=>some (.lst xs)
 | [.str x]=>some (.lst (signs x))
 | _=>none
abbrev rList(K:Fg):List V->Hp->VK->Prop:=λxs H Q=>(∃p ys,xs=[.ref p]/\(SqL K H p ys\/SqT K H p ys)/\∀l,H l=none->Q (.ref l) (upd H l (.lst ys)))\/rListS xs H Q
theorem call_list2(hh:X.calm=true):CallR X (.type "list") (rList X.K):=call_list_of.or (call_listS hh)
theorem reps_signs{K:Fg}{F:Hp}:∀x:List Nat,bU K F (signs x) (x.map λc=>V.str ⟨#[c]⟩)
 | []=>rfl
 | c::x=>⟨_,_,rfl,⟨rfl,by rw[sizeLine_eq];simp⟩,reps_signs x⟩
theorem cd_list:CallD C (rList C.K) gList:=by
 intro Pr F env σ H ds d vs Q r hs h q;unfold gList at h;split at h
 ·cases h;obtain⟨v,rfl,hv⟩:=breps1 hs;obtain⟨z,a,ws,rfl,h1,f1,h2⟩:=hv.tup r.fr;refine .inl ⟨a,ws,rfl,.inr h1,λl hl=>?_⟩;obtain⟨r2,s2⟩:=r.new (o:=.lst ws) hl;exact q _ _ _ r2 s2 ⟨z,l,ws,rfl,bJ,bU.mono s2 _ _ h2⟩
 ·cases h;obtain⟨v,rfl,hv⟩:=breps1 hs;obtain⟨z,a,ws,rfl,h1,h2⟩:=hv.lst r.fr;refine .inl ⟨a,ws,rfl,.inl (SqL.of h1),λl hl=>?_⟩;obtain⟨r2,s2⟩:=r.new (o:=.lst ws) hl;exact q _ _ _ r2 s2 ⟨z,l,ws,rfl,bJ,bU.mono s2 _ _ h2⟩
 ·rename_i x;cases h;obtain⟨v,rfl,hv⟩:=breps1 hs;obtain⟨rfl,hz⟩:=hv.str;refine .inr ⟨_,rfl,by rw[bF];exact hz,λl hl=>?_⟩;obtain⟨r2,s2⟩:=r.new (o:=.lst ((strOf x).cps.toList.map λc=>V.str ⟨#[c]⟩)) hl;refine q _ _ _ r2 s2 ⟨by simpa[signs] using hz,l,_,rfl,bJ,?_⟩;have e:(strOf x).cps.toList=x:=by simp[strOf]
  rw[e];exact reps_signs x
 ·cases h
def gMax:List D->Option D
 | [.int i,.int j]=>some (.int (if j > i then j else i))
 | _=>none
def gMin:List D->Option D
 | [.int i,.int j]=>some (.int (if j<i then j else i))
 | _=>none
theorem cd_max:CallD C (λxs H Q=>∃i j,xs=[.int i,.int j]/\Q (.int (if j > i then j else i)) H) gMax:=by
 intro Pr F env σ H ds d vs Q r hs h q;unfold gMax at h;split at h
 ·cases h;obtain⟨v,w,rfl,hv,hw⟩:=breps2 hs;obtain rfl:=hv.int;obtain rfl:=hw.int;exact⟨_,_,rfl,q _ H F r (bu.refl F) rfl⟩
 ·cases h
theorem cd_min:CallD C (λxs H Q=>∃i j,xs=[.int i,.int j]/\Q (.int (if j<i then j else i)) H) gMin:=by
 intro Pr F env σ H ds d vs Q r hs h q;unfold gMin at h;split at h
 ·cases h;obtain⟨v,w,rfl,hv,hw⟩:=breps2 hs;obtain rfl:=hv.int;obtain rfl:=hw.int;exact⟨_,_,rfl,q _ H F r (bu.refl F) rfl⟩
 ·cases h
def gDivmod:List D->Option D
 | [.int i,.int j]=>if 0<j/\j<1073741824 then some (.tup [.int (i / j),.int (i % j)]) else none
 | _=>none
theorem cd_divmod:CallD C (λxs H Q=>∃i j,xs=[.int i,.int j]/\CDiv i j/\∀p,H p=none->Q (.ref p) (upd H p (.tup [.int (i / j),.int (i % j)]))) gDivmod:=by
 intro Pr F env σ H ds d vs Q r hs h q;unfold gDivmod at h;split at h
 ·split at h
  ·rename_i hj;cases h;obtain⟨v,w,rfl,hv,hw⟩:=breps2 hs;obtain rfl:=hv.int;obtain rfl:=hw.int;refine⟨_,_,rfl,hj,λp hp=>?_⟩;obtain⟨r2,s2⟩:=r.new (o:=.tup [.int _,.int _]) hp;exact q _ _ _ r2 s2 ⟨by rw[sizeLine_eq];simp,p,_,rfl,SqT.of bJ,⟨_,_,rfl,rfl,_,_,rfl,rfl,rfl⟩⟩
  ·cases h
 ·cases h
def tyD:D->String
 | .non=>"NoneType"
 | .bl _=>"bool"
 | .int _=>"int"
 | .str _=>"str"
 | .tup _=>"tuple"
 | .lst _=>"list"
 | .arr _=>"list"
 | .dct _=>"dict"
 | .dcn _=>"dict"
 | .clo _ _=>"NoneType"
def instD(d:D)(T:String):Bool:=tyD d == T||(tyD d == "bool" && T == "int")
theorem isi_go{d:D}{u c:Value}{b:Bool}{s:Shared}{A:Around}{E:Value->Shared->Prop}{Q:Value->Shared->Prop}(kin:X.K.In s.heap)(nc:∀st ds,d ≠ .clo st ds)(h:Sh s.heap d u)(e:PySem.W.kitOne X.K (.type (tyD d)) c=some b)(q:∀tk,Q (.bool b) { s with toks:=tk }) :
  wpAny (model X.prog X.w) A (call (.builtin "isinstance") [u,c]) Q E s:=by
 cases d with
 | non=>cases h;exact PySem.W.kia_one PySem.W.kitx_none kin True.intro e (λz=>nomatch z) q
 | bl y=>cases h;exact PySem.W.kia_one PySem.W.kitx_bool kin True.intro e (λz=>nomatch z) q
 | int i=>obtain⟨t,rfl⟩:=h;exact PySem.W.kia_one PySem.W.kitx_int kin True.intro e (λz=>nomatch z) q
 | str y=>obtain⟨t,rfl⟩:=h;exact PySem.W.kia_one PySem.W.kitx_str kin True.intro e (λz=>nomatch z) q
 | tup xs=>
  obtain⟨a,its,rfl,p,_⟩:=h;obtain⟨o,h1,h2,_⟩:=p;exact PySem.W.kia_one PySem.W.kitx_tuple kin ⟨o,h1,h2⟩ e (λz=>nomatch z) q
 | lst xs=>
  obtain⟨a,its,rfl,p,_⟩:=h;obtain⟨o,h1,h2,_⟩:=p.isList;exact PySem.W.kia_one PySem.W.kitx_list kin ⟨o,h1,h2⟩ e (λz=>nomatch z) q
 | arr xs=>
  obtain⟨a,its,rfl,p,_⟩:=h;obtain⟨o,h1,h2,_⟩:=p.isList;exact PySem.W.kia_one PySem.W.kitx_list kin ⟨o,h1,h2⟩ e (λz=>nomatch z) q
 | dct kvs=>
  obtain⟨a,o,rfl,h1,h2⟩:=h;exact PySem.W.kia_one PySem.W.kitx_dict kin ⟨o,h1,h2.1⟩ e (λz=>nomatch z) q
 | dcn kvs=>
  obtain⟨a,o,rfl,h1,h2⟩:=h;exact PySem.W.kia_one PySem.W.kitx_dict kin ⟨o,h1,h2.1⟩ e (λz=>nomatch z) q
 | clo st ds=>exact(nc st ds rfl).elim
def gIsi(T:String)(d:D):Option D:=match d with
 | .clo _ _=>none
 | _=>some (.bl (instD d T))
theorem gIsi_ok{T:String}{d e:D}(h:gIsi T d=some e):(∀st ds,d ≠ .clo st ds)/\e = .bl (instD d T):=by cases d<;>simp[gIsi] at h<;>exact⟨λ_ _ z=>(by cases z),h.symm⟩
theorem call_isi{T:String}(hk:∀d:D,PySem.W.kitOne X.K (.type (tyD d)) (.type T)=some (instD d T)) :
  CallR X (.builtin "isinstance") (λxs H Q=>∃d x,xs=[x,.ty T]/\(∀st ds,d ≠ .clo st ds)/\Rep X.K H d x/\Q (.bl (instD d T)) H):=by
 intro pins s σ H xs us Q I r h;obtain⟨d,x,rfl,nc,hr,q⟩:=h;obtain⟨u,w,rfl,r1,r2⟩:=vals2 r;cases r2;exact isi_go (X:=X) I.kIn nc (Rep.sh I d x u hr r1) (hk d) λtk=>⟨.bl _,H,I.tok tk,rfl,q⟩
def blsOf:List D->Option (List Bool)
 | []=>some []
 | .bl b::r=>(blsOf r).map (b :: ·)
 | _=>none
theorem reps_bls{K:Fg}{F:Hp}:∀{ds:List D} {bs:List Bool} {vs:List V},blsOf ds=some bs->bU K F ds vs->vs=bs.map V.bl
 | [],bs,vs,h,hr=>by simp[blsOf] at h;subst h;cases hr;rfl
 | d::ds,bs,vs,h,hr=>by
  obtain⟨v,r,rfl,h1,h2⟩:=hr;cases d with
  | bl b=>
   simp only[blsOf] at h;cases e:blsOf ds with
   | none=>rw[e] at h;cases h
   | some cs=>
    rw[e] at h;cases h;cases h1;rw[reps_bls e h2]
    rfl
  | _=>simp[blsOf] at h
theorem vals_bls:∀{bs:List Bool} {us:List Value},Vals (bs.map V.bl) us->us=bs.map Value.bool
 | [],_,.nil=>rfl
 | b::bs,_,.cons r t=>by
  cases r;rw[vals_bls t]
  rfl
theorem all_range_get(bs:List Bool):(List.range bs.length).all (λi=>bs.getD i true)=bs.all id:=by
 induction bs with
 | nil=>rfl
 | cons b bs ih=>
  rw[Qqk,List.range_succ_eq_map,List.all_cons,List.all_map,List.all_cons];simp only[List.getD_cons_zero,id]
  congr 1
theorem call_all2(hc:X.calm=true):CallR X (.builtin "all") (λxs H Q=>∃(p:Addr) (bs:List Bool),xs=[.ref p]/\SqL X.K H p (bs.map V.bl)/\Q (.bl (bs.all id)) H):=by
 intro pins s σ H xs us Q I r h;obtain⟨p,bs,rfl,hq,q⟩:=h;obtain⟨u,rfl,rx⟩:=vals1 r;cases rx;obtain⟨its,rv,pl,_⟩:=I.list hq;have e:=vals_bls rv;subst e;refine call_all_walk (wpAny_pyIter_list pl.isList ?_);have hlt:p<s.heap.objs.size:=by obtain⟨o,e,_⟩:=pl.isList;exact Qwj e
 refine⟨s.heap.objs.size,_,_,_,_,_,λi=>bs.getD i true,rfl,Walks.list (A:=X.A.in1) (show X.A.in1.handled=none from I.ok.hd hc) s.heap.objs.size p (Qw5 hlt) (bs.map Value.bool).toArray,⟨⟨_,Qwv _ rfl,rfl,rfl⟩,by obtain⟨o,e,rr⟩:=pl.isList;exact⟨o,Qqw _ e,rr⟩⟩,?_,λh' tk hk=>?_⟩
 ·intro i v s' Q' E' hv hq';have hv:(bs.map Value.bool).toArray[i]? = some v:=hv;rw[List.getElem?_toArray,Qxq] at hv;cases hb:bs[i]? with
  | none=>rw[hb] at hv;cases hv
  | some b=>
   rw[hb] at hv;cases hv;refine Qzw ?_;have this:bs.getD i true=b:=by simp[Qx8,hb]
   have hq':Q' (bs.getD i true) s':=hq'
   rwa [this] at hq'
 ·have I1:Inv X pins σ H { s with heap:=h',toks:=tk }:=I.kept λb o e=>hk b o (by simp;exact Qw5 (Qwj e)) (Qqw _ e);refine⟨.bl _,H,I1,rfl,?_⟩;have e2:(bs.map Value.bool).toArray.size=bs.length:=by simp
  rw[e2,all_range_get];exact q
def gAll:List D->Option D
 | [.lst ds]=>(blsOf ds).map λbs=>.bl (bs.all id)
 | _=>none
theorem cd_all:CallD C (λxs H Q=>∃(p:Addr) (bs:List Bool),xs=[.ref p]/\SqL C.K H p (bs.map V.bl)/\Q (.bl (bs.all id)) H) gAll:=by
 intro Pr F env σ H ds d vs Q r hs h q;unfold gAll at h;split at h
 ·rename_i es;cases e:blsOf es with
  | none=>rw[e] at h;cases h
  | some bs=>
   rw[e] at h;cases h;obtain⟨v,rfl,hv⟩:=breps1 hs;obtain⟨z,a,ws,rfl,h1,h2⟩:=hv.lst r.fr;have e2:=reps_bls e h2;subst e2;exact⟨a,bs,rfl,SqL.of h1,q _ H F r (bu.refl F) rfl⟩
 ·cases h
def strsD:List D->Option (List (List Nat))
 | []=>some []
 | .str x::r=>(strsD r).map (x :: ·)
 | _=>none
def joinN(sep:List Nat):List (List Nat)->List Nat
 | []=>[]
 | x::r=>r.foldl (λacc y=>acc++sep++y) x
theorem join_str(sep:List Nat)(xs:List (List Nat)):Txt.join (strOf sep) (xs.map strOf)=strOf (joinN sep xs):=by
 unfold Txt.join;unfold Builtin.Str.glued;cases xs with
 | nil=>rfl
 | cons x r=>
  show(⟨(r.map strOf).foldl (λacc p=>acc++(strOf sep).cps++p.cps) (strOf x).cps⟩:Str)=strOf (r.foldl (λacc y=>acc++sep++y) x);have go:∀(r:List (List Nat)) (x:List Nat),(r.map strOf).foldl (λacc p=>acc++(strOf sep).cps++p.cps) (strOf x).cps=(strOf (r.foldl (λacc y=>acc++sep++y) x)).cps:=by
   intro r
   induction r with
   | nil=>intro x;rfl
   | cons y r ih=>
    intro x;rw[Qwz,Qz6,Qz6];rw[<-ih (x++sep++y)]
    congr 1
    simp[strOf]
  rw[go]
theorem reps_strs{K:Fg}{F:Hp}:∀{ds:List D} {xs:List (List Nat)} {vs:List V},strsD ds=some xs->bU K F ds vs->vs=xs.map λx=>V.str (strOf x)
 | [],bs,vs,h,hr=>by simp[strsD] at h;subst h;cases hr;rfl
 | d::ds,bs,vs,h,hr=>by
  obtain⟨v,r,rfl,h1,h2⟩:=hr;cases d with
  | str b=>
   simp only[strsD] at h;cases e:strsD ds with
   | none=>rw[e] at h;cases h
   | some cs=>
    rw[e] at h;cases h;cases h1.1;rw[reps_strs e h2]
    rfl
  | _=>simp[strsD] at h
theorem vals_strs:∀{xs:List (List Nat)} {us:List Value},Vals (xs.map λx=>V.str (strOf x)) us->StrsAre us (xs.map strOf)
 | [],_,.nil=>.nil
 | x::xs,_,.cons r t=>by
  obtain⟨k,rfl⟩:=r;exact .cons _ k (vals_strs t)
def joinFits(sep:List Nat)(xs:List (List Nat)):Bool:=decide ((xs.map List.length).sum+xs.length*sep.length<=16777216)
def rJoin(K:Fg):V->List V->Hp->VK->Prop:=λx vs H Q=>∃sep xs p,x = .str (strOf sep)/\vs=[.ref p]/\SqL K H p (xs.map λx=>V.str (strOf x))/\joinFits sep xs=true/\Q (.str (strOf (joinN sep xs))) H
theorem mt_join:MtR X "str.join" (rJoin X.K):=by
 intro pins s σ H x vs v us Q I rx rv h;obtain⟨sep,xs,p,rfl,rfl,hq,hf,q⟩:=h;obtain⟨t,rfl⟩:=rx;obtain⟨u,rfl,ru⟩:=vals1 rv;cases ru;obtain⟨its,r,pl,_⟩:=I.list hq;have hs:=vals_strs r;refine join_list pl.isList (by simpa using hs) ?_ λt' k=>?_
 ·have hf':=Qq7 hf;have e:((xs.map strOf).map (·.length))=xs.map List.length:=by
   rw[Qz4];apply Qjk;intro z _;exact bF z
  rw[e,bF,Qqx];exact hf'
 ·rw[join_str];exact⟨.str _,H,I.tok k,⟨t',rfl⟩,q⟩
theorem sum_join(sep:List Nat):∀(r:List (List Nat)) (x:List Nat),(r.foldl (λacc y=>acc++sep++y) x).length=x.length+(r.map List.length).sum+r.length*sep.length
 | [],x=>by simp
 | y::r,x=>by
  rw[Qz6,sum_join sep r,Qqq,Qqq,Qwz,List.sum_cons,Qqk,Nat.add_mul];omega
theorem joinN_le{sep:List Nat}{xs:List (List Nat)}(h:joinFits sep xs=true):(joinN sep xs).length<=sizeLine:=by
 have h':=Qq7 h;rw[sizeLine_eq];cases xs with
 | nil=>simp[joinN]
 | cons x r=>
  show(r.foldl (λacc y=>acc++sep++y) x).length<=_;rw[sum_join];rw[Qwz,List.sum_cons,Qqk,Nat.add_mul] at h';omega
def gJoin(x y:D):Option D:=match x,y with
 | .str sep,.lst ds=>(match strsD ds with
  | some xs=>if joinFits sep xs=true then some (.str (joinN sep xs)) else none
  | none=>none)
 | _,_=>none
theorem px_join{o e:Expr}{a b:Ev}{apos cpos:Pos}(hK:X.K=C.K)(ho:PX X C o a)(he:PXB X C e b)(hbase:attributeBase o "join" X.env (eval o X.env)=eval o X.env:=by rfl)
  (hs:sEn e X.env:=by rfl)
  (hfew:((backTo cpos (starEach [e] X.env)).all (λx=>!x.1)&&(backToKw cpos (keywordEach [] X.env)).all (λx=>x.1.isSome)
   && decide ([e].length+([]:List Keyword).length+(if ([]:List Keyword).isEmpty then 0 else 1)<30))=true:=by rfl)
  (hline:(apos.endLine == cpos.line)=true:=by rfl) (hplain:(backTo cpos (starEach [] X.env)).any (·.1)=false:=by rfl) :
  PX X C (.Call (.Attribute o "join" apos) [e] [] cpos) (aG gJoin a b):=by
 refine(pe_bm PySem.F.plainAttrs_str PySem.F.slot_str_join PySem.F.type_str_join mt_join ho (pa_cons he pa_nil hs) hbase hfew hline hs hplain).imp λσ H Q h=>?_;obtain⟨Pr,F,env,env',d,rl,e0,q⟩:=h;obtain⟨x,aO,e1,e2⟩:=aU e0;obtain⟨y,bZ,e3,e4⟩:=aU e2;obtain⟨e5,rfl⟩:=cM e4;unfold gJoin at e5;split at e5
 ·rename_i sep ds;split at e5
  ·rename_i xs hxs;split at e5
   ·rename_i hf;cases e5;refine⟨Pr,F,env,aO,_,rl,e1,λvx H1 F1 r1 s1 p1=>?_⟩;obtain⟨rfl,_⟩:=p1;refine⟨rfl,Pr,F1,aO,env',_,r1,e3,λvy H2 F2 r2 s2 p2=>?_⟩;obtain⟨z,l,ws,rfl,h1,h2⟩:=p2.lst r2.fr;have e6:=reps_strs hxs h2;subst e6;exact⟨sep,xs,l,rfl,rfl,SqL.of h1,hf,q _ H2 F2 r2 (s1.trans s2) ⟨rfl,joinN_le hf⟩⟩
   ·cases e5
  ·cases e5
 ·cases e5
end
theorem Rel.put{C:Cfg}{Pr F:Hp}{env:Env}{σ:L2.St}{H:Hp}(r:Rel C Pr F env σ H){i:Nat}{d:D}{v:V}(hfx:C.fx i=none)(p:Rep C.K F d v):Rel C Pr F (env.set i (some (false,d))) (σ.set i (some v)) H:=by
 refine⟨r.pr,r.fr,by rw[Qx1,Qx1];exact r.len,λj e he=>?_,λj e he=>?_,λj k e f b hj hk g1 g2=>?_,r.dj,λj a hj=>?_⟩
 ·by_cases hji:j=i
  ·subst hji;have hl:j<env.length:=by
    have:=(Qq4.mp he).1
    rwa [Qx1] at this
   rw[Qwk hl] at he;cases he;exact⟨v,Qwk (by rw[<-r.len];exact hl),p⟩
  ·rw[Qwx (Ne.symm hji)] at he ⊢;exact r.val j e he
 ·by_cases hji:j=i
  ·subst hji;have hl:j<env.length:=by
    have:=(Qq4.mp he).1
    rwa [Qx1] at this
   rw[Qwk hl] at he;cases he
  ·rw[Qwx (Ne.symm hji)] at he ⊢;exact r.own j e he
 ·have nn:∀(j:Nat) (e:D),(env.set i (some (false,d)))[j]? = some (some (true,e))->j≠i:=λj e he z=>by
   subst z;have hl:j<env.length:=by
    have:=(Qq4.mp he).1
    rwa [Qx1] at this
   rw[Qwk hl] at he;cases he
  have nj:=nn j e hj;have nk:=nn k f hk;rw[Qwx (Ne.symm nj)] at hj g1;rw[Qwx (Ne.symm nk)] at hk g2;exact r.apart j k e f b hj hk g1 g2
 ·have hji:j≠i:=λz=>by rw[z,hfx] at hj;cases hj
  rw[Qwx (Ne.symm hji)];exact r.fix j a hj
structure New(K:Fg)(Pr F:Hp)(env:Env)(σ:L2.St)(H:Hp)(d:D)(a:Addr):Prop where
 own:OwnAt K F H d a
 nF:F a=none
 nP:Pr a=none
 ap:∀(j:Nat) (e:D),env[j]? = some (some (true,e))->σ[j]? = some (some (V.ref a))->False
theorem New.of{C:Cfg}{Pr F:Hp}{env:Env}{σ:L2.St}{H:Hp}{a:Addr}{o:HO}{d:D}(r:Rel C Pr F env σ H)(h:H a=none)(ho:OwnAt C.K F (upd H a o) d a):New C.K Pr F env σ (upd H a o) d a:=
 ⟨ho,r.fr.free h,r.pr.free h,λj e he hs=>by
  obtain⟨b,h1,h2,_⟩:=r.own j e he;rw[hs] at h1;cases h1;obtain⟨u,hu⟩:=h2.some;rw[h] at hu;cases hu⟩
theorem Rel.putOwn{C:Cfg}{Pr F:Hp}{env:Env}{σ:L2.St}{H:Hp}(r:Rel C Pr F env σ H){i:Nat}{d:D}{a:Addr}(hfx:C.fx i=none)(n:New C.K Pr F env σ H d a):Rel C Pr F (env.set i (some (true,d))) (σ.set i (some (.ref a))) H:=by
 have same:∀(j:Nat) (x:Bool×D),(env.set i (some (true,d)))[j]? = some (some x)->j=i->x=(true,d)/\j<env.length:=λj x he z=>by
  subst z;have hl:j<env.length:=by
   have:=(Qq4.mp he).1
   rwa [Qx1] at this
  rw[Qwk hl] at he;cases he;exact⟨rfl,hl⟩
 refine⟨r.pr,r.fr,by rw[Qx1,Qx1];exact r.len,λj e he=>?_,λj e he=>?_,λj k e f b hj hk g1 g2=>?_,r.dj,λj a hj=>?_⟩
 ·by_cases hji:j=i
  ·have:=(same j _ he hji).1;cases this
  ·rw[Qwx (Ne.symm hji)] at he ⊢;exact r.val j e he
 ·by_cases hji:j=i
  ·obtain⟨z,hl⟩:=same j _ he hji;cases z;subst hji;exact⟨a,Qwk (by rw[<-r.len];exact hl),n.own,n.nF,n.nP⟩
  ·rw[Qwx (Ne.symm hji)] at he ⊢;exact r.own j e he
 ·by_cases nj:j=i
  ·by_cases nk:k=i
   ·rw[nj,nk]
   ·obtain⟨z,hl⟩:=same j _ hj nj;subst nj;rw[Qwk (by rw[<-r.len];exact hl)] at g1;cases g1;rw[Qwx (Ne.symm nk)] at hk g2;exact(n.ap k f hk g2).elim
  ·rw[Qwx (Ne.symm nj)] at hj g1;by_cases nk:k=i
   ·obtain⟨z,hl⟩:=same k _ hk nk;subst nk;rw[Qwk (by rw[<-r.len];exact hl)] at g2;cases g2;exact(n.ap j e hj g1).elim
   ·rw[Qwx (Ne.symm nk)] at hk g2;exact r.apart j k e f b hj hk g1 g2
 ·have hji:j≠i:=λz=>by rw[z,hfx] at hj;cases hj
  rw[Qwx (Ne.symm hji)];exact r.fix j a hj
theorem Rel.keep{C:Cfg}{Pr F:Hp}{env:Env}{σ:L2.St}{H:Hp}{d:D}{a:Addr}(r:Rel C Pr F env σ H)(n:New C.K Pr F env σ H d a):∃F',Rel C Pr F' env σ H/\bu F F'/\Rep C.K F' d (.ref a):=by
 obtain⟨o,ho⟩:=n.own.some;have s1:bu F (upd F a o):=same_upd n.nF;have rep:Rep C.K (upd F a o) d (.ref a):=by
  have h2:=n.own;cases d with
  | lst xs=>obtain⟨z,vs,g1,g2⟩:=h2;rw[ho] at g1;cases g1;exact⟨z,a,vs,rfl,bJ,bU.mono s1 _ _ g2⟩
  | dct kvs=>obtain⟨z,ks,g1,g2⟩:=h2;rw[ho] at g1;cases g1;exact⟨z,a,ks,rfl,.inl bJ,RepKs.mono s1 _ _ g2⟩
  | dcn kvs=>obtain⟨z,ks,g1,g2⟩:=h2;rw[ho] at g1;cases g1;exact⟨z,a,ks,rfl,.inl bJ,RepNs.mono s1 _ _ g2⟩
  | _=>exact h2.elim
 refine⟨upd F a o,⟨r.pr,λb u e=>?_,r.len,λj e he=>?_,λj e he=>?_,r.apart,λb u e=>?_,r.fix⟩,s1,rep⟩
 ·by_cases hb:b=a
  ·subst hb;rw[bJ] at e;cases e;exact ho
  ·rw[bY hb] at e;exact r.fr b u e
 ·obtain⟨v,g1,g2⟩:=r.val j e he;exact⟨v,g1,Rep.mono s1 e v g2⟩
 ·obtain⟨b,g1,g2,g3,g4⟩:=r.own j e he;have hb:b≠a:=λz=>by subst z;exact n.ap j e he g1
  exact⟨b,g1,g2.mono s1 rfl,by rw[bY hb];exact g3,g4⟩
 ·by_cases hb:b=a
  ·subst hb;exact n.nP
  ·rw[bY hb] at e;exact r.dj b u e
theorem Rel.write{C:Cfg}{Pr F:Hp}{env:Env}{σ:L2.St}{H:Hp}{i:Nat}{d d':D}{a:Addr}{u:HO}(r:Rel C Pr F env σ H)(h:env[i]? = some (some (true,d)))(hs:σ[i]? = some (some (V.ref a)))(ho:OwnAt C.K F (upd H a u) d' a) :
  Rel C Pr F (env.set i (some (true,d'))) σ (upd H a u):=by
 obtain⟨a',h1,h2,h3,h4⟩:=r.own i d h;rw[hs] at h1;cases h1;have hi:i<env.length:=(Qq4.mp h).1;have ne:∀(j:Nat) (e:D) (b:Addr),j≠i->env[j]? = some (some (true,e))->σ[j]? = some (some (V.ref b))->b≠a:=λj e b hj he g z=>hj (r.apart j i e d a he h (by rw[<-z];exact g) hs);refine⟨λb w e=>?_,λb w e=>?_,by rw[Qx1];exact r.len,λj e he=>?_,λj e he=>?_,λj k e f b hj hk g1 g2=>?_,r.dj,r.fix⟩
 ·have hb:b≠a:=λz=>by rw[z,h4] at e;cases e
  rw[bY hb];exact r.pr b w e
 ·have hb:b≠a:=λz=>by rw[z,h3] at e;cases e
  rw[bY hb];exact r.fr b w e
 ·by_cases hj:j=i
  ·subst hj;rw[Qwk hi] at he;cases he
  ·rw[Qwx (Ne.symm hj)] at he;exact r.val j e he
 ·by_cases hj:j=i
  ·subst hj;rw[Qwk hi] at he;cases he;exact⟨a,hs,ho,h3,h4⟩
  ·rw[Qwx (Ne.symm hj)] at he;obtain⟨b,g1,g2,g3,g4⟩:=r.own j e he;exact⟨b,g1,g2.mono (bu.refl F) (bY (ne j e b hj he g1)),g3,g4⟩
 ·have un:∀(j:Nat) (e:D),(env.set i (some (true,d')))[j]? = some (some (true,e))->∃e',env[j]? = some (some (true,e')):=λj e he=>by
   by_cases hj:j=i
   ·subst hj;exact⟨d,h⟩
   ·rw[Qwx (Ne.symm hj)] at he;exact⟨e,he⟩
  obtain⟨e',hj'⟩:=un j e hj;obtain⟨f',hk'⟩:=un k f hk;exact r.apart j k e' f' b hj' hk' g1 g2
def tN(C:Cfg)(ev:Ev):TE:=λσ H Q=>∃(Pr F:Hp) (env env':Env) (d:D),Rel C Pr F env σ H/\ev env = .ok d env'/\
 ∀a H' F',Rel C Pr F' env' σ H'->bu F F'->New C.K Pr F' env' σ H' d a->Q (.ref a) H'
def PXN(X:Cx)(C:Cfg)(e:Expr)(ev:Ev):Prop:=PE X e (tN C ev)
section
variable{X:Cx}{C:Cfg}{pos:Pos}
theorem PXN.px{e:Expr}{ev:Ev}(h:PXN X C e ev):PX X C e ev:=PE.imp h λσ H Q hq=>by
 obtain⟨Pr,F,env,env',d,r,e,q⟩:=hq;refine⟨Pr,F,env,env',d,r,e,λa H' F' r' s' n'=>?_⟩;obtain⟨F2,r2,s2,p2⟩:=r'.keep n';exact q _ _ F2 r2 (s'.trans s2) p2
theorem pxn_lst{es:List Expr}{r:EvA}(h:PXA X C es r):PXN X C (.List es pos) (cW r):=(pe_lst h).imp λσ H Q hq=>by
 obtain⟨Pr,F,env,env',d,rl,e,q⟩:=hq;obtain⟨ds,aO,e1,e2⟩:=aU e;split at e2
 ·rename_i hz;cases e2;refine⟨Pr,F,env,env',ds,rl,e1,λvs H1 F1 r1 s1 p1=>⟨by rw[p1.length];exact hz,λp hp=>?_⟩⟩;exact q _ _ F1 (r1.fresh hp) s1 (New.of r1 hp ⟨hz,vs,bJ,p1⟩)
 ·cases e2
abbrev GV:=D->Env->Option Env
abbrev GVs:=List D->Env->Option Env
def tG(C:Cfg)(lo:Nat)(gv:GV):TG:=λv σ H Q=>∃(Pr F:Hp) (env env':Env) (d:D),Rel C Pr F env σ H/\Rep C.K F d v/\gv d env=some env'/\
 ∀σ' H' F',Rel C Pr F' env' σ' H'->bu F F'->σ'.take lo=σ.take lo->Q σ' H'
def tGs(C:Cfg)(lo:Nat)(gv:GVs):TGs:=λvs σ H Q=>∃(Pr F:Hp) (env env':Env) (ds:List D),Rel C Pr F env σ H/\bU C.K F ds vs/\gv ds env=some env'/\
 ∀σ' H' F',Rel C Pr F' env' σ' H'->bu F F'->σ'.take lo=σ.take lo->Q σ' H'
def PXG(X:Cx)(C:Cfg)(lo:Nat)(e:Expr)(gv:GV):Prop:=PG X e (tG C lo gv)
def PXGs(X:Cx)(C:Cfg)(lo:Nat)(es:List Expr)(gv:GVs):Prop:=PGs X es (tGs C lo gv)
theorem _root_.L2.PG.imp{X:Cx}{e:Expr}{t t':TG}(h:PG X e t)(i:∀v σ H Q,t' v σ H Q->t v σ H Q):PG X e t':=λpins s σ H v u Q I r q=>h pins s σ H v u Q I r (i v σ H Q q)
theorem _root_.L2.PGs.imp{X:Cx}{e:List Expr}{t t':TGs}(h:PGs X e t)(i:∀v σ H Q,t' v σ H Q->t v σ H Q):PGs X e t':=λpins s σ H v u Q I r q=>h pins s σ H v u Q I r (i v σ H Q q)
def ak(i:Nat):GV:=λd env=>some (env.set i (some (false,d)))
theorem pxg_name{lo i:Nat}{x:Str}(hN:X.N.Nodup)(hi:X.N[i]? = some x)(hx:Loc X.env.scope x)(hlo:lo<=i)(hfx:C.fx i=none)(hf:X.fn x=true\/X.env.scope.names.lookup x=some .local:=by first|exact .inl rfl|exact .inr rfl|assumption):PXG X C lo (.Name x pos) (ak i):=
 (pg_name hN hi hx hf).imp λv σ H Q h=>by
  obtain⟨Pr,F,env,env',d,r,p,e,q⟩:=h;cases e;exact q _ _ F (r.put hfx p) (bu.refl F) (by rw[List.take_set_of_le hlo])
def gvNil:GVs:=λds env=>if ds.isEmpty then some env else none
def aV(g:GV)(gs:GVs):GVs:=λds env=>match ds with
 | d::r=>(g d env).bind λe1=>gs r e1
 | []=>none
theorem pxgs_nil{lo:Nat}:PXGs X C lo [] gvNil:=pgs_nil.imp λv σ H Q h=>by
 obtain⟨Pr,F,env,env',ds,r,p,e,q⟩:=h;cases ds with
 | nil=>cases e;cases p;exact⟨rfl,q _ _ F r (bu.refl F) rfl⟩
 | cons d ds=>cases e
def gvTup(n:Nat)(gs:GVs):GV:=λd env=>match d with
 | .tup ds=>if ds.length=n then gs ds env else none
 | _=>none
theorem pxg_tup{lo:Nat}{es:List Expr}{k:Nat}{gs:GVs}{n:Nat}(hc:X.calm=true)(hK:X.K=C.K)(h:PXGs X C lo es gs)
  (hn:(assignEach es X.env).length=n:=by rfl) (hst:(assignEach es X.env).findIdx? (·.1)=none:=by rfl):PXG X C lo (.Tuple es k pos) (gvTup n gs):=(pg_tup hc h hn hst).imp λv σ H Q h=>by
 obtain⟨Pr,F,env,env',d,r,p,e,q⟩:=h;cases d with
 | tup ds=>
  obtain⟨z,a,vs,rfl,h1,h2⟩:=p;unfold gvTup at e;simp only at e;split at e
  ·rename_i hl;rw[hK];exact⟨a,vs,rfl,bu.tupK r.fr h1,by rw[h2.length];exact hl,Pr,F,env,env',ds,r,h2,e,q⟩
  ·cases e
 | _=>cases e
def gvAt(i:Nat)(ix:Ev):GV:=λd env=>match env[i]? with
 | some (some (_,_))=>(match ix env with
  | .ok (.int k) aO=>(match aO[i]? with
   | some (some (true,.lst xs))=>(ixN xs.length k).map λj=>aO.set i (some (true,.lst (xs.set j d)))
   | _=>none)
  | _=>none)
 | _=>none
theorem pxg_at{lo i:Nat}{x:Str}{ix:Expr}{ev:Ev}{px:Pos}(hN:X.N[i]? = some x)(hv:Vis X.env.scope x)(h:PX X C ix ev)
  (ha:∀v,assign (.Subscript (.Name x px) ix pos) X.env v=(do
   let ov <-holding [v] (eval (.Name x px) X.env)
   let iv <-holding [v,ov] (eval ix X.env)
   standAt pos
   holding [v,ov,iv] (setItem ov iv v)
   release [v,ov,iv] []):=by intro _;rfl)
  (hd:nDb x:=by decide) (hcd:nCd x:=by decide):PXG X C lo (.Subscript (.Name x px) ix pos) (gvAt i ev):=
 (pg_sub (pe_var hN hv hd hcd) h set_list ha).imp λv σ H Q hq=>by
  obtain⟨Pr,F,env,env',d,r,p,e,q⟩:=hq;unfold gvAt at e;split at e
  ·rename_i o0 d0 h0;obtain⟨v0,hv0,_⟩:=r.rd h0;split at e
   ·rename_i k aO e1;split at e
    ·rename_i xs h2;obtain⟨j,hj,e3⟩:=Qq9.mp e;subst e3;refine⟨v0,hv0,Pr,F,env,aO,.int k,r,e1,λvi H1 F1 r1 s1 p1=>?_⟩;cases p1;obtain⟨a,g1,⟨z,vs,g2,g3⟩,g4,g5⟩:=r1.own i _ h2;rw[hv0] at g1;cases g1;refine⟨a,vs,k,j,rfl,rfl,g2,by rw[g3.length];exact hj,?_⟩;refine q σ _ F1 (r1.write h2 hv0 ⟨by rw[Qx1];exact z,vs.set j v,bJ,bU.set (Rep.mono s1 d v p) j g3⟩) s1 rfl
    ·cases e
   ·cases e
  ·cases e
end
inductive Out where
 | nx (env:Env)
 | rt (o:Bool) (d:D) (env:Env)
 | bk (env:Env)
 | ct (env:Env)
 | stuck
abbrev cz:=Env->Out
def Fin(C:Cfg)(Pr F:Hp)(D:Ends):Out->Prop
 | .nx env'=>∀σ' H' F',Rel C Pr F' env' σ' H'->bu F F'->D.nx σ' H'
 | .rt false d env'=>∀v σ' H' F',Rel C Pr F' env' σ' H'->bu F F'->Rep C.K F' d v->D.rt v H'
 | .rt true d env'=>∀a σ' H' F',Rel C Pr F' env' σ' H'->bu F F'->New C.K Pr F' env' σ' H' d a->D.rt (.ref a) H'
 | .bk env'=>∀σ' H' F',Rel C Pr F' env' σ' H'->bu F F'->D.bk σ' H'
 | .ct env'=>∀σ' H' F',Rel C Pr F' env' σ' H'->bu F F'->D.ct σ' H'
 | .stuck=>False
theorem Fin.mono{C:Cfg}{Pr F F1:Hp}{D:Ends}(s:bu F F1):∀{o:Out},Fin C Pr F D o->Fin C Pr F1 D o
 | .nx _,h=>λσ' H' F' r t=>h σ' H' F' r (s.trans t)
 | .rt false _ _,h=>λv σ' H' F' r t=>h v σ' H' F' r (s.trans t)
 | .rt true _ _,h=>λv σ' H' F' r t=>h v σ' H' F' r (s.trans t)
 | .bk _,h=>λσ' H' F' r t=>h σ' H' F' r (s.trans t)
 | .ct _,h=>λσ' H' F' r t=>h σ' H' F' r (s.trans t)
 | .stuck,h=>h
def tS(C:Cfg)(ev:cz):TS:=λD σ H=>∃(Pr F:Hp) (env:Env),Rel C Pr F env σ H/\Fin C Pr F D (ev env)
def PXS(X:Cx)(C:Cfg)(st:Stmt)(ev:cz):Prop:=PS X st (tS C ev)
def PXSs(X:Cx)(C:Cfg)(st:List Stmt)(ev:cz):Prop:=PSs X st (tS C ev)
def bindO{α:Type}(x:R α)(f:α->Env->Out):Out:=match x with
 | .ok a env=>f a env
 | .stuck=>.stuck
theorem bindO_fin{C:Cfg}{Pr F:Hp}{D:Ends}{α:Type}{x:R α}{f:α->Env->Out}(h:Fin C Pr F D (bindO x f)):∃a aO,x = .ok a aO/\Fin C Pr F D (f a aO):=by
 cases x with
 | ok a aO=>exact⟨a,aO,rfl,h⟩
 | stuck=>exact h.elim
section
variable{X:Cx}{C:Cfg}{pos:Pos}
def bM:cz:=λenv=>.nx env
def aJ(a b:cz):cz:=λenv=>match a env with
 | .nx e=>b e
 | .rt o d e=>.rt o d e
 | .bk e=>.bk e
 | .ct e=>.ct e
 | .stuck=>.stuck
theorem pxss_nil:PXSs X C [] bM:=pss_nil.imp λD σ H h=>by
 obtain⟨Pr,F,env,r,f⟩:=h;exact f σ H F r (bu.refl F)
def cT(t:EvT)(a b:cz):cz:=λenv=>bindO (t env) λc aO=>if c=true then a aO else b aO
def aZ(a:Ev):cz:=λenv=>bindO (a env) λd aO=>.rt false d aO
def stRetNew(a:Ev):cz:=λenv=>bindO (a env) λd aO=>.rt true d aO
def stDrop(a:Ev):cz:=λenv=>bindO (a env) λ_ aO=>.nx aO
def liftO(o:Option Env):Out:=match o with
 | some e=>.nx e
 | none=>.stuck
def aY(a:Ev)(g:GV):cz:=λenv=>bindO (a env) λd aO=>liftO (g d aO)
theorem asg_go{a:Ev}{g:GV}{D:Ends}{σ:L2.St}{H:Hp}(h:tS C (aY a g) D σ H):tAsg (tE C a) (tG C 0 g) D σ H:=by
 obtain⟨Pr,F,env,r,f⟩:=h;obtain⟨d,aO,e1,f1⟩:=bindO_fin f;refine⟨Pr,F,env,aO,d,r,e1,λv H1 F1 r1 s1 p1=>?_⟩;cases e2:g d aO with
 | none=>rw[e2] at f1;exact f1.elim
 | some bZ=>rw[e2] at f1;exact⟨Pr,F1,aO,bZ,d,r1,p1,e2,λσ2 H2 F2 r2 s2 _=>f1 σ2 H2 F2 r2 (s1.trans s2)⟩
theorem pxs_set{i:Nat}{x:Str}{e:Expr}{a:Ev}{pos':Pos}(hN:X.N.Nodup)(hi:X.N[i]? = some x)(hx:Loc X.env.scope x)(hfx:C.fx i=none)(he:PX X C e a)(hs:swapsWith e (some (.Name x pos')) pos.line X.env=pure false:=by rfl)(hf:X.fn x=true\/X.env.scope.names.lookup x=some .local:=by first|exact .inl rfl|exact .inr rfl|assumption) :
  PXS X C (.Assign [.Name x pos'] e pos) (aY a (ak i)):=(ps_set hN hi hx he hs hf).imp λD σ H h=>by
 obtain⟨Pr,F,env,r,f⟩:=h;obtain⟨d,aO,e1,f1⟩:=bindO_fin f;exact⟨Pr,F,env,aO,d,r,e1,λv H1 F1 r1 s1 p1=>f1 _ H1 F1 (r1.put hfx p1) s1⟩
def stOwn(i:Nat)(a:Ev):cz:=λenv=>bindO (a env) λd aO=>.nx (aO.set i (some (true,d)))
theorem pxs_own{i:Nat}{x:Str}{e:Expr}{a:Ev}{pos':Pos}(hN:X.N.Nodup)(hi:X.N[i]? = some x)(hx:Loc X.env.scope x)(hfx:C.fx i=none)(he:PXN X C e a)(hs:swapsWith e (some (.Name x pos')) pos.line X.env=pure false:=by rfl)(hf:X.fn x=true\/X.env.scope.names.lookup x=some .local:=by first|exact .inl rfl|exact .inr rfl|assumption) :
  PXS X C (.Assign [.Name x pos'] e pos) (stOwn i a):=(ps_set hN hi hx he hs hf).imp λD σ H h=>by
 obtain⟨Pr,F,env,r,f⟩:=h;obtain⟨d,aO,e1,f1⟩:=bindO_fin f;exact⟨Pr,F,env,aO,d,r,e1,λv H1 F1 r1 s1 p1=>f1 _ H1 F1 (r1.putOwn hfx p1) s1⟩
def stApp(i:Nat)(a:Ev):cz:=λenv=>match env[i]? with
 | some (some (true,.lst _))=>bindO (a env) λd aO=>(match aO[i]? with
  | some (some (true,.lst xs))=>if xs.length<sizeLine then .nx (aO.set i (some (true,.lst (xs++[d])))) else .stuck
  | _=>.stuck)
 | _=>.stuck
theorem pxs_app{i:Nat}{x:Str}{e:Expr}{a:Ev}{px apos cpos:Pos}(hN:X.N[i]? = some x)(hv:Vis X.env.scope x)(he:PX X C e a)(hK:X.K=C.K)
  (hs:swapsWith (.Call (.Attribute (.Name x px) "append" apos) [e] [] cpos) none pos.line X.env=pure false:=by rfl)
  (hfew:((backTo cpos (starEach [e] X.env)).all (λx=>!x.1)&&(backToKw cpos (keywordEach [] X.env)).all (λx=>x.1.isSome)
   && decide (([e]:List Expr).length+([]:List Keyword).length+(if ([]:List Keyword).isEmpty then 0 else 1)<30))=true:=by rfl)
  (hbase:attributeBase (.Name x px) "append" X.env (eval (.Name x px) X.env)=eval (.Name x px) X.env:=by rfl)
  (hline:(apos.endLine == cpos.line)=true:=by rfl) (hst:sEn e X.env:=by rfl) (hplain:(backTo cpos (starEach [] X.env)).any (·.1)=false:=by rfl)
  (hd:nDb x:=by decide) (hcd:nCd x:=by decide):PXS X C (.Expr (.Call (.Attribute (.Name x px) "append" apos) [e] [] cpos) pos) (stApp i a):=by
 refine PS.imp (ps_expr (pe_bm PySem.F.plainAttrs_list PySem.F.slot_list_append PySem.F.type_list_append mt_append (pe_var hN hv hd hcd) (pa_cons he pa_nil hst) hbase hfew hline hst hplain) hs) λD σ H h=>?_;obtain⟨Pr,F,env,r,f⟩:=h;unfold stApp at f;split at f
 ·rename_i xs0 h0;obtain⟨d,aO,e1,f1⟩:=bindO_fin f;obtain⟨a0,hv0,⟨z0,vs0,g0,_⟩,_⟩:=r.own i _ h0;refine⟨_,hv0,.inl ⟨rfl,vs0,SqL.of g0⟩,Pr,F,env,aO,d,r,e1,λv H1 F1 r1 s1 p1=>?_⟩;split at f1
  ·rename_i xs h1;split at f1
   ·rename_i hz;obtain⟨a,g1,⟨z,vs,g2,g3⟩,g4,g5⟩:=r1.own i _ h1;rw[hv0] at g1;cases g1;refine⟨a0,vs,v,rfl,rfl,g2,by rw[g3.length];exact hz,?_⟩;exact f1 σ _ F1 (r1.write h1 hv0 ⟨by rw[Qqq];exact hz,vs++[v],bJ,g3.append (bU.one p1)⟩) s1
   ·exact f1.elim
  ·exact f1.elim
 ·exact f.elim
def Yields(K:Fg)(F:Hp)(ds:List D)(J:It):Prop:=∀(i:Nat) (H:Hp),bu F H->(ds[i]? = none->i=ds.length->J.stop i H)/\∀d,ds[i]? = some d->J.go i H/\∀x H',J.yld i H x H'->
 (H'=H/\Rep K F d x)\/∃p vs es,H p=none/\H'=upd H p (.tup vs)/\x = .ref p/\d = .tup es/\es.length<=sizeLine/\bU K F es vs
def tI(C:Cfg)(ev:EvA):TI:=λσ H R=>∃(Pr F:Hp) (env env':Env) (ds:List D),Rel C Pr F env σ H/\ev env = .ok ds env'/\
 ∀J H' F',Rel C Pr F' env' σ H'->bu F F'->Yields C.K F' ds J->R J H'
def PXI(X:Cx)(C:Cfg)(tg iter:Expr)(ev:EvA):Prop:=PI X tg iter (tI C ev)
theorem _root_.L2.PI.imp{X:Cx}{tg e:Expr}{t t':TI}(h:PI X tg e t)(i:∀σ H R,t' σ H R->t σ H R):PI X tg e t':=λpins s σ H R I q=>h pins s σ H R I (i σ H R q)
theorem Yields.item{Pr F F1:Hp}{env:Env}{σ:L2.St}{H:Hp}{ds:List D}{J:It}{i:Nat}{d:D}{x:V}{H':Hp}(r:Rel C Pr F1 env σ H)(s:bu F F1)(y:Yields C.K F ds J)(hd:ds[i]? = some d)(hy:J.yld i H x H') :
  ∃F2,Rel C Pr F2 env σ H'/\bu F1 F2/\Rep C.K F2 d x:=by
 rcases((y i H (s.trans r.fr)).2 d hd).2 x H' hy with ⟨rfl,p⟩|⟨p,vs,es,hp,rfl,rfl,rfl,hz,q⟩
 ·exact⟨F1,r,bu.refl F1,Rep.mono s _ _ p⟩
 ·obtain⟨r2,s2⟩:=r.new (o:=.tup vs) hp;exact⟨_,r2,s2,hz,p,vs,rfl,SqT.of bJ,bU.mono (s.trans s2) _ _ q⟩
def forO(g:GV)(b:cz):List D->cz
 | [],env=>.nx env
 | d::ds,env=>(match g d env with
  | none=>.stuck
  | some e1=>(match b e1 with
   | .nx e2=>forO g b ds e2
   | .ct e2=>forO g b ds e2
   | .bk e2=>.nx e2
   | .rt o d e2=>.rt o d e2
   | .stuck=>.stuck))
def stFor(it:EvA)(g:GV)(b:cz):cz:=λenv=>bindO (it env) λds aO=>forO g b ds aO
theorem pxs_for{tg iter:Expr}{body:List Stmt}{it:EvA}{g:GV}{b:cz}(hp:PassesOwn (model X.prog X.w) X.A X.env X.xe)(hc:X.calm=true)(hi:PXI X C tg iter it)(hg:PXG X C 0 tg g)(hb:PXSs X C body b)
  (hs:∀x,foldedSetIterable iter X.env x=pure x:=by intro _;rfl):PXS X C (.For tg iter body [] pos) (stFor it g b):=(ps_for hp hc hi hg hb hs).imp λD σ H h=>by
 obtain⟨Pr,F,env,r,f⟩:=h;obtain⟨ds,aO,e1,f1⟩:=bindO_fin f;refine⟨Pr,F,env,aO,ds,r,e1,λJ H1 F1 r1 s1 y1=>?_⟩;refine⟨λi m σ' H'=>m=ds.length - i/\i<=ds.length/\∃F' env',Rel C Pr F' env' σ' H'/\bu F1 F'/\Fin C Pr F' D (forO g b (ds.drop i) env'),⟨ds.length,rfl,Qx3 _,F1,aO,r1,bu.refl _,f1.mono s1⟩,?_⟩;rintro i m σ' H' ⟨rfl,hi,F',env',r',s',f'⟩;by_cases hl:i<ds.length
 ·have hd:ds[i]? = some ds[i]:=Qzz hl;have hdr:ds.drop i=ds[i]::ds.drop (i+1):=List.drop_eq_getElem_cons hl;have yy:=y1 i H' (s'.trans r'.fr);refine .inr ⟨(yy.2 _ hd).1,λσ2 H2=>∃F' env',Rel C Pr F' env' σ2 H2/\bu F1 F'/\Fin C Pr F' D (forO g b (ds.drop (i+1)) env'),λσ2 H2 h2=>⟨ds.length - (i+1),by omega,rfl,hl,h2⟩,λx H2 hy=>?_⟩;obtain⟨F2,r2,s2,p2⟩:=Yields.item r' s' y1 hd hy;rw[hdr] at f';have f2:=f'.mono s2;unfold forO at f2;cases eg:g ds[i] env' with
  | none=>rw[eg] at f2;exact f2.elim
  | some e2=>
   rw[eg] at f2;refine⟨Pr,F2,env',e2,ds[i],r2,p2,eg,λσ3 H3 F3 r3 s3 _=>⟨Pr,F3,e2,r3,?_⟩⟩;simp only at f2;have s13:bu F1 F3:=(s'.trans s2).trans s3;cases eb:b e2 with
   | nx e3=>rw[eb] at f2;exact λσ4 H4 F4 r4 s4=>⟨F4,e3,r4,s13.trans s4,f2.mono (s3.trans s4)⟩
   | ct e3=>rw[eb] at f2;exact λσ4 H4 F4 r4 s4=>⟨F4,e3,r4,s13.trans s4,f2.mono (s3.trans s4)⟩
   | bk e3=>rw[eb] at f2;exact λσ4 H4 F4 r4 s4=>f2 σ4 H4 F4 r4 (s3.trans s4)
   | rt o d e3=>rw[eb] at f2;cases o<;>exact λv σ4 H4 F4 r4 s4 p4=>f2 v σ4 H4 F4 r4 (s3.trans s4) p4
   | stuck=>rw[eb] at f2;exact f2.elim
 ·have e:i=ds.length:=by omega
  subst e;rw[List.drop_length] at f';exact .inl ⟨(y1 _ H' (s'.trans r'.fr)).1 (List.getElem?_eq_none (Qq0 _)) rfl,f' σ' H' F' r' (bu.refl F')⟩
end
end Ev
namespace L2
open PySem PySem.Spec PyProof.Rows
def Its(z:Str):It:=⟨λi _=>i<z.cps.size,λi H x H'=>H'=H/\∃c,z.cps[i]? = some c/\x = .str ⟨#[c]⟩,λi _=>z.cps.size<=i⟩
theorem turn_strA{P:Program}{w:World}{K:PySem.W.Frag}{tg:Expr}(it:Addr)(z:Str)(t:Tok):Turn P w K tg (Its z) [it] it (λi h=>h.IsStrIter it "str_ascii_iterator" z t i/\i<=z.cps.size) where
 mem:=by simp
 obj:=λi h st b hb=>by
  have e:b=it:=by simpa using hb
  subst e;obtain⟨⟨o,ho,hc,hd⟩,_⟩:=st;exact⟨o,ho,λv z=>by rw[hd] at z;cases z⟩
 keep:=λi h h' st k=>let ⟨⟨o,ho,r⟩,l⟩:=st;⟨⟨o,k it (by simp) o ho,r⟩,l⟩
 item:=by intro X hP hw hK hc i pins s σ H E I hf st hg;subst hP hw hK;obtain⟨f0,f1,f2,f3,f4,f5⟩:=hf it (by simp);have hg':i<z.cps.size:=hg;refine wpAny_pyNext_ascii_item st.1 (c:=z.cps[i]) (by simp[hg']) λh' hit' hs'=>?_;have I1:Inv X pins σ H { s with heap:=h',toks:=s.toks+1 }:=I.turned (λb o hb e=>hs'.extBut b o hb e) f0 f1 f3 f4 f5;obtain⟨o,ho,hcl,hda⟩:=hit';refine⟨_,rfl,go_of (s:={ s with heap:=h',toks:=s.toks+1 }) (n:="str_ascii_iterator") ho hcl hda (by decide) ⟨.str ⟨#[z.cps[i]]⟩,H,I1,⟨_,rfl⟩,⟨rfl,_,by simp[hg'],rfl⟩,⟨⟨o,ho,hcl,hda⟩,hg'⟩,λb hb=>(hf b hb).1⟩⟩
 done:=by intro X hP hw hK hc i pins s σ H E I hf st hg;subst hP hw hK;obtain⟨f0,f1,f2,f3,f4,f5⟩:=hf it (by simp);have hg':z.cps.size<=i:=hg;exact wpAny_pyNext_ascii_end (I.ok.hd hc) st.1 (by simp;omega) λh' eb=>⟨rfl,I.turned (t':=s.toks) (λb o hb e=>eb b o hb e) f0 f1 f3 f4 f5⟩
 self:=λ_ _ _ _ _ st h=>wpAny_pyIter_striter_ascii st.1 h
theorem turn_strW{P:Program}{w:World}{K:PySem.W.Frag}{tg:Expr}(it:Addr)(z:Str)(t:Tok):Turn P w K tg (Its z) [it] it (λi h=>h.IsStrIter it "str_iterator" z t i/\i<=z.cps.size) where
 mem:=by simp
 obj:=λi h st b hb=>by
  have e:b=it:=by simpa using hb
  subst e;obtain⟨⟨o,ho,hc,hd⟩,_⟩:=st;exact⟨o,ho,λv z=>by rw[hd] at z;cases z⟩
 keep:=λi h h' st k=>let ⟨⟨o,ho,r⟩,l⟩:=st;⟨⟨o,k it (by simp) o ho,r⟩,l⟩
 item:=by intro X hP hw hK hc i pins s σ H E I hf st hg;subst hP hw hK;obtain⟨f0,f1,f2,f3,f4,f5⟩:=hf it (by simp);have hg':i<z.cps.size:=hg;refine wpAny_pyNext_wide_item st.1 (c:=z.cps[i]) (by simp[hg']) λh' hit' hs'=>?_;have I1:Inv X pins σ H { s with heap:=h',toks:=s.toks+1 }:=I.turned (λb o hb e=>hs'.extBut b o hb e) f0 f1 f3 f4 f5;obtain⟨o,ho,hcl,hda⟩:=hit';refine⟨_,rfl,go_of (s:={ s with heap:=h',toks:=s.toks+1 }) (n:="str_iterator") ho hcl hda (by decide) ⟨.str ⟨#[z.cps[i]]⟩,H,I1,⟨_,rfl⟩,⟨rfl,_,by simp[hg'],rfl⟩,⟨⟨o,ho,hcl,hda⟩,hg'⟩,λb hb=>(hf b hb).1⟩⟩
 done:=by intro X hP hw hK hc i pins s σ H E I hf st hg;subst hP hw hK;obtain⟨f0,f1,f2,f3,f4,f5⟩:=hf it (by simp);have hg':z.cps.size<=i:=hg;exact wpAny_pyNext_wide_end (I.ok.hd hc) st.1 (by simp;omega) λh' eb=>⟨rfl,I.turned (t':=s.toks) (λb o hb e=>eb b o hb e) f0 f1 f3 f4 f5⟩
 self:=λ_ _ _ _ _ st h=>wpAny_pyIter_striter_wide st.1 h
section
variable{X:Cx}{tg:Expr}
def iSeq(K:PySem.W.Frag)(tl:TE):TI:=λσ H R=>tl σ H λx H1=>(∃a,x = .ref a/\(∃xs,SqL K H1 a xs)/\R (Itl K a) H1)\/(∃a,x = .ref a/\(∃xs,SqT K H1 a xs)/\R (Itt K a) H1)\/∃z,x = .str z/\R (Its z) H1
theorem pi_seq{l:Expr}{tl:TE}(hl:PE X l tl):PI X tg l (iSeq X.K tl):=by
 intro pins s σ H R I h;refine thn (hl pins s σ H _ I h) λv s1 ⟨x,H1,I1,r1,q1⟩=>?_;have own:∀b ∈ [s1.heap.objs.size],FpOk X pins H1 b:=λb hb=>by
  have e:b=s1.heap.objs.size:=by simpa using hb
  subst e;exact I1.fpOk (Qq0 _) (I1.hok.fresh (Qq0 _))
 rcases q1 with ⟨a,e,⟨xs,hq⟩,q⟩|⟨a,e,⟨xs,hq⟩,q⟩|⟨z,e,q⟩
 ·subst e;cases r1;obtain⟨its,rv,p,hz⟩:=I1.list hq;refine wpAny_pyIter_list p.isList ?_;exact⟨s1.heap.objs.size,[s1.heap.objs.size],_,_,H1,rfl,I1.kept (t':=s1.toks) λb o e=>Qqw _ e,turn_list a _,⟨_,Qwv _ rfl,rfl,rfl⟩,own,q⟩
 ·subst e;cases r1;obtain⟨its,rv,p,hz⟩:=I1.tuple hq;refine wpAny_pyIter_tuple (show s1.heap.IsTuple a its.toArray from p) ?_;exact⟨s1.heap.objs.size,[s1.heap.objs.size],_,_,H1,rfl,I1.kept (t':=s1.toks) λb o e=>Qqw _ e,turn_tuple a _,⟨_,Qwv _ rfl,rfl,rfl⟩,own,q⟩
 ·subst e;obtain⟨t,rfl⟩:=r1;cases ha:z.cps.all (·< 128)
  ·exact wpAny_pyIter_wide ha ⟨s1.heap.objs.size,[s1.heap.objs.size],_,_,H1,rfl,I1.kept (t':=s1.toks) λb o e=>Qqw _ e,turn_strW _ z t,⟨⟨_,Qwv _ rfl,rfl,rfl⟩,Qx3 _⟩,own,q⟩
  ·exact wpAny_pyIter_ascii ha ⟨s1.heap.objs.size,[s1.heap.objs.size],_,_,H1,rfl,I1.kept (t':=s1.toks) λb o e=>Qqw _ e,turn_strA _ z t,⟨⟨_,Qwv _ rfl,rfl,rfl⟩,Qx3 _⟩,own,q⟩
def Itr3(lo c:Int)(n:Nat):It:=⟨λi _=>i<n,λi H x H'=>H'=H/\x = .int (lo+i*c),λi _=>n<=i⟩
theorem turn_range3{P:Program}{w:World}{K:PySem.W.Frag}{tg:Expr}(it:Addr)(lo c:Int)(n:Nat):Turn P w K tg (Itr3 lo c n) [it] it (λi h=>IsRangeIter h it (lo+(i:Nat)*c) ((n:Int) - (i:Nat)) c) where
 mem:=by simp
 obj:=λi h st b hb=>by
  have e:b=it:=by simpa using hb
  subst e;exact⟨_,st,λv z=>by
   have z':Data.fields _=Data.cell v:=z;cases z'⟩
 keep:=λi h h' st k=>k it (by simp) _ st
 item:=by intro X hP hw hK hc i pins s σ H E I hf st hg;subst hP hw hK;obtain⟨f0,f1,f2,f3,f4,f5⟩:=hf it (by simp);have W:=Walks.range (prog:=X.prog) (w:=X.w) (I.ok.hd hc) it lo c n;refine W.item i s _ _ hg st λv h' tk hv st' kk=>?_;obtain⟨t,rfl⟩:=hv;have I1:Inv X pins σ H { s with heap:=h',toks:=tk }:=I.turned (λb o hb e=>kk b o (by simpa using hb) e) f0 f1 f3 f4 f5;exact⟨_,rfl,go_of (s:={ s with heap:=h',toks:=tk }) (n:="range_iterator") st' rfl rfl (by decide) ⟨.int (lo+i*c),H,I1,⟨t,rfl⟩,⟨rfl,rfl⟩,st',λb hb=>(hf b hb).1⟩⟩
 done:=by intro X hP hw hK hc i pins s σ H E I hf st hg;subst hP hw hK;obtain⟨f0,f1,f2,f3,f4,f5⟩:=hf it (by simp);exact wpAny_pyNext_range_end (I.ok.hd hc) st (by have:n<=i:=hg;omega) λh' eb=>⟨rfl,I.turned (t':=s.toks) (λb o hb e=>eb b o hb e) f0 f1 f3 f4 f5⟩
 self:=λ_ _ _ _ _ st h=>wpAny_pyIter_rangeiter st h
def iRng3(ta:TA):TI:=λσ H R=>ta σ H λvs H1=>∃i j c:Int,vs=[.int i,.int j,.int c]/\c≠0/\c.natAbs<1073741824/\Builtin.Range.small i j c=true/\R (Itr3 i c (Builtin.Range.rangeSize i j c).toNat) H1
theorem pi_range3{a b c:Expr}{ta:TA}{p pos:Pos}(hg:Gl X "range")(hm:X.mg "range" = none)(ha:PA X [a,b,c] ta)(hs:starEach [a,b,c] X.env=[(false,eval a X.env),(false,eval b X.env),(false,eval c X.env)]:=by rfl)(hs2:starEach [b,c] X.env=[(false,eval b X.env),(false,eval c X.env)]:=by rfl) :
  PI X tg (.Call (.Name "range" p) [a,b,c] [] pos) (iRng3 ta):=by
 intro pins s σ H R I h;refine Call_ (ld_blt I hg hm boot_range (Qx5 (thn (ha pos pins s σ H _ I h) λus s1 ⟨vs,H1,I1,r1,q1⟩=>?_) (by rw[hs,hs2]) (by rw[hs2];rfl)));obtain⟨i,j,c,e,hc,hcs,hsm,q⟩:=q1;subst e;cases r1 with
 | cons r rr=>
  cases rr with
  | cons r' rr=>
   cases rr with
   | cons r'' rr=>
    cases rr;obtain⟨t,rfl⟩:=r;obtain⟨t',rfl⟩:=r';obtain⟨t'',rfl⟩:=r'';refine call_range_3 hc ?_ (.inl (PyProof.noPylong_small hcs));refine wpAny_pyIter_range (IsRange.new ..) hsm ?_;generalize ho:({ cls:=.type "range",data:=.fields #[.int i t,.int j t',.int c t''] }:Obj)=o;have I2:Inv X pins σ H1 { s1 with heap:=s1.heap.push o,toks:=s1.toks }:=I1.kept λb o e=>Qqw _ e;refine⟨(s1.heap.push o).objs.size,[(s1.heap.push o).objs.size],_,_,H1,rfl,I2.kept (t':=s1.toks) λb o e=>Qqw _ e,turn_range3 _ i c (Builtin.Range.rangeSize i j c).toNat,?_,λb hb=>?_,q⟩
    ·have e1:i+((0:Nat):Int)*c=i:=by simp
     have e2:(((Builtin.Range.rangeSize i j c).toNat:Nat):Int) - ((0:Nat):Int)=Builtin.Range.rangeSize i j c:=by have:=PyProof.Rows.rangeSize_toNat i j c;omega
     show IsRangeIter _ _ (i+((0:Nat):Int)*c) (((Builtin.Range.rangeSize i j c).toNat:Int) - ((0:Nat):Int)) c;rw[e1,e2];exact Qwv _ rfl
    ·have e:b=(s1.heap.push o).objs.size:=by simpa using hb
     subst e;exact I2.fpOk (Qq0 _) (I2.hok.fresh (Qq0 _))
end
end L2
namespace Ev
open PySem PySem.Spec PyProof.Rows L2
section
variable{X:Cx}{C:Cfg}{pos:Pos}{tg:Expr}
def sgs(x:List Nat):List D:=x.map λc=>.str [c]
theorem yields_tup{F:Hp}{a:Addr}{vs:List V}{ds:List D}(h:SqT C.K F a vs)(p:bU C.K F ds vs):Yields C.K F ds (Itt C.K a):=λi H s=>by
 refine⟨λ_ e=>⟨vs,bu.tupK s h,by rw[p.length,e];exact Qq0 _⟩,λd hd=>?_⟩;obtain⟨v,h1,h2⟩:=p.get hd;refine⟨⟨vs,v,bu.tupK s h,h1⟩,λx H' hy=>.inl ⟨hy.1,?_⟩⟩;have:=hy.2 vs (bu.tupK s h);rw[h1] at this;cases this;exact h2
theorem yields_str{F:Hp}{x:List Nat}:Yields C.K F (sgs x) (Its (strOf x)):=λi H s=>by
 refine⟨λ_ e=>?_,λd hd=>?_⟩
 ·show x.toArray.size<=i;rw[e];simp[sgs]
 ·unfold sgs at hd;rw[Qxq] at hd;obtain⟨c,hc,rfl⟩:=Qq9.mp hd;refine⟨?_,λv H' hy=>.inl ⟨hy.1,?_⟩⟩
  ·show i<x.toArray.size;have:=(Qq4.mp hc).1
   simpa using this
  ·obtain⟨c',h1,rfl⟩:=hy.2;have h2:x[i]? = some c':=by simpa[strOf] using h1
   rw[hc] at h2;cases h2;exact⟨rfl,by show 1<=sizeLine;decide⟩
def itD:D->Option (List D)
 | .lst xs=>some xs
 | .arr xs=>some xs
 | .tup xs=>some xs
 | .str x=>some (sgs x)
 | _=>none
def evIt(a:Ev):EvA:=λenv=>bindR (a env) λd aO=>liftR (itD d) aO
theorem pxi_seq{l:Expr}{a:Ev}(hK:X.K=C.K)(h:PX X C l a):PXI X C tg l (evIt a):=(pi_seq h).imp λσ H R hq=>by
 obtain⟨Pr,F,env,env',ds,r,e,q⟩:=hq;obtain⟨d,aO,e1,e2⟩:=aU e;obtain⟨e3,rfl⟩:=cM e2;refine⟨Pr,F,env,env',d,r,e1,λv H1 F1 r1 s1 p1=>?_⟩;rw[hK];cases d with
 | lst xs=>
  cases e3;obtain⟨z,a,vs,rfl,g1,g2⟩:=p1;refine .inl ⟨a,rfl,⟨vs,SqL.of (r1.fr _ _ g1)⟩,q _ H1 F1 r1 s1 λi H s=>?_⟩;refine⟨λ_ e=>⟨vs,SqL.of (s _ _ g1),by rw[g2.length,e];exact Qq0 _⟩,λd hd=>?_⟩;obtain⟨v,h1,h2⟩:=g2.get hd;refine⟨⟨vs,v,SqL.of (s _ _ g1),h1⟩,λx H' hy=>.inl ⟨hy.1,?_⟩⟩;have:=hy.2 vs (SqL.of (s _ _ g1));rw[h1] at this;cases this;exact h2
 | arr xs=>
  cases e3;obtain⟨z,a,vs,rfl,g1,g2⟩:=p1;refine .inl ⟨a,rfl,⟨vs,r1.fr.seq g1⟩,q _ H1 F1 r1 s1 λi H s=>?_⟩;refine⟨λ_ e=>⟨vs,s.seq g1,by rw[g2.length,e];exact Qq0 _⟩,λd hd=>?_⟩;obtain⟨v,h1,h2⟩:=g2.get hd;refine⟨⟨vs,v,s.seq g1,h1⟩,λx H' hy=>.inl ⟨hy.1,?_⟩⟩;have:=hy.2 vs (s.seq g1);rw[h1] at this;cases this;exact h2
 | tup xs=>
  cases e3;obtain⟨z,a,vs,rfl,g1,g2⟩:=p1;exact .inr (.inl ⟨a,rfl,⟨vs,bu.tupK r1.fr g1⟩,q _ H1 F1 r1 s1 (yields_tup g1 g2)⟩)
 | str x=>
  cases e3;obtain⟨rfl,z⟩:=p1;exact .inr (.inr ⟨_,rfl,q _ H1 F1 r1 s1 yields_str⟩)
 | _=>cases e3
def cR(lo c:Int)(n:Nat):List D:=(List.range n).map λ(i:Nat)=>.int (lo+i*c)
theorem stepsI_len(lo c:Int)(n:Nat):(cR lo c n).length=n:=by simp[cR]
theorem stepsI_get{lo c:Int}{n i:Nat}{d:D}(h:(cR lo c n)[i]? = some d):i<n/\d = .int (lo+i*c):=by
 have hi:i<n:=by
  have:=(Qq4.mp h).1
  rwa [stepsI_len] at this
 refine⟨hi,?_⟩;unfold cR at h;rw[Qxq,List.getElem?_range hi] at h;cases h;rfl
theorem yields_rng{F:Hp}{lo:Int}{n:Nat}:Yields C.K F (cR lo 1 n) (Itr lo n):=λi H s=>by
 refine⟨λ_ e=>by show n<=i;rw[e,stepsI_len];exact Qq0 _,λd hd=>?_⟩;obtain⟨hi,rfl⟩:=stepsI_get hd;refine⟨hi,λx H' hy=>.inl ⟨hy.1,?_⟩⟩;show x = .int _;rw[Int.mul_one];exact hy.2
theorem yields_rng3{F:Hp}{lo c:Int}{n:Nat}:Yields C.K F (cR lo c n) (Itr3 lo c n):=λi H s=>by
 refine⟨λ_ e=>by show n<=i;rw[e,stepsI_len];exact Qq0 _,λd hd=>?_⟩;obtain⟨hi,rfl⟩:=stepsI_get hd;exact⟨hi,λx H' hy=>.inl ⟨hy.1,hy.2⟩⟩
def rngFits(j:Int):Bool:=decide (-(2^62)<=j)&&decide (j<2^62)
theorem rngFits_ok{j:Int}(h:rngFits j=true) : -(2^62)<=j/\j<2^62:=by unfold rngFits at h;rw[Qwy] at h;exact⟨Qq7 h.1,Qq7 h.2⟩
def rngD:List D->Option (List D)
 | [.int j]=>if rngFits j=true then some (cR 0 1 j.toNat) else none
 | [.int i,.int j]=>if rngFits i=true/\rngFits j=true then some (cR i 1 (j - i).toNat) else none
 | [.int i,.int j,.int c]=>if c≠0/\c.natAbs<1073741824/\Builtin.Range.small i j c=true then some (cR i c (Builtin.Range.rangeSize i j c).toNat) else none
 | _=>none
def evRng(a:EvA):EvA:=λenv=>bindR (a env) λds aO=>liftR (rngD ds) aO
theorem bU.int1{F:Hp}{i:Int}{vs:List V}(h:bU C.K F [.int i] vs):vs=[.int i]:=by obtain⟨v,r,rfl,h1,h2⟩:=h;cases h1;cases h2;rfl
theorem bU.int2{F:Hp}{i j:Int}{vs:List V}(h:bU C.K F [.int i,.int j] vs):vs=[.int i,.int j]:=by obtain⟨v,r,rfl,h1,v',r',rfl,h2,h3⟩:=h;cases h1;cases h2;cases h3;rfl
theorem bU.int3{F:Hp}{i j k:Int}{vs:List V}(h:bU C.K F [.int i,.int j,.int k] vs):vs=[.int i,.int j,.int k]:=by obtain⟨v,r,rfl,h1,v',r',rfl,h2,v'',r'',rfl,h3,h4⟩:=h;cases h1;cases h2;cases h3;cases h4;rfl
theorem pxi_range1{a:Expr}{ea:EvA}{p pos:Pos}(hg:Gl X "range")(hm:X.mg "range" = none)(ha:PXA X C [a] ea)(hl:∀env ds env',ea env = .ok ds env'->ds.length=1)(hs:starEach [a] X.env=[(false,eval a X.env)]:=by rfl):PXI X C tg (.Call (.Name "range" p) [a] [] pos) (evRng ea):=
 (pi_range1 hg hm ha hs).imp λσ H R hq=>by
  obtain⟨Pr,F,env,env',ds,r,e,q⟩:=hq;obtain⟨as,aO,e1,e2⟩:=aU e;obtain⟨e3,rfl⟩:=cM e2;refine⟨Pr,F,env,env',as,r,e1,λvs H1 F1 r1 s1 p1=>?_⟩;have:=hl _ _ _ e1;unfold rngD at e3;split at e3
  ·split at e3
   ·rename_i hf;cases e3;have hb:=rngFits_ok hf;exact⟨_,p1.int1,hb.1,hb.2,q _ H1 F1 r1 s1 yields_rng⟩
   ·cases e3
  ·simp at this
  ·simp at this
  ·cases e3
theorem pxi_range2{a b:Expr}{ea:EvA}{p pos:Pos}(hg:Gl X "range")(hm:X.mg "range" = none)(ha:PXA X C [a,b] ea)(hl:∀env ds env',ea env = .ok ds env'->ds.length=2)(hs:starEach [a,b] X.env=[(false,eval a X.env),(false,eval b X.env)]:=by rfl)(hs2:starEach [b] X.env=[(false,eval b X.env)]:=by rfl):PXI X C tg (.Call (.Name "range" p) [a,b] [] pos) (evRng ea):=
 (pi_range2 hg hm ha hs hs2).imp λσ H R hq=>by
  obtain⟨Pr,F,env,env',ds,r,e,q⟩:=hq;obtain⟨as,aO,e1,e2⟩:=aU e;obtain⟨e3,rfl⟩:=cM e2;refine⟨Pr,F,env,env',as,r,e1,λvs H1 F1 r1 s1 p1=>?_⟩;have:=hl _ _ _ e1;unfold rngD at e3;split at e3
  ·simp at this
  ·split at e3
   ·rename_i hf;cases e3;have hb:=rngFits_ok hf.1;have hb2:=rngFits_ok hf.2;exact⟨_,_,p1.int2,⟨hb.1,hb.2,hb2.1,hb2.2⟩,q _ H1 F1 r1 s1 yields_rng⟩
   ·cases e3
  ·simp at this
  ·cases e3
theorem pxi_range3{a b c:Expr}{ea:EvA}{p pos:Pos}(hg:Gl X "range")(hm:X.mg "range" = none)(ha:PXA X C [a,b,c] ea)(hl:∀env ds env',ea env = .ok ds env'->ds.length=3)(hs:starEach [a,b,c] X.env=[(false,eval a X.env),(false,eval b X.env),(false,eval c X.env)]:=by rfl)(hs2:starEach [b,c] X.env=[(false,eval b X.env),(false,eval c X.env)]:=by rfl):PXI X C tg (.Call (.Name "range" p) [a,b,c] [] pos) (evRng ea):=
 (pi_range3 hg hm ha hs hs2).imp λσ H R hq=>by
  obtain⟨Pr,F,env,env',ds,r,e,q⟩:=hq;obtain⟨as,aO,e1,e2⟩:=aU e;obtain⟨e3,rfl⟩:=cM e2;refine⟨Pr,F,env,env',as,r,e1,λvs H1 F1 r1 s1 p1=>?_⟩;have:=hl _ _ _ e1;unfold rngD at e3;split at e3
  ·simp at this
  ·simp at this
  ·split at e3
   ·rename_i hf;cases e3;exact⟨_,_,_,p1.int3,hf.1,hf.2.1,hf.2.2,q _ H1 F1 r1 s1 yields_rng3⟩
   ·cases e3
  ·cases e3
theorem evNil_len(env:Env)(ds:List D)(env':Env)(h:aj env = .ok ds env'):ds.length=0:=by cases h;rfl
theorem evCons_len{a:Ev}{r:EvA}{n:Nat}(hr:∀env ds env',r env = .ok ds env'->ds.length=n)(env:Env)(ds:List D)(env':Env)(h:aa a r env = .ok ds env'):ds.length=n+1:=by obtain⟨d,aO,e1,e2⟩:=aU h;obtain⟨ds2,bZ,e3,e4⟩:=aU e2;cases e4;rw[Qqk,hr _ _ _ e3]
theorem bU.atI{F:Hp}{K:Fg}{ds:List D}{vs:List V}{k:Int}{d:D}(h:bU K F ds vs)(e:L2.atI ds k=some d):∃v,L2.atI vs k=some v/\Rep K F d v:=by unfold L2.atI at e ⊢;rw[h.length];obtain⟨j,h1,h2⟩:=Qx7.mp e;obtain⟨v,h3,h4⟩:=h.get h2;exact⟨v,by rw[h1];exact h3,h4⟩
def cI:D->D->Option D
 | .lst xs,.int k=>atI xs k
 | .arr xs,.int k=>atI xs k
 | .tup xs,.int k=>atI xs k
 | .str x,.int k=>(atI x k).map λc=>.str [c]
 | _,_=>none
theorem od_ix:OpD C (rIx C.K) cI:=by
 intro Pr F env σ H x y d vx vy Q r px py e q;unfold cI at e;split at e
 ·obtain⟨z,a,vs,rfl,h1,h2⟩:=px.lst r.fr;cases py.int;obtain⟨v,e1,p1⟩:=h2.atI e;exact .inl ⟨a,vs,_,v,rfl,rfl,SqL.of h1,e1,q _ _ F r (bu.refl F) p1⟩
 ·obtain⟨z,a,vs,rfl,h1,h2⟩:=px.arr r.fr;cases py.int;obtain⟨v,e1,p1⟩:=h2.atI e;exact .inl ⟨a,vs,_,v,rfl,rfl,h1,e1,q _ _ F r (bu.refl F) p1⟩
 ·obtain⟨z,a,vs,rfl,h1,_,h2⟩:=px.tup r.fr;cases py.int;obtain⟨v,e1,p1⟩:=h2.atI e;exact .inr (.inl ⟨a,vs,_,v,rfl,rfl,h1,e1,q _ _ F r (bu.refl F) p1⟩)
 ·obtain⟨rfl,z⟩:=px.str;cases py.int;obtain⟨c,e1,rfl⟩:=Qq9.mp e;exact .inr (.inr ⟨_,_,c,rfl,rfl,by simpa[strOf,Str.length] using z,by simpa[strOf] using e1,q _ _ F r (bu.refl F) ⟨rfl,by show 1<=sizeLine;decide⟩⟩)
 ·cases e
theorem px_ix{x y:Expr}{a b:Ev}(hK:X.K=C.K)(ha:PX X C x a)(hb:PXB X C y b)(hs:PlainIx y:=by intro _ _;rfl):PX X C (.Subscript x y pos) (aG cI a b):=by have h:=(pe_ix (pos:=pos) ix_seq ha hb hs);rw[hK] at h;exact h.imp (bin_go od_ix)
theorem px_ixO{y:Expr}{b:Ev}{px:Pos}(i:Nat){x:Str}(hK:X.K=C.K)(hN:X.N[i]? = some x)(hv:Vis X.env.scope x)(hb:PXB X C y b)(hs:PlainIx y:=by intro _ _;rfl)
  (hd:nDb x:=by decide) (hcd:nCd x:=by decide):PX X C (.Subscript (.Name x px) y pos) (aq cI i b):=by
 have h:=(pe_ix (pos:=pos) ix_seq (pe_var (pos:=px) hN hv hd hcd) hb hs);rw[hK] at h;exact h.imp (binO_go od_ix)
def cutD{α:Type}(xs:List α)(lo hi:Option Int):List α:=(xs.drop (HT.sIx xs.length 0 lo)).take (HT.sIx xs.length xs.length hi - HT.sIx xs.length 0 lo)
theorem cutD_len{α:Type}(xs:List α)(lo hi:Option Int):(cutD xs lo hi).length<=xs.length:=by unfold cutD;rw[Qxx,Qx6];omega
theorem bU.cut{F:Hp}{K:Fg}{ds:List D}{vs:List V}(h:bU K F ds vs)(lo hi:Option Int):bU K F (cutD ds lo hi) (cutV vs lo hi):=by unfold cutD cutV;rw[h.length];exact bU.take _ (bU.drop _ h)
abbrev EvP:=Env->R (Option Int)
def tP(C:Cfg)(ev:EvP):TO:=λσ H Q=>∃(Pr F:Hp) (env env':Env) (o:Option Int),Rel C Pr F env σ H/\ev env = .ok o env'/\∀H' F',Rel C Pr F' env' σ H'->bu F F'->Q o H'
def PXP(X:Cx)(C:Cfg)(e:Option Expr)(ev:EvP):Prop:=PO X e (tP C ev)
theorem _root_.L2.PO.imp{X:Cx}{e:Option Expr}{t t':TO}(h:PO X e t)(i:∀σ H Q,t' σ H Q->t σ H Q):PO X e t':=λpins s σ H Q I q=>h pins s σ H Q I (i σ H Q q)
def evNoP:EvP:=λenv=>.ok none env
def evP(a:Ev):EvP:=λenv=>bindR (a env) λd aO=>match d with
 | .int i=>.ok (some i) aO
 | _=>.stuck
theorem pxp_none:PXP X C none evNoP:=po_none.imp λσ H Q h=>by
 obtain⟨Pr,F,env,env',d,r,e,q⟩:=h;cases e;exact q H F r (bu.refl F)
def gSl:D->Option Int->Option Int->Option D
 | .lst xs,lo,hi=>some (.lst (cutD xs lo hi))
 | .arr xs,lo,hi=>some (.lst (cutD xs lo hi))
 | .tup xs,lo,hi=>if HT.sIx xs.length 0 lo=0/\HT.sIx xs.length xs.length hi=xs.length then none else some (.tup (cutD xs lo hi))
 | _,_,_=>none
def evSl(a:Ev)(lo hi:EvP):Ev:=λenv=>bindR (a env) λd aO=>bindR (lo aO) λl bZ=>bindR (hi bZ) λu env3=>liftR (gSl d l u) env3
theorem sl_go{Pr F:Hp}{env:Env}{σ:L2.St}{H:Hp}{x d:D}{v:V}{lo hi:Option Int}{Q:VK}(r:Rel C Pr F env σ H)(p:BRep C.K F H x v)(e:gSl x lo hi=some d)(q:∀v H' F',Rel C Pr F' env σ H'->bu F F'->Rep C.K F' d v->Q v H') :
  rSlL C.K v lo hi H Q\/rSlT C.K v lo hi H Q:=by
 unfold gSl at e;split at e
 ·cases e;obtain⟨z,a,vs,rfl,h1,h2⟩:=p.lst r.fr;refine .inl ⟨a,vs,rfl,SqL.of h1,λb hb=>?_⟩;obtain⟨r2,s2⟩:=r.new (o:=.lst (cutV vs lo hi)) hb;exact q _ _ _ r2 s2 ⟨Qqy (cutD_len _ _ _) z,b,_,rfl,bJ,bU.mono s2 _ _ (h2.cut lo hi)⟩
 ·cases e;obtain⟨z,a,vs,rfl,h1,h2⟩:=p.arr r.fr;refine .inl ⟨a,vs,rfl,h1,λb hb=>?_⟩;obtain⟨r2,s2⟩:=r.new (o:=.lst (cutV vs lo hi)) hb;exact q _ _ _ r2 s2 ⟨Qqy (cutD_len _ _ _) z,b,_,rfl,bJ,bU.mono s2 _ _ (h2.cut lo hi)⟩
 ·obtain⟨z,a,vs,rfl,h1,_,h2⟩:=p.tup r.fr;split at e
  ·cases e
  ·rename_i hn;cases e;refine .inr ⟨a,vs,rfl,h1,by rw[h2.length];exact hn,λb hb=>?_⟩;obtain⟨r2,s2⟩:=r.new (o:=.tup (cutV vs lo hi)) hb;exact q _ _ _ r2 s2 ⟨Qqy (cutD_len _ _ _) z,b,_,rfl,SqT.of bJ,bU.mono s2 _ _ (h2.cut lo hi)⟩
 ·cases e
theorem px_sl{x:Expr}{lo hi:Option Expr}{a:Ev}{el eh:EvP}{p2:Pos}(hK:X.K=C.K)(ha:PX X C x a)(hl:PXP X C lo el)(hh:PXP X C hi eh):PX X C (.Subscript x (.Slice lo hi none p2) pos) (evSl a el eh):=by have h:=pe_slice (pos:=pos) (p2:=p2) (SlR.or sl_list sl_tup) ha hl hh;rw[hK] at h;refine h.imp λσ H Q hq=>?_;obtain⟨Pr,F,env,env',d,r,e,q⟩:=hq;obtain⟨x,aO,e1,e2⟩:=aU e;obtain⟨l,bZ,e3,e4⟩:=aU e2;obtain⟨u,env3,e5,e6⟩:=aU e4;obtain⟨e7,rfl⟩:=cM e6;refine⟨Pr,F,env,aO,x,r,e1,λv H1 F1 r1 s1 p1=>⟨Pr,F1,aO,bZ,l,r1,e3,λH2 F2 r2 s2=>⟨Pr,F2,bZ,env',u,r2,e5,λH3 F3 r3 s3=>?_⟩⟩⟩;exact sl_go r3 (.inl (Rep.mono (s2.trans s3) _ _ p1)) e7 λv H' F' r' s' p'=>q v H' F' r' (((s1.trans s2).trans s3).trans s') p'
def valD(kvs:List (D×D))(q:Key):Option D:=match kvs with
 | []=>none
 | (k,d)::r=>if keyD k=some q then some d else valD r q
def setD(kvs:List (D×D))(q:Key)(d:D):List (D×D):=match kvs with
 | []=>[]
 | (k,e)::r=>(if keyD k=some q then (k,d) else (k,e))::setD r q d
def putD(kvs:List (D×D))(k:D)(q:Key)(d:D):List (D×D):=if (valD kvs q).isSome then setD kvs q d else kvs++[(k,d)]
theorem RepKs.length{K:Fg}{F:Hp}:∀{ds:List (D×D)} {vs:List (Key×V)},RepKs K F ds vs->vs.length=ds.length
 | [],_,h=>by cases h;rfl
 | (k,d)::ds,vs,h=>by
  obtain⟨q,v,r,rfl,_,_,h2⟩:=h;rw[Qqk,Qqk,h2.length]
theorem RepKs.val{K:Fg}{F:Hp}(q:Key):∀{ds:List (D×D)} {vs:List (Key×V)},RepKs K F ds vs->(valD ds q=none/\valV vs q=none)\/∃d v,valD ds q=some d/\valV vs q=some v/\Rep K F d v
 | [],_,h=>by cases h;exact .inl ⟨rfl,rfl⟩
 | (k,d)::ds,vs,h=>by
  obtain⟨q',v,r,rfl,hk,h1,h2⟩:=h;unfold valD;by_cases e:q'=q
  ·subst e;rw[if_pos hk];exact .inr ⟨d,v,rfl,valV_pos rfl,h1⟩
  ·rw[if_neg (λz=>e (Qw1 (hk.symm.trans z))),valV_neg (p:=(q',v)) e];exact RepKs.val q h2
theorem RepKs.set{K:Fg}{F:Hp}(q:Key){d:D}{v:V}(hd:Rep K F d v):∀{ds:List (D×D)} {vs:List (Key×V)},RepKs K F ds vs->RepKs K F (setD ds q d) (vs.map λkv=>if kv.1=q then (kv.1,v) else kv)
 | [],_,h=>by cases h;exact rfl
 | (k,e)::ds,vs,h=>by
  obtain⟨q',u,r,rfl,hk,h1,h2⟩:=h;unfold setD;by_cases e':q'=q
  ·subst e';rw[if_pos hk];refine⟨q',v,_,?_,hk,hd,RepKs.set q' hd h2⟩;rw[Qwz,if_pos rfl]
  ·rw[if_neg (λz=>e' (Qw1 (hk.symm.trans z)))];refine⟨q',u,_,?_,hk,h1,RepKs.set q hd h2⟩;rw[Qwz,if_neg e']
theorem RepKs.append{K:Fg}{F:Hp}:∀{ds es:List (D×D)} {vs ws:List (Key×V)},RepKs K F ds vs->RepKs K F es ws->RepKs K F (ds++es) (vs++ws)
 | [],es,vs,ws,h,g=>by cases h;exact g
 | (k,d)::ds,es,vs,ws,h,g=>by
  obtain⟨q,v,r,rfl,h0,h1,h2⟩:=h;exact⟨q,v,r++ws,rfl,h0,h1,RepKs.append h2 g⟩
theorem setD_len(q:Key)(d:D):∀kvs:List (D×D),(setD kvs q d).length=kvs.length
 | []=>rfl
 | (k,e)::r=>by unfold setD;rw[Qqk,Qqk,setD_len q d r]
theorem putD_len(kvs:List (D×D))(k:D)(q:Key)(d:D):(putD kvs k q d).length<=kvs.length+1:=by
 unfold putD;split
 ·rw[setD_len];omega
 ·rw[Qqq];exact Qq0 _
theorem RepKs.put{K:Fg}{F:Hp}{ds:List (D×D)}{vs:List (Key×V)}{k:D}{q:Key}{d:D}{v:V}(h:RepKs K F ds vs)(hk:keyD k=some q)(hd:Rep K F d v):RepKs K F (putD ds k q d) (putK vs q v):=by
 unfold putD putK;rw[valV_any];rcases h.val q with ⟨e1,e2⟩|⟨d',v',e1,e2,_⟩
 ·rw[e1,e2];exact h.append ⟨q,v,[],rfl,hk,hd,rfl⟩
 ·rw[e1,e2];exact RepKs.set q hd h
theorem keyD_V{K:Fg}{F:Hp}{k:D}{q:Key}{v:V}(h:keyD k=some q)(p:Rep K F k v):v=kV q:=by
 cases k with
 | int i=>cases h;exact p
 | str x=>cases h;exact p.1
 | _=>cases h
theorem keyD_B{K:Fg}{F H:Hp}{k:D}{q:Key}{v:V}(h:keyD k=some q)(p:BRep K F H k v):v=kV q:=by
 cases k with
 | int i=>cases h;exact p.int
 | str x=>cases h;exact p.str.1
 | _=>cases h
theorem BRep.dct{K:Fg}{F H:Hp}{kvs:List (D×D)}{v:V}(s:bu F H)(h:BRep K F H (.dct kvs) v):kvs.length<=sizeLine/\∃a ks,v = .ref a/\Rd H a (.dK ks)/\RepKs K F kvs ks:=by
 rcases h with ⟨z,a,vs,rfl,h1,h2⟩|⟨a,rfl,z,vs,h1,h2⟩
 ·exact⟨z,a,vs,rfl,bu.rd s h1,h2⟩
 ·exact⟨z,a,vs,rfl,.inl h1,h2⟩
def rDget:R2:=λx y H Q=>∃a v,x = .ref a/\DGet H a y (some v)/\Q v H
def gDget:D->D->Option D
 | .dct kvs,k=>(keyD k).bind λq=>valD kvs q
 | _,_=>none
theorem od_dget:OpD C rDget gDget:=by
 intro Pr F env σ H x y d vx vy Q r px py e q;unfold gDget at e;split at e
 ·obtain⟨z,a,ks,rfl,h1,h2⟩:=px.dct r.fr;obtain⟨k,hk,hv⟩:=Qx7.mp e;cases keyD_B hk py;rcases h2.val k with ⟨e1,_⟩|⟨d',v',e1,e2,p2⟩
  ·rw[e1] at hv;cases hv
  ·rw[e1] at hv;cases hv;exact⟨a,v',rfl,.inl ⟨ks,k,h1,rfl,e2.symm⟩,q _ _ F r (bu.refl F) p2⟩
 ·cases e
theorem px_dgetO{y:Expr}{b:Ev}{px:Pos}(i:Nat){x:Str}(hu:X.A.units+1<cLine)(hN:X.N[i]? = some x)(hv:Vis X.env.scope x)(hb:PXB X C y b)(hs:NoSl y:=by intro _ _;rfl)
  (hd:nDb x:=by decide) (hcd:nCd x:=by decide):PX X C (.Subscript (.Name x px) y pos) (aq gDget i b):=by
 have h:PE X (.Subscript (.Name x px) y pos) (tOp rDget _ _):=pe_dget (pos:=pos) hu (pe_var (pos:=px) hN hv hd hcd) hb hs;exact h.imp (binO_go od_dget)
def evDnew:Ev:=λenv=>.ok (.dct []) env
theorem pxn_dnew:PXN X C (.Dict [] [] pos) evDnew:=pe_dnewK.imp λσ H Q hq=>by
 obtain⟨Pr,F,env,env',d,r,e,q⟩:=hq;cases e;exact λp hp=>q _ _ F (r.fresh hp) (bu.refl F) (New.of r hp ⟨Qx3 _,[],bJ,rfl⟩)
def stDput(i:Nat)(k a:Ev):cz:=λenv=>bindO (a env) λd aO=>match aO[i]? with
 | some (some (_,_))=>bindO (k aO) λkd bZ=>(match bZ[i]?,keyD kd with
  | some (some (true,.dct kvs)),some q=>if kvs.length<sizeLine then .nx (bZ.set i (some (true,.dct (putD kvs kd q d)))) else .stuck
  | _,_=>.stuck)
 | _=>.stuck
theorem pxs_dput{i:Nat}{x:Str}{k e:Expr}{ek a:Ev}{px pos':Pos}(hu:X.A.units+1<cLine)(hN:X.N[i]? = some x)(hv:Vis X.env.scope x)(hk:PX X C k ek)(he:PX X C e a)
  (hs:swapsWith e (some (.Subscript (.Name x px) k pos')) pos.line X.env=pure false:=by rfl)
  (hd:nDb x:=by decide) (hcd:nCd x:=by decide):PXS X C (.Assign [.Subscript (.Name x px) k pos'] e pos) (stDput i ek a):=
 (ps_dput hu (pe_var hN hv hd hcd) hk he hs).imp λD σ H h=>by
  obtain⟨Pr,F,env,r,f⟩:=h;obtain⟨d,aO,e1,f1⟩:=bindO_fin f;refine⟨Pr,F,env,aO,d,r,e1,λv H1 F1 r1 s1 p1=>?_⟩;split at f1
  ·rename_i o0 d0 h0;obtain⟨v0,hv0,_⟩:=r1.rd h0;obtain⟨kd,bZ,e2,f2⟩:=bindO_fin f1;refine⟨v0,hv0,Pr,F1,aO,bZ,kd,r1,e2,λvk H2 F2 r2 s2 p2=>?_⟩;split at f2
   ·rename_i kvs q h2 hq;split at f2
    ·rename_i hz;obtain⟨b,g1,⟨z,ks,g2,g3⟩,g4,g5⟩:=r2.own i _ h2;rw[hv0] at g1;cases g1;have hz':ks.length<sizeLine:=by rw[g3.length];exact hz
     cases keyD_V hq p2;refine⟨b,_,rfl,DPut.k g2 hz',?_⟩;refine f2 σ _ F2 (r2.write h2 hv0 ⟨Qqy (putD_len _ _ _ _) hz,_,bJ,g3.put hq (Rep.mono s2 _ _ p1)⟩) (s1.trans s2)
    ·exact f2.elim
   ·exact f2.elim
  ·exact f1.elim
def insX(x:List Nat):List (List Nat)->List (List Nat)
 | []=>[x]
 | y::r=>if y<x then y::insX x r else x::y::r
def sortX:List (List Nat)->List (List Nat)
 | []=>[]
 | x::r=>insX x (sortX r)
theorem insX_perm(x:List Nat):∀l,(insX x l).Perm (x::l)
 | []=>.refl _
 | y::r=>by
  unfold insX;split
  ·exact((insX_perm x r).cons y).trans (.swap x y r)
  ·exact .refl _
theorem sortX_perm:∀l,(sortX l).Perm l
 | []=>.refl _
 | x::r=>(insX_perm x (sortX r)).trans ((sortX_perm r).cons x)
theorem insX_sorted(x:List Nat):∀l,l.Pairwise (λa b=>a<=b)->(insX x l).Pairwise (λa b=>a<=b)
 | [],_=>List.pairwise_singleton _ _
 | y::r,h=>by
  unfold insX;have h1:=Qj1.mp h;split
  ·rename_i hyx;refine Qj1.mpr ⟨λz hz=>?_,insX_sorted x r h1.2⟩;rcases Qq3.mp ((insX_perm x r).mem_iff.mp hz) with rfl|hz
   ·exact List.le_of_lt hyx
   ·exact h1.1 z hz
  ·rename_i hyx;have hxy:x<=y:=List.not_lt.mp hyx;refine Qj1.mpr ⟨λz hz=>?_,h⟩;rcases Qq3.mp hz with rfl|hz
   ·exact hxy
   ·exact List.le_trans hxy (h1.1 z hz)
theorem sortX_sorted:∀l,(sortX l).Pairwise (λa b=>a<=b)
 | []=>.nil
 | x::r=>insX_sorted x _ (sortX_sorted r)
theorem rising_pw:∀(p:Str) (l:List Str),risingS p l=true->(p::l).Pairwise (λa b=>a.cps.toList<=b.cps.toList)
 | p,[],_=>List.pairwise_singleton _ _
 | p,x::r,h=>by
  have h':(!Spec.ltCps x.cps.toList p.cps.toList&&risingS x r)=true:=h;rw[Qwy,PyProof.Rows.ltCps_eq] at h';have hxp:¬x.cps.toList<p.cps.toList:=by
   have:=h'.1
   simpa using this
  have ih:=rising_pw x r h'.2;refine Qj1.mpr ⟨λz hz=>?_,ih⟩;have hpx:p.cps.toList<=x.cps.toList:=List.not_lt.mp hxp;rcases Qq3.mp hz with rfl|hz
  ·exact hpx
  ·exact List.le_trans hpx ((Qj1.mp ih).1 z hz)
theorem sorted_pw:∀(l:List Str),sortedS l=true->l.Pairwise (λa b=>a.cps.toList<=b.cps.toList)
 | [],_=>.nil
 | x::r,h=>rising_pw x r h
theorem strOf_cps(s:Str):strOf s.cps.toList=s:=by obtain⟨c⟩:=s;simp[strOf]
theorem sortX_unique{xs:List (List Nat)}{ss ss':List Str}(e:ss=xs.map strOf)(hp:ss'.Perm ss)(hs:sortedS ss'=true):ss'=(sortX xs).map strOf:=by
 subst e;have h1:(ss'.map λs=>s.cps.toList).Perm xs:=by
  have:=hp.map (λs:Str=>s.cps.toList);rw[Qz4] at this;have e2:xs.map ((λs:Str=>s.cps.toList) ∘ strOf)=xs:=by rw[Qjk (g:=id) (λx _=>by simp[strOf])];simp
  rwa [e2] at this
 have h2:(ss'.map λs=>s.cps.toList)=sortX xs:=by refine List.Perm.eq_of_pairwise (le:=λa b=>a<=b) (λa b _ _=>List.le_antisymm) ?_ (sortX_sorted xs) (h1.trans (sortX_perm xs).symm);exact List.pairwise_map.mpr (sorted_pw ss' hs)
 rw[<-h2,Qz4];have e3:∀l:List Str,l.map (strOf ∘ λs=>s.cps.toList)=l:=λl=>by
  induction l with
  | nil=>rfl
  | cons a r ih=>rw[Qwz,ih];show strOf a.cps.toList::r=a::r;rw[strOf_cps]
 exact(e3 ss').symm
theorem vals_of_strs:∀{us:List Value} {ss:List Str},StrsAre us ss->Vals (ss.map V.str) us
 | _,_,.nil=>.nil
 | _,_,.cons y t h=>.cons ⟨t,rfl⟩ (vals_of_strs h)
theorem reps_of_strs{K:Fg}{F:Hp}:∀(xs:List (List Nat)),(∀x∈xs,x.length<=sizeLine)->bU K F (xs.map D.str) (xs.map λz=>V.str (strOf z))
 | [],_=>rfl
 | x::xs,h=>⟨_,_,rfl,⟨rfl,h x (Qqz ..)⟩,reps_of_strs xs λy hy=>h y (Qqj _ hy)⟩
def rSorted(K:Fg):List V->Hp->VK->Prop:=λxs H Q=>∃p zs,xs=[.ref p]/\(SqL K H p (zs.map λz=>V.str (strOf z))\/∃ks,Rd H p (.dK ks)/\ks.map (·.1)=zs.map λz=>Sum.inr (strOf z))/\zs.length<64/\∀l,H l=none->Q (.ref l) (upd H l (.lst ((sortX zs).map λz=>V.str (strOf z))))
theorem sort_fin{pins:List (Addr×Obj)}{s:Shared}{σ:L2.St}{H:Hp}{Q:VK}{zs:List (List Nat)}{out:Array Value}{ss':List Str}{a:Addr}{e:Nat}{h':Heap}{tk:Nat}(I:Inv X pins σ H s)(hz:zs.length<64)(q:∀l,H l=none->Q (.ref l) (upd H l (.lst ((sortX zs).map λz=>V.str (strOf z)))))
  (a1:StrsAre out.toList ss') (a2:ss'.Perm (zs.map strOf)) (a3:sortedS ss'=true) (hk:∀b o,s.heap.get? b=some o->h'.get? b=some o) (ha:s.heap.objs.size<=a) (ho:h'.get? a=some (seqObj "list" out e)):EP X pins σ Q (.ref a) { s with heap:=h',toks:=tk }:=by
 have e1:=sortX_unique rfl a2 a3;subst e1;have rv:=vals_of_strs a1;rw[Qz4] at rv;have hl:((sortX zs).map λz=>V.str (strOf z)).length<=sizeLine:=by rw[Qqx,(sortX_perm zs).length_eq];exact Qqy (Qj5 hz) (by decide)
 exact⟨.ref a,_,I.laid (t':=tk) hk ha (show ObjOk X.prog X.w _ h' a (.lst ((sortX zs).map λz=>V.str (strOf z))) from⟨hl,out.toList,e,rv,by simpa[seqObj] using ho⟩),rfl,q a (I.hok.fresh ha)⟩
theorem call_sorted(hc:X.calm=true):CallR X (.builtin "sorted") (rSorted X.K):=by
 intro pins s σ H xs us Q I r h;obtain⟨p,zs,rfl,hq,hz,q⟩:=h;obtain⟨u,rfl,rx⟩:=vals1 r;cases rx;rcases hq with hq|⟨ks,hq,hks⟩
 ·obtain⟨its,r',pl,hzz⟩:=I.list hq;have hS:StrsAre its (zs.map strOf):=vals_strs r';refine sorted_strs pl.isList hS (by rw[<-r'.length,Qqx];exact hz) λout ss' a1 a2 a3=>?_;obtain⟨e,he⟩:=sortedAll_at s.heap its out;exact sort_fin (tk:=s.toks) I hz q a1 a2 a3 (λb o e=>sortedAll_old e) (Nat.le_succ _) he
 ·obtain⟨hz2,hsys,vs,rkv,hD⟩:=dk_rd I.hok hq;obtain⟨ep,hat⟩:=hD.dictAt;have hlen:vs.length=zs.length:=by
   have e1:=rkv.length;have e2:=Qzq List.length hks;rw[Qqx,Qqx] at e2;omega
  refine Calls.call_function_entry kind_sorted plain_sorted entry_sorted (args_sorted1 _) ?_;unfold Builtin.«sorted»;refine Qqv (m:=checkCount "sorted" 1 1 _) (Qq6 ?_);refine Qqv (PySem.W.kdu_collect (A:=X.A.in1) (PySem.W.kdl_dict (knd:=mixKind X.prog X.w) (kvs:=vs) (ep:=ep) hsys) (I.ok.hd hc) hat (by rw[hlen];exact Qqy (Qj5 hz) (by decide)) λh' tk acc hk hacc=>?_);have hl:acc.toList.length=vs.length:=by rw[Qjv];exact hacc.1
  have hS:StrsAre acc.toList (zs.map strOf):=by
   have keys:∀j:Nat,j<vs.length->∃v t,acc.toList[j]? = some v/\v=Value.str (strOf (zs.getD j [])) t:=λj hj=>by
    have hja:j<acc.size:=by rw[hacc.1];exact hj
    have e1:acc[j]? = some acc[j]:=by simp[hja]
    obtain⟨k,x,hx,hkx⟩:=hacc.2 j _ e1;have e2:(vs.map (·.1))[j]? = some k:=by rw[Qxq,hx];rfl
    rw[<-rkv.keys,hks,Qxq] at e2;obtain⟨z,hzj,rfl⟩:=Qq9.mp e2;rcases keyIs_shape (k:=Sum.inr (strOf z)) (v:=acc[j]) hkx with ⟨i,t,z1,_⟩|⟨y,t,z1,z2⟩
    ·cases z1
    ·cases z1;exact⟨_,t,by rw[Array.getElem?_toList];exact e1,by rw[z2,Qx8,hzj];rfl⟩
   have build:∀(us:List Value) (ys:List (List Nat)),us.length=ys.length->(∀j:Nat,j<us.length->∃v t,us[j]? = some v/\v=Value.str (strOf (ys.getD j [])) t)->StrsAre us (ys.map strOf):=λus=>by
    induction us with
    | nil=>intro ys hl _;cases ys with
     | nil=>exact .nil
     | cons _ _=>cases hl
    | cons u us ih=>intro ys hl hk;cases ys with
     | nil=>cases hl
     | cons y ys=>
      obtain⟨v,t,e1,e2⟩:=hk 0 (Nat.succ_pos _);cases e1;rw[e2];exact .cons _ t (ih ys (by simpa using hl) λj hj=>by
       obtain⟨v,t,e1,e2⟩:=hk (j+1) (by simpa using hj);exact⟨v,t,by simpa using e1,by simpa using e2⟩)
   exact build _ _ (by rw[hl,hlen]) λj hj=>keys j (by rw[<-hl];exact hj)
  refine Qqv (wpAny_newList ?_ (by rw[hl,hlen];exact Qqy (Qj5 hz) (by decide)));have hoL:(h'.push (seqObj "list" acc.toList.toArray 0)).get? h'.objs.size=some (seqObj "list" acc.toList.toArray 0):=Qwv _ rfl;show wpAny _ _ _ _ _ { s with heap:=h'.push (seqObj "list" acc.toList.toArray 0),toks:=tk };refine Qqv (Qz9 (wpAny_call_entry slot_list_sort ⟨_,hoL,rfl⟩ entry_list_sort (list_sort_treeK strKind_oneLt hoL hS.keysOf (λv₁ v₂ rest e=>keyKind_strs (by rw[<-e];exact hS)) (by rw[hl,hlen];exact hz) λst' b1 b2=>⟨_,rfl,?_⟩) (args_list_sort _)));obtain⟨ss',a1,a2,a3⟩:=sorted_out_str hS b1 b2;obtain⟨e,he⟩:=sortedHeap_at (out:=(arrOf st').map (·.2)) hoL;refine Qq6 ⟨_,rfl,?_⟩;have I1:L2.Inv X pins σ H { s with heap:=h',toks:=tk }:=I.kept hk;refine sort_fin (s:={ s with heap:=h',toks:=tk }) (tk:=tk) I1 hz q a1 a2 a3 (λb o e=>?_) (Qq0 _) he;have lt':=Qwj e;rw[sortedHeap_old (Qw5 lt') (by rw[size_push'];exact Nat.lt_succ_of_lt lt')];exact Qqw _ e
def gSorted:List D->Option D
 | [.lst ds]=>(strsD ds).bind λzs=>if zs.length<64/\(∀z∈zs,z.length<=sizeLine) then some (.lst ((sortX zs).map .str)) else none
 | [.dct kvs]=>(strsD (kvs.map (·.1))).bind λzs=>if zs.length<64/\(∀z∈zs,z.length<=sizeLine) then some (.lst ((sortX zs).map .str)) else none
 | _=>none
theorem RepKs.keys{K:Fg}{F:Hp}:∀{kvs:List (D×D)} {ks:List (Key×V)} {zs:List (List Nat)},RepKs K F kvs ks->strsD (kvs.map (·.1))=some zs->ks.map (·.1)=zs.map λz=>Sum.inr (strOf z)
 | [],ks,zs,h,e=>by cases h;simp[strsD] at e;subst e;rfl
 | (k,d)::kvs,ks,zs,h,e=>by
  obtain⟨q,v,r,rfl,h0,h1,h2⟩:=h;cases k with
  | str x=>
   cases h0;have e':(strsD (kvs.map (·.1))).map (x :: ·)=some zs:=by simpa[strsD] using e
   obtain⟨zs',e1,rfl⟩:=Qq9.mp e';rw[Qwz,Qwz,RepKs.keys h2 e1]
  | _=>simp[strsD] at e
theorem sorted_new{Pr F:Hp}{env:Env}{σ:L2.St}{H:Hp}{l:Addr}{zs:List (List Nat)}(r:Rel C Pr F env σ H)(hl:H l=none)(hz:zs.length<64/\∀z∈zs,z.length<=sizeLine) :
  OwnAt C.K F (upd H l (.lst ((sortX zs).map λz=>V.str (strOf z)))) (.lst ((sortX zs).map .str)) l:=by
 refine⟨by rw[Qqx,(sortX_perm zs).length_eq];exact Qqy (Qj5 hz.1) (by decide),_,bJ,reps_of_strs _ λz h=>hz.2 z ((sortX_perm zs).mem_iff.mp h)⟩
theorem cd_sorted:CallD C (rSorted C.K) gSorted:=by
 intro Pr F env σ H ds d vs Q r p e q;have fin:∀(zs:List (List Nat)) (l:Addr),(zs.length<64/\∀z∈zs,z.length<=sizeLine)->d = .lst ((sortX zs).map .str)->H l=none->Q (.ref l) (upd H l (.lst ((sortX zs).map λz=>V.str (strOf z)))):=λzs l hz hd hl=>by
  subst hd;obtain⟨F2,r2,s2,p2⟩:=(r.fresh (o:=.lst ((sortX zs).map λz=>V.str (strOf z))) hl).keep (New.of r hl (sorted_new r hl hz));exact q _ _ F2 r2 s2 p2
 unfold gSorted at e;split at e
 ·obtain⟨v,w,rfl,p1,p2⟩:=p;cases p2;obtain⟨zs,e1,e2⟩:=Qx7.mp e;split at e2
  ·rename_i hz;cases e2;obtain⟨z,a,ws,rfl,h1,h2⟩:=p1.lst r.fr;have e6:=reps_strs e1 h2;subst e6;exact⟨a,zs,rfl,.inl (SqL.of h1),hz.1,λl hl=>fin zs l hz rfl hl⟩
  ·cases e2
 ·obtain⟨v,w,rfl,p1,p2⟩:=p;cases p2;obtain⟨zs,e1,e2⟩:=Qx7.mp e;split at e2
  ·rename_i hz;cases e2;obtain⟨z,a,ks,rfl,h1,h2⟩:=p1.dct r.fr;exact⟨a,zs,rfl,.inr ⟨ks,h1,h2.keys e1⟩,hz.1,λl hl=>fin zs l hz rfl hl⟩
  ·cases e2
 ·cases e
theorem px_sorted{p:Pos}{e:Expr}{a:EvA}(hK:X.K=C.K)(hc:X.calm=true)(hg:Gl X "sorted")(hm:X.mg "sorted" = none)(ha:PXAB X C [e] a)(he:sEn e X.env:=by rfl)(hpl:(backTo pos (starEach [] X.env)).any (·.1)=false:=by rfl) :
  PX X C (.Call (.Name "sorted" p) [e] [] pos) (ao gSorted a):=
 px_callB (X:=X) (r:=rSorted C.K) (by rw[<-hK];exact call_sorted hc) cd_sorted hg hm PyProof.Rows.boot_sorted ha (by decide) (by decide) he hpl
end
theorem Rel.pad{C:Cfg}{Pr F:Hp}{env:Env}{σ:L2.St}{H:Hp}(m:Nat)(r:Rel C Pr F env σ H):Rel C Pr F (env++List.replicate m none) (padS m σ) H:=by
 have un:∀(j:Nat) (x:Bool×D),(env++List.replicate m none)[j]? = some (some x)->env[j]? = some (some x):=λj x he=>by
  by_cases hj:j<env.length
  ·rwa [Qw3 hj] at he
  ·rw[Qxz (by omega),Qzk] at he;split at he<;>cases he
 have up:∀(j:Nat) (v:V),σ[j]? = some (some v)->(padS m σ)[j]? = some (some v):=λj v h=>by
  unfold padS;rw[Qw3 (Qq4.mp h).1];exact h
 have dn:∀(j:Nat) (v:V),(padS m σ)[j]? = some (some v)->σ[j]? = some (some v):=λj v he=>by
  unfold padS at he;by_cases hj:j<σ.length
  ·rwa [Qw3 hj] at he
  ·rw[Qxz (by omega),Qzk] at he;split at he<;>cases he
 refine⟨r.pr,r.fr,by unfold padS;rw[Qqq,Qqq,Qzj,Qzj,r.len],λj e he=>?_,λj e he=>?_,λj k e f b hj hk g1 g2=>r.apart j k e f b (un _ _ hj) (un _ _ hk) (dn _ _ g1) (dn _ _ g2),r.dj,λj a h=>up _ _ (r.fix j a h)⟩
 ·obtain⟨v,h1,h2⟩:=r.val j e (un _ _ he);exact⟨v,up _ _ h1,h2⟩
 ·obtain⟨a,h1,h2⟩:=r.own j e (un _ _ he);exact⟨a,up _ _ h1,h2⟩
theorem Rel.cut{C:Cfg}{Pr F:Hp}{env:Env}{σ σ0:L2.St}{H:Hp}(r:Rel C Pr F env σ H)(h:σ.take σ0.length=σ0)(fix:∀i a,C.fx i=some a->σ0[i]? = some (some (V.ref a))):Rel C Pr F (env.take σ0.length) σ0 H:=by
 have hl:σ0.length<=σ.length:=by have:=Qzq List.length h;rw[Qxx] at this;omega
 have un:∀(j:Nat) (x:Bool×D),(env.take σ0.length)[j]? = some (some x)->env[j]? = some (some x)/\j<σ0.length:=λj x he=>by
  have hj:j<σ0.length:=by have:=(Qq4.mp he).1;rw[Qxx] at this;omega
  rw[Qz0 hj] at he;exact⟨he,hj⟩
 have dn:∀(j:Nat),j<σ0.length->σ[j]? = σ0[j]?:=λj hj=>by
  have:=Qz0 (l:=σ) hj;rw[h] at this;exact this.symm
 refine⟨r.pr,r.fr,by rw[Qxx,r.len];omega,λj e he=>?_,λj e he=>?_,λj k e f b hj hk g1 g2=>r.apart j k e f b (un _ _ hj).1 (un _ _ hk).1 (by rw[dn _ (un _ _ hj).2];exact g1) (by rw[dn _ (un _ _ hk).2];exact g2),r.dj,fix⟩
 ·obtain⟨e1,e2⟩:=un _ _ he;rw[<-dn j e2];exact r.val j e e1
 ·obtain⟨e1,e2⟩:=un _ _ he;rw[<-dn j e2];exact r.own j e e1
def lcO(g:GV)(c:EvT)(e:Ev):List D->Env->R (List D)
 | [],env=>.ok [] env
 | d::ds,env=>(match g d env with
  | none=>.stuck
  | some e1=>bindR (c e1) λb e2=>if b=true then bindR (e e2) λy e3=>bindR (lcO g c e ds e3) λys e4=>.ok (y::ys) e4 else lcO g c e ds e2)
def evLC(lo n:Nat)(it:EvA)(g:GV)(c:EvT)(e:Ev):Ev:=λenv=>bindR (it env) λds aO=>if aO.length=lo then bindR (lcO g c e ds (aO++List.replicate (n - lo) none)) λys bZ=>(if ys.length<=sizeLine then .ok (.lst ys) (bZ.take lo) else .stuck) else .stuck
def PXIf(X:Cx)(C:Cfg)(ifs:List Expr)(ev:EvT):Prop:=PIf X ifs (tT C ev)
def cA:EvT:=λenv=>.ok true env
theorem pxif_nil{X:Cx}{C:Cfg}:PXIf X C [] cA:=λpins s σ H Q I h=>by
 obtain⟨Pr,F,env,env',b,r,e,q⟩:=h;cases e;exact pif_nil pins s σ H Q I (q H F r (bu.refl F))
theorem lc_go{C:Cfg}{lo n:Nat}{it:EvA}{g:GV}{c:EvT}{e:Ev}{σ:L2.St}{H:Hp}{Q:VK}(h:tN C (evLC lo n it g c e) σ H Q):tLC n (tI C it) (tG C lo g) (tT C c) (tE C e) σ H Q:=by
 obtain⟨Pr,F,env,env',d,r,ev,q⟩:=h;obtain⟨ds,aO,e1,e2⟩:=aU ev;split at e2
 ·rename_i hlo;obtain⟨ys,bZ,e3,e4⟩:=aU e2;split at e4
  ·rename_i hz;cases e4;refine⟨Pr,F,env,aO,ds,r,e1,λJ H1 F1 r1 s1 y1 a ha=>?_⟩;have hσ:σ.length=lo:=r1.len.symm.trans hlo;have hPa:Pr a=none:=r1.pr.free ha;refine⟨λi m σ' H'=>m=ds.length - i/\i<=ds.length/\∃F' envI acc ws rest,Rel C (upd Pr a (.lst ws)) F' envI σ' H'/\bu F1 F'/\bU C.K F' acc ws/\σ'.take lo=σ/\lcO g c e (ds.drop i) envI = .ok rest bZ/\acc++rest=ys,
    ⟨ds.length,rfl,Qx3 _,F1,aO++List.replicate (n - lo) none,[],[],ys,?_,bu.refl _,rfl,?_,e3,rfl⟩,?_⟩
   ·rw[hσ];exact(r1.aside (o:=.lst []) ha).pad _
   ·unfold padS;rw[<-hσ,List.take_left]
   rintro i m σ' H' ⟨rfl,hi,F',envI,acc,ws,rest,r',s',p',t',l',hacc⟩;have hFa:F' a=none:=by
    cases ez:F' a with
    | none=>rfl
    | some w=>have:=r'.dj a w ez;rw[bJ] at this;cases this
   by_cases hl:i<ds.length
   ·have hd:ds[i]? = some ds[i]:=Qzz hl;have hdr:ds.drop i=ds[i]::ds.drop (i+1):=List.drop_eq_getElem_cons hl;have yy:=y1 i H' (s'.trans r'.fr);refine .inr ⟨(yy.2 _ hd).1,λσ2 H2=>∃F' envI acc ws rest,Rel C (upd Pr a (.lst ws)) F' envI σ2 H2/\bu F1 F'/\bU C.K F' acc ws/\σ2.take lo=σ/\lcO g c e (ds.drop (i+1)) envI = .ok rest bZ/\acc++rest=ys,
     λσ2 H2 h2=>⟨ds.length - (i+1),by omega,rfl,hl,h2⟩,λx H2 hy=>?_⟩
    obtain⟨F2,r2,s2,p2⟩:=Yields.item r' s' y1 hd hy;rw[hdr] at l';unfold lcO at l';cases eg:g ds[i] envI with
    | none=>rw[eg] at l';cases l'
    | some e5=>
     rw[eg] at l';obtain⟨b,e6,c1,l2⟩:=aU l';refine⟨_,F2,envI,e5,ds[i],r2,p2,eg,λσ3 H3 F3 r3 s3 t3=>⟨_,F3,e5,e6,b,r3,c1,λH4 F4 r4 s4=>?_⟩⟩;have t3':σ3.take lo=σ:=t3.trans t';have s24:bu F' F4:=(s2.trans s3).trans s4;cases b with
     | false=>
      show if false=true then _ else _
      rw[if_neg Qw8];rw[if_neg Qw8] at l2;exact⟨F4,e6,acc,ws,rest,r4,s'.trans s24,bU.mono s24 _ _ p',t3',l2,hacc⟩
     | true=>
      show if true=true then _ else _
      rw[if_pos rfl];rw[if_pos rfl] at l2;obtain⟨y,e7,c2,l3⟩:=aU l2;obtain⟨ys2,e8,c3,l4⟩:=aU l3;cases l4;refine⟨_,F4,e6,e7,y,r4,c2,λv H5 F5 r5 s5 p5=>?_⟩;have hlen:acc.length+(ys2.length+1)=ys.length:=by rw[<-hacc,Qqq,Qqk]
      refine⟨ws,r5.pr _ _ bJ,by rw[p'.length];omega,F5,e7,acc++[y],ws++[v],ys2,?_,s'.trans (s24.trans s5),(bU.mono (s24.trans s5) _ _ p').append (bU.one p5),t3',c3,by rw[Qw6];exact hacc⟩;have r6:=r5.turn (u:=.lst (ws++[v])) bJ
      rwa [upd_upd] at r6
   ·have ei:i=ds.length:=by omega
    subst ei;rw[List.drop_length] at l';cases l';rw[Qjx] at hacc;subst hacc;refine .inl ⟨(y1 _ H' (s'.trans r'.fr)).1 (List.getElem?_eq_none (Qq0 _)) rfl,?_⟩;have sP:bu Pr (upd Pr a (.lst ws)):=same_upd hPa;have r7:Rel C Pr F' (bZ.take lo) σ H':=by
     have:=(r'.less sP).cut (σ0:=σ) (by rw[hσ];exact t') r1.fix
     rwa [hσ] at this
    refine q a H' F' r7 (s1.trans s') ⟨⟨hz,ws,r'.pr _ _ bJ,p'⟩,hFa,hPa,λj e he hs=>?_⟩;have hj:j<σ.length:=(Qq4.mp hs).1;have he':bZ[j]? = some (some (true,e)):=by rw[Qz0 (by rw[<-hσ];exact hj)] at he;exact he
    obtain⟨b,g1,_,_,g4⟩:=r'.own j e he';have:σ'[j]? = some (some (V.ref a)):=by rw[<-t',Qz0 (by rw[<-hσ];exact hj)] at hs;exact hs
    rw[this] at g1;cases g1;rw[bJ] at g4;cases g4
  ·cases e4
 ·cases e2
section
variable{X:Cx}{C:Cfg}{pos:Pos}
theorem pxn_lc{elt tg iter:Expr}{ifs:List Expr}{scope:Scope}(N':List Str){it:EvA}{g:GV}{c:EvT}{e:Ev}(lo:Nat)(ok:CompOk X scope N')(hc:X.calm=true)(hi:PXI X C tg iter it)
  (bg:∀X',CxAt X scope N' X'->PXG X' C lo tg g) (bc:∀X',CxAt X scope N' X'->PXIf X' C ifs c) (be:∀X',CxAt X scope N' X'->PX X' C elt e)
  (hs:∀x,foldedSetIterable iter X.env x=pure x:=by intro _;rfl):PXN X C (.ListComp elt [⟨tg,iter,ifs,0⟩] scope pos) (evLC lo N'.length it g c e):=
 (pe_lc ok hc hi bg bc be hs).imp λσ H Q h=>lc_go h
theorem pxs_setLC{elt tg iter:Expr}{ifs:List Expr}{scope:Scope}(N':List Str){spos py:Pos}{it:EvA}{g:GV}{c:EvT}{e:Ev}(lo:Nat){i:Nat}{y:Str}(ok:CompOk X scope N')(hc:X.calm=true)(hi:PXI X C tg iter it)
  (bg:∀X',CxAt X scope N' X'->PXG X' C lo tg g) (bc:∀X',CxAt X scope N' X'->PXIf X' C ifs c) (be:∀X',CxAt X scope N' X'->PX X' C elt e)
  (hN:X.N.Nodup) (hy:X.N[i]? = some y) (hx:Loc X.env.scope y) (hfx:C.fx i=none)
  (hsw:swapsWith (.ListComp elt [⟨tg,iter,ifs,0⟩] scope pos) (some (.Name y py)) spos.line X.env=pure true)
  (hf:X.fn y=true\/X.env.scope.names.lookup y=some .local:=by first|exact .inl rfl|exact .inr rfl|assumption)
  (hs:∀x,foldedSetIterable iter X.env x=pure x:=by intro _;rfl):PXS X C (.Assign [.Name y py] (.ListComp elt [⟨tg,iter,ifs,0⟩] scope pos) spos) (stOwn i (evLC lo N'.length it g c e)):=
 (ps_setLC ok hc hi bg bc be hN hy hx hsw hf hs).imp λD σ H h=>by
  obtain⟨Pr,F,env,r,f⟩:=h;obtain⟨d,aO,e1,f1⟩:=bindO_fin f;have:tN C (evLC lo N'.length it g c e) σ H λv H1=>gName i v σ H1 D.nx:=⟨Pr,F,env,aO,d,r,e1,λv H1 F1 r1 s1 p1=>f1 _ H1 F1 (r1.putOwn hfx p1) s1⟩;exact lc_go this
end
def spP(K:Fg)(n:Nat)(f:List D->Option D):Sp:=λvs H Q _=>∃(F:Hp) (ds:List D) (d:D),ds.length=n/\bu F H/\bU K F ds vs/\f ds=some d/\
 ∀v H' F',bu H H'->bu F' H'->bu F F'->(∀b o,F' b=some o->F b=some o\/H b=none)->Rep K F' d v->Q v H'
def spN(K:Fg)(n:Nat)(f:List D->Option D):Sp:=λvs H Q _=>∃(F:Hp) (ds:List D) (d:D),ds.length=n/\bu F H/\bU K F ds vs/\f ds=some d/\
 ∀a H' F',bu H H'->bu F' H'->bu F F'->(∀b o,F' b=some o->F b=some o\/H b=none)->OwnAt K F' H' d a->F' a=none->H a=none->Q (.ref a) H'
def spIO(K:Fg)(n:Nat)(f:List D->Option (D×D)):Sp:=λvs H Q _=>∃(F:Hp) (a:Addr) (r:List V) (x:D) (ds:List D) (d x':D),vs = .ref a::r/\ds.length+1=n/\bu F H/\F a=none/\OwnAt K F H x a/\bU K F ds r/\f (x::ds)=some (d,x')/\
 ∀v H' F',(∀b o,b≠a->H b=some o->H' b=some o)->bu F' H'->bu F F'->(∀b o,F' b=some o->F b=some o\/H b=none)->OwnAt K F' H' x' a->Rep K F' d v->Q v H'
theorem Rel.after{C:Cfg}{Pr F F':Hp}{env:Env}{σ:L2.St}{H H':Hp}(r:Rel C Pr F env σ H)(s:bu H H')(sF:bu F' H')(sF':bu F F')(nw:∀b o,F' b=some o->F b=some o\/H b=none):Rel C Pr F' env σ H':=by
 refine⟨r.pr.trans s,sF,r.len,λj e he=>?_,λj e he=>?_,r.apart,λb o e=>?_,r.fix⟩
 ·obtain⟨v,h1,h2⟩:=r.val j e he;exact⟨v,h1,Rep.mono sF' _ _ h2⟩
 ·obtain⟨a,h1,h2,h3,h4⟩:=r.own j e he;obtain⟨o,ho⟩:=h2.some;refine⟨a,h1,h2.mono sF' (by rw[ho,s _ _ ho]),?_,h4⟩;cases e:F' a with
  | none=>rfl
  | some u=>
   rcases nw a u e with z|z
   ·rw[h3] at z;cases z
   ·rw[ho] at z;cases z
 ·rcases nw b o e with z|z
  ·exact r.dj b o z
  ·exact r.pr.free z
theorem Rel.afterIO{C:Cfg}{Pr F F':Hp}{env:Env}{σ:L2.St}{H H':Hp}{i:Nat}{a:Addr}{d d':D}(r:Rel C Pr F env σ H)(h:env[i]? = some (some (true,d)))(hs:σ[i]? = some (some (V.ref a)))(s:∀b o,b≠a->H b=some o->H' b=some o)(sF:bu F' H')(sF':bu F F')(nw:∀b o,F' b=some o->F b=some o\/H b=none)(ho:OwnAt C.K F' H' d' a):Rel C Pr F' (env.set i (some (true,d'))) σ H':=by
 obtain⟨a',h1,h2,h3,h4⟩:=r.own i d h;rw[hs] at h1;cases h1;have hi:i<env.length:=(Qq4.mp h).1;obtain⟨oa,hoa⟩:=h2.some;have ne:∀(j:Nat) (e:D) (b:Addr),j≠i->env[j]? = some (some (true,e))->σ[j]? = some (some (V.ref b))->b≠a:=λj e b hj he g z=>hj (r.apart j i e d a he h (by rw[<-z];exact g) hs);have nF:∀b u,F b=none->H b=some u->F' b=none:=λb u e1 e2=>by
  cases e:F' b with
  | none=>rfl
  | some w=>
   rcases nw b w e with z|z
   ·rw[e1] at z;cases z
   ·rw[e2] at z;cases z
 refine⟨λb w e=>?_,sF,by rw[Qx1];exact r.len,λj e he=>?_,λj e he=>?_,λj k e f b hj hk g1 g2=>?_,λb o e=>?_,r.fix⟩
 ·have hb:b≠a:=λz=>by rw[z,h4] at e;cases e
  exact s b w hb (r.pr b w e)
 ·by_cases hj:j=i
  ·subst hj;rw[Qwk hi] at he;cases he
  ·rw[Qwx (Ne.symm hj)] at he;obtain⟨v,g1,g2⟩:=r.val j e he;exact⟨v,g1,Rep.mono sF' _ _ g2⟩
 ·by_cases hj:j=i
  ·subst hj;rw[Qwk hi] at he;cases he;exact⟨a,hs,ho,nF a oa h3 hoa,h4⟩
  ·rw[Qwx (Ne.symm hj)] at he;obtain⟨b,g1,g2,g3,g4⟩:=r.own j e he;obtain⟨ob,hob⟩:=g2.some;exact⟨b,g1,g2.mono sF' (by rw[hob,s b ob (ne j e b hj he g1) hob]),nF b ob g3 hob,g4⟩
 ·have un:∀(j:Nat) (e:D),(env.set i (some (true,d')))[j]? = some (some (true,e))->∃e',env[j]? = some (some (true,e')):=λj e he=>by
   by_cases hj:j=i
   ·subst hj;exact⟨d,h⟩
   ·rw[Qwx (Ne.symm hj)] at he;exact⟨e,he⟩
  obtain⟨e',hj'⟩:=un j e hj;obtain⟨f',hk'⟩:=un k f hk;exact r.apart j k e' f' b hj' hk' g1 g2
 ·rcases nw b o e with z|z
  ·exact r.dj b o z
  ·exact r.pr.free z
section
variable{X:Cx}{C:Cfg}{pos p:Pos}{k n:Nat}{f:Addr}{fd:FuncData}{ps:List Str}{x:Str}{e:Expr}{es:List Expr}
theorem evCall_len{g:List D->Option D}{a:EvA}{env env':Env}{d:D}(h:ao g a env = .ok d env'):∃ds,a env = .ok ds env'/\g ds=some d:=by obtain⟨ds,aO,e1,e2⟩:=aU h;obtain⟨e3,rfl⟩:=cM e2;exact⟨ds,e1,e3⟩
theorem px_own{g:List D->Option D}{a:EvA}(G:FnOk X.prog X.w X.K X.mg X.base CX0 k f fd ps (spP C.K n g))(hr:Room k X.A)(hg:Gl X x)(hm:X.mg x=some (.ref f))(hk:PySem.W.keepIn X.K (.ref f)=true)(hb:Binds X.K fd ps [])
  (ha:PXA X C (e::es) a) (hn:∀env ds env',a env = .ok ds env'->ds.length=n) (hdb:nDb x:=by decide) (he:starEach (e::es) X.env=(false,eval e X.env)::starEach es X.env:=by rfl) (hpl:(backTo pos (starEach es X.env)).any (·.1)=false:=by rfl) :
  PX X C (.Call (.Name x p) (e::es) [] pos) (ao g a):=(pe_call G hr hg hm hk hb .nil pass0 ha hdb he hpl).imp λσ H Q hq=>by
 obtain⟨Pr,F,env,env',d,r,e,q⟩:=hq;obtain⟨ds,e1,e2⟩:=evCall_len e;refine⟨Pr,F,env,env',ds,r,e1,λvs H1 F1 r1 s1 p1=>?_⟩;show spP C.K n g (vs++[]) H1 Q E0;rw[Qjx];exact⟨F1,ds,d,hn _ _ _ e1,r1.fr,p1,e2,λv H2 F2 t1 t2 t3 t4 p2=>q v H2 F2 (r1.after t1 t2 t3 t4) (s1.trans t3) p2⟩
theorem pxn_own{g:List D->Option D}{a:EvA}(G:FnOk X.prog X.w X.K X.mg X.base CX0 k f fd ps (spN C.K n g))(hr:Room k X.A)(hg:Gl X x)(hm:X.mg x=some (.ref f))(hk:PySem.W.keepIn X.K (.ref f)=true)(hb:Binds X.K fd ps [])
  (ha:PXA X C (e::es) a) (hn:∀env ds env',a env = .ok ds env'->ds.length=n) (hdb:nDb x:=by decide) (he:starEach (e::es) X.env=(false,eval e X.env)::starEach es X.env:=by rfl) (hpl:(backTo pos (starEach es X.env)).any (·.1)=false:=by rfl) :
  PXN X C (.Call (.Name x p) (e::es) [] pos) (ao g a):=(pe_call G hr hg hm hk hb .nil pass0 ha hdb he hpl).imp λσ H Q hq=>by
 obtain⟨Pr,F,env,env',d,r,e,q⟩:=hq;obtain⟨ds,e1,e2⟩:=evCall_len e;refine⟨Pr,F,env,env',ds,r,e1,λvs H1 F1 r1 s1 p1=>?_⟩;show spN C.K n g (vs++[]) H1 Q E0;rw[Qjx];refine⟨F1,ds,d,hn _ _ _ e1,r1.fr,p1,e2,λb H2 F2 t1 t2 t3 t4 ho hF hH=>q b H2 F2 (r1.after t1 t2 t3 t4) (s1.trans t3) ⟨ho,hF,r1.pr.free hH,λj e he hs=>?_⟩⟩;obtain⟨c,h1,h2,_⟩:=r1.own j e he;rw[hs] at h1;cases h1;obtain⟨u,hu⟩:=h2.some;rw[hH] at hu;cases hu
def evIO(f:List D->Option (D×D))(i:Nat)(a:EvA):Ev:=λenv=>match env[i]? with
 | some (some (true,_))=>bindR (a env) λds aO=>(match aO[i]? with
  | some (some (true,x))=>(match f (x::ds) with
   | some (d,x')=>.ok d (aO.set i (some (true,x')))
   | none=>.stuck)
  | _=>.stuck)
 | _=>.stuck
theorem px_io{g:List D->Option (D×D)}{a:EvA}{i:Nat}{y:Str}{py:Pos}(hN:X.N[i]? = some y)(hv:Vis X.env.scope y)(G:FnOk X.prog X.w X.K X.mg X.base CX0 k f fd ps (spIO C.K n g))(hr:Room k X.A)(hg:Gl X x)(hm:X.mg x=some (.ref f))(hk:PySem.W.keepIn X.K (.ref f)=true)(hb:Binds X.K fd ps [])
  (ha:PXA X C es a) (hn:∀env ds env',a env = .ok ds env'->ds.length+1=n) (hdb:nDb x:=by decide) (he:starEach (.Name y py::es) X.env=(false,eval (.Name y py) X.env)::starEach es X.env:=by rfl) (hpl:(backTo pos (starEach es X.env)).any (·.1)=false:=by rfl)
  (hd:nDb y:=by decide) (hcd:nCd y:=by decide) :
  PX X C (.Call (.Name x p) (.Name y py::es) [] pos) (evIO g i a):=(pe_call G hr hg hm hk hb .nil pass0 (pa_cons (pe_var hN hv hd hcd) ha he) hdb he hpl).imp λσ H Q hq=>by
 obtain⟨Pr,F,env,env',d,r,e,q⟩:=hq;unfold evIO at e;split at e
 ·rename_i d0 h0;obtain⟨ds,aO,e1,e2⟩:=aU e;split at e2
  ·rename_i z hz;split at e2
   ·rename_i d1 z' hg;cases e2;obtain⟨a0,hs0,_⟩:=r.own i _ h0;refine⟨_,hs0,Pr,F,env,aO,ds,r,e1,λvs H1 F1 r1 s1 p1=>?_⟩;obtain⟨a1,hs1,ho1,hF1,hP1⟩:=r1.own i _ hz;rw[hs0] at hs1;cases hs1;show spIO C.K n g (_::vs++[]) H1 Q E0;rw[Qjx];exact⟨F1,a0,vs,z,ds,d,z',rfl,hn _ _ _ e1,r1.fr,hF1,ho1,p1,hg,λv H2 F2 t1 t2 t3 t4 t5 p2=>q v H2 F2 (r1.afterIO hz hs0 t1 t2 t3 t4 t5) (s1.trans t3) p2⟩
   ·cases e2
  ·cases e2
 ·cases e
end
def envOf(n:Nat)(ds:List D):Env:=ds.map (λd=>some (false,d))++List.replicate (n - ds.length) none
def envIO(n:Nat)(x:D)(ds:List D):Env:=some (true,x)::(ds.map (λd=>some (false,d))++List.replicate (n - (ds.length+1)) none)
def b8(n:Nat)(ev:cz)(ds:List D):Option D:=match ev (envOf n ds) with
 | .rt false d _=>some d
 | .nx _=>some .non
 | _=>none
def runN(n:Nat)(ev:cz)(ds:List D):Option D:=match ev (envOf n ds) with
 | .rt true d _=>some d
 | _=>none
def runIO(n:Nat)(ev:cz)(ds:List D):Option (D×D):=match ds with
 | []=>none
 | x::r=>(match ev (envIO n x r) with
  | .rt false d env=>(match env[0]? with
   | some (some (true,x'))=>some (d,x')
   | _=>none)
  | .nx env=>(match env[0]? with
   | some (some (true,x'))=>some (.non,x')
   | _=>none)
  | _=>none)
def C0(K:Fg):Cfg:=⟨K,λ_=>none⟩
def C1(K:Fg)(a:Addr):Cfg:=⟨K,λi=>if i=0 then some a else none⟩
def mns(H F:Hp):Hp:=λb=>if (F b).isSome then none else H b
theorem mns_some{H F:Hp}{b:Addr}{o:HO}(h:mns H F b=some o):H b=some o/\F b=none:=by
 unfold mns at h;split at h
 ·cases h
 ·rename_i z;exact⟨h,by cases e:F b with|none=>rfl|some w=>rw[e] at z;exact absurd rfl z⟩
theorem mns_none{H F:Hp}{b:Addr}(h:mns H F b=none):H b=none\/∃o,F b=some o:=by
 unfold mns at h;split at h
 ·rename_i z;exact .inr (Qxv.mp z)
 ·exact .inl h
theorem rel_start{K:Fg}{F H:Hp}{ds:List D}{vs:List V}{N:List Str}(s:bu F H)(p:bU K F ds vs):Rel (C0 K) (mns H F) F (envOf N.length ds) (start N vs) H:=by
 have un:∀(j:Nat) (x:Bool×D),(envOf N.length ds)[j]? = some (some x)->∃d,x=(false,d)/\ds[j]? = some d:=λj x he=>by
  unfold envOf at he;by_cases hj:j<(ds.map λd=>some (false,d)).length
  ·rw[Qw3 hj,Qxq] at he;obtain⟨d,h1,h2⟩:=Qq9.mp he;cases h2;exact⟨d,rfl,h1⟩
  ·rw[Qxz (by omega),Qzk] at he;split at he<;>cases he
 refine⟨λb o e=>(mns_some e).1,s,?_,λj d he=>?_,λj d he=>?_,λj k d e a hj hk=>?_,λb o e=>?_,λi a h=>by cases h⟩
 ·unfold envOf L2.start;rw[Qqq,Qqq,Qqx,Qqx,Qzj,Qzj,p.length]
 ·obtain⟨d',z,hd⟩:=un j _ he;cases z;obtain⟨v,h1,h2⟩:=p.get hd;refine⟨v,?_,h2⟩;unfold L2.start;rw[Qw3 (by rw[Qqx];exact(Qq4.mp h1).1),Qxq,h1]
  rfl
 ·obtain⟨d',z,_⟩:=un j _ he;cases z
 ·obtain⟨d',z,_⟩:=un j _ hj;cases z
 ·unfold mns;rw[e];rfl
theorem bu.of_mns{H F F' H':Hp}(s1:bu (mns H F) H')(s2:bu F F')(s3:bu F' H')(sF:bu F H):bu H H':=λb o e=>by
 cases z:F b with
 | none=>exact s1 b o (by unfold mns;rw[z];exact e)
 | some w=>
  have:=sF b w z;rw[e] at this;cases this;exact s3 b o (s2 b o z)
theorem mns_dj{H F F':Hp}(s2:bu F F')(dj:∀b o,F' b=some o->mns H F b=none)(b:Addr)(o:HO)(h:F' b=some o):F b=some o\/H b=none:=by
 rcases mns_none (dj b o h) with z|⟨w,z⟩
 ·exact .inr z
 ·have:=s2 b w z;rw[h] at this;cases this;exact .inl z
section
variable{P:Program}{w:World}{K:Fg}{mg:Str->Option Value}{base:Heap}{x qual:Str}{st:Stmt}{f:Addr}{fd:FuncData}{N ps:List Str}{k:Nat}{ev:cz}
abbrev bx(P:Program)(w:World)(K:Fg)(mg:Str->Option Value)(base:Heap)(N:List Str)(qual:Str)(st:Stmt)(f:Addr)(cdv:Value)(A:Around)(outer:List PySem.Env)(s:Shared)(H:Hp)(E:XK):Cx:=(cxOf CX0 P w K mg base N qual (aL st) f cdv A outer s H E).nox
theorem def_pure(F:Fun K x qual st f fd)(S:bj N ps (aL st))
  (hb:∀(cdv:Value) (A:Around) (outer:List PySem.Env) (s:Shared) (H:Hp) (E:XK),Room k (A.deeper (envOfC qual (aL st) s.heap.objs.size f cdv))->PXSs (bx P w K mg base N qual st f cdv A outer s H E) (C0 K) (defBody st) ev) :
  FnOk P w K mg base CX0 (k+1) f fd ps (spP K ps.length (b8 N.length ev)):=by
 refine F.ok S (λvs H Q E h=>?_) (λcdv A outer s H vs Q E hr h=>?_)
 ·obtain⟨F0,ds,d,hl,_,p,_⟩:=h;rw[p.length,hl]
 ·obtain⟨F0,ds,d,hl,sF,p,e,q⟩:=h;refine⟨_,hb cdv A outer s H E hr,mns H F0,F0,envOf N.length ds,rel_start sF p,?_⟩;unfold b8 at e;split at e
  ·rename_i d' env' h1;cases e;rw[h1];exact λv σ' H' F' r' s' p'=>q v H' F' (bu.of_mns r'.pr s' r'.fr sF) r'.fr s' (mns_dj s' r'.dj) p'
  ·rename_i env' h1;cases e;rw[h1];exact λσ' H' F' r' s'=>q .non H' F' (bu.of_mns r'.pr s' r'.fr sF) r'.fr s' (mns_dj s' r'.dj) rfl
  ·cases e
theorem def_new(F:Fun K x qual st f fd)(S:bj N ps (aL st))
  (hb:∀(cdv:Value) (A:Around) (outer:List PySem.Env) (s:Shared) (H:Hp) (E:XK),Room k (A.deeper (envOfC qual (aL st) s.heap.objs.size f cdv))->PXSs (bx P w K mg base N qual st f cdv A outer s H E) (C0 K) (defBody st) ev) :
  FnOk P w K mg base CX0 (k+1) f fd ps (spN K ps.length (runN N.length ev)):=by
 refine F.ok S (λvs H Q E h=>?_) (λcdv A outer s H vs Q E hr h=>?_)
 ·obtain⟨F0,ds,d,hl,_,p,_⟩:=h;rw[p.length,hl]
 ·obtain⟨F0,ds,d,hl,sF,p,e,q⟩:=h;refine⟨_,hb cdv A outer s H E hr,mns H F0,F0,envOf N.length ds,rel_start sF p,?_⟩;unfold runN at e;split at e
  ·rename_i d' env' h1;cases e;rw[h1];refine λa σ' H' F' r' s' n'=>q a H' F' (bu.of_mns r'.pr s' r'.fr sF) r'.fr s' (mns_dj s' r'.dj) n'.own n'.nF ?_;rcases mns_none n'.nP with z|⟨u,z⟩
   ·exact z
   ·have:=s' a u z;rw[n'.nF] at this;cases this
  ·cases e
theorem rel_startIO{K:Fg}{F H:Hp}{y:D}{a:Addr}{ds:List D}{vs:List V}{N:List Str}(s:bu F H)(hF:F a=none)(ho:OwnAt K F H y a)(p:bU K F ds vs):Rel (C1 K a) (λb=>if b=a then none else mns H F b) F (envIO N.length y ds) (start N (.ref a::vs)) H:=by
 have un:∀(j:Nat) (x:Bool×D),(envIO N.length y ds)[j]? = some (some x)->(j=0/\x=(true,y))\/∃i d,j=i+1/\x=(false,d)/\ds[i]? = some d:=λj x he=>by
  unfold envIO at he;cases j with
  | zero=>cases he;exact .inl ⟨rfl,rfl⟩
  | succ i=>
   rw[List.getElem?_cons_succ] at he;by_cases hj:i<(ds.map λd=>some (false,d)).length
   ·rw[Qw3 hj,Qxq] at he;obtain⟨d,h1,h2⟩:=Qq9.mp he;cases h2;exact .inr ⟨i,d,rfl,rfl,h1⟩
   ·rw[Qxz (by omega),Qzk] at he;split at he<;>cases he
 have z0:(start N (.ref a::vs))[0]? = some (some (V.ref a)):=rfl;refine⟨λb o e=>?_,s,?_,λj d he=>?_,λj d he=>?_,λj k d e b hj hk _ _=>?_,λb o e=>?_,λi b h=>?_⟩
 ·have e':(if b=a then none else mns H F b)=some o:=e;split at e'
  ·cases e'
  ·exact(mns_some e').1
 ·unfold envIO L2.start;simp only[Qqk,Qqq,Qqx,Qzj,p.length,Qwz];omega
 ·rcases un j _ he with ⟨_,z⟩|⟨i,d',rfl,z,hd⟩
  ·cases z
  ·cases z;obtain⟨v,h1,h2⟩:=p.get hd;refine⟨v,?_,h2⟩;unfold L2.start;rw[Qwz,List.cons_append,List.getElem?_cons_succ,Qw3 (by rw[Qqx];exact(Qq4.mp h1).1),Qxq,h1]
   rfl
 ·rcases un j _ he with ⟨rfl,z⟩|⟨i,d',rfl,z,hd⟩
  ·cases z;exact⟨a,z0,ho,hF,if_pos rfl⟩
  ·cases z
 ·rcases un j _ hj with ⟨rfl,_⟩|⟨i,d',rfl,z,_⟩
  ·rcases un k _ hk with ⟨rfl,_⟩|⟨i,d',rfl,z,_⟩
   ·rfl
   ·cases z
  ·cases z
 ·show(if b=a then none else mns H F b)=none;split
  ·rfl
  ·unfold mns;rw[e];rfl
 ·have h':(if i=0 then some a else none)=some b:=h;split at h'
  ·rename_i hi;cases h';rw[hi];exact z0
  ·cases h'
theorem def_io{y:Str}{qs:List Str}(F:Fun K x qual st f fd)(S:bj N (y::qs) (aL st))
  (hb:∀(cdv:Value) (A:Around) (outer:List PySem.Env) (s:Shared) (H:Hp) (E:XK) (a:Addr),Room k (A.deeper (envOfC qual (aL st) s.heap.objs.size f cdv))->PXSs (bx P w K mg base N qual st f cdv A outer s H E) (C1 K a) (defBody st) ev) :
  FnOk P w K mg base CX0 (k+1) f fd (y::qs) (spIO K (qs.length+1) (runIO N.length ev)):=by
 refine F.ok S (λvs H Q E h=>?_) (λcdv A outer s H vs Q E hr h=>?_)
 ·obtain⟨F0,a,r,z,ds,d,z',rfl,hl,_,_,_,p,_⟩:=h;rw[Qqk,Qqk,p.length];exact hl
 ·obtain⟨F0,a,r,z,ds,d,z',rfl,hl,sF,hFa,ho,p,e,q⟩:=h;refine⟨_,hb cdv A outer s H E a hr,_,F0,envIO N.length z ds,rel_startIO sF hFa ho p,?_⟩;have fin:∀(env':Env) (σ':L2.St) (H' F':Hp) (v:V) (d:D) (z':D),env'[0]? = some (some (true,z'))->Rel (C1 K a) (λb=>if b=a then none else mns H F0 b) F' env' σ' H'->bu F0 F'->Rep K F' d v->(∀v H' F',(∀b o,b≠a->H b=some o->H' b=some o)->bu F' H'->bu F0 F'->(∀b o,F' b=some o->F0 b=some o\/H b=none)->OwnAt K F' H' z' a->Rep K F' d v->Q v H')->Q v H':=λenv' σ' H' F' v d z' h0 r' s' p' q=>by
   obtain⟨b,g1,g2,g3,g4⟩:=r'.own 0 z' h0;have g5:=r'.fix 0 a rfl;rw[g1] at g5;cases g5;refine q v H' F' (λc o hc e=>?_) r'.fr s' (λc o e=>?_) g2 p'
   ·cases u:F0 c with
    | none=>exact r'.pr c o (by show(if c=a then none else mns H F0 c)=some o;rw[if_neg hc];unfold mns;rw[u];exact e)
    | some w=>
     have:=sF c w u;rw[e] at this;cases this;exact r'.fr c o (s' c o u)
   ·by_cases hc:c=a
    ·subst hc;rw[g3] at e;cases e
    ·have h1:=r'.dj c o e;have h1':(if c=a then none else mns H F0 c)=none:=h1;rw[if_neg hc] at h1';rcases mns_none h1' with u|⟨w,u⟩
     ·exact .inr u
     ·have:=s' c w u;rw[e] at this;cases this;exact .inl u
  unfold runIO at e;simp only at e;split at e
  ·rename_i d' env' h1;split at e
   ·rename_i z1 h0;cases e;rw[h1];exact λv σ' H' F' r' s' p'=>fin env' σ' H' F' v _ _ h0 r' s' p' q
   ·cases e
  ·rename_i env' h1;split at e
   ·rename_i z1 h0;cases e;rw[h1];exact λσ' H' F' r' s'=>fin env' σ' H' F' .non .non _ h0 r' s' rfl q
   ·cases e
  ·cases e
end
structure Good(X:Cx)(C:Cfg):Prop where
 K:X.K=C.K
 calm:X.calm=true
 un:X.A.units+64<cLine
theorem Good.u1{X:Cx}{C:Cfg}(G:Good X C):X.A.units+1<cLine:=Qx4 (Nat.add_le_add_left (by decide:1<=64) _) G.un
theorem Good.u60{X:Cx}{C:Cfg}(G:Good X C):X.A.units+60<cLine:=Qx4 (Nat.add_le_add_left (by decide:60<=64) _) G.un
theorem Good.u61{X:Cx}{C:Cfg}(G:Good X C):X.A.units+61<cLine:=Qx4 (Nat.add_le_add_left (by decide:61<=64) _) G.un
theorem Good.at{X X':Cx}{C:Cfg}{scope:Scope}{N':List Str}(G:Good X C)(h:CxAt X scope N' X'):Good X' C:=by obtain⟨_,_,_,_,_,rfl⟩:=h;exact⟨G.K,G.calm,G.un⟩
def Own(P:Program)(w:World)(K:Fg)(mg:Str->Option Value)(base:Heap)(x:Str)(k:Nat)(ps:List Str)(sp:Sp):Prop:=
 ∃f fd,FnOk P w K mg base CX0 k f fd ps sp/\mg x=some (.ref f)/\PySem.W.keepIn K (.ref f)=true/\Binds K fd ps []
def Glb(K:Fg)(mg:Str->Option Value)(x:Str)(d:D):Prop:=∃v u,mg x=some u/\RelV v u/\∀F,Rep K F d v
def cu(K:Fg)(mg:Str->Option Value)(x:Str)(st:Stmt)(ps:List Str):Prop:=∃f fd,Fun K x x st f fd/\mg x=some (.ref f)/\Binds K fd ps []
def nodupB:List Str->Bool
 | []=>true
 | x::r=>!(r.contains x)&&nodupB r
theorem nodupB_ok:∀{l:List Str},nodupB l=true->l.Nodup
 | [],_=>.nil
 | x::r,h=>by
  have h':(!(r.contains x)&&nodupB r)=true:=h;rw[Qwy] at h';refine Qjz.mpr ⟨λhm=>?_,nodupB_ok h'.2⟩;have:r.contains x=true:=List.contains_iff_mem.mpr hm;rw[this] at h';exact absurd h'.1 (by decide)
def freeB(outer:List (Str×NameKind)):List (Str×NameKind)->Bool
 | []=>true
 | (n,k)::r=>(!decide (k = .free)||decide (outer.lookup n=some .cell)||decide (outer.lookup n=some .free))&&freeB outer r
theorem freeB_ok{outer:List (Str×NameKind)}:∀{l:List (Str×NameKind)},freeB outer l=true->∀x∈l,x.2 = .free->outer.lookup x.1=some .cell\/outer.lookup x.1=some .free
 | [],_,x,hx,_=>by simp at hx
 | (n,k)::r,h,x,hx,hf=>by
  have h':((!decide (k = .free)||decide (outer.lookup n=some .cell)||decide (outer.lookup n=some .free))&&freeB outer r)=true:=h;rw[Qwy,Bool.or_eq_true,Bool.or_eq_true] at h';rcases Qq3.mp hx with rfl|hx
  ·rcases h'.1 with (z|z)|z
   ·have hf':k = .free:=hf;rw[Qw9 hf'] at z;exact absurd z (by decide)
   ·exact .inl (Qq7 z)
   ·exact .inr (Qq7 z)
  ·exact freeB_ok h'.2 x hx hf
theorem compOk{X:Cx}{scope:Scope}{N':List Str}(h1:scope.kind = .function:=by rfl)(h2:nodupB (scope.names.map (·.1))=true:=by rfl)(h3:freeB X.env.scope.names scope.names=true:=by rfl)(h4:chkC scope.names N' X.N=true:=by rfl)(h5:Nat.ble X.N.length N'.length=true:=by rfl):CompOk X scope N':=
 ⟨h1,nodupB_ok h2,freeB_ok h3,h4,Qjq h5⟩
section
variable{X:Cx}{C:Cfg}{pos p px:Pos}{x y z:Expr}{a b c:Ev}{t u:EvT}{i:Nat}{n:Str}
structure Bi(X:Cx)(C:Cfg)(op:Operator)(g:D->D->Option D):Prop where
 ex:∃r,OpR X (binaryOp op) r/\OpD C r g
structure Cm(X:Cx)(C:Cfg)(op:CmpOp)(g:D->D->Option D):Prop where
 ex:∃r,OpR X (compareOp op) r/\OpD C r g
theorem cP(G:Good X C):Bi X C .Add bN:=⟨_,op_add2,by rw[G.K];exact od_add⟩
theorem b_sub:Bi X C .Sub gSub:=⟨_,op_sub,od_sub⟩
theorem b_mul:Bi X C .Mult gMul:=⟨_,op_mulB,od_mul⟩
theorem b_mod:Bi X C .Mod gMod:=⟨_,op_mod,od_mod⟩
theorem b_pow:Bi X C .Pow gPow:=⟨_,op_pow,od_pow⟩
theorem b_shl:Bi X C .LShift gShl:=⟨_,op_shl,od_shl⟩
theorem b_shr:Bi X C .RShift gShr:=⟨_,op_shr,od_shr⟩
theorem b_and:Bi X C .BitAnd gAnd:=⟨_,op_and,od_and⟩
theorem c_eq(G:Good X C):Cm X C .Eq gEq:=⟨_,op_eqD G.u60,by rw[G.K];exact od_eq⟩
theorem c_ne(G:Good X C):Cm X C .NotEq gNe:=⟨_,op_neD G.u60,by rw[G.K];exact od_ne⟩
theorem c_in(G:Good X C):Cm X C .In gIn:=⟨_,op_in2 G.u61,by rw[G.K];exact od_in⟩
theorem c_notIn(G:Good X C):Cm X C .NotIn gNotIn:=⟨_,op_notIn2 G.u61,by rw[G.K];exact od_notIn⟩
theorem c_is:Cm X C .Is gIs:=⟨_,op_is2,od_is⟩
theorem c_lt:Cm X C .Lt gLt:=⟨_,op_lt2,od_lt⟩
theorem c_le:Cm X C .LtE gLe:=⟨_,op_le,od_le⟩
theorem c_gt:Cm X C .Gt gGt:=⟨_,op_gt,od_gt⟩
variable{e:Expr}{es:List Expr}{ea:EvA}
theorem len0:∀(env:Env) (ds:List D) (env':Env),aj env = .ok ds env'->ds.length=0:=evNil_len
theorem bw{a:Ev}{r:EvA}{m:Nat}(hr:∀env ds env',r env = .ok ds env'->ds.length=m):∀(env:Env) (ds:List D) (env':Env),aa a r env = .ok ds env'->ds.length=m+1:=evCons_len hr
theorem lenIO{r:EvA}{m:Nat}(hr:∀env ds env',r env = .ok ds env'->ds.length=m):∀(env:Env) (ds:List D) (env':Env),r env = .ok ds env'->ds.length+1=m+1:=λenv ds env' h=>by rw[hr env ds env' h]
theorem n_lc{elt tg iter:Expr}{ifs:List Expr}{scope:Scope}(N':List Str){it:EvA}{g:GV}{cc:EvT}{ee:Ev}(lo:Nat)(ok:CompOk X scope N')(G:Good X C)(hi:PXI X C tg iter it)
  (bg:∀X',CxAt X scope N' X'->PXG X' C lo tg g) (bc:∀X',CxAt X scope N' X'->PXIf X' C ifs cc) (be:∀X',CxAt X scope N' X'->PX X' C elt ee)
  (hs:∀x,foldedSetIterable iter X.env x=pure x:=by intro _;rfl):PXN X C (.ListComp elt [⟨tg,iter,ifs,0⟩] scope pos) (evLC lo N'.length it g cc ee):=pxn_lc N' lo ok G.calm hi bg bc be hs
theorem s_lc{elt tg iter:Expr}{ifs:List Expr}{scope:Scope}(N':List Str){spos py:Pos}{it:EvA}{g:GV}{cc:EvT}{ee:Ev}(lo:Nat)(i:Nat)(ok:CompOk X scope N')(G:Good X C)(hi:PXI X C tg iter it)
  (bg:∀X',CxAt X scope N' X'->PXG X' C lo tg g) (bc:∀X',CxAt X scope N' X'->PXIf X' C ifs cc) (be:∀X',CxAt X scope N' X'->PX X' C elt ee)
  (hnd:nodupB X.N=true:=by rfl) (hfx:C.fx i=none:=by rfl) (hy:X.N[i]? = some n:=by rfl) (hx:Loc X.env.scope n:=by first|exact Or.inl rfl|exact Or.inr rfl)
  (hsw:swapsWith (.ListComp elt [⟨tg,iter,ifs,0⟩] scope pos) (some (.Name n py)) spos.line X.env=pure true:=by rfl)
  (hf:X.fn n=true\/X.env.scope.names.lookup n=some .local:=by first|exact .inl rfl|exact .inr rfl)
  (hs:∀x,foldedSetIterable iter X.env x=pure x:=by intro _;rfl):PXS X C (.Assign [.Name n py] (.ListComp elt [⟨tg,iter,ifs,0⟩] scope pos) spos) (stOwn i (evLC lo N'.length it g cc ee)):=pxs_setLC N' lo ok G.calm hi bg bc be (nodupB_ok hnd) hy hx hfx hsw hf hs
end
section
variable{P:Program}{w:World}{K:Fg}{mg:Str->Option Value}{base:Heap}{x:Str}{st:Stmt}{N ps:List Str}{k:Nat}{ev:cz}
theorem good_bx{x:Str}{f:Addr}{cdv:Value}{A:Around}{outer:List PySem.Env}{s:Shared}{H:Hp}{E:XK}{C:Cfg}(hC:C.K=K)(hr:Room k (A.deeper (envOfC x (aL st) s.heap.objs.size f cdv))):Good (bx P w K mg base N x st f cdv A outer s H E) C:=⟨hC.symm,rfl,hr.units⟩
theorem bD(F:cu K mg x st ps)(S:bj N ps (aL st))
  (hb:∀(f:Addr) (cdv:Value) (A:Around) (outer:List PySem.Env) (s:Shared) (H:Hp) (E:XK),Room k (A.deeper (envOfC x (aL st) s.heap.objs.size f cdv))->Good (bx P w K mg base N x st f cdv A outer s H E) (C0 K)->PXSs (bx P w K mg base N x st f cdv A outer s H E) (C0 K) (defBody st) ev) :
  Own P w K mg base x (k+1) ps (spP K ps.length (b8 N.length ev)):=by
 obtain⟨f,fd,h1,h2,h3⟩:=F;exact⟨f,fd,def_pure h1 S λcdv A outer s H E hr=>hb f cdv A outer s H E hr (good_bx rfl hr),h2,h1.kp,h3⟩
theorem own_new(F:cu K mg x st ps)(S:bj N ps (aL st))
  (hb:∀(f:Addr) (cdv:Value) (A:Around) (outer:List PySem.Env) (s:Shared) (H:Hp) (E:XK),Room k (A.deeper (envOfC x (aL st) s.heap.objs.size f cdv))->Good (bx P w K mg base N x st f cdv A outer s H E) (C0 K)->PXSs (bx P w K mg base N x st f cdv A outer s H E) (C0 K) (defBody st) ev) :
  Own P w K mg base x (k+1) ps (spN K ps.length (runN N.length ev)):=by
 obtain⟨f,fd,h1,h2,h3⟩:=F;exact⟨f,fd,def_new h1 S λcdv A outer s H E hr=>hb f cdv A outer s H E hr (good_bx rfl hr),h2,h1.kp,h3⟩
theorem own_io{y:Str}{qs:List Str}(F:cu K mg x st (y::qs))(S:bj N (y::qs) (aL st))
  (hb:∀(f:Addr) (cdv:Value) (A:Around) (outer:List PySem.Env) (s:Shared) (H:Hp) (E:XK) (a:Addr),Room k (A.deeper (envOfC x (aL st) s.heap.objs.size f cdv))->Good (bx P w K mg base N x st f cdv A outer s H E) (C1 K a)->PXSs (bx P w K mg base N x st f cdv A outer s H E) (C1 K a) (defBody st) ev) :
  Own P w K mg base x (k+1) (y::qs) (spIO K (qs.length+1) (runIO N.length ev)):=by
 obtain⟨f,fd,h1,h2,h3⟩:=F;exact⟨f,fd,def_io h1 S λcdv A outer s H E a hr=>hb f cdv A outer s H E a hr (good_bx rfl hr),h2,h1.kp,h3⟩
theorem scOk{sc:Scope}(h1:sc.kind = .function:=by rfl)(h2:sc.isCoroutine=false:=by rfl)(h3:sc.isGenerator=false:=by rfl)(h4:nodupB N=true:=by rfl)(h5:N.take ps.length=ps:=by rfl)
  (h6:(ps.all λx=>decide (sc.names.lookup x=some .local)||decide (sc.names.lookup x=some .cell))=true:=by rfl) (h7:(sc.names.all λy=>!decide (y.2 = .free))=true:=by rfl):bj N ps sc:=by
 refine⟨h1,h2,h3,nodupB_ok h4,h5,λx hx=>?_,λy hy z=>?_⟩
 ·have:=Qq5.mp h6 x hx;rw[Bool.or_eq_true] at this;rcases this with z|z
  ·exact .inl (Qq7 z)
  ·exact .inr (Qq7 z)
 ·have:=Qq5.mp h7 y hy;rw[Qw9 z] at this;exact absurd this (by decide)
end
open PySem PySem.Spec PySem.W PySem.Calls PyProof.Rows L2
theorem weight_ints:∀(ns:List Int) (i:Int),i∈ns->Builtin.Int.intBits i<=WData.weightAll (ns.map WData.int)
 | [],_,h=>by simp at h
 | n::ns,i,h=>by
  rw[Qwz,WData.weightAll];rcases Qq3.mp h with rfl|h
  ·have e:WData.weight (.int i)=Builtin.Int.intBits i:=by rw[WData.weight];rfl
   rw[e];omega
  ·have:=weight_ints ns i h;omega
def Bits(ns:List Int):Prop:=∀i∈ns,Builtin.Int.intBits i<=2^20
theorem attach_callB{l:OpenLaw}{n:Nat}{q:Program}{loose:List Str}{XP:(Str->Option Value)->Heap->Prop}{YP:World->Heap->Prop}{d:DefRec}
  (hn:l.most=some n) (hdf:d.params.defaults=[])
  (call:∀(w:World) (s₀ s₁:Shared) (mg mb:Str->Option Value) (fa:Addr) (o:Obj) (pm cd doc:Value) (a:Addr) (vs:List Value) (ns:List Int),
   Ground q loose [] XP w s₀ mg mb s₁.heap->YP w s₁.heap->
   s₁.heap.get? fa=some o->o.data = .func (docDef d.name d.params d.body d.scope pm cd doc)->s₁.heap.CodeRec cd d.name->mg d.name=some (.ref fa)->
   s₁.heap.get? a=some { cls:=.type "list",data:=.seq vs.toArray }->IntsAre vs ns->ns.length<=n->Bits ns->s₁.gens = #[]->
   codeAny (model l.prog w) callerA (.call (.ref fa) ⟨[.ref a],[]⟩) (λr s'=>r = .ok (.ret (.bool true))/\OldK s₁.heap s'.heap/\s'.os=s₁.os/\AllBare s'.gens) s₁) :
  WalkO q loose XP YP l.row.toRowW d [] (λf vs=>PySem.call f vs):=by
 intro w s₀ s₁ mg mb G Y fa o pm cd doc dV kV ho hd hcd hD hmg hg args vals as hpre hlay hrd hwl hlo;obtain rfl:dV = .none:=Dflts.none hD hdf;obtain rfl:kV = .none:=Dflts.noKw hD;obtain⟨a,vs,ns,rfl,rfl,hobj,hints,hlen⟩:=Att.script_of hn hpre hwl;have hbits:Bits ns:=λi hi=>by
  have h1:=(layableW_iff.mp (layableW_arg hlay _ (Qq2.mpr rfl))).2.2;rw[WData.weight] at h1;exact Qqy (weight_ints ns i hi) h1
 refine enter_call (codeAny_mono (call w s₀ s₁ mg mb fa o pm cd doc a vs ns G Y ho (fd_plain hd) hcd hmg hobj hints hlen hbits hg) λr s' hq=>?_);obtain⟨rfl,h2,h3,h4⟩:=hq;exact⟨.inl ⟨.bool true,.bool true,[],rfl,λ_=>rfl,.bool true,Att.post_true l _,λ_=>⟨List.Pairwise.nil,λ_ hm=>(nomatch hm)⟩⟩,h2,h3,h4⟩
theorem walkB{l:PySem.W.OpenLaw}{n k:Nat}{q:Program}{loose:List Str}{XP:(Str->Option Value)->Heap->Prop}{YP:World->Heap->Prop}{d:DefRec}{K:Params->PySem.W.Frag}{x:Str}{f:List D->Option D}
  (hn:l.most=some n) (hn2:n<=sizeLine) (hdf:d.params.defaults=[]) (hr:Room k callerA)
  (hY:∀(w:World) (h:Heap),YP w h->(K w.params).In h)
  (hf:∀ns:List Int,ns.length<=n->Bits ns->f [.arr (ns.map .int)]=some (.bl true))
  (F:∀(w:World) (mg:Str->Option Value) (fa:Addr) (h:Heap),(K w.params).In h->h.Ns mainGlobals mg->mg d.name=some (.ref fa)->
   ∃fd:FuncData,(∀(s:Shared) (u:Value),BindsTo s fd ⟨[u],[]⟩ [(x,u)])/\
    ∀base:Heap,(K w.params).In base->base.Ns mainGlobals mg->FnOk l.prog w (K w.params) mg base CX0 k fa fd [x] (spP (K w.params) 1 f)) :
  PySem.W.WalkO q loose XP YP l.row.toRowW d [] (λf vs=>PySem.call f vs):=by
 refine attach_callB hn hdf λw s₀ s₁ mg mb fa o pm cd doc a vs ns G Y ho hd hcd hmg hobj hints hlen hbits hg=>?_;have KX:=hY w _ Y;obtain⟨fd,hb,hF⟩:=F w mg fa _ KX G.T.g hmg;refine law_call KX G.T.g G.T.b G.T.builtins G.T.nolimit hg hobj hints (Qqy hlen hn2) hr hF hb (λH hO hS=>?_) λH e s' z=>z;refine⟨H,[.arr (ns.map .int)],.bl true,rfl,bu.refl H,⟨_,_,rfl,⟨by rw[Qqx];exact Qqy hlen hn2,a,_,rfl,hS,?_⟩,rfl⟩,hf ns hlen hbits,λv H' F' _ _ _ _ p=>p⟩;clear hints hlen hbits hS
 induction ns with
 | nil=>exact rfl
 | cons m ns ih=>exact⟨_,_,rfl,rfl,ih⟩
section
variable{K:Fg}{h:Heap}{mg:Str->Option Value}
theorem funAt{x:Str}{st:Stmt}{ps:List Str}{f:Addr}{oc:Value}{od an:Option Addr}{osl:Array (Option Value)}{kV doc pm cdv ct:Value}(X:K.In h)(G:h.Ns mainGlobals mg)
  (a:PySem.W.nsIn K mainGlobals x=some (some (.ref f))) (l:K.lookup f=some ⟨oc,od,.func (PySem.W.fnOf x x (defArgs st) (defBody st) (aL st) .none kV doc pm an cdv ct),osl⟩)
  (c:PySem.W.codeIn K cdv x=true) (k:PySem.W.keepIn K (.ref f)=true)
  (b:∀(kV doc pm:Value) (an:Option Addr) (cdv ct:Value) (us:List Value),us.length=ps.length->bindArgs (PySem.W.fnOf x x (defArgs st) (defBody st) (aL st) .none kV doc pm an cdv ct) ⟨us,[]⟩=pure (ps.zip us)):cu K mg x st ps:=
 ⟨f,_,fun_mk l c k,PySem.W.mg_of X G a,(fun_mk (st:=st) l c k).binds b⟩
theorem glb_str{x s:Str}{z:List Nat}{t:Tok}(X:K.In h)(G:h.Ns mainGlobals mg)(a:PySem.W.nsIn K mainGlobals x=some (some (.str s t)))(hs:s=strOf z)(hz:z.length<=sizeLine):Glb K mg x (.str z):=
 ⟨.str s,_,PySem.W.mg_of X G a,⟨t,rfl⟩,λF=>⟨by rw[hs],hz⟩⟩
inductive Cst (K:Fg):D->V->Value->Prop where
 | str {s:Str} {z:List Nat} {t:Tok} (hs:s=strOf z) (hz:z.length<=sizeLine):Cst K (.str z) (.str s) (.str s t)
 | int {i:Int} {t:Tok}:Cst K (.int i) (.int i) (.int i t)
theorem Cst.rel{d:D}{v:V}{u:Value}(c:Cst K d v u):RelV v u:=by cases c<;>exact⟨_,rfl⟩
theorem Cst.rep{d:D}{v:V}{u:Value}(c:Cst K d v u)(F:Hp):Rep K F d v:=by
 cases c with
 | str hs hz=>exact⟨by rw[hs],hz⟩
 | int=>exact rfl
theorem glb_tup2{x:Str}{a:Addr}{n:Nat}{sl:Array (Option Value)}{u1 u2:Value}{d1 d2:D}{v1 v2:V}(X:K.In h)(G:h.Ns mainGlobals mg)(e:PySem.W.nsIn K mainGlobals x=some (some (.ref a)))
  (l:K.lookup a=some ⟨.type "tuple",none,.seq #[u1,u2] n,sl⟩) (c1:Cst K d1 v1 u1) (c2:Cst K d2 v2 u2):Glb K mg x (.tup [d1,d2]):=
 ⟨.ref a,_,PySem.W.mg_of X G e,rfl,λF=>⟨by show 2<=sizeLine;decide,a,[v1,v2],rfl,.inr ⟨_,_,_,l,rfl,rfl,rfl,by show 2<=sizeLine;decide,.cons c1.rel (.cons c2.rel .nil)⟩,_,_,rfl,c1.rep F,_,_,rfl,c2.rep F,rfl⟩⟩
theorem nbAt{x:Str}(X:K.In h)(G:h.Ns mainGlobals mg)(e:PySem.W.nsIn K mainGlobals x=some none):mg x=none:=PySem.W.mg_none_of X G e
end
open PySem L2
theorem forO_inv{g:GV}{b:cz}(P:Env->Prop):∀(ds:List D),(∀d∈ds,∀env,P env->∃e1 e2,g d env=some e1/\b e1 = .nx e2/\P e2)->∀env,P env->∃e',forO g b ds env = .nx e'/\P e'
 | [],_,env,hp=>⟨env,rfl,hp⟩
 | d::ds,h,env,hp=>by
  obtain⟨e1,e2,h1,h2,h3⟩:=h d (Qqz ..) env hp;obtain⟨e',h4,h5⟩:=forO_inv P ds (λd' hd=>h d' (Qqj _ hd)) e2 h3;refine⟨e',?_,h5⟩;unfold forO;rw[h1];simp only;rw[h2];exact h4
theorem forO_go{g:GV}{b:cz}{all:List D}(P:List D->Env->Prop)(h:∀done d rest,all=done++d::rest->∀env,P done env->∃e1 e2,g d env=some e1/\b e1 = .nx e2/\P (done++[d]) e2):∀(ds done:List D),all=done++ds->∀env,P done env->∃e',forO g b ds env = .nx e'/\P all e'
 | [],done,ha,env,hp=>⟨env,rfl,by rw[ha,Qjx];exact hp⟩
 | d::ds,done,ha,env,hp=>by
  obtain⟨e1,e2,h1,h2,h3⟩:=h done d ds ha env hp;obtain⟨e',h4,h5⟩:=forO_go P h ds (done++[d]) (by rw[Qw6];exact ha) e2 h3;refine⟨e',?_,h5⟩;unfold forO;rw[h1];simp only;rw[h2];exact h4
theorem forO_inv'{g:GV}{b:cz}(all:List D)(P:List D->Env->Prop)(h:∀done d rest,all=done++d::rest->∀env,P done env->∃e1 e2,g d env=some e1/\b e1 = .nx e2/\P (done++[d]) e2)(env:Env)(h0:P [] env):∃e',forO g b all env = .nx e'/\P all e':=forO_go P h all [] rfl env h0
theorem aC{a b:cz}{env e:Env}(h:a env = .nx e):aJ a b env=b e:=by unfold aJ;rw[h]
theorem stSeq_rt{a b:cz}{env e:Env}{o:Bool}{d:D}(h:a env = .rt o d e):aJ a b env = .rt o d e:=by unfold aJ;rw[h]
theorem stFor_eq{it:EvA}{g:GV}{b:cz}{env e:Env}{ds:List D}(h:it env = .ok ds e):stFor it g b env=forO g b ds e:=by unfold stFor;rw[h];rfl
theorem bK{a:Ev}{g:GV}{env e e':Env}{d:D}(h:a env = .ok d e)(h':g d e=some e'):aY a g env = .nx e':=by unfold aY;rw[h];show liftO (g d e)=_;rw[h'];rfl
theorem stIf_t{t:EvT}{a b:cz}{env e:Env}(h:t env = .ok true e):cT t a b env=a e:=by unfold cT;rw[h];rfl
theorem stIf_f{t:EvT}{a b:cz}{env e:Env}(h:t env = .ok false e):cT t a b env=b e:=by unfold cT;rw[h];rfl
theorem bH{a:Ev}{env e:Env}{d:D}(h:a env = .ok d e):aZ a env = .rt false d e:=by unfold aZ;rw[h];rfl
theorem aF{g:List D->Option D}{a:EvA}{env e:Env}{ds:List D}{d:D}(h:a env = .ok ds e)(h':g ds=some d):ao g a env = .ok d e:=by unfold ao;rw[h];show liftR (g ds) e=_;rw[h'];rfl
theorem aN{g:D->D->Option D}{a b:Ev}{env e1 e2:Env}{x y d:D}(h1:a env = .ok x e1)(h2:b e1 = .ok y e2)(h3:g x y=some d):aG g a b env = .ok d e2:=by
 unfold aG;rw[h1];show bindR (b e1) _=_;rw[h2];show liftR (g x y) e2=_;rw[h3]
 rfl
theorem evBinO_eq{g:D->D->Option D}{i:Nat}{b:Ev}{env e2:Env}{x y d:D}{o o':Bool}{x0:D}(h1:env[i]? = some (some (o',x0)))(h2:b env = .ok y e2)(h4:e2[i]? = some (some (o,x)))(h3:g x y=some d):aq g i b env = .ok d e2:=by
 unfold aq;rw[h1];show bindR (b env) _=_;rw[h2];show(match e2[i]? with|some (some (_,x))=>liftR (g x y) e2|_=>.stuck)=_;rw[h4];show liftR (g x y) e2=_;rw[h3]
 rfl
theorem aD{a:Ev}{r:EvA}{env e1 e2:Env}{d:D}{ds:List D}(h1:a env = .ok d e1)(h2:r e1 = .ok ds e2):aa a r env = .ok (d::ds) e2:=by
 unfold aa;rw[h1];show bindR (r e1) _=_;rw[h2]
 rfl
theorem bA{env:Env}:aj env = .ok [] env:=rfl
theorem evLst_eq{r:EvA}{env e:Env}{ds:List D}(h:r env = .ok ds e)(hz:ds.length<=sizeLine):cW r env = .ok (.lst ds) e:=by unfold cW;rw[h];show(if ds.length<=sizeLine then _ else _)=_;rw[if_pos hz]
theorem evTup_eq{r:EvA}{env e:Env}{ds:List D}(h:r env = .ok ds e)(hz:ds.length<=sizeLine):evTup r env = .ok (.tup ds) e:=by unfold evTup;rw[h];show(if ds.length<=sizeLine then _ else _)=_;rw[if_pos hz]
theorem evIO_eq{f:List D->Option (D×D)}{i:Nat}{a:EvA}{env e1:Env}{ds:List D}{x0 x d x':D}(h0:env[i]? = some (some (true,x0)))(h1:a env = .ok ds e1)(h2:e1[i]? = some (some (true,x)))(h3:f (x::ds)=some (d,x')):evIO f i a env = .ok d (e1.set i (some (true,x'))):=by unfold evIO;rw[h0];show bindR (a env) _=_;rw[h1];show(match e1[i]? with|some (some (true,x))=>(match f (x::ds) with|some (d,x')=>R.ok d (e1.set i (some (true,x')))|none=>R.stuck)|_=>R.stuck)=_;rw[h2];show(match f (x::ds) with|some (d,x')=>R.ok d (e1.set i (some (true,x')))|none=>.stuck)=_;rw[h3]
theorem gMul_eq{i j:Int}(h:mulFits i j=true):gMul (.int i) (.int j)=some (.int (i*j)):=by show gI mulFits (λi j=>D.int (i*j)) (.int i) (.int j)=_;unfold gI;simp only;rw[if_pos h]
theorem gAddL_eq{a b:List D}(h:a.length+b.length<=sizeLine):bN (.lst a) (.lst b)=some (.lst (a++b)):=by show(if a.length+b.length<=sizeLine then _ else _)=_;rw[if_pos h]
theorem cL{a:Ev}{env e:Env}{b:Bool}(h:a env = .ok (.bl b) e):cU a env = .ok b e:=by unfold cU;rw[h];rfl
theorem stOwn_eq{i:Nat}{a:Ev}{env e:Env}{d:D}(h:a env = .ok d e):stOwn i a env = .nx (e.set i (some (true,d))):=by unfold stOwn;rw[h];rfl
theorem evIt_eq{a:Ev}{env e:Env}{d:D}{ds:List D}(h:a env = .ok d e)(h':itD d=some ds):evIt a env = .ok ds e:=by unfold evIt;rw[h];show liftR (itD d) e=_;rw[h'];rfl
theorem runIO_eq{n:Nat}{ev:cz}{x d x':D}{r:List D}{env:Env}(h:ev (envIO n x r) = .rt false d env)(h0:env[0]? = some (some (true,x'))):runIO n ev (x::r)=some (d,x'):=by unfold runIO;simp only;rw[h];simp only;rw[h0]
theorem bV{n:Nat}{ev:cz}{d:D}{ds:List D}{env:Env}(h:ev (envOf n ds) = .rt false d env):b8 n ev ds=some d:=by unfold b8;rw[h]
theorem evAnd_t{a b:Ev}{env e:Env}(h:a env = .ok (.bl true) e):evAnd a b env=b e:=by unfold evAnd;rw[h];rfl
theorem evOrT_t{a b:EvT}{env e:Env}(h:a env = .ok true e):evOrT a b env = .ok true e:=by unfold evOrT;rw[h];rfl
theorem evOrT_f{a b:EvT}{env e:Env}(h:a env = .ok false e):evOrT a b env=b e:=by unfold evOrT;rw[h];rfl
theorem evNotT_eq{a:EvT}{env e:Env}{b:Bool}(h:a env = .ok b e):evNotT a env = .ok (!b) e:=by unfold evNotT;rw[h];rfl
theorem lcO_map{g:GV}{e:Ev}(P:Env->Prop)(f:D->D):∀(ds:List D) (env:Env),P env->(∀d∈ds,∀env,P env->∃e1 e2,g d env=some e1/\e e1 = .ok (f d) e2/\P e2)->∃env',lcO g cA e ds env = .ok (ds.map f) env'/\P env'
 | [],env,hp,_=>⟨env,rfl,hp⟩
 | d::ds,env,hp,h=>by
  obtain⟨e1,e2,h1,h2,h3⟩:=h d (Qqz ..) env hp;obtain⟨e3,h4,h5⟩:=lcO_map P f ds e2 h3 λd' hd=>h d' (Qqj _ hd);refine⟨e3,?_,h5⟩;unfold lcO;rw[h1];show bindR (e e1) _=_;rw[h2];show bindR (lcO g cA e ds e2) _=_;rw[h4]
  rfl
theorem evLC_eq{lo n:Nat}{it:EvA}{g:GV}{c:EvT}{e:Ev}{env aO bZ:Env}{ds ys:List D}(h1:it env = .ok ds aO)(hl:aO.length=lo)(h2:lcO g c e ds (aO++List.replicate (n - lo) none) = .ok ys bZ)(hz:ys.length<=sizeLine):evLC lo n it g c e env = .ok (.lst ys) (bZ.take lo):=by unfold evLC;rw[h1];show(if aO.length=lo then _ else _)=_;rw[if_pos hl,h2];show(if ys.length<=sizeLine then _ else _)=_;rw[if_pos hz]
theorem dig(n:Int)(m:Nat)(hm:0<m):∃d:Nat,d<m/\n % (m:Int)=(d:Int):=by have h1:0<=n % (m:Int):=Int.emod_nonneg n (by omega);have h2:n % (m:Int)<m:=Int.emod_lt_of_pos n (by omega);exact⟨(n % (m:Int)).toNat,by omega,by omega⟩
theorem atI_lt{α:Type}{xs:List α}{d:Nat}(h:d<xs.length):atI xs (d:Int)=some xs[d]:=atI_nat (Qzz h)
def okN:Nat->D->Bool
 | 0,_=>false
 | n+1,.tup xs=>xs.all (okN n)
 | n+1,.lst xs=>xs.all (okN n)
 | _+1,.dct _=>false
 | _+1,.dcn _=>false
 | _+1,.clo _ _=>false
 | _+1,.arr _=>false
 | _+1,_=>true
theorem eqL_self{f:D->D->Option Bool}:∀(xs:List D),(∀x∈xs,f x x=some true)->eqL f xs xs=some true
 | [],_=>rfl
 | x::r,h=>by
  unfold eqL;rw[h x (Qqz ..),eqL_self r λy hy=>h y (Qqj _ hy)]
  rfl
theorem eqN_self:∀(n:Nat) (d:D),okN n d=true->bI n d d=some true
 | 0,_,h=>by cases h
 | n+1,d,h=>by
  cases d with
  | tup xs=>exact eqL_self xs λx hx=>eqN_self n x (Qq5.mp h x hx)
  | lst xs=>exact eqL_self xs λx hx=>eqN_self n x (Qq5.mp h x hx)
  | dct _=>cases h
  | dcn _=>cases h
  | clo _ _=>cases h
  | arr _=>cases h
  | non=>rfl
  | bl b=>show some (b == b)=_;simp
  | int i=>show some (i == i)=_;simp
  | str x=>show some (x == x)=_;simp
end Ev
namespace L2
open PySem PySem.Spec PyProof.Rows
section
variable{X:Cx}{pins:List (Addr×Obj)}{σ:St}{H:Hp}{s:Shared}{h':Heap}
theorem Inv.drawn{t':Nat}{ch:List Addr}{T:Addr}{o:HO}(I:Inv X pins σ H s)(hch:∀b∈ch,FpOk X pins H b)(k:∀b u,b ∉ ch->s.heap.get? b=some u->h'.get? b=some u)(hT:s.heap.objs.size<=T)
  (new:ObjOk X.prog X.w (upd H T o) h' T o):Inv X pins σ (upd H T o) { s with heap:=h',toks:=t' }:=by
 have nT:H T=none:=I.hok.fresh hT;have nit:∀b u,H b=some u->b ∉ ch:=λb u e z=>by rw[(hch b z).1] at e;cases e
 have up:∀b u,H b=some u->upd H T o b=some u:=λb u e=>by rw[bY (ne_of_none e nT)];exact e
 refine I.step (g':=s.gens) (d':=s.drawn) (ch:=ch) (λb hb=>?_) (λb u _ _ hc e _=>k b u hc e) (λb u _ _ hc e _=>⟨u.slots,k b u hc e⟩) (λb u hc e n=>?_)
  (λb u hc e=>⟨u,k b u hc e⟩) (λb xs e=>up b _ e) (λb u v e=>up b _ e) (λb ps e=>⟨#[],by rw[up b _ e];simp⟩) (λm hm=>?_) (λb u e=>?_) I.bare (λb qs e=>up b _ e)
 ·obtain⟨h0,h1,h2,h3,h4,h5⟩:=hch b hb;exact⟨h3,h1,h4,h5⟩
 ·have hb:b≠T:=λz=>by
   subst z;exact absurd (Qwj e) (Nat.not_lt.mpr hT)
  rw[bY hb];exact n
 ·obtain⟨u,es,ep,ho,r⟩:=hm;have hL:X.env.locals ∉ ch:=λz=>(hch _ z).2.1 rfl;exact⟨u,es,ep,k _ u hL ho,r⟩
 ·by_cases hb:b=T
  ·subst hb;rw[bJ] at e;cases e;exact new
  ·rw[bY hb] at e;refine(I.hok b u e).stay (λc v hc q=>k c v ?_ q) (λc q=>up _ _ q) (λc xs q=>up _ _ q) λc _ _ _ _ q=>up _ _ q;rcases hc with z|z
   ·rw[z];exact nit b u e
   ·exact nit c _ z
theorem Inv.turnedL{t':Nat}{ch:List Addr}(I:Inv X pins σ H s)(hch:∀b∈ch,FpOk X pins H b)(k:∀b u,b ∉ ch->s.heap.get? b=some u->h'.get? b=some u):Inv X pins σ H { s with heap:=h',toks:=t' }:=by
 have nit:∀b u,H b=some u->b ∉ ch:=λb u e z=>by rw[(hch b z).1] at e;cases e
 refine I.step (g':=s.gens) (d':=s.drawn) (ch:=ch) (λb hb=>?_) (λb u _ _ hc e _=>k b u hc e) (λb u _ _ hc e _=>⟨u.slots,k b u hc e⟩) (λb u hc e n=>n)
  (λb u hc e=>⟨u,k b u hc e⟩) (λb xs e=>e) (λb u v e=>e) (λb ps e=>⟨#[],by rw[e];simp⟩) (λm hm=>?_) (λb u e=>?_) I.bare
 ·obtain⟨h0,h1,h2,h3,h4,h5⟩:=hch b hb;exact⟨h3,h1,h4,h5⟩
 ·obtain⟨u,es,ep,ho,r⟩:=hm;have hL:X.env.locals ∉ ch:=λz=>(hch _ z).2.1 rfl;exact⟨u,es,ep,k _ u hL ho,r⟩
 ·refine(I.hok b u e).stay (λc v hc q=>k c v ?_ q) (λ_ q=>q) λ_ _ q=>q;rcases hc with z|z
  ·rw[z];exact nit b u e
  ·exact nit c _ z
end
def Ite(z:Str):It:=⟨λi _=>i<z.cps.size,λi H x H'=>∃p c,z.cps[i]? = some c/\H p=none/\H'=upd H p (.tup [.int i,.str ⟨#[c]⟩])/\x = .ref p,λi _=>i=z.cps.size⟩
theorem turn_enum{P:Program}{w:World}{K:PySem.W.Frag}{elts:List Expr}{k:Nat}{pos:Pos}(e it:Addr)(z:Str)(t:Tok)(ty:String)(hei:e≠it)
  (D:∀A:Around,A.handled=none->Draws P w A it [it] z.cps.size (λi v=>∃c u,z.cps[i]? = some c/\v = .str ⟨#[c]⟩ u) (λi h=>h.IsStrIter it ty z t i)) :
  Turn P w K (.Tuple elts k pos) (Ite z) [e,it] e (λi h=>(∃old,IsEnum h e it i old)/\h.IsStrIter it ty z t i) where
 mem:=by simp
 obj:=λi h st b hb=>by
  obtain⟨⟨old,he⟩,o,ho,hc,hd⟩:=st;rcases Qq3.mp hb with rfl|hb
  ·exact⟨_,he,λv z=>by cases z⟩
  ·rw[Qq2.mp hb];exact⟨o,ho,λv z=>by rw[hd] at z;cases z⟩
 keep:=λi h h' st kk=>by
  obtain⟨⟨old,he⟩,o,ho,r⟩:=st;exact⟨⟨old,kk e (by simp) _ he⟩,o,kk it (by simp) o ho,r⟩
 item:=by
  intro X hP hw hK hc i pins s σ H E I hf st hg;subst hP hw hK;obtain⟨⟨old,he⟩,hit⟩:=st;refine wpAny_pyNext_enum_itemD (A:=X.A) (D X.A.in1 (I.ok.hd hc)) he hit hg hei (by simp[hei]) λx h' tk hv ho hSt hTup hsz hk=>?_;obtain⟨c,u,hcz,rfl⟩:=hv;have hT:s.heap.objs.size<=s.heap.objs.size:=Qq0 _;have helt:e<s.heap.objs.size:=Qwj he;have hilt:it<s.heap.objs.size:=by obtain⟨_,x,_⟩:=hit;exact Qwj x
  have nT:H s.heap.objs.size=none:=I.hok.fresh hT;refine⟨_,rfl,?_⟩;refine wpAny_letOwnedTupleGo_enum (s:={ s with heap:=h',toks:=tk+1 }) ho λh'' he'' hs''=>?_;have keep2:∀b o,b≠e->h'.get? b=some o->h''.get? b=some o:=λb o hb q=>(hs''.2 b hb).trans q;have hnT:s.heap.objs.size ∉ [e,it]:=λhb=>by
   rcases Qq3.mp hb with z|hb
   ·exact Qz5 helt z
   ·exact Qz5 hilt (Qq2.mp hb)
  refine⟨.ref s.heap.objs.size,upd H s.heap.objs.size (.tup [.int i,.str ⟨#[c]⟩]),I.drawn (t':=tk+1) (ch:=[e,it]) hf (λb o hb q=>keep2 b o (λz=>hb (by simp[z])) (hk b o (λz=>hb (by simp[z])) (λz=>hb (by simp[z])) q)) hT ?_,rfl,⟨_,c,hcz,nT,rfl,rfl⟩,⟨⟨_,by simpa using he''⟩,?_⟩,λb hb=>?_⟩
  ·exact⟨by show 2<=sizeLine;decide,[.int i tk,.str ⟨#[c]⟩ u],.cons ⟨_,rfl⟩ (.cons ⟨_,rfl⟩ .nil),_,keep2 _ _ (Qz5 helt) hTup,rfl,⟨_,rfl⟩,rfl⟩
  ·obtain⟨o,q,r⟩:=hSt;exact⟨o,keep2 it o hei.symm q,r⟩
  ·have hne:b≠s.heap.objs.size:=λz=>by
    subst z;exact hnT hb
   rw[bY hne];exact(hf b hb).1
 done:=by intro X hP hw hK hc i pins s σ H E I hf st hg;subst hP hw hK;have W:=WalksT.enumerateD (A:=X.A) (D X.A.in1 (I.ok.hd hc)) e hei (by simp[hei]) (by simp);have hg':i=z.cps.size:=hg;subst hg';exact W.done s _ _ st λh' tk hk=>⟨rfl,I.turnedL (t':=tk) (ch:=[e,it]) hf λb o hb e=>hk b o hb e⟩
 self:=λA i s Q E st h=>by
  obtain⟨⟨old,he⟩,_⟩:=st;exact wpAny_pyIter_enum he h
section
variable{X:Cx}{tg:Expr}
def iEnum(ta:TA):TI:=λσ H R=>ta σ H λvs H1=>∃z,vs=[.str z]/\R (Ite z) H1
theorem pi_enum{elts:List Expr}{k:Nat}{tp:Pos}{a:Expr}{ta:TA}{p pos:Pos}(hg:Gl X "enumerate")(hm:X.mg "enumerate" = none)(ha:PA X [a] ta)(hs:starEach [a] X.env=[(false,eval a X.env)]:=by rfl):PI X (.Tuple elts k tp) (.Call (.Name "enumerate" p) [a] [] pos) (iEnum ta):=by
 intro pins s σ H R I h;refine Call_ (ld_blt I hg hm PyProof.Rows.boot_enumerate (Qx5 (thn (ha pos pins s σ H _ I h) λus s1 ⟨vs,H1,I1,r1,q1⟩=>?_) hs rfl));obtain⟨z,e,q⟩:=q1;subst e;cases r1 with
 | cons r rr=>
  cases rr;obtain⟨t,rfl⟩:=r;refine call_enumerate_str λh' he hit hsz hk=>?_;refine wpAny_pyIter_enum he ?_;have I2:Inv X pins σ H1 { s1 with heap:=h' }:=I1.kept (t':=s1.toks) hk;have own:∀b ∈ [s1.heap.objs.size+1,s1.heap.objs.size],FpOk X pins H1 b:=λb hb=>by
   rcases Qq3.mp hb with rfl|hb
   ·exact I1.fpOk (Nat.le_succ _) (I1.hok.fresh (Nat.le_succ _))
   ·rw[Qq2.mp hb];exact I1.fpOk (Qq0 _) (I1.hok.fresh (Qq0 _))
  cases hz:z.cps.all (·< 128)
  ·have hit':h'.IsStrIter s1.heap.objs.size "str_iterator" z t 0:=by simpa[strIterType,hz] using hit
   exact⟨s1.heap.objs.size+1,[s1.heap.objs.size+1,s1.heap.objs.size],_,_,H1,rfl,I2,turn_enum _ _ z t "str_iterator" (Nat.succ_ne_self _) (λA hA=>Draws.strWide hA _ z t),⟨⟨_,he⟩,hit'⟩,own,q⟩
  ·have hit':h'.IsStrIter s1.heap.objs.size "str_ascii_iterator" z t 0:=by simpa[strIterType,hz] using hit
   exact⟨s1.heap.objs.size+1,[s1.heap.objs.size+1,s1.heap.objs.size],_,_,H1,rfl,I2,turn_enum _ _ z t "str_ascii_iterator" (Nat.succ_ne_self _) (λA hA=>Draws.strAscii hA _ z t),⟨⟨_,he⟩,hit'⟩,own,q⟩
end
end L2
namespace Ev
open PySem PySem.Spec PyProof.Rows L2 PySem.Builtin
def placeX(z:List Nat):List (List Nat)->Option Nat
 | []=>none
 | y::r=>if y=z then some 0 else (placeX z r).map (·+ 1)
theorem placeX_ok{z:List Nat}:∀{ys:List (List Nat)} {j:Nat},placeX z ys=some j->∃hj:j<ys.length,ys[j]=z/\∀m (hm:m<ys.length),m<j->ys[m]≠z
 | [],j,h=>by cases h
 | y::r,j,h=>by
  unfold placeX at h;split at h
  ·rename_i e;cases h;exact⟨by simp,e,λm _ hm=>absurd hm (Nat.not_lt_zero _)⟩
  ·rename_i e;obtain⟨i,hi,rfl⟩:=Qq9.mp h;obtain⟨h1,h2,h3⟩:=placeX_ok hi;refine⟨by simpa using h1,by simpa using h2,λm hm hmi=>?_⟩;cases m with
   | zero=>simpa using e
   | succ m=>simpa using h3 m (by simpa using hm) (by omega)
end Ev
namespace L2
open PySem PySem.Spec PyProof.Rows PySem.Builtin PySem.Builtin.Str
section
variable{X:Cx}{pins:List (Addr×Obj)}{σ:St}{H:Hp}{s:Shared}{a:Addr}{xs:List V}
theorem Inv.tupleD(I:Inv X pins σ H s)(h:SqT X.K H a xs):∃its:List Value,Vals xs its/\TupD s.heap a its.toArray:=by
 rcases h with h|⟨o,its,n,hk,hc,hdn,hs,hz,r⟩
 ·obtain⟨z,its,r,p⟩:=h.ok I.hok;exact⟨its,r,p⟩
 ·exact⟨its.toList,r,⟨o,I.kIn a o hk,hc,⟨n,by simpa using hs⟩,hdn⟩⟩
end
section
variable{X:Cx}{o e:Expr}{to te:TE}{name:Str}{apos cpos:Pos}{id:String}{r:V->List V->Hp->VK->Prop}{t:TA}
def tRev(te ts:TE):TE:=λσ H Q=>te σ H λx H1=>ts σ H1 λy H2=>∃z,x = .str z/\z.length<=sizeLine/\y = .int (-1)/\Q (.str ⟨z.cps.toList.reverse.toArray⟩) H2
theorem rev_picked(z:Str)(u:Tok):(⟨((slicePicked z none none (some (-1,u))).filterMap (z.cps[·]?)).toArray⟩:Str)=⟨z.cps.toList.reverse.toArray⟩:=by
 have h:=PyProof.Rows.step_rev_list z u;unfold Txt.sliceBy at h;have h1:¬(((((some ((-1:Int),u)).map (·.1)).getD 1 == 1)&&((slicePicked z none none (some (-1,u))).length == z.length))=true):=by have:((((some ((-1:Int),u)).map (·.1)).getD 1 == 1))=false:=rfl;rw[this];simp
 rw[if_neg h1] at h;have h2:((slicePicked z none none (some (-1,u))).filterMap (z.cps[·]?))=z.cps.toList.reverse:=by
  have h3:((slicePicked z none none (some (-1,u))).filterMap (z.cps[·]?))=(List.range z.length).map λk=>z.cps.getD (z.length - 1 - k) 0:=by simpa using h
  rw[h3];apply List.ext_getElem
  ·simp[Str.length]
  ·intro i h4 h5;have hi:i<z.cps.size:=by simpa[Str.length] using h4
   simp[Str.length,Array.getD,List.getElem_reverse];rw[dif_pos (by omega)]
 rw[h2]
theorem pe_rev{st:Expr}{ts:TE}{p2 pos:Pos}(he:PE X e te)(hst:PE X st ts):PE X (.Subscript e (.Slice none none (some st) p2) pos) (tRev te ts):=by
 intro pins s σ H Q I h;refine Subscript_ (thn (he pins s σ H _ I h) λv s1 ⟨x,H1,I1,r1,q1⟩=>?_);refine wpAny_Slice ?_;rw[evalPart_none,evalPart_some];refine Qq6 (Qq6 (thn (hst pins s1 σ H1 _ I1 q1) λw s2 ⟨y,H2,I2,r2,q2⟩=>?_));obtain⟨z,ex,hz,ey,q⟩:=q2;subst ex;subst ey;obtain⟨t,rfl⟩:=r1;obtain⟨t',rfl⟩:=r2;have I4:Inv X pins σ H2 { s2 with heap:=s2.heap.push { cls:=.type "slice",data:=.fields #[.none,.none,.int (-1) t'] } }:=I2.kept (t':=s2.toks) λb ob q=>Qqw _ q;show wpAny (model X.prog X.w) X.A (subscriptTail e (.Slice none none (some st) p2) (.str z t) (.ref s2.heap.objs.size)) (EP X pins σ Q) X.xe { s2 with heap:=s2.heap.push { cls:=.type "slice",data:=.fields #[.none,.none,.int (-1) t'] } };refine tail_any (ops:=[.ref s2.heap.objs.size,.str z t]) (typeIs_str _ z t) PySem.F.slot_str_getitem.lookup ?_ (by with_unfolding_all rfl);refine wpAny_getItem_str_slice (l:=none) (u:=none) (st:=some (-1,t')) ⟨_,Qwv _ rfl,rfl,rfl⟩ rfl ?_;unfold sliceMade;have h1:¬(((((some ((-1:Int),t')).map (·.1)).getD 1 == 1)&&((slicePicked z none none (some (-1,t'))).length == z.length))=true):=by have:((((some ((-1:Int),t')).map (·.1)).getD 1 == 1))=false:=rfl;rw[this];simp
 rw[if_neg h1,rev_picked];refine⟨?_,⟨.str ⟨z.cps.toList.reverse.toArray⟩,H2,I4.tok _,⟨_,rfl⟩,q⟩⟩;show z.cps.toList.reverse.toArray.size<=sizeLine
 simpa[Str.length] using hz
end
end L2
namespace Ev
open PySem PySem.Spec PyProof.Rows L2 PySem.Builtin
section
variable{X:Cx}{C:Cfg}{pos:Pos}{e x y:Expr}{a b:Ev}
def gNeg:D->Option D
 | .int i=>some (.int (-i))
 | _=>none
theorem ud_neg:UnD C (rU λi=>.int (-i)) gNeg:=by
 intro Pr F env σ H x d vx Q r px e q;cases x with
 | int i=>cases e;exact⟨i,px.int,q _ H F r (bu.refl F) rfl⟩
 | _=>cases e
def gRev:D->Option D
 | .str z=>some (.str z.reverse)
 | _=>none
def evRev(a:Ev):Ev:=λenv=>bindR (a env) λd aO=>liftR (gRev d) aO
def enumD(x:List Nat):List D:=x.zipIdx.map λp=>.tup [.int (p.2:Nat),.str [p.1]]
def evEnum(a:EvA):EvA:=λenv=>bindR (a env) λds aO=>match ds with
 | [.str x]=>.ok (enumD x) aO
 | _=>.stuck
end
theorem keys_none{prog:Program}{w:World}{A:Around}{E:Value->Shared->Prop}{s:Shared}{a:Addr}{o:Obj}{xs:Array Value}{k:Nat}{Q:Option Value->Shared->Prop}
  (hx:s.heap.get? a=some o) (hc:o.cls = .type "tuple") (hdat:o.data = .seq xs k) (hd:o.dict=none) (hA:A.handled=none)
  (h:∀h' tk,(∀b u,s.heap.get? b=some u->h'.get? b=some u)->Q none { s with heap:=h',toks:=tk }):wpAny (model prog w) A (getAttr? (.ref a) "keys") Q E s:=by
 obtain⟨hp,g,d,tk,os⟩:=s;obtain⟨oc,od,dt,sl⟩:=o;cases hc;cases hdat;cases hd;have hT:∀tk',(⟨hp,g,d,tk',os⟩:Shared).TypeIs (.ref a) "tuple":=λ_=>⟨_,hx,rfl⟩;have f1:=sub_AttributeError;have f3:=F.slot_tuple_getattribute.lookup;have f4:=F.slot_tuple_getattribute.bind (.ref a);have f5:=am_tuple_getattr_none;have hmiss:typeLookup (.type "tuple") "keys" = pure none:=by rw[typeLookup_type,builtinLookup_eq_fast];kernel_rfl
 unfold getAttr? getAttrBy? getAttrBy
 repeat (any_goals (first|assumption|exact hT _|((with_reducible show wpAny _ _ (call (Value.builtin "tuple.__getattribute__") _ _) _ _ _);refine call_meets F.slot_tuple_getattribute (hT _) am_entry_tuple_getattribute (F.args_tuple_getattribute_2 _ _) (meets_getattribute_miss_tuple a xs k sl "keys" _ hmiss (by decide +kernel) (by decide +kernel)) ⟨hx,hA,λh' tk' e hx'=>?_⟩)|wp_step))
 obtain⟨t',u',he⟩:=hx'.there;show wpAny _ _ (getattributeRaised _ _ _ _ _ _ _) _ _ _;unfold getattributeRaised
 repeat (any_goals (first|assumption|wp_step))
 exact h _ _ hx'.keeps
structure Pr where
 p:Addr
 k:Key
 kv:Value
 v:Value
def PrOk(h:Heap)(r:Pr):Prop:=h.IsTuple r.p #[r.kv,r.v]/\keyIs r.k r.kv=true
theorem PrOk.keep{h h':Heap}{r:Pr}{c d:Addr}(x:PrOk h r)(n1:r.p≠c)(n2:r.p≠d)(k:∀b o,b≠c->b≠d->h.get? b=some o->h'.get? b=some o):PrOk h' r:=
 let ⟨⟨o,ho,q⟩,y⟩:=x;⟨⟨o,k _ o n1 n2 ho,q⟩,y⟩
def putAll(kvs:List (Key×Value))(rs:List Pr):List (Key×Value):=rs.foldl (λacc r=>stored acc r.k r.v) kvs
theorem plain_upd_loop:plainId "dict.update.loop" = true:=by decide +kernel
theorem entry_upd_loop:entryFor table "dict.update.loop" = some Builtin.«dict.update.loop»:=entryFor_of_tree (by kernel_rfl)
theorem upd_loop{prog:Program}{w:World}{d it a:Addr}{its:List Value}(hdi:d≠it)(hda:d≠a)(hia:it≠a):∀(rs:List Pr) (i:Nat) (kvs:List (Key×Value)) (A:Around) (R:Result->Shared->Prop) (s:Shared),
  A.handled=none->its.drop i=rs.map (λr=>Value.ref r.p)->s.heap.IsTuple a its.toArray->s.heap.IsTupleIter it a i->s.heap.DictOf (mixKind prog w) d kvs->(∀r∈rs,PrOk s.heap r/\r.p≠d/\r.p≠it)->kvs.length+rs.length<=sizeLine->
  (∀h' tk,h'.DictOf (mixKind prog w) d (putAll kvs rs)->(∀b o,b≠d->b≠it->s.heap.get? b=some o->h'.get? b=some o)->R (.ok (.ret .none)) { s with heap:=h',toks:=tk })->
  wpAny (model prog w) A.in1 (Builtin.«dict.update.loop» ⟨[.ref d,.ref it,rawInt i,.none],[]⟩) (λfin s'=>match fin with|.done f=>R (.ok f) s'|.again c'=>c'.quiet=true/\codeAny (model prog w) A c' R s') (λe s'=>R (.error e) s') s
 | [],i,kvs,A,R,s,hh,hdr,ht,hit,hD,_,_,h=>by
  unfold Builtin.«dict.update.loop»;have hx:its.toArray[i]? = none:=by
   have:its.length<=i:=by have:=Qzq List.length hdr;rw[Qx6] at this;simp at this;omega
   simp;omega
  refine Qqv (wpAny_pyNext_tuple_end hh hit ht hx λh' hex=>?_);show wpAny _ _ (Builtin.Dict.addKeywords d [] >>= _) _ _ _;refine Qqv (Qq6 (Qq6 ?_));exact h h' s.toks (hD.extBut hex hdi) λb o _ h2 e=>hex b o h2 e
 | r::rs,i,kvs,A,R,s,hh,hdr,ht,hit,hD,hrs,hz,h=>by
  unfold Builtin.«dict.update.loop»;obtain⟨⟨hpt,hkey⟩,n1,n2⟩:=hrs r (Qqz ..);have hlt:i<its.length:=by have:=Qzq List.length hdr;rw[Qx6,Qwz,Qqk] at this;omega
  have hx0:its[i]? = some (.ref r.p):=by
   have:=Qzq (λl=>l[0]?) hdr
   simpa using this
  have hx:its.toArray[i]? = some (.ref r.p):=by simpa using hx0
  have hdr':its.drop (i+1)=rs.map (λr=>Value.ref r.p):=by
   have:=Qzq List.tail hdr;rw[List.tail_drop] at this
   simpa using this
  refine Qqv (wpAny_pyNext_tuple_item hit ht hx λh' hit' hs'=>?_);have k1:∀b o,b≠it->s.heap.get? b=some o->h'.get? b=some o:=λb o hb e=>(hs'.2 b hb).trans e;obtain⟨op,hop,hcp,np,hdp⟩:=hpt;have hop':h'.get? r.p=some op:=k1 _ _ n2 hop;dsimp only;refine Qqv (Qz9 (Qqv (wpAny_tryCatch ?_)));unfold Builtin.Dict.pairItems;refine Qqv (wpAny_typeOf (T:="tuple") ⟨op,hop',hcp⟩ ?_);rw[if_pos (by decide)];unfold seqItems?;refine Qqv (Qqv (wpAny_load hop' ?_));rw[hdp];refine Qq6 (Qq6 ?_);show wpAny _ _ (holding [r.kv,r.v] (dictSet d r.kv r.v)) _ _ _;have hzk:kvs.length<=sizeLine:=by rw[Qqk] at hz;omega
  refine Qz9 (wpAny_dictSet_pairs (knd:=mixKind prog w) (kvs:=kvs) (k:=r.k) (hsz:=hzk) hkey (hD.sameBut hs' hdi) λh'' hD'' hs''=>?_);have k2:∀b o,b≠d->b≠it->s.heap.get? b=some o->h''.get? b=some o:=λb o hb1 hb2 e=>(hs''.2 b hb1).trans (k1 b o hb2 e);have hc:((i:Int)+1)=((i+1:Nat):Int):=by push_cast;rfl
  rw[hc];refine Qq6 ⟨plainId_quiet plain_upd_loop _,codeAny_builtin entry_upd_loop ?_⟩;rw[Around.under_plainId plain_upd_loop _];have hln:(stored kvs r.k r.v).length<=kvs.length+1:=by have:=stored_length_le kvs r.k r.v;exact this
  refine upd_loop hdi hda hia rs (i+1) (stored kvs r.k r.v) A R _ hh hdr' ?_ ?_ hD'' (λq hq=>?_) (by rw[Qqk] at hz;omega) λh3 tk hD3 k3=>?_
  ·obtain⟨o,ho,q⟩:=ht;exact⟨o,k2 a o hda.symm hia.symm ho,q⟩
  ·obtain⟨o,ho,q⟩:=hit';exact⟨o,(hs''.2 it hdi.symm).trans ho,q⟩
  ·obtain⟨p1,p2,p3⟩:=hrs q (Qqj _ hq);exact⟨p1.keep p2 p3 k2,p2,p3⟩
  ·exact h h3 tk hD3 λb o hb1 hb2 e=>k3 b o hb1 hb2 (k2 b o hb1 hb2 e)
section
variable{X:Cx}{C:Cfg}{pos:Pos}
abbrev Pv:=Addr×Key×V
def putAllV(kvs:List (Key×V))(rs:List Pv):List (Key×V):=rs.foldl (λacc r=>putK acc r.2.1 r.2.2) kvs
def rDict(K:Fg):List V->Hp->VK->Prop:=λxs H Q=>∃(a:Addr) (rs:List Pv),xs=[.ref a]/\SqT K H a (rs.map λr=>V.ref r.1)/\(∀r∈rs,SqT K H r.1 [kV r.2.1,r.2.2])/\rs.length<=sizeLine/\∀l,H l=none->Q (.ref l) (upd H l (.dK (putAllV [] rs)))
theorem pairs_of{pins:List (Addr×Obj)}{σ:L2.St}{H:Hp}{s:Shared}(I:L2.Inv X pins σ H s):∀(rs:List Pv) (us:List Value),Vals (rs.map λr=>V.ref r.1) us->(∀r∈rs,SqT X.K H r.1 [kV r.2.1,r.2.2])->∃ps:List Pr,us=ps.map (λr=>Value.ref r.p)/\(∀r∈ps,PrOk s.heap r)/\Paired (λ(r:Pv) (q:Pr)=>r.2.1=q.k/\RelV r.2.2 q.v) rs ps
 | [],us,h,_=>by cases h;exact⟨[],rfl,λr hr=>by simp at hr,.nil⟩
 | r::rs,us,h,hp=>by
  cases h with
  | cons h1 h2=>
   cases h1;obtain⟨ps,rfl,q1,q2⟩:=pairs_of I rs _ h2 λr' hr=>hp r' (Qqj _ hr);obtain⟨its,rv,ht,_⟩:=I.tuple (hp r (Qqz ..));obtain⟨u1,u2,rfl,r1,r2⟩:=rv.two;refine⟨⟨r.1,r.2.1,u1,u2⟩::ps,rfl,λq hq=>?_,.cons ⟨rfl,r2⟩ q2⟩;rcases Qq3.mp hq with rfl|hq
   ·exact⟨ht,kV_is (P:=X.prog) (w:=X.w) r1⟩
   ·exact q1 q hq
theorem putAll_kv:∀{rs:List Pv} {ps:List Pr} {kvs:List (Key×V)} {vs:List (Key×Value)},Paired (λ(r:Pv) (q:Pr)=>r.2.1=q.k/\RelV r.2.2 q.v) rs ps->KV kvs vs->KV (putAllV kvs rs) (putAll vs ps)
 | _,_,_,_,.nil,h=>h
 | _,_,kvs,vs,.cons (a:=r) (b:=q) ⟨h1,h2⟩ hr,h=>by
  show KV (putAllV (putK kvs r.2.1 r.2.2) _) (putAll (stored vs q.k q.v) _);refine putAll_kv hr ?_;rw[h1];exact h.put q.k h2
theorem putAllV_len:∀(rs:List Pv) (kvs:List (Key×V)),(putAllV kvs rs).length<=kvs.length+rs.length
 | [],kvs=>Qq0 _
 | r::rs,kvs=>by
  have h1:=putAllV_len rs (putK kvs r.2.1 r.2.2);have h2:=length_putK kvs r.2.1 r.2.2;show(putAllV (putK kvs r.2.1 r.2.2) rs).length<=_;rw[Qqk];omega
theorem call_dict(hc:X.calm=true):CallR X (.type "dict") (rDict X.K):=by
 intro pins s σ H xs us Q I r h;obtain⟨a,rs,rfl,hq,hp,hz,q⟩:=h;obtain⟨u,rfl,rx⟩:=vals1 r;cases rx;obtain⟨its,rv,ob,h1,h2,⟨n,h3⟩,h4⟩:=I.tupleD hq;obtain⟨ps,rfl,hps,hpr⟩:=pairs_of I rs its rv hp;have hA:=I.ok.hd hc;have hlt:a<s.heap.objs.size:=Qwj h1;refine callType_codes (Q₁:=λobj s₁=>obj = .ref s.heap.objs.size/\s₁ = { s with heap:=s.heap.push { cls:=.type "dict",data:=.dict #[] } }) F.kt_called_dict (F.kt_typeCall_dict_1 _) F.entry_dict_init (kt_code_dict_new _ ⟨rfl,rfl⟩) ?_;rintro obj s₁ ⟨rfl,rfl⟩;have hnew:(s.heap.push { cls:=.type "dict",data:=.dict #[] }).DictOf (mixKind X.prog X.w) s.heap.objs.size []:=Heap.DictOf.new s.heap;have k0:∀b o,s.heap.get? b=some o->(s.heap.push { cls:=.type "dict",data:=.dict #[] }).get? b=some o:=λb o e=>Qqw _ e;refine⟨hnew.typeIs,F.args_dict_init_2 _ _,?_⟩;unfold Builtin.«dict.__init__»;refine Qqv ?_;unfold Builtin.Dict.selfAndRest;refine Qqv (wpAny_notOrdered_dict hnew.typeIs ?_);show wpAny _ _ (pure (s.heap.objs.size,[Value.ref a])) _ _ _;refine Qq6 ?_;show wpAny _ _ (Builtin.Dict.updateFrom "dict.__init__" s.heap.objs.size (.ref a) [] .none) _ _ _;unfold Builtin.Dict.updateFrom;refine Qqv (wpAny_typeOf (T:="tuple") ⟨ob,k0 _ _ h1,h2⟩ ?_);rw[if_pos (by decide)];refine Qqv (keys_none (k0 _ _ h1) h2 h3 h4 hA λh' tk hk=>?_);simp only[Option.isNone_none,if_true];refine Qqv (wpAny_rule (Qqv ?_));have hT:h'.IsTuple a (ps.map λr=>Value.ref r.p).toArray:=⟨ob,hk _ _ (k0 _ _ h1),h2,n,h3⟩;refine wpAny_pyIter_tuple hT ?_;refine Qq6 ⟨plainId_quiet plain_upd_loop _,codeAny_builtin entry_upd_loop ?_⟩;rw[Around.under_plainId plain_upd_loop _];have hD0:h'.DictOf (mixKind X.prog X.w) s.heap.objs.size []:=hnew.keep hk;have hdlt:s.heap.objs.size<h'.objs.size:=by obtain⟨o,_,_,ho,_⟩:=hD0;exact Qwj ho
 have halt:a<h'.objs.size:=Qwj (hk _ _ (k0 _ _ h1));have hda:s.heap.objs.size≠a:=Qz5 hlt;refine upd_loop (Qw5 hdlt) hda (Qz5 halt) ps 0 [] X.A.in1 _ _ hA rfl ?_ ⟨_,Qwv _ rfl,rfl,rfl⟩ (hD0.push _) (λq hq=>?_) ?_ λh3 tk' hD3 k3=>?_
 ·obtain⟨o,ho,r⟩:=hT;exact⟨o,Qqw _ ho,r⟩
 ·obtain⟨⟨o,ho,r⟩,y⟩:=hps q hq;have hplt:q.p<s.heap.objs.size:=Qwj ho;refine⟨⟨⟨o,Qqw _ (hk _ _ (k0 _ _ ho)),r⟩,y⟩,Qw5 hplt,Qw5 (Nat.lt_trans hplt hdlt)⟩
 ·rw[<-Paired.length hpr]
  simpa using hz
 ·refine⟨rfl,?_⟩;have kk:∀b u,s.heap.get? b=some u->h3.get? b=some u:=λb u e=>by
   have hb:b<s.heap.objs.size:=Qwj e;exact k3 b u (Qw5 hb) (Qw5 (Nat.lt_trans hb hdlt)) (Qqw _ (hk _ _ (k0 _ _ e)))
  have hsys:(s.heap.objs.size == sysModules)=false:=by rw[Qxy];exact Qz5 I.big
  refine⟨.ref s.heap.objs.size,upd H s.heap.objs.size (.dK (putAllV [] rs)),I.laid (t':=tk') kk (Qq0 _) ⟨?_,hsys,_,putAll_kv hpr .nil,hD3⟩,rfl,q _ (I.hok.fresh (Qq0 _))⟩;have:=putAllV_len rs [];exact Qqy this (by simpa using hz)
def keyPair:D->Option (D×D)
 | .tup [k,v]=>(keyD k).map λ_=>(k,v)
 | _=>none
def pairsD:List D->Option (List (D×D))
 | []=>some []
 | d::ds=>match keyPair d,pairsD ds with
  | some p,some r=>some (p::r)
  | _,_=>none
def putAllD(kvs : List (D × D)) : List (D × D) → List (D × D)
  | [] => kvs
  | (k, v) :: r => (match keyD k with
    | some q => putAllD (putD kvs k q v) r
    | none => putAllD kvs r)
def gDict:List D->Option D
 | [.tup ds]=>(pairsD ds).map λps=>.dct (putAllD [] ps)
 | _=>none
theorem putAllD_len:∀(ps:List (D×D)) (kvs:List (D×D)),(putAllD kvs ps).length<=kvs.length+ps.length
 | [],kvs=>Qq0 _
 | (k,v)::r,kvs=>by
  unfold putAllD;split
  ·rename_i q hq;have h1:=putAllD_len r (putD kvs k q v);have h2:=putD_len kvs k q v;rw[Qqk];omega
  ·have h1:=putAllD_len r kvs;rw[Qqk];omega
theorem pairsD_len:∀{ds:List D} {ps:List (D×D)},pairsD ds=some ps->ps.length=ds.length
 | [],ps,h=>by cases h;rfl
 | d::ds,ps,h=>by
  unfold pairsD at h;split at h
  ·rename_i p r h1 h2;cases h;rw[Qqk,Qqk,pairsD_len h2]
  ·cases h
theorem pairs_rep{K:Fg}{F:Hp}:∀{ds:List D} {ps:List (D×D)} {vs:List V} {kvs:List (D×D)} {ks:List (Key×V)},pairsD ds=some ps->bU K F ds vs->RepKs K F kvs ks->
  ∃rs:List Pv,vs=rs.map (λr=>V.ref r.1)/\(∀r∈rs,SqT K F r.1 [kV r.2.1,r.2.2])/\RepKs K F (putAllD kvs ps) (putAllV ks rs)
 | [],ps,vs,kvs,ks,h,hr,hk=>by cases h;cases hr;exact⟨[],rfl,λr hr=>by simp at hr,hk⟩
 | d::ds,ps,vs,kvs,ks,h,hr,hk=>by
  unfold pairsD at h;split at h
  ·rename_i p r h1 h2;cases h;obtain⟨v,w,rfl,p1,p2⟩:=hr;unfold keyPair at h1;split at h1
   ·rename_i k x;obtain⟨q,hq,rfl⟩:=Qq9.mp h1;obtain⟨_,a,us,rfl,h3,h4⟩:=p1;obtain⟨u1,w1,rfl,q1,u2,w2,rfl,q2,q3⟩:=h4;cases q3;cases keyD_V hq q1;obtain⟨rs,rfl,g1,g2⟩:=pairs_rep (kvs:=putD kvs k q x) (ks:=putK ks q u2) h2 p2 (hk.put hq q2);refine⟨(a,q,u2)::rs,rfl,λr hr=>?_,?_⟩
    ·rcases Qq3.mp hr with rfl|hr
     ·exact h3
     ·exact g1 r hr
    ·unfold putAllD;rw[hq];exact g2
   ·cases h1
  ·cases h
theorem cd_dict:CallD C (rDict C.K) gDict:=by
 intro Pr F env σ H ds d vs Q r p e q;unfold gDict at e;split at e
 ·rename_i ds;obtain⟨v,w,rfl,p1,p2⟩:=p;cases p2;obtain⟨ps,e1,rfl⟩:=Qq9.mp e;obtain⟨z,a,us,rfl,h1,h1F,h2⟩:=p1.tup r.fr;obtain⟨rs,rfl,g1,g2⟩:=pairs_rep (kvs:=[]) (ks:=[]) e1 h2 rfl;have hl:rs.length=ds.length:=by
   have:=h2.length
   rwa [Qqx] at this
  refine⟨a,rs,rfl,h1,λr' hr=>bu.tupK r.fr (g1 r' hr),by rw[hl];exact z,λl hlf=>?_⟩;obtain⟨F2,r2,s2,p2⟩:=(r.fresh (o:=.dK (putAllV [] rs)) hlf).keep (New.of (d:=.dct (putAllD [] ps)) r hlf ⟨by
   have h5:=putAllD_len ps [];rw[pairsD_len e1] at h5;exact Qqy h5 (by simpa using z),_,bJ,g2⟩)
  exact q _ _ F2 r2 s2 p2
 ·cases e
end
end Ev
namespace L2
open PySem PySem.Spec PyProof.Rows PySem.Builtin PySem.Builtin.Str
section
variable{X:Cx}
def rInDct:R2:=λx y H Q=>∃a o,y = .ref a/\DGet H a x o/\Q (.bl o.isSome) H
theorem op_inDct(hu:X.A.units+1<cLine):OpR X (compareOp .In) rInDct:=by intro pins s σ H x y v u Q I rx ry h;obtain⟨a,o,rfl,g,q⟩:=h;cases ry;exact d_in hu I g rx λs' I'=>⟨.bl o.isSome,H,I',rfl,q⟩
theorem clip_str(v:Int)(n d:Nat):max 0 (min (if v<0 then v+(n:Int) else v) (n:Int))=((HT.sIx n d (some v):Nat):Int):=by
 show _=(((if v<0 then (v+(n:Int)).toNat else min v.toNat n):Nat):Int);by_cases hv:v<0
 ·simp only[if_pos hv];omega
 ·simp only[if_neg hv];omega
theorem range_one(a b:Nat):sliceRange (a:Int) (b:Int) 1=List.range' a (b - a):=by
 unfold sliceRange;have h1:(1:Int) > 0:=by decide
 simp only[if_pos h1];have hc:(if (a:Int)<(b:Int) then ((b:Int) - (a:Int)+1 - 1) / 1 else 0).toNat=b - a:=by
  by_cases h:(a:Int)<(b:Int)
  ·rw[if_pos h,Int.ediv_one];omega
  ·rw[if_neg h];omega
 rw[hc,List.range'_eq_map_range];apply Qjk;intro k _;omega
theorem pick_str(lo hi:Option Int)(n:Nat):strSliceIndices lo hi 1 n=List.range' (HT.sIx n 0 lo) (HT.sIx n n hi - HT.sIx n 0 lo):=by
 have h1:(1:Int) > 0:=by decide
 unfold strSliceIndices;simp only[if_pos h1];rw[<-range_one]
 congr 1
 ·cases lo with
  | none=>rfl
  | some v=>exact clip_str v n 0
 ·cases hi with
  | none=>rfl
  | some v=>exact clip_str v n n
theorem fm_range(c:List Nat):∀(m a:Nat),a+m<=c.length->(List.range' a m).filterMap (c.toArray[·]?)=(c.drop a).take m
 | 0,a,_=>by simp
 | m+1,a,h=>by
  rw[List.range'_succ,List.filterMap_cons];have e:c.toArray[a]? = some c[a]:=by simp
  rw[e,fm_range c m (a+1) (by omega),List.drop_eq_getElem_cons (l:=c) (i:=a) (by omega),List.take_succ_cons]
def cutN(z:List Nat)(lo hi:Option Int):List Nat:=(z.drop (HT.sIx z.length 0 lo)).take (HT.sIx z.length z.length hi - HT.sIx z.length 0 lo)
def rSlS:V->Option Int->Option Int->Hp->VK->Prop:=λx lo hi H Q=>∃z:List Nat,x = .str ⟨z.toArray⟩/\z.length<=sizeLine/\Q (.str ⟨(cutN z lo hi).toArray⟩) H
theorem part_of{v:Value}{o:Option Int}(p:IsPart v o):∃l:Option (Int×Tok),v=partValue l/\l.map (·.1)=o:=by
 cases p with
 | none=>exact⟨none,rfl,rfl⟩
 | int i t=>exact⟨some (i,t),rfl,rfl⟩
theorem sl_str:SlR X rSlS:=by
 intro pins s σ H x v vl vu lo hi sl Q I rx hs pl pu h;obtain⟨z,rfl,hz,q⟩:=h;obtain⟨t,rfl⟩:=rx;obtain⟨l,rfl,el⟩:=part_of pl;obtain⟨u,rfl,eu⟩:=part_of pu;refine⟨"str",_,PySem.F.slot_str_getitem.lookup,typeIs_str s _ t,?_⟩;obtain⟨o,h1,h2,h3⟩:=hs;refine wpAny_getItem_str_slice (l:=l) (u:=u) (st:=none) ⟨o,h1,h2,h3⟩ rfl ?_;have hp:slicePicked ⟨z.toArray⟩ l u none=List.range' (HT.sIx z.length 0 lo) (HT.sIx z.length z.length hi - HT.sIx z.length 0 lo):=by unfold slicePicked;rw[el,eu];show strSliceIndices lo hi 1 z.toArray.size=_;rw[Qq1,pick_str]
 have hle:HT.sIx z.length 0 lo+(HT.sIx z.length z.length hi - HT.sIx z.length 0 lo)<=z.length\/HT.sIx z.length z.length hi - HT.sIx z.length 0 lo=0:=by have a1:=HT.sIx_le z.length 0 (Qx3 _) lo;have a2:=HT.sIx_le z.length z.length (Qq0 _) hi;omega
 have hcut:((slicePicked ⟨z.toArray⟩ l u none).filterMap ((⟨z.toArray⟩:Str).cps[·]?))=cutN z lo hi:=by
  rw[hp];unfold cutN;rcases hle with hle|hle
  ·exact fm_range z _ _ hle
  ·rw[hle];simp
 unfold sliceMade;split
 ·rename_i hc;have hlen:(slicePicked ⟨z.toArray⟩ l u none).length=z.length:=by
   have:=(Qzv.mp hc).2;have:=eq_of_beq this
   simpa[Str.length] using this
  have hw:cutN z lo hi=z:=by
   rw[hp,List.length_range'] at hlen;unfold cutN;have a2:=HT.sIx_le z.length z.length (Qq0 _) hi;have a0:HT.sIx z.length 0 lo=0\/z.length=0:=by omega
   rcases a0 with a0|a0
   ·rw[a0,List.drop_zero,List.take_of_length_le (by omega)]
   ·have:z=[]:=Qzx a0;subst this;simp
  rw[hw] at q;exact⟨.str ⟨z.toArray⟩,H,I,⟨t,rfl⟩,q⟩
 ·rw[hcut];refine⟨?_,⟨.str ⟨(cutN z lo hi).toArray⟩,H,I.tok _,⟨_,rfl⟩,q⟩⟩;show(cutN z lo hi).toArray.size<=sizeLine;rw[Qq1];unfold cutN;rw[Qxx,Qx6];omega
end
end L2
namespace Ev
open PySem PySem.Spec PyProof.Rows L2 PySem.Builtin
section
variable{X:Cx}{C:Cfg}{pos:Pos}{x y:Expr}{a b:Ev}
def gInDct(k y:D):Option D:=match y with
 | .dct kvs=>(keyD k).map λq=>.bl (valD kvs q).isSome
 | _=>none
theorem od_inDct:OpD C rInDct gInDct:=by
 intro Pr F env σ H x y d vx vy Q r px py e q;cases y with
 | dct kvs=>
  obtain⟨k,hk,rfl⟩:=Qq9.mp (show(keyD x).map (λq=>D.bl (valD kvs q).isSome)=some d from e);obtain⟨z,p,ks,rfl,h1,h2⟩:=py.dct r.fr;cases keyD_B hk px;refine⟨p,valV ks k,rfl,.inl ⟨ks,k,h1,rfl,rfl⟩,?_⟩;have e2:(valV ks k).isSome=(valD kvs k).isSome:=by rcases h2.val k with ⟨g1,g2⟩|⟨d',v',g1,g2,_⟩<;>rw[g1,g2]<;>rfl
  rw[e2];exact q _ H F r (bu.refl F) rfl
 | _=>cases e
theorem c_inDct(G:Good X C):Cm X C .In gInDct:=⟨_,op_inDct G.u1,od_inDct⟩
def gSlS:D->Option Int->Option Int->Option D
 | .str z,lo,hi=>some (.str (cutN z lo hi))
 | _,_,_=>none
def evSlS(a:Ev)(lo hi:EvP):Ev:=λenv=>bindR (a env) λd aO=>bindR (lo aO) λl bZ=>bindR (hi bZ) λu env3=>liftR (gSlS d l u) env3
theorem cutN_len(z:List Nat)(lo hi:Option Int):(cutN z lo hi).length<=z.length:=by unfold cutN;rw[Qxx,Qx6];omega
end
end Ev
namespace HT
open PySem PySem.Spec PyProof PyProof.Rows PySem.Builtin
section
variable{prog:Program}{w:World}{A:Around}{E:Value->Shared->Prop}{s:Shared}
theorem getItem_tuple_whole{t sl:Addr}{items:Array Value}{vl vu:Value}{lo hi:Option Int}{Q:Value->Shared->Prop}(ht:IsTup s.heap t items)(hs:s.heap.IsSliceOf sl vl vu .none)(pl:IsPart vl lo)(pu:IsPart vu hi)
  (hw:sIx items.size 0 lo=0/\sIx items.size items.size hi=items.size)
  (h:Q (.ref t) s):wpAny (model prog w) A (getItem (.ref t) (.ref sl)) Q E s:=by
 obtain⟨os,hos,hcs,hds⟩:=id hs;have hTs:s.TypeIs (.ref sl) "slice":=⟨os,hos,hcs⟩;unfold getItem
 try with_reducible refine Qz9 ?_
 first|refine Qqv (Qq6 ?_)|skip
 refine Qqv (wpAny_sequenceKey ht.typeIs (by decide) ?_);refine Qqv (wpAny_callSpecial?_slot (name:=Str.ofString "__getitem__") ht.typeIs Qxw
  (wpAny_call_entry Qxw ht.typeIs entry_tuple_getitem ?_ (args_tuple_getitem _ _)))
 show wpAny _ _ (Builtin.Tuple.tupleItemsOf (.ref t) >>= _) _ _ s;refine Qqv (tupleItemsOf_ ht ?_);refine Qqv (wpAny_typeOf hTs ?_);rw[if_pos (by decide)];refine Qqv (sliceApplied_gen hs pl pu ?_);have hyes:(((sIx items.size 0 lo:Nat):Int) == 0&&(1:Int) == 1&&(sIx items.size items.size hi - sIx items.size 0 lo) == items.size)=true:=by rw[hw.1,hw.2];simp
 show wpAny _ _ (if (((sIx items.size 0 lo:Nat):Int) == 0&&(1:Int) == 1&&(sIx items.size items.size hi - sIx items.size 0 lo) == items.size)=true then _ else _) _ _ s;rw[if_pos hyes];refine Qqv (m:=Builtin.Tuple.tupleIsExact (.ref t)) ?_;unfold Builtin.Tuple.tupleIsExact;refine Qqv (wpAny_typeOf ht.typeIs ?_);refine Qq6 ?_;rw[if_pos (by decide)];exact Qqv (wpAny_rule (Qq6 ⟨_,rfl,Qq6 h⟩))
end
end HT
namespace L2
open PySem PySem.Spec PyProof.Rows
section
variable{X:Cx}
def rSlW(K:PySem.W.Frag):V->Option Int->Option Int->Hp->VK->Prop:=λx lo hi H Q=>∃a xs,x = .ref a/\SqT K H a xs/\(HT.sIx xs.length 0 lo=0/\HT.sIx xs.length xs.length hi=xs.length)/\Q (.ref a) H
theorem sl_whole:SlR X (rSlW X.K):=by
 intro pins s σ H x v vl vu lo hi sl Q I rx hs pl pu h;obtain⟨a,xs,rfl,hx,hw,q⟩:=h;cases rx;obtain⟨its,r,ht,hz⟩:=I.tuple hx;have hlen:its.toArray.size=xs.length:=by rw[Qq1];exact r.length.symm
 refine⟨"tuple",_,PyProof.Rows.slot_tuple_getitem.lookup,ht.typeIs,?_⟩;refine HT.getItem_tuple_whole ht hs pl pu (by rw[hlen];exact hw) ?_;exact⟨.ref a,H,I,rfl,q⟩
end
end L2
namespace Ev
open PySem PySem.Spec PyProof.Rows L2
section
variable{X:Cx}{C:Cfg}{pos:Pos}{x:Expr}{a:Ev}{y z:Expr}{b c:Ev}
def gSlT:D->Option Int->Option Int->Option D
 | .tup xs,lo,hi=>if HT.sIx xs.length 0 lo=0/\HT.sIx xs.length xs.length hi=xs.length then some (.tup xs) else some (.tup (cutD xs lo hi))
 | _,_,_=>none
def evSlT(a:Ev)(lo hi:EvP):Ev:=λenv=>bindR (a env) λd aO=>bindR (lo aO) λl bZ=>bindR (hi bZ) λu env3=>liftR (gSlT d l u) env3
theorem slT_go{Pr F:Hp}{env:Env}{σ:L2.St}{H:Hp}{x d:D}{v:V}{lo hi:Option Int}{Q:VK}(r:Rel C Pr F env σ H)(p:Rep C.K F x v)(e:gSlT x lo hi=some d)(q:∀v H' F',Rel C Pr F' env σ H'->bu F F'->Rep C.K F' d v->Q v H') :
  rSlT C.K v lo hi H Q\/rSlW C.K v lo hi H Q:=by
 unfold gSlT at e;split at e
 ·obtain⟨z,a,vs,rfl,h1,_,h2⟩:=BRep.tup r.fr (.inl p);split at e
  ·rename_i hn;cases e;exact .inr ⟨a,vs,rfl,h1,by rw[h2.length];exact hn,q _ H F r (bu.refl F) p⟩
  ·rename_i hn;cases e;refine .inl ⟨a,vs,rfl,h1,by rw[h2.length];exact hn,λb hb=>?_⟩;obtain⟨r2,s2⟩:=r.new (o:=.tup (cutV vs lo hi)) hb;exact q _ _ _ r2 s2 ⟨Qqy (cutD_len _ _ _) z,b,_,rfl,SqT.of bJ,bU.mono s2 _ _ (h2.cut lo hi)⟩
 ·cases e
def evChain(g g':D->D->Option D)(a b c:Ev):Ev:=λenv=>bindR (a env) λu e1=>bindR (b e1) λv e2=>match g u v with
 | some (.bl k)=>if k=true then bindR (c e2) λt e3=>liftR (g' v t) e3 else .ok (.bl false) e2
 | _=>.stuck
theorem glb_int{K:Fg}{h:Heap}{mg:Str->Option Value}{x:Str}{i:Int}{t:Tok}(X:K.In h)(G:h.Ns mainGlobals mg)(a:PySem.W.nsIn K mainGlobals x=some (some (.int i t))):Glb K mg x (.int i):=
 ⟨.int i,_,PySem.W.mg_of X G a,⟨t,rfl⟩,λF=>rfl⟩
end
end Ev
namespace SX
open PySem PySem.Spec PyProof.Rows L2 PySem.Builtin
def led(w:World):Bool:=!(w.params.followText "set-order")
structure TOk(P:Program)(w:World)(es:Array (Int×Value))(t:SetTable)(ys:List Str):Prop where
 el:ElemsOf (strKind P w) es.toList
 tx:∃ss:List Str,StrsAre (es.toList.map (·.2)) ss/\ss.Perm ys
 fit:t.fits es.size=true
 ld:t.led=led w
 pl:es.size≠0->t.plain=false
def TSet(P:Program)(w:World)(h:Heap)(a:Addr)(ys:List Str):Prop:=
 ∃o es ep t,h.get? a=some o/\o.ExactSet/\o.data = .set es ep t/\TOk P w es t ys
open PySem PySem.Spec PyProof.Rows L2 PySem.Builtin Ev
def SetO(P:Program)(w:World)(a:Addr)(ys:List Str):HO:=.ext λh=>TSet P w h a ys
end SX
namespace Ev
open PySem PySem.Spec PyProof.Rows L2 PySem.Builtin
section
variable{X:Cx}{C:Cfg}{pos:Pos}
def rTupS:List V->Hp->VK->Prop:=λxs H Q=>∃z:Str,xs=[.str z]/\z.length<=sizeLine/\∀l,H l=none->Q (.ref l) (upd H l (.tup (z.cps.toList.map λc=>V.str ⟨#[c]⟩)))
theorem signs_vals:∀(cs:List Nat) (vs:List Value),vs.length=cs.length->(∀(j:Nat) (v:Value),vs[j]? = some v->∃(c:Nat) (u:Tok),cs[j]? = some c/\v=Value.str ⟨#[c]⟩ u)->Vals (cs.map λc=>V.str ⟨#[c]⟩) vs
 | [],vs,hl,_=>by rw[Qzx hl];exact .nil
 | c::cs,[],hl,_=>by simp at hl
 | c::cs,v::vs,hl,hv=>by
  obtain⟨c',u,e1,e2⟩:=hv 0 v rfl;simp at e1;subst e1 e2;exact .cons ⟨u,rfl⟩ (signs_vals cs vs (by simpa using hl) λj w hw=>by simpa using hv (j+1) w (by simpa using hw))
theorem call_tupS(hh:X.calm=true):CallR X (.type "tuple") rTupS:=by
 intro pins s σ H xs us Q I r h;obtain⟨z,rfl,hz,q⟩:=h;obtain⟨u,rfl,⟨t,rfl⟩⟩:=vals1 r;refine call_tuple_str (I.ok.hd hh) z t (λh' tk acc kp hacc=>?_) (by simpa[Str.length] using hz);have I1:L2.Inv X pins σ H { s with heap:=h',toks:=tk }:=I.kept kp;have hv:Vals (z.cps.toList.map λc=>V.str ⟨#[c]⟩) acc.toList:=by obtain⟨hsz,hit⟩:=hacc;refine signs_vals _ _ (by simpa using hsz) λj v hv=>?_;obtain⟨c,u,e1,e2⟩:=hit j v (by simpa using hv);exact⟨c,u,by simpa using e1,e2⟩
 have I2:=I1.laid (t':=tk) (h':=h'.push { cls:=.type "tuple",data:=.seq acc.toList.toArray }) (a:=h'.objs.size) (o:=.tup (z.cps.toList.map λc=>V.str ⟨#[c]⟩)) (λb o e=>Qqw _ e) (Qq0 _) ⟨by simpa[Str.length] using hz,acc.toList,hv,TupD.new _ _⟩;have e:acc.toList.toArray=acc:=by simp
 rw[e] at I2;exact⟨.ref h'.objs.size,_,I2,rfl,q _ (I1.hok.fresh (Qq0 _))⟩
def gTupS:List D->Option D
 | [.str x]=>some (.tup (signs x))
 | _=>none
theorem cd_tupS:CallD C rTupS gTupS:=by
 intro Pr F env σ H ds d vs Q r hs h q;unfold gTupS at h;split at h
 ·rename_i x;cases h;obtain⟨v,rfl,hv⟩:=breps1 hs;obtain⟨rfl,hz⟩:=hv.str;refine⟨_,rfl,by rw[bF];exact hz,λl hl=>?_⟩;obtain⟨r2,s2⟩:=r.new (o:=.tup ((strOf x).cps.toList.map λc=>V.str ⟨#[c]⟩)) hl;refine q _ _ _ r2 s2 ⟨by simpa[signs] using hz,l,_,rfl,SqT.of bJ,?_⟩;have e:(strOf x).cps.toList=x:=by simp[strOf]
  rw[e];exact reps_signs x
 ·cases h
structure PXL(X:Cx)(C:Cfg)(es:List Expr)(ev:EvA):Prop where
 go:PXA X C es ev
theorem pxl_nil:PXL X C [] aj:=⟨pxa_nil⟩
end
end Ev
namespace HT
open PySem PySem.Spec PyProof PyProof.Rows PySem.Builtin
theorem fm_map{α β:Type}(f:α->Option β)(g:α->β):∀l:List α,(∀a∈l,f a=some (g a))->l.filterMap f=l.map g
 | [],_=>rfl
 | a::l,h=>by rw[List.filterMap_cons_some (h a Qqz),Qwz,fm_map f g l λb hb=>h b (Qqj _ hb)]
theorem rev_pick(xs:Array Value):(List.range xs.size).filterMap (λ(k:Nat)=>xs[(((xs.size:Nat):Int) - 1+(k:Int)*(-1)).toNat]?)=xs.toList.reverse:=by
 have e:(List.range xs.size).filterMap (λ(k:Nat)=>xs[(((xs.size:Nat):Int) - 1+(k:Int)*(-1)).toNat]?)=(List.range xs.size).map λk=>xs.getD (xs.size - 1 - k) .none:=by
  apply fm_map;intro k hk;have hk:=Qzy.mp hk;have e1:(((xs.size:Nat):Int) - 1+(k:Int)*(-1)).toNat=xs.size - 1 - k:=by omega
  have h2:xs.size - 1 - k<xs.size:=by omega
  rw[e1];simp[h2]
 rw[e];apply List.ext_getElem
 ·simp
 ·intro i h1 h2;have hi:i<xs.size:=by simpa using h1
  have h3:xs.size - 1 - i<xs.size:=by omega
  simp[List.getElem_reverse,Array.getD,h3]
section
variable{prog:Program}{w:World}{A:Around}{E:Value->Shared->Prop}{s:Shared}
theorem sliceApplied_rev{sl:Addr}{u:Tok}{n:Nat}{Q:Int×Int×Nat->Shared->Prop}(hs:s.heap.IsSliceOf sl .none .none (.int (-1) u))(h:Q ((n:Int) - 1, -1,n) s) :
  wpAny (model prog w) A (Builtin.Slice.sliceApplied (.ref sl) (pure (n:Int))) Q E s:=by
 obtain⟨os,hos,hcs,hds⟩:=id hs;unfold Builtin.Slice.sliceApplied Builtin.Slice.sliceFields;refine Qqv (Qqv (wpAny_field hos hds (x:=.none) rfl (Qqv (wpAny_field hos hds (x:=.none) rfl (Qqv (wpAny_field hos hds (x:=.int (-1) u) rfl (Qq6 ?_)))))));refine Qqv (slicePart_ (v:=.int (-1) u) (o:=some (-1)) (.int (-1) u) ?_);show wpAny _ _ (if ((-1:Int) == 0)=true then _ else _) _ _ s;rw[if_neg (by decide)];refine Qqv (slicePart_none (Qqv (slicePart_none (Qqv (Qq6 ?_)))));show wpAny _ _ (pure ((n:Int) - 1,(-1:Int),Builtin.Slice.slicePlaces ((n:Int) - 1) (-1) (-1))) _ _ s;have e:Builtin.Slice.slicePlaces ((n:Int) - 1) (-1) (-1)=n:=by
  unfold Builtin.Slice.slicePlaces;rw[if_neg (by decide)];split
  ·have:((n:Int) - 1 - -1 - 1) / (- (-1:Int))+1=n:=by
    rw[show(- (-1:Int))=1 from rfl,Int.ediv_one];omega
   rw[this];simp
  ·simp;omega
 rw[e];exact Qq6 h
theorem getItem_tuple_rev{t sl:Addr}{items:Array Value}{u:Tok}{Q:Value->Shared->Prop}(ht:IsTup s.heap t items)(hs:s.heap.IsSliceOf sl .none .none (.int (-1) u))(hz:items.size<=sizeLine)
  (h:Q (.ref s.heap.objs.size) { s with heap:=s.heap.push { cls:=.type "tuple",data:=.seq items.toList.reverse.toArray } }):wpAny (model prog w) A (getItem (.ref t) (.ref sl)) Q E s:=by
 obtain⟨os,hos,hcs,hds⟩:=id hs;have hTs:s.TypeIs (.ref sl) "slice":=⟨os,hos,hcs⟩;unfold getItem
 try with_reducible refine Qz9 ?_
 first|refine Qqv (Qq6 ?_)|skip
 refine Qqv (wpAny_sequenceKey ht.typeIs (by decide) ?_);refine Qqv (wpAny_callSpecial?_slot (name:=Str.ofString "__getitem__") ht.typeIs Qxw
  (wpAny_call_entry Qxw ht.typeIs entry_tuple_getitem ?_ (args_tuple_getitem _ _)))
 show wpAny _ _ (Builtin.Tuple.tupleItemsOf (.ref t) >>= _) _ _ s;refine Qqv (tupleItemsOf_ ht ?_);refine Qqv (wpAny_typeOf hTs ?_);rw[if_pos (by decide)];refine Qqv (sliceApplied_rev hs ?_);show wpAny _ _ (if ((((items.size:Nat):Int) - 1) == 0&&(-1:Int) == 1&&items.size == items.size)=true then _ else _) _ _ s;rw[if_neg (by simp)];refine Qqv ?_;unfold Builtin.Tuple.tupleExact;rw[rev_pick];exact Qjj (Qq6 ⟨_,rfl,Qq6 h⟩) (by show items.toList.reverse.toArray.size<=sizeLine;simpa using hz)
end
end HT
namespace L2
open PySem PySem.Spec PyProof.Rows
section
variable{X:Cx}{e:Expr}{te:TE}
def tRevT(K:PySem.W.Frag)(te ts:TE):TE:=λσ H Q=>te σ H λx H1=>ts σ H1 λy H2=>∃a xs,x = .ref a/\SqT K H2 a xs/\y = .int (-1)/\∀l,H2 l=none->Q (.ref l) (upd H2 l (.tup xs.reverse))
theorem vals_rev:∀{xs:List V} {us:List Value},Vals xs us->Vals xs.reverse us.reverse:=by
 intro xs us h;have app:∀{xs:List V} {us:List Value} {ys:List V} {ws:List Value},Vals xs us->Vals ys ws->Vals (xs++ys) (us++ws):=by
  intro xs us ys ws h g
  induction h with
  | nil=>exact g
  | cons h1 _ ih=>exact .cons h1 ih
 induction h with
 | nil=>exact .nil
 | cons h1 _ ih=>rw[List.reverse_cons,List.reverse_cons];exact app ih (.cons h1 .nil)
theorem pe_revT{st:Expr}{ts:TE}{p2 pos:Pos}(he:PE X e te)(hst:PE X st ts):PE X (.Subscript e (.Slice none none (some st) p2) pos) (tRevT X.K te ts):=by intro pins s σ H Q I h;refine Subscript_ (thn (he pins s σ H _ I h) λv s1 ⟨x,H1,I1,r1,q1⟩=>?_);refine wpAny_Slice ?_;rw[evalPart_none,evalPart_some];refine Qq6 (Qq6 (thn (hst pins s1 σ H1 _ I1 q1) λw s2 ⟨y,H2,I2,r2,q2⟩=>?_));obtain⟨a,xs,ex,hx,ey,q⟩:=q2;subst ex;subst ey;cases r1;obtain⟨t',rfl⟩:=r2;have I4:Inv X pins σ H2 { s2 with heap:=s2.heap.push { cls:=.type "slice",data:=.fields #[.none,.none,.int (-1) t'] } }:=I2.kept (t':=s2.toks) λb ob q=>Qqw _ q;obtain⟨its,r,ht,hz⟩:=I4.tuple hx;show wpAny (model X.prog X.w) X.A (subscriptTail e (.Slice none none (some st) p2) (.ref a) (.ref s2.heap.objs.size)) (EP X pins σ Q) X.xe { s2 with heap:=s2.heap.push { cls:=.type "slice",data:=.fields #[.none,.none,.int (-1) t'] } };refine tail_any (ops:=[.ref a,.ref s2.heap.objs.size]) ht.typeIs PyProof.Rows.slot_tuple_getitem.lookup ?_ (by with_unfolding_all rfl);have hlen:its.length=xs.length:=r.length.symm;refine HT.getItem_tuple_rev (u:=t') ht ⟨_,Qwv _ rfl,rfl,rfl⟩ (by rw[Qq1,hlen];exact hz) ?_;refine⟨.ref _,_,I4.laid (t':=s2.toks) (λb o e=>Qqw _ e) (Qq0 _) (o:=.tup xs.reverse) ⟨by rw[Qx0];exact hz,its.reverse,vals_rev r,?_⟩,rfl,q _ (I4.hok.fresh (Qq0 _))⟩;exact TupD.new _ _
end
end L2
namespace Ev
open PySem PySem.Spec PyProof.Rows L2 PySem.Builtin
section
variable{X:Cx}{C:Cfg}{pos:Pos}{x:Expr}{a:Ev}
def gRevT:D->Option D
 | .tup xs=>some (.tup xs.reverse)
 | _=>none
end
open PySem L2
theorem nr{α:Type}{a b:α}(h:a=b):a=b:=h
theorem bR{α β:Type}(a:α)(e:Env)(f:α->Env->R β):bindR (.ok a e) f=f a e:=nr rfl
def stk{α:Type}(_:Env):R α:=.stuck
theorem gSlT_cut(xs:List D)(lo hi:Option Int):gSlT (.tup xs) lo hi=some (.tup (cutD xs lo hi)):=by
 show(if HT.sIx xs.length 0 lo=0/\HT.sIx xs.length xs.length hi=xs.length then some (D.tup xs) else some (D.tup (cutD xs lo hi)))=_;split
 ·rename_i h;unfold cutD;rw[h.1,h.2];simp
 ·rfl
open PySem PySem.Spec PyProof.Rows L2
section
variable{X:Cx}{C:Cfg}{pos:Pos}{x:Expr}{a:Ev}
def gSlA:D->Option Int->Option Int->Option D
 | .str z,lo,hi=>some (.str (cutD z lo hi))
 | .tup xs,lo,hi=>some (.tup (cutD xs lo hi))
 | .lst xs,lo,hi=>some (.lst (cutD xs lo hi))
 | .arr xs,lo,hi=>some (.lst (cutD xs lo hi))
 | _,_,_=>none
def evSlA(a:Ev)(lo hi:EvP):Ev:=λenv=>bindR (a env) λd aO=>bindR (lo aO) λl bZ=>bindR (hi bZ) λu env3=>liftR (gSlA d l u) env3
end
structure SX(X:Cx)(C:Cfg)(e:Expr)(ev:Ev):Prop where
 u:Ev.PX X C e ev
structure SXB(X:Cx)(C:Cfg)(e:Expr)(ev:Ev):Prop where
 u:Ev.PXB X C e ev
structure SXN(X:Cx)(C:Cfg)(e:Expr)(ev:Ev):Prop where
 u:Ev.PXN X C e ev
structure SXT(X:Cx)(C:Cfg)(e:Expr)(ev:EvT):Prop where
 u:Ev.PXT X C e ev
structure SXW(X:Cx)(C:Cfg)(e:Expr)(ev:EvT):Prop where
 u:Ev.PXW X C e ev
structure SXA(X:Cx)(C:Cfg)(e:List Expr)(ev:EvA):Prop where
 u:Ev.PXA X C e ev
structure SXAB(X:Cx)(C:Cfg)(e:List Expr)(ev:EvA):Prop where
 u:Ev.PXAB X C e ev
structure SXL(X:Cx)(C:Cfg)(e:List Expr)(ev:EvA):Prop where
 u:Ev.PXL X C e ev
structure SXS(X:Cx)(C:Cfg)(e:Stmt)(ev:cz):Prop where
 u:Ev.PXS X C e ev
structure SXSs(X:Cx)(C:Cfg)(e:List Stmt)(ev:cz):Prop where
 u:Ev.PXSs X C e ev
structure SXIf(X:Cx)(C:Cfg)(e:List Expr)(ev:EvT):Prop where
 u:Ev.PXIf X C e ev
structure SXP(X:Cx)(C:Cfg)(e:Option Expr)(ev:EvP):Prop where
 u:Ev.PXP X C e ev
structure SXI(X:Cx)(C:Cfg)(tg e:Expr)(ev:EvA):Prop where
 u:Ev.PXI X C tg e ev
structure SXG(X:Cx)(C:Cfg)(lo:Nat)(e:Expr)(ev:GV):Prop where
 u:Ev.PXG X C lo e ev
structure SXGs(X:Cx)(C:Cfg)(lo:Nat)(e:List Expr)(ev:GVs):Prop where
 u:Ev.PXGs X C lo e ev
section
variable{X:Cx}{C:Cfg}{pos p px:Pos}{x y z:Expr}{a b c:Ev}{t u:EvT}{i:Nat}{n:Str}{e:Expr}{es:List Expr}{ea:EvA}
theorem aB{e:Expr}{es:List Expr}{a:Ev}{r:EvA}(ha:SX X C e a)(hr:SXA X C es r)(hs:starEach (e::es) X.env=(false,eval e X.env)::starEach es X.env:=by rfl):SXA X C (e::es) (aa a r):=⟨Ev.pxa_cons ha.u hr.u hs⟩
theorem bf(i:Nat)(hN:X.N[i]? = some n:=by rfl)(hv:Vis X.env.scope n:=by first|exact Or.inl rfl|exact Or.inr (Or.inl rfl)|exact Or.inr (Or.inr rfl))(hd:nDb n:=by decide)(hcd:nCd n:=by decide):SX X C (.Name n pos) (aQ i):=⟨px_var i hN hv hd hcd⟩
theorem pvQ{X:Cx}{C:Cfg}{n:Str}{pos:Pos}{es:List Expr}{r:EvA}(i:Nat)(hr:SXA X C es r)(hN:X.N[i]? = some n:=by rfl)(hv:Vis X.env.scope n:=by first|exact Or.inl rfl|exact Or.inr (Or.inl rfl)|exact Or.inr (Or.inr rfl))(hd:nDb n:=by decide)(hcd:nCd n:=by decide)(hs:starEach (.Name n pos::es) X.env=(false,eval (.Name n pos) X.env)::starEach es X.env:=by rfl):SXA X C (.Name n pos::es) (aa (aQ i) r):=aB (bf i hN hv hd hcd) hr hs
theorem au  : SXA X C [] aj:=⟨Ev.pxa_nil ⟩
theorem aH{e:Expr}{ev:Ev}(h:SX X C e ev):SXB X C e ev:=⟨Ev.PX.b h.u⟩
theorem aK{i:Int}{j:Nat}:SX X C (.Constant (.int i) j pos) (evC (.int i)):=⟨Ev.px_int ⟩
theorem az{st:Stmt}{rest:List Stmt}{a b:cz}(h1:SXS X C st a)(h2:SXSs X C rest b):SXSs X C (st::rest) (aJ a b):=⟨(pss_cons h1.u h2.u).imp λD σ H h=>by
 obtain⟨Pr,F,env,r,f⟩:=h;refine⟨Pr,F,env,r,?_⟩;unfold aJ at f;cases e:a env with
 | nx e1=>rw[e] at f;exact λσ' H' F' r' s'=>⟨Pr,F',e1,r',f.mono s'⟩
 | rt o d e1=>rw[e] at f;cases o<;>exact f
 | bk e1=>rw[e] at f;exact f
 | ct e1=>rw[e] at f;exact f
 | stuck=>rw[e] at f;exact f⟩
theorem aA{st:Stmt}{a:cz}(h1:SXS X C st a):SXSs X C [st] a:=⟨pss_one h1.u⟩
theorem aR{lo:Nat}(i:Nat)(hnd:nodupB X.N=true:=by rfl)(hlo:Nat.ble lo i=true:=by rfl)(hfx:C.fx i=none:=by rfl)(hi:X.N[i]? = some n:=by rfl)(hx:Loc X.env.scope n:=by first|exact Or.inl rfl|exact Or.inr rfl)(hf:X.fn n=true\/X.env.scope.names.lookup n=some .local:=by first|exact .inl rfl|exact .inr rfl):SXG X C lo (.Name n pos) (ak i):=⟨pxg_name (nodupB_ok hnd) hi hx (Qjq hlo) hfx hf⟩
theorem aW(z:List Nat){x:Str}{j:Nat}(hz:x=strOf z:=by decide +kernel)(hl:z.length<=sizeLine:=by decide):SX X C (.Constant (.str x) j pos) (evC (.str z)):=⟨by
 subst hz;refine pe_str.imp λσ H Q h=>?_;obtain⟨Pr,F,env,env',d,r,e,q⟩:=h;cases e;exact q _ _ F r (bu.refl F) ⟨rfl,hl⟩⟩
theorem bQ(i:Nat)(hN:X.N[i]? = some n:=by rfl)(hv:Vis X.env.scope n:=by first|exact Or.inl rfl|exact Or.inr (Or.inl rfl)|exact Or.inr (Or.inr rfl))(hd:nDb n:=by decide)(hcd:nCd n:=by decide):SXB X C (.Name n pos) (bB i):=⟨pxb_var i hN hv hd hcd⟩
theorem bO{pos':Pos}(i:Nat)(he:SX X C e a)(hnd:nodupB X.N=true:=by rfl)(hfx:C.fx i=none:=by rfl)(hi:X.N[i]? = some n:=by rfl)(hx:Loc X.env.scope n:=by first|exact Or.inl rfl|exact Or.inr rfl)(hs:swapsWith e (some (.Name n pos')) pos.line X.env=pure false:=by rfl)(hf:X.fn n=true\/X.env.scope.names.lookup n=some .local:=by first|exact .inl rfl|exact .inr rfl):SXS X C (.Assign [.Name n pos'] e pos) (aY a (ak i)):=⟨pxs_set (nodupB_ok hnd) hi hx hfx he.u hs hf⟩
theorem aM{e:Expr}{a:Ev}(h:SX X C e a):SXS X C (.Return (some e) pos) (aZ a):=⟨(ps_ret h.u).imp λD σ H hq=>by
 obtain⟨Pr,F,env,r,f⟩:=hq;obtain⟨d,aO,e1,f1⟩:=bindO_fin f;exact⟨Pr,F,env,aO,d,r,e1,λv H1 F1 r1 s1 p1=>f1 v σ H1 F1 r1 s1 p1⟩⟩
theorem aX{e:Expr}{a:Ev}(h:SXB X C e a)(hs:sEn e X.env:=by rfl):SXAB X C [e] (aa a aj):=⟨(pa_cons h.u pa_nil hs).imp λσ H Q hq=>by
 obtain⟨Pr,F,env,env',ds,rl,e,q⟩:=hq;obtain⟨d1,aO,e1,e2⟩:=aU e;cases e2;exact⟨Pr,F,env,env',d1,rl,e1,λv H1 F1 r1 s1 p1=>q _ H1 F1 r1 s1 ⟨v,[],rfl,p1,rfl⟩⟩⟩
theorem bz{k k':Nat}{m:Nat}{ps:List Str}{g:List D->Option D}(O:Own X.prog X.w X.K X.mg X.base n k ps (spP X.K m g))(G:Good X C)(hr:Room k' X.A)(ha:SXA X C (e::es) ea)(hn:∀env ds env',ea env = .ok ds env'->ds.length=m)(hk:Nat.ble k k'=true:=by rfl)(hg:Gl X n:=by rfl)(hdb:nDb n:=by decide)(he:starEach (e::es) X.env=(false,eval e X.env)::starEach es X.env:=by rfl)(hpl:(backTo pos (starEach es X.env)).any (·.1)=false:=by rfl):SX X C (.Call (.Name n p) (e::es) [] pos) (ao g ea):=⟨by
 obtain⟨f,fd,h1,h2,h3,h4⟩:=O;rw[G.K] at h1;have h1':FnOk X.prog X.w X.K X.mg X.base CX0 k f fd ps (spP C.K m g):=by rw[G.K];exact h1
 exact px_own h1' (hr.mono (Qjq hk)) hg h2 h3 h4 ha.u hn hdb he hpl⟩
theorem px_tupQ{es:List Expr}{r:EvA}{k:Nat}(h:SXA X C es r):SX X C (.Tuple es k pos) (evTup r):=⟨(pe_tup h.u).imp λσ H Q hq=>by
 obtain⟨Pr,F,env,env',d,rl,e,q⟩:=hq;obtain⟨ds,aO,e1,e2⟩:=aU e;split at e2
 ·rename_i hz;cases e2;refine⟨Pr,F,env,env',ds,rl,e1,λvs H1 F1 r1 s1 p1=>⟨by rw[p1.length];exact hz,λp hp=>?_⟩⟩;obtain⟨r2,s2⟩:=r1.new (o:=.tup vs) hp;exact q _ _ _ r2 (s1.trans s2) ⟨hz,p,vs,rfl,SqT.of bJ,bU.mono s2 _ _ p1⟩
 ·cases e2⟩
theorem aP{lo:Nat}{e:Expr}{es:List Expr}{g:GV}{gs:GVs}(h1:SXG X C lo e g)(h2:SXGs X C lo es gs)(hs:(assignEach (e::es) X.env).map (·.2)=assign e X.env::(assignEach es X.env).map (·.2):=by rfl):SXGs X C lo (e::es) (aV g gs):=⟨(pgs_cons h1.u h2.u hs).imp λv σ H Q h=>by
 obtain⟨Pr,F,env,env',ds,r,p,e,q⟩:=h;cases ds with
 | nil=>cases e
 | cons d ds=>
  obtain⟨u,w,rfl,p1,p2⟩:=p;obtain⟨aO,e1,e2⟩:=Qx7.mp e;refine⟨u,w,rfl,Pr,F,env,aO,d,r,p1,e1,λσ1 H1 F1 r1 s1 t1=>?_⟩;exact⟨Pr,F1,aO,env',ds,r1,bU.mono s1 _ _ p2,e2,λσ2 H2 F2 r2 s2 t2=>q σ2 H2 F2 r2 (s1.trans s2) (t2.trans t1)⟩⟩
theorem cj{e:Expr}{ev:Ev}(h:SXN X C e ev):SX X C e ev:=⟨Ev.PXN.px h.u⟩
theorem bT(i:Nat)(G:Good X C)(hb:SXB X C y b)(hN:X.N[i]? = some n:=by rfl)(hv:Vis X.env.scope n:=by first|exact Or.inl rfl|exact Or.inr (Or.inl rfl)|exact Or.inr (Or.inr rfl))(hs:PlainIx y:=by intro _ _;rfl)(hd:nDb n:=by decide)(hcd:nCd n:=by decide):SX X C (.Subscript (.Name n px) y pos) (aq cI i b):=⟨px_ixO i G.K hN hv hb.u hs hd hcd⟩
theorem x_ioQ{k k':Nat}{m:Nat}{ps:List Str}{g:List D->Option (D×D)}{v:Str}{pv:Pos}(i:Nat)(O:Own X.prog X.w X.K X.mg X.base n k ps (spIO X.K m g))(G:Good X C)(hr:Room k' X.A)(ha:SXA X C es ea)(hn:∀env ds env',ea env = .ok ds env'->ds.length+1=m)(hk:Nat.ble k k'=true:=by rfl)(hN:X.N[i]? = some v:=by rfl)(hv:Vis X.env.scope v:=by first|exact Or.inl rfl|exact Or.inr (Or.inl rfl)|exact Or.inr (Or.inr rfl))(hg:Gl X n:=by rfl)(hdb:nDb n:=by decide)(he:starEach (.Name v pv::es) X.env=(false,eval (.Name v pv) X.env)::starEach es X.env:=by rfl)(hpl:(backTo pos (starEach es X.env)).any (·.1)=false:=by rfl)(hd:nDb v:=by decide)(hcd:nCd v:=by decide):SX X C (.Call (.Name n p) (.Name v pv::es) [] pos) (evIO g i ea):=⟨by
 obtain⟨f,fd,h1,h2,h3,h4⟩:=O;rw[G.K] at h1;have h1':FnOk X.prog X.w X.K X.mg X.base CX0 k f fd ps (spIO C.K m g):=by rw[G.K];exact h1
 exact px_io hN hv h1' (hr.mono (Qjq hk)) hg h2 h3 h4 ha.u hn hdb he hpl hd hcd⟩
theorem cO{op:Operator}{g:D->D->Option D}(o:Bi X C op g)(ha:SX X C x a)(hb:SXB X C y b):SX X C (.BinOp x op y pos) (aG g a b):=⟨let ⟨_,h1,h2⟩:=o.ex;px_op h1 h2 ha.u hb.u⟩
theorem pxl_consQ{e:Expr}{es:List Expr}{a:Ev}{r:EvA}(ha:SX X C e a)(hr:SXL X C es r)(hs:starEach (e::es) X.env=(false,eval e X.env)::starEach es X.env:=by rfl):SXL X C (e::es) (aa a r):=⟨⟨Ev.pxa_cons ha.u hr.u.go hs⟩⟩
theorem cQ{op:Operator}{g:D->D->Option D}(i:Nat)(o:Bi X C op g)(hb:SXB X C y b)(hN:X.N[i]? = some n:=by rfl)(hv:Vis X.env.scope n:=by first|exact Or.inl rfl|exact Or.inr (Or.inl rfl)|exact Or.inr (Or.inr rfl))(hd:nDb n:=by decide)(hcd:nCd n:=by decide):SX X C (.BinOp (.Name n px) op y pos) (aq g i b):=⟨let ⟨_,h1,h2⟩:=o.ex;px_opO i hN hv h1 h2 hb.u hd hcd⟩
theorem bW{c:Expr}{a b:List Stmt}{t:EvT}{ea eb:cz}(hc:SXT X C c t)(ha:SXSs X C a ea)(hb:SXSs X C b eb):SXS X C (.If c a b pos) (cT t ea eb):=⟨(ps_if hc.u ha.u hb.u).imp λD σ H h=>by
 obtain⟨Pr,F,env,r,f⟩:=h;obtain⟨k,aO,e1,f1⟩:=bindO_fin f;refine⟨Pr,F,env,aO,k,r,e1,λH1 F1 r1 s1=>?_⟩;split at f1
 ·rename_i hk;rw[if_pos hk];exact⟨Pr,F1,aO,r1,f1.mono s1⟩
 ·rename_i hk;rw[if_neg hk];exact⟨Pr,F1,aO,r1,f1.mono s1⟩⟩
theorem pxn_lstQ{es:List Expr}{r:EvA}(h:SXA X C es r):SXN X C (.List es pos) (cW r):=⟨Ev.pxn_lst h.u⟩
theorem bG  : SXSs X C [] bM:=⟨Ev.pxss_nil ⟩
theorem i_seqQ{tg:Expr}(G:Good X C)(h:SX X C x a):SXI X C tg x (evIt a):=⟨pxi_seq G.K h.u⟩
theorem px_blQ{b:Bool}{j:Nat}:SX X C (.Constant (.bool b) j pos) (evC (.bl b)):=⟨Ev.px_bl ⟩
theorem n_lcQ{elt tg iter:Expr}{ifs:List Expr}{scope:Scope}(N':List Str){it:EvA}{g:GV}{cc:EvT}{ee:Ev}(lo:Nat)(ok:CompOk X scope N')(G:Good X C)(hi:SXI X C tg iter it)(bg:∀X',CxAt X scope N' X'->SXG X' C lo tg g)(bc:∀X',CxAt X scope N' X'->SXIf X' C ifs cc)(be:∀X',CxAt X scope N' X'->SX X' C elt ee)(hs:∀x,foldedSetIterable iter X.env x=pure x:=by intro _;rfl):SXN X C (.ListComp elt [⟨tg,iter,ifs,0⟩] scope pos) (evLC lo N'.length it g cc ee):=⟨Ev.n_lc N' lo ok G hi.u (λX1 h1=>(bg X1 h1).u) (λX1 h1=>(bc X1 h1).u) (λX1 h1=>(be X1 h1).u) hs⟩
theorem x_lenQ(G:Good X C)(hm:X.mg "len" = none)(ha:SXAB X C [e] ea)(hg:Gl X "len":=by rfl)(he:sEn e X.env:=by rfl):SX X C (.Call (.Name "len" p) [e] [] pos) (ao gLen ea):=⟨px_callB (by rw[<-G.K];exact call_len) cd_len hg hm PySem.boot_len ha.u (by decide) (by decide) he rfl⟩
theorem cB{e:Expr}{a:Ev}(h:SX X C e a)(he:∀whole,isTrue e X.env whole=(do let v <-whole;standAt e.pos;holding [v] (truthy v)):=by intro _;rfl):SXT X C e (cU a):=⟨(pt_val h.u he).imp λσ H Q hq=>tB_go hq⟩
theorem cH{lo:Nat}:SXGs X C lo [] gvNil:=⟨Ev.pxgs_nil ⟩
theorem g_tupQ{lo:Nat}{k:Nat}{gs:GVs}{m:Nat}(G:Good X C)(h:SXGs X C lo es gs)(hn:(assignEach es X.env).length=m:=by rfl)(hst:(assignEach es X.env).findIdx? (·.1)=none:=by rfl):SXG X C lo (.Tuple es k pos) (gvTup m gs):=⟨pxg_tup G.calm G.K h.u hn hst⟩
theorem cG{X:Cx}{C:Cfg}:SXIf X C [] cA:=⟨Ev.pxif_nil ⟩
theorem s_forQ{tg iter:Expr}{body:List Stmt}{it:EvA}{g:GV}{bs:cz}(G:Good X C)(hi:SXI X C tg iter it)(hg:SXG X C 0 tg g)(hb:SXSs X C body bs)(hp:PassesOwn (model X.prog X.w) X.A X.env X.xe:=by exact PassesOwn.never)(hs:∀x,foldedSetIterable iter X.env x=pure x:=by intro _;rfl):SXS X C (.For tg iter body [] pos) (stFor it g bs):=⟨pxs_for hp G.calm hi.u hg.u hb.u hs⟩
theorem t_cmpQ{op:CmpOp}{g:D->D->Option D}(o:Cm X C op g)(ha:SX X C x a)(hb:SXB X C y b)(hm:behindInMarks op y=false:=by rfl):SXT X C (.Compare x [op] [y] pos) (cU (aG g a b)):=⟨let ⟨_,h1,h2⟩:=o.ex;pxt_cmp h1 h2 ha.u hb.u hm⟩
theorem s_ownQ{pos':Pos}(i:Nat)(he:SXN X C e a)(hnd:nodupB X.N=true:=by rfl)(hfx:C.fx i=none:=by rfl)(hi:X.N[i]? = some n:=by rfl)(hx:Loc X.env.scope n:=by first|exact Or.inl rfl|exact Or.inr rfl)(hs:swapsWith e (some (.Name n pos')) pos.line X.env=pure false:=by rfl)(hf:X.fn n=true\/X.env.scope.names.lookup n=some .local:=by first|exact .inl rfl|exact .inr rfl):SXS X C (.Assign [.Name n pos'] e pos) (stOwn i a):=⟨pxs_own (nodupB_ok hnd) hi hx hfx he.u hs hf⟩
theorem x_tupleQ(G:Good X C)(hm:X.mg "tuple" = none)(ha:SXAB X C [e] ea)(hg:Gl X "tuple":=by rfl)(he:sEn e X.env:=by rfl):SX X C (.Call (.Name "tuple" p) [e] [] pos) (ao gTuple ea):=⟨px_callTy (T:="tuple") (r:=rTuple C.K) (by rw[<-G.K];exact call_tuple_of) cd_tuple hg hm (by decide +kernel) ha.u (by decide) (by decide) he rfl⟩
theorem x_ixQ(G:Good X C)(ha:SX X C x a)(hb:SXB X C y b)(hs:PlainIx y:=by intro _ _;rfl):SX X C (.Subscript x y pos) (aG cI a b):=⟨px_ix G.K ha.u hb.u hs⟩
theorem t_cmpOQ{op:CmpOp}{g:D->D->Option D}(i:Nat)(o:Cm X C op g)(hb:SXB X C y b)(hN:X.N[i]? = some n:=by rfl)(hv:Vis X.env.scope n:=by first|exact Or.inl rfl|exact Or.inr (Or.inl rfl)|exact Or.inr (Or.inr rfl))(hm:behindInMarks op y=false:=by rfl)(hd:nDb n:=by decide)(hcd:nCd n:=by decide):SXT X C (.Compare (.Name n px) [op] [y] pos) (cU (aq g i b)):=⟨by
 obtain⟨r,h1,h2⟩:=o.ex;exact(pt_cmpR h1 (pe_var hN hv hd hcd) hb.u hm).imp λσ H Q h=>binO_go h2 σ H _ (tB_go h)⟩
theorem pxs_asgQ{tg e:Expr}{a:Ev}{g:GV}(he:SX X C e a)(hg:SXG X C 0 tg g)(hs:swapsWithSole [tg] e pos.line X.env=pure false:=by rfl)(hw:swappedStores [tg] e X.env=pure none:=by rfl)(h1:(assignEach [tg] X.env).map (·.2)=[assign tg X.env]:=by rfl):SXS X C (.Assign [tg] e pos) (aY a g):=⟨(ps_asg he.u hg.u hs hw h1).imp λD σ H h=>asg_go h⟩
theorem cV{e:Expr}{a:Ev}(h:SX X C e a):SXP X C (some e) (evP a):=⟨(po_some h.u).imp λσ H Q hq=>by
 obtain⟨Pr,F,env,env',o,r,e,q⟩:=hq;obtain⟨d,aO,e1,e2⟩:=aU e;refine⟨Pr,F,env,aO,d,r,e1,λv H1 F1 r1 s1 p1=>?_⟩;cases d with
 | int i=>cases e2;exact⟨i,p1,q H1 F1 r1 s1⟩
 | _=>cases e2⟩
theorem pxt_notQ{x:Expr}{a:EvT}(h:SXT X C x a):SXT X C (.UnaryOp .Not x pos) (evNotT a):=⟨(pt_not h.u).imp λσ H Q hq=>by
 obtain⟨Pr,F,env,env',b,rl,e,q⟩:=hq;obtain⟨c,aO,e1,e2⟩:=aU e;cases e2;exact⟨Pr,F,env,env',c,rl,e1,λH1 F1 r1 s1=>q H1 F1 r1 s1⟩⟩
theorem PXW_ptQ{e:Expr}{a:EvT}(h:SXW X C e a):SXT X C e a:=⟨Ev.PXW.pt h.u⟩
theorem i_rng1Q{tg:Expr}(hm:X.mg "range" = none)(ha:SXA X C [e] ea)(hl:∀env ds env',ea env = .ok ds env'->ds.length=1)(hg:Gl X "range":=by rfl)(hs:starEach [e] X.env=[(false,eval e X.env)]:=by rfl):SXI X C tg (.Call (.Name "range" p) [e] [] pos) (evRng ea):=⟨pxi_range1 hg hm ha.u hl hs⟩
theorem x_cmpOQ{op:CmpOp}{g:D->D->Option D}(i:Nat)(o:Cm X C op g)(hb:SXB X C y b)(hN:X.N[i]? = some n:=by rfl)(hv:Vis X.env.scope n:=by first|exact Or.inl rfl|exact Or.inr (Or.inl rfl)|exact Or.inr (Or.inr rfl))(hm:behindInMarks op y=false:=by rfl)(hd:nDb n:=by decide)(hcd:nCd n:=by decide):SX X C (.Compare (.Name n px) [op] [y] pos) (aq g i b):=⟨by
 obtain⟨r,h1,h2⟩:=o.ex;exact(pe_cmpR h1 (pe_var hN hv hd hcd) hb.u hm).imp (binO_go h2)⟩
theorem px_nonQ{j:Nat}:SX X C (.Constant .none j pos) (evC .non):=⟨Ev.px_non ⟩
theorem pxab_consQ{e:Expr}{es:List Expr}{a:Ev}{r:EvA}(ha:SX X C e a)(hr:SXAB X C es r)(hs:starEach (e::es) X.env=(false,eval e X.env)::starEach es X.env:=by rfl):SXAB X C (e::es) (aa a r):=⟨(pa_cons ha.u hr.u hs).imp λσ H Q h=>by
  obtain⟨Pr,F,env,env',ds,rl,e,q⟩:=h;obtain⟨d1,aO,e1,e2⟩:=aU e;obtain⟨ds2,bZ,e3,e4⟩:=aU e2;cases e4;refine⟨Pr,F,env,aO,d1,rl,e1,λv H1 F1 r1 s1 p1=>?_⟩;refine⟨Pr,F1,aO,env',ds2,r1,e3,λvs H2 F2 r2 s2 p2=>?_⟩;exact q _ H2 F2 r2 (s1.trans s2) ⟨v,vs,rfl,.inl (Rep.mono s2 d1 v p1),p2⟩⟩
theorem px_oneQ{op:BoolOp}{x:Expr}{a:Ev}(h:SX X C x a):SX X C (.BoolOp op [x] pos) a:=⟨pe_one h.u⟩
theorem s_appQ{apos cpos:Pos}(i:Nat)(G:Good X C)(he:SX X C e a)(hN:X.N[i]? = some n:=by rfl)(hv:Vis X.env.scope n:=by first|exact Or.inl rfl|exact Or.inr (Or.inl rfl)|exact Or.inr (Or.inr rfl))(hs:swapsWith (.Call (.Attribute (.Name n px) "append" apos) [e] [] cpos) none pos.line X.env=pure false:=by rfl) (hfew:((backTo cpos (starEach [e] X.env)).all (λx=>!x.1)&&(backToKw cpos (keywordEach [] X.env)).all (λx=>x.1.isSome)
   && decide (([e]:List Expr).length+([]:List Keyword).length+(if ([]:List Keyword).isEmpty then 0 else 1)<30))=true:=by rfl) (hbase:attributeBase (.Name n px) "append" X.env (eval (.Name n px) X.env)=eval (.Name n px) X.env:=by rfl) (hline:(apos.endLine == cpos.line)=true:=by rfl) (hst:sEn e X.env:=by rfl) (hplain:(backTo cpos (starEach [] X.env)).any (·.1)=false:=by rfl) (hd:nDb n:=by decide) (hcd:nCd n:=by decide):SXS X C (.Expr (.Call (.Attribute (.Name n px) "append" apos) [e] [] cpos) pos) (stApp i a):=⟨pxs_app hN hv he.u G.K hs hfew hbase hline hst hplain hd hcd⟩
theorem pxp_noneQ  : SXP X C none evNoP:=⟨Ev.pxp_none ⟩
theorem px_andQ{x y:Expr}{rest:List Expr}{a b:Ev}(ha:SX X C x a)(hb:SX X C (.BoolOp .And (y::rest) pos) b):SX X C (.BoolOp .And (x::y::rest) pos) (evAnd a b):=⟨(pe_and ha.u hb.u).imp λσ H Q hq=>by
  obtain⟨Pr,F,env,env',k,rl,e,q⟩:=hq;obtain⟨c,aO,e1,e2⟩:=aU e;refine⟨Pr,F,env,aO,c,rl,e1,λv H1 F1 r1 s1 p1=>?_⟩;cases c with
  | bl z=>
   refine⟨z,p1,?_⟩;cases z with
   | true=>exact iteT ⟨Pr,F1,aO,env',k,r1,e2,λv2 H2 F2 r2 s2 p2=>q v2 H2 F2 r2 (s1.trans s2) p2⟩
   | false=>cases e2;exact iteF (q _ H1 F1 r1 s1 rfl)
  | _=>cases e2⟩
theorem pxw_orQ{x y:Expr}{rest:List Expr}{a b:EvT}(ha:SXT X C x a)(hb:SXW X C (.BoolOp .Or (y::rest) pos) b):SXW X C (.BoolOp .Or (x::y::rest) pos) (evOrT a b):=⟨(pw_or ha.u hb.u).imp λσ H Q hq=>by
  obtain⟨Pr,F,env,env',k,rl,e,q⟩:=hq;obtain⟨c,aO,e1,e2⟩:=aU e;refine⟨Pr,F,env,aO,c,rl,e1,λH1 F1 r1 s1=>?_⟩;split at e2
  ·rename_i hc;rw[if_pos hc];cases e2;exact q H1 F1 r1 s1
  ·rename_i hc;rw[if_neg hc];exact⟨Pr,F1,aO,env',k,r1,e2,λH2 F2 r2 s2=>q H2 F2 r2 (s1.trans s2)⟩⟩
theorem x_allQ(G:Good X C)(hm:X.mg "all" = none)(ha:SXAB X C [e] ea)(hg:Gl X "all":=by rfl)(he:sEn e X.env:=by rfl):SX X C (.Call (.Name "all" p) [e] [] pos) (ao gAll ea):=⟨px_callB (by rw[<-G.K];exact call_all2 G.calm) cd_all hg hm (by decide +kernel) ha.u (by decide) (by decide) he rfl⟩
theorem pxw_or1Q{x:Expr}{a:EvT}(h:SXT X C x a):SXW X C (.BoolOp .Or [x] pos) a:=⟨pw_or1 h.u⟩
theorem px_isiQ{T:String}{xT:Str}{e:Expr}{a:Ev}{p q pos:Pos}(hg:Gl X "isinstance")(hm:X.mg "isinstance" = none)(hgT:Gl X xT)(hmT:X.mg xT=none)(hvT:bootBuiltins xT=some (.type T))(hk:∀d:D,PySem.W.kitOne X.K (.type (tyD d)) (.type T)=some (instD d T))(hK:X.K=C.K)(ha:SX X C e a)(hn:xT ≠ "__name__":=by decide)(hd:nDb xT:=by decide)(he:starEach [e,.Name xT q] X.env=(false,eval e X.env)::starEach [.Name xT q] X.env:=by rfl):SX X C (.Call (.Name "isinstance" p) [e,.Name xT q] [] pos) (evUn (gIsi T) a):=⟨by
 refine(pe_callB (call_isi hk) hg hm boot_isinstance (pa_cons ha.u (pa_cons (pe_bltn (v:=.ty T) hgT hmT hvT rfl hn hd) pa_nil) he) (by decide) (by decide) he rfl).imp λσ H Q h=>?_;obtain⟨Pr,F,env,env',d,rl,e1,qq⟩:=h;obtain⟨d0,aO,e2,e3⟩:=aU e1;obtain⟨e4,rfl⟩:=cM e3;obtain⟨nc,rfl⟩:=gIsi_ok e4;refine⟨Pr,F,env,env',d0,rl,e2,λv H1 F1 r1 s1 p1=>⟨d0,v,rfl,nc,?_,qq _ H1 F1 r1 s1 rfl⟩⟩;rw[hK];exact Rep.mono r1.fr d0 v p1⟩
theorem pxif_oneQ{X:Cx}{C:Cfg}{c:Expr}{t:EvT}(h:SXT X C c t):SXIf X C [c] t:=⟨pif_one h.u⟩
theorem n_ownQ{k k':Nat}{m:Nat}{ps:List Str}{g:List D->Option D}(O:Own X.prog X.w X.K X.mg X.base n k ps (spN X.K m g))(G:Good X C)(hr:Room k' X.A)(ha:SXA X C (e::es) ea)(hn:∀env ds env',ea env = .ok ds env'->ds.length=m)(hk:Nat.ble k k'=true:=by rfl)(hg:Gl X n:=by rfl)(hdb:nDb n:=by decide)(he:starEach (e::es) X.env=(false,eval e X.env)::starEach es X.env:=by rfl)(hpl:(backTo pos (starEach es X.env)).any (·.1)=false:=by rfl):SXN X C (.Call (.Name n p) (e::es) [] pos) (ao g ea):=⟨by
 obtain⟨f,fd,h1,h2,h3,h4⟩:=O;rw[G.K] at h1;have h1':FnOk X.prog X.w X.K X.mg X.base CX0 k f fd ps (spN C.K m g):=by rw[G.K];exact h1
 exact pxn_own h1' (hr.mono (Qjq hk)) hg h2 h3 h4 ha.u hn hdb he hpl⟩
theorem pxw_andQ{x y:Expr}{rest:List Expr}{a b:EvT}(ha:SXT X C x a)(hb:SXW X C (.BoolOp .And (y::rest) pos) b):SXW X C (.BoolOp .And (x::y::rest) pos) (evAndT a b):=⟨(pw_and ha.u hb.u).imp λσ H Q hq=>by
  obtain⟨Pr,F,env,env',k,rl,e,q⟩:=hq;obtain⟨c,aO,e1,e2⟩:=aU e;refine⟨Pr,F,env,aO,c,rl,e1,λH1 F1 r1 s1=>?_⟩;split at e2
  ·rename_i hc;rw[if_pos hc];exact⟨Pr,F1,aO,env',k,r1,e2,λH2 F2 r2 s2=>q H2 F2 r2 (s1.trans s2)⟩
  ·rename_i hc;rw[if_neg hc];cases e2;exact q H1 F1 r1 s1⟩
theorem px_globQ{x:Str}{v:V}{u:Value}(d:D)(hg:Gl X x)(hm:X.mg x=some u)(rv:RelV v u)(hr:∀F,Rep C.K F d v)(hd:nDb x:=by decide):SX X C (.Name x pos) (evC d):=⟨(pe_glob hg hm rv hd).imp λσ H Q h=>by
  obtain⟨Pr,F,env,env',d,r,e,q⟩:=h;cases e;exact q _ _ F r (bu.refl F) (hr F)⟩
theorem x_joinQ{o:Expr}{apos cpos:Pos}(G:Good X C)(ho:SX X C o a)(he:SXB X C e b)(hbase:attributeBase o "join" X.env (eval o X.env)=eval o X.env:=by rfl)(hs:sEn e X.env:=by rfl) (hfew:((backTo cpos (starEach [e] X.env)).all (λx=>!x.1)&&(backToKw cpos (keywordEach [] X.env)).all (λx=>x.1.isSome)
   && decide ([e].length+([]:List Keyword).length+(if ([]:List Keyword).isEmpty then 0 else 1)<30))=true:=by rfl) (hline:(apos.endLine == cpos.line)=true:=by rfl) (hplain:(backTo cpos (starEach [] X.env)).any (·.1)=false:=by rfl):SX X C (.Call (.Attribute o "join" apos) [e] [] cpos) (aG gJoin a b):=⟨px_join G.K ho.u he.u hbase hs hfew hline hplain⟩
theorem x_slQ{lo hi:Option Expr}{el eh:EvP}{p2:Pos}(G:Good X C)(ha:SX X C x a)(hl:SXP X C lo el)(hh:SXP X C hi eh):SX X C (.Subscript x (.Slice lo hi none p2) pos) (evSl a el eh):=⟨px_sl G.K ha.u hl.u hh.u⟩
theorem pxw_and1Q{x:Expr}{a:EvT}(h:SXT X C x a):SXW X C (.BoolOp .And [x] pos) a:=⟨pw_and1 h.u⟩
theorem x_negQ(ha:SX X C x a):SX X C (.UnaryOp .USub x pos) (evUn gNeg a):=⟨px_un un_neg ud_neg ha.u⟩
theorem x_cmpQ{op:CmpOp}{g:D->D->Option D}(o:Cm X C op g)(ha:SX X C x a)(hb:SXB X C y b)(hm:behindInMarks op y=false:=by rfl):SX X C (.Compare x [op] [y] pos) (aG g a b):=⟨let ⟨_,h1,h2⟩:=o.ex;px_cmp h1 h2 ha.u hb.u hm⟩
theorem pxl_nilQ  : SXL X C [] aj:=⟨Ev.pxl_nil ⟩
theorem n_lstLQ{es:List Expr}{a:EvA}(h:SXL X C es a):SXN X C (.List es pos) (cW a):=⟨Ev.pxn_lst h.u.go⟩
theorem x_dgetOQ(i:Nat)(G:Good X C)(hb:SXB X C y b)(hN:X.N[i]? = some n:=by rfl)(hv:Vis X.env.scope n:=by first|exact Or.inl rfl|exact Or.inr (Or.inl rfl)|exact Or.inr (Or.inr rfl))(hs:NoSl y:=by intro _ _;rfl)(hd:nDb n:=by decide)(hcd:nCd n:=by decide):SX X C (.Subscript (.Name n px) y pos) (aq gDget i b):=⟨px_dgetO i G.u1 hN hv hb.u hs hd hcd⟩
theorem x_revQ{p2 p3 p4:Pos}{k:Nat}(ha:SX X C x a):SX X C (.Subscript x (.Slice none none (some (.UnaryOp .USub (.Constant (.int 1) k p4) p3)) p2) pos) (evRev a):=⟨by
 refine(pe_rev (p2:=p2) (pos:=pos) ha.u (pe_un (pos:=p3) un_neg (pe_int (i:=1) (j:=k) (pos:=p4)))).imp λσ H Q hq=>?_;obtain⟨Pr,F,env,env',d,r,e,q⟩:=hq;obtain⟨z,aO,e1,e2⟩:=aU e;obtain⟨e3,rfl⟩:=cM e2;cases z with
 | str z=>
  cases e3;refine⟨Pr,F,env,env',.str z,r,e1,λv H1 F1 r1 s1 p1=>?_⟩;obtain⟨rfl,hz⟩:=p1;refine⟨1,rfl,strOf z,rfl,by rw[bF];exact hz,rfl,q _ H1 F1 r1 s1 ⟨by simp[strOf],by rw[Qx0];exact hz⟩⟩
 | _=>cases e3⟩
theorem x_maxQ{e2:Expr}(G:Good X C)(hm:X.mg "max" = none)(ha:SXAB X C [e,e2] ea)(hg:Gl X "max":=by rfl)(he:starEach [e,e2] X.env=(false,eval e X.env)::starEach [e2] X.env:=by rfl)(hpl:(backTo pos (starEach [e2] X.env)).any (·.1)=false:=by rfl):SX X C (.Call (.Name "max" p) [e,e2] [] pos) (ao gMax ea):=⟨px_callB (call_max2 G.calm) cd_max hg hm (by decide +kernel) ha.u (by decide) (by decide) he hpl⟩
theorem pxn_dnewQ  : SXN X C (.Dict [] [] pos) evDnew:=⟨Ev.pxn_dnew ⟩
theorem x_minQ{e2:Expr}(G:Good X C)(hm:X.mg "min" = none)(ha:SXAB X C [e,e2] ea)(hg:Gl X "min":=by rfl)(he:starEach [e,e2] X.env=(false,eval e X.env)::starEach [e2] X.env:=by rfl)(hpl:(backTo pos (starEach [e2] X.env)).any (·.1)=false:=by rfl):SX X C (.Call (.Name "min" p) [e,e2] [] pos) (ao gMin ea):=⟨px_callB (call_min2 G.calm) cd_min hg hm (by decide +kernel) ha.u (by decide) (by decide) he hpl⟩
theorem x_sortedQ(G:Good X C)(hm:X.mg "sorted" = none)(ha:SXAB X C [e] ea)(hg:Gl X "sorted":=by rfl)(he:sEn e X.env:=by rfl):SX X C (.Call (.Name "sorted" p) [e] [] pos) (ao gSorted ea):=⟨px_sorted G.K G.calm hg hm ha.u he rfl⟩
theorem px_orQ{x y:Expr}{rest:List Expr}{a b:Ev}(ha:SX X C x a)(hb:SX X C (.BoolOp .Or (y::rest) pos) b):SX X C (.BoolOp .Or (x::y::rest) pos) (evOr a b):=⟨(pe_or ha.u hb.u).imp λσ H Q hq=>by
  obtain⟨Pr,F,env,env',k,rl,e,q⟩:=hq;obtain⟨c,aO,e1,e2⟩:=aU e;refine⟨Pr,F,env,aO,c,rl,e1,λv H1 F1 r1 s1 p1=>?_⟩;cases c with
  | bl z=>
   refine⟨z,p1,?_⟩;cases z with
   | true=>cases e2;exact iteT (q _ H1 F1 r1 s1 rfl)
   | false=>exact iteF ⟨Pr,F1,aO,env',k,r1,e2,λv2 H2 F2 r2 s2 p2=>q v2 H2 F2 r2 (s1.trans s2) p2⟩
  | _=>cases e2⟩
theorem x_slSQ{lo hi:Option Expr}{el eh:EvP}{p2:Pos}(ha:SX X C x a)(hl:SXP X C lo el)(hh:SXP X C hi eh):SX X C (.Subscript x (.Slice lo hi none p2) pos) (evSlS a el eh):=⟨by
 refine(pe_slice (pos:=pos) (p2:=p2) sl_str ha.u hl.u hh.u).imp λσ H Q hq=>?_;obtain⟨Pr,F,env,env',d,r,e,q⟩:=hq;obtain⟨z,aO,e1,e2⟩:=aU e;obtain⟨l,bZ,e3,e4⟩:=aU e2;obtain⟨u,env3,e5,e6⟩:=aU e4;obtain⟨e7,rfl⟩:=cM e6;cases z with
 | str z=>
  cases e7;refine⟨Pr,F,env,aO,.str z,r,e1,λv H1 F1 r1 s1 p1=>⟨Pr,F1,aO,bZ,l,r1,e3,λH2 F2 r2 s2=>⟨Pr,F2,bZ,env',u,r2,e5,λH3 F3 r3 s3=>?_⟩⟩⟩;obtain⟨rfl,hz⟩:=p1;exact⟨z,rfl,hz,q _ H3 F3 r3 ((s1.trans s2).trans s3) ⟨rfl,Qqy (cutN_len _ _ _) hz⟩⟩
 | _=>cases e7⟩
theorem i_rng3Q{tg e2 e3:Expr}(hm:X.mg "range" = none)(ha:SXA X C [e,e2,e3] ea)(hl:∀env ds env',ea env = .ok ds env'->ds.length=3)(hg:Gl X "range":=by rfl)(hs:starEach [e,e2,e3] X.env=[(false,eval e X.env),(false,eval e2 X.env),(false,eval e3 X.env)]:=by rfl)(hs2:starEach [e2,e3] X.env=[(false,eval e2 X.env),(false,eval e3 X.env)]:=by rfl):SXI X C tg (.Call (.Name "range" p) [e,e2,e3] [] pos) (evRng ea):=⟨pxi_range3 hg hm ha.u hl hs hs2⟩
theorem x_listQ(G:Good X C)(hm:X.mg "list" = none)(ha:SXAB X C [e] ea)(hg:Gl X "list":=by rfl)(he:sEn e X.env:=by rfl):SX X C (.Call (.Name "list" p) [e] [] pos) (ao gList ea):=⟨px_callTy (T:="list") (r:=rList C.K) (by rw[<-G.K];exact call_list2 G.calm) cd_list hg hm (by decide +kernel) ha.u (by decide) (by decide) he rfl⟩
theorem s_lcQ{elt tg iter:Expr}{ifs:List Expr}{scope:Scope}(N':List Str){spos py:Pos}{it:EvA}{g:GV}{cc:EvT}{ee:Ev}(lo:Nat)(i:Nat)(ok:CompOk X scope N')(G:Good X C)(hi:SXI X C tg iter it)(bg:∀X',CxAt X scope N' X'->SXG X' C lo tg g)(bc:∀X',CxAt X scope N' X'->SXIf X' C ifs cc)(be:∀X',CxAt X scope N' X'->SX X' C elt ee)(hnd:nodupB X.N=true:=by rfl)(hfx:C.fx i=none:=by rfl)(hy:X.N[i]? = some n:=by rfl)(hx:Loc X.env.scope n:=by first|exact Or.inl rfl|exact Or.inr rfl)(hsw:swapsWith (.ListComp elt [⟨tg,iter,ifs,0⟩] scope pos) (some (.Name n py)) spos.line X.env=pure true:=by rfl)(hf:X.fn n=true\/X.env.scope.names.lookup n=some .local:=by first|exact .inl rfl|exact .inr rfl)(hs:∀x,foldedSetIterable iter X.env x=pure x:=by intro _;rfl):SXS X C (.Assign [.Name n py] (.ListComp elt [⟨tg,iter,ifs,0⟩] scope pos) spos) (stOwn i (evLC lo N'.length it g cc ee)):=⟨Ev.s_lc N' lo i ok G hi.u (λX1 h1=>(bg X1 h1).u) (λX1 h1=>(bc X1 h1).u) (λX1 h1=>(be X1 h1).u) hnd hfx hy hx hsw hf hs⟩
theorem i_rng2Q{tg e2:Expr}(hm:X.mg "range" = none)(ha:SXA X C [e,e2] ea)(hl:∀env ds env',ea env = .ok ds env'->ds.length=2)(hg:Gl X "range":=by rfl)(hs:starEach [e,e2] X.env=[(false,eval e X.env),(false,eval e2 X.env)]:=by rfl)(hs2:starEach [e2] X.env=[(false,eval e2 X.env)]:=by rfl):SXI X C tg (.Call (.Name "range" p) [e,e2] [] pos) (evRng ea):=⟨pxi_range2 hg hm ha.u hl hs hs2⟩
theorem x_divmodQ{e2:Expr}(G:Good X C)(hm:X.mg "divmod" = none)(ha:SXAB X C [e,e2] ea)(hg:Gl X "divmod":=by rfl)(he:starEach [e,e2] X.env=(false,eval e X.env)::starEach [e2] X.env:=by rfl)(hpl:(backTo pos (starEach [e2] X.env)).any (·.1)=false:=by rfl):SX X C (.Call (.Name "divmod" p) [e,e2] [] pos) (ao gDivmod ea):=⟨px_callB call_divmod cd_divmod hg hm (by decide +kernel) ha.u (by decide) (by decide) he hpl⟩
theorem pxs_retNewQ{e:Expr}{a:Ev}(h:SXN X C e a):SXS X C (.Return (some e) pos) (stRetNew a):=⟨(ps_ret h.u).imp λD σ H hq=>by
 obtain⟨Pr,F,env,r,f⟩:=hq;obtain⟨d,aO,e1,f1⟩:=bindO_fin f;exact⟨Pr,F,env,aO,d,r,e1,λv H1 F1 r1 s1 p1=>f1 v σ H1 F1 r1 s1 p1⟩⟩
theorem g_atQ{lo:Nat}{ix:Expr}{ev:Ev}(i:Nat)(h:SX X C ix ev)(hN:X.N[i]? = some n:=by rfl)(hv:Vis X.env.scope n:=by first|exact Or.inl rfl|exact Or.inr (Or.inl rfl)|exact Or.inr (Or.inr rfl)) (ha:∀v,assign (.Subscript (.Name n px) ix pos) X.env v=(do
   let ov <-holding [v] (eval (.Name n px) X.env)
   let iv <-holding [v,ov] (eval ix X.env)
   standAt pos
   holding [v,ov,iv] (setItem ov iv v)
   release [v,ov,iv] []):=by intro _;rfl) (hd:nDb n:=by decide) (hcd:nCd n:=by decide):SXG X C lo (.Subscript (.Name n px) ix pos) (gvAt i ev):=⟨pxg_at hN hv h.u ha hd hcd⟩
theorem x_dictQ{p:Pos}{e:Expr}{ea:EvA}(G:Good X C)(hm:X.mg "dict" = none)(ha:SXAB X C [e] ea)(hg:Gl X "dict":=by rfl)(he:sEn e X.env:=by rfl):SX X C (.Call (.Name "dict" p) [e] [] pos) (ao gDict ea):=⟨px_callTy (T:="dict") (r:=rDict C.K) (by rw[<-G.K];exact call_dict G.calm) cd_dict hg hm (by decide +kernel) ha.u (by decide) (by decide) he rfl⟩
theorem s_dputQ{k:Expr}{ek:Ev}{pos':Pos}(i:Nat)(G:Good X C)(hk:SX X C k ek)(he:SX X C e a)(hN:X.N[i]? = some n:=by rfl)(hv:Vis X.env.scope n:=by first|exact Or.inl rfl|exact Or.inr (Or.inl rfl)|exact Or.inr (Or.inr rfl))(hs:swapsWith e (some (.Subscript (.Name n px) k pos')) pos.line X.env=pure false:=by rfl)(hd:nDb n:=by decide)(hcd:nCd n:=by decide):SXS X C (.Assign [.Subscript (.Name n px) k pos'] e pos) (stDput i ek a):=⟨pxs_dput G.u1 hN hv hk.u he.u hs hd hcd⟩
theorem x_slTQ{lo hi:Option Expr}{el eh:EvP}{p2:Pos}(G:Good X C)(ha:SX X C x a)(hl:SXP X C lo el)(hh:SXP X C hi eh):SX X C (.Subscript x (.Slice lo hi none p2) pos) (evSlT a el eh):=⟨by
 have h:=pe_slice (pos:=pos) (p2:=p2) (SlR.or sl_tup sl_whole) ha.u hl.u hh.u;rw[G.K] at h;refine h.imp λσ H Q hq=>?_;obtain⟨Pr,F,env,env',d,r,e,q⟩:=hq;obtain⟨x,aO,e1,e2⟩:=aU e;obtain⟨l,bZ,e3,e4⟩:=aU e2;obtain⟨u,env3,e5,e6⟩:=aU e4;obtain⟨e7,rfl⟩:=cM e6;refine⟨Pr,F,env,aO,x,r,e1,λv H1 F1 r1 s1 p1=>⟨Pr,F1,aO,bZ,l,r1,e3,λH2 F2 r2 s2=>⟨Pr,F2,bZ,env',u,r2,e5,λH3 F3 r3 s3=>?_⟩⟩⟩;exact slT_go r3 (Rep.mono (s2.trans s3) _ _ p1) e7 λv H' F' r' s' p'=>q v H' F' r' (((s1.trans s2).trans s3).trans s') p'⟩
theorem x_tupSQ{p:Pos}{e:Expr}{ea:EvA}(G:Good X C)(hm:X.mg "tuple" = none)(ha:SXAB X C [e] ea)(hg:Gl X "tuple":=by rfl)(he:sEn e X.env:=by rfl):SX X C (.Call (.Name "tuple" p) [e] [] pos) (ao gTupS ea):=⟨px_callTy (T:="tuple") (r:=rTupS) (call_tupS G.calm) cd_tupS hg hm (by decide +kernel) ha.u (by decide) (by decide) he rfl⟩
theorem i_enumQ{elts:List Expr}{k:Nat}{tp p:Pos}{ea:EvA}(hm:X.mg "enumerate" = none)(ha:SXA X C [e] ea)(hg:Gl X "enumerate":=by rfl)(hs:starEach [e] X.env=[(false,eval e X.env)]:=by rfl):SXI X C (.Tuple elts k tp) (.Call (.Name "enumerate" p) [e] [] pos) (evEnum ea):=⟨(pi_enum hg hm ha.u hs).imp λσ H R hq=>by
  obtain⟨Pr,F,env,env',ds,r,e,q⟩:=hq;obtain⟨as,aO,e1,e2⟩:=aU e;refine⟨Pr,F,env,aO,as,r,e1,λvs H1 F1 r1 s1 p1=>?_⟩;split at e2
  ·rename_i x;cases e2;obtain⟨v,w,rfl,⟨rfl,hz⟩,p2⟩:=p1;cases p2;refine⟨strOf x,rfl,q _ H1 F1 r1 s1 λi H2 s2=>⟨λ_ ei=>?_,λd hd=>?_⟩⟩
   ·show i=x.toArray.size;rw[ei];simp[enumD]
   ·unfold enumD at hd;rw[Qxq] at hd;obtain⟨⟨c,j⟩,hc,rfl⟩:=Qq9.mp hd;rw[List.getElem?_zipIdx] at hc;obtain⟨c',hc',h2⟩:=Qq9.mp hc;cases h2;refine⟨?_,λy H3 hy=>.inr ?_⟩
    ·show i<x.toArray.size;have:=(Qq4.mp hc').1
     simpa using this
    ·obtain⟨p,c2,h3,h4,rfl,rfl⟩:=hy;have h5:x[i]? = some c2:=by simpa[strOf] using h3
     rw[hc'] at h5;cases h5;exact⟨p,_,_,h4,rfl,rfl,rfl,by show 2<=sizeLine;decide,_,_,rfl,by simp[Rep],_,_,rfl,⟨rfl,by show 1<=sizeLine;decide⟩,rfl⟩
  ·cases e2⟩
theorem x_slAQ{lo hi:Option Expr}{el eh:EvP}{p2:Pos}(G:Good X C)(ha:SX X C x a)(hl:SXP X C lo el)(hh:SXP X C hi eh):SX X C (.Subscript x (.Slice lo hi none p2) pos) (evSlA a el eh):=⟨by
 have h:=pe_slice (pos:=pos) (p2:=p2) (SlR.or (SlR.or sl_list sl_tup) (SlR.or (SlR.or sl_tup sl_whole) sl_str)) ha.u hl.u hh.u;rw[G.K] at h;refine h.imp λσ H Q hq=>?_;obtain⟨Pr,F,env,env',d,r,e,q⟩:=hq;obtain⟨x,aO,e1,e2⟩:=aU e;obtain⟨l,bZ,e3,e4⟩:=aU e2;obtain⟨u,env3,e5,e6⟩:=aU e4;obtain⟨e7,rfl⟩:=cM e6;refine⟨Pr,F,env,aO,x,r,e1,λv H1 F1 r1 s1 p1=>⟨Pr,F1,aO,bZ,l,r1,e3,λH2 F2 r2 s2=>⟨Pr,F2,bZ,env',u,r2,e5,λH3 F3 r3 s3=>?_⟩⟩⟩;have p3:=Rep.mono (s2.trans s3) _ _ p1;have q3:∀v H' F',Rel C Pr F' env' σ H'->bu F3 F'->Rep C.K F' d v->Q v H':=λv H' F' r' s' p'=>q v H' F' r' (((s1.trans s2).trans s3).trans s') p';cases x with
 | str z=>
  cases e7;obtain⟨rfl,hz⟩:=p1;exact .inr (.inr ⟨z,rfl,hz,q3 _ H3 F3 r3 (bu.refl _) ⟨rfl,Qqy (cutN_len _ _ _) hz⟩⟩)
 | tup xs=>
  exact .inr (.inl (slT_go r3 p3 (by rw[gSlT_cut];exact e7) q3))
 | lst xs=>exact .inl (sl_go r3 (.inl p3) e7 q3)
 | arr xs=>exact .inl (sl_go r3 (.inl p3) e7 q3)
 | _=>cases e7⟩
theorem x_revTQ{p2 p3 p4:Pos}{k:Nat}(G:Good X C)(ha:SX X C x a):SX X C (.Subscript x (.Slice none none (some (.UnaryOp .USub (.Constant (.int 1) k p4) p3)) p2) pos) (evUn gRevT a):=⟨by
 have h:=pe_revT (p2:=p2) (pos:=pos) ha.u (pe_un (pos:=p3) un_neg (pe_int (i:=1) (j:=k) (pos:=p4)));rw[G.K] at h;refine h.imp λσ H Q hq=>?_;obtain⟨Pr,F,env,env',d,r,e,q⟩:=hq;obtain⟨z,aO,e1,e2⟩:=aU e;obtain⟨e3,rfl⟩:=cM e2;cases z with
 | tup xs=>
  cases e3;refine⟨Pr,F,env,env',.tup xs,r,e1,λv H1 F1 r1 s1 p1=>?_⟩;obtain⟨hz,b,vs,rfl,h1,_,h2⟩:=BRep.tup (K:=C.K) r1.fr (.inl p1);refine⟨1,rfl,b,vs,rfl,h1,rfl,λl hl=>?_⟩;obtain⟨r2,s2⟩:=r1.new (o:=.tup vs.reverse) hl;exact q _ _ _ r2 (s1.trans s2) ⟨by rw[Qx0];exact hz,l,_,rfl,SqT.of bJ,bU.mono s2 _ _ h2.reverse⟩
 | _=>cases e3⟩
theorem x_chainQ{op op':CmpOp}{g g':D->D->Option D}(o:Cm X C op g)(o':Cm X C op' g')(ha:SX X C x a)(hb:SX X C y b)(hc:SX X C z c)(hm:lastMarks [op,op'] [y,z]=false:=by with_unfolding_all rfl):SX X C (.Compare x [op,op'] [y,z] pos) (evChain g g' a b c):=⟨by
 obtain⟨r,h1,h2⟩:=o.ex;obtain⟨r',h1',h2'⟩:=o'.ex;refine(pe_chain (pos:=pos) h1 h1' ha.u hb.u hc.u hm).imp λσ H Q hq=>?_;obtain⟨Pr,F,env,env',d,rl,e,q⟩:=hq;obtain⟨u,aO,e1,e2⟩:=aU e;obtain⟨v,bZ,e3,e4⟩:=aU e2;refine⟨Pr,F,env,aO,u,rl,e1,λvu H1 F1 r1 s1 p1=>⟨Pr,F1,aO,bZ,v,r1,e3,λvv H2 F2 r2 s2 p2=>?_⟩⟩;split at e4
 ·rename_i k hg;refine h2 Pr F2 bZ σ H2 u v (.bl k) vu vv _ r2 (.inl (Rep.mono s2 _ _ p1)) (.inl p2) hg λvz H3 F3 r3 s3 p3=>⟨k,p3,?_⟩;cases k with
  | false=>
   rw[if_neg Qw8] at e4 ⊢;cases e4;exact q _ H3 F3 r3 ((s1.trans s2).trans s3) rfl
  | true=>
   rw[if_pos rfl] at e4 ⊢;obtain⟨t,env3,e5,e6⟩:=aU e4;obtain⟨e7,rfl⟩:=cM e6;exact⟨Pr,F3,bZ,env',t,r3,e5,λvt H4 F4 r4 s4 p4=>h2' Pr F4 env' σ H4 v t d vv vt Q r4 (.inl (Rep.mono (s3.trans s4) _ _ p2)) (.inl p4) e7 λv' H5 F5 r5 s5 p5=>q v' H5 F5 r5 ((((s1.trans s2).trans s3).trans s4).trans s5) p5⟩
 ·cases e4⟩
theorem t_chainQ{op op':CmpOp}{g g':D->D->Option D}(o:Cm X C op g)(o':Cm X C op' g')(ha:SX X C x a)(hb:SX X C y b)(hc:SX X C z c)(hm:lastMarks [op,op'] [y,z]=false:=by with_unfolding_all rfl):SXT X C (.Compare x [op,op'] [y,z] pos) (cU (evChain g g' a b c)):=⟨by
 obtain⟨r,h1,h2⟩:=o.ex;obtain⟨r',h1',h2'⟩:=o'.ex;refine(pt_chain (pos:=pos) h1 h1' ha.u hb.u hc.u hm).imp λσ H Q' hq'=>?_;have hq:=tB_go hq';show tChain r r' (tE C a) (tE C b) (tE C c) σ H _;generalize(λ(z:V) (H':Hp)=>∃b,z = .bl b/\Q' b H')=Q at *;obtain⟨Pr,F,env,env',d,rl,e,q⟩:=hq;obtain⟨u,aO,e1,e2⟩:=aU e;obtain⟨v,bZ,e3,e4⟩:=aU e2;refine⟨Pr,F,env,aO,u,rl,e1,λvu H1 F1 r1 s1 p1=>⟨Pr,F1,aO,bZ,v,r1,e3,λvv H2 F2 r2 s2 p2=>?_⟩⟩;split at e4
 ·rename_i k hg;refine h2 Pr F2 bZ σ H2 u v (.bl k) vu vv _ r2 (.inl (Rep.mono s2 _ _ p1)) (.inl p2) hg λvz H3 F3 r3 s3 p3=>⟨k,p3,?_⟩;cases k with
  | false=>
   rw[if_neg Qw8] at e4 ⊢;cases e4;exact q _ H3 F3 r3 ((s1.trans s2).trans s3) rfl
  | true=>
   rw[if_pos rfl] at e4 ⊢;obtain⟨t,env3,e5,e6⟩:=aU e4;obtain⟨e7,rfl⟩:=cM e6;exact⟨Pr,F3,bZ,env',t,r3,e5,λvt H4 F4 r4 s4 p4=>h2' Pr F4 env' σ H4 v t d vv vt Q r4 (.inl (Rep.mono (s3.trans s4) _ _ p2)) (.inl p4) e7 λv' H5 F5 r5 s5 p5=>q v' H5 F5 r5 ((((s1.trans s2).trans s3).trans s4).trans s5) p5⟩
 ·cases e4⟩
theorem px_ifQ{c x y:Expr}{t:EvT}{a b:Ev}(hc:SXT X C c t)(ha:SX X C x a)(hb:SX X C y b):SX X C (.IfExp c x y pos) (evIf t a b):=⟨(pe_ifExp hc.u ha.u hb.u).imp λσ H Q hq=>by
 obtain⟨Pr,F,env,env',k,rl,e,q⟩:=hq;obtain⟨z,aO,e1,e2⟩:=aU e;refine⟨Pr,F,env,aO,z,rl,e1,λH1 F1 r1 s1=>?_⟩;split at e2
 ·rename_i hz;rw[if_pos hz];exact⟨Pr,F1,aO,env',k,r1,e2,λv2 H2 F2 r2 s2 p2=>q v2 H2 F2 r2 (s1.trans s2) p2⟩
 ·rename_i hz;rw[if_neg hz];exact⟨Pr,F1,aO,env',k,r1,e2,λv2 H2 F2 r2 s2 p2=>q v2 H2 F2 r2 (s1.trans s2) p2⟩⟩
def enumT(xs:List D):List D:=xs.zipIdx.map λp=>.tup [.int (p.2:Nat),p.1]
end
open PySem PySem.Spec PySem.W PySem.Calls PyProof.Rows L2
def FA(K:Fg)(x:Str)(st:Stmt):Prop:=∃(f:Addr) (oc kV doc pm cdv ct:Value) (od an:Option Addr) (osl:Array (Option Value)),PySem.W.nsIn K mainGlobals x=some (some (.ref f))/\
 K.lookup f=some ⟨oc,od,.func (PySem.W.fnOf x x (defArgs st) (defBody st) (aL st) .none kV doc pm an cdv ct),osl⟩/\PySem.W.codeIn K cdv x=true/\PySem.W.keepIn K (.ref f)=true
theorem FA.mk{K:Fg}{x:Str}{st:Stmt}{f:Addr}{oc kV doc pm cdv ct:Value}{od an:Option Addr}{osl:Array (Option Value)}(a:PySem.W.nsIn K mainGlobals x=some (some (.ref f)))
  (l:K.lookup f=some ⟨oc,od,.func (PySem.W.fnOf x x (defArgs st) (defBody st) (aL st) .none kV doc pm an cdv ct),osl⟩) (c:PySem.W.codeIn K cdv x=true) (k:PySem.W.keepIn K (.ref f)=true):FA K x st:=
 ⟨f,oc,kV,doc,pm,cdv,ct,od,an,osl,a,l,c,k⟩
theorem FA.at{K:Fg}{h:Heap}{mg:Str->Option Value}{x:Str}{st:Stmt}{ps:List Str}(X:K.In h)(G:h.Ns mainGlobals mg)(F:FA K x st)
  (b:∀{kV doc pm:Value} {an:Option Addr} {cdv ct:Value} (us:List Value),us.length=ps.length->bindArgs (PySem.W.fnOf x x (defArgs st) (defBody st) (aL st) .none kV doc pm an cdv ct) ⟨us,[]⟩=pure (ps.zip us)):cu K mg x st ps:=by
 obtain⟨f,oc,kV,doc,pm,cdv,ct,od,an,osl,a,l,c,k⟩:=F;exact funAt X G a l c k (λ_ _ _ _ _ _ us hl=>b us hl)
theorem FA.law{P:Program}{w:World}{K:Fg}{h:Heap}{mg:Str->Option Value}{fa:Addr}{x y:Str}{st:Stmt}{k:Nat}{g:List D->Option D}(X:K.In h)(G:h.Ns mainGlobals mg)(hfa:mg x=some (.ref fa))(F:FA K x st)
  (b:∀{kV doc pm:Value} {an:Option Addr} {cdv ct:Value} (s:Shared) (v:Value),BindsTo s (PySem.W.fnOf x x (defArgs st) (defBody st) (aL st) .none kV doc pm an cdv ct) ⟨[v],[]⟩ [(y,v)])
  (q:∀{fd:FuncData} (base:Heap),Fun K x x st fa fd->FnOk P w K mg base CX0 k fa fd [y] (spP K 1 g)) :
  ∃fd:FuncData,(∀(s:Shared) (v:Value),BindsTo s fd ⟨[v],[]⟩ [(y,v)])/\∀base:Heap,K.In base->base.Ns mainGlobals mg->FnOk P w K mg base CX0 k fa fd [y] (spP K 1 g):=by
 obtain⟨f,oc,kV,doc,pm,cdv,ct,od,an,osl,a,l,c,k⟩:=F;have e:=hfa.symm.trans (PySem.W.mg_of X G a);cases e;exact⟨_,b,λbase _ _=>q base (fun_mk (st:=st) l c k)⟩
section
variable{X:Cx}{C:Cfg}{pos apos cpos:Pos}
def stStuck:cz:=λ_=>.stuck
theorem pxs_raiseQ{st:Stmt}:SXS X C st stStuck:=⟨λpins s σ H D I h=>by
 obtain⟨_,_,_,_,f⟩:=h;exact f.elim⟩
end
end Ev
namespace SI
open PySem PySem.Spec PyProof.Rows L2 PySem.Builtin
def Ris(xs:Array Nat):Prop:=∀i j,i<j->j<xs.size->xs.getD i 0<xs.getD j 0
structure Pl(t:SetTable):Prop where
 dm:t.dummies = #[]
 ri:Ris t.place
open SX (led)
structure TOk(P:Program)(w:World)(es:Array (Int×Value))(t:SetTable)(ys:List Int):Prop where
 el:ElemsOf (intKind P w) es.toList
 tx:∃ss:List Int,IntsAre (es.toList.map (·.2)) ss/\ss.Perm ys
 fit:t.fits es.size=true
 ld:t.led=led w
 pl:Pl t
def TSet(P:Program)(w:World)(h:Heap)(a:Addr)(ys:List Int):Prop:=
 ∃o es ep t,h.get? a=some o/\o.ExactSet/\o.data = .set es ep t/\TOk P w es t ys
open PySem PySem.Spec PyProof.Rows L2 PySem.Builtin Ev
def SetO(P:Program)(w:World)(a:Addr)(ys:List Int):HO:=.ext λh=>TSet P w h a ys
end SI
namespace Ev
open PySem PySem.Spec PyProof.Rows L2 PySem.Builtin
instance (zs:List Int):Decidable (zs.Pairwise (·< ·)):=inferInstance
end Ev
namespace L2
open PySem PySem.Spec PyProof.Rows PySem.Builtin
def IteuL(K:PySem.W.Frag)(a:Addr):It:=
 ⟨λi H=>∃xs x,SqL K H a xs/\xs[i]? = some x,λi H v H'=>∃p x,(∀xs,SqL K H a xs->xs[i]? = some x)/\H p=none/\H'=upd H p (.tup [.int i,x])/\v = .ref p,λi H=>∃xs,SqL K H a xs/\i=xs.length⟩
theorem turn_enumL{P:Program}{w:World}{K:PySem.W.Frag}{elts:List Expr}{k:Nat}{pos:Pos}(e it a:Addr)(hei:e≠it)(hai:a≠it)(hae:a≠e) :
  Turn P w K (.Tuple elts k pos) (IteuL K a) [e,it] e (λi h=>(∃old,IsEnum h e it i old)/\h.IsListIter it a i) where
 mem:=by simp
 obj:=λi h st b hb=>by
  obtain⟨⟨old,he⟩,o,ho,hc,hd⟩:=st;rcases Qq3.mp hb with rfl|hb
  ·exact⟨_,he,λv z=>by cases z⟩
  ·rw[Qq2.mp hb];exact⟨o,ho,λv z=>by rw[hd] at z;cases z⟩
 keep:=λi h h' st kk=>by
  obtain⟨⟨old,he⟩,o,ho,r⟩:=st;exact⟨⟨old,kk e (by simp) _ he⟩,o,kk it (by simp) o ho,r⟩
 item:=by
  intro X hP hw hK hc i pins s σ H E I hf st hg;subst hP hw hK;obtain⟨⟨old,he⟩,hit⟩:=st;obtain⟨xs,x,hq,hx⟩:=hg;obtain⟨its,rv,pt,hz⟩:=I.list hq;obtain⟨u,hu,ru⟩:=rv.get hx;have lu:i<its.toArray.size:=by rw[Qq1];exact(Qq4.mp hu).1
  have D1:Draws X.prog X.w X.A.in1 it [it,a] _ _ _:=Draws.list (A:=X.A.in1) (show X.A.in1.handled=none from I.ok.hd hc) it a hai its.toArray;refine wpAny_pyNext_enum_itemD (A:=X.A) D1 he ⟨hit,pt.isList⟩ lu hei (by simp[hei,hae.symm]) λy h' tk hv ho hSt hTup hsz hk=>?_;have ey:y=u:=by have:its.toArray[i]? = some y:=hv;rw[List.getElem?_toArray,hu] at this;exact(Qw1 this).symm
  subst ey;have hT:s.heap.objs.size<=s.heap.objs.size:=Qq0 _;have helt:e<s.heap.objs.size:=Qwj he;have hilt:it<s.heap.objs.size:=by obtain⟨_,x,_⟩:=hit;exact Qwj x
  have nT:H s.heap.objs.size=none:=I.hok.fresh hT;refine⟨_,rfl,?_⟩;refine wpAny_letOwnedTupleGo_enum (s:={ s with heap:=h',toks:=tk+1 }) ho λh'' he'' hs''=>?_;have keep2:∀b o,b≠e->h'.get? b=some o->h''.get? b=some o:=λb o hb q=>(hs''.2 b hb).trans q;have hnT:s.heap.objs.size ∉ [e,it]:=λhb=>by
   rcases Qq3.mp hb with z|hb
   ·exact Qz5 helt z
   ·exact Qz5 hilt (Qq2.mp hb)
  refine⟨.ref s.heap.objs.size,upd H s.heap.objs.size (.tup [.int i,x]),I.drawn (t':=tk+1) (ch:=[e,it]) hf (λb o hb q=>keep2 b o (λz=>hb (by simp[z])) (hk b o (λz=>hb (by simp[z])) (λz=>hb (by simp[z])) q)) hT ?_,rfl,⟨_,x,λzs hq2=>by rw[I.list_inj hq2 hq];exact hx,nT,rfl,rfl⟩,⟨⟨_,by simpa using he''⟩,?_⟩,λb hb=>?_⟩
  ·exact⟨by show 2<=sizeLine;decide,[.int i tk,y],.cons ⟨_,rfl⟩ (.cons ru .nil),_,keep2 _ _ (Qz5 helt) hTup,rfl,⟨_,rfl⟩,rfl⟩
  ·obtain⟨⟨o,q,r⟩,_⟩:=hSt;exact⟨o,keep2 it o hei.symm q,r⟩
  ·have hne:b≠s.heap.objs.size:=λz=>by
    subst z;exact hnT hb
   rw[bY hne];exact(hf b hb).1
 done:=by
  intro X hP hw hK hc i pins s σ H E I hf st hg;subst hP hw hK;obtain⟨xs,hq,hi⟩:=hg;obtain⟨its,rv,pt,hz⟩:=I.list hq;have D1:Draws X.prog X.w X.A.in1 it [it,a] _ _ _:=Draws.list (A:=X.A.in1) (show X.A.in1.handled=none from I.ok.hd hc) it a hai its.toArray;obtain⟨⟨old,he⟩,hit⟩:=st;have hl:=rv.length;have ei:i=its.toArray.size:=by rw[Qq1,hi,hl]
  rw[ei] at he hit;exact wpAny_pyNext_enum_endD (A:=X.A) D1 he ⟨hit,pt.isList⟩ λh' eb=>⟨rfl,I.turnedL (t':=s.toks) (ch:=[e,it]) hf λb o hb q=>eb b o (λz=>hb (by simp[z])) q⟩
 self:=λA i s Q E st h=>by
  obtain⟨⟨old,he⟩,_⟩:=st;exact wpAny_pyIter_enum he h
section
variable{X:Cx}{tg:Expr}
def iEnumL(K:PySem.W.Frag)(ta:TA):TI:=λσ H R=>ta σ H λvs H1=>∃a,vs=[.ref a]/\(∃xs,SqL K H1 a xs)/\R (IteuL K a) H1
theorem pi_enumL{elts:List Expr}{k:Nat}{tp:Pos}{a:Expr}{ta:TA}{p pos:Pos}(hg:Gl X "enumerate")(hm:X.mg "enumerate" = none)(ha:PA X [a] ta)(hs:starEach [a] X.env=[(false,eval a X.env)]:=by rfl):PI X (.Tuple elts k tp) (.Call (.Name "enumerate" p) [a] [] pos) (iEnumL X.K ta):=by
 intro pins s σ H R I h;refine Call_ (ld_blt I hg hm PyProof.Rows.boot_enumerate (Qx5 (thn (ha pos pins s σ H _ I h) λus s1 ⟨vs,H1,I1,r1,q1⟩=>?_) hs rfl));have own:∀b ∈ [s1.heap.objs.size+1,s1.heap.objs.size],FpOk X pins H1 b:=λb hb=>by
  rcases Qq3.mp hb with rfl|hb
  ·exact I1.fpOk (Nat.le_succ _) (I1.hok.fresh (Nat.le_succ _))
  ·rw[Qq2.mp hb];exact I1.fpOk (Qq0 _) (I1.hok.fresh (Qq0 _))
 obtain⟨l,e,⟨xs,hl⟩,q⟩:=q1;subst e;cases r1 with
 | cons r rr=>
  cases rr;cases r;obtain⟨its,rv,pt,hz⟩:=I1.list hl;have ll:l<s1.heap.objs.size:=pt.lt;refine call_enumerate_list (show s1.heap.IsList l its.toArray from pt.isList) λh' he hit hsz hk=>?_;refine wpAny_pyIter_enum he ?_;have I2:Inv X pins σ H1 { s1 with heap:=h' }:=I1.kept (t':=s1.toks) hk;exact⟨s1.heap.objs.size+1,[s1.heap.objs.size+1,s1.heap.objs.size],_,_,H1,rfl,I2,turn_enumL _ _ l (Nat.succ_ne_self _) (Qw5 ll) (Qw5 (Nat.lt_succ_of_lt ll)),⟨⟨_,he⟩,hit⟩,own,q⟩
end
end L2
namespace Ev
open PySem PySem.Spec PyProof.Rows L2 PySem.Builtin
section
variable{X:Cx}{C:Cfg}{pos:Pos}{e:Expr}
def evEnumL(a:EvA):EvA:=λenv=>bindR (a env) λds aO=>match ds with
 | [.lst xs]=>.ok (enumT xs) aO
 | _=>.stuck
end
theorem i_enumLQ{X:Cx}{C:Cfg}{pos:Pos}{e:Expr}{elts:List Expr}{k:Nat}{tp p:Pos}{ea:EvA}(G:Good X C)(hm:X.mg "enumerate" = none)(ha:SXA X C [e] ea)(hg:Gl X "enumerate":=by rfl)(hs:starEach [e] X.env=[(false,eval e X.env)]:=by rfl):SXI X C (.Tuple elts k tp) (.Call (.Name "enumerate" p) [e] [] pos) (evEnumL ea):=⟨by
 have h:=pi_enumL (k:=k) (tp:=tp) (elts:=elts) (p:=p) (pos:=pos) hg hm ha.u hs;rw[G.K] at h;refine h.imp λσ H R hq=>?_;obtain⟨Pr,F,env,env',ds,r,e,q⟩:=hq;obtain⟨as,aO,e1,e2⟩:=aU e;refine⟨Pr,F,env,aO,as,r,e1,λvs H1 F1 r1 s1 p1=>?_⟩;split at e2
 ·rename_i xs;cases e2;obtain⟨v,w,rfl,pv,p2⟩:=p1;cases p2;obtain⟨hz,a,us,rfl,h1,h2⟩:=pv;refine⟨a,rfl,⟨us,.inl (.inl (r1.fr _ _ h1))⟩,q _ H1 F1 r1 s1 λi H2 s2=>⟨λ_ ei=>?_,λd hd=>?_⟩⟩
  ·refine⟨us,(.inl (.inl (s2 _ _ h1))),?_⟩;rw[ei,h2.length];simp[enumT]
  ·unfold enumT at hd;rw[Qxq] at hd;obtain⟨⟨c,j⟩,hc,rfl⟩:=Qq9.mp hd;rw[List.getElem?_zipIdx] at hc;obtain⟨c',hc',h3⟩:=Qq9.mp hc;cases h3;obtain⟨u,hu,ru⟩:=h2.get hc';refine⟨⟨us,u,(.inl (.inl (s2 _ _ h1))),hu⟩,λy H3 hy=>.inr ?_⟩;obtain⟨p,x2,h3,h4,rfl,rfl⟩:=hy;have h5:=h3 us ((.inl (.inl (s2 _ _ h1))));rw[hu] at h5;cases h5;exact⟨p,_,_,h4,rfl,rfl,rfl,by show 2<=sizeLine;decide,_,_,rfl,by simp[Rep],_,_,rfl,ru,rfl⟩
 ·cases e2⟩
open PySem PySem.Spec PyProof.Rows L2
theorem pxs_dropQ{X:Cx}{C:Cfg}{pos:Pos}{e:Expr}{a:Ev}(he:SX X C e a)(hs:swapsWith e none pos.line X.env=pure false:=by rfl):SXS X C (.Expr e pos) (stDrop a):=⟨(ps_expr he.u hs).imp λD σ H hq=>by
 obtain⟨Pr,F,env,r,f⟩:=hq;obtain⟨d,aO,e1,f1⟩:=bindO_fin f;exact⟨Pr,F,env,aO,d,r,e1,λv H1 F1 r1 s1 p1=>f1 σ H1 F1 r1 s1⟩⟩
end Ev
namespace L2
open PySem PySem.Spec PySem.W PySem.Calls PyProof.Rows
theorem vals_strsFrom:∀(ss:List Str) (n:Nat),Vals (ss.map V.str) (strsFrom n ss)
 | [],_=>.nil
 | s::ss,n=>.cons ⟨n,rfl⟩ (vals_strsFrom ss (n+1))
section
variable{X:Cx}
def rSplit:V->List V->Hp->VK->Prop:=λx vs H Q=>∃z y,x = .str z/\vs=[.str y]/\(y.length == 0)=false/\z.length<=sizeLine/\(Txt.split z y).length<=sizeLine/\∀l,H l=none->Q (.ref l) (upd H l (.lst ((Txt.split z y).map .str)))
theorem mt_split:MtM X "str.split" rSplit:=by
 intro pins s σ H x vs v us Q I rx rv h;obtain⟨z,y,rfl,rfl,hy,hz,hl,q⟩:=h;obtain⟨t,rfl⟩:=rx;obtain⟨u,rfl,t',rfl⟩:=rv.one;have hn:H s.heap.objs.size=none:=I.hok.fresh (Qq0 _);have one:Txt.split z y=[z]->EP X pins σ Q (.ref s.heap.objs.size) { s with heap:=s.heap.push { cls:=Value.type "list",data:=Data.seq #[Value.str z t] } }:=λe=>by
  have q1:=q _ hn;rw[e] at q1;refine⟨.ref s.heap.objs.size,_,I.laid (λb o e=>Qqw _ e) (Qq0 _) (o:=.lst [.str z]) ⟨by show 1<=sizeLine;decide,[Value.str z t],0,.cons ⟨t,rfl⟩ .nil,?_⟩,rfl,q1⟩;exact Qwv s.heap rfl
 by_cases c1:(decide (z.length<y.length)||decide (Builtin.Str.strKind z<Builtin.Str.strKind y))=true
 ·refine call_meets F.slot_str_split (typeIs_str s z t) F.entry_str_split (F.args_str_split_2 _ _) (meets_str_split_cannot_occur z y t t' c1) ?_;exact one (by unfold Txt.split;rw[if_pos c1])
 ·have c1':=Bool.eq_false_iff.mpr c1;by_cases c2:(Builtin.Str.occurrences z y 0 z.length (z.length+1)).isEmpty=true
  ·refine call_meets F.slot_str_split (typeIs_str s z t) F.entry_str_split (F.args_str_split_2 _ _) (meets_str_split_not_found z y t t' c1' hy c2) ?_;exact one (by unfold Txt.split;rw[if_neg c1,if_pos c2])
  ·have c2':=Bool.eq_false_iff.mpr c2;have e:Txt.split z y=Builtin.Str.partsBetween z (Builtin.Str.occurrences z y 0 z.length (z.length+1)) y.length:=by unfold Txt.split;rw[if_neg c1,if_neg c2]
   rw[e] at hl;refine call_meets F.slot_str_split (typeIs_str s z t) F.entry_str_split (F.args_str_split_2 _ _) (meets_str_split_sep z y t t' c1' hy c2' hz hl) ?_;have q1:=q _ hn;rw[e] at q1;generalize Builtin.Str.partsBetween z (Builtin.Str.occurrences z y 0 z.length (z.length+1)) y.length=ps at *;refine⟨.ref s.heap.objs.size,_,I.laid (λb o e=>Qqw _ e) (Qq0 _) (o:=.lst (ps.map .str)) ⟨by rw[Qqx];exact hl,strsFrom s.toks ps,0,vals_strsFrom ps _,?_⟩,rfl,q1⟩;exact Qwv s.heap rfl
def rStarts:V->List V->Hp->VK->Prop:=λx vs H Q=>∃z y,x = .str z/\vs=[.str y]/\Q (.bl (decide (0+y.length<=z.length)&&Builtin.Str.subAt z y 0)) H
theorem mt_starts:MtM X "str.startswith" rStarts:=by intro pins s σ H x vs v us Q I rx rv h;obtain⟨z,y,rfl,rfl,q⟩:=h;obtain⟨t,rfl⟩:=rx;obtain⟨u,rfl,t',rfl⟩:=rv.one;exact call_gives F.slot_str_startswith (typeIs_str s z t) F.entry_str_startswith (F.args_str_startswith_2 _ _) (gives_str_startswith z y t t') ⟨.bl _,H,I,rfl,q⟩
def rEnds:V->List V->Hp->VK->Prop:=λx vs H Q=>∃z y,x = .str z/\vs=[.str y]/\Q (.bl (decide (0+y.length<=z.length)&&Builtin.Str.subAt z y (z.length - y.length))) H
theorem mt_ends:MtM X "str.endswith" rEnds:=by intro pins s σ H x vs v us Q I rx rv h;obtain⟨z,y,rfl,rfl,q⟩:=h;obtain⟨t,rfl⟩:=rx;obtain⟨u,rfl,t',rfl⟩:=rv.one;exact call_gives F.slot_str_endswith (typeIs_str s z t) F.entry_str_endswith (F.args_str_endswith_2 _ _) (gives_str_endswith z y t t') ⟨.bl _,H,I,rfl,q⟩
end
end L2
namespace Ev
open PySem PySem.Spec PySem.W PySem.Calls PyProof.Rows L2
def splitX(x y:List Nat):List (List Nat):=(Txt.split (strOf x) (strOf y)).map λs=>s.cps.toList
def gSplit:D->D->Option D
 | .str x,.str y=>if y≠[]/\x.length<=sizeLine/\(splitX x y).length<=sizeLine/\∀p∈splitX x y,p.length<=sizeLine then some (.lst ((splitX x y).map .str)) else none
 | _,_=>none
def gStarts:D->D->Option D
 | .str x,.str y=>some (.bl (decide (0+(strOf y).length<=(strOf x).length)&&Builtin.Str.subAt (strOf x) (strOf y) 0))
 | _,_=>none
def gEnds:D->D->Option D
 | .str x,.str y=>some (.bl (decide (0+(strOf y).length<=(strOf x).length)&&Builtin.Str.subAt (strOf x) (strOf y) ((strOf x).length - (strOf y).length)))
 | _,_=>none
theorem reps_splitX{K:Fg}{F:Hp}:∀(ss:List Str),(∀p∈ss.map (λs=>s.cps.toList),p.length<=sizeLine)->bU K F ((ss.map λs=>s.cps.toList).map .str) (ss.map V.str)
 | [],_=>rfl
 | s::ss,h=>⟨V.str s,ss.map V.str,rfl,⟨by rw[strOf_cps],h _ (Qqz ..)⟩,reps_splitX ss λp hp=>h p (Qqj _ hp)⟩
section
variable{X:Cx}{C:Cfg}{o e:Expr}{a b:Ev}{apos cpos:Pos}
theorem x_splitQ(G:Good X C)(ho:SX X C o a)(he:SXB X C e b)(hbase:attributeBase o "split" X.env (eval o X.env)=eval o X.env:=by rfl)
  (hs:sEn e X.env:=by rfl)
  (hfew:((backTo cpos (starEach [e] X.env)).all (λx=>!x.1)&&(backToKw cpos (keywordEach [] X.env)).all (λx=>x.1.isSome)
   && decide ([e].length+([]:List Keyword).length+(if ([]:List Keyword).isEmpty then 0 else 1)<30))=true:=by rfl)
  (hline:(apos.endLine == cpos.line)=true:=by rfl) (hplain:(backTo cpos (starEach [] X.env)).any (·.1)=false:=by rfl) :
  SX X C (.Call (.Attribute o "split" apos) [e] [] cpos) (aG gSplit a b):=⟨by
 refine(pe_bm PySem.F.plainAttrs_str PySem.F.slot_str_split PySem.F.type_str_split mt_split ho.u (pa_cons he.u pa_nil hs) hbase hfew hline hs hplain).imp λσ H Q hq=>?_;obtain⟨Pr,F,env,env',d,r,e0,q⟩:=hq;obtain⟨x,aO,e1,e2⟩:=aU e0;obtain⟨y,bZ,e3,e4⟩:=aU e2;obtain⟨e5,rfl⟩:=cM e4;unfold gSplit at e5;split at e5
 ·rename_i z y;split at e5
  ·rename_i hz;obtain⟨g1,g2,g3,g4⟩:=hz;cases e5;refine⟨Pr,F,env,aO,_,r,e1,λvx H1 F1 r1 s1 p1=>?_⟩;obtain⟨rfl,_⟩:=p1;refine⟨rfl,Pr,F1,aO,env',_,r1,e3,λvy H2 F2 r2 s2 p2=>?_⟩;obtain⟨rfl,_⟩:=p2.str;refine⟨strOf z,strOf y,rfl,rfl,?_,by rw[bF];exact g2,by unfold splitX at g3;rw[Qqx] at g3;exact g3,λl hl=>?_⟩
   ·rw[bF,Qxy];exact λz=>g1 (List.length_eq_zero_iff.mp z)
   ·obtain⟨F3,r3,s3,p3⟩:=(r2.fresh (o:=.lst ((Txt.split (strOf z) (strOf y)).map .str)) hl).keep (New.of r2 hl (show OwnAt C.K F2 (upd H2 l (.lst ((Txt.split (strOf z) (strOf y)).map .str))) (.lst ((splitX z y).map .str)) l from⟨by rw[Qqx];exact g3,_,bJ,reps_splitX _ g4⟩));exact q _ _ F3 r3 (s1.trans (s2.trans s3)) p3
  ·cases e5
 ·cases e5⟩
theorem x_startsQ(G:Good X C)(ho:SX X C o a)(he:SXB X C e b)(hbase:attributeBase o "startswith" X.env (eval o X.env)=eval o X.env:=by rfl)
  (hs:sEn e X.env:=by rfl)
  (hfew:((backTo cpos (starEach [e] X.env)).all (λx=>!x.1)&&(backToKw cpos (keywordEach [] X.env)).all (λx=>x.1.isSome)
   && decide ([e].length+([]:List Keyword).length+(if ([]:List Keyword).isEmpty then 0 else 1)<30))=true:=by rfl)
  (hline:(apos.endLine == cpos.line)=true:=by rfl) (hplain:(backTo cpos (starEach [] X.env)).any (·.1)=false:=by rfl) :
  SX X C (.Call (.Attribute o "startswith" apos) [e] [] cpos) (aG gStarts a b):=⟨by
 refine(pe_bm PySem.F.plainAttrs_str PySem.F.slot_str_startswith PySem.F.type_str_startswith mt_starts ho.u (pa_cons he.u pa_nil hs) hbase hfew hline hs hplain).imp λσ H Q hq=>?_;obtain⟨Pr,F,env,env',d,r,e0,q⟩:=hq;obtain⟨x,aO,e1,e2⟩:=aU e0;obtain⟨y,bZ,e3,e4⟩:=aU e2;obtain⟨e5,rfl⟩:=cM e4;unfold gStarts at e5;split at e5
 ·rename_i z y;cases e5;refine⟨Pr,F,env,aO,_,r,e1,λvx H1 F1 r1 s1 p1=>?_⟩;obtain⟨rfl,_⟩:=p1;refine⟨rfl,Pr,F1,aO,env',_,r1,e3,λvy H2 F2 r2 s2 p2=>?_⟩;obtain⟨rfl,_⟩:=p2.str;exact⟨strOf z,strOf y,rfl,rfl,q _ H2 F2 r2 (s1.trans s2) rfl⟩
 ·cases e5⟩
theorem x_endsQ(G:Good X C)(ho:SX X C o a)(he:SXB X C e b)(hbase:attributeBase o "endswith" X.env (eval o X.env)=eval o X.env:=by rfl)
  (hs:sEn e X.env:=by rfl)
  (hfew:((backTo cpos (starEach [e] X.env)).all (λx=>!x.1)&&(backToKw cpos (keywordEach [] X.env)).all (λx=>x.1.isSome)
   && decide ([e].length+([]:List Keyword).length+(if ([]:List Keyword).isEmpty then 0 else 1)<30))=true:=by rfl)
  (hline:(apos.endLine == cpos.line)=true:=by rfl) (hplain:(backTo cpos (starEach [] X.env)).any (·.1)=false:=by rfl) :
  SX X C (.Call (.Attribute o "endswith" apos) [e] [] cpos) (aG gEnds a b):=⟨by
 refine(pe_bm PySem.F.plainAttrs_str PySem.F.slot_str_endswith PySem.F.type_str_endswith mt_ends ho.u (pa_cons he.u pa_nil hs) hbase hfew hline hs hplain).imp λσ H Q hq=>?_;obtain⟨Pr,F,env,env',d,r,e0,q⟩:=hq;obtain⟨x,aO,e1,e2⟩:=aU e0;obtain⟨y,bZ,e3,e4⟩:=aU e2;obtain⟨e5,rfl⟩:=cM e4;unfold gEnds at e5;split at e5
 ·rename_i z y;cases e5;refine⟨Pr,F,env,aO,_,r,e1,λvx H1 F1 r1 s1 p1=>?_⟩;obtain⟨rfl,_⟩:=p1;refine⟨rfl,Pr,F1,aO,env',_,r1,e3,λvy H2 F2 r2 s2 p2=>?_⟩;obtain⟨rfl,_⟩:=p2.str;exact⟨strOf z,strOf y,rfl,rfl,q _ H2 F2 r2 (s1.trans s2) rfl⟩
 ·cases e5⟩
end
end Ev
namespace L2
open PySem PySem.Spec PySem.W PySem.Calls PyProof.Rows
theorem pe_fstr{X:Cx}{a b:Expr}{ta tb:TE}{c:Str}{j:Nat}{p1 p2 p3 pos:Pos}(ha:PE X a ta)(hb:PE X b tb) :
  PE X (.JoinedStr [.FormattedValue a (-1) none p1,.Constant (.str c) j p2,.FormattedValue b (-1) none p3] pos)
   (λσ H Q=>ta σ H λx H1=>∃u,x = .str u/\u.length<=sizeLine/\(u++c).length<=sizeLine/\tb σ H1 λy H2=>∃v,y = .str v/\v.length<=sizeLine/\(u++c++v).length<=sizeLine/\Q (.str (u++c++v)) H2):=by
 intro pins s σ H Q I h;refine JoinedStr_many (joinParts_cons (FormattedValue_plain (thn (ha pins s σ H _ I h) λv s1 ⟨x,H1,I1,rx,u,ex,hu,hc,h1⟩=>?_)));subst ex;obtain⟨t,rfl⟩:=rx;have e0:Str.empty++u=u:=by have h:=Ev.strOf_append [] u.cps.toList;rw[Ev.strOf_cps,List.nil_append,Ev.strOf_cps] at h;exact h
 refine formatField_str (λt' tk=>?_) hu;show(Str.empty++u).length<=sizeLine/\_;rw[e0];refine⟨hu,joinParts_cons (Calls.Constant_str ?_)⟩;refine⟨hc,joinParts_consE (joinParts_cons (FormattedValue_plain (thn (hb pins _ σ H1 _ (I1.tok _) h1) λv2 s2 ⟨y,H2,I2,ry,w,ey,hw,hl,h2⟩=>?_)))⟩;subst ey;obtain⟨t2,rfl⟩:=ry;refine formatField_str (λt' tk=>?_) hw;refine⟨hl,joinParts_nilE (joinParts_nil ?_ hl)⟩;exact⟨.str _,H2,I2.tok _,⟨_,rfl⟩,h2⟩
end L2
namespace Ev
open PySem PySem.Spec PySem.W PySem.Calls PyProof.Rows L2
def evFmt(c:List Nat)(a b:Ev):Ev:=λenv=>bindR (a env) λx e1=>bindR (b e1) λy e2=>match x,y with
 | .str u,.str v=>if u.length+c.length+v.length<=sizeLine then .ok (.str (u++c++v)) e2 else .stuck
 | _,_=>.stuck
theorem x_fmtQ{X:Cx}{C:Cfg}{a b:Expr}{ea eb:Ev}(c:List Nat){cs:Str}{j:Nat}{p1 p2 p3 pos:Pos}(hc:cs=strOf c)(ha:SX X C a ea)(hb:SX X C b eb) :
  SX X C (.JoinedStr [.FormattedValue a (-1) none p1,.Constant (.str cs) j p2,.FormattedValue b (-1) none p3] pos) (evFmt c ea eb):=⟨by
 subst hc;refine(pe_fstr ha.u hb.u).imp λσ H Q hq=>?_;obtain⟨Pr,F,env,env',d,r,e0,q⟩:=hq;obtain⟨x,aO,e1,e2⟩:=aU e0;obtain⟨y,bZ,e3,e4⟩:=aU e2;split at e4
 ·rename_i u v;split at e4
  ·rename_i hl;cases e4;refine⟨Pr,F,env,aO,_,r,e1,λvx H1 F1 r1 s1 p1=>?_⟩;obtain⟨rfl,g1⟩:=p1;refine⟨strOf u,rfl,by rw[bF];exact g1,by rw[strOf_append,bF,Qqq];omega,Pr,F1,aO,env',_,r1,e3,λvy H2 F2 r2 s2 p2=>?_⟩;obtain⟨rfl,g2⟩:=p2;refine⟨strOf v,rfl,by rw[bF];exact g2,by rw[strOf_append,strOf_append,bF,Qqq,Qqq];omega,?_⟩;rw[strOf_append,strOf_append];exact q _ H2 F2 r2 (s1.trans s2) ⟨rfl,by rw[Qqq,Qqq];omega⟩
  ·cases e4
 ·cases e4⟩
end Ev
namespace L2
open PySem PySem.Spec PySem.W PySem.Calls PyProof.Rows
theorem slicePick_rev1(its:List Value):slicePick its.toArray none (some 0) (some (-1))=((its.drop 1).reverse).toArray:=by
 unfold slicePick
 congr 1
 rw[Qq1];have b:sliceBounds none (some 0) (some (-1)) its.length=((its.length:Int) - 1,(if its.length=0 then -1 else 0), -1):=by
  unfold sliceBounds;simp only[Option.getD_some];rw[if_neg (by decide),if_neg (by decide),if_neg (by decide)]
  congr 2
  split<;>omega
 rw[b];simp only;have r:sliceRange ((its.length:Int) - 1) (if its.length=0 then -1 else 0) (-1)=(List.range (its.length - 1)).map λk=>its.length - 1 - k:=by
  unfold sliceRange;simp only;rw[if_neg (by decide)];have hc:(if ((its.length:Int) - 1) > (if its.length=0 then (-1:Int) else 0) then ((its.length:Int) - 1 - (if its.length=0 then (-1:Int) else 0) - -1 - 1) / - (-1:Int) else 0).toNat=its.length - 1:=by rw[show(- (-1:Int))=1 from rfl,Int.ediv_one];split<;>split<;>omega
  rw[hc];refine Qjk λk hk=>?_;have:=Qzy.mp hk;omega
 rw[r];have e:((List.range (its.length - 1)).map λk=>its.length - 1 - k).filterMap (λx=>its.toArray[x]?)=(List.range (its.length - 1)).map λk=>its.getD (its.length - 1 - k) .none:=by
  rw[List.filterMap_map];apply HT.fm_map;intro k hk;have hk:=Qzy.mp hk;have h2:its.length - 1 - k<its.length:=by omega
  simp[h2]
 rw[e];apply List.ext_getElem
 ·simp
 ·intro i h1 h2;have hi:i<its.length - 1:=by simpa using h1
  have h3:its.length - 1 - i<its.length:=by omega
  simp[List.getElem_reverse,Qx8,h3]
  congr 1
  omega
section
variable{X:Cx}{e:Expr}{te:TE}
def tRev1(K:PySem.W.Frag)(te tu ts:TE):TE:=λσ H Q=>te σ H λx H1=>tu σ H1 λz H2=>ts σ H2 λy H3=>∃a xs,x = .ref a/\SqL K H3 a xs/\z = .int 0/\y = .int (-1)/\∀l,H3 l=none->Q (.ref l) (upd H3 l (.lst (xs.drop 1).reverse))
theorem pe_rev1{up st:Expr}{tu ts:TE}{p2 pos:Pos}(he:PE X e te)(hu:PE X up tu)(hst:PE X st ts):PE X (.Subscript e (.Slice none (some up) (some st) p2) pos) (tRev1 X.K te tu ts):=by intro pins s σ H Q I h;refine Subscript_ (thn (he pins s σ H _ I h) λv s1 ⟨x,H1,I1,r1,q1⟩=>?_);refine wpAny_Slice ?_;rw[evalPart_none,evalPart_some,evalPart_some];refine Qq6 (thn (hu pins s1 σ H1 _ I1 q1) λw0 s2 ⟨z,H2,I2,r2,q2⟩=>(thn (hst pins s2 σ H2 _ I2 q2) λw s3 ⟨y,H3,I3,r3,q3⟩=>?_));obtain⟨a,xs,ex,hx,ez,ey,q⟩:=q3;subst ex;subst ey;subst ez;cases r1;obtain⟨t,rfl⟩:=r2;obtain⟨t',rfl⟩:=r3;have I4:Inv X pins σ H3 { s3 with heap:=s3.heap.push { cls:=.type "slice",data:=.fields #[.none,.int 0 t,.int (-1) t'] } }:=I3.kept (t':=s3.toks) λb ob q=>Qqw _ q;obtain⟨its,r,ht,hz⟩:=I4.list hx;show wpAny (model X.prog X.w) X.A (subscriptTail e (.Slice none (some up) (some st) p2) (.ref a) (.ref s3.heap.objs.size)) (EP X pins σ Q) X.xe { s3 with heap:=s3.heap.push { cls:=.type "slice",data:=.fields #[.none,.int 0 t,.int (-1) t'] } };refine tail_any (ops:=[.ref a,.ref s3.heap.objs.size]) ht.isList.typeIs slot_list_getitem.lookup ?_ (by with_unfolding_all rfl);have hlen:its.length=xs.length:=r.length.symm;refine wpAny_getItem_list_slice ht.isList ⟨_,Qwv _ rfl,rfl,rfl⟩ .none (.int 0 t) (.int (-1) t') (by decide) ?_ (by rw[Qq1,hlen];exact hz);rw[slicePick_rev1];refine⟨.ref _,_,I4.laid (t':=s3.toks) (λb o e=>Qqw _ e) (Qq0 _) (o:=.lst (xs.drop 1).reverse) ⟨by rw[Qx0,Qx6];omega,(its.drop 1).reverse,0,vals_rev (r.drop 1),Qwv _ rfl⟩,rfl,q _ (I4.hok.fresh (Qq0 _))⟩
end
end L2
namespace Ev
open PySem PySem.Spec PyProof.Rows L2 PySem.Builtin
section
variable{X:Cx}{C:Cfg}{pos:Pos}{x:Expr}{a:Ev}
def gRev1:D->Option D
 | .lst xs=>some (.lst (xs.drop 1).reverse)
 | _=>none
end
theorem x_rev1Q{X:Cx}{C:Cfg}{pos:Pos}{x:Expr}{a:Ev}{p2 p3 p4 p5:Pos}{k k0:Nat}(G:Good X C)(ha:SX X C x a):SX X C (.Subscript x (.Slice none (some (.Constant (.int 0) k0 p5)) (some (.UnaryOp .USub (.Constant (.int 1) k p4) p3)) p2) pos) (evUn gRev1 a):=⟨by
 have h:=pe_rev1 (p2:=p2) (pos:=pos) ha.u (pe_int (i:=0) (j:=k0) (pos:=p5)) (pe_un (pos:=p3) un_neg (pe_int (i:=1) (j:=k) (pos:=p4)));rw[G.K] at h;refine h.imp λσ H Q hq=>?_;obtain⟨Pr,F,env,env',d,r,e,q⟩:=hq;obtain⟨z,aO,e1,e2⟩:=aU e;obtain⟨e3,rfl⟩:=cM e2;cases z with
 | lst xs=>
  cases e3;refine⟨Pr,F,env,env',.lst xs,r,e1,λv H1 F1 r1 s1 p1=>?_⟩;obtain⟨hz,b,vs,rfl,h1,h2⟩:=BRep.lst (K:=C.K) r1.fr (.inl p1);refine⟨1,rfl,b,vs,rfl,SqL.of h1,rfl,rfl,λl hl=>?_⟩;obtain⟨F2,r2,s2,p2⟩:=(r1.fresh (o:=.lst (vs.drop 1).reverse) hl).keep (New.of r1 hl (show OwnAt C.K F1 (upd H1 l (.lst (vs.drop 1).reverse)) (.lst (xs.drop 1).reverse) l from⟨by rw[Qx0,Qx6];omega,_,bJ,(bU.drop 1 h2).reverse⟩));exact q _ _ F2 r2 (s1.trans s2) p2
 | _=>cases e3⟩
open PySem PySem.Spec PySem.W PySem.Calls PyProof.Rows L2
section
variable{X:Cx}
def rJoinT(K:Fg):V->List V->Hp->VK->Prop:=λx vs H Q=>∃sep xs p,x = .str (strOf sep)/\vs=[.ref p]/\SqT K H p (xs.map λx=>V.str (strOf x))/\joinFits sep xs=true/\Q (.str (strOf (joinN sep xs))) H
theorem mt_joinT:MtR X "str.join" (rJoinT X.K):=by
 intro pins s σ H x vs v us Q I rx rv h;obtain⟨sep,xs,p,rfl,rfl,hq,hf,q⟩:=h;obtain⟨t,rfl⟩:=rx;obtain⟨u,rfl,ru⟩:=vals1 rv;cases ru;obtain⟨its,r,pl,_⟩:=I.tuple hq;have hs:=vals_strs r;refine join_tuple pl (by simpa using hs) ?_ λt' k=>?_
 ·have hf':=Qq7 hf;have e:((xs.map strOf).map (·.length))=xs.map List.length:=by
   rw[Qz4];apply Qjk;intro z _;exact bF z
  rw[e,bF,Qqx];exact hf'
 ·rw[join_str];exact⟨.str _,H,I.tok k,⟨t',rfl⟩,q⟩
def rIndexL(K:Fg):V->List V->Hp->VK->Prop:=λx vs H Q=>∃a zs z j,x = .ref a/\vs=[.str (strOf z)]/\SqL K H a (zs.map λy=>V.str (strOf y))/\placeX z zs=some j/\Q (.int j) H
theorem mt_lstIndex:MtM X "list.index" (rIndexL X.K):=by
 intro pins s σ H x vs v us Q I rx rv h;obtain⟨a,zs,z,j,rfl,rfl,hq,hp,q⟩:=h;cases rx;obtain⟨u,rfl,ru⟩:=rv.one;obtain⟨t,rfl⟩:=ru;obtain⟨its,r,ht,hz⟩:=I.list hq;obtain⟨hj,h1,h2⟩:=placeX_ok hp;have hlen:its.length=zs.length:=by rw[<-r.length,Qqx]
 have key:∀m (hm:m<zs.length),∃tk,its[m]? = some (.str (strOf zs[m]) tk):=λm hm=>by
  obtain⟨w,e1,e2⟩:=r.get (i:=m) (x:=V.str (strOf zs[m])) (by simp[hm]);obtain⟨tk,rfl⟩:=e2;exact⟨tk,e1⟩
 have at':∀m (hm:m<zs.length) (hm':m<its.toArray.size),∃tk,its.toArray[m] = .str (strOf zs[m]) tk:=λm hm hm'=>by
  obtain⟨tk,e⟩:=key m hm;exact⟨tk,by simpa[Qq4] using (Qq4.mp e).2⟩
 let e:Value->Bool:=λy=>match y with|.str y _=>y == strOf z|_=>false
 obtain⟨o,ho,hc,n,hd⟩:=ht.isList;obtain⟨cls,dd,data,sl⟩:=o;simp only at hc hd;subst hc hd;have hjs:j<its.toArray.size:=by simpa[hlen] using hj
 refine call_meets F.slot_list_index ⟨_,ho,rfl⟩ F.entry_list_index (F.args_list_index_2 _ _) (SeqAt.list_indexAt a its.toArray n dd sl (.str (strOf z) t) e j hjs ?_ ?_ ?_) ⟨ho,λy hy=>?_,?_⟩
 ·have:zs.length<=sizeLine:=by rw[<-hlen,<-r.length] at *;exact hz
  rw[sizeLine_eq] at this;omega
 ·obtain⟨tk,e1⟩:=at' j hj hjs;rw[e1,h1];show(strOf z == strOf z)=true;simp
 ·intro m hm hmj;have hm':m<zs.length:=by simpa[hlen] using hm
  obtain⟨tk,e1⟩:=at' m hm' hm;rw[e1];show(strOf zs[m] == strOf z)=false;rw[Qxy];intro e2;refine h2 m hm' hmj ?_;have:=Qzq (λs:Str=>s.cps.toList) e2
  simpa[strOf] using this
 ·obtain⟨m,hm,rfl⟩:=Array.mem_iff_getElem.mp hy;have hm':m<zs.length:=by simpa[hlen] using hm
  obtain⟨tk,e1⟩:=at' m hm' hm;rw[e1];exact SeqAt.EqAt.str_str _ tk _ t
 ·exact⟨.int j,H,I.tok _,⟨_,rfl⟩,q⟩
end
def gJoinT(x y:D):Option D:=match x,y with
 | .str sep,.tup ds=>(match strsD ds with
  | some xs=>if joinFits sep xs=true then some (.str (joinN sep xs)) else none
  | none=>none)
 | _,_=>none
def gLIndex:D->D->Option D
 | .lst ds,.str z=>(strsD ds).bind λzs=>(placeX z zs).map λj=>.int (j:Nat)
 | _,_=>none
section
variable{X:Cx}{C:Cfg}{o e:Expr}{a b:Ev}{apos cpos:Pos}
theorem x_joinTQ(G:Good X C)(ho:SX X C o a)(he:SXB X C e b)(hbase:attributeBase o "join" X.env (eval o X.env)=eval o X.env:=by rfl)
  (hs:sEn e X.env:=by rfl)
  (hfew:((backTo cpos (starEach [e] X.env)).all (λx=>!x.1)&&(backToKw cpos (keywordEach [] X.env)).all (λx=>x.1.isSome)
   && decide ([e].length+([]:List Keyword).length+(if ([]:List Keyword).isEmpty then 0 else 1)<30))=true:=by rfl)
  (hline:(apos.endLine == cpos.line)=true:=by rfl) (hplain:(backTo cpos (starEach [] X.env)).any (·.1)=false:=by rfl) :
  SX X C (.Call (.Attribute o "join" apos) [e] [] cpos) (aG gJoinT a b):=⟨by
 have h:=pe_bm (cpos:=cpos) PySem.F.plainAttrs_str PySem.F.slot_str_join PySem.F.type_str_join mt_joinT ho.u (pa_cons he.u pa_nil hs) hbase hfew hline hs hplain;rw[G.K] at h;refine h.imp λσ H Q h=>?_;obtain⟨Pr,F,env,env',d,rl,e0,q⟩:=h;obtain⟨x,aO,e1,e2⟩:=aU e0;obtain⟨y,bZ,e3,e4⟩:=aU e2;obtain⟨e5,rfl⟩:=cM e4;unfold gJoinT at e5;split at e5
 ·rename_i sep ds;split at e5
  ·rename_i xs hxs;split at e5
   ·rename_i hf;cases e5;refine⟨Pr,F,env,aO,_,rl,e1,λvx H1 F1 r1 s1 p1=>?_⟩;obtain⟨rfl,_⟩:=p1;refine⟨rfl,Pr,F1,aO,env',_,r1,e3,λvy H2 F2 r2 s2 p2=>?_⟩;obtain⟨z,l,ws,rfl,h1,_,h2⟩:=p2.tup r2.fr;have e6:=reps_strs hxs h2;subst e6;exact⟨sep,xs,l,rfl,rfl,h1,hf,q _ H2 F2 r2 (s1.trans s2) ⟨rfl,joinN_le hf⟩⟩
   ·cases e5
  ·cases e5
 ·cases e5⟩
theorem x_lindexQ(G:Good X C)(ho:SX X C o a)(he:SXB X C e b)(hbase:attributeBase o "index" X.env (eval o X.env)=eval o X.env:=by rfl)
  (hs:sEn e X.env:=by rfl)
  (hfew:((backTo cpos (starEach [e] X.env)).all (λx=>!x.1)&&(backToKw cpos (keywordEach [] X.env)).all (λx=>x.1.isSome)
   && decide ([e].length+([]:List Keyword).length+(if ([]:List Keyword).isEmpty then 0 else 1)<30))=true:=by rfl)
  (hline:(apos.endLine == cpos.line)=true:=by rfl) (hplain:(backTo cpos (starEach [] X.env)).any (·.1)=false:=by rfl) :
  SX X C (.Call (.Attribute o "index" apos) [e] [] cpos) (aG gLIndex a b):=⟨by
 have h:=pe_bm (cpos:=cpos) PySem.F.plainAttrs_list PySem.F.slot_list_index PySem.F.type_list_index mt_lstIndex ho.u (pa_cons he.u pa_nil hs) hbase hfew hline hs hplain;rw[G.K] at h;refine h.imp λσ H Q hq=>?_;obtain⟨Pr,F,env,env',d,r,e0,q⟩:=hq;obtain⟨x,aO,e1,e2⟩:=aU e0;obtain⟨y,bZ,e3,e4⟩:=aU e2;obtain⟨e5,rfl⟩:=cM e4;unfold gLIndex at e5;split at e5
 ·rename_i ds z;obtain⟨zs,h1,h2⟩:=Qx7.mp e5;obtain⟨j,h3,rfl⟩:=Qq9.mp h2;refine⟨Pr,F,env,aO,_,r,e1,λvx H1 F1 r1 s1 p1=>?_⟩;obtain⟨hz,p,vs,rfl,h4,h5⟩:=p1;refine⟨.inl ⟨rfl,vs,SqL.of (r1.fr _ _ h4)⟩,Pr,F1,aO,env',_,r1,e3,λvy H2 F2 r2 s2 p2=>?_⟩;obtain⟨rfl,_⟩:=p2.str;have e6:=reps_strs h1 h5;subst e6;exact⟨p,zs,z,j,rfl,rfl,SqL.of (r2.fr _ _ (s2 _ _ h4)),h3,q _ H2 F2 r2 (s1.trans s2) rfl⟩
 ·cases e5⟩
end
theorem evBF{g:D->D->Option D}{i:Nat}{b:Ev}{env e2:Env}{x y d:D}(h1:env[i]? = some (some (false,x)))(h2:b env = .ok y e2)(h4:e2[i]? = some (some (false,x)))(h3:g x y=some d):aq g i b env = .ok d e2:=evBinO_eq h1 h2 h4 h3
theorem evBT{g:D->D->Option D}{i:Nat}{b:Ev}{env e2:Env}{x y d:D}(h1:env[i]? = some (some (true,x)))(h2:b env = .ok y e2)(h4:e2[i]? = some (some (true,x)))(h3:g x y=some d):aq g i b env = .ok d e2:=evBinO_eq h1 h2 h4 h3
theorem stAp1{i:Nat}{a:Ev}{env e:Env}{d:D}{xs:List D}(h0:env[i]? = some (some (true,.lst xs)))(h1:a env = .ok d e)(h2:e[i]? = some (some (true,.lst xs)))(hz:xs.length<sizeLine):stApp i a env = .nx (e.set i (some (true,.lst (xs++[d])))):=by unfold stApp;rw[h0];simp only[h1,bindO,h2,if_pos hz]
theorem evIO1{f:List D->Option (D×D)}{i:Nat}{a:EvA}{env e1:Env}{ds:List D}{x d x':D}(h0:env[i]? = some (some (true,x)))(h1:a env = .ok ds e1)(h2:e1[i]? = some (some (true,x)))(h3:f (x::ds)=some (d,x')):evIO f i a env = .ok d (e1.set i (some (true,x'))):=evIO_eq h0 h1 h2 h3
theorem zz1:1<=sizeLine:=by decide
theorem zz2:2<=sizeLine:=by decide
theorem zz3:3<=sizeLine:=by decide
theorem zz4:4<=sizeLine:=by decide
theorem zz5:5<=sizeLine:=by decide
theorem zz6:6<=sizeLine:=by decide
theorem zz7:7<=sizeLine:=by decide
end Ev
abbrev OD:=Option (Bool×Ev.D)
abbrev Zf(d:Ev.D):OD:=some (false,d)
abbrev Zt(d:Ev.D):OD:=some (true,d)
abbrev Zs(w:List Nat):OD:=some (false,.str w)
abbrev Zb(b:Bool):OD:=some (false,.bl b)
abbrev Zl(l:List Ev.D):OD:=some (true,.lst l)
abbrev Zv(i:Nat)(a:Ev.EvA):Ev.EvA:=Ev.aa (Ev.aQ i) a
abbrev Zi(i:Int):Ev.Ev:=Ev.evC (.int i)
abbrev Zw(w:List Nat):Ev.Ev:=Ev.evC (.str w)
abbrev LD:=List Ev.D->Option Ev.D
abbrev Zn:OD:=none
abbrev Zq0:List PySem.Str:=["thing"]
abbrev Zq1:List PySem.Str:=["sounds","thing"]
abbrev Zq2:List PySem.Str:=["stock","text"]
abbrev Zq3:List PySem.Str:=["rule","word"]
abbrev Zq4:List PySem.Str:=["_law_pack_here","_law_sounds_here"]
abbrev Zq5:List PySem.Str:=["_law_stock_here"]
abbrev Zq6:List PySem.Str:=["order","word"]
abbrev Zq7:List PySem.Str:=["_law_pack_here","_law_sounds_here","_law_most"]
abbrev Zq8:List PySem.Str:=["_law_rule_here"]
abbrev Zq9:List PySem.Str:=["_law_order_here","_law_word_here"]
abbrev Zq10:List PySem.Str:=["stock","thing"]
abbrev Zq11:List PySem.Str:=["_law_rule_here","_law_word_here"]
abbrev Zq12:List PySem.Str:=["side","rule","word"]
abbrev Zq13:List PySem.Str:=["_law_signs_here","_law_sign"]
abbrev Zq14:List PySem.Str:=["_law_side","_law_rule_here","_law_word_here"]
abbrev Zq15:List PySem.Str:=["_law_signs_here"]
abbrev Zq16:List PySem.Str:=["_law_order_here"]
abbrev Zq17:List PySem.Str:=["_law_pack_here","_law_size"]
abbrev Zq18:List PySem.Str:=["_law_pack_here","_law_stock_here","_law_order_here"]
abbrev Zq19:List PySem.Str:=["_law_script","_law_k","_law_pack_here","_law_stock_here"]
namespace K76
open Ev
section
def lc_is_name_1:Ev:=evLC 1 2 (evIt (aQ 0)) (ak 1) cA (aq gIn 1 (Zw [97,98,99,100,101,102,103,104,105,106,107,108,109,110,111,112,113,114,115,116,117,118,119,120,121,122]))
def b_is_name:cz:=aJ (cT (evNotT (cU (evUn (gIsi "str") (aQ 0)))) (aZ (evC (.bl false))) bM) (aZ (evAnd (evChain gLe gLe (Zi 1) (ao gLen (aa (bB 0) aj)) (Zi 8)) (ao gAll (aa (lc_is_name_1) aj))))
def f_is_name:LD:=b8 1 b_is_name
def b_is_sound:cz:=aZ (evAnd (ao f_is_name (Zv 0 aj)) (aG gEq (ao gLen (aa (bB 0) aj)) (Zi 1)))
def f_is_sound:LD:=b8 1 b_is_sound
def lc_rises_1:Ev:=evLC 1 2 (evRng (aa (aG gSub (ao gLen (aa (bB 0) aj)) (Zi 1)) aj)) (ak 1) cA (aG gLt (aq cI 0 (bB 1)) (aq cI 0 (aq bN 1 (Zi 1))))
def b_rises:cz:=aZ (ao gAll (aa (lc_rises_1) aj))
def f_rises:LD:=b8 1 b_rises
def b_is_pair:cz:=aZ (evAnd (evUn (gIsi "tuple") (aQ 0)) (aG gEq (ao gLen (aa (bB 0) aj)) (Zi 2)))
def f_is_pair:LD:=b8 1 b_is_pair
def lc_are_marks_1:Ev:=evLC 1 2 (evIt (aQ 0)) (ak 1) cA (ao f_is_name (Zv 1 aj))
def b_are_marks:cz:=aJ (cT (evOrT (evNotT (cU (evUn (gIsi "tuple") (aQ 0)))) (cU (aG gGt (ao gLen (aa (bB 0) aj)) (Zi 4)))) (aZ (evC (.bl false))) bM) (aZ (evAnd (ao gAll (aa (lc_are_marks_1) aj)) (ao f_rises (Zv 0 aj))))
def f_are_marks:LD:=b8 1 b_are_marks
def b_is_marked_sound:cz:=aZ (evAnd (ao f_is_pair (Zv 0 aj)) (evAnd (ao f_is_sound (aa (aq cI 0 (Zi 0)) aj)) (ao f_are_marks (aa (aq cI 0 (Zi 1)) aj))))
def f_is_marked_sound:LD:=b8 1 b_is_marked_sound
def lc_sounds_of_1:Ev:=evLC 1 3 (evIt (aQ 0)) (gvTup 2 (aV (ak 1) (aV (ak 2) gvNil))) cA (aQ 1)
def b_sounds_of:cz:=aZ (ao gTuple (aa (lc_sounds_of_1) aj))
def f_sounds_of:LD:=b8 1 b_sounds_of
def lc_is_stock_1:Ev:=evLC 1 2 (evIt (aQ 0)) (ak 1) cA (ao f_is_marked_sound (Zv 1 aj))
def b_is_stock:cz:=aJ (cT (evOrT (evNotT (cU (evUn (gIsi "tuple") (aQ 0)))) (evNotT (cU (evChain gLe gLe (Zi 1) (ao gLen (aa (bB 0) aj)) (Zi 4))))) (aZ (evC (.bl false))) bM) (aZ (evAnd (ao gAll (aa (lc_is_stock_1) aj)) (ao f_rises (aa (ao f_sounds_of (Zv 0 aj)) aj))))
def f_is_stock:LD:=b8 1 b_is_stock
def lc_sounds_by_1:Ev:=evLC 4 5 (evIt (aQ 1)) (ak 4) cA (aq gIn 4 (bB 3))
def lc_sounds_by_2:Ev:=evLC 2 4 (evIt (aQ 0)) (gvTup 2 (aV (ak 2) (aV (ak 3) gvNil))) (cU (ao gAll (aa (lc_sounds_by_1) aj))) (aQ 2)
def b_sounds_by:cz:=aZ (ao gTuple (aa (lc_sounds_by_2) aj))
def f_sounds_by:LD:=b8 2 b_sounds_by
def b_changes_sound:cz:=aJ (cT (evNotT (cU (ao f_is_pair (Zv 1 aj)))) (aZ (evC (.bl false))) bM) (aJ (aY (aQ 1) (gvTup 2 (aV (ak 2) (aV (ak 3) gvNil)))) (aZ (evAnd (aq gIn 2 (bB 0)) (evAnd (evOr (aq gIn 3 (bB 0)) (aq gEq 3 (Zw []))) (aq gNe 2 (bB 3))))))
def f_changes_sound:LD:=b8 4 b_changes_sound
def b_puts_one_in:cz:=aZ (evAnd (ao f_is_pair (Zv 1 aj)) (evAnd (aG gEq (aq cI 1 (Zi 0)) (Zw [])) (aG gIn (aq cI 1 (Zi 1)) (bB 0))))
def f_puts_one_in:LD:=b8 2 b_puts_one_in
def lc_are_changes_1:Ev:=evLC 2 3 (evIt (aQ 1)) (ak 2) cA (ao f_changes_sound (Zv 0 (Zv 2 aj)))
def lc_are_changes_2:Ev:=evLC 2 4 (evIt (aQ 1)) (gvTup 2 (aV (ak 2) (aV (ak 3) gvNil))) cA (aQ 2)
def b_are_changes:cz:=aJ (cT (evOrT (evNotT (cU (evUn (gIsi "tuple") (aQ 1)))) (cU (aG gEq (ao gLen (aa (bB 1) aj)) (Zi 0)))) (aZ (evC (.bl false))) bM) (aJ (cT (evAndT (cU (aG gEq (ao gLen (aa (bB 1) aj)) (Zi 1))) (cU (ao f_puts_one_in (Zv 0 (aa (aq cI 1 (Zi 0)) aj))))) (aZ (evC (.bl true))) bM) (aZ (evAnd (ao gAll (aa (lc_are_changes_1) aj)) (ao f_rises (aa (lc_are_changes_2) aj)))))
def f_are_changes:LD:=b8 2 b_are_changes
def lc_are_signs_1:Ev:=evLC 2 3 (evIt (aQ 1)) (ak 2) cA (evOr (aq gEq 2 (Zw [35])) (aq gIn 2 (bB 0)))
def b_are_signs:cz:=aJ (cT (cU (aq gIs 1 (evC .non))) (aZ (evC (.bl true))) bM) (aJ (cT (evOrT (evNotT (cU (evUn (gIsi "tuple") (aQ 1)))) (cU (aG gEq (ao gLen (aa (bB 1) aj)) (Zi 0)))) (aZ (evC (.bl false))) bM) (aZ (evAnd (ao gAll (aa (lc_are_signs_1) aj)) (ao f_rises (Zv 1 aj)))))
def f_are_signs:LD:=b8 2 b_are_signs
def b_is_rule:cz:=aJ (cT (evOrT (evNotT (cU (evUn (gIsi "tuple") (aQ 1)))) (cU (aG gNe (ao gLen (aa (bB 1) aj)) (Zi 4)))) (aZ (evC (.bl false))) bM) (aJ (aY (aQ 1) (gvTup 4 (aV (ak 2) (aV (ak 3) (aV (ak 4) (aV (ak 5) gvNil)))))) (aJ (aY (ao f_sounds_of (Zv 0 aj)) (ak 6)) (aZ (evAnd (aq gIn 2 (evC (.tup [(.str [111,110,99,101]),(.str [97,108,111,110,103])]))) (evAnd (ao f_are_changes (Zv 6 (Zv 3 aj))) (evAnd (ao f_are_signs (Zv 6 (Zv 4 aj))) (ao f_are_signs (Zv 6 (Zv 5 aj)))))))))
def f_is_rule:LD:=b8 7 b_is_rule
def lc_is_order_1:Ev:=evLC 4 5 (evIt (aQ 3)) (ak 4) cA (ao f_is_rule (Zv 0 (Zv 4 aj)))
def b_is_order:cz:=aJ (cT (evNotT (cU (ao f_is_pair (Zv 1 aj)))) (aZ (evC (.bl false))) bM) (aJ (aY (aQ 1) (gvTup 2 (aV (ak 2) (aV (ak 3) gvNil)))) (aJ (cT (evOrT (cU (aq gNotIn 2 (evC (.tup [(.str [108,101,102,116]),(.str [114,105,103,104,116])])))) (evOrT (evNotT (cU (evUn (gIsi "tuple") (aQ 3)))) (cU (aG gGt (ao gLen (aa (bB 3) aj)) (Zi 4))))) (aZ (evC (.bl false))) bM) (aZ (ao gAll (aa (lc_is_order_1) aj)))))
def f_is_order:LD:=b8 4 b_is_order
def b_fits:cz:=aZ (evOr (aq gIs 0 (evC .non)) (aq gIn 1 (bB 0)))
def f_fits:LD:=b8 2 b_fits
def b_turned:cz:=aJ (aY (aQ 0) (gvTup 4 (aV (ak 1) (aV (ak 2) (aV (ak 3) (aV (ak 4) gvNil)))))) (aZ (evTup (Zv 1 (Zv 2 (Zv 4 (Zv 3 aj))))))
def f_turned:LD:=b8 5 b_turned
def b_puts_in:cz:=aZ (aG gEq (aG cI (aG cI (aq cI 0 (Zi 1)) (Zi 0)) (Zi 0)) (Zw []))
def f_puts_in:LD:=b8 1 b_puts_in
def b_need_text:cz:=cT (evNotT (cU (evUn (gIsi "str") (aQ 0)))) (stStuck) bM
def f_need_text:LD:=b8 1 b_need_text
def lc_show_stock_1:Ev:=evLC 1 3 (evIt (aQ 0)) (gvTup 2 (aV (ak 1) (aV (ak 2) gvNil))) cA (aG gJoinT (Zw [32]) (aG bN (evTup (Zv 1 aj)) (bB 2)))
def b_show_stock:cz:=aZ (aG gJoin (Zw [44,32]) (lc_show_stock_1))
def f_show_stock:LD:=b8 1 b_show_stock
def lb_read_stock_1:cz:=aJ (aY (aG gSplit (aQ 3) (Zw [32])) (ak 4)) (aJ (aY (aq bN 1 (evTup (aa (evTup (aa (aq cI 4 (Zi 0)) (aa (ao gTuple (aa (evSlA (aQ 4) (evP (Zi 1)) evNoP) aj)) aj))) aj))) (ak 1)) (cT (evNotT (cU (ao f_is_stock (Zv 1 aj)))) (stStuck) bM))
def b_read_stock:cz:=aJ (stDrop (ao f_need_text (Zv 0 aj))) (aJ (aY (evTup aj) (ak 1)) (aJ (stFor (evEnumL (aa (aG gSplit (aQ 0) (Zw [44,32])) aj)) (gvTup 2 (aV (ak 2) (aV (ak 3) gvNil))) (lb_read_stock_1)) (aZ (aQ 1))))
def f_read_stock:LD:=b8 5 b_read_stock
def b_show_sound:cz:=aZ (evIf (cU (aq gEq 0 (Zw []))) (Zw [48]) (aQ 0))
def f_show_sound:LD:=b8 1 b_show_sound
def b_show_signs:cz:=aZ (evIf (cU (aq gIs 0 (evC .non))) (Zw [42]) (aG gJoinT (Zw []) (bB 0)))
def f_show_signs:LD:=b8 1 b_show_signs
def lc_show_rule_1:Ev:=evLC 6 8 (evIt (aQ 2)) (gvTup 2 (aV (ak 6) (aV (ak 7) gvNil))) cA (evFmt [62] (ao f_show_sound (Zv 6 aj)) (ao f_show_sound (Zv 7 aj)))
def b_show_rule:cz:=aJ (aY (aQ 0) (gvTup 4 (aV (ak 1) (aV (ak 2) (aV (ak 3) (aV (ak 4) gvNil)))))) (aJ (stOwn 5 (lc_show_rule_1)) (aZ (aG gJoin (Zw [32]) (aG bN (aG bN (cW (Zv 1 aj)) (bB 5)) (cW (aa (Zw [47]) (aa (ao f_show_signs (Zv 3 aj)) (aa (Zw [95]) (aa (ao f_show_signs (Zv 4 aj)) aj)))))))))
def f_show_rule:LD:=b8 6 b_show_rule
def b_read_sound:cz:=aJ (cT (cU (aq gEq 0 (Zw []))) (aZ (evC .non)) bM) (aZ (evIf (cU (aq gEq 0 (Zw [48]))) (Zw []) (aQ 0)))
def f_read_sound:LD:=b8 1 b_read_sound
def b_read_signs:cz:=aJ (cT (cU (aq gEq 1 (Zw [42]))) (aZ (evC .non)) bM) (aJ (cT (evOrT (evNotT (cU (aG gStarts (aQ 1) (Zw [91])))) (evNotT (cU (aG gEnds (aQ 1) (Zw [93]))))) (aZ (ao gTupS (aa (bB 1) aj))) bM) (aZ (ao f_sounds_by (Zv 0 (aa (aG gSplit (evSlA (aQ 1) (evP (Zi 1)) (evP (evUn gNeg (Zi 1)))) (Zw [32])) aj)))))
def f_read_signs:LD:=b8 2 b_read_signs
def lc_read_parts_1:Ev:=evLC 8 9 (evIt (aG gSplit (aQ 7) (Zw [62]))) (ak 8) cA (ao f_read_sound (Zv 8 aj))
def lc_read_parts_2:Ev:=evLC 7 8 (evIt (evSlA (aQ 2) (evP (Zi 1)) (evP (aQ 3)))) (ak 7) cA (ao gTuple (aa (lc_read_parts_1) aj))
def b_read_parts:cz:=aJ (aY (aG gSplit (aQ 1) (Zw [32])) (ak 2)) (aJ (cT (evOrT (cU (aG gNotIn (Zw [47]) (bB 2))) (cU (aG gNotIn (Zw [95]) (bB 2)))) (aZ (evC .non)) bM) (aJ (aY (aG gLIndex (aQ 2) (Zw [47])) (ak 3)) (aJ (aY (aG gLIndex (aQ 2) (Zw [95])) (ak 4)) (aJ (aY (ao gTuple (aa (lc_read_parts_2) aj)) (ak 5)) (aJ (aY (ao f_read_signs (Zv 0 (aa (aG gJoin (Zw [32]) (evSlA (aQ 2) (evP (aq bN 3 (Zi 1))) (evP (aQ 4)))) aj))) (ak 6)) (aZ (evTup (aa (aq cI 2 (Zi 0)) (Zv 5 (Zv 6 (aa (ao f_read_signs (Zv 0 (aa (aG gJoin (Zw [32]) (evSlA (aQ 2) (evP (aq bN 4 (Zi 1))) evNoP)) aj))) aj)))))))))))
def f_read_parts:LD:=b8 7 b_read_parts
def lc_show_order_1:Ev:=evLC 3 4 (evIt (aQ 2)) (ak 3) cA (ao f_show_rule (Zv 3 aj))
def b_show_order:cz:=aJ (aY (aQ 0) (gvTup 2 (aV (ak 1) (aV (ak 2) gvNil)))) (aZ (aG gJoin (Zw [59,32]) (aG bN (cW (Zv 1 aj)) (lc_show_order_1))))
def f_show_order:LD:=b8 3 b_show_order
def lb_read_order_1:cz:=aJ (aY (evTup (aa (aq cI 2 (Zi 0)) (aa (aG bN (aq cI 3 (Zi 1)) (evTup (aa (ao f_read_parts (Zv 0 (aa (aq cI 2 (bB 4)) aj))) aj))) aj))) (ak 3)) (cT (evNotT (cU (ao f_is_order (Zv 0 (Zv 3 aj))))) (stStuck) bM)
def b_read_order:cz:=aJ (stDrop (ao f_need_text (Zv 1 aj))) (aJ (aY (aG gSplit (aQ 1) (Zw [59,32])) (ak 2)) (aJ (aY (evTup (aa (aq cI 2 (Zi 0)) (aa (evTup aj) aj))) (ak 3)) (aJ (cT (evNotT (cU (ao f_is_order (Zv 0 (Zv 3 aj))))) (stStuck) bM) (aJ (stFor (evRng (aa (Zi 1) (aa (ao gLen (aa (bB 2) aj)) aj))) (ak 4) (lb_read_order_1)) (aZ (aQ 3))))))
def f_read_order:LD:=b8 5 b_read_order
def lb_with_put_in_1:cz:=aJ (cT (evAndT (cU (ao f_fits (Zv 4 (Zv 8 aj)))) (cU (ao f_fits (Zv 5 (Zv 9 aj))))) (stApp 7 (aQ 6)) bM) (aJ (stApp 7 (aQ 9)) (aY (aQ 9) (ak 8)))
def b_with_put_in:cz:=aJ (aY (aQ 0) (gvTup 4 (aV (ak 2) (aV (ak 3) (aV (ak 4) (aV (ak 5) gvNil)))))) (aJ (aY (aG cI (aq cI 3 (Zi 0)) (Zi 1)) (ak 6)) (aJ (stOwn 7 (cW aj)) (aJ (aY (Zw [35]) (ak 8)) (aJ (stFor (evIt (aq bN 1 (Zw [35]))) (ak 9) (lb_with_put_in_1)) (aZ (aG gJoin (Zw []) (evSl (aQ 7) evNoP (evP (evUn gNeg (Zi 1))))))))))
def f_with_put_in:LD:=b8 10 b_with_put_in
def lb_with_changes_1:cz:=aJ (aY (aQ 11) (ak 12)) (aJ (cT (evAndT (cU (aq gInDct 11 (bB 6))) (evAndT (cU (ao f_fits (Zv 4 (Zv 9 aj)))) (cU (ao f_fits (Zv 5 (aa (aq cI 7 (aq bN 10 (Zi 1))) aj)))))) (aY (aq gDget 6 (bB 11)) (ak 12)) bM) (aJ (stApp 8 (aQ 12)) (cT (cU (aq gEq 2 (Zw [111,110,99,101]))) (aY (aQ 11) (ak 9)) (cT (cU (aq gNe 12 (Zw []))) (aY (aQ 12) (ak 9)) bM))))
def b_with_changes:cz:=aJ (aY (aQ 0) (gvTup 4 (aV (ak 2) (aV (ak 3) (aV (ak 4) (aV (ak 5) gvNil)))))) (aJ (aY (ao gDict (aa (bB 3) aj)) (ak 6)) (aJ (aY (aq bN 1 (Zw [35])) (ak 7)) (aJ (stOwn 8 (cW aj)) (aJ (aY (Zw [35]) (ak 9)) (aJ (stFor (evEnum (Zv 1 aj)) (gvTup 2 (aV (ak 10) (aV (ak 11) gvNil))) (lb_with_changes_1)) (aZ (aG gJoin (Zw []) (bB 8))))))))
def f_with_changes:LD:=b8 13 b_with_changes
def b_from_left:cz:=aJ (cT (cU (ao f_puts_in (Zv 0 aj))) (aZ (ao f_with_put_in (Zv 0 (Zv 1 aj)))) bM) (aZ (ao f_with_changes (Zv 0 (Zv 1 aj))))
def f_from_left:LD:=b8 2 b_from_left
def b_changed:cz:=aJ (cT (cU (aq gEq 0 (Zw [114,105,103,104,116]))) (aZ (evRev (ao f_from_left (aa (ao f_turned (Zv 1 aj)) (aa (evRev (aQ 2)) aj))))) bM) (aZ (ao f_from_left (Zv 1 (Zv 2 aj))))
def f_changed:LD:=b8 3 b_changed
def lb_walk_1:cz:=stApp 4 (ao f_changed (Zv 2 (Zv 5 (aa (aq cI 4 (evUn gNeg (Zi 1))) aj))))
def b_walk:cz:=aJ (aY (aQ 0) (gvTup 2 (aV (ak 2) (aV (ak 3) gvNil)))) (aJ (stOwn 4 (cW (Zv 1 aj))) (aJ (stFor (evIt (aQ 3)) (ak 5) (lb_walk_1)) (aZ (ao gTuple (aa (bB 4) aj)))))
def f_walk:LD:=b8 6 b_walk
def b_made:cz:=aZ (aG cI (ao f_walk (Zv 0 (Zv 1 aj))) (evUn gNeg (Zi 1)))
def f_made:LD:=b8 2 b_made
def b_law_mixed:cz:=aZ (aG gMod (aq gMul 0 (Zi 262406895267124108351839057402211873468251940277165213587343)) (aG gPow (Zi 10) (Zi 60)))
def f_law_mixed:LD:=b8 1 b_law_mixed
def lb_law_pack_1:cz:=aY (aG bN (aq gMul 2 (aG gPow (Zi 10) (Zi 60))) (ao f_law_mixed (aa (aG cI (aG bN (evSl (aQ 0) (evP (aQ 3)) (evP (aq bN 3 (Zi 1)))) (cW (aa (aG bN (aG gMul (Zi 7919) (bB 3)) (Zi 61)) aj))) (Zi 0)) aj))) (ak 2)
def b_law_pack:cz:=aJ (aY (Zi 0) (ak 2)) (aJ (stFor (evIt (cW (aa (aq bN 1 (Zi 1)) (Zv 1 aj)))) (ak 3) (lb_law_pack_1)) (stRetNew (cW (Zv 2 aj))))
def f_law_pack:LD:=runN 4 b_law_pack
def b_law_take:cz:=aJ (aY (ao gDivmod (aa (aq cI 0 (Zi 0)) (aa (bB 1) aj))) (gvTup 2 (aV (gvAt 0 (Zi 0)) (aV (ak 2) gvNil)))) (aZ (aQ 2))
def bh:List D->Option (D×D):=runIO 3 b_law_take
def lc_law_stock_1:Ev:=evLC 7 8 (evRng (aa (Zi 5) aj)) (ak 7) (cU (aG gEq (aG gAnd (aq gShr 5 (bB 7)) (Zi 1)) (Zi 1))) (aq cI 2 (bB 7))
def lb_law_stock_1:cz:=aJ (aY (evIO bh 0 (aa (Zi 32) aj)) (ak 5)) (aJ (aY (ao gSorted (aa (lc_law_stock_1) aj)) (ak 6)) (stApp 3 (evTup (Zv 4 (aa (ao gTuple (aa (evSl (aQ 6) evNoP (evP (Zi 4))) aj)) aj)))))
def b_law_stock:cz:=aJ (aY (aG cI (cW (aa (Zw [97]) (aa (Zw [97,98]) (aa (Zw [97,98]) (aa (Zw [97,98,99]) (aa (Zw [97,101,112,116]) (aa (Zw [109,110,122]) aj))))))) (evIO bh 0 (aa (Zi 6) aj))) (ak 1)) (aJ (aY (cW (aa (Zw [115,116,111,112]) (aa (Zw [115,116,111,112,115]) (aa (Zw [115]) (aa (Zw [111,112,101,110]) (aa (Zw [97,98,99,100,101,102,103,104]) aj)))))) (ak 2)) (aJ (stOwn 3 (cW aj)) (aJ (stFor (evIt (aQ 1)) (ak 4) (lb_law_stock_1)) (aZ (ao gTuple (aa (bB 3) aj))))))
def f_law_stock:List D->Option (D×D):=runIO 7 b_law_stock
def lc_law_sounds_1:Ev:=K76.lc_sounds_of_1
def b_law_sounds:cz:=aZ (aG gJoin (Zw []) (lc_law_sounds_1))
def f_law_sounds:LD:=b8 1 b_law_sounds
def lc_law_signs_1:Ev:=evLC 4 5 (evRng (aa (ao gLen (aa (bB 3) aj)) aj)) (ak 4) (cU (aG gEq (aG gAnd (aq gShr 2 (bB 4)) (Zi 1)) (Zi 1))) (aq cI 3 (bB 4))
def b_law_signs:cz:=aJ (cT (cU (aG gEq (evIO bh 0 (aa (Zi 2) aj)) (Zi 0))) (aZ (evC .non)) bM) (aJ (aY (aG bN (Zi 1) (evIO bh 0 (aa (aG gSub (aG gShl (Zi 2) (ao gLen (aa (bB 1) aj))) (Zi 1)) aj))) (ak 2)) (aJ (aY (aG bN (Zw [35]) (bB 1)) (ak 3)) (aZ (ao gTuple (aa (lc_law_signs_1) aj)))))
def f_law_signs:List D->Option (D×D):=runIO 4 b_law_signs
def lc_law_changes_1:Ev:=evLC 6 7 (evIt (aG bN (ao gList (aa (bB 1) aj)) (cW (aa (Zw []) aj)))) (ak 6) (cU (aq gNe 6 (bB 4))) (aQ 6)
def lb_law_changes_1:cz:=aJ (aY (aq cI 1 (evIO bh 0 (aa (ao gLen (aa (bB 1) aj)) aj))) (ak 4)) (aJ (stOwn 5 (lc_law_changes_1)) (stDput 2 (aQ 4) (aq cI 5 (evIO bh 0 (aa (ao gLen (aa (bB 5) aj)) aj)))))
def lc_law_changes_2:Ev:=evLC 6 7 (evIt (ao gSorted (aa (bB 2) aj))) (ak 6) cA (evTup (Zv 6 (aa (aq gDget 2 (bB 6)) aj)))
def b_law_changes:cz:=aJ (cT (cU (aG gEq (evIO bh 0 (aa (Zi 5) aj)) (Zi 0))) (aZ (evTup (aa (evTup (aa (Zw []) (aa (aq cI 1 (evIO bh 0 (aa (ao gLen (aa (bB 1) aj)) aj))) aj))) aj))) bM) (aJ (stOwn 2 (evDnew)) (aJ (stFor (evRng (aa (aG bN (Zi 1) (evIO bh 0 (aa (Zi 3) aj))) aj)) (ak 3) (lb_law_changes_1)) (aZ (ao gTuple (aa (lc_law_changes_2) aj)))))
def f_law_changes:List D->Option (D×D):=runIO 6 b_law_changes
def b_law_rule:cz:=aJ (aY (aG cI (cW (aa (Zw [111,110,99,101]) (aa (Zw [97,108,111,110,103]) aj))) (evIO bh 0 (aa (Zi 2) aj))) (ak 2)) (aJ (aY (evIO f_law_changes 0 (Zv 1 aj)) (ak 3)) (aZ (evTup (Zv 2 (Zv 3 (aa (evIO f_law_signs 0 (Zv 1 aj)) (aa (evIO f_law_signs 0 (Zv 1 aj)) aj)))))))
def f_law_rule:List D->Option (D×D):=runIO 4 b_law_rule
def lc_law_order_1:Ev:=evLC 4 5 (evRng (aa (evIO bh 0 (aa (aq bN 2 (Zi 1)) aj)) aj)) (ak 4) cA (evIO f_law_rule 0 (Zv 1 aj))
def b_law_order:cz:=aJ (aY (aG cI (cW (aa (Zw [108,101,102,116]) (aa (Zw [114,105,103,104,116]) aj))) (evIO bh 0 (aa (Zi 2) aj))) (ak 3)) (aZ (evTup (Zv 3 (aa (ao gTuple (aa (lc_law_order_1) aj)) aj))))
def f_law_order:List D->Option (D×D):=runIO 4 b_law_order
def lc_law_word_1:Ev:=evLC 3 4 (evRng (aa (evIO bh 0 (aa (aq bN 2 (Zi 1)) aj)) aj)) (ak 3) cA (aq cI 1 (evIO bh 0 (aa (ao gLen (aa (bB 1) aj)) aj)))
def b_law_word:cz:=aZ (aG gJoin (Zw []) (lc_law_word_1))
def f_law_word:List D->Option (D×D):=runIO 3 b_law_word
def b_law_fits:cz:=K76.b_fits
def cJ:LD:=b8 2 b_law_fits
def lb_law_put_in_1:cz:=aJ (cT (evAndT (cU (ao cJ (aa (aq cI 0 (Zi 2)) (aa (aq cI 2 (aq gSub 4 (Zi 1))) aj)))) (cU (ao cJ (aa (aq cI 0 (Zi 3)) (aa (aq cI 2 (bB 4)) aj))))) (aY (aq bN 3 (aG cI (aG cI (aq cI 0 (Zi 1)) (Zi 0)) (Zi 1))) (ak 3)) bM) (aY (aq bN 3 (aq cI 2 (bB 4))) (ak 3))
def b_law_put_in:cz:=aJ (aY (aG bN (aG bN (Zw [35]) (bB 1)) (Zw [35])) (ak 2)) (aJ (aY (Zw []) (ak 3)) (aJ (stFor (evRng (aa (Zi 1) (aa (ao gLen (aa (bB 2) aj)) aj))) (ak 4) (lb_law_put_in_1)) (aZ (evSlS (aQ 3) evNoP (evP (evUn gNeg (Zi 1)))))))
def f_law_put_in:LD:=b8 5 b_law_put_in
def lb_law_changed_1:cz:=aJ (aY (aq cI 7 (aq gSub 9 (Zi 1))) (ak 10)) (aJ (cT (cU (aq gEq 2 (Zw [97,108,111,110,103]))) (aY (aq cI 8 (evUn gNeg (Zi 1))) (ak 10)) bM) (cT (evAndT (cU (aG gInDct (aq cI 7 (bB 9)) (bB 6))) (evAndT (cU (ao cJ (Zv 4 (Zv 10 aj)))) (cU (ao cJ (Zv 5 (aa (aq cI 7 (aq bN 9 (Zi 1))) aj)))))) (aY (aq bN 8 (aq gDget 6 (aq cI 7 (bB 9)))) (ak 8)) (aY (aq bN 8 (aq cI 7 (bB 9))) (ak 8))))
def b_law_changed:cz:=aJ (aY (aQ 0) (gvTup 4 (aV (ak 2) (aV (ak 3) (aV (ak 4) (aV (ak 5) gvNil)))))) (aJ (cT (cU (aG gEq (aG cI (aq cI 3 (Zi 0)) (Zi 0)) (Zw []))) (aZ (ao f_law_put_in (Zv 0 (Zv 1 aj)))) bM) (aJ (aY (ao gDict (aa (bB 3) aj)) (ak 6)) (aJ (aY (aG bN (aG bN (Zw [35]) (bB 1)) (Zw [35])) (ak 7)) (aJ (aY (Zw [35]) (ak 8)) (aJ (stFor (evRng (aa (Zi 1) (aa (aG gSub (ao gLen (aa (bB 7) aj)) (Zi 1)) aj))) (ak 9) (lb_law_changed_1)) (aZ (evSlS (aQ 8) (evP (Zi 1)) evNoP)))))))
def f_law_changed:LD:=b8 11 b_law_changed
def b_law_turned:cz:=aZ (evTup (aa (aq cI 0 (Zi 0)) (aa (aq cI 0 (Zi 1)) (aa (aq cI 0 (Zi 3)) (aa (aq cI 0 (Zi 2)) aj)))))
def f_law_turned:LD:=b8 1 b_law_turned
def b_law_by_side:cz:=aJ (cT (cU (aq gEq 0 (Zw [114,105,103,104,116]))) (aZ (evRev (ao f_law_changed (aa (ao f_law_turned (Zv 1 aj)) (aa (evRev (aQ 2)) aj))))) bM) (aZ (ao f_law_changed (Zv 1 (Zv 2 aj))))
def f_law_by_side:LD:=b8 3 b_law_by_side
def lb_law_walk_1:cz:=stApp 2 (ao f_law_by_side (aa (aq cI 0 (Zi 0)) (Zv 3 (aa (aq cI 2 (evUn gNeg (Zi 1))) aj))))
def b_law_walk:cz:=aJ (stOwn 2 (cW (Zv 1 aj))) (aJ (stFor (evIt (aq cI 0 (Zi 1))) (ak 3) (lb_law_walk_1)) (aZ (ao gTuple (aa (bB 2) aj))))
def f_law_walk:LD:=b8 4 b_law_walk
def b_law_made:cz:=aZ (aG cI (ao f_law_walk (Zv 0 (Zv 1 aj))) (evUn gNeg (Zi 1)))
def f_law_made:LD:=b8 2 b_law_made
def lc_law_stock_text_1:Ev:=evLC 1 3 (evIt (aQ 0)) (gvTup 2 (aV (ak 1) (aV (ak 2) gvNil))) cA (aG gJoin (Zw [32]) (aG bN (cW (Zv 1 aj)) (ao gList (aa (bB 2) aj))))
def b_law_stock_text:cz:=aZ (aG gJoin (Zw [44,32]) (lc_law_stock_text_1))
def f_law_stock_text:LD:=b8 1 b_law_stock_text
def b_law_signs_text:cz:=aJ (cT (cU (aq gIs 0 (evC .non))) (aZ (Zw [42])) bM) (aZ (aG gJoinT (Zw []) (bB 0)))
def f_law_signs_text:LD:=b8 1 b_law_signs_text
def lb_law_rule_text_1:cz:=aY (aG bN (aG bN (aG bN (aq bN 5 (Zw [32])) (aG cI (aq bN 6 (Zw [48])) (Zi 0))) (Zw [62])) (aG cI (aq bN 7 (Zw [48])) (Zi 0))) (ak 5)
def b_law_rule_text:cz:=aJ (aY (aQ 0) (gvTup 4 (aV (ak 1) (aV (ak 2) (aV (ak 3) (aV (ak 4) gvNil)))))) (aJ (aY (aQ 1) (ak 5)) (aJ (stFor (evIt (aQ 2)) (gvTup 2 (aV (ak 6) (aV (ak 7) gvNil))) (lb_law_rule_text_1)) (aZ (aG bN (aG bN (aG bN (aq bN 5 (Zw [32,47,32])) (ao f_law_signs_text (Zv 3 aj))) (Zw [32,95,32])) (ao f_law_signs_text (Zv 4 aj))))))
def f_law_rule_text:LD:=b8 8 b_law_rule_text
def lc_law_order_text_1:Ev:=evLC 1 2 (evIt (aq cI 0 (Zi 1))) (ak 1) cA (ao f_law_rule_text (Zv 1 aj))
def b_law_order_text:cz:=aZ (aG gJoin (Zw [59,32]) (aG bN (cW (aa (aq cI 0 (Zi 0)) aj)) (lc_law_order_text_1)))
def f_law_order_text:LD:=b8 1 b_law_order_text
def lc_law_right_1:Ev:=evLC 10 11 (evIt (aq cI 2 (Zi 1))) (ak 10) cA (ao f_show_rule (Zv 10 aj))
def lb_law_right_1:cz:=aJ (aY (ao f_read_order (Zv 1 (aa (aG gJoin (Zw [59,32]) (evSlA (aQ 4) evNoP (evP (aQ 6)))) aj))) (ak 7)) (aJ (cT (evOrT (evNotT (cU (ao f_is_order (Zv 1 (Zv 7 aj))))) (cU (aq gNe 7 (evTup (aa (aq cI 2 (Zi 0)) (aa (evSlT (aq cI 2 (Zi 1)) evNoP (evP (aq gSub 6 (Zi 1)))) aj)))))) (aZ (evC (.bl false))) bM) (cT (evOrT (cU (aG gNe (ao f_made (Zv 7 (Zv 5 aj))) (ao f_law_made (Zv 7 (Zv 5 aj))))) (cU (aG gNe (evSlA (ao f_walk (Zv 2 (Zv 5 aj))) evNoP (evP (aQ 6))) (ao f_walk (Zv 7 (Zv 5 aj)))))) (aZ (evC (.bl false))) bM))
def b_law_right:cz:=aJ (aY (ao f_show_order (Zv 2 aj)) (ak 3)) (aJ (aY (aG gSplit (aQ 3) (Zw [59,32])) (ak 4)) (aJ (aY (evIO f_law_word 0 (aa (ao f_law_sounds (Zv 1 aj)) (aa (Zi 6) aj))) (ak 5)) (aJ (cT (evOrT (cU (aq gNe 4 (aG bN (cW (aa (aq cI 2 (Zi 0)) aj)) (lc_law_right_1)))) (cU (aq gNe 3 (ao f_law_order_text (Zv 2 aj))))) (aZ (evC (.bl false))) bM) (aJ (stFor (evRng (aa (Zi 1) (aa (aG bN (ao gLen (aa (bB 4) aj)) (Zi 1)) aj))) (ak 6) (lb_law_right_1)) (aJ (cT (cU (aG gGt (ao gLen (aa (bB 4) aj)) (Zi 2))) (aJ (aY (aG gJoin (Zw [59,32]) (aG bN (evSlA (aQ 4) evNoP (evP (Zi 1))) (evUn gRev1 (aQ 4)))) (ak 8)) (aJ (aY (ao f_read_order (Zv 1 (Zv 8 aj))) (ak 9)) (aJ (cT (evOrT (cU (aq gNe 9 (evTup (aa (aq cI 2 (Zi 0)) (aa (evUn gRevT (aq cI 2 (Zi 1))) aj))))) (cU (aG gNe (ao f_made (Zv 9 (Zv 5 aj))) (ao f_law_made (Zv 9 (Zv 5 aj)))))) (aZ (evC (.bl false))) bM) (cT (cU (aG gNe (aq gEq 8 (bB 3)) (aq gEq 9 (bB 2)))) (aZ (evC (.bl false))) bM)))) bM) (aZ (evC (.bl true))))))))
def f_law_right:List D->Option (D×D):=runIO 10 b_law_right
def lb_law_1:cz:=aJ (stOwn 2 (ao f_law_pack (Zv 0 (Zv 1 aj)))) (aJ (aY (evIO f_law_stock 2 aj) (ak 3)) (aJ (cT (evOrT (cU (aG gNe (ao f_read_stock (aa (ao f_show_stock (Zv 3 aj)) aj)) (bB 3))) (cU (aG gNe (ao f_show_stock (Zv 3 aj)) (ao f_law_stock_text (Zv 3 aj))))) (aZ (evC (.bl false))) bM) (cT (evNotT (cU (evIO f_law_right 2 (Zv 3 (aa (evIO f_law_order 2 (aa (ao f_law_sounds (Zv 3 aj)) (aa (Zi 4) aj))) aj))))) (aZ (evC (.bl false))) bM)))
def b_law:cz:=aJ (stFor (evRng (aa (Zi 0) (aa (ao gMax (aa (Zi 1) (aa (ao gMin (aa (ao gLen (aa (bB 0) aj)) (aa (Zi 12) aj))) aj))) (aa (Zi 2) aj)))) (ak 1) (lb_law_1)) (aZ (evC (.bl true)))
def f_law:LD:=b8 4 b_law
end
open PySem PySem.Spec PyProof.Rows L2 Ev
def top(i:Nat):Stmt:=PySem.Challenge.pw_soundrules_k76_whole_orders_from_texts.main.body.getD i (.Pass ⟨0,0,0,0⟩)
abbrev s_is_name:Stmt:=top 9
abbrev s_is_sound:Stmt:=top 10
abbrev s_rises:Stmt:=top 11
abbrev s_is_pair:Stmt:=top 12
abbrev s_are_marks:Stmt:=top 13
abbrev s_is_marked_sound:Stmt:=top 14
abbrev s_sounds_of:Stmt:=top 16
abbrev s_is_stock:Stmt:=top 15
abbrev s_sounds_by:Stmt:=top 17
abbrev s_changes_sound:Stmt:=top 22
abbrev s_puts_one_in:Stmt:=top 23
abbrev s_are_changes:Stmt:=top 24
abbrev s_are_signs:Stmt:=top 25
abbrev s_is_rule:Stmt:=top 26
abbrev s_is_order:Stmt:=top 27
abbrev s_fits:Stmt:=top 28
abbrev s_turned:Stmt:=top 29
abbrev s_puts_in:Stmt:=top 30
abbrev s_need_text:Stmt:=top 34
abbrev s_show_stock:Stmt:=top 35
abbrev s_read_stock:Stmt:=top 36
abbrev s_show_sound:Stmt:=top 37
abbrev s_show_signs:Stmt:=top 38
abbrev s_show_rule:Stmt:=top 39
abbrev s_read_sound:Stmt:=top 40
abbrev s_read_signs:Stmt:=top 41
abbrev s_read_parts:Stmt:=top 42
abbrev s_show_order:Stmt:=top 43
abbrev s_read_order:Stmt:=top 44
abbrev s_with_put_in:Stmt:=top 46
abbrev s_with_changes:Stmt:=top 47
abbrev s_from_left:Stmt:=top 48
abbrev s_changed:Stmt:=top 49
abbrev s_walk:Stmt:=top 50
abbrev s_made:Stmt:=top 51
abbrev s_law_mixed:Stmt:=top 53
abbrev s_law_pack:Stmt:=top 54
abbrev s_law_take:Stmt:=top 55
abbrev s_law_stock:Stmt:=top 56
abbrev s_law_sounds:Stmt:=top 57
abbrev s_law_signs:Stmt:=top 58
abbrev s_law_changes:Stmt:=top 59
abbrev s_law_rule:Stmt:=top 60
abbrev s_law_order:Stmt:=top 61
abbrev s_law_word:Stmt:=top 62
abbrev s_law_fits:Stmt:=top 63
abbrev s_law_put_in:Stmt:=top 64
abbrev s_law_changed:Stmt:=top 65
abbrev s_law_turned:Stmt:=top 66
abbrev s_law_by_side:Stmt:=top 67
abbrev s_law_walk:Stmt:=top 68
abbrev s_law_made:Stmt:=top 69
abbrev s_law_stock_text:Stmt:=top 70
abbrev s_law_signs_text:Stmt:=top 71
abbrev s_law_rule_text:Stmt:=top 72
abbrev s_law_order_text:Stmt:=top 73
abbrev s_law_right:Stmt:=top 74
abbrev s_law:Stmt:=top 75
structure Top(K:Fg)(mg:Str->Option Value):Prop where
 nb_all:mg "all" = none
 nb_dict:mg "dict" = none
 nb_divmod:mg "divmod" = none
 nb_enumerate:mg "enumerate" = none
 nb_isinstance:mg "isinstance" = none
 nb_len:mg "len" = none
 nb_list:mg "list" = none
 nb_max:mg "max" = none
 nb_min:mg "min" = none
 nb_range:mg "range" = none
 nb_sorted:mg "sorted" = none
 nb_str:mg "str" = none
 nb_tuple:mg "tuple" = none
 isi_str:∀d:D,PySem.W.kitOne K (.type (tyD d)) (.type "str")=some (instD d "str")
 isi_tuple:∀d:D,PySem.W.kitOne K (.type (tyD d)) (.type "tuple")=some (instD d "tuple")
 gl_ALL_FITS:Glb K mg "ALL_FITS" (.str [42])
 gl_EDGE:Glb K mg "EDGE" (.str [35])
 gl_LETTERS:Glb K mg "LETTERS" (.str [97,98,99,100,101,102,103,104,105,106,107,108,109,110,111,112,113,114,115,116,117,118,119,120,121,122])
 gl_MOST_LETTERS:Glb K mg "MOST_LETTERS" (.int 8)
 gl_MOST_MARKS:Glb K mg "MOST_MARKS" (.int 4)
 gl_MOST_RULES:Glb K mg "MOST_RULES" (.int 4)
 gl_MOST_SOUNDS:Glb K mg "MOST_SOUNDS" (.int 4)
 gl_NO_SOUND:Glb K mg "NO_SOUND" (.str [48])
 gl_SIDES:Glb K mg "SIDES" (.tup [(.str [108,101,102,116]),(.str [114,105,103,104,116])])
 gl_WAYS:Glb K mg "WAYS" (.tup [(.str [111,110,99,101]),(.str [97,108,111,110,103])])
 t_is_name:cu K mg "is_name" s_is_name Zq0
 t_is_sound:cu K mg "is_sound" s_is_sound Zq0
 t_rises:cu K mg "rises" s_rises ["things"]
 t_is_pair:cu K mg "is_pair" s_is_pair Zq0
 t_are_marks:cu K mg "are_marks" s_are_marks Zq0
 t_is_marked_sound:cu K mg "is_marked_sound" s_is_marked_sound Zq0
 t_sounds_of:cu K mg "sounds_of" s_sounds_of ["stock"]
 t_is_stock:cu K mg "is_stock" s_is_stock Zq0
 t_sounds_by:cu K mg "sounds_by" s_sounds_by ["stock","marks"]
 t_changes_sound:cu K mg "changes_sound" s_changes_sound Zq1
 t_puts_one_in:cu K mg "puts_one_in" s_puts_one_in Zq1
 t_are_changes:cu K mg "are_changes" s_are_changes Zq1
 t_are_signs:cu K mg "are_signs" s_are_signs Zq1
 t_is_rule:cu K mg "is_rule" s_is_rule Zq10
 t_is_order:cu K mg "is_order" s_is_order Zq10
 t_fits:cu K mg "fits" s_fits ["signs","sign"]
 t_turned:cu K mg "turned" s_turned ["rule"]
 t_puts_in:cu K mg "puts_in" s_puts_in ["rule"]
 t_need_text:cu K mg "need_text" s_need_text Zq0
 t_show_stock:cu K mg "show_stock" s_show_stock ["stock"]
 t_read_stock:cu K mg "read_stock" s_read_stock ["text"]
 t_show_sound:cu K mg "show_sound" s_show_sound ["sound"]
 t_show_signs:cu K mg "show_signs" s_show_signs ["signs"]
 t_show_rule:cu K mg "show_rule" s_show_rule ["rule"]
 t_read_sound:cu K mg "read_sound" s_read_sound ["text"]
 t_read_signs:cu K mg "read_signs" s_read_signs Zq2
 t_read_parts:cu K mg "read_parts" s_read_parts Zq2
 t_show_order:cu K mg "show_order" s_show_order ["order"]
 t_read_order:cu K mg "read_order" s_read_order Zq2
 t_with_put_in:cu K mg "with_put_in" s_with_put_in Zq3
 t_with_changes:cu K mg "with_changes" s_with_changes Zq3
 t_from_left:cu K mg "from_left" s_from_left Zq3
 t_changed:cu K mg "changed" s_changed Zq12
 t_walk:cu K mg "walk" s_walk Zq6
 t_made:cu K mg "made" s_made Zq6
 t_law_mixed:cu K mg "_law_mixed" s_law_mixed ["_law_cell"]
 t_law_pack:cu K mg "_law_pack" s_law_pack ["_law_script","_law_k"]
 t_law_take:cu K mg "_law_take" s_law_take Zq17
 t_law_stock:cu K mg "_law_stock" s_law_stock ["_law_pack_here"]
 t_law_sounds:cu K mg "_law_sounds" s_law_sounds Zq5
 t_law_signs:cu K mg "_law_signs" s_law_signs Zq4
 t_law_changes:cu K mg "_law_changes" s_law_changes Zq4
 t_law_rule:cu K mg "_law_rule" s_law_rule Zq4
 t_law_order:cu K mg "_law_order" s_law_order Zq7
 t_law_word:cu K mg "_law_word" s_law_word Zq7
 t_law_fits:cu K mg "_law_fits" s_law_fits Zq13
 t_law_put_in:cu K mg "_law_put_in" s_law_put_in Zq11
 t_law_changed:cu K mg "_law_changed" s_law_changed Zq11
 t_law_turned:cu K mg "_law_turned" s_law_turned Zq8
 t_law_by_side:cu K mg "_law_by_side" s_law_by_side Zq14
 t_law_walk:cu K mg "_law_walk" s_law_walk Zq9
 t_law_made:cu K mg "_law_made" s_law_made Zq9
 t_law_stock_text:cu K mg "_law_stock_text" s_law_stock_text Zq5
 t_law_signs_text:cu K mg "_law_signs_text" s_law_signs_text Zq15
 t_law_rule_text:cu K mg "_law_rule_text" s_law_rule_text Zq8
 t_law_order_text:cu K mg "_law_order_text" s_law_order_text Zq16
 t_law_right:cu K mg "_law_right" s_law_right Zq18
section
variable{P:Program}{w:World}{K:Fg}{mg:Str->Option Value}{base:Heap}(Z:Top K mg)
theorem sc_is_name:bj Zq0 Zq0 (aL s_is_name):=scOk
include Z in
theorem o_is_name:Own P w K mg base "is_name" 1 Zq0 (spP K 1 f_is_name):=by
 obtain⟨v_LETTERS,u_LETTERS,gl_LETTERS⟩:=Z.gl_LETTERS;obtain⟨v_MOST_LETTERS,u_MOST_LETTERS,gl_MOST_LETTERS⟩:=Z.gl_MOST_LETTERS;exact bD (k:=0) Z.t_is_name sc_is_name (λf cdv A outer s H E hr G=>(SXSs.u (az (bW (pxt_notQ (cB (px_isiQ (T:="str") rfl Z.nb_isinstance rfl Z.nb_str (by decide +kernel) Z.isi_str G.K (bf 0)))) (aA (aM px_blQ)) bG)
   (aA (aM (px_andQ (x_chainQ c_le c_le aK (x_lenQ G Z.nb_len (aX (bQ 0))) (px_globQ (.int 8) rfl gl_MOST_LETTERS.1 gl_MOST_LETTERS.2.1 (λF=>gl_MOST_LETTERS.2.2 F))) (px_oneQ (x_allQ G Z.nb_all (aX (aH (cj (n_lcQ ["thing","sign"] 1 compOk G (i_seqQ G (bf 0)) (λX1 h1=>by have G:=G.at h1;obtain⟨_,_,_,_,_,rfl⟩:=h1;exact(aR 1)) (λX1 h1=>by have G:=G.at h1;obtain⟨_,_,_,_,_,rfl⟩:=h1;exact cG) (λX1 h1=>by have G:=G.at h1;obtain⟨_,_,_,_,_,rfl⟩:=h1;exact(x_cmpOQ 1 (c_in G) (aH (px_globQ (.str [97,98,99,100,101,102,103,104,105,106,107,108,109,110,111,112,113,114,115,116,117,118,119,120,121,122]) rfl gl_LETTERS.1 gl_LETTERS.2.1 (λF=>gl_LETTERS.2.2 F)))))))))))))))))
theorem sc_is_sound:bj Zq0 Zq0 (aL s_is_sound):=scOk
include Z in
theorem o_is_sound:Own P w K mg base "is_sound" 2 Zq0 (spP K 1 f_is_sound):=by exact bD (k:=1) Z.t_is_sound sc_is_sound (λf cdv A outer s H E hr G=>(SXSs.u (aA (aM (px_andQ (bz (o_is_name Z) G hr (pvQ 0 au) (bw len0)) (px_oneQ (x_cmpQ (c_eq G) (x_lenQ G Z.nb_len (aX (bQ 0))) (aH aK))))))))
theorem sc_rises:bj ["things"] ["things"] (aL s_rises):=scOk
include Z in
theorem o_rises:Own P w K mg base "rises" 1 ["things"] (spP K 1 f_rises):=by exact bD (k:=0) Z.t_rises sc_rises (λf cdv A outer s H E hr G=>(SXSs.u (aA (aM (x_allQ G Z.nb_all (aX (aH (cj (n_lcQ ["things","at"] 1 compOk G (i_rng1Q Z.nb_range (aB (cO b_sub (x_lenQ G Z.nb_len (aX (bQ 0))) (aH aK)) au) (bw len0)) (λX1 h1=>by have G:=G.at h1;obtain⟨_,_,_,_,_,rfl⟩:=h1;exact(aR 1)) (λX1 h1=>by have G:=G.at h1;obtain⟨_,_,_,_,_,rfl⟩:=h1;exact cG) (λX1 h1=>by have G:=G.at h1;obtain⟨_,_,_,_,_,rfl⟩:=h1;exact(x_cmpQ c_lt (bT 0 G (bQ 1)) (aH (bT 0 G (aH (cQ 1 (cP G) (aH aK))))))))))))))))
theorem sc_is_pair:bj Zq0 Zq0 (aL s_is_pair):=scOk
include Z in
theorem o_is_pair:Own P w K mg base "is_pair" 1 Zq0 (spP K 1 f_is_pair):=by exact bD (k:=0) Z.t_is_pair sc_is_pair (λf cdv A outer s H E hr G=>(SXSs.u (aA (aM (px_andQ (px_isiQ (T:="tuple") rfl Z.nb_isinstance rfl Z.nb_tuple (by decide +kernel) Z.isi_tuple G.K (bf 0)) (px_oneQ (x_cmpQ (c_eq G) (x_lenQ G Z.nb_len (aX (bQ 0))) (aH aK))))))))
theorem sc_are_marks:bj Zq0 Zq0 (aL s_are_marks):=scOk
include Z in
theorem o_are_marks:Own P w K mg base "are_marks" 2 Zq0 (spP K 1 f_are_marks):=by
 obtain⟨v_MOST_MARKS,u_MOST_MARKS,gl_MOST_MARKS⟩:=Z.gl_MOST_MARKS;exact bD (k:=1) Z.t_are_marks sc_are_marks (λf cdv A outer s H E hr G=>(SXSs.u (az (bW (PXW_ptQ (pxw_orQ (pxt_notQ (cB (px_isiQ (T:="tuple") rfl Z.nb_isinstance rfl Z.nb_tuple (by decide +kernel) Z.isi_tuple G.K (bf 0)))) (pxw_or1Q (t_cmpQ c_gt (x_lenQ G Z.nb_len (aX (bQ 0))) (aH (px_globQ (.int 4) rfl gl_MOST_MARKS.1 gl_MOST_MARKS.2.1 (λF=>gl_MOST_MARKS.2.2 F))))))) (aA (aM px_blQ)) bG)
   (aA (aM (px_andQ (x_allQ G Z.nb_all (aX (aH (cj (n_lcQ ["thing","mark"] 1 compOk G (i_seqQ G (bf 0)) (λX1 h1=>by have G:=G.at h1;obtain⟨_,_,_,_,_,rfl⟩:=h1;exact(aR 1)) (λX1 h1=>by have G:=G.at h1;obtain⟨_,_,_,_,_,rfl⟩:=h1;exact cG) (λX1 h1=>by have G:=G.at h1;obtain⟨_,_,_,_,_,rfl⟩:=h1;exact(bz (o_is_name Z) G hr (pvQ 1 au) (bw len0)))))))) (px_oneQ (bz (o_rises Z) G hr (pvQ 0 au) (bw len0)))))))))
theorem sc_is_marked_sound:bj Zq0 Zq0 (aL s_is_marked_sound):=scOk
include Z in
theorem o_is_marked_sound:Own P w K mg base "is_marked_sound" 3 Zq0 (spP K 1 f_is_marked_sound):=by exact bD (k:=2) Z.t_is_marked_sound sc_is_marked_sound (λf cdv A outer s H E hr G=>(SXSs.u (aA (aM (px_andQ (bz (o_is_pair Z) G hr (pvQ 0 au) (bw len0)) (px_andQ (bz (o_is_sound Z) G hr (aB (bT 0 G (aH aK)) au) (bw len0)) (px_oneQ (bz (o_are_marks Z) G hr (aB (bT 0 G (aH aK)) au) (bw len0)))))))))
theorem sc_sounds_of:bj ["stock"] ["stock"] (aL s_sounds_of):=scOk
include Z in
theorem o_sounds_of:Own P w K mg base "sounds_of" 1 ["stock"] (spP K 1 f_sounds_of):=by exact bD (k:=0) Z.t_sounds_of sc_sounds_of (λf cdv A outer s H E hr G=>(SXSs.u (aA (aM (x_tupleQ G Z.nb_tuple (aX (aH (cj (n_lcQ ["stock","sound","marks"] 1 compOk G (i_seqQ G (bf 0)) (λX1 h1=>by have G:=G.at h1;obtain⟨_,_,_,_,_,rfl⟩:=h1;exact(g_tupQ G (aP (aR 1) (aP (aR 2) cH)))) (λX1 h1=>by have G:=G.at h1;obtain⟨_,_,_,_,_,rfl⟩:=h1;exact cG) (λX1 h1=>by have G:=G.at h1;obtain⟨_,_,_,_,_,rfl⟩:=h1;exact(bf 1)))))))))))
theorem sc_is_stock:bj Zq0 Zq0 (aL s_is_stock):=scOk
include Z in
theorem o_is_stock:Own P w K mg base "is_stock" 4 Zq0 (spP K 1 f_is_stock):=by
 obtain⟨v_MOST_SOUNDS,u_MOST_SOUNDS,gl_MOST_SOUNDS⟩:=Z.gl_MOST_SOUNDS;exact bD (k:=3) Z.t_is_stock sc_is_stock (λf cdv A outer s H E hr G=>(SXSs.u (az (bW (PXW_ptQ (pxw_orQ (pxt_notQ (cB (px_isiQ (T:="tuple") rfl Z.nb_isinstance rfl Z.nb_tuple (by decide +kernel) Z.isi_tuple G.K (bf 0)))) (pxw_or1Q (pxt_notQ (t_chainQ c_le c_le aK (x_lenQ G Z.nb_len (aX (bQ 0))) (px_globQ (.int 4) rfl gl_MOST_SOUNDS.1 gl_MOST_SOUNDS.2.1 (λF=>gl_MOST_SOUNDS.2.2 F))))))) (aA (aM px_blQ)) bG)
   (aA (aM (px_andQ (x_allQ G Z.nb_all (aX (aH (cj (n_lcQ ["thing","row"] 1 compOk G (i_seqQ G (bf 0)) (λX1 h1=>by have G:=G.at h1;obtain⟨_,_,_,_,_,rfl⟩:=h1;exact(aR 1)) (λX1 h1=>by have G:=G.at h1;obtain⟨_,_,_,_,_,rfl⟩:=h1;exact cG) (λX1 h1=>by have G:=G.at h1;obtain⟨_,_,_,_,_,rfl⟩:=h1;exact(bz (o_is_marked_sound Z) G hr (pvQ 1 au) (bw len0)))))))) (px_oneQ (bz (o_rises Z) G hr (aB (bz (o_sounds_of Z) G hr (pvQ 0 au) (bw len0)) au) (bw len0)))))))))
theorem sc_sounds_by:bj ["stock","marks"] ["stock","marks"] (aL s_sounds_by):=scOk
include Z in
theorem o_sounds_by:Own P w K mg base "sounds_by" 1 ["stock","marks"] (spP K 2 f_sounds_by):=by exact bD (k:=0) Z.t_sounds_by sc_sounds_by (λf cdv A outer s H E hr G=>(SXSs.u (aA (aM (x_tupleQ G Z.nb_tuple (aX (aH (cj (n_lcQ ["stock","marks","sound","own"] 2 compOk G (i_seqQ G (bf 0)) (λX1 h1=>by have G:=G.at h1;obtain⟨_,_,_,_,_,rfl⟩:=h1;exact(g_tupQ G (aP (aR 2) (aP (aR 3) cH)))) (λX1 h1=>by have G:=G.at h1;obtain⟨_,_,_,_,_,rfl⟩:=h1;exact(pxif_oneQ (cB (x_allQ G Z.nb_all (aX (aH (cj (n_lcQ ["stock","marks","sound","own","mark"] 4 compOk G (i_seqQ G (bf 1)) (λX1 h1=>by have G:=G.at h1;obtain⟨_,_,_,_,_,rfl⟩:=h1;exact(aR 4)) (λX1 h1=>by have G:=G.at h1;obtain⟨_,_,_,_,_,rfl⟩:=h1;exact cG) (λX1 h1=>by have G:=G.at h1;obtain⟨_,_,_,_,_,rfl⟩:=h1;exact(x_cmpOQ 4 (c_in G) (bQ 3))))))))))) (λX1 h1=>by have G:=G.at h1;obtain⟨_,_,_,_,_,rfl⟩:=h1;exact(bf 2)))))))))))
theorem sc_changes_sound:bj ["sounds","thing","old","new"] Zq1 (aL s_changes_sound):=scOk
include Z in
theorem o_changes_sound:Own P w K mg base "changes_sound" 2 Zq1 (spP K 2 f_changes_sound):=by
 exact bD (k:=1) Z.t_changes_sound sc_changes_sound (λf cdv A outer s H E hr G=>(SXSs.u (az (bW (pxt_notQ (cB (bz (o_is_pair Z) G hr (pvQ 1 au) (bw len0)))) (aA (aM px_blQ)) bG)
   (az (pxs_asgQ (bf 1) (g_tupQ G (aP (aR 2) (aP (aR 3) cH))))
   (aA (aM (px_andQ (x_cmpOQ 2 (c_in G) (bQ 0)) (px_andQ (px_orQ (x_cmpOQ 3 (c_in G) (bQ 0)) (px_oneQ (x_cmpOQ 3 (c_eq G) (aH (aW []))))) (px_oneQ (x_cmpOQ 2 (c_ne G) (bQ 3)))))))))))
theorem sc_puts_one_in:bj Zq1 Zq1 (aL s_puts_one_in):=scOk
include Z in
theorem o_puts_one_in:Own P w K mg base "puts_one_in" 2 Zq1 (spP K 2 f_puts_one_in):=by exact bD (k:=1) Z.t_puts_one_in sc_puts_one_in (λf cdv A outer s H E hr G=>(SXSs.u (aA (aM (px_andQ (bz (o_is_pair Z) G hr (pvQ 1 au) (bw len0)) (px_andQ (x_cmpQ (c_eq G) (bT 1 G (aH aK)) (aH (aW []))) (px_oneQ (x_cmpQ (c_in G) (bT 1 G (aH aK)) (bQ 0)))))))))
theorem sc_are_changes:bj Zq1 Zq1 (aL s_are_changes):=scOk
include Z in
theorem o_are_changes:Own P w K mg base "are_changes" 3 Zq1 (spP K 2 f_are_changes):=by
 exact bD (k:=2) Z.t_are_changes sc_are_changes (λf cdv A outer s H E hr G=>(SXSs.u (az (bW (PXW_ptQ (pxw_orQ (pxt_notQ (cB (px_isiQ (T:="tuple") rfl Z.nb_isinstance rfl Z.nb_tuple (by decide +kernel) Z.isi_tuple G.K (bf 1)))) (pxw_or1Q (t_cmpQ (c_eq G) (x_lenQ G Z.nb_len (aX (bQ 1))) (aH aK))))) (aA (aM px_blQ)) bG)
   (az (bW (PXW_ptQ (pxw_andQ (t_cmpQ (c_eq G) (x_lenQ G Z.nb_len (aX (bQ 1))) (aH aK)) (pxw_and1Q (cB (bz (o_puts_one_in Z) G hr (pvQ 0 (aB (bT 1 G (aH aK)) au)) (bw (bw len0))))))) (aA (aM px_blQ)) bG)
   (aA (aM (px_andQ (x_allQ G Z.nb_all (aX (aH (cj (n_lcQ ["sounds","thing","change"] 2 compOk G (i_seqQ G (bf 1)) (λX1 h1=>by have G:=G.at h1;obtain⟨_,_,_,_,_,rfl⟩:=h1;exact(aR 2)) (λX1 h1=>by have G:=G.at h1;obtain⟨_,_,_,_,_,rfl⟩:=h1;exact cG) (λX1 h1=>by have G:=G.at h1;obtain⟨_,_,_,_,_,rfl⟩:=h1;exact(bz (o_changes_sound Z) G hr (pvQ 0 (pvQ 2 au)) (bw (bw len0))))))))) (px_oneQ (bz (o_rises Z) G hr (aB (cj (n_lcQ ["sounds","thing","old","new"] 2 compOk G (i_seqQ G (bf 1)) (λX1 h1=>by have G:=G.at h1;obtain⟨_,_,_,_,_,rfl⟩:=h1;exact(g_tupQ G (aP (aR 2) (aP (aR 3) cH)))) (λX1 h1=>by have G:=G.at h1;obtain⟨_,_,_,_,_,rfl⟩:=h1;exact cG) (λX1 h1=>by have G:=G.at h1;obtain⟨_,_,_,_,_,rfl⟩:=h1;exact(bf 2)))) au) (bw len0))))))))))
theorem sc_are_signs:bj Zq1 Zq1 (aL s_are_signs):=scOk
include Z in
theorem o_are_signs:Own P w K mg base "are_signs" 2 Zq1 (spP K 2 f_are_signs):=by
 obtain⟨v_EDGE,u_EDGE,gl_EDGE⟩:=Z.gl_EDGE;exact bD (k:=1) Z.t_are_signs sc_are_signs (λf cdv A outer s H E hr G=>(SXSs.u (az (bW (t_cmpOQ 1 c_is (aH px_nonQ)) (aA (aM px_blQ)) bG)
   (az (bW (PXW_ptQ (pxw_orQ (pxt_notQ (cB (px_isiQ (T:="tuple") rfl Z.nb_isinstance rfl Z.nb_tuple (by decide +kernel) Z.isi_tuple G.K (bf 1)))) (pxw_or1Q (t_cmpQ (c_eq G) (x_lenQ G Z.nb_len (aX (bQ 1))) (aH aK))))) (aA (aM px_blQ)) bG)
   (aA (aM (px_andQ (x_allQ G Z.nb_all (aX (aH (cj (n_lcQ ["sounds","thing","sign"] 2 compOk G (i_seqQ G (bf 1)) (λX1 h1=>by have G:=G.at h1;obtain⟨_,_,_,_,_,rfl⟩:=h1;exact(aR 2)) (λX1 h1=>by have G:=G.at h1;obtain⟨_,_,_,_,_,rfl⟩:=h1;exact cG) (λX1 h1=>by have G:=G.at h1;obtain⟨_,_,_,_,_,rfl⟩:=h1;exact(px_orQ (x_cmpOQ 2 (c_eq G) (aH (px_globQ (.str [35]) rfl gl_EDGE.1 gl_EDGE.2.1 (λF=>gl_EDGE.2.2 F)))) (px_oneQ (x_cmpOQ 2 (c_in G) (bQ 0)))))))))) (px_oneQ (bz (o_rises Z) G hr (pvQ 1 au) (bw len0))))))))))
theorem sc_is_rule:bj ["stock","thing","way","changes","left","right","sounds"] Zq10 (aL s_is_rule):=scOk
include Z in
theorem o_is_rule:Own P w K mg base "is_rule" 4 Zq10 (spP K 2 f_is_rule):=by
 obtain⟨v_WAYS,u_WAYS,gl_WAYS⟩:=Z.gl_WAYS;exact bD (k:=3) Z.t_is_rule sc_is_rule (λf cdv A outer s H E hr G=>(SXSs.u (az (bW (PXW_ptQ (pxw_orQ (pxt_notQ (cB (px_isiQ (T:="tuple") rfl Z.nb_isinstance rfl Z.nb_tuple (by decide +kernel) Z.isi_tuple G.K (bf 1)))) (pxw_or1Q (t_cmpQ (c_ne G) (x_lenQ G Z.nb_len (aX (bQ 1))) (aH aK))))) (aA (aM px_blQ)) bG)
   (az (pxs_asgQ (bf 1) (g_tupQ G (aP (aR 2) (aP (aR 3) (aP (aR 4) (aP (aR 5) cH))))))
   (az (bO 6 (bz (o_sounds_of Z) G hr (pvQ 0 au) (bw len0)))
   (aA (aM (px_andQ (x_cmpOQ 2 (c_in G) (aH (px_globQ (.tup [(.str [111,110,99,101]),(.str [97,108,111,110,103])]) rfl gl_WAYS.1 gl_WAYS.2.1 (λF=>gl_WAYS.2.2 F)))) (px_andQ (bz (o_are_changes Z) G hr (pvQ 6 (pvQ 3 au)) (bw (bw len0))) (px_andQ (bz (o_are_signs Z) G hr (pvQ 6 (pvQ 4 au)) (bw (bw len0))) (px_oneQ (bz (o_are_signs Z) G hr (pvQ 6 (pvQ 5 au)) (bw (bw len0))))))))))))))
theorem sc_is_order:bj ["stock","thing","side","rules"] Zq10 (aL s_is_order):=scOk
include Z in
theorem o_is_order:Own P w K mg base "is_order" 5 Zq10 (spP K 2 f_is_order):=by
 obtain⟨v_MOST_RULES,u_MOST_RULES,gl_MOST_RULES⟩:=Z.gl_MOST_RULES;obtain⟨v_SIDES,u_SIDES,gl_SIDES⟩:=Z.gl_SIDES;exact bD (k:=4) Z.t_is_order sc_is_order (λf cdv A outer s H E hr G=>(SXSs.u (az (bW (pxt_notQ (cB (bz (o_is_pair Z) G hr (pvQ 1 au) (bw len0)))) (aA (aM px_blQ)) bG)
   (az (pxs_asgQ (bf 1) (g_tupQ G (aP (aR 2) (aP (aR 3) cH))))
   (az (bW (PXW_ptQ (pxw_orQ (t_cmpOQ 2 (c_notIn G) (aH (px_globQ (.tup [(.str [108,101,102,116]),(.str [114,105,103,104,116])]) rfl gl_SIDES.1 gl_SIDES.2.1 (λF=>gl_SIDES.2.2 F)))) (pxw_orQ (pxt_notQ (cB (px_isiQ (T:="tuple") rfl Z.nb_isinstance rfl Z.nb_tuple (by decide +kernel) Z.isi_tuple G.K (bf 3)))) (pxw_or1Q (t_cmpQ c_gt (x_lenQ G Z.nb_len (aX (bQ 3))) (aH (px_globQ (.int 4) rfl gl_MOST_RULES.1 gl_MOST_RULES.2.1 (λF=>gl_MOST_RULES.2.2 F)))))))) (aA (aM px_blQ)) bG)
   (aA (aM (x_allQ G Z.nb_all (aX (aH (cj (n_lcQ ["stock","thing","side","rules","rule"] 4 compOk G (i_seqQ G (bf 3)) (λX1 h1=>by have G:=G.at h1;obtain⟨_,_,_,_,_,rfl⟩:=h1;exact(aR 4)) (λX1 h1=>by have G:=G.at h1;obtain⟨_,_,_,_,_,rfl⟩:=h1;exact cG) (λX1 h1=>by have G:=G.at h1;obtain⟨_,_,_,_,_,rfl⟩:=h1;exact(bz (o_is_rule Z) G hr (pvQ 0 (pvQ 4 au)) (bw (bw len0))))))))))))))))
theorem sc_fits:bj ["signs","sign"] ["signs","sign"] (aL s_fits):=scOk
include Z in
theorem o_fits:Own P w K mg base "fits" 1 ["signs","sign"] (spP K 2 f_fits):=by exact bD (k:=0) Z.t_fits sc_fits (λf cdv A outer s H E hr G=>(SXSs.u (aA (aM (px_orQ (x_cmpOQ 0 c_is (aH px_nonQ)) (px_oneQ (x_cmpOQ 1 (c_in G) (bQ 0))))))))
theorem sc_turned:bj ["rule","way","changes","left","right"] ["rule"] (aL s_turned):=scOk
include Z in
theorem o_turned:Own P w K mg base "turned" 1 ["rule"] (spP K 1 f_turned):=by
 exact bD (k:=0) Z.t_turned sc_turned (λf cdv A outer s H E hr G=>(SXSs.u (az (pxs_asgQ (bf 0) (g_tupQ G (aP (aR 1) (aP (aR 2) (aP (aR 3) (aP (aR 4) cH))))))
   (aA (aM (px_tupQ (pvQ 1 (pvQ 2 (pvQ 4 (pvQ 3 au))))))))))
theorem sc_puts_in:bj ["rule"] ["rule"] (aL s_puts_in):=scOk
include Z in
theorem o_puts_in:Own P w K mg base "puts_in" 1 ["rule"] (spP K 1 f_puts_in):=by exact bD (k:=0) Z.t_puts_in sc_puts_in (λf cdv A outer s H E hr G=>(SXSs.u (aA (aM (x_cmpQ (c_eq G) (x_ixQ G (x_ixQ G (bT 0 G (aH aK)) (aH aK)) (aH aK)) (aH (aW [])))))))
theorem sc_need_text:bj Zq0 Zq0 (aL s_need_text):=scOk
include Z in
theorem o_need_text:Own P w K mg base "need_text" 1 Zq0 (spP K 1 f_need_text):=by exact bD (k:=0) Z.t_need_text sc_need_text (λf cdv A outer s H E hr G=>(SXSs.u (aA (bW (pxt_notQ (cB (px_isiQ (T:="str") rfl Z.nb_isinstance rfl Z.nb_str (by decide +kernel) Z.isi_str G.K (bf 0)))) (aA pxs_raiseQ) bG))))
theorem sc_show_stock:bj ["stock"] ["stock"] (aL s_show_stock):=scOk
include Z in
theorem o_show_stock:Own P w K mg base "show_stock" 1 ["stock"] (spP K 1 f_show_stock):=by exact bD (k:=0) Z.t_show_stock sc_show_stock (λf cdv A outer s H E hr G=>(SXSs.u (aA (aM (x_joinQ G (aW [44,32]) (aH (cj (n_lcQ ["stock","sound","marks"] 1 compOk G (i_seqQ G (bf 0)) (λX1 h1=>by have G:=G.at h1;obtain⟨_,_,_,_,_,rfl⟩:=h1;exact(g_tupQ G (aP (aR 1) (aP (aR 2) cH)))) (λX1 h1=>by have G:=G.at h1;obtain⟨_,_,_,_,_,rfl⟩:=h1;exact cG) (λX1 h1=>by have G:=G.at h1;obtain⟨_,_,_,_,_,rfl⟩:=h1;exact(x_joinTQ G (aW [32]) (aH (cO (cP G) (px_tupQ (pvQ 1 au)) (bQ 2)))))))))))))
theorem sc_read_stock:bj ["text","rows","number","part","words"] ["text"] (aL s_read_stock):=scOk
include Z in
theorem o_read_stock:Own P w K mg base "read_stock" 5 ["text"] (spP K 1 f_read_stock):=by
 exact bD (k:=4) Z.t_read_stock sc_read_stock (λf cdv A outer s H E hr G=>(SXSs.u (az (pxs_dropQ (bz (o_need_text Z) G hr (pvQ 0 au) (bw len0)))
   (az (bO 1 (px_tupQ au))
   (az (s_forQ G (i_enumLQ G Z.nb_enumerate (aB (x_splitQ G (bf 0) (aH (aW [44,32]))) au)) (g_tupQ G (aP (aR 2) (aP (aR 3) cH))) (az (bO 4 (x_splitQ G (bf 3) (aH (aW [32]))))
   (az (bO 1 (cQ 1 (cP G) (aH (px_tupQ (aB (px_tupQ (aB (bT 4 G (aH aK)) (aB (x_tupleQ G Z.nb_tuple (aX (aH (x_slAQ G (bf 4) (cV aK) pxp_noneQ)))) au))) au)))))
   (aA (bW (pxt_notQ (cB (bz (o_is_stock Z) G hr (pvQ 1 au) (bw len0)))) (aA pxs_raiseQ) bG)))))
   (aA (aM (bf 1))))))))
theorem sc_show_sound:bj ["sound"] ["sound"] (aL s_show_sound):=scOk
include Z in
theorem o_show_sound:Own P w K mg base "show_sound" 1 ["sound"] (spP K 1 f_show_sound):=by obtain⟨v_NO_SOUND,u_NO_SOUND,gl_NO_SOUND⟩:=Z.gl_NO_SOUND;exact bD (k:=0) Z.t_show_sound sc_show_sound (λf cdv A outer s H E hr G=>(SXSs.u (aA (aM (px_ifQ (t_cmpOQ 0 (c_eq G) (aH (aW []))) (px_globQ (.str [48]) rfl gl_NO_SOUND.1 gl_NO_SOUND.2.1 (λF=>gl_NO_SOUND.2.2 F)) (bf 0))))))
theorem sc_show_signs:bj ["signs"] ["signs"] (aL s_show_signs):=scOk
include Z in
theorem o_show_signs:Own P w K mg base "show_signs" 1 ["signs"] (spP K 1 f_show_signs):=by obtain⟨v_ALL_FITS,u_ALL_FITS,gl_ALL_FITS⟩:=Z.gl_ALL_FITS;exact bD (k:=0) Z.t_show_signs sc_show_signs (λf cdv A outer s H E hr G=>(SXSs.u (aA (aM (px_ifQ (t_cmpOQ 0 c_is (aH px_nonQ)) (px_globQ (.str [42]) rfl gl_ALL_FITS.1 gl_ALL_FITS.2.1 (λF=>gl_ALL_FITS.2.2 F)) (x_joinTQ G (aW []) (bQ 0)))))))
theorem sc_show_rule:bj ["rule","way","changes","left","right","shown"] ["rule"] (aL s_show_rule):=scOk
include Z in
theorem o_show_rule:Own P w K mg base "show_rule" 2 ["rule"] (spP K 1 f_show_rule):=by
 exact bD (k:=1) Z.t_show_rule sc_show_rule (λf cdv A outer s H E hr G=>(SXSs.u (az (pxs_asgQ (bf 0) (g_tupQ G (aP (aR 1) (aP (aR 2) (aP (aR 3) (aP (aR 4) cH))))))
   (az (s_lcQ ["rule","way","changes","left","right","shown","old","new"] 6 5 compOk G (i_seqQ G (bf 2)) (λX1 h1=>by have G:=G.at h1;obtain⟨_,_,_,_,_,rfl⟩:=h1;exact(g_tupQ G (aP (aR 6) (aP (aR 7) cH)))) (λX1 h1=>by have G:=G.at h1;obtain⟨_,_,_,_,_,rfl⟩:=h1;exact cG) (λX1 h1=>by have G:=G.at h1;obtain⟨_,_,_,_,_,rfl⟩:=h1;exact(x_fmtQ [62] (by decide +kernel) (bz (o_show_sound Z) G hr (pvQ 6 au) (bw len0)) (bz (o_show_sound Z) G hr (pvQ 7 au) (bw len0)))))
   (aA (aM (x_joinQ G (aW [32]) (aH (cO (cP G) (cO (cP G) (cj (pxn_lstQ (pvQ 1 au))) (bQ 5)) (aH (cj (pxn_lstQ (aB (aW [47]) (aB (bz (o_show_signs Z) G hr (pvQ 3 au) (bw len0)) (aB (aW [95]) (aB (bz (o_show_signs Z) G hr (pvQ 4 au) (bw len0)) au))))))))))))))))
theorem sc_read_sound:bj ["text"] ["text"] (aL s_read_sound):=scOk
include Z in
theorem o_read_sound:Own P w K mg base "read_sound" 1 ["text"] (spP K 1 f_read_sound):=by
 obtain⟨v_NO_SOUND,u_NO_SOUND,gl_NO_SOUND⟩:=Z.gl_NO_SOUND;exact bD (k:=0) Z.t_read_sound sc_read_sound (λf cdv A outer s H E hr G=>(SXSs.u (az (bW (t_cmpOQ 0 (c_eq G) (aH (aW []))) (aA (aM px_nonQ)) bG)
   (aA (aM (px_ifQ (t_cmpOQ 0 (c_eq G) (aH (px_globQ (.str [48]) rfl gl_NO_SOUND.1 gl_NO_SOUND.2.1 (λF=>gl_NO_SOUND.2.2 F)))) (aW []) (bf 0)))))))
theorem sc_read_signs:bj Zq2 Zq2 (aL s_read_signs):=scOk
include Z in
theorem o_read_signs:Own P w K mg base "read_signs" 2 Zq2 (spP K 2 f_read_signs):=by
 obtain⟨v_ALL_FITS,u_ALL_FITS,gl_ALL_FITS⟩:=Z.gl_ALL_FITS;exact bD (k:=1) Z.t_read_signs sc_read_signs (λf cdv A outer s H E hr G=>(SXSs.u (az (bW (t_cmpOQ 1 (c_eq G) (aH (px_globQ (.str [42]) rfl gl_ALL_FITS.1 gl_ALL_FITS.2.1 (λF=>gl_ALL_FITS.2.2 F)))) (aA (aM px_nonQ)) bG)
   (az (bW (PXW_ptQ (pxw_orQ (pxt_notQ (cB (x_startsQ G (bf 1) (aH (aW [91]))))) (pxw_or1Q (pxt_notQ (cB (x_endsQ G (bf 1) (aH (aW [93])))))))) (aA (aM (x_tupSQ G Z.nb_tuple (aX (bQ 1))))) bG)
   (aA (aM (bz (o_sounds_by Z) G hr (pvQ 0 (aB (x_splitQ G (x_slAQ G (bf 1) (cV aK) (cV (x_negQ aK))) (aH (aW [32]))) au)) (bw (bw len0)))))))))
theorem sc_read_parts:bj ["stock","text","words","slash","line","changes","left"] Zq2 (aL s_read_parts):=scOk
include Z in
theorem o_read_parts:Own P w K mg base "read_parts" 3 Zq2 (spP K 2 f_read_parts):=by
 exact bD (k:=2) Z.t_read_parts sc_read_parts (λf cdv A outer s H E hr G=>(SXSs.u (az (bO 2 (x_splitQ G (bf 1) (aH (aW [32]))))
   (az (bW (PXW_ptQ (pxw_orQ (t_cmpQ (c_notIn G) (aW [47]) (bQ 2)) (pxw_or1Q (t_cmpQ (c_notIn G) (aW [95]) (bQ 2))))) (aA (aM px_nonQ)) bG)
   (az (bO 3 (x_lindexQ G (bf 2) (aH (aW [47]))))
   (az (bO 4 (x_lindexQ G (bf 2) (aH (aW [95]))))
   (az (bO 5 (x_tupleQ G Z.nb_tuple (aX (aH (cj (n_lcQ ["stock","text","words","slash","line","changes","left","word"] 7 compOk G (i_seqQ G (x_slAQ G (bf 2) (cV aK) (cV (bf 3)))) (λX1 h1=>by have G:=G.at h1;obtain⟨_,_,_,_,_,rfl⟩:=h1;exact(aR 7)) (λX1 h1=>by have G:=G.at h1;obtain⟨_,_,_,_,_,rfl⟩:=h1;exact cG) (λX1 h1=>by have G:=G.at h1;obtain⟨_,_,_,_,_,rfl⟩:=h1;exact(x_tupleQ G Z.nb_tuple (aX (aH (cj (n_lcQ ["stock","text","words","slash","line","changes","left","word","side"] 8 compOk G (i_seqQ G (x_splitQ G (bf 7) (aH (aW [62])))) (λX1 h1=>by have G:=G.at h1;obtain⟨_,_,_,_,_,rfl⟩:=h1;exact(aR 8)) (λX1 h1=>by have G:=G.at h1;obtain⟨_,_,_,_,_,rfl⟩:=h1;exact cG) (λX1 h1=>by have G:=G.at h1;obtain⟨_,_,_,_,_,rfl⟩:=h1;exact(bz (o_read_sound Z) G hr (pvQ 8 au) (bw len0)))))))))))))))
   (az (bO 6 (bz (o_read_signs Z) G hr (pvQ 0 (aB (x_joinQ G (aW [32]) (aH (x_slAQ G (bf 2) (cV (cQ 3 (cP G) (aH aK))) (cV (bf 4))))) au)) (bw (bw len0))))
   (aA (aM (px_tupQ (aB (bT 2 G (aH aK)) (pvQ 5 (pvQ 6 (aB (bz (o_read_signs Z) G hr (pvQ 0 (aB (x_joinQ G (aW [32]) (aH (x_slAQ G (bf 2) (cV (cQ 4 (cP G) (aH aK))) pxp_noneQ))) au)) (bw (bw len0))) au)))))))))))))))
theorem sc_show_order:bj ["order","side","rules"] ["order"] (aL s_show_order):=scOk
include Z in
theorem o_show_order:Own P w K mg base "show_order" 3 ["order"] (spP K 1 f_show_order):=by
 exact bD (k:=2) Z.t_show_order sc_show_order (λf cdv A outer s H E hr G=>(SXSs.u (az (pxs_asgQ (bf 0) (g_tupQ G (aP (aR 1) (aP (aR 2) cH))))
   (aA (aM (x_joinQ G (aW [59,32]) (aH (cO (cP G) (cj (pxn_lstQ (pvQ 1 au))) (aH (cj (n_lcQ ["order","side","rules","rule"] 3 compOk G (i_seqQ G (bf 2)) (λX1 h1=>by have G:=G.at h1;obtain⟨_,_,_,_,_,rfl⟩:=h1;exact(aR 3)) (λX1 h1=>by have G:=G.at h1;obtain⟨_,_,_,_,_,rfl⟩:=h1;exact cG) (λX1 h1=>by have G:=G.at h1;obtain⟨_,_,_,_,_,rfl⟩:=h1;exact(bz (o_show_rule Z) G hr (pvQ 3 au) (bw len0))))))))))))))
theorem sc_read_order:bj ["stock","text","parts","order","number"] Zq2 (aL s_read_order):=scOk
include Z in
theorem o_read_order:Own P w K mg base "read_order" 6 Zq2 (spP K 2 f_read_order):=by
 exact bD (k:=5) Z.t_read_order sc_read_order (λf cdv A outer s H E hr G=>(SXSs.u (az (pxs_dropQ (bz (o_need_text Z) G hr (pvQ 1 au) (bw len0)))
   (az (bO 2 (x_splitQ G (bf 1) (aH (aW [59,32]))))
   (az (bO 3 (px_tupQ (aB (bT 2 G (aH aK)) (aB (px_tupQ au) au))))
   (az (bW (pxt_notQ (cB (bz (o_is_order Z) G hr (pvQ 0 (pvQ 3 au)) (bw (bw len0))))) (aA pxs_raiseQ) bG)
   (az (s_forQ G (i_rng2Q Z.nb_range (aB aK (aB (x_lenQ G Z.nb_len (aX (bQ 2))) au)) (bw (bw len0))) (aR 4) (az (bO 3 (px_tupQ (aB (bT 2 G (aH aK)) (aB (cO (cP G) (bT 3 G (aH aK)) (aH (px_tupQ (aB (bz (o_read_parts Z) G hr (pvQ 0 (aB (bT 2 G (bQ 4)) au)) (bw (bw len0))) au)))) au))))
   (aA (bW (pxt_notQ (cB (bz (o_is_order Z) G hr (pvQ 0 (pvQ 3 au)) (bw (bw len0))))) (aA pxs_raiseQ) bG))))
   (aA (aM (bf 3))))))))))
theorem sc_with_put_in:bj ["rule","word","way","changes","left","right","new","made_of","ahead","sign"] Zq3 (aL s_with_put_in):=scOk
include Z in
theorem o_with_put_in:Own P w K mg base "with_put_in" 2 Zq3 (spP K 2 f_with_put_in):=by
 obtain⟨v_EDGE,u_EDGE,gl_EDGE⟩:=Z.gl_EDGE;exact bD (k:=1) Z.t_with_put_in sc_with_put_in (λf cdv A outer s H E hr G=>(SXSs.u (az (pxs_asgQ (bf 0) (g_tupQ G (aP (aR 2) (aP (aR 3) (aP (aR 4) (aP (aR 5) cH))))))
   (az (bO 6 (x_ixQ G (bT 3 G (aH aK)) (aH aK)))
   (az (s_ownQ 7 (pxn_lstQ au))
   (az (bO 8 (px_globQ (.str [35]) rfl gl_EDGE.1 gl_EDGE.2.1 (λF=>gl_EDGE.2.2 F)))
   (az (s_forQ G (i_seqQ G (cQ 1 (cP G) (aH (px_globQ (.str [35]) rfl gl_EDGE.1 gl_EDGE.2.1 (λF=>gl_EDGE.2.2 F))))) (aR 9) (az (bW (PXW_ptQ (pxw_andQ (cB (bz (o_fits Z) G hr (pvQ 4 (pvQ 8 au)) (bw (bw len0)))) (pxw_and1Q (cB (bz (o_fits Z) G hr (pvQ 5 (pvQ 9 au)) (bw (bw len0))))))) (aA (s_appQ 7 G (bf 6))) bG)
   (az (s_appQ 7 G (bf 9))
   (aA (bO 8 (bf 9))))))
   (aA (aM (x_joinQ G (aW []) (aH (x_slQ G (bf 7) pxp_noneQ (cV (x_negQ aK))))))))))))))
theorem sc_with_changes:bj ["rule","word","way","changes","left","right","becomes","signs","made_of","ahead","at","sound","new"] Zq3 (aL s_with_changes):=scOk
include Z in
theorem o_with_changes:Own P w K mg base "with_changes" 2 Zq3 (spP K 2 f_with_changes):=by
 obtain⟨v_EDGE,u_EDGE,gl_EDGE⟩:=Z.gl_EDGE;exact bD (k:=1) Z.t_with_changes sc_with_changes (λf cdv A outer s H E hr G=>(SXSs.u (az (pxs_asgQ (bf 0) (g_tupQ G (aP (aR 2) (aP (aR 3) (aP (aR 4) (aP (aR 5) cH))))))
   (az (bO 6 (x_dictQ G Z.nb_dict (aX (bQ 3))))
   (az (bO 7 (cQ 1 (cP G) (aH (px_globQ (.str [35]) rfl gl_EDGE.1 gl_EDGE.2.1 (λF=>gl_EDGE.2.2 F)))))
   (az (s_ownQ 8 (pxn_lstQ au))
   (az (bO 9 (px_globQ (.str [35]) rfl gl_EDGE.1 gl_EDGE.2.1 (λF=>gl_EDGE.2.2 F)))
   (az (s_forQ G (i_enumQ Z.nb_enumerate (pvQ 1 au)) (g_tupQ G (aP (aR 10) (aP (aR 11) cH))) (az (bO 12 (bf 11))
   (az (bW (PXW_ptQ (pxw_andQ (t_cmpOQ 11 (c_inDct G) (bQ 6)) (pxw_andQ (cB (bz (o_fits Z) G hr (pvQ 4 (pvQ 9 au)) (bw (bw len0)))) (pxw_and1Q (cB (bz (o_fits Z) G hr (pvQ 5 (aB (bT 7 G (aH (cQ 10 (cP G) (aH aK)))) au)) (bw (bw len0)))))))) (aA (bO 12 (x_dgetOQ 6 G (bQ 11)))) bG)
   (az (s_appQ 8 G (bf 12))
   (aA (bW (t_cmpOQ 2 (c_eq G) (aH (aW [111,110,99,101]))) (aA (bO 9 (bf 11))) (aA (bW (t_cmpOQ 12 (c_ne G) (aH (aW []))) (aA (bO 9 (bf 12))) bG))))))))
   (aA (aM (x_joinQ G (aW []) (bQ 8))))))))))))
theorem sc_from_left:bj Zq3 Zq3 (aL s_from_left):=scOk
include Z in
theorem o_from_left:Own P w K mg base "from_left" 3 Zq3 (spP K 2 f_from_left):=by
 exact bD (k:=2) Z.t_from_left sc_from_left (λf cdv A outer s H E hr G=>(SXSs.u (az (bW (cB (bz (o_puts_in Z) G hr (pvQ 0 au) (bw len0))) (aA (aM (bz (o_with_put_in Z) G hr (pvQ 0 (pvQ 1 au)) (bw (bw len0))))) bG)
   (aA (aM (bz (o_with_changes Z) G hr (pvQ 0 (pvQ 1 au)) (bw (bw len0))))))))
theorem sc_changed:bj Zq12 Zq12 (aL s_changed):=scOk
include Z in
theorem o_changed:Own P w K mg base "changed" 4 Zq12 (spP K 3 f_changed):=by
 exact bD (k:=3) Z.t_changed sc_changed (λf cdv A outer s H E hr G=>(SXSs.u (az (bW (t_cmpOQ 0 (c_eq G) (aH (aW [114,105,103,104,116]))) (aA (aM (x_revQ (bz (o_from_left Z) G hr (aB (bz (o_turned Z) G hr (pvQ 1 au) (bw len0)) (aB (x_revQ (bf 2)) au)) (bw (bw len0)))))) bG)
   (aA (aM (bz (o_from_left Z) G hr (pvQ 1 (pvQ 2 au)) (bw (bw len0))))))))
theorem sc_walk:bj ["order","word","side","rules","words","rule"] Zq6 (aL s_walk):=scOk
include Z in
theorem o_walk:Own P w K mg base "walk" 5 Zq6 (spP K 2 f_walk):=by
 exact bD (k:=4) Z.t_walk sc_walk (λf cdv A outer s H E hr G=>(SXSs.u (az (pxs_asgQ (bf 0) (g_tupQ G (aP (aR 2) (aP (aR 3) cH))))
   (az (s_ownQ 4 (pxn_lstQ (pvQ 1 au)))
   (az (s_forQ G (i_seqQ G (bf 3)) (aR 5) (aA (s_appQ 4 G (bz (o_changed Z) G hr (pvQ 2 (pvQ 5 (aB (bT 4 G (aH (x_negQ aK))) au))) (bw (bw (bw len0)))))))
   (aA (aM (x_tupleQ G Z.nb_tuple (aX (bQ 4))))))))))
theorem sc_made:bj Zq6 Zq6 (aL s_made):=scOk
include Z in
theorem o_made:Own P w K mg base "made" 6 Zq6 (spP K 2 f_made):=by exact bD (k:=5) Z.t_made sc_made (λf cdv A outer s H E hr G=>(SXSs.u (aA (aM (x_ixQ G (bz (o_walk Z) G hr (pvQ 0 (pvQ 1 au)) (bw (bw len0))) (aH (x_negQ aK)))))))
theorem sc_law_mixed:bj ["_law_cell"] ["_law_cell"] (aL s_law_mixed):=scOk
include Z in
theorem o_law_mixed:Own P w K mg base "_law_mixed" 1 ["_law_cell"] (spP K 1 f_law_mixed):=by exact bD (k:=0) Z.t_law_mixed sc_law_mixed (λf cdv A outer s H E hr G=>(SXSs.u (aA (aM (cO b_mod (cQ 0 b_mul (aH aK)) (aH (cO b_pow aK (aH aK))))))))
theorem sc_law_pack:bj ["_law_script","_law_k","_law_found","_law_at"] ["_law_script","_law_k"] (aL s_law_pack):=scOk
include Z in
theorem o_law_pack:Own P w K mg base "_law_pack" 2 ["_law_script","_law_k"] (spN K 2 f_law_pack):=by
 exact own_new (k:=1) Z.t_law_pack sc_law_pack (λf cdv A outer s H E hr G=>(SXSs.u (az (bO 2 aK)
   (az (s_forQ G (i_seqQ G (cj (pxn_lstQ (aB (cQ 1 (cP G) (aH aK)) (pvQ 1 au))))) (aR 3) (aA (bO 2 (cO (cP G) (cQ 2 b_mul (aH (cO b_pow aK (aH aK)))) (aH (bz (o_law_mixed Z) G hr (aB (x_ixQ G (cO (cP G) (x_slQ G (bf 0) (cV (bf 3)) (cV (cQ 3 (cP G) (aH aK)))) (aH (cj (pxn_lstQ (aB (cO (cP G) (cO b_mul aK (bQ 3)) (aH aK)) au))))) (aH aK)) au) (bw len0)))))))
   (aA (pxs_retNewQ (pxn_lstQ (pvQ 2 au))))))))
theorem sc_law_take:bj ["_law_pack_here","_law_size","_law_digit"] Zq17 (aL s_law_take):=scOk
include Z in
theorem o_law_take:Own P w K mg base "_law_take" 1 Zq17 (spIO K 2 bh):=by
 exact own_io (k:=0) Z.t_law_take sc_law_take (λf cdv A outer s H E a hr G=>(SXSs.u (az (pxs_asgQ (x_divmodQ G Z.nb_divmod (pxab_consQ (bT 0 G (aH aK)) (aX (bQ 1)))) (g_tupQ G (aP (g_atQ 0 aK) (aP (aR 2) cH))))
   (aA (aM (bf 2))))))
theorem sc_law_stock:bj ["_law_pack_here","_law_sounds_here","_law_known","_law_found","_law_sound","_law_number","_law_marks"] ["_law_pack_here"] (aL s_law_stock):=scOk
include Z in
theorem o_law_stock:Own P w K mg base "_law_stock" 2 ["_law_pack_here"] (spIO K 1 f_law_stock):=by
 exact own_io (k:=1) Z.t_law_stock sc_law_stock (λf cdv A outer s H E a hr G=>(SXSs.u (az (bO 1 (x_ixQ G (cj (n_lstLQ (pxl_consQ (aW [97]) (pxl_consQ (aW [97,98]) (pxl_consQ (aW [97,98]) (pxl_consQ (aW [97,98,99]) (pxl_consQ (aW [97,101,112,116]) (pxl_consQ (aW [109,110,122]) pxl_nilQ)))))))) (aH (x_ioQ 0 (o_law_take Z) G hr (aB aK au) (lenIO (bw len0))))))
   (az (bO 2 (cj (pxn_lstQ (aB (aW [115,116,111,112]) (aB (aW [115,116,111,112,115]) (aB (aW [115]) (aB (aW [111,112,101,110]) (aB (aW [97,98,99,100,101,102,103,104]) au))))))))
   (az (s_ownQ 3 (pxn_lstQ au))
   (az (s_forQ G (i_seqQ G (bf 1)) (aR 4) (az (bO 5 (x_ioQ 0 (o_law_take Z) G hr (aB aK au) (lenIO (bw len0))))
   (az (bO 6 (x_sortedQ G Z.nb_sorted (aX (aH (cj (n_lcQ ["_law_pack_here","_law_sounds_here","_law_known","_law_found","_law_sound","_law_number","_law_marks","_law_k"] 7 compOk G (i_rng1Q Z.nb_range (aB aK au) (bw len0)) (λX1 h1=>by have G:=G.at h1;obtain⟨_,_,_,_,_,rfl⟩:=h1;exact(aR 7)) (λX1 h1=>by have G:=G.at h1;obtain⟨_,_,_,_,_,rfl⟩:=h1;exact(pxif_oneQ (t_cmpQ (c_eq G) (cO b_and (cQ 5 b_shr (bQ 7)) (aH aK)) (aH aK)))) (λX1 h1=>by have G:=G.at h1;obtain⟨_,_,_,_,_,rfl⟩:=h1;exact(bT 2 G (bQ 7)))))))))
   (aA (s_appQ 3 G (px_tupQ (pvQ 4 (aB (x_tupleQ G Z.nb_tuple (aX (aH (x_slQ G (bf 6) pxp_noneQ (cV aK))))) au))))))))
   (aA (aM (x_tupleQ G Z.nb_tuple (aX (bQ 3)))))))))))
theorem sc_law_sounds:bj Zq5 Zq5 (aL s_law_sounds):=scOk
include Z in
theorem o_law_sounds:Own P w K mg base "_law_sounds" 1 Zq5 (spP K 1 f_law_sounds):=by exact bD (k:=0) Z.t_law_sounds sc_law_sounds (λf cdv A outer s H E hr G=>(SXSs.u (aA (aM (x_joinQ G (aW []) (aH (cj (n_lcQ ["_law_stock_here","_law_sound","_law_marks"] 1 compOk G (i_seqQ G (bf 0)) (λX1 h1=>by have G:=G.at h1;obtain⟨_,_,_,_,_,rfl⟩:=h1;exact(g_tupQ G (aP (aR 1) (aP (aR 2) cH)))) (λX1 h1=>by have G:=G.at h1;obtain⟨_,_,_,_,_,rfl⟩:=h1;exact cG) (λX1 h1=>by have G:=G.at h1;obtain⟨_,_,_,_,_,rfl⟩:=h1;exact(bf 1))))))))))
theorem sc_law_signs:bj ["_law_pack_here","_law_sounds_here","_law_number","_law_signs_here"] Zq4 (aL s_law_signs):=scOk
include Z in
theorem o_law_signs:Own P w K mg base "_law_signs" 2 Zq4 (spIO K 2 f_law_signs):=by
 exact own_io (k:=1) Z.t_law_signs sc_law_signs (λf cdv A outer s H E a hr G=>(SXSs.u (az (bW (t_cmpQ (c_eq G) (x_ioQ 0 (o_law_take Z) G hr (aB aK au) (lenIO (bw len0))) (aH aK)) (aA (aM px_nonQ)) bG)
   (az (bO 2 (cO (cP G) aK (aH (x_ioQ 0 (o_law_take Z) G hr (aB (cO b_sub (cO b_shl aK (aH (x_lenQ G Z.nb_len (aX (bQ 1))))) (aH aK)) au) (lenIO (bw len0))))))
   (az (bO 3 (cO (cP G) (aW [35]) (bQ 1)))
   (aA (aM (x_tupleQ G Z.nb_tuple (aX (aH (cj (n_lcQ ["_law_pack_here","_law_sounds_here","_law_number","_law_signs_here","_law_k"] 4 compOk G (i_rng1Q Z.nb_range (aB (x_lenQ G Z.nb_len (aX (bQ 3))) au) (bw len0)) (λX1 h1=>by have G:=G.at h1;obtain⟨_,_,_,_,_,rfl⟩:=h1;exact(aR 4)) (λX1 h1=>by have G:=G.at h1;obtain⟨_,_,_,_,_,rfl⟩:=h1;exact(pxif_oneQ (t_cmpQ (c_eq G) (cO b_and (cQ 2 b_shr (bQ 4)) (aH aK)) (aH aK)))) (λX1 h1=>by have G:=G.at h1;obtain⟨_,_,_,_,_,rfl⟩:=h1;exact(bT 3 G (bQ 4)))))))))))))))
theorem sc_law_changes:bj ["_law_pack_here","_law_sounds_here","_law_found","_law_turn","_law_one","_law_others"] Zq4 (aL s_law_changes):=scOk
include Z in
theorem o_law_changes:Own P w K mg base "_law_changes" 2 Zq4 (spIO K 2 f_law_changes):=by
 exact own_io (k:=1) Z.t_law_changes sc_law_changes (λf cdv A outer s H E a hr G=>(SXSs.u (az (bW (t_cmpQ (c_eq G) (x_ioQ 0 (o_law_take Z) G hr (aB aK au) (lenIO (bw len0))) (aH aK)) (aA (aM (px_tupQ (aB (px_tupQ (aB (aW []) (aB (bT 1 G (aH (x_ioQ 0 (o_law_take Z) G hr (aB (x_lenQ G Z.nb_len (aX (bQ 1))) au) (lenIO (bw len0))))) au))) au)))) bG)
   (az (s_ownQ 2 pxn_dnewQ)
   (az (s_forQ G (i_rng1Q Z.nb_range (aB (cO (cP G) aK (aH (x_ioQ 0 (o_law_take Z) G hr (aB aK au) (lenIO (bw len0))))) au) (bw len0)) (aR 3) (az (bO 4 (bT 1 G (aH (x_ioQ 0 (o_law_take Z) G hr (aB (x_lenQ G Z.nb_len (aX (bQ 1))) au) (lenIO (bw len0))))))
   (az (s_lcQ ["_law_pack_here","_law_sounds_here","_law_found","_law_turn","_law_one","_law_others","_law_sound"] 6 5 compOk G (i_seqQ G (cO (cP G) (x_listQ G Z.nb_list (aX (bQ 1))) (aH (cj (pxn_lstQ (aB (aW []) au)))))) (λX1 h1=>by have G:=G.at h1;obtain⟨_,_,_,_,_,rfl⟩:=h1;exact(aR 6)) (λX1 h1=>by have G:=G.at h1;obtain⟨_,_,_,_,_,rfl⟩:=h1;exact(pxif_oneQ (t_cmpOQ 6 (c_ne G) (bQ 4)))) (λX1 h1=>by have G:=G.at h1;obtain⟨_,_,_,_,_,rfl⟩:=h1;exact(bf 6)))
   (aA (s_dputQ 2 G (bf 4) (bT 5 G (aH (x_ioQ 0 (o_law_take Z) G hr (aB (x_lenQ G Z.nb_len (aX (bQ 5))) au) (lenIO (bw len0))))))))))
   (aA (aM (x_tupleQ G Z.nb_tuple (aX (aH (cj (n_lcQ ["_law_pack_here","_law_sounds_here","_law_found","_law_turn","%4","_law_others","_law_one"] 6 compOk G (i_seqQ G (x_sortedQ G Z.nb_sorted (aX (bQ 2)))) (λX1 h1=>by have G:=G.at h1;obtain⟨_,_,_,_,_,rfl⟩:=h1;exact(aR 6)) (λX1 h1=>by have G:=G.at h1;obtain⟨_,_,_,_,_,rfl⟩:=h1;exact cG) (λX1 h1=>by have G:=G.at h1;obtain⟨_,_,_,_,_,rfl⟩:=h1;exact(px_tupQ (pvQ 6 (aB (x_dgetOQ 2 G (bQ 6)) au))))))))))))))))
theorem sc_law_rule:bj ["_law_pack_here","_law_sounds_here","_law_how","_law_changes_here"] Zq4 (aL s_law_rule):=scOk
include Z in
theorem o_law_rule:Own P w K mg base "_law_rule" 3 Zq4 (spIO K 2 f_law_rule):=by
 exact own_io (k:=2) Z.t_law_rule sc_law_rule (λf cdv A outer s H E a hr G=>(SXSs.u (az (bO 2 (x_ixQ G (cj (pxn_lstQ (aB (aW [111,110,99,101]) (aB (aW [97,108,111,110,103]) au)))) (aH (x_ioQ 0 (o_law_take Z) G hr (aB aK au) (lenIO (bw len0))))))
   (az (bO 3 (x_ioQ 0 (o_law_changes Z) G hr (pvQ 1 au) (lenIO (bw len0))))
   (aA (aM (px_tupQ (pvQ 2 (pvQ 3 (aB (x_ioQ 0 (o_law_signs Z) G hr (pvQ 1 au) (lenIO (bw len0))) (aB (x_ioQ 0 (o_law_signs Z) G hr (pvQ 1 au) (lenIO (bw len0))) au)))))))))))
theorem sc_law_order:bj ["_law_pack_here","_law_sounds_here","_law_most","_law_side"] Zq7 (aL s_law_order):=scOk
include Z in
theorem o_law_order:Own P w K mg base "_law_order" 4 Zq7 (spIO K 3 f_law_order):=by
 exact own_io (k:=3) Z.t_law_order sc_law_order (λf cdv A outer s H E a hr G=>(SXSs.u (az (bO 3 (x_ixQ G (cj (pxn_lstQ (aB (aW [108,101,102,116]) (aB (aW [114,105,103,104,116]) au)))) (aH (x_ioQ 0 (o_law_take Z) G hr (aB aK au) (lenIO (bw len0))))))
   (aA (aM (px_tupQ (pvQ 3 (aB (x_tupleQ G Z.nb_tuple (aX (aH (cj (n_lcQ ["_law_pack_here","_law_sounds_here","_law_most","_law_side","_law_turn"] 4 compOk G (i_rng1Q Z.nb_range (aB (x_ioQ 0 (o_law_take Z) G hr (aB (cQ 2 (cP G) (aH aK)) au) (lenIO (bw len0))) au) (bw len0)) (λX1 h1=>by have G:=G.at h1;obtain⟨_,_,_,_,_,rfl⟩:=h1;exact(aR 4)) (λX1 h1=>by have G:=G.at h1;obtain⟨_,_,_,_,_,rfl⟩:=h1;exact cG) (λX1 h1=>by have G:=G.at h1;obtain⟨_,_,_,_,_,rfl⟩:=h1;exact(x_ioQ 0 (o_law_rule Z) G hr (pvQ 1 au) (lenIO (bw len0))))))))) au))))))))
theorem sc_law_word:bj Zq7 Zq7 (aL s_law_word):=scOk
include Z in
theorem o_law_word:Own P w K mg base "_law_word" 2 Zq7 (spIO K 3 f_law_word):=by exact own_io (k:=1) Z.t_law_word sc_law_word (λf cdv A outer s H E a hr G=>(SXSs.u (aA (aM (x_joinQ G (aW []) (aH (cj (n_lcQ ["_law_pack_here","_law_sounds_here","_law_most","_law_turn"] 3 compOk G (i_rng1Q Z.nb_range (aB (x_ioQ 0 (o_law_take Z) G hr (aB (cQ 2 (cP G) (aH aK)) au) (lenIO (bw len0))) au) (bw len0)) (λX1 h1=>by have G:=G.at h1;obtain⟨_,_,_,_,_,rfl⟩:=h1;exact(aR 3)) (λX1 h1=>by have G:=G.at h1;obtain⟨_,_,_,_,_,rfl⟩:=h1;exact cG) (λX1 h1=>by have G:=G.at h1;obtain⟨_,_,_,_,_,rfl⟩:=h1;exact(bT 1 G (aH (x_ioQ 0 (o_law_take Z) G hr (aB (x_lenQ G Z.nb_len (aX (bQ 1))) au) (lenIO (bw len0))))))))))))))
theorem sc_law_fits:bj Zq13 Zq13 (aL s_law_fits):=scOk
include Z in
theorem o_law_fits:Own P w K mg base "_law_fits" 1 Zq13 (spP K 2 cJ):=by exact bD (k:=0) Z.t_law_fits sc_law_fits (λf cdv A outer s H E hr G=>(SXSs.u (aA (aM (px_orQ (x_cmpOQ 0 c_is (aH px_nonQ)) (px_oneQ (x_cmpOQ 1 (c_in G) (bQ 0))))))))
theorem sc_law_put_in:bj ["_law_rule_here","_law_word_here","_law_signs_here","_law_found","_law_k"] Zq11 (aL s_law_put_in):=scOk
include Z in
theorem o_law_put_in:Own P w K mg base "_law_put_in" 2 Zq11 (spP K 2 f_law_put_in):=by
 exact bD (k:=1) Z.t_law_put_in sc_law_put_in (λf cdv A outer s H E hr G=>(SXSs.u (az (bO 2 (cO (cP G) (cO (cP G) (aW [35]) (bQ 1)) (aH (aW [35]))))
   (az (bO 3 (aW []))
   (az (s_forQ G (i_rng2Q Z.nb_range (aB aK (aB (x_lenQ G Z.nb_len (aX (bQ 2))) au)) (bw (bw len0))) (aR 4) (az (bW (PXW_ptQ (pxw_andQ (cB (bz (o_law_fits Z) G hr (aB (bT 0 G (aH aK)) (aB (bT 2 G (aH (cQ 4 b_sub (aH aK)))) au)) (bw (bw len0)))) (pxw_and1Q (cB (bz (o_law_fits Z) G hr (aB (bT 0 G (aH aK)) (aB (bT 2 G (bQ 4)) au)) (bw (bw len0))))))) (aA (bO 3 (cQ 3 (cP G) (aH (x_ixQ G (x_ixQ G (bT 0 G (aH aK)) (aH aK)) (aH aK)))))) bG)
   (aA (bO 3 (cQ 3 (cP G) (aH (bT 2 G (bQ 4))))))))
   (aA (aM (x_slSQ (bf 3) pxp_noneQ (cV (x_negQ aK))))))))))
theorem sc_law_changed:bj ["_law_rule_here","_law_word_here","_law_how","_law_changes_here","_law_first","_law_second","_law_known","_law_signs_here","_law_found","_law_k","_law_near"] Zq11 (aL s_law_changed):=scOk
include Z in
theorem o_law_changed:Own P w K mg base "_law_changed" 3 Zq11 (spP K 2 f_law_changed):=by
 exact bD (k:=2) Z.t_law_changed sc_law_changed (λf cdv A outer s H E hr G=>(SXSs.u (az (pxs_asgQ (bf 0) (g_tupQ G (aP (aR 2) (aP (aR 3) (aP (aR 4) (aP (aR 5) cH))))))
   (az (bW (t_cmpQ (c_eq G) (x_ixQ G (bT 3 G (aH aK)) (aH aK)) (aH (aW []))) (aA (aM (bz (o_law_put_in Z) G hr (pvQ 0 (pvQ 1 au)) (bw (bw len0))))) bG)
   (az (bO 6 (x_dictQ G Z.nb_dict (aX (bQ 3))))
   (az (bO 7 (cO (cP G) (cO (cP G) (aW [35]) (bQ 1)) (aH (aW [35]))))
   (az (bO 8 (aW [35]))
   (az (s_forQ G (i_rng2Q Z.nb_range (aB aK (aB (cO b_sub (x_lenQ G Z.nb_len (aX (bQ 7))) (aH aK)) au)) (bw (bw len0))) (aR 9) (az (bO 10 (bT 7 G (aH (cQ 9 b_sub (aH aK)))))
   (az (bW (t_cmpOQ 2 (c_eq G) (aH (aW [97,108,111,110,103]))) (aA (bO 10 (bT 8 G (aH (x_negQ aK))))) bG)
   (aA (bW (PXW_ptQ (pxw_andQ (t_cmpQ (c_inDct G) (bT 7 G (bQ 9)) (bQ 6)) (pxw_andQ (cB (bz (o_law_fits Z) G hr (pvQ 4 (pvQ 10 au)) (bw (bw len0)))) (pxw_and1Q (cB (bz (o_law_fits Z) G hr (pvQ 5 (aB (bT 7 G (aH (cQ 9 (cP G) (aH aK)))) au)) (bw (bw len0)))))))) (aA (bO 8 (cQ 8 (cP G) (aH (x_dgetOQ 6 G (aH (bT 7 G (bQ 9)))))))) (aA (bO 8 (cQ 8 (cP G) (aH (bT 7 G (bQ 9)))))))))))
   (aA (aM (x_slSQ (bf 8) (cV aK) pxp_noneQ)))))))))))
theorem sc_law_turned:bj Zq8 Zq8 (aL s_law_turned):=scOk
include Z in
theorem o_law_turned:Own P w K mg base "_law_turned" 1 Zq8 (spP K 1 f_law_turned):=by exact bD (k:=0) Z.t_law_turned sc_law_turned (λf cdv A outer s H E hr G=>(SXSs.u (aA (aM (px_tupQ (aB (bT 0 G (aH aK)) (aB (bT 0 G (aH aK)) (aB (bT 0 G (aH aK)) (aB (bT 0 G (aH aK)) au)))))))))
theorem sc_law_by_side:bj Zq14 Zq14 (aL s_law_by_side):=scOk
include Z in
theorem o_law_by_side:Own P w K mg base "_law_by_side" 4 Zq14 (spP K 3 f_law_by_side):=by
 exact bD (k:=3) Z.t_law_by_side sc_law_by_side (λf cdv A outer s H E hr G=>(SXSs.u (az (bW (t_cmpOQ 0 (c_eq G) (aH (aW [114,105,103,104,116]))) (aA (aM (x_revQ (bz (o_law_changed Z) G hr (aB (bz (o_law_turned Z) G hr (pvQ 1 au) (bw len0)) (aB (x_revQ (bf 2)) au)) (bw (bw len0)))))) bG)
   (aA (aM (bz (o_law_changed Z) G hr (pvQ 1 (pvQ 2 au)) (bw (bw len0))))))))
theorem sc_law_walk:bj ["_law_order_here","_law_word_here","_law_found","_law_rule_here"] Zq9 (aL s_law_walk):=scOk
include Z in
theorem o_law_walk:Own P w K mg base "_law_walk" 5 Zq9 (spP K 2 f_law_walk):=by
 exact bD (k:=4) Z.t_law_walk sc_law_walk (λf cdv A outer s H E hr G=>(SXSs.u (az (s_ownQ 2 (pxn_lstQ (pvQ 1 au)))
   (az (s_forQ G (i_seqQ G (bT 0 G (aH aK))) (aR 3) (aA (s_appQ 2 G (bz (o_law_by_side Z) G hr (aB (bT 0 G (aH aK)) (pvQ 3 (aB (bT 2 G (aH (x_negQ aK))) au))) (bw (bw (bw len0)))))))
   (aA (aM (x_tupleQ G Z.nb_tuple (aX (bQ 2)))))))))
theorem sc_law_made:bj Zq9 Zq9 (aL s_law_made):=scOk
include Z in
theorem o_law_made:Own P w K mg base "_law_made" 6 Zq9 (spP K 2 f_law_made):=by exact bD (k:=5) Z.t_law_made sc_law_made (λf cdv A outer s H E hr G=>(SXSs.u (aA (aM (x_ixQ G (bz (o_law_walk Z) G hr (pvQ 0 (pvQ 1 au)) (bw (bw len0))) (aH (x_negQ aK)))))))
theorem sc_law_stock_text:bj Zq5 Zq5 (aL s_law_stock_text):=scOk
include Z in
theorem o_law_stock_text:Own P w K mg base "_law_stock_text" 1 Zq5 (spP K 1 f_law_stock_text):=by exact bD (k:=0) Z.t_law_stock_text sc_law_stock_text (λf cdv A outer s H E hr G=>(SXSs.u (aA (aM (x_joinQ G (aW [44,32]) (aH (cj (n_lcQ ["_law_stock_here","_law_sound","_law_marks"] 1 compOk G (i_seqQ G (bf 0)) (λX1 h1=>by have G:=G.at h1;obtain⟨_,_,_,_,_,rfl⟩:=h1;exact(g_tupQ G (aP (aR 1) (aP (aR 2) cH)))) (λX1 h1=>by have G:=G.at h1;obtain⟨_,_,_,_,_,rfl⟩:=h1;exact cG) (λX1 h1=>by have G:=G.at h1;obtain⟨_,_,_,_,_,rfl⟩:=h1;exact(x_joinQ G (aW [32]) (aH (cO (cP G) (cj (pxn_lstQ (pvQ 1 au))) (aH (x_listQ G Z.nb_list (aX (bQ 2))))))))))))))))
theorem sc_law_signs_text:bj Zq15 Zq15 (aL s_law_signs_text):=scOk
include Z in
theorem o_law_signs_text:Own P w K mg base "_law_signs_text" 1 Zq15 (spP K 1 f_law_signs_text):=by
 exact bD (k:=0) Z.t_law_signs_text sc_law_signs_text (λf cdv A outer s H E hr G=>(SXSs.u (az (bW (t_cmpOQ 0 c_is (aH px_nonQ)) (aA (aM (aW [42]))) bG)
   (aA (aM (x_joinTQ G (aW []) (bQ 0)))))))
theorem sc_law_rule_text:bj ["_law_rule_here","_law_how","_law_changes_here","_law_first","_law_second","_law_found","_law_one","_law_other"] Zq8 (aL s_law_rule_text):=scOk
include Z in
theorem o_law_rule_text:Own P w K mg base "_law_rule_text" 2 Zq8 (spP K 1 f_law_rule_text):=by
 exact bD (k:=1) Z.t_law_rule_text sc_law_rule_text (λf cdv A outer s H E hr G=>(SXSs.u (az (pxs_asgQ (bf 0) (g_tupQ G (aP (aR 1) (aP (aR 2) (aP (aR 3) (aP (aR 4) cH))))))
   (az (bO 5 (bf 1))
   (az (s_forQ G (i_seqQ G (bf 2)) (g_tupQ G (aP (aR 6) (aP (aR 7) cH))) (aA (bO 5 (cO (cP G) (cO (cP G) (cO (cP G) (cQ 5 (cP G) (aH (aW [32]))) (aH (x_ixQ G (cQ 6 (cP G) (aH (aW [48]))) (aH aK)))) (aH (aW [62]))) (aH (x_ixQ G (cQ 7 (cP G) (aH (aW [48]))) (aH aK)))))))
   (aA (aM (cO (cP G) (cO (cP G) (cO (cP G) (cQ 5 (cP G) (aH (aW [32,47,32]))) (aH (bz (o_law_signs_text Z) G hr (pvQ 3 au) (bw len0)))) (aH (aW [32,95,32]))) (aH (bz (o_law_signs_text Z) G hr (pvQ 4 au) (bw len0)))))))))))
theorem sc_law_order_text:bj Zq16 Zq16 (aL s_law_order_text):=scOk
include Z in
theorem o_law_order_text:Own P w K mg base "_law_order_text" 3 Zq16 (spP K 1 f_law_order_text):=by exact bD (k:=2) Z.t_law_order_text sc_law_order_text (λf cdv A outer s H E hr G=>(SXSs.u (aA (aM (x_joinQ G (aW [59,32]) (aH (cO (cP G) (cj (pxn_lstQ (aB (bT 0 G (aH aK)) au))) (aH (cj (n_lcQ ["_law_order_here","_law_rule_here"] 1 compOk G (i_seqQ G (bT 0 G (aH aK))) (λX1 h1=>by have G:=G.at h1;obtain⟨_,_,_,_,_,rfl⟩:=h1;exact(aR 1)) (λX1 h1=>by have G:=G.at h1;obtain⟨_,_,_,_,_,rfl⟩:=h1;exact cG) (λX1 h1=>by have G:=G.at h1;obtain⟨_,_,_,_,_,rfl⟩:=h1;exact(bz (o_law_rule_text Z) G hr (pvQ 1 au) (bw len0)))))))))))))
theorem sc_law_right:bj ["_law_pack_here","_law_stock_here","_law_order_here","_law_text","_law_parts","_law_word_here","_law_size","_law_some","_law_turned_about","_law_other"] Zq18 (aL s_law_right):=scOk
include Z in
theorem o_law_right:Own P w K mg base "_law_right" 7 Zq18 (spIO K 3 f_law_right):=by
 exact own_io (k:=6) Z.t_law_right sc_law_right (λf cdv A outer s H E a hr G=>(SXSs.u (az (bO 3 (bz (o_show_order Z) G hr (pvQ 2 au) (bw len0)))
   (az (bO 4 (x_splitQ G (bf 3) (aH (aW [59,32]))))
   (az (bO 5 (x_ioQ 0 (o_law_word Z) G hr (aB (bz (o_law_sounds Z) G hr (pvQ 1 au) (bw len0)) (aB aK au)) (lenIO (bw (bw len0)))))
   (az (bW (PXW_ptQ (pxw_orQ (t_cmpOQ 4 (c_ne G) (aH (cO (cP G) (cj (pxn_lstQ (aB (bT 2 G (aH aK)) au))) (aH (cj (n_lcQ ["_law_pack_here","_law_stock_here","_law_order_here","_law_text","_law_parts","_law_word_here","_law_size","_law_some","_law_turned_about","_law_other","_law_rule_here"] 10 compOk G (i_seqQ G (bT 2 G (aH aK))) (λX1 h1=>by have G:=G.at h1;obtain⟨_,_,_,_,_,rfl⟩:=h1;exact(aR 10)) (λX1 h1=>by have G:=G.at h1;obtain⟨_,_,_,_,_,rfl⟩:=h1;exact cG) (λX1 h1=>by have G:=G.at h1;obtain⟨_,_,_,_,_,rfl⟩:=h1;exact(bz (o_show_rule Z) G hr (pvQ 10 au) (bw len0))))))))) (pxw_or1Q (t_cmpOQ 3 (c_ne G) (aH (bz (o_law_order_text Z) G hr (pvQ 2 au) (bw len0))))))) (aA (aM px_blQ)) bG)
   (az (s_forQ G (i_rng2Q Z.nb_range (aB aK (aB (cO (cP G) (x_lenQ G Z.nb_len (aX (bQ 4))) (aH aK)) au)) (bw (bw len0))) (aR 6) (az (bO 7 (bz (o_read_order Z) G hr (pvQ 1 (aB (x_joinQ G (aW [59,32]) (aH (x_slAQ G (bf 4) pxp_noneQ (cV (bf 6))))) au)) (bw (bw len0))))
   (az (bW (PXW_ptQ (pxw_orQ (pxt_notQ (cB (bz (o_is_order Z) G hr (pvQ 1 (pvQ 7 au)) (bw (bw len0))))) (pxw_or1Q (t_cmpOQ 7 (c_ne G) (aH (px_tupQ (aB (bT 2 G (aH aK)) (aB (x_slTQ G (bT 2 G (aH aK)) pxp_noneQ (cV (cQ 6 b_sub (aH aK)))) au)))))))) (aA (aM px_blQ)) bG)
   (aA (bW (PXW_ptQ (pxw_orQ (t_cmpQ (c_ne G) (bz (o_made Z) G hr (pvQ 7 (pvQ 5 au)) (bw (bw len0))) (aH (bz (o_law_made Z) G hr (pvQ 7 (pvQ 5 au)) (bw (bw len0))))) (pxw_or1Q (t_cmpQ (c_ne G) (x_slAQ G (bz (o_walk Z) G hr (pvQ 2 (pvQ 5 au)) (bw (bw len0))) pxp_noneQ (cV (bf 6))) (aH (bz (o_walk Z) G hr (pvQ 7 (pvQ 5 au)) (bw (bw len0)))))))) (aA (aM px_blQ)) bG)))))
   (az (bW (t_cmpQ c_gt (x_lenQ G Z.nb_len (aX (bQ 4))) (aH aK)) (az (bO 8 (x_joinQ G (aW [59,32]) (aH (cO (cP G) (x_slAQ G (bf 4) pxp_noneQ (cV aK)) (aH (x_rev1Q G (bf 4)))))))
   (az (bO 9 (bz (o_read_order Z) G hr (pvQ 1 (pvQ 8 au)) (bw (bw len0))))
   (az (bW (PXW_ptQ (pxw_orQ (t_cmpOQ 9 (c_ne G) (aH (px_tupQ (aB (bT 2 G (aH aK)) (aB (x_revTQ G (bT 2 G (aH aK))) au))))) (pxw_or1Q (t_cmpQ (c_ne G) (bz (o_made Z) G hr (pvQ 9 (pvQ 5 au)) (bw (bw len0))) (aH (bz (o_law_made Z) G hr (pvQ 9 (pvQ 5 au)) (bw (bw len0)))))))) (aA (aM px_blQ)) bG)
   (aA (bW (t_cmpQ (c_ne G) (x_cmpOQ 8 (c_eq G) (bQ 3)) (aH (x_cmpOQ 9 (c_eq G) (bQ 2)))) (aA (aM px_blQ)) bG))))) bG)
   (aA (aM px_blQ))))))))))
theorem sc_law:bj Zq19 ["_law_script"] (aL s_law):=scOk
include Z in
theorem fn_law{f:Addr}{fd:FuncData}(F:Fun K "law" "law" s_law f fd):FnOk P w K mg base CX0 8 f fd ["_law_script"] (spP K 1 f_law):=by
 exact def_pure (k:=7) F sc_law (λcdv A outer s H E hr=>by
  have G:=good_bx (P:=P) (w:=w) (K:=K) (mg:=mg) (base:=base) (N:=Zq19) (outer:=outer) (H:=H) (E:=E) (C:=C0 K) rfl hr;exact(SXSs.u (az (s_forQ G (i_rng3Q Z.nb_range (aB aK (aB (x_maxQ G Z.nb_max (pxab_consQ aK (aX (aH (x_minQ G Z.nb_min (pxab_consQ (x_lenQ G Z.nb_len (aX (bQ 0))) (aX (aH aK)))))))) (aB aK au))) (bw (bw (bw len0)))) (aR 1) (az (s_ownQ 2 (n_ownQ (o_law_pack Z) G hr (pvQ 0 (pvQ 1 au)) (bw (bw len0))))
   (az (bO 3 (x_ioQ 2 (o_law_stock Z) G hr au (lenIO len0)))
   (az (bW (PXW_ptQ (pxw_orQ (t_cmpQ (c_ne G) (bz (o_read_stock Z) G hr (aB (bz (o_show_stock Z) G hr (pvQ 3 au) (bw len0)) au) (bw len0)) (bQ 3)) (pxw_or1Q (t_cmpQ (c_ne G) (bz (o_show_stock Z) G hr (pvQ 3 au) (bw len0)) (aH (bz (o_law_stock_text Z) G hr (pvQ 3 au) (bw len0))))))) (aA (aM px_blQ)) bG)
   (aA (bW (pxt_notQ (cB (x_ioQ 2 (o_law_right Z) G hr (pvQ 3 (aB (x_ioQ 2 (o_law_order Z) G hr (aB (bz (o_law_sounds Z) G hr (pvQ 3 au) (bw len0)) (aB aK au)) (lenIO (bw (bw len0)))) au)) (lenIO (bw (bw len0)))))) (aA (aM px_blQ)) bG))))))
   (aA (aM px_blQ)))))
end
end K76
namespace K06
open Ev
def b_rises:cz:=aZ (ao gAll (aa (evLC 1 2 (evRng (aa (aG gSub (ao gLen (aa (bB 0) aj)) (Zi 1)) aj)) (ak 1) cA (aG gLt (aq cI 0 (bB 1)) (aq cI 0 (aq bN 1 (Zi 1))))) aj))
def f_rises:LD:=b8 1 b_rises
def b_is_pair:cz:=K76.b_is_pair
def f_is_pair:LD:=b8 1 b_is_pair
def b_sounds_of:cz:=aZ (ao gTuple (aa (evLC 1 3 (evIt (aQ 0)) (gvTup 2 (aV (ak 1) (aV (ak 2) gvNil))) cA (aQ 1)) aj))
def f_sounds_of:LD:=b8 1 b_sounds_of
def b_changes_sound:cz:=K76.b_changes_sound
def f_changes_sound:LD:=b8 4 b_changes_sound
def b_puts_one_in:cz:=K76.b_puts_one_in
def f_puts_one_in:LD:=b8 2 b_puts_one_in
def b_are_changes:cz:=aJ (cT (evOrT (evNotT (cU (evUn (gIsi "tuple") (aQ 1)))) (cU (aG gEq (ao gLen (aa (bB 1) aj)) (Zi 0)))) (aZ (evC (.bl false))) bM) (aJ (cT (evAndT (cU (aG gEq (ao gLen (aa (bB 1) aj)) (Zi 1))) (cU (ao f_puts_one_in (Zv 0 (aa (aq cI 1 (Zi 0)) aj))))) (aZ (evC (.bl true))) bM) (aZ (evAnd (ao gAll (aa (evLC 2 3 (evIt (aQ 1)) (ak 2) cA (ao f_changes_sound (Zv 0 (Zv 2 aj)))) aj)) (ao f_rises (aa (evLC 2 4 (evIt (aQ 1)) (gvTup 2 (aV (ak 2) (aV (ak 3) gvNil))) cA (aQ 2)) aj)))))
def f_are_changes:LD:=b8 2 b_are_changes
def b_are_signs:cz:=aJ (cT (cU (aq gIs 1 (evC .non))) (aZ (evC (.bl true))) bM) (aJ (cT (evOrT (evNotT (cU (evUn (gIsi "tuple") (aQ 1)))) (cU (aG gEq (ao gLen (aa (bB 1) aj)) (Zi 0)))) (aZ (evC (.bl false))) bM) (aZ (evAnd (ao gAll (aa (evLC 2 3 (evIt (aQ 1)) (ak 2) cA (evOr (aq gEq 2 (Zw [35])) (aq gIn 2 (bB 0)))) aj)) (ao f_rises (Zv 1 aj)))))
def f_are_signs:LD:=b8 2 b_are_signs
def b_is_rule:cz:=K76.b_is_rule
def f_is_rule:LD:=b8 7 b_is_rule
def b_law_mixed:cz:=K76.b_law_mixed
def f_law_mixed:LD:=b8 1 b_law_mixed
def b_law_pack:cz:=aJ (aY (Zi 0) (ak 2)) (aJ (stFor (evIt (cW (aa (aq bN 1 (Zi 1)) (Zv 1 aj)))) (ak 3) (aY (aG bN (aq gMul 2 (aG gPow (Zi 10) (Zi 60))) (ao f_law_mixed (aa (aG cI (aG bN (evSl (aQ 0) (evP (aQ 3)) (evP (aq bN 3 (Zi 1)))) (cW (aa (aG bN (aG gMul (Zi 7919) (bB 3)) (Zi 61)) aj))) (Zi 0)) aj))) (ak 2))) (stRetNew (cW (Zv 2 aj))))
def f_law_pack:LD:=runN 4 b_law_pack
def b_law_take:cz:=K76.b_law_take
def bh:List D->Option (D×D):=runIO 3 b_law_take
def b_law_stock:cz:=aJ (aY (aG cI (cW (aa (Zw [97]) (aa (Zw [97,98]) (aa (Zw [97,98]) (aa (Zw [97,98,99]) (aa (Zw [97,101,112,116]) (aa (Zw [109,110,122]) aj))))))) (evIO bh 0 (aa (Zi 6) aj))) (ak 1)) (aJ (aY (cW (aa (Zw [115,116,111,112]) (aa (Zw [115,116,111,112,115]) (aa (Zw [115]) (aa (Zw [111,112,101,110]) (aa (Zw [97,98,99,100,101,102,103,104]) aj)))))) (ak 2)) (aJ (stOwn 3 (cW aj)) (aJ (stFor (evIt (aQ 1)) (ak 4) (aJ (aY (evIO bh 0 (aa (Zi 32) aj)) (ak 5)) (aJ (aY (ao gSorted (aa (evLC 7 8 (evRng (aa (Zi 5) aj)) (ak 7) (cU (aG gEq (aG gAnd (aq gShr 5 (bB 7)) (Zi 1)) (Zi 1))) (aq cI 2 (bB 7))) aj)) (ak 6)) (stApp 3 (evTup (Zv 4 (aa (ao gTuple (aa (evSl (aQ 6) evNoP (evP (Zi 4))) aj)) aj))))))) (aZ (ao gTuple (aa (bB 3) aj))))))
def f_law_stock:List D->Option (D×D):=runIO 7 b_law_stock
def b_law_sounds:cz:=aZ (aG gJoin (Zw []) (evLC 1 3 (evIt (aQ 0)) (gvTup 2 (aV (ak 1) (aV (ak 2) gvNil))) cA (aQ 1)))
def f_law_sounds:LD:=b8 1 b_law_sounds
def b_law_signs:cz:=aJ (cT (cU (aG gEq (evIO bh 0 (aa (Zi 2) aj)) (Zi 0))) (aZ (evC .non)) bM) (aJ (aY (aG bN (Zi 1) (evIO bh 0 (aa (aG gSub (aG gShl (Zi 2) (ao gLen (aa (bB 1) aj))) (Zi 1)) aj))) (ak 2)) (aJ (aY (aG bN (Zw [35]) (bB 1)) (ak 3)) (aZ (ao gTuple (aa (evLC 4 5 (evRng (aa (ao gLen (aa (bB 3) aj)) aj)) (ak 4) (cU (aG gEq (aG gAnd (aq gShr 2 (bB 4)) (Zi 1)) (Zi 1))) (aq cI 3 (bB 4))) aj)))))
def f_law_signs:List D->Option (D×D):=runIO 4 b_law_signs
def b_law_changes:cz:=aJ (cT (cU (aG gEq (evIO bh 0 (aa (Zi 5) aj)) (Zi 0))) (aZ (evTup (aa (evTup (aa (Zw []) (aa (aq cI 1 (evIO bh 0 (aa (ao gLen (aa (bB 1) aj)) aj))) aj))) aj))) bM) (aJ (stOwn 2 (evDnew)) (aJ (stFor (evRng (aa (aG bN (Zi 1) (evIO bh 0 (aa (Zi 3) aj))) aj)) (ak 3) (aJ (aY (aq cI 1 (evIO bh 0 (aa (ao gLen (aa (bB 1) aj)) aj))) (ak 4)) (aJ (stOwn 5 (evLC 6 7 (evIt (aG bN (ao gList (aa (bB 1) aj)) (cW (aa (Zw []) aj)))) (ak 6) (cU (aq gNe 6 (bB 4))) (aQ 6))) (stDput 2 (aQ 4) (aq cI 5 (evIO bh 0 (aa (ao gLen (aa (bB 5) aj)) aj))))))) (aZ (ao gTuple (aa (evLC 6 7 (evIt (ao gSorted (aa (bB 2) aj))) (ak 6) cA (evTup (Zv 6 (aa (aq gDget 2 (bB 6)) aj)))) aj)))))
def f_law_changes:List D->Option (D×D):=runIO 6 b_law_changes
def b_law_rule:cz:=aJ (aY (aG cI (cW (aa (Zw [111,110,99,101]) (aa (Zw [97,108,111,110,103]) aj))) (evIO bh 0 (aa (Zi 2) aj))) (ak 2)) (aJ (aY (evIO f_law_changes 0 (Zv 1 aj)) (ak 3)) (aZ (evTup (Zv 2 (Zv 3 (aa (evIO f_law_signs 0 (Zv 1 aj)) (aa (evIO f_law_signs 0 (Zv 1 aj)) aj)))))))
def f_law_rule:List D->Option (D×D):=runIO 4 b_law_rule
open Ev PySem L2
theorem bits_of{i:Int}{b:Nat}(h:i.natAbs<2^b):Builtin.Int.intBits i<=b:=by
 unfold Builtin.Int.intBits;split
 ·exact Qx3 _
 ·rename_i h0;have hz:i.natAbs≠0:=λz=>h0 (by rw[Int.natAbs_eq_zero.mp z];rfl);exact(Nat.log2_lt hz).mpr h
theorem mulFits_of{i j:Int}{a b:Nat}(h1:Builtin.Int.intBits i<=a)(h2:Builtin.Int.intBits j<=b)(h:a+b<=134217728):mulFits i j=true:=
 Qw9 (by omega)
def mixI(i:Int):Int:=i*262406895267124108351839057402211873468251940277165213587343 % 10^60
theorem mixI_lt(i:Int):(mixI i).natAbs<2^200:=by
 unfold mixI;have h1:0<=i*262406895267124108351839057402211873468251940277165213587343 % 10^60:=Int.emod_nonneg _ (by decide);have h2:i*262406895267124108351839057402211873468251940277165213587343 % 10^60<10^60:=Int.emod_lt_of_pos _ (by decide);have h3:(10:Int)^60<=2^200:=by decide
 omega
theorem mixed{i:Int}(h:Builtin.Int.intBits i<=2^20):f_law_mixed [.int i]=some (.int (mixI i)):=by
 have hm:mulFits i 262406895267124108351839057402211873468251940277165213587343=true:=mulFits_of h (bits_of (b:=198) (by decide)) (by decide);have e1:aq gMul 0 (Zi 262406895267124108351839057402211873468251940277165213587343) [Zf (.int i)] = .ok (.int (i*262406895267124108351839057402211873468251940277165213587343)) [Zf (.int i)]:=by
  show liftR (gI mulFits (λi j=>D.int (i*j)) (.int i) (.int _)) _=_;unfold gI;simp only;rw[if_pos hm]
  rfl
 show(match aZ _ [Zf (.int i)] with|.rt false d _=>some d|.nx _=>some .non|_=>none)=_;rw[bH (d:=.int (mixI i)) (e:=[Zf (.int i)])];unfold aG;rw[e1]
 rfl
theorem cut_mem{α:Type}{xs:List α}{lo hi:Option Int}{x:α}(h:x∈cutD xs lo hi):x∈xs:=List.mem_of_mem_drop (List.mem_of_mem_take h)
theorem atI_zero{α:Type}(x:α)(r:List α):atI (x::r) 0=some x:=atI_nat (j:=0) rfl
def packBody:cz:=aY (aG bN (aq gMul 2 (aG gPow (Zi 10) (Zi 60))) (ao f_law_mixed (aa (aG cI (aG bN (evSl (aQ 0) (evP (aQ 3)) (evP (aq bN 3 (Zi 1)))) (cW (aa (aG bN (aG gMul (Zi 7919) (bB 3)) (Zi 61)) aj))) (Zi 0)) aj))) (ak 2)
theorem pack_body(ns:List Int)(hl:ns.length<=63)(hb:Bits ns)(k a f:Int)(ha:a.natAbs<2^10)(hf:Builtin.Int.intBits f<=2^20) :
  ∃f':Int,packBody [Zf (.arr (ns.map .int)),Zf (.int k),Zf (.int f),Zf (.int a)] = .nx [Zf (.arr (ns.map .int)),Zf (.int k),Zf (.int f'),Zf (.int a)]/\(f=0->f'.natAbs<2^200):=by
 generalize hE:([Zf (.arr (ns.map .int)),Zf (.int k),Zf (.int f),Zf (.int a)]:Ev.Env)=env;have m1:mulFits 7919 a=true:=mulFits_of (a:=20) (b:=10) (bits_of (by decide)) (bits_of ha) (by decide);have m2:mulFits f (10^(60:Int).toNat)=true:=mulFits_of (b:=200) hf (bits_of (by decide)) (by decide);have e1:evSl (aQ 0) (evP (aQ 3)) (evP (aq bN 3 (Zi 1))) env = .ok (.lst (cutD (ns.map .int) (some a) (some (a+1)))) env:=by rw[<-hE];rfl
 have e2:cW (aa (aG bN (aG gMul (Zi 7919) (bB 3)) (Zi 61)) aj) env = .ok (.lst [.int (7919*a+61)]) env:=by refine evLst_eq (aD (aN (aN (x:=.int 7919) (y:=.int a) (e1:=env) (e2:=env) rfl (by rw[<-hE];rfl) (gMul_eq m1)) (y:=.int 61) rfl rfl) bA) Ev.zz1
 generalize hL:cutD (ns.map D.int) (some a) (some (a+1))=L at e1;have hLl:L.length<=63:=by rw[<-hL];exact Qqy (cutD_len _ _ _) (by rw[Qqx];exact hl)
 have e3:aG bN (evSl (aQ 0) (evP (aQ 3)) (evP (aq bN 3 (Zi 1)))) (cW (aa (aG bN (aG gMul (Zi 7919) (bB 3)) (Zi 61)) aj)) env = .ok (.lst (L++[.int (7919*a+61)])) env:=by exact aN e1 e2 (gAddL_eq (by show L.length+1<=sizeLine;exact Qqy (Nat.succ_le_succ hLl) (by decide)))
 obtain⟨c,hc,hcb⟩:∃c:Int,atI (L++[.int (7919*a+61)]) 0=some (.int c)/\Builtin.Int.intBits c<=2^20:=by
  cases hLc:L with
  | nil=>
   refine⟨7919*a+61,rfl,Qqy (bits_of (b:=30) ?_) (by decide)⟩;omega
  | cons y r=>
   have hy:y∈ns.map D.int:=cut_mem (lo:=some a) (hi:=some (a+1)) (by rw[hL,hLc];exact Qqz ..);obtain⟨i,hi,rfl⟩:=Qq8.mp hy;exact⟨i,atI_zero _ _,hb i hi⟩
 have e4:ao f_law_mixed (aa (aG cI (aG bN (evSl (aQ 0) (evP (aQ 3)) (evP (aq bN 3 (Zi 1)))) (cW (aa (aG bN (aG gMul (Zi 7919) (bB 3)) (Zi 61)) aj))) (Zi 0)) aj) env = .ok (.int (mixI c)) env:=by exact aF (aD (aN (y:=.int 0) e3 rfl hc) bA) (mixed hcb)
 refine⟨f*10^(60:Int).toNat+mixI c,?_,λh0=>?_⟩
 ·unfold packBody;refine bK (d:=.int (f*10^(60:Int).toNat+mixI c)) (e:=env) ?_ (by rw[<-hE];rfl);have e5:aq gMul 2 (aG gPow (Zi 10) (Zi 60)) env = .ok (.int (f*10^(60:Int).toNat)) env:=by
   rw[<-hE];exact evBF (x:=.int f) rfl rfl rfl (gMul_eq m2)
  exact aN e5 e4 rfl
 ·rw[h0,Int.zero_mul,Int.zero_add];exact mixI_lt c
theorem pack(ns:List Int)(hl:ns.length<=63)(hb:Bits ns)(k:Int)(h0:0<=k)(h1:k<=500):∃p:Int,f_law_pack [.arr (ns.map .int),.int k]=some (.lst [.int p]):=by
 obtain⟨f1,e1,b1⟩:=pack_body ns hl hb k (k+1) 0 (by omega) (by decide);obtain⟨f2,e2,_⟩:=pack_body ns hl hb k k f1 (by omega) (Qqy (bits_of (b1 rfl)) (by decide));refine⟨f2,?_⟩;have h:b_law_pack [Zf (.arr (ns.map .int)),Zf (.int k),Zn,Zn] = .rt true (.lst [.int f2]) [Zf (.arr (ns.map .int)),Zf (.int k),Zf (.int f2),Zf (.int k)]:=by
  unfold b_law_pack;refine(aC (e:=[Zf (.arr (ns.map .int)),Zf (.int k),Zf (.int 0),Zn]) rfl).trans ?_;refine(aC (e:=[Zf (.arr (ns.map .int)),Zf (.int k),Zf (.int f2),Zf (.int k)]) ?_).trans rfl;refine(stFor_eq (ds:=[.int (k+1),.int k]) (e:=[Zf (.arr (ns.map .int)),Zf (.int k),Zf (.int 0),Zn]) rfl).trans ?_;show forO (ak 3) packBody [.int (k+1),.int k] _=_;unfold forO;show(match packBody [Zf (.arr (ns.map .int)),Zf (.int k),Zf (.int 0),Zf (.int (k+1))] with|.nx e2=>forO (ak 3) packBody [.int k] e2|.ct e2=>_|.bk e2=>_|.rt o d e2=>_|.stuck=>_)=_;rw[e1];simp only;unfold forO;show(match packBody [Zf (.arr (ns.map .int)),Zf (.int k),Zf (.int f1),Zf (.int k)] with|.nx e2=>forO (ak 3) packBody [] e2|.ct e2=>_|.bk e2=>_|.rt o d e2=>_|.stuck=>_)=_;rw[e2]
  rfl
 show(match b_law_pack _ with|.rt true d _=>some d|_=>none)=_;have e:envOf 4 [D.arr (ns.map .int),.int k]=[Zf (.arr (ns.map .int)),Zf (.int k),Zn,Zn]:=rfl;rw[e,h]
def known:D:=.lst [.str [115,116,111,112],.str [115,116,111,112,115],.str [115],.str [111,112,101,110],.str [97,98,99,100,101,102,103,104]]
def stMarks:cz:=aY (ao gSorted (aa (evLC 7 8 (evRng (aa (Zi 5) aj)) (ak 7) (cU (aG gEq (aG gAnd (aq gShr 5 (bB 7)) (Zi 1)) (Zi 1))) (aq cI 2 (bB 7))) aj)) (ak 6)
def mk(d:Nat):D:=match stMarks [Zn,Zn,Zf known,Zn,Zn,Zf (.int d),Zn] with
 | .nx e=>(match e[6]? with|some (some (_,z))=>z|_=>.non)
 | _=>.non
def AllB(P:Nat->Prop):Nat->Prop
 | 0=>True
 | n+1=>AllB P n/\P n
theorem all_lt{P:Nat->Prop}:∀{n:Nat},AllB P n->∀d,d<n->P d
 | 0,_,d,h=>absurd h (Nat.not_lt_zero d)
 | n+1,⟨a,b⟩,d,h=>by
  by_cases e:d=n
  ·subst e;exact b
  ·exact all_lt a d (by omega)
theorem marks(d:Nat)(hd:d<32)(a b c e f:OD):stMarks [a,b,Zf known,c,e,Zf (.int d),f] = .nx [a,b,Zf known,c,e,Zf (.int d),Zf (mk d)]:=by refine all_lt (P:=λd=>stMarks [a,b,Zf known,c,e,Zf (.int (d:Nat)),f] = .nx [a,b,Zf known,c,e,Zf (.int (d:Nat)),Zf (mk d)]) (n:=32) ?_ d hd;refine⟨⟨⟨⟨⟨⟨⟨⟨⟨⟨⟨⟨⟨⟨⟨⟨⟨⟨⟨⟨⟨⟨⟨⟨⟨⟨⟨⟨⟨⟨⟨⟨trivial,?_⟩,?_⟩,?_⟩,?_⟩,?_⟩,?_⟩,?_⟩,?_⟩,?_⟩,?_⟩,?_⟩,?_⟩,?_⟩,?_⟩,?_⟩,?_⟩,?_⟩,?_⟩,?_⟩,?_⟩,?_⟩,?_⟩,?_⟩,?_⟩,?_⟩,?_⟩,?_⟩,?_⟩,?_⟩,?_⟩,?_⟩,?_⟩<;>kernel_rfl
def isLst:D->Bool
 | .lst _=>true
 | _=>false
theorem mk_lst(d:Nat)(hd:d<32):∃zs,mk d = .lst zs:=by
 have h:((List.range 32).all λd=>isLst (mk d))=true:=by decide +kernel
 have h1:=Qq5.mp h d (Qzy.mpr hd);cases e:mk d with
 | lst zs=>exact⟨zs,rfl⟩
 | _=>rw[e] at h1;cases h1
inductive Rows:List D->List D->Prop where
 | nil:Rows [] []
 | cons {s m:D} {ss rs:List D}:Rows ss rs->Rows (s::ss) (.tup [s,m]::rs)
theorem stApp_eq{i:Nat}{a:Ev}{env e:Ev.Env}{d:D}{xs x0:List D}(h0:env[i]? = some (Zl x0))(h1:a env = .ok d e)(h2:e[i]? = some (Zl xs))(hz:xs.length<sizeLine):stApp i a env = .nx (e.set i (Zl (xs++[d]))):=by unfold stApp;rw[h0];show bindO (a env) _=_;rw[h1];show(match e[i]? with|some (some (true,.lst xs))=>if xs.length<sizeLine then Out.nx (e.set i (Zl (xs++[d]))) else .stuck|_=>.stuck)=_;rw[h2];show(if xs.length<sizeLine then _ else _)=_;rw[if_pos hz]
def stockBody:cz:=aJ (aY (evIO bh 0 (aa (Zi 32) aj)) (ak 5)) (aJ stMarks (stApp 3 (evTup (Zv 4 (aa (ao gTuple (aa (evSl (aQ 6) evNoP (evP (Zi 4))) aj)) aj)))))
def XS:List (List Nat):=[[97],[97,98],[97,98,99],[97,101,112,116],[109,110,122]]
theorem XS_len:∀x∈XS,x.length<=4:=by decide
theorem rows_lc{ss rs:List D}(h:Rows ss rs):∀(a v1 v2:OD),∃w1 w2,lcO (gvTup 2 (aV (ak 1) (aV (ak 2) gvNil))) cA (aQ 1) rs [a,v1,v2] = .ok ss [a,w1,w2]:=by
 induction h with
 | nil=>exact λa v1 v2=>⟨v1,v2,rfl⟩
 | cons _ ih=>
  rename_i s m ss rs _;intro a v1 v2;obtain⟨w1,w2,e⟩:=ih a (Zf s) (Zf m);refine⟨w1,w2,?_⟩;unfold lcO;show bindR (lcO _ cA (aQ 1) rs [a,Zf s,Zf m]) _=_;rw[e]
  rfl
theorem rows_evLC{x:List Nat}{rs:List D}(hx:x∈XS)(h:Rows (sgs x) rs):evLC 1 3 (evIt (aQ 0)) (gvTup 2 (aV (ak 1) (aV (ak 2) gvNil))) cA (aQ 1) [Zf (.tup rs)] = .ok (.lst (sgs x)) [Zf (.tup rs)]:=by obtain⟨w1,w2,e⟩:=rows_lc h (Zf (.tup rs)) none none;exact evLC_eq (lo:=1) (n:=3) (ds:=rs) (ys:=sgs x) (aO:=[Zf (.tup rs)]) (bZ:=[Zf (.tup rs),w1,w2]) rfl rfl (by exact e) (by unfold sgs;rw[Qqx];exact Qqy (XS_len x hx) (by decide))
theorem sounds_of{x:List Nat}{rs:List D}(hx:x∈XS)(h:Rows (sgs x) rs):f_sounds_of [.tup rs]=some (.tup (sgs x)):=
 bV (bH (aF (aD (rows_evLC hx h) bA) rfl))
theorem join_eq:∀x∈XS,gJoin (.str []) (.lst (sgs x))=some (.str x):=by intro x hx;unfold XS at hx;simp only[Qq3,Qxk,Qj6] at hx;rcases hx with rfl|rfl|rfl|rfl|rfl<;>kernel_rfl
theorem law_sounds{x:List Nat}{rs:List D}(hx:x∈XS)(h:Rows (sgs x) rs):f_law_sounds [.tup rs]=some (.str x):=
 bV (bH (aN (x:=.str []) rfl (rows_evLC hx h) (join_eq x hx)))
def isT:Option D->Bool
 | some (.bl true)=>true
 | _=>false
theorem isT_ok{o:Option D}(h:isT o=true):o=some (.bl true):=by
 cases o with
 | none=>cases h
 | some d=>cases d with
  | bl b=>cases b with
   | true=>rfl
   | false=>cases h
  | _=>cases h
def M(x:List Nat):Nat:=2*2^x.length - 1
def sgTail:cz:=aJ (aY (aG bN (Zw [35]) (bB 1)) (ak 3)) (aZ (ao gTuple (aa (evLC 4 5 (evRng (aa (ao gLen (aa (bB 3) aj)) aj)) (ak 4) (cU (aG gEq (aG gAnd (aq gShr 2 (bB 4)) (Zi 1)) (Zi 1))) (aq cI 3 (bB 4))) aj)))
def sgR(x:List Nat)(d:Nat):D:=match sgTail [Zn,Zs x,Zf (.int (1+(d:Int))),Zn] with
 | .rt _ r _=>r
 | _=>.non
def SG(x:List Nat):List D:=.non::(List.range (M x)).map (sgR x)
theorem sg_tail(a:OD):∀x∈XS,∀d,d<M x->∃e3,sgTail [a,Zs x,Zf (.int (1+(d:Int))),Zn] = .rt false (sgR x d) [a,Zs x,Zf (.int (1+(d:Int))),e3]:=by
 intro x hx d hd;refine⟨Zs (35::x),?_⟩;unfold XS at hx;simp only[Qq3,Qxk,Qj6] at hx;rcases hx with rfl|rfl|rfl|rfl|rfl
 ·refine all_lt (P:=λd=>sgTail [a,Zs [97],Zf (.int (1+((d:Nat):Int))),Zn] = .rt false (sgR [97] d) [a,Zs [97],Zf (.int (1+((d:Nat):Int))),Zs (35::[97])]) (n:=3) ?_ d hd;refine⟨⟨⟨trivial,?_⟩,?_⟩,?_⟩<;>kernel_rfl
 ·refine all_lt (P:=λd=>sgTail [a,Zs [97,98],Zf (.int (1+((d:Nat):Int))),Zn] = .rt false (sgR [97,98] d) [a,Zs [97,98],Zf (.int (1+((d:Nat):Int))),Zs (35::[97,98])]) (n:=7) ?_ d hd;refine⟨⟨⟨⟨⟨⟨⟨trivial,?_⟩,?_⟩,?_⟩,?_⟩,?_⟩,?_⟩,?_⟩<;>kernel_rfl
 ·refine all_lt (P:=λd=>sgTail [a,Zs [97,98,99],Zf (.int (1+((d:Nat):Int))),Zn] = .rt false (sgR [97,98,99] d) [a,Zs [97,98,99],Zf (.int (1+((d:Nat):Int))),Zs (35::[97,98,99])]) (n:=15) ?_ d hd;refine⟨⟨⟨⟨⟨⟨⟨⟨⟨⟨⟨⟨⟨⟨⟨trivial,?_⟩,?_⟩,?_⟩,?_⟩,?_⟩,?_⟩,?_⟩,?_⟩,?_⟩,?_⟩,?_⟩,?_⟩,?_⟩,?_⟩,?_⟩<;>kernel_rfl
 ·refine all_lt (P:=λd=>sgTail [a,Zs [97,101,112,116],Zf (.int (1+((d:Nat):Int))),Zn] = .rt false (sgR [97,101,112,116] d) [a,Zs [97,101,112,116],Zf (.int (1+((d:Nat):Int))),Zs (35::[97,101,112,116])]) (n:=31) ?_ d hd;refine⟨⟨⟨⟨⟨⟨⟨⟨⟨⟨⟨⟨⟨⟨⟨⟨⟨⟨⟨⟨⟨⟨⟨⟨⟨⟨⟨⟨⟨⟨⟨trivial,?_⟩,?_⟩,?_⟩,?_⟩,?_⟩,?_⟩,?_⟩,?_⟩,?_⟩,?_⟩,?_⟩,?_⟩,?_⟩,?_⟩,?_⟩,?_⟩,?_⟩,?_⟩,?_⟩,?_⟩,?_⟩,?_⟩,?_⟩,?_⟩,?_⟩,?_⟩,?_⟩,?_⟩,?_⟩,?_⟩,?_⟩<;>kernel_rfl
 ·refine all_lt (P:=λd=>sgTail [a,Zs [109,110,122],Zf (.int (1+((d:Nat):Int))),Zn] = .rt false (sgR [109,110,122] d) [a,Zs [109,110,122],Zf (.int (1+((d:Nat):Int))),Zs (35::[109,110,122])]) (n:=15) ?_ d hd;refine⟨⟨⟨⟨⟨⟨⟨⟨⟨⟨⟨⟨⟨⟨⟨trivial,?_⟩,?_⟩,?_⟩,?_⟩,?_⟩,?_⟩,?_⟩,?_⟩,?_⟩,?_⟩,?_⟩,?_⟩,?_⟩,?_⟩,?_⟩<;>kernel_rfl
theorem signs(n:Int)(x:List Nat)(hx:x∈XS):∃r n',f_law_signs [.lst [.int n],.str x]=some (r,.lst [.int n'])/\r∈SG x:=by
 obtain⟨d,hd,e⟩:=dig n 2 (by decide);have t:cU (aG gEq (evIO bh 0 (aa (Zi 2) aj)) (Zi 0)) [Zl [.int n],Zs x,Zn,Zn] = .ok ((d:Int) == 0) [Zl [.int (n / 2)],Zs x,Zn,Zn]:=by
  rw[<-e]
  rfl
 have hc:d=0\/d=1:=by omega
 rcases hc with rfl|rfl
 ·refine⟨.non,n / 2,runIO_eq (env:=[Zl [.int (n / 2)],Zs x,Zn,Zn]) ?_ rfl,Qqz ..⟩;unfold b_law_signs;refine(stSeq_rt (e:=[Zl [.int (n / 2)],Zs x,Zn,Zn]) ?_).trans rfl;exact(stIf_t (e:=[Zl [.int (n / 2)],Zs x,Zn,Zn]) t).trans rfl
 ·obtain⟨k,hk,ek⟩:=dig (n / 2) (M x) (by unfold M;have:0<2^x.length:=Nat.two_pow_pos _;omega);obtain⟨e3,h3⟩:=sg_tail (Zl [.int (n / 2 / (M x:Int))]) x hx k hk;refine⟨sgR x k,n / 2 / (M x:Int),runIO_eq (env:=[Zl [.int (n / 2 / (M x:Int))],Zs x,Zf (.int (1+(k:Int))),e3]) ?_ rfl,Qqj _ (Qq8.mpr ⟨k,Qzy.mpr hk,rfl⟩)⟩;unfold b_law_signs;refine(aC (e:=[Zl [.int (n / 2)],Zs x,Zn,Zn]) ?_).trans ?_
  ·exact(stIf_f (e:=[Zl [.int (n / 2)],Zs x,Zn,Zn]) t).trans rfl
  ·refine(aC (e:=[Zl [.int (n / 2 / (M x:Int))],Zs x,Zf (.int (1+n / 2 % (M x:Int))),Zn]) ?_).trans ?_
   ·unfold XS at hx;simp only[Qq3,Qxk,Qj6] at hx;rcases hx with rfl|rfl|rfl|rfl|rfl<;>rfl
   ·rw[ek];exact h3
theorem signs_good:∀x∈XS,∀r∈SG x,f_are_signs [.tup (sgs x),r]=some (.bl true):=by
 have h:(XS.all λx=>(SG x).all λr=>isT (f_are_signs [.tup (sgs x),r]))=true:=by decide +kernel
 intro x hx r hr;exact isT_ok (Qq5.mp (Qq5.mp h x hx) r hr)
def oth(x:List Nat)(c:Nat):List D:=((x.map (λa=>[a])++[[]]).filter λz=>z != [c]).map .str
def PV(x:List Nat):List (Nat×D):=x.flatMap λc=>(oth x c).map λv=>(c,v)
def one:cz:=aY (aq cI 1 (evIO bh 0 (aa (ao gLen (aa (bB 1) aj)) aj))) (ak 4)
def others:cz:=stOwn 5 (evLC 6 7 (evIt (aG bN (ao gList (aa (bB 1) aj)) (cW (aa (Zw []) aj)))) (ak 6) (cU (aq gNe 6 (bB 4))) (aQ 6))
def putIt:cz:=stDput 2 (aQ 4) (aq cI 5 (evIO bh 0 (aa (ao gLen (aa (bB 5) aj)) aj)))
theorem others_eq(a b v3 v5:OD):∀x∈XS,∀c∈x,others [a,Zs x,b,v3,Zs [c],v5] = .nx [a,Zs x,b,v3,Zs [c],Zl (oth x c)]:=by
 intro x hx c hc;unfold XS at hx;simp only[Qq3,Qxk,Qj6] at hx;rcases hx with rfl|rfl|rfl|rfl|rfl<;>simp only[Qq3,Qxk,Qj6] at hc
 ·subst hc;kernel_rfl
 ·rcases hc with rfl|rfl<;>kernel_rfl
 ·rcases hc with rfl|rfl|rfl<;>kernel_rfl
 ·rcases hc with rfl|rfl|rfl|rfl<;>kernel_rfl
 ·rcases hc with rfl|rfl|rfl<;>kernel_rfl
theorem oth_len:∀x∈XS,∀c∈x,(oth x c).length=x.length:=by decide +kernel
theorem XS_pos:∀x∈XS,0<x.length:=by decide
theorem take_eq(n:Int)(m:Nat)(h0:0<m)(h1:m<1073741824):bh [.lst [.int n],.int (m:Int)]=some (.int (n % m),.lst [.int (n / m)]):=by
 refine runIO_eq (env:=[Zl [.int (n / m)],Zf (.int m),Zf (.int (n % m))]) ?_ rfl;unfold b_law_take;have g:gDivmod [.int n,.int (m:Int)]=some (.tup [.int (n / m),.int (n % m)]):=by show(if 0<(m:Int)/\(m:Int)<1073741824 then _ else _)=_;rw[if_pos (by omega)]
 refine(aC (e:=[Zl [.int (n / m)],Zf (.int m),Zf (.int (n % m))]) ?_).trans rfl;exact bK (aF (ds:=[.int n,.int (m:Int)]) (e:=[Zl [.int n],Zf (.int m),Zn]) (by rfl) g) (by rfl)
theorem stDput_eq{i:Nat}{k a:Ev}{env e1 e2:Ev.Env}{d kd x0:D}{o:Bool}{q:Key}{kvs:List (D×D)}(h1:a env = .ok d e1)(h2:e1[i]? = some (some (o,x0)))(h3:k e1 = .ok kd e2)(h4:e2[i]? = some (Zt (.dct kvs)))(h5:keyD kd=some q)(hz:kvs.length<sizeLine) :
  stDput i k a env = .nx (e2.set i (Zt (.dct (putD kvs kd q d)))):=by
 unfold stDput;rw[h1];simp only[bindO];rw[h2];simp only;rw[h3];simp only;rw[h4,h5];simp only;rw[if_pos hz]
def put1(kvs:List (D×D))(p:Nat×D):List (D×D):=putD kvs (.str [p.1]) (.inr (strOf [p.1])) p.2
theorem round(n:Int)(x:List Nat)(hx:x∈XS)(kvs:List (D×D))(hk:kvs.length<=10)(v3 v4 v5:OD):∃p n' v4' v5',p∈PV x/\aJ one (aJ others putIt) [Zl [.int n],Zs x,Zt (.dct kvs),v3,v4,v5] = .nx [Zl [.int n'],Zs x,Zt (.dct (put1 kvs p)),v3,v4',v5']:=by
 have hp:=XS_pos x hx;have hl4:=XS_len x hx;obtain⟨d,hd,e⟩:=dig n x.length hp;have hc:x[d]∈x:=Qz7 hd;have hol:=oth_len x hx x[d] hc;obtain⟨d',hd',e'⟩:=dig (n / (x.length:Int)) x.length hp;have hv:d'<(oth x x[d]).length:=by rw[hol];exact hd'
 refine⟨(x[d],(oth x x[d])[d']),n / (x.length:Int) / (x.length:Int),Zs [x[d]],Zl (oth x x[d]),?_,?_⟩
 ·unfold PV;exact Qz2.mpr ⟨x[d],hc,Qq8.mpr ⟨_,Qz7 hv,rfl⟩⟩
 ·refine(aC (e:=[Zl [.int (n / (x.length:Int))],Zs x,Zt (.dct kvs),v3,Zs [x[d]],v5]) ?_).trans ?_
  ·unfold one;refine bK (d:=.str [x[d]]) (e:=[Zl [.int (n / (x.length:Int))],Zs x,Zt (.dct kvs),v3,v4,v5]) ?_ (by rfl);refine evBF (x:=.str x) (y:=.int (n % (x.length:Int))) (by rfl) ?_ (by rfl) ?_
   ·exact evIO_eq (x:=.lst [.int n]) (x0:=.lst [.int n]) (ds:=[.int (x.length:Int)]) (e1:=[Zl [.int n],Zs x,Zt (.dct kvs),v3,v4,v5]) (by rfl) (by rfl) (by rfl) (take_eq n x.length hp (by omega))
   ·show(atI x (n % (x.length:Int))).map _=_;rw[e,atI_lt hd]
    rfl
  ·refine(aC (others_eq _ _ _ _ x hx x[d] hc)).trans ?_;unfold putIt;refine(stDput_eq (d:=(oth x x[d])[d']) (kd:=.str [x[d]]) (o:=true) (x0:=.dct kvs) (kvs:=kvs) (q:=.inr (strOf [x[d]])) (e1:=[Zl [.int (n / (x.length:Int) / (x.length:Int))],Zs x,Zt (.dct kvs),v3,Zs [x[d]],Zl (oth x x[d])])
    (e2:=[Zl [.int (n / (x.length:Int) / (x.length:Int))],Zs x,Zt (.dct kvs),v3,Zs [x[d]],Zl (oth x x[d])]) ?_ (by rfl) (by rfl) (by rfl) (by rfl) (Qx4 hk (by decide))).trans rfl
   refine evBT (x:=.lst (oth x x[d])) (y:=.int (n / (x.length:Int) % (x.length:Int))) (by rfl) ?_ (by rfl) ?_
   ·refine evIO_eq (x:=.lst [.int (n / (x.length:Int))]) (x0:=.lst [.int (n / (x.length:Int))]) (ds:=[.int (x.length:Int)]) (e1:=[Zl [.int (n / (x.length:Int))],Zs x,Zt (.dct kvs),v3,Zs [x[d]],Zl (oth x x[d])]) (by rfl) ?_ (by rfl) (take_eq _ x.length hp (by omega));refine aD (d:=.int (x.length:Int)) ?_ bA;refine aF (ds:=[.lst (oth x x[d])]) (by rfl) ?_;show some (D.int ((oth x x[d]).length:Int))=_;rw[hol]
   ·show atI (oth x x[d]) (n / (x.length:Int) % (x.length:Int))=_;rw[e',atI_lt hv]
def chOf(kvs:List (D×D)):Option D:=match gSorted [.dct kvs] with
 | some (.lst ks)=>if (ks.all λk=>(gDget (.dct kvs) k).isSome) then some (.tup (ks.map λk=>.tup [k,(gDget (.dct kvs) k).getD .non])) else none
 | _=>none
def chTail:cz:=aZ (ao gTuple (aa (evLC 6 7 (evIt (ao gSorted (aa (bB 2) aj))) (ak 6) cA (evTup (Zv 6 (aa (aq gDget 2 (bB 6)) aj)))) aj))
theorem gSorted_len{kvs:List (D×D)}{ks:List D}(h:gSorted [.dct kvs]=some (.lst ks)):ks.length<=64:=by
 obtain⟨zs,h1,h2⟩:=Qx7.mp h;split at h2
 ·rename_i hz;cases h2;rw[Qqx,(sortX_perm zs).length_eq];omega
 ·cases h2
theorem ch_tail{kvs:List (D×D)}{ch:D}(h:chOf kvs=some ch)(a b v3 v4 v5:OD):chTail [a,b,Zt (.dct kvs),v3,v4,v5] = .rt false ch [a,b,Zt (.dct kvs),v3,v4,v5]:=by
 unfold chOf at h;split at h
 ·rename_i ks hs;split at h
  ·rename_i hall;cases h;obtain⟨env',h1,v6,rfl⟩:=lcO_map (g:=ak 6) (e:=evTup (Zv 6 (aa (aq gDget 2 (bB 6)) aj))) (λenv=>∃v6,env=[a,b,Zt (.dct kvs),v3,v4,v5,v6]) (λk=>.tup [k,(gDget (.dct kvs) k).getD .non]) ks [a,b,Zt (.dct kvs),v3,v4,v5,Zn] ⟨none,rfl⟩
    (λk hk env ⟨v6,he⟩=>by
     subst he;obtain⟨v,hv⟩:=Qxv.mp (Qq5.mp hall k hk);refine⟨_,[a,b,Zt (.dct kvs),v3,v4,v5,Zf k],rfl,?_,Zf k,rfl⟩;rw[hv];exact evTup_eq (ds:=[k,v]) (aD (d:=k) (e1:=[a,b,Zt (.dct kvs),v3,v4,v5,Zf k]) (by rfl) (aD (d:=v) (evBT (x:=.dct kvs) (y:=k) (by rfl) (by rfl) (by rfl) hv) bA)) Ev.zz2)
   refine bH (aF (ds:=[.lst (ks.map λk=>.tup [k,(gDget (.dct kvs) k).getD .non])]) (aD (e1:=[a,b,Zt (.dct kvs),v3,v4,v5]) ?_ bA) rfl);refine evLC_eq (lo:=6) (n:=7) (ds:=ks) (aO:=[a,b,Zt (.dct kvs),v3,v4,v5]) (bZ:=[a,b,Zt (.dct kvs),v3,v4,v5,v6]) ?_ (by rfl) h1 ?_
   ·exact evIt_eq (d:=.lst ks) (aF (ds:=[.dct kvs]) (by rfl) hs) rfl
   ·rw[Qqx];exact Qqy (gSorted_len hs) (by decide)
  ·cases h
 ·cases h
def seqs(x:List Nat):List (List Nat):=((x.map λc=>[c])++(x.flatMap λc=>x.map λd=>[c,d])++(x.flatMap λc=>x.flatMap λd=>x.map λe=>[c,d,e])).filter λz=>decide z.Nodup
theorem seqs_mem{x zs:List Nat}(h1:∀c∈zs,c∈x)(h2:zs.Nodup)(h3:0<zs.length)(h4:zs.length<=3):zs∈seqs x:=by
 unfold seqs;refine List.mem_filter.mpr ⟨?_,Qw9 h2⟩
 match zs,h1,h3,h4 with
 | [a],h1,_,_=>exact Qx9 _ (Qx9 _ (Qq8.mpr ⟨a,h1 a (by simp),rfl⟩))
 | [a,b],h1,_,_=>exact Qx9 _ (Qww _ (Qz2.mpr ⟨a,h1 a (by simp),Qq8.mpr ⟨b,h1 b (by simp),rfl⟩⟩))
 | [a,b,c],h1,_,_=>exact Qww _ (Qz2.mpr ⟨a,h1 a (by simp),Qz2.mpr ⟨b,h1 b (by simp),Qq8.mpr ⟨c,h1 c (by simp),rfl⟩⟩⟩)
structure KvOk(x:List Nat)(kvs:List (D×D))(zs:List Nat):Prop where
 keys:kvs.map (·.1)=zs.map λc=>D.str [c]
 nd:zs.Nodup
 mem:∀c∈zs,c∈x
 vals:∀k v,(k,v)∈kvs->∃c,k = .str [c]/\(c,v)∈PV x
theorem strOf_inj{a b:List Nat}(h:strOf a=strOf b):a=b:=by
 have:=Qzq (λs:Str=>s.cps.toList) h
 simpa[strOf] using this
theorem setD_keys(q:Key)(d:D):∀kvs:List (D×D),(setD kvs q d).map (·.1)=kvs.map (·.1)
 | []=>rfl
 | (k,e)::r=>by
  unfold setD;rw[Qwz,Qwz,setD_keys q d r];split<;>rfl
theorem setD_mem{q:Key}{d:D}:∀{kvs:List (D×D)} {k v:D},(k,v)∈setD kvs q d->(k,v)∈kvs\/(keyD k=some q/\v=d)
 | [],_,_,h=>by simp[setD] at h
 | (k',e)::r,k,v,h=>by
  unfold setD at h;rcases Qq3.mp h with h|h
  ·split at h
   ·rename_i hk;cases h;exact .inr ⟨hk,rfl⟩
   ·cases h;exact .inl (Qqz ..)
  ·rcases setD_mem h with h|h
   ·exact .inl (Qqj _ h)
   ·exact .inr h
theorem valD_none{q:Key}:∀{kvs:List (D×D)},valD kvs q=none->∀k v,(k,v)∈kvs->keyD k≠some q
 | [],_,k,v,hm=>by simp at hm
 | (k',e)::r,h,k,v,hm=>by
  unfold valD at h;split at h
  ·cases h
  ·rename_i hk;rcases Qq3.mp hm with hm|hm
   ·cases hm;exact hk
   ·exact valD_none h k v hm
theorem valD_some{q:Key}{d:D}:∀{kvs:List (D×D)},valD kvs q=some d->∃k,(k,d)∈kvs/\keyD k=some q
 | [],h=>by simp[valD] at h
 | (k',e)::r,h=>by
  unfold valD at h;split at h
  ·rename_i hk;cases h;exact⟨k',Qqz ..,hk⟩
  ·obtain⟨k,h1,h2⟩:=valD_some h;exact⟨k,Qqj _ h1,h2⟩
theorem KvOk.put{x:List Nat}{kvs:List (D×D)}{zs:List Nat}(h:KvOk x kvs zs){p:Nat×D}(hp:p∈PV x)(hx:p.1∈x):∃zs',KvOk x (put1 kvs p) zs'/\0<zs'.length/\zs'.length<=zs.length+1:=by
 unfold put1 putD;cases e:valD kvs (.inr (strOf [p.1])) with
 | none=>
  simp only[Option.isSome_none,Bool.false_eq_true,if_false];refine⟨zs++[p.1],⟨?_,?_,λc hc=>?_,λk v hm=>?_⟩,by simp,by simp⟩
  ·rw[Qxj,Qxj,h.keys];rfl
  ·refine List.nodup_append.mpr ⟨h.nd,Qjz.mpr ⟨Qxk,.nil⟩,λa ha b hb=>?_⟩;rcases Qq2.mp hb with rfl;rintro rfl;have hm:D.str [p.1]∈kvs.map (·.1):=by rw[h.keys];exact Qq8.mpr ⟨p.1,ha,rfl⟩
   obtain⟨⟨k,v⟩,h1,h2⟩:=Qq8.mp hm;have h2':k = .str [p.1]:=h2;subst h2';exact valD_none e _ _ h1 rfl
  ·rcases Qw4.mp hc with hc|hc
   ·exact h.mem c hc
   ·rw[Qq2.mp hc];exact hx
  ·rcases Qw4.mp hm with hm|hm
   ·exact h.vals k v hm
   ·have:=Qq2.mp hm;cases this;exact⟨p.1,rfl,hp⟩
 | some w=>
  simp only[Option.isSome_some,if_true];obtain⟨k0,hk0,_⟩:=valD_some e;have hne:0<zs.length:=by have:=Qzq List.length h.keys;rw[Qqx,Qqx] at this;rw[<-this];exact List.length_pos_of_mem hk0
  refine⟨zs,⟨by rw[setD_keys];exact h.keys,h.nd,h.mem,λk v hm=>?_⟩,hne,Nat.le_succ _⟩;rcases setD_mem hm with hm|⟨hk,rfl⟩
  ·exact h.vals k v hm
  ·have hin:k∈(setD kvs (.inr (strOf [p.1])) p.2).map (·.1):=Qq8.mpr ⟨_,hm,rfl⟩;rw[setD_keys,h.keys] at hin;obtain⟨c,hc,rfl⟩:=Qq8.mp hin;have:strOf [c]=strOf [p.1]:=by
    have:=Qw1 hk;exact Sum.inr.inj this
   have e2:=strOf_inj this;cases e2;exact⟨p.1,rfl,hp⟩
theorem PV_fst{x:List Nat}{p:Nat×D}(h:p∈PV x):p.1∈x:=by unfold PV at h;obtain⟨c,hc,h⟩:=Qz2.mp h;obtain⟨v,_,rfl⟩:=Qq8.mp h;exact hc
theorem strsD_map(zs:List (List Nat)):strsD (zs.map D.str)=some zs:=by
 induction zs with
 | nil=>rfl
 | cons z r ih=>
  rw[Qwz];unfold strsD;rw[ih]
  rfl
def prs(kvs:List (D×D))(ks:List D):List D:=ks.map λk=>.tup [k,(gDget (.dct kvs) k).getD .non]
theorem key_in{x:List Nat}{kvs:List (D×D)}{zs:List Nat}(h:KvOk x kvs zs)(k:D)(hk:k∈(sortX (zs.map λc=>[c])).map D.str):∃c v,k = .str [c]/\gDget (.dct kvs) k=some v/\(c,v)∈PV x:=by
 obtain⟨z,hz,rfl⟩:=Qq8.mp hk;obtain⟨c,hc,rfl⟩:=Qq8.mp ((sortX_perm _).mem_iff.mp hz);have hm:D.str [c]∈kvs.map (·.1):=by rw[h.keys];exact Qq8.mpr ⟨c,hc,rfl⟩
 obtain⟨⟨k,v⟩,h1,h2⟩:=Qq8.mp hm;have h2':k = .str [c]:=h2;subst h2';cases e:valD kvs (.inr (strOf [c])) with
 | none=>exact absurd rfl (valD_none e _ _ h1)
 | some w=>
  obtain⟨k',h3,h4⟩:=valD_some e;obtain⟨c',rfl,h5⟩:=h.vals k' w h3;have e2:strOf [c']=strOf [c]:=Sum.inr.inj (Qw1 h4);cases strOf_inj e2;exact⟨c,w,rfl,e,h5⟩
theorem blsOf_true:∀(n:Nat),blsOf (List.replicate n (D.bl true))=some (List.replicate n true)
 | 0=>rfl
 | n+1=>by
  rw[List.replicate_succ];unfold blsOf;rw[blsOf_true n]
  rfl
theorem all_true{n:Nat}:(List.replicate n true).all id=true:=by
 induction n with
 | zero=>rfl
 | succ n ih=>rw[List.replicate_succ,List.all_cons,ih];rfl
def WY:List D:=[.str [111,110,99,101],.str [97,108,111,110,103]]
structure RuleOk(x:List Nat)(w ch l r:D):Prop where
 way:w∈WY
 chg:f_are_changes [.tup (sgs x),ch]=some (.bl true)
 chk:okN 5 ch=true
 left:l∈SG x
 right:r∈SG x
theorem way_in:∀w∈WY,gIn w (.tup [.str [111,110,99,101],.str [97,108,111,110,103]])=some (.bl true):=by intro w hw;unfold WY at hw;simp only[Qq3,Qxk,Qj6] at hw;rcases hw with rfl|rfl<;>kernel_rfl
theorem is_rule{x:List Nat}(hx:x∈XS){rs:List D}(hr:Rows (sgs x) rs){w ch l r:D}(h:RuleOk x w ch l r):f_is_rule [.tup rs,.tup [w,ch,r,l]]=some (.bl true):=by
 refine bV (env:=[Zf (.tup rs),Zf (.tup [w,ch,r,l]),Zf w,Zf ch,Zf r,Zf l,Zf (.tup (sgs x))]) ?_;unfold b_is_rule;refine(aC (e:=[Zf (.tup rs),Zf (.tup [w,ch,r,l]),Zn,Zn,Zn,Zn,Zn]) (by rfl)).trans ?_;refine(aC (e:=[Zf (.tup rs),Zf (.tup [w,ch,r,l]),Zf w,Zf ch,Zf r,Zf l,Zn]) (by rfl)).trans ?_;refine(aC (e:=[Zf (.tup rs),Zf (.tup [w,ch,r,l]),Zf w,Zf ch,Zf r,Zf l,Zf (.tup (sgs x))]) ?_).trans ?_
 ·exact bK (d:=.tup (sgs x)) (e:=[Zf (.tup rs),Zf (.tup [w,ch,r,l]),Zf w,Zf ch,Zf r,Zf l,Zn]) (aF (ds:=[.tup rs]) (by rfl) (sounds_of hx hr)) (by rfl)
 generalize hE:([Zf (.tup rs),Zf (.tup [w,ch,r,l]),Zf w,Zf ch,Zf r,Zf l,Zf (.tup (sgs x))]:Ev.Env)=env;refine bH ?_;refine(evAnd_t (e:=env) ?_).trans ?_
 ·refine evBF (x:=w) (y:=.tup [.str [111,110,99,101],.str [97,108,111,110,103]]) (by rw[<-hE];rfl) (by rfl) (by rw[<-hE];rfl) (way_in w h.way)
 refine(evAnd_t (e:=env) ?_).trans ?_
 ·exact aF (ds:=[.tup (sgs x),ch]) (by rw[<-hE];rfl) h.chg
 refine(evAnd_t (e:=env) ?_).trans ?_
 ·exact aF (ds:=[.tup (sgs x),r]) (by rw[<-hE];rfl) (signs_good x hx r h.right)
 ·exact aF (ds:=[.tup (sgs x),l]) (by rw[<-hE];rfl) (signs_good x hx l h.left)
end K06
namespace K20
open Ev
def b_law_take:cz:=K76.b_law_take
def bh:List D->Option (D×D):=runIO 3 b_law_take
def b_law_word:cz:=aZ (aG gJoin (Zw []) (evLC 3 4 (evRng (aa (evIO bh 0 (aa (aq bN 2 (Zi 1)) aj)) aj)) (ak 3) cA (aq cI 1 (evIO bh 0 (aa (ao gLen (aa (bB 1) aj)) aj)))))
def f_law_word:List D->Option (D×D):=runIO 3 b_law_word
open Ev PySem L2
abbrev XS:=K06.XS
theorem XS_pos:∀x∈XS,0<x.length:=by decide
theorem take_eq(n:Int)(m:Nat)(h0:0<m)(h1:m<1073741824):bh [.lst [.int n],.int (m:Int)]=some (.int (n % m),.lst [.int (n / m)]):=by
 refine runIO_eq (env:=[Zl [.int (n / m)],Zf (.int m),Zf (.int (n % m))]) ?_ rfl;unfold b_law_take;have g:gDivmod [.int n,.int (m:Int)]=some (.tup [.int (n / m),.int (n % m)]):=by show(if 0<(m:Int)/\(m:Int)<1073741824 then _ else _)=_;rw[if_pos (by omega)]
 refine(aC (e:=[Zl [.int (n / m)],Zf (.int m),Zf (.int (n % m))]) ?_).trans rfl;exact bK (aF (ds:=[.int n,.int (m:Int)]) (e:=[Zl [.int n],Zf (.int m),Zn]) (by rfl) g) (by rfl)
theorem lcO_ex{g:GV}{e:Ev}(P:Ev.Env->Prop)(R:D->Prop):∀(ds:List D) (env:Ev.Env),P env->(∀d∈ds,∀env,P env->∃y e1 e2,g d env=some e1/\e e1 = .ok y e2/\P e2/\R y)->∃ys env',lcO g cA e ds env = .ok ys env'/\P env'/\(∀y∈ys,R y)/\ys.length=ds.length
 | [],env,hp,_=>⟨[],env,rfl,hp,λy hy=>by simp at hy,rfl⟩
 | d::ds,env,hp,h=>by
  obtain⟨y,e1,e2,h1,h2,h3,h4⟩:=h d (Qqz ..) env hp;obtain⟨ys,e3,h5,h6,h7,h8⟩:=lcO_ex P R ds e2 h3 λd' hd=>h d' (Qqj _ hd);refine⟨y::ys,e3,?_,h6,λz hz=>?_,by rw[Qqk,Qqk,h8]⟩
  ·unfold lcO;rw[h1];show bindR (e e1) _=_;rw[h2];show bindR (lcO g cA e ds e2) _=_;rw[h5]
   rfl
  ·rcases Qq3.mp hz with rfl|hz
   ·exact h4
   ·exact h7 z hz
theorem joinN_nil:∀(zs:List (List Nat)),joinN [] zs=zs.flatten
 | []=>rfl
 | x::r=>by
  show r.foldl (λacc y=>acc++[]++y) x=(x::r).flatten;have go:∀(r:List (List Nat)) (x:List Nat),r.foldl (λacc y=>acc++[]++y) x=x++r.flatten:=by
   intro r
   induction r with
   | nil=>intro x;simp
   | cons y r ih=>intro x;rw[Qz6,ih];simp
  rw[go];rfl
theorem strsD_map(zs:List (List Nat)):strsD (zs.map D.str)=some zs:=by
 induction zs with
 | nil=>rfl
 | cons z r ih=>
  rw[Qwz];unfold strsD;rw[ih]
  rfl
theorem sum_le{zs:List (List Nat)}{k:Nat}(h:∀z∈zs,z.length<=k):(zs.map List.length).sum<=zs.length*k:=by
 induction zs with
 | nil=>simp
 | cons z r ih=>
  rw[Qwz,List.sum_cons,Qqk,Nat.add_mul];have h1:=h z (Qqz ..);have h2:=ih λy hy=>h y (Qqj _ hy);omega
theorem fits_join{zs:List (List Nat)}(h1:zs.length<=100)(h2:∀z∈zs,z.length<=10):joinFits [] zs=true:=by
 refine Qw9 ?_;have:=sum_le h2;have h3:zs.length*10<=1000:=by omega
 show _+zs.length*0<=_;omega
theorem join_eq{zs:List (List Nat)}(h1:zs.length<=100)(h2:∀z∈zs,z.length<=10):gJoin (.str []) (.lst (zs.map .str))=some (.str zs.flatten):=by show(match strsD (zs.map D.str) with|some xs=>if joinFits [] xs=true then some (D.str (joinN [] xs)) else none|none=>none)=_;rw[strsD_map];show(if joinFits [] zs=true then _ else _)=_;rw[if_pos (fits_join h1 h2),joinN_nil]
theorem strs_of{x:List Nat}:∀{ys:List D},(∀y∈ys,∃c∈x,y = .str [c])->∃w:List Nat,ys=(w.map λc=>[c]).map D.str/\∀c∈w,c∈x
 | [],_=>⟨[],rfl,λc hc=>by simp at hc⟩
 | y::ys,h=>by
  obtain⟨c,hc,rfl⟩:=h y (Qqz ..);obtain⟨w,rfl,hw⟩:=strs_of λz hz=>h z (Qqj _ hz);refine⟨c::w,rfl,λd hd=>?_⟩;rcases Qq3.mp hd with rfl|hd
  ·exact hc
  ·exact hw d hd
theorem flat_one(w:List Nat):(w.map λc=>[c]).flatten=w:=by
 induction w with
 | nil=>rfl
 | cons c r ih=>rw[Qwz,List.flatten_cons,ih];rfl
theorem rng1{j:Nat}(h:j<1000):rngD [.int (j:Int)]=some (cR 0 1 j):=by
 have hf:rngFits (j:Int)=true:=by unfold rngFits;rw[Qwy];exact⟨Qw9 (by omega),Qw9 (by omega)⟩
 unfold rngD;simp only;rw[if_pos hf,Int.toNat_natCast]
theorem evRng_eq{a:EvA}{env e:Ev.Env}{ds ys:List D}(h:a env = .ok ds e)(h':rngD ds=some ys):evRng a env = .ok ys e:=by
 unfold evRng;rw[h];show liftR (rngD ds) e=_;rw[h']
 rfl
theorem word(n:Int)(x:List Nat)(hx:x∈XS)(m:Nat)(hm:m<=50):∃w n',f_law_word [.lst [.int n],.str x,.int (m:Int)]=some (.str w,.lst [.int n'])/\(∀c∈w,c∈x)/\w.length<=m:=by
 have hp:=XS_pos x hx;have hl4:=K06.XS_len x hx;obtain⟨d,hd,e⟩:=dig n (m+1) (by omega);obtain⟨ys,env',h1,⟨n',v3,rfl⟩,h3,h4⟩:=lcO_ex (g:=ak 3) (e:=aq cI 1 (evIO bh 0 (aa (ao gLen (aa (bB 1) aj)) aj))) (λenv=>∃n v3,env=[Zl [.int n],Zs x,Zf (.int (m:Int)),v3]) (λy=>∃c∈x,y = .str [c]) (cR 0 1 d)
  [Zl [.int (n / ((m+1:Nat):Int))],Zs x,Zf (.int (m:Int)),Zn] ⟨_,_,rfl⟩
  (λs _ env ⟨n,v3,he⟩=>by
   subst he;obtain⟨j,hj,ej⟩:=dig n x.length hp;refine⟨.str [x[j]],[Zl [.int n],Zs x,Zf (.int (m:Int)),Zf s],[Zl [.int (n / (x.length:Int))],Zs x,Zf (.int (m:Int)),Zf s],rfl,?_,⟨_,_,rfl⟩,x[j],Qz7 hj,rfl⟩;refine evBF (x:=.str x) (y:=.int (n % (x.length:Int))) (by rfl) ?_ (by rfl) ?_
   ·exact evIO_eq (x:=.lst [.int n]) (x0:=.lst [.int n]) (ds:=[.int (x.length:Int)]) (e1:=[Zl [.int n],Zs x,Zf (.int (m:Int)),Zf s]) (by rfl) (by rfl) (by rfl) (take_eq n x.length hp (by omega))
   ·show(atI x (n % (x.length:Int))).map _=_;rw[ej,atI_lt hj]
    rfl)
 obtain⟨w,rfl,hw⟩:=strs_of h3;have hwl:w.length=d:=by have:=h4;rw[Qqx,Qqx,stepsI_len] at this;exact this
 refine⟨w,n',runIO_eq (env:=[Zl [.int n'],Zs x,Zf (.int (m:Int))]) ?_ rfl,hw,by omega⟩;unfold b_law_word;refine bH (aN (x:=.str []) (e1:=[Zl [.int n],Zs x,Zf (.int (m:Int))]) (by rfl) (y:=.lst ((w.map λc=>[c]).map D.str)) ?_ ?_)
 ·refine evLC_eq (lo:=3) (n:=4) (ds:=cR 0 1 d) (aO:=[Zl [.int (n / ((m+1:Nat):Int))],Zs x,Zf (.int (m:Int))]) (bZ:=[Zl [.int n'],Zs x,Zf (.int (m:Int)),v3]) ?_ (by rfl) h1 ?_
  ·refine evRng_eq (ds:=[.int (n % ((m+1:Nat):Int))]) ?_ (by rw[e];exact rng1 (by omega));refine aD (e1:=[Zl [.int (n / ((m+1:Nat):Int))],Zs x,Zf (.int (m:Int))]) ?_ bA;exact evIO_eq (x:=.lst [.int n]) (x0:=.lst [.int n]) (ds:=[.int ((m+1:Nat):Int)]) (e1:=[Zl [.int n],Zs x,Zf (.int (m:Int))]) (by rfl) (by rfl) (by rfl) (take_eq n (m+1) (by omega) (by omega))
  ·rw[Qqx,Qqx,hwl];exact Qqy (show d<=100 by omega) (by decide)
 ·have:=join_eq (zs:=w.map λc=>[c]) (by rw[Qqx];omega) (λz hz=>by obtain⟨c,_,rfl⟩:=Qq8.mp hz;simp);rw[flat_one] at this;exact this
def texts(x:List Nat):List (List Nat):=[[],[x.headD 0],[x.getLastD 0],[x.headD 0,x.headD 0],[x.headD 0,x.getLastD 0]]
end K20
namespace K08
open Ev
def b_fits:cz:=K76.b_fits
def f_fits:LD:=b8 2 b_fits
def b_turned:cz:=K76.b_turned
def f_turned:LD:=b8 5 b_turned
def b_puts_in:cz:=K76.b_puts_in
def f_puts_in:LD:=b8 1 b_puts_in
def b_with_put_in:cz:=aJ (aY (aQ 0) (gvTup 4 (aV (ak 2) (aV (ak 3) (aV (ak 4) (aV (ak 5) gvNil)))))) (aJ (aY (aG cI (aq cI 3 (Zi 0)) (Zi 1)) (ak 6)) (aJ (stOwn 7 (cW aj)) (aJ (aY (Zw [35]) (ak 8)) (aJ (stFor (evIt (aq bN 1 (Zw [35]))) (ak 9) (aJ (cT (evAndT (cU (ao f_fits (Zv 4 (Zv 8 aj)))) (cU (ao f_fits (Zv 5 (Zv 9 aj))))) (stApp 7 (aQ 6)) bM) (aJ (stApp 7 (aQ 9)) (aY (aQ 9) (ak 8))))) (aZ (aG gJoin (Zw []) (evSl (aQ 7) evNoP (evP (evUn gNeg (Zi 1))))))))))
def f_with_put_in:LD:=b8 10 b_with_put_in
def b_with_changes:cz:=aJ (aY (aQ 0) (gvTup 4 (aV (ak 2) (aV (ak 3) (aV (ak 4) (aV (ak 5) gvNil)))))) (aJ (aY (ao gDict (aa (bB 3) aj)) (ak 6)) (aJ (aY (aq bN 1 (Zw [35])) (ak 7)) (aJ (stOwn 8 (cW aj)) (aJ (aY (Zw [35]) (ak 9)) (aJ (stFor (evEnum (Zv 1 aj)) (gvTup 2 (aV (ak 10) (aV (ak 11) gvNil))) (aJ (aY (aQ 11) (ak 12)) (aJ (cT (evAndT (cU (aq gInDct 11 (bB 6))) (evAndT (cU (ao f_fits (Zv 4 (Zv 9 aj)))) (cU (ao f_fits (Zv 5 (aa (aq cI 7 (aq bN 10 (Zi 1))) aj)))))) (aY (aq gDget 6 (bB 11)) (ak 12)) bM) (aJ (stApp 8 (aQ 12)) (cT (cU (aq gEq 2 (Zw [111,110,99,101]))) (aY (aQ 11) (ak 9)) (cT (cU (aq gNe 12 (Zw []))) (aY (aQ 12) (ak 9)) bM)))))) (aZ (aG gJoin (Zw []) (bB 8))))))))
def f_with_changes:LD:=b8 13 b_with_changes
def b_from_left:cz:=K76.b_from_left
def f_from_left:LD:=b8 2 b_from_left
def b_changed:cz:=K76.b_changed
def f_changed:LD:=b8 3 b_changed
def b_law_fits:cz:=K76.b_fits
def cJ:LD:=b8 2 b_law_fits
def b_law_put_in:cz:=aJ (aY (aG bN (aG bN (Zw [35]) (bB 1)) (Zw [35])) (ak 2)) (aJ (aY (Zw []) (ak 3)) (aJ (stFor (evRng (aa (Zi 1) (aa (ao gLen (aa (bB 2) aj)) aj))) (ak 4) (aJ (cT (evAndT (cU (ao cJ (aa (aq cI 0 (Zi 2)) (aa (aq cI 2 (aq gSub 4 (Zi 1))) aj)))) (cU (ao cJ (aa (aq cI 0 (Zi 3)) (aa (aq cI 2 (bB 4)) aj))))) (aY (aq bN 3 (aG cI (aG cI (aq cI 0 (Zi 1)) (Zi 0)) (Zi 1))) (ak 3)) bM) (aY (aq bN 3 (aq cI 2 (bB 4))) (ak 3)))) (aZ (evSlS (aQ 3) evNoP (evP (evUn gNeg (Zi 1)))))))
def f_law_put_in:LD:=b8 5 b_law_put_in
def b_law_changed:cz:=aJ (aY (aQ 0) (gvTup 4 (aV (ak 2) (aV (ak 3) (aV (ak 4) (aV (ak 5) gvNil)))))) (aJ (cT (cU (aG gEq (aG cI (aq cI 3 (Zi 0)) (Zi 0)) (Zw []))) (aZ (ao f_law_put_in (Zv 0 (Zv 1 aj)))) bM) (aJ (aY (ao gDict (aa (bB 3) aj)) (ak 6)) (aJ (aY (aG bN (aG bN (Zw [35]) (bB 1)) (Zw [35])) (ak 7)) (aJ (aY (Zw [35]) (ak 8)) (aJ (stFor (evRng (aa (Zi 1) (aa (aG gSub (ao gLen (aa (bB 7) aj)) (Zi 1)) aj))) (ak 9) (aJ (aY (aq cI 7 (aq gSub 9 (Zi 1))) (ak 10)) (aJ (cT (cU (aq gEq 2 (Zw [97,108,111,110,103]))) (aY (aq cI 8 (evUn gNeg (Zi 1))) (ak 10)) bM) (cT (evAndT (cU (aG gInDct (aq cI 7 (bB 9)) (bB 6))) (evAndT (cU (ao cJ (Zv 4 (Zv 10 aj)))) (cU (ao cJ (Zv 5 (aa (aq cI 7 (aq bN 9 (Zi 1))) aj)))))) (aY (aq bN 8 (aq gDget 6 (aq cI 7 (bB 9)))) (ak 8)) (aY (aq bN 8 (aq cI 7 (bB 9))) (ak 8)))))) (aZ (evSlS (aQ 8) (evP (Zi 1)) evNoP)))))))
def f_law_changed:LD:=b8 11 b_law_changed
def b_law_turned:cz:=K76.b_law_turned
def f_law_turned:LD:=b8 1 b_law_turned
def b_law_by_side:cz:=aJ (cT (cU (aq gEq 0 (Zw [114,105,103,104,116]))) (aZ (evRev (ao f_law_changed (aa (ao f_law_turned (Zv 1 aj)) (aa (evRev (aQ 2)) aj))))) bM) (aZ (ao f_law_changed (Zv 1 (Zv 2 aj))))
def f_law_by_side:LD:=b8 3 b_law_by_side
open Ev PySem L2
abbrev XS:=K06.XS
open K06 (XS_pos XS_len KvOk PV SG chOf prs one others putIt ch_tail key_in put1 take_eq PV_fst strsD_map)
theorem PV_str:∀x∈XS,∀p∈PV x,∃t,p.2 = .str t/\t.length<=1/\∀c∈t,c∈x:=by
 have h:(XS.all λx=>(PV x).all λp=>match p.2 with|.str t=>decide (t.length<=1/\∀c∈t,c∈x)|_=>false)=true:=by decide +kernel
 intro x hx p hp;have:=Qq5.mp (Qq5.mp h x hx) p hp;split at this
 ·rename_i t e;exact⟨t,e,Qq7 this⟩
 ·cases this
theorem sorted_of{x:List Nat}{kvs:List (D×D)}{zs:List Nat}(h:KvOk x kvs zs)(h4:zs.length<=4):gSorted [.dct kvs]=some (.lst ((sortX (zs.map λc=>[c])).map .str)):=by
 have e:kvs.map (·.1)=(zs.map λc=>[c]).map D.str:=by rw[h.keys,Qz4];rfl
 show(strsD (kvs.map (·.1))).bind _=_;rw[e,strsD_map];show(if _ then _ else _)=_;rw[if_pos];refine⟨by rw[Qqx];omega,λz hz=>?_⟩;obtain⟨c,_,rfl⟩:=Qq8.mp hz;show 1<=sizeLine
 decide
theorem chOf_eq{x:List Nat}{kvs:List (D×D)}{zs:List Nat}(h:KvOk x kvs zs)(h4:zs.length<=4):chOf kvs=some (.tup (prs kvs ((sortX (zs.map λc=>[c])).map D.str))):=by
 unfold chOf;rw[sorted_of h h4];simp only;rw[if_pos]
 ·rfl
 ·refine Qq5.mpr λk hk=>?_;obtain⟨c,v,_,e,_⟩:=key_in h k hk;rw[e];rfl
abbrev Pr:=Nat×List Nat
def encC(p:Pr):D:=.tup [.str [p.1],.str p.2]
inductive ChOk (x:List Nat):D->Prop
 | put {c:Nat}:c∈x->ChOk x (.tup [.tup [.str [],.str [c]]])
 | chg {ps:List Pr}:0<ps.length->ps.length<=4->(∀p∈ps,p.1∈x/\p.2.length<=1/\∀c∈p.2,c∈x)->ChOk x (.tup (ps.map encC))
theorem prs_enc{x:List Nat}{kvs:List (D×D)}(hx:x∈XS):∀(ks:List D),(∀k∈ks,∃c v,k = .str [c]/\gDget (.dct kvs) k=some v/\(c,v)∈PV x)->∃ps:List Pr,prs kvs ks=ps.map encC/\ps.length=ks.length/\∀p∈ps,p.1∈x/\p.2.length<=1/\∀c∈p.2,c∈x
 | [],_=>⟨[],rfl,rfl,λp hp=>by simp at hp⟩
 | k::ks,h=>by
  obtain⟨c,v,rfl,e,hv⟩:=h k (Qqz ..);obtain⟨t,et,ht⟩:=PV_str x hx _ hv;obtain⟨ps,e1,e2,e3⟩:=prs_enc hx ks λk hk=>h k (Qqj _ hk);refine⟨(c,t)::ps,?_,by rw[Qqk,Qqk,e2],λp hp=>?_⟩
  ·unfold prs at e1 ⊢;rw[Qwz,e1,e];have et':v = .str t:=et;rw[et']
   rfl
  ·rcases Qq3.mp hp with rfl|hp
   ·exact⟨PV_fst hv,ht⟩
   ·exact e3 p hp
structure RuleOk(x:List Nat)(w ch l r:D):Prop where
 way:w = .str [111,110,99,101]\/w = .str [97,108,111,110,103]
 chg:ChOk x ch
 left:l∈SG x
 right:r∈SG x
def fit(l:D)(a:Nat):Bool:=K06.isT (f_fits [l,.str [a]])
theorem fits_eq:∀x∈XS,∀l∈SG x,∀a∈35::x,f_fits [l,.str [a]]=some (.bl (fit l a)):=by
 have h:(XS.all λx=>(SG x).all λl=>(35::x).all λa=>(K06.isT (f_fits [l,.str [a]])||(match f_fits [l,.str [a]] with|some (.bl false)=>true|_=>false)))=true:=by decide +kernel
 intro x hx l hl a ha;have h1:=Qq5.mp (Qq5.mp (Qq5.mp h x hx) l hl) a ha;unfold fit;generalize f_fits [l,.str [a]]=o at h1;rcases Bool.or_eq_true_iff.mp h1 with h2|h2
 ·rw[h2];exact K06.isT_ok h2
 ·split at h2
  ·rfl
  ·cases h2
open K06 (SG stApp_eq)
theorem gAddS{a b:List Nat}(h:a.length+b.length<=100000):bN (.str a) (.str b)=some (.str (a++b)):=by show(if a.length+b.length<=sizeLine then _ else _)=_;rw[if_pos (Qqy h (by decide))]
theorem evAndT_eq{a b:EvT}{env:Ev.Env}{p q:Bool}(h1:a env = .ok p env)(h2:b env = .ok q env):evAndT a b env = .ok (p&&q) env:=by
 unfold evAndT;rw[h1];cases p with
 | true=>exact h2
 | false=>rfl
theorem join1{zs:List (List Nat)}(h1:zs.length<=80000)(h2:∀z∈zs,z.length<=2):gJoin (.str []) (.lst (zs.map .str))=some (.str zs.flatten):=by
 have hf:joinFits [] zs=true:=by refine Qw9 ?_;have:=K20.sum_le h2;show _+zs.length*0<=_;omega
 show(match strsD (zs.map D.str) with|some xs=>if joinFits [] xs=true then some (D.str (joinN [] xs)) else none|none=>none)=_;rw[K20.strsD_map];show(if joinFits [] zs=true then _ else _)=_;rw[if_pos hf,K20.joinN_nil]
theorem at_done{all done rest:List D}{d:D}(h:all=done++d::rest):all[done.length]? = some d:=by rw[h];simp
theorem getD_get{z:List Nat}{n:Nat}(h:n<z.length):z[n]? = some (z.getD n 0):=by rw[Qx8,Qzz h];rfl
theorem ix_at{z:List Nat}{n:Nat}(h:n<z.length):cI (.str z) (.int (n:Int))=some (.str [z.getD n 0]):=by
 show(atI z (n:Int)).map _=_;rw[atI_nat (getD_get h)]
 rfl
theorem sgs_at{z done rest:List _}{d:D}(h:sgs z=done++d::rest):d = .str [z.getD done.length 0]/\done.length<z.length:=by have h1:=at_done h;unfold sgs at h1;rw[Qxq] at h1;obtain⟨c,hc,rfl⟩:=Qq9.mp h1;have hl:done.length<z.length:=(Qq4.mp hc).1;rw[getD_get hl] at hc;cases hc;exact⟨rfl,hl⟩
theorem cut_last{α:Type}(xs:List α):cutD xs none (some (-1))=xs.dropLast:=by
 unfold cutD;have e1:HT.sIx xs.length xs.length (some (-1))=((-1:Int)+(xs.length:Int)).toNat:=rfl;have e2:HT.sIx xs.length 0 none=0:=rfl;rw[e1,e2,List.drop_zero,List.dropLast_eq_take]
 congr 1
 omega
theorem cutN_last(xs:List Nat):cutN xs none (some (-1))=xs.dropLast:=cut_last xs
abbrev ed(w:List Nat):List Nat:=35::(w++[35])
abbrev sg(w:List Nat)(n:Nat):Nat:=(ed w).getD n 0
section
variable{x w:List Nat}{l r:D}
theorem ed_len:(ed w).length=w.length+2:=by simp
theorem sg_mem(hw:∀c∈w,c∈x){n:Nat}(h:n<w.length+2):sg w n∈35::x:=by
 have h1:n<(ed w).length:=by rw[ed_len];exact h
 have:sg w n∈ed w:=Qz3 (getD_get h1);rcases Qq3.mp this with e|e
 ·rw[e];exact Qqz ..
 ·rcases Qw4.mp e with e|e
  ·exact Qqj _ (hw _ e)
  ·rw[Qq2.mp e];exact Qqz ..
def pc(l r:D)(c:Nat)(w:List Nat)(n:Nat):List (List Nat):=if (fit l (sg w n)&&fit r (sg w (n+1)))=true then [[c]] else []
def pin(l r:D)(c:Nat)(w:List Nat):Nat->List (List Nat)
 | 0=>[]
 | n+1=>pin l r c w n++(pc l r c w n++[[sg w (n+1)]])
theorem pc_le(c:Nat)(n:Nat):(pc l r c w n).length<=1/\∀z∈pc l r c w n,z.length=1:=by
 unfold pc;split
 ·exact⟨Qq0 _,λz hz=>by rw[Qq2.mp hz];rfl⟩
 ·exact⟨Qx3 _,λz hz=>by simp at hz⟩
theorem pin_le(c:Nat):∀n,(pin l r c w n).length<=2*n/\∀z∈pin l r c w n,z.length=1
 | 0=>⟨Qq0 _,λz hz=>by simp[pin] at hz⟩
 | n+1=>by
  obtain⟨h1,h2⟩:=pin_le c n;obtain⟨h3,h4⟩:=pc_le (l:=l) (r:=r) (w:=w) c n;unfold pin;refine⟨by rw[Qqq,Qqq,Qwq];omega,λz hz=>?_⟩;rcases Qw4.mp hz with hz|hz
  ·exact h2 z hz
  ·rcases Qw4.mp hz with hz|hz
   ·exact h4 z hz
   ·rw[Qq2.mp hz];rfl
theorem flat1{zs:List (List Nat)}(h:∀z∈zs,z.length=1):zs.flatten.length=zs.length:=by
 induction zs with
 | nil=>rfl
 | cons z t ih=>rw[List.flatten_cons,Qqq,h z (Qqz ..),ih λy hy=>h y (Qqj _ hy),Qqk];omega
def inn(l r:D)(c:Nat)(w:List Nat):List Nat:=(pin l r c w w.length++pc l r c w w.length).flatten
theorem pin_drop(c:Nat):(pin l r c w (w.length+1)).dropLast=pin l r c w w.length++pc l r c w w.length:=by show(pin l r c w w.length++(pc l r c w w.length++[[sg w (w.length+1)]])).dropLast=_;rw[<-Qw6,List.dropLast_concat]
theorem pin_flat(c:Nat):(pin l r c w (w.length+1)).flatten.dropLast=inn l r c w:=by show(pin l r c w w.length++(pc l r c w w.length++[[sg w (w.length+1)]])).flatten.dropLast=(pin l r c w w.length++pc l r c w w.length).flatten;rw[<-Qw6,Qjw (L₂:=[[sg w (w.length+1)]])];exact List.dropLast_concat
variable(hx:x∈XS)(hl:l∈SG x)(hr:r∈SG x)(hw:∀c∈w,c∈x)(hn:w.length<=30000)
def wpBody:cz:=K76.lb_with_put_in_1
include hx hl hr
theorem wp_body{c a s:Nat}(ha:a∈35::x)(hs:s∈35::x)(acc:List D)(hac:acc.length<=80000)(a0 a1 a2 a3:OD) :
  wpBody [a0,a1,a2,a3,Zf l,Zf r,Zs [c],Zl acc,Zs [a],Zs [s]] =
   .nx [a0,a1,a2,a3,Zf l,Zf r,Zs [c],Zl (acc++((if (fit l a&&fit r s)=true then [.str [c]] else [])++[.str [s]])),Zs [s],Zs [s]]:=by
 have t:evAndT (cU (ao f_fits (Zv 4 (Zv 8 aj)))) (cU (ao f_fits (Zv 5 (Zv 9 aj)))) [a0,a1,a2,a3,Zf l,Zf r,Zs [c],Zl acc,Zs [a],Zs [s]] = .ok (fit l a&&fit r s) [a0,a1,a2,a3,Zf l,Zf r,Zs [c],Zl acc,Zs [a],Zs [s]]:=
  evAndT_eq (cL (aF (ds:=[l,.str [a]]) rfl (fits_eq x hx l hl a ha))) (cL (aF (ds:=[r,.str [s]]) rfl (fits_eq x hx r hr s hs)))
 have tl:∀acc:List D,acc.length<=80001->aJ (stApp 7 (aQ 9)) (aY (aQ 9) (ak 8)) [a0,a1,a2,a3,Zf l,Zf r,Zs [c],Zl acc,Zs [a],Zs [s]] = .nx [a0,a1,a2,a3,Zf l,Zf r,Zs [c],Zl (acc++[.str [s]]),Zs [s],Zs [s]]:=λacc hac=>
  (aC (Ev.stAp1 (i:=7) (xs:=acc) (d:=.str [s]) (e:=[a0,a1,a2,a3,Zf l,Zf r,Zs [c],Zl acc,Zs [a],Zs [s]]) rfl rfl rfl (Qx4 hac (by decide)))).trans rfl
 unfold wpBody;cases hc:fit l a&&fit r s with
 | true=>
  rw[hc] at t;rw[if_pos rfl];refine(aC (e:=[a0,a1,a2,a3,Zf l,Zf r,Zs [c],Zl (acc++[.str [c]]),Zs [a],Zs [s]]) ?_).trans ?_
  ·exact(stIf_t t).trans ((Ev.stAp1 (i:=7) (xs:=acc) (d:=.str [c]) (e:=[a0,a1,a2,a3,Zf l,Zf r,Zs [c],Zl acc,Zs [a],Zs [s]]) rfl rfl rfl (Qx4 hac (by decide))).trans rfl)
  ·rw[tl _ (by rw[Qqq,Qwq];omega),Qw6]
 | false=>
  rw[hc] at t;rw[if_neg Qw8];exact(aC ((stIf_f t).trans rfl)).trans (tl acc (by omega))
theorem pin_map(c n:Nat):((pin l r c w (n+1)).map D.str)=(pin l r c w n).map D.str++((if (fit l (sg w n)&&fit r (sg w (n+1)))=true then [.str [c]] else [])++[.str [sg w (n+1)]]):=by show(pin l r c w n++(pc l r c w n++[[sg w (n+1)]])).map D.str=_;rw[Qxj,Qxj];unfold pc;split<;>rfl
include hw hn
theorem with_put_in(wy:D)(c:Nat):f_with_put_in [.tup [wy,.tup [.tup [.str [],.str [c]]],l,r],.str w]=some (.str (inn l r c w)):=by
 generalize hR:D.tup [wy,.tup [.tup [.str [],.str [c]]],l,r]=R;generalize hC:D.tup [.tup [.str [],.str [c]]]=ch;obtain⟨e',f1,hd,a9,rfl⟩:=forO_inv' (g:=ak 9) (b:=wpBody) (sgs (w++[35]))
  (λdone env=>done.length<=w.length+1/\∃a9,env=[Zf R,Zs w,Zf wy,Zf ch,Zf l,Zf r,Zs [c],Zl ((pin l r c w done.length).map .str),Zs [sg w done.length],a9])
  (λdone s rest hall env ⟨hd,a9,he⟩=>by
   subst he;obtain⟨rfl,hdl⟩:=sgs_at hall;have hdl':done.length<w.length+1:=by rw[Qqq,Qwq] at hdl;exact hdl
   have hp:=(pin_le (l:=l) (r:=r) (w:=w) c done.length).1;refine⟨_,_,rfl,wp_body hx hl hr (a:=sg w done.length) (s:=sg w (done.length+1)) (sg_mem (w:=w) hw (by omega)) (sg_mem (w:=w) hw (by omega)) _ (by rw[Qqx];omega) _ _ _ _,by rw[Qqq,Qwq];omega,Zs [sg w (done.length+1)],?_⟩;rw[Qqq,Qwq,pin_map hx hl hr])
  [Zf R,Zs w,Zf wy,Zf ch,Zf l,Zf r,Zs [c],Zl [],Zs [35],Zn] ⟨Qx3 _,Zn,rfl⟩
 have hlen:(sgs (w++[35])).length=w.length+1:=by unfold sgs;rw[Qqx,Qqq,Qwq]
 rw[hlen] at f1;have hp:=pin_le (l:=l) (r:=r) (w:=w) c (w.length+1);refine bV (env:=[Zf R,Zs w,Zf wy,Zf ch,Zf l,Zf r,Zs [c],Zf (.lst ((pin l r c w (w.length+1)).map .str)),Zs [sg w (w.length+1)],a9]) ?_;unfold b_with_put_in;refine(aC (e:=[Zf R,Zs w,Zf wy,Zf ch,Zf l,Zf r,Zn,Zn,Zn,Zn]) (by rw[<-hR,<-hC];rfl)).trans ?_;refine(aC (e:=[Zf R,Zs w,Zf wy,Zf ch,Zf l,Zf r,Zs [c],Zn,Zn,Zn]) (by rw[<-hC];rfl)).trans ?_;refine(aC (e:=[Zf R,Zs w,Zf wy,Zf ch,Zf l,Zf r,Zs [c],Zl [],Zn,Zn]) rfl).trans ?_;refine(aC (e:=[Zf R,Zs w,Zf wy,Zf ch,Zf l,Zf r,Zs [c],Zl [],Zs [35],Zn]) rfl).trans ?_;refine(aC ((stFor_eq (ds:=sgs (w++[35])) (e:=[Zf R,Zs w,Zf wy,Zf ch,Zf l,Zf r,Zs [c],Zl [],Zs [35],Zn]) ?_).trans f1)).trans ?_
 ·refine evIt_eq (d:=.str (w++[35])) (evBF (x:=.str w) (y:=.str [35]) rfl rfl rfl (gAddS (by show w.length+1<=100000;omega))) rfl
 ·refine bH (aN (x:=.str []) (e1:=_) rfl (y:=.lst ((pin l r c w w.length++pc l r c w w.length).map .str)) ?_ ?_)
  ·have ec:cutD ((pin l r c w (w.length+1)).map D.str) none (some (-1))=(pin l r c w w.length++pc l r c w w.length).map D.str:=by
    rw[cut_last,<-List.map_dropLast,pin_drop c]
   rw[<-ec]
   rfl
  ·rw[<-pin_drop c];unfold inn;rw[<-pin_drop c];refine join1 ?_ λz hz=>?_
   ·rw[List.length_dropLast];omega
   ·rw[hp.2 z (List.dropLast_subset _ hz)];decide
end
section
variable{x w:List Nat}{l r:D}
theorem rng2{j:Nat}(h:j<100000):rngD [.int 1,.int ((j+1:Nat):Int)]=some (cR 1 1 j):=by
 have hf:rngFits (((j+1:Nat):Int))=true:=by unfold rngFits;rw[Qwy];exact⟨Qw9 (by omega),Qw9 (by omega)⟩
 have e:(((j+1:Nat):Int) - 1).toNat=j:=by omega
 unfold rngD;simp only;rw[if_pos ⟨by decide,hf⟩,e]
theorem step_at{j:Nat}{done rest:List D}{d:D}(h:cR 1 1 j=done++d::rest):d = .int ((done.length+1:Nat):Int)/\done.length<j:=by
 obtain⟨h1,h2⟩:=stepsI_get (at_done h);refine⟨?_,h1⟩;rw[h2]
 congr 1
 omega
def lpBody:cz:=aJ (cT (evAndT (cU (ao cJ (aa (aq cI 0 (Zi 2)) (aa (aq cI 2 (aq gSub 4 (Zi 1))) aj)))) (cU (ao cJ (aa (aq cI 0 (Zi 3)) (aa (aq cI 2 (bB 4)) aj))))) (aY (aq bN 3 (aG cI (aG cI (aq cI 0 (Zi 1)) (Zi 0)) (Zi 1))) (ak 3)) bM) (aY (aq bN 3 (aq cI 2 (bB 4))) (ak 3))
theorem sub1(n:Nat):gSub (.int ((n+1:Nat):Int)) (.int 1)=some (.int (n:Int)):=by
 show some (D.int (((n+1:Nat):Int) - 1))=_
 congr 2
 omega
variable(hx:x∈XS)(hl:l∈SG x)(hr:r∈SG x)(hw:∀c∈w,c∈x)(hn:w.length<=30000)
include hx hl hr hw hn
theorem lp_body(wy:D)(c n:Nat)(hnn:n<w.length+1)(f:List Nat)(hf:f.length<=80000)(a1:OD) :
  lpBody [Zf (.tup [wy,.tup [.tup [.str [],.str [c]]],l,r]),a1,Zs (ed w),Zs f,Zf (.int ((n+1:Nat):Int))] =
   .nx [Zf (.tup [wy,.tup [.tup [.str [],.str [c]]],l,r]),a1,Zs (ed w),Zs (f++((pc l r c w n).flatten++[sg w (n+1)])),Zf (.int ((n+1:Nat):Int))]:=by
 have hp:=pc_le (l:=l) (r:=r) (w:=w) c n;have hpf:(pc l r c w n).flatten.length<=1:=by rw[flat1 hp.2];exact hp.1
 have i1:=ix_at (z:=ed w) (n:=n) (by rw[ed_len];omega);have i2:=ix_at (z:=ed w) (n:=n+1) (by rw[ed_len];omega);have g2:∀f,aq cI 2 (bB 4) [Zf (.tup [wy,.tup [.tup [.str [],.str [c]]],l,r]),a1,Zs (ed w),Zs f,Zf (.int ((n+1:Nat):Int))] = .ok (.str [sg w (n+1)]) [Zf (.tup [wy,.tup [.tup [.str [],.str [c]]],l,r]),a1,Zs (ed w),Zs f,Zf (.int ((n+1:Nat):Int))]:=λf=>
  evBF (x:=.str (ed w)) (y:=.int ((n+1:Nat):Int)) rfl rfl rfl i2
 have tl:∀f:List Nat,f.length<=80001->aY (aq bN 3 (aq cI 2 (bB 4))) (ak 3) [Zf (.tup [wy,.tup [.tup [.str [],.str [c]]],l,r]),a1,Zs (ed w),Zs f,Zf (.int ((n+1:Nat):Int))] = .nx [Zf (.tup [wy,.tup [.tup [.str [],.str [c]]],l,r]),a1,Zs (ed w),Zs (f++[sg w (n+1)]),Zf (.int ((n+1:Nat):Int))]:=λf hf=>
  bK (evBF (x:=.str f) rfl (g2 f) rfl (gAddS (by show f.length+1<=100000;omega))) rfl
 have t:evAndT (cU (ao cJ (aa (aq cI 0 (Zi 2)) (aa (aq cI 2 (aq gSub 4 (Zi 1))) aj)))) (cU (ao cJ (aa (aq cI 0 (Zi 3)) (aa (aq cI 2 (bB 4)) aj)))) [Zf (.tup [wy,.tup [.tup [.str [],.str [c]]],l,r]),a1,Zs (ed w),Zs f,Zf (.int ((n+1:Nat):Int))] = .ok (fit l (sg w n)&&fit r (sg w (n+1))) [Zf (.tup [wy,.tup [.tup [.str [],.str [c]]],l,r]),a1,Zs (ed w),Zs f,Zf (.int ((n+1:Nat):Int))]:=by
  refine evAndT_eq (cL (aF (ds:=[l,.str [sg w n]]) ?_ (fits_eq x hx l hl _ (sg_mem (w:=w) hw (by omega))))) (cL (aF (ds:=[r,.str [sg w (n+1)]]) ?_ (fits_eq x hx r hr _ (sg_mem (w:=w) hw (by omega)))))
  ·refine aD (d:=l) rfl (aD ?_ bA);exact evBF (x:=.str (ed w)) (y:=.int (n:Int)) rfl (evBF (x:=.int ((n+1:Nat):Int)) (y:=.int 1) rfl rfl rfl (sub1 n)) rfl i1
  ·exact aD (d:=r) rfl (aD (g2 f) bA)
 unfold lpBody;unfold pc at hpf ⊢;cases hc:fit l (sg w n)&&fit r (sg w (n+1)) with
 | true=>
  rw[hc] at t;rw[if_pos rfl];refine(aC (e:=[Zf (.tup [wy,.tup [.tup [.str [],.str [c]]],l,r]),a1,Zs (ed w),Zs (f++[c]),Zf (.int ((n+1:Nat):Int))]) ?_).trans ?_
  ·exact(stIf_t t).trans (bK (evBF (x:=.str f) (y:=.str [c]) rfl rfl rfl (gAddS (by show f.length+1<=100000;omega))) rfl)
  ·rw[tl _ (by rw[Qqq,Qwq];omega),Qw6]
   rfl
 | false=>
  rw[hc] at t;rw[if_neg Qw8];exact(aC ((stIf_f t).trans rfl)).trans (tl f (by omega))
theorem law_put_in(wy:D)(c:Nat):f_law_put_in [.tup [wy,.tup [.tup [.str [],.str [c]]],l,r],.str w]=some (.str (inn l r c w)):=by
 obtain⟨e',f1,hd,a9,rfl⟩:=forO_inv' (g:=ak 4) (b:=lpBody) (cR 1 1 (w.length+1))
  (λdone env=>done.length<=w.length+1/\∃a9,env=[Zf (.tup [wy,.tup [.tup [.str [],.str [c]]],l,r]),Zs w,Zs (ed w),Zs ((pin l r c w done.length).flatten),a9])
  (λdone s rest hall env ⟨hd,a9,he⟩=>by
   subst he;obtain⟨rfl,hdl⟩:=step_at hall;have hp:=pin_le (l:=l) (r:=r) (w:=w) c done.length;have hpf:=flat1 hp.2;refine⟨_,_,rfl,lp_body hx hl hr hw hn wy c done.length hdl _ (by rw[hpf];omega) _,by rw[Qqq,Qwq];omega,Zf (.int ((done.length+1:Nat):Int)),?_⟩;rw[Qqq,Qwq];show _=[_,_,_,Zs ((pin l r c w done.length++(pc l r c w done.length++[[sg w (done.length+1)]])).flatten),_];rw[Qjw,Qjw]
   rfl)
  [Zf (.tup [wy,.tup [.tup [.str [],.str [c]]],l,r]),Zs w,Zs (ed w),Zs [],Zn] ⟨Qx3 _,Zn,rfl⟩
 rw[stepsI_len] at f1;refine bV (env:=[Zf (.tup [wy,.tup [.tup [.str [],.str [c]]],l,r]),Zs w,Zs (ed w),Zs ((pin l r c w (w.length+1)).flatten),a9]) ?_;unfold b_law_put_in;refine(aC (e:=[Zf (.tup [wy,.tup [.tup [.str [],.str [c]]],l,r]),Zs w,Zs (ed w),Zn,Zn]) ?_).trans ?_
 ·refine bK (d:=.str (ed w)) (e:=[Zf (.tup [wy,.tup [.tup [.str [],.str [c]]],l,r]),Zs w,Zn,Zn,Zn]) ?_ rfl;refine aN (x:=.str ([35]++w)) (y:=.str [35]) (e1:=[Zf (.tup [wy,.tup [.tup [.str [],.str [c]]],l,r]),Zs w,Zn,Zn,Zn]) ?_ rfl (gAddS (by show w.length+1+1<=100000;omega));exact aN (x:=.str [35]) (y:=.str w) (e1:=[Zf (.tup [wy,.tup [.tup [.str [],.str [c]]],l,r]),Zs w,Zn,Zn,Zn]) rfl rfl (gAddS (by show 1+w.length<=100000;omega))
 refine(aC (e:=[Zf (.tup [wy,.tup [.tup [.str [],.str [c]]],l,r]),Zs w,Zs (ed w),Zs [],Zn]) rfl).trans ?_;refine(aC ((stFor_eq (ds:=cR 1 1 (w.length+1)) (e:=[Zf (.tup [wy,.tup [.tup [.str [],.str [c]]],l,r]),Zs w,Zs (ed w),Zs [],Zn]) ?_).trans f1)).trans ?_
 ·refine K20.evRng_eq (ds:=[.int 1,.int ((w.length+1+1:Nat):Int)]) ?_ (rng2 (by omega));refine aD (d:=.int 1) rfl (aD ?_ bA);refine aF (ds:=[.str (ed w)]) rfl ?_;show some (D.int ((ed w).length:Int))=_;rw[ed_len]
 ·refine bH ?_;rw[<-pin_flat c,<-cutN_last]
  rfl
end
def DOk(x:List Nat)(kvs:List (D×D)):Prop:=∀k v,(k,v)∈kvs->∃t:List Nat,v = .str t/\t.length<=1/\∀c∈t,c∈x
theorem DOk.put{x:List Nat}{kvs:List (D×D)}(h:DOk x kvs)(k:D)(q:Key)(t:List Nat)(h1:t.length<=1)(h2:∀c∈t,c∈x):DOk x (putD kvs k q (.str t)):=by
 intro k' v hm;unfold putD at hm;split at hm
 ·rcases K06.setD_mem hm with hm|⟨_,rfl⟩
  ·exact h k' v hm
  ·exact⟨t,rfl,h1,h2⟩
 ·rcases Qw4.mp hm with hm|hm
  ·exact h k' v hm
  ·cases Qq2.mp hm;exact⟨t,rfl,h1,h2⟩
theorem DOk.all{x:List Nat}:∀(ps:List Pr) (kvs:List (D×D)),DOk x kvs->(∀p∈ps,p.1∈x/\p.2.length<=1/\∀c∈p.2,c∈x)->DOk x (putAllD kvs (ps.map λp=>(.str [p.1],.str p.2)))
 | [],kvs,h,_=>h
 | p::ps,kvs,h,hp=>by
  have h1:=hp p (Qqz ..);exact DOk.all ps _ (h.put (.str [p.1]) (.inr (strOf [p.1])) p.2 h1.2.1 h1.2.2) λp hm=>hp p (Qqj _ hm)
theorem pairs_enc:∀(ps:List Pr),pairsD (ps.map encC)=some (ps.map λp=>(.str [p.1],.str p.2))
 | []=>rfl
 | p::ps=>by
  rw[Qwz];unfold pairsD;rw[pairs_enc ps]
  rfl
theorem dict_of{x:List Nat}{ps:List Pr}(hp:∀p∈ps,p.1∈x/\p.2.length<=1/\∀c∈p.2,c∈x):∃kvs,gDict [.tup (ps.map encC)]=some (.dct kvs)/\DOk x kvs:=by
 refine⟨putAllD [] (ps.map λp=>(.str [p.1],.str p.2)),?_,DOk.all ps [] (λk v h=>by simp at h) hp⟩;show(pairsD (ps.map encC)).map _=_;rw[pairs_enc]
 rfl
def look(kvs:List (D×D))(s:Nat):Option (List Nat):=match valD kvs (.inr (strOf [s])) with
 | some (.str t)=>some t
 | _=>none
theorem look_in{x:List Nat}{kvs:List (D×D)}(h:DOk x kvs)(s:Nat):gInDct (.str [s]) (.dct kvs)=some (.bl (look kvs s).isSome):=by
 show some (D.bl (valD kvs (.inr (strOf [s]))).isSome)=_;unfold look;cases e:valD kvs (.inr (strOf [s])) with
 | none=>rfl
 | some v=>
  obtain⟨k,hk,_⟩:=K06.valD_some e;obtain⟨t,rfl,_⟩:=h k v hk
  rfl
theorem look_get{x:List Nat}{kvs:List (D×D)}(h:DOk x kvs){s:Nat}{t:List Nat}(hs:look kvs s=some t):gDget (.dct kvs) (.str [s])=some (.str t)/\t.length<=1/\∀c∈t,c∈x:=by
 unfold look at hs;split at hs
 ·rename_i u e;cases hs;obtain⟨k,hk,_⟩:=K06.valD_some e;obtain⟨t',h1,h2⟩:=h k _ hk;cases h1;exact⟨e,h2⟩
 ·cases hs
section
variable{x w:List Nat}{l r:D}{kvs:List (D×D)}
def nw(kvs:List (D×D))(l r:D)(w:List Nat)(near n:Nat):List Nat:=if ((look kvs (sg w (n+1))).isSome&&(fit l near&&fit r (sg w (n+2))))=true then (look kvs (sg w (n+1))).getD [] else [sg w (n+1)]
def nearOf(al:Bool)(w:List Nat)(made:List (List Nat))(n:Nat):Nat:=if al=true then (35::made.flatten).getLastD 0 else sg w n
def cg(al:Bool)(kvs:List (D×D))(l r:D)(w:List Nat):Nat->List (List Nat)
 | 0=>[]
 | n+1=>cg al kvs l r w n++[nw kvs l r w (nearOf al w (cg al kvs l r w n) n) n]
theorem sg_in(hw:∀c∈w,c∈x){n:Nat}(h:n<w.length):sg w (n+1)=w.getD n 0/\sg w (n+1)∈x:=by
 have e:sg w (n+1)=w.getD n 0:=by show(w++[35]).getD n 0=_;rw[Qx8,Qx8,Qw3 h]
 exact⟨e,by rw[e];exact hw _ (Qz3 (getD_get h))⟩
theorem nw_ok(hk:DOk x kvs)(hw:∀c∈w,c∈x){n:Nat}(h:n<w.length)(near:Nat):(nw kvs l r w near n).length<=1/\∀c∈nw kvs l r w near n,c∈x:=by
 unfold nw;split
 ·cases e:look kvs (sg w (n+1)) with
  | none=>exact⟨Qx3 _,λc hc=>by simp at hc⟩
  | some t=>exact(look_get hk e).2
 ·exact⟨Qq0 _,λc hc=>by rw[Qq2.mp hc];exact(sg_in hw h).2⟩
theorem cg_ok(al:Bool)(hk:DOk x kvs)(hw:∀c∈w,c∈x):∀n,n<=w.length->(cg al kvs l r w n).length=n/\∀z∈cg al kvs l r w n,z.length<=1/\∀c∈z,c∈x
 | 0,_=>⟨rfl,λz hz=>by simp[cg] at hz⟩
 | n+1,h=>by
  obtain⟨h1,h2⟩:=cg_ok al hk hw n (by omega);unfold cg;refine⟨by rw[Qqq,Qwq,h1],λz hz=>?_⟩;rcases Qw4.mp hz with hz|hz
  ·exact h2 z hz
  ·rw[Qq2.mp hz];exact nw_ok hk hw (by omega) _
theorem cg_flat(al:Bool)(hk:DOk x kvs)(hw:∀c∈w,c∈x){n:Nat}(h:n<=w.length):(cg al kvs l r w n).flatten.length<=n:=by obtain⟨h1,h2⟩:=cg_ok (l:=l) (r:=r) al hk hw n h;rw[List.length_flatten];have:=K20.sum_le (zs:=cg al kvs l r w n) (k:=1) λz hz=>(h2 z hz).1;omega
theorem last_mem:∀(a:Nat) (z:List Nat),(a::z).getLastD 0∈a::z
 | a,[]=>Qqz ..
 | a,b::z=>Qqj _ (last_mem b z)
theorem near_mem(al:Bool)(hk:DOk x kvs)(hw:∀c∈w,c∈x){n:Nat}(h:n<=w.length):nearOf al w (cg al kvs l r w n) n∈35::x:=by
 unfold nearOf;split
 ·rcases Qq3.mp (last_mem 35 (cg al kvs l r w n).flatten) with e|e
  ·rw[e];exact Qqz ..
  ·obtain⟨z,hz,hc⟩:=List.mem_flatten.mp e;exact Qqj _ (((cg_ok (l:=l) (r:=r) al hk hw n h).2 z hz).2 _ hc)
 ·exact sg_mem hw (by omega)
theorem add1(n:Nat):bN (.int (n:Int)) (.int 1)=some (.int ((n+1:Nat):Int)):=rfl
theorem ix_last(a:Nat)(z:List Nat):cI (.str (a::z)) (.int (-1))=some (.str [(a::z).getLastD 0]):=by
 have e:atI (a::z) (-1)=some ((a::z).getLastD 0):=by
  unfold atI ixN;rw[if_neg (by decide),if_pos (by rw[Qqk];omega)];show(a::z)[((-1:Int)+((a::z).length:Int)).toNat]? = _;have e1:((-1:Int)+((a::z).length:Int)).toNat=(a::z).length - 1:=by rw[Qqk];omega
  rw[e1,<-List.getLast?_eq_getElem?]
  rfl
 show(atI (a::z) (-1)).map _=_;rw[e]
 rfl
theorem cut_tail(a:Nat)(z:List Nat):cutN (a::z) (some 1) none=z:=by
 unfold cutN;have e1:HT.sIx (a::z).length (a::z).length none=z.length+1:=rfl;have e2:HT.sIx (a::z).length 0 (some 1)=1:=by show min 1 (z.length+1)=1;omega
 rw[e1,e2];show z.take (z.length+1 - 1)=z;exact List.take_of_length_le (by omega)
theorem near_along(made:List (List Nat))(t:List Nat)(n:Nat)(h:t.length<=1):nearOf true w (made++[t]) (n+1)=if t=[] then nearOf true w made n else t.headD 0:=by
 unfold nearOf;rw[if_pos rfl,if_pos rfl]
 match t,h with
 | [],_=>rw[if_pos rfl];simp
 | [a],_=>
  rw[if_neg (by simp)];rw[Qjw];have:∀(b:Nat) (z:List Nat),(b::(z++[a])).getLastD 0=a:=by
   intro b z
   induction z generalizing b with
   | nil=>rfl
   | cons c z ih=>exact ih c
  exact this 35 _
def cD(al:Bool):D:=if al=true then .str [97,108,111,110,103] else .str [111,110,99,101]
def wcBody:cz:=K76.lb_with_changes_1
variable(hx:x∈XS)(hl:l∈SG x)(hr:r∈SG x)(hw:∀c∈w,c∈x)(hn:w.length<=30000)(hk:DOk x kvs)
include hx hl hr hw hn hk
theorem wc_body(al:Bool)(n:Nat)(hnn:n<w.length)(a0 a1 a3 a12:OD) :
  ∃b12,wcBody [a0,a1,Zf (cD al),a3,Zf l,Zf r,Zf (.dct kvs),Zs (w++[35]),Zl ((cg al kvs l r w n).map .str),Zs [nearOf al w (cg al kvs l r w n) n],Zf (.int (n:Int)),Zs [sg w (n+1)],a12] =
   .nx [a0,a1,Zf (cD al),a3,Zf l,Zf r,Zf (.dct kvs),Zs (w++[35]),Zl ((cg al kvs l r w (n+1)).map .str),Zs [nearOf al w (cg al kvs l r w (n+1)) (n+1)],Zf (.int (n:Int)),Zs [sg w (n+1)],b12]:=by
 have hcl:=(cg_ok (l:=l) (r:=r) al hk hw n (by omega)).1;have hnm:=near_mem (l:=l) (r:=r) al hk hw (n:=n) (by omega);have hno:=nw_ok (l:=l) (r:=r) hk hw hnn (nearOf al w (cg al kvs l r w n) n);have hcg:cg al kvs l r w (n+1)=cg al kvs l r w n++[nw kvs l r w (nearOf al w (cg al kvs l r w n) n) n]:=rfl;have i2:=ix_at (z:=w++[35]) (n:=n+1) (by rw[Qqq,Qwq];omega);have h2m:sg w (n+2)∈35::x:=sg_mem hw (by omega);rw[hcg];generalize hM:cg al kvs l r w n=made at *;generalize hN:nearOf al w made n=near at *;have hnw:nw kvs l r w near n=if ((look kvs (sg w (n+1))).isSome&&(fit l near&&fit r (sg w (n+2))))=true then (look kvs (sg w (n+1))).getD [] else [sg w (n+1)]:=rfl
 generalize hT:nw kvs l r w near n=t at *;refine⟨Zs t,?_⟩;unfold wcBody;refine(aC (e:=[a0,a1,Zf (cD al),a3,Zf l,Zf r,Zf (.dct kvs),Zs (w++[35]),Zl (made.map .str),Zs [near],Zf (.int (n:Int)),Zs [sg w (n+1)],Zs [sg w (n+1)]]) rfl).trans ?_;refine(aC (e:=[a0,a1,Zf (cD al),a3,Zf l,Zf r,Zf (.dct kvs),Zs (w++[35]),Zl (made.map .str),Zs [near],Zf (.int (n:Int)),Zs [sg w (n+1)],Zs t]) ?_).trans ?_
 ·have tt:evAndT (cU (aq gInDct 11 (bB 6))) (evAndT (cU (ao f_fits (Zv 4 (Zv 9 aj)))) (cU (ao f_fits (Zv 5 (aa (aq cI 7 (aq bN 10 (Zi 1))) aj))))) [a0,a1,Zf (cD al),a3,Zf l,Zf r,Zf (.dct kvs),Zs (w++[35]),Zl (made.map .str),Zs [near],Zf (.int (n:Int)),Zs [sg w (n+1)],Zs [sg w (n+1)]] = .ok ((look kvs (sg w (n+1))).isSome&&(fit l near&&fit r (sg w (n+2)))) [a0,a1,Zf (cD al),a3,Zf l,Zf r,Zf (.dct kvs),Zs (w++[35]),Zl (made.map .str),Zs [near],Zf (.int (n:Int)),Zs [sg w (n+1)],Zs [sg w (n+1)]]:=by
   refine evAndT_eq (cL (evBF (x:=.str [sg w (n+1)]) (y:=.dct kvs) rfl rfl rfl (look_in hk _))) (evAndT_eq (cL (aF (ds:=[l,.str [near]]) rfl (fits_eq x hx l hl _ hnm))) (cL (aF (ds:=[r,.str [sg w (n+2)]]) ?_ (fits_eq x hx r hr _ h2m))));refine aD (d:=r) rfl (aD ?_ bA);exact evBF (x:=.str (w++[35])) (y:=.int ((n+1:Nat):Int)) rfl (evBF (x:=.int (n:Int)) (y:=.int 1) rfl rfl rfl (add1 n)) rfl i2
  cases hc:(look kvs (sg w (n+1))).isSome&&(fit l near&&fit r (sg w (n+2))) with
  | true=>
   rw[hc] at tt hnw;rw[if_pos rfl] at hnw;obtain⟨u,hu⟩:=Qxv.mp (Qzv.mp hc).1;rw[hu] at hnw;cases hnw;exact(stIf_t tt).trans (bK (evBF (x:=.dct kvs) (y:=.str [sg w (n+1)]) rfl rfl rfl (look_get hk hu).1) rfl)
  | false=>
   rw[hc] at tt hnw;rw[if_neg Qw8] at hnw;rw[hnw];exact(stIf_f tt).trans rfl
 refine(aC (e:=[a0,a1,Zf (cD al),a3,Zf l,Zf r,Zf (.dct kvs),Zs (w++[35]),Zl ((made++[t]).map .str),Zs [near],Zf (.int (n:Int)),Zs [sg w (n+1)],Zs t]) ?_).trans ?_
 ·rw[Qxj];exact(Ev.stAp1 (i:=8) (xs:=made.map .str) (d:=.str t) (e:=[a0,a1,Zf (cD al),a3,Zf l,Zf r,Zf (.dct kvs),Zs (w++[35]),Zl (made.map .str),Zs [near],Zf (.int (n:Int)),Zs [sg w (n+1)],Zs t]) rfl rfl rfl (by rw[Qqx,hcl];exact Qx4 (show n<=30000 by omega) (by decide))).trans rfl
 cases al with
 | false=>exact(stIf_t (e:=_) rfl).trans rfl
 | true=>
  refine(stIf_f (e:=_) rfl).trans ?_;rw[near_along made t n hno.1,hN]
  match t,hno.1 with
  | [],_=>exact(stIf_f (e:=_) rfl).trans rfl
  | [a],_=>exact(stIf_t (e:=_) rfl).trans rfl
theorem enum_at{done rest:List D}{d:D}(h:enumD w=done++d::rest):d = .tup [.int (done.length:Int),.str [sg w (done.length+1)]]/\done.length<w.length:=by have h1:=at_done h;unfold enumD at h1;rw[Qxq] at h1;obtain⟨p,hp,rfl⟩:=Qq9.mp h1;rw[List.getElem?_zipIdx] at hp;obtain⟨c,hc,rfl⟩:=Qq9.mp hp;have hl:done.length<w.length:=(Qq4.mp hc).1;rw[getD_get hl] at hc;cases hc;refine⟨?_,hl⟩;rw[(sg_in hw hl).1,Nat.zero_add]
def out(al:Bool)(kvs:List (D×D))(l r:D)(w:List Nat):List Nat:=(cg al kvs l r w w.length).flatten
theorem with_changes(al:Bool)(ch:D)(hd:gDict [ch]=some (.dct kvs)):f_with_changes [.tup [cD al,ch,l,r],.str w]=some (.str (out al kvs l r w)):=by
 generalize hR:D.tup [cD al,ch,l,r]=R;obtain⟨e',f1,hdl,a10,a11,a12,rfl⟩:=forO_inv' (g:=gvTup 2 (aV (ak 10) (aV (ak 11) gvNil))) (b:=wcBody) (enumD w)
  (λdone env=>done.length<=w.length/\∃a10 a11 a12,env=[Zf R,Zs w,Zf (cD al),Zf ch,Zf l,Zf r,Zf (.dct kvs),Zs (w++[35]),Zl ((cg al kvs l r w done.length).map .str),Zs [nearOf al w (cg al kvs l r w done.length) done.length],a10,a11,a12])
  (λdone s rest hall env ⟨hdl,a10,a11,a12,he⟩=>by
   subst he;obtain⟨rfl,hdl⟩:=enum_at hx hl hr hw hn hk hall;obtain⟨b12,hb⟩:=wc_body hx hl hr hw hn hk al done.length hdl (Zf R) (Zs w) (Zf ch) a12;refine⟨_,_,rfl,hb,by rw[Qqq,Qwq];omega,Zf (.int (done.length:Int)),Zs [sg w (done.length+1)],b12,?_⟩;rw[Qqq,Qwq])
  [Zf R,Zs w,Zf (cD al),Zf ch,Zf l,Zf r,Zf (.dct kvs),Zs (w++[35]),Zl [],Zs [35],Zn,Zn,Zn] ⟨Qx3 _,Zn,Zn,Zn,by cases al<;>rfl⟩
 have hlen:(enumD w).length=w.length:=by unfold enumD;rw[Qqx,List.length_zipIdx]
 rw[hlen] at f1;have hok:=cg_ok (l:=l) (r:=r) al hk hw w.length (Qq0 _);refine bV (env:=[Zf R,Zs w,Zf (cD al),Zf ch,Zf l,Zf r,Zf (.dct kvs),Zs (w++[35]),Zl ((cg al kvs l r w w.length).map .str),Zs [nearOf al w (cg al kvs l r w w.length) w.length],a10,a11,a12]) ?_;unfold b_with_changes;refine(aC (e:=[Zf R,Zs w,Zf (cD al),Zf ch,Zf l,Zf r,Zn,Zn,Zn,Zn,Zn,Zn,Zn]) (by rw[<-hR];rfl)).trans ?_;refine(aC (e:=[Zf R,Zs w,Zf (cD al),Zf ch,Zf l,Zf r,Zf (.dct kvs),Zn,Zn,Zn,Zn,Zn,Zn]) ?_).trans ?_
 ·exact bK (e:=[Zf R,Zs w,Zf (cD al),Zf ch,Zf l,Zf r,Zn,Zn,Zn,Zn,Zn,Zn,Zn]) (aF (ds:=[ch]) rfl hd) rfl
 refine(aC (e:=[Zf R,Zs w,Zf (cD al),Zf ch,Zf l,Zf r,Zf (.dct kvs),Zs (w++[35]),Zn,Zn,Zn,Zn,Zn]) ?_).trans ?_
 ·exact bK (d:=.str (w++[35])) (e:=[Zf R,Zs w,Zf (cD al),Zf ch,Zf l,Zf r,Zf (.dct kvs),Zn,Zn,Zn,Zn,Zn,Zn]) (evBF (x:=.str w) (y:=.str [35]) rfl rfl rfl (gAddS (by show w.length+1<=100000;omega))) rfl
 refine(aC (e:=[Zf R,Zs w,Zf (cD al),Zf ch,Zf l,Zf r,Zf (.dct kvs),Zs (w++[35]),Zl [],Zn,Zn,Zn,Zn]) rfl).trans ?_;refine(aC (e:=[Zf R,Zs w,Zf (cD al),Zf ch,Zf l,Zf r,Zf (.dct kvs),Zs (w++[35]),Zl [],Zs [35],Zn,Zn,Zn]) rfl).trans ?_;refine(aC ((stFor_eq (ds:=enumD w) (e:=[Zf R,Zs w,Zf (cD al),Zf ch,Zf l,Zf r,Zf (.dct kvs),Zs (w++[35]),Zl [],Zs [35],Zn,Zn,Zn]) rfl).trans f1)).trans ?_;refine bH (aN (x:=.str []) rfl (y:=.lst ((cg al kvs l r w w.length).map .str)) rfl ?_);exact join1 (by rw[hok.1];omega) λz hz=>Qqy (hok.2 z hz).1 (by decide)
theorem out_ok(al:Bool):(∀c∈out al kvs l r w,c∈x)/\(out al kvs l r w).length<=2*w.length+1:=by
 unfold out;refine⟨λc hc=>?_,?_⟩
 ·obtain⟨z,hz,hcz⟩:=List.mem_flatten.mp hc;exact((cg_ok (l:=l) (r:=r) al hk hw w.length (Qq0 _)).2 z hz).2 c hcz
 ·have:=cg_flat (l:=l) (r:=r) al hk hw (n:=w.length) (Qq0 _);omega
end
section
variable{x w:List Nat}{l r:D}
theorem pc_in{c:Nat}(hc:c∈x)(n:Nat):∀z∈pc l r c w n,∀d∈z,d∈x:=by
 unfold pc;split
 ·intro z hz d hd;rw[Qq2.mp hz] at hd;rw[Qq2.mp hd];exact hc
 ·intro z hz;simp at hz
theorem pin_in{c:Nat}(hc:c∈x)(hw:∀c∈w,c∈x):∀n,n<=w.length->∀z∈pin l r c w n,∀d∈z,d∈x
 | 0,_=>λz hz=>by simp[pin] at hz
 | n+1,h=>by
  intro z hz d hd;unfold pin at hz;rcases Qw4.mp hz with hz|hz
  ·exact pin_in hc hw n (by omega) z hz d hd
  ·rcases Qw4.mp hz with hz|hz
   ·exact pc_in hc n z hz d hd
   ·rw[Qq2.mp hz] at hd;rw[Qq2.mp hd];exact(sg_in hw (by omega)).2
theorem inn_ok{c:Nat}(hc:c∈x)(hw:∀c∈w,c∈x):(∀d∈inn l r c w,d∈x)/\(inn l r c w).length<=2*w.length+1:=by
 unfold inn;refine⟨λd hd=>?_,?_⟩
 ·obtain⟨z,hz,hdz⟩:=List.mem_flatten.mp hd;rcases Qw4.mp hz with hz|hz
  ·exact pin_in hc hw w.length (Qq0 _) z hz d hdz
  ·exact pc_in hc _ z hz d hdz
 ·have h1:=pin_le (l:=l) (r:=r) (w:=w) c w.length;have h2:=pc_le (l:=l) (r:=r) (w:=w) c w.length;rw[flat1 λz hz=>(Qw4.mp hz).elim (h1.2 z) (h2.2 z),Qqq];omega
end
section
variable{x w:List Nat}{l r:D}{kvs:List (D×D)}
def lcBody:cz:=aJ (aY (aq cI 7 (aq gSub 9 (Zi 1))) (ak 10)) (aJ (cT (cU (aq gEq 2 (Zw [97,108,111,110,103]))) (aY (aq cI 8 (evUn gNeg (Zi 1))) (ak 10)) bM) (cT (evAndT (cU (aG gInDct (aq cI 7 (bB 9)) (bB 6))) (evAndT (cU (ao cJ (Zv 4 (Zv 10 aj)))) (cU (ao cJ (Zv 5 (aa (aq cI 7 (aq bN 9 (Zi 1))) aj)))))) (aY (aq bN 8 (aq gDget 6 (aq cI 7 (bB 9)))) (ak 8)) (aY (aq bN 8 (aq cI 7 (bB 9))) (ak 8))))
variable(hx:x∈XS)(hl:l∈SG x)(hr:r∈SG x)(hw:∀c∈w,c∈x)(hn:w.length<=30000)(hk:DOk x kvs)
include hx hl hr hw hn hk
theorem lc_body(al:Bool)(n:Nat)(hnn:n<w.length)(a0 a1 a3 a10:OD) :
  ∃b10,lcBody [a0,a1,Zf (cD al),a3,Zf l,Zf r,Zf (.dct kvs),Zs (ed w),Zs (35::(cg al kvs l r w n).flatten),Zf (.int ((n+1:Nat):Int)),a10] =
   .nx [a0,a1,Zf (cD al),a3,Zf l,Zf r,Zf (.dct kvs),Zs (ed w),Zs (35::(cg al kvs l r w (n+1)).flatten),Zf (.int ((n+1:Nat):Int)),b10]:=by
 have hcl:=cg_flat (l:=l) (r:=r) al hk hw (n:=n) (by omega);have hnm:=near_mem (l:=l) (r:=r) al hk hw (n:=n) (by omega);have hno:=nw_ok (l:=l) (r:=r) hk hw hnn (nearOf al w (cg al kvs l r w n) n);have hcg:cg al kvs l r w (n+1)=cg al kvs l r w n++[nw kvs l r w (nearOf al w (cg al kvs l r w n) n) n]:=rfl;have i0:=ix_at (z:=ed w) (n:=n) (by rw[ed_len];omega);have i1:=ix_at (z:=ed w) (n:=n+1) (by rw[ed_len];omega);have i2:=ix_at (z:=ed w) (n:=n+2) (by rw[ed_len];omega);have h2m:sg w (n+2)∈35::x:=sg_mem hw (by omega);rw[hcg,Qjw];generalize hM:cg al kvs l r w n=made at *;have hnr:nearOf al w made n=if al=true then (35::made.flatten).getLastD 0 else sg w n:=rfl
 generalize hN:nearOf al w made n=near at *;have hnw:nw kvs l r w near n=if ((look kvs (sg w (n+1))).isSome&&(fit l near&&fit r (sg w (n+2))))=true then (look kvs (sg w (n+1))).getD [] else [sg w (n+1)]:=rfl
 generalize hT:nw kvs l r w near n=t at *;generalize hF:made.flatten=f at *;refine⟨Zs [near],?_⟩;unfold lcBody;refine(aC (e:=[a0,a1,Zf (cD al),a3,Zf l,Zf r,Zf (.dct kvs),Zs (ed w),Zs (35::f),Zf (.int ((n+1:Nat):Int)),Zs [sg w n]]) ?_).trans ?_
 ·exact bK (evBF (x:=.str (ed w)) (y:=.int (n:Int)) (e2:=[a0,a1,Zf (cD al),a3,Zf l,Zf r,Zf (.dct kvs),Zs (ed w),Zs (35::f),Zf (.int ((n+1:Nat):Int)),a10]) rfl (evBF (x:=.int ((n+1:Nat):Int)) (y:=.int 1) rfl rfl rfl (sub1 n)) rfl i0) rfl
 refine(aC (e:=[a0,a1,Zf (cD al),a3,Zf l,Zf r,Zf (.dct kvs),Zs (ed w),Zs (35::f),Zf (.int ((n+1:Nat):Int)),Zs [near]]) ?_).trans ?_
 ·cases al with
  | false=>
   rw[if_neg Qw8] at hnr;rw[hnr];exact(stIf_f (e:=_) rfl).trans rfl
  | true=>
   rw[if_pos rfl] at hnr;rw[hnr];exact(stIf_t (e:=_) rfl).trans (bK (evBF (x:=.str (35::f)) (y:=.int (-1)) rfl rfl rfl (ix_last 35 f)) rfl)
 have g1:aq cI 7 (bB 9) [a0,a1,Zf (cD al),a3,Zf l,Zf r,Zf (.dct kvs),Zs (ed w),Zs (35::f),Zf (.int ((n+1:Nat):Int)),Zs [near]] = .ok (.str [sg w (n+1)]) [a0,a1,Zf (cD al),a3,Zf l,Zf r,Zf (.dct kvs),Zs (ed w),Zs (35::f),Zf (.int ((n+1:Nat):Int)),Zs [near]]:=
  evBF (x:=.str (ed w)) (y:=.int ((n+1:Nat):Int)) rfl rfl rfl i1
 have tt:evAndT (cU (aG gInDct (aq cI 7 (bB 9)) (bB 6))) (evAndT (cU (ao cJ (Zv 4 (Zv 10 aj)))) (cU (ao cJ (Zv 5 (aa (aq cI 7 (aq bN 9 (Zi 1))) aj))))) [a0,a1,Zf (cD al),a3,Zf l,Zf r,Zf (.dct kvs),Zs (ed w),Zs (35::f),Zf (.int ((n+1:Nat):Int)),Zs [near]] = .ok ((look kvs (sg w (n+1))).isSome&&(fit l near&&fit r (sg w (n+2)))) [a0,a1,Zf (cD al),a3,Zf l,Zf r,Zf (.dct kvs),Zs (ed w),Zs (35::f),Zf (.int ((n+1:Nat):Int)),Zs [near]]:=by refine evAndT_eq (cL (aN (y:=.dct kvs) g1 rfl (look_in hk _))) (evAndT_eq (cL (aF (ds:=[l,.str [near]]) rfl (fits_eq x hx l hl _ hnm))) (cL (aF (ds:=[r,.str [sg w (n+2)]]) ?_ (fits_eq x hx r hr _ h2m))));refine aD (d:=r) rfl (aD ?_ bA);exact evBF (x:=.str (ed w)) (y:=.int ((n+2:Nat):Int)) rfl (evBF (x:=.int ((n+1:Nat):Int)) (y:=.int 1) rfl rfl rfl (add1 (n+1))) rfl i2
 have hfl:(35::f).length+t.length<=100000:=by rw[Qqk];have:=hno.1;omega
 cases hc:(look kvs (sg w (n+1))).isSome&&(fit l near&&fit r (sg w (n+2))) with
 | true=>
  rw[hc] at tt hnw;rw[if_pos rfl] at hnw;obtain⟨u,hu⟩:=Qxv.mp (Qzv.mp hc).1;rw[hu] at hnw;have hnw':t=u:=hnw;have hfu:[t].flatten=u:=by rw[hnw'];simp
  rw[hfu];rw[hnw'] at hfl;exact(stIf_t tt).trans (bK (evBF (x:=.str (35::f)) (y:=.str u) rfl (evBF (x:=.dct kvs) (y:=.str [sg w (n+1)]) rfl g1 rfl (look_get hk hu).1) rfl (gAddS hfl)) rfl)
 | false=>
  rw[hc] at tt hnw;rw[if_neg Qw8] at hnw;have hfu:[t].flatten=[sg w (n+1)]:=by rw[hnw];rfl
  rw[hfu];rw[hnw] at hfl;exact(stIf_f tt).trans (bK (evBF (x:=.str (35::f)) (y:=.str [sg w (n+1)]) rfl g1 rfl (gAddS hfl)) rfl)
theorem law_changed_c(al:Bool)(ps:List Pr)(hps:0<ps.length)(hd:gDict [.tup (ps.map encC)]=some (.dct kvs)):f_law_changed [.tup [cD al,.tup (ps.map encC),l,r],.str w]=some (.str (out al kvs l r w)):=by
 have t0:∀a0 a1 a2 a4 a5,cU (aG gEq (aG cI (aq cI 3 (Zi 0)) (Zi 0)) (Zw [])) [a0,a1,a2,Zf (.tup (ps.map encC)),a4,a5,Zn,Zn,Zn,Zn,Zn] = .ok false [a0,a1,a2,Zf (.tup (ps.map encC)),a4,a5,Zn,Zn,Zn,Zn,Zn]:=by
  intro a0 a1 a2 a4 a5
  match ps,hps with
  | p::ps,_=>
   refine cL (aN (x:=.str [p.1]) (y:=.str []) (e1:=[a0,a1,a2,Zf (.tup ((p::ps).map encC)),a4,a5,Zn,Zn,Zn,Zn,Zn]) ?_ rfl rfl);refine aN (x:=encC p) (y:=.int 0) (e1:=[a0,a1,a2,Zf (.tup ((p::ps).map encC)),a4,a5,Zn,Zn,Zn,Zn,Zn]) ?_ rfl rfl;exact evBF (x:=.tup ((p::ps).map encC)) (y:=.int 0) rfl rfl rfl (atI_nat (xs:=(p::ps).map encC) (j:=0) (v:=encC p) rfl)
 generalize hC:D.tup (ps.map encC)=ch at *;generalize hR:D.tup [cD al,ch,l,r]=R;obtain⟨e',f1,hdl,a9,a10,rfl⟩:=forO_inv' (g:=ak 9) (b:=lcBody) (cR 1 1 w.length)
  (λdone env=>done.length<=w.length/\∃a9 a10,env=[Zf R,Zs w,Zf (cD al),Zf ch,Zf l,Zf r,Zf (.dct kvs),Zs (ed w),Zs (35::(cg al kvs l r w done.length).flatten),a9,a10])
  (λdone s rest hall env ⟨hdl,a9,a10,he⟩=>by
   subst he;obtain⟨rfl,hdl⟩:=step_at hall;obtain⟨b10,hb⟩:=lc_body hx hl hr hw hn hk al done.length hdl (Zf R) (Zs w) (Zf ch) a10;refine⟨_,_,rfl,hb,by rw[Qqq,Qwq];omega,Zf (.int ((done.length+1:Nat):Int)),b10,?_⟩;rw[Qqq,Qwq])
  [Zf R,Zs w,Zf (cD al),Zf ch,Zf l,Zf r,Zf (.dct kvs),Zs (ed w),Zs [35],Zn,Zn] ⟨Qx3 _,Zn,Zn,rfl⟩
 rw[stepsI_len] at f1;refine bV (env:=[Zf R,Zs w,Zf (cD al),Zf ch,Zf l,Zf r,Zf (.dct kvs),Zs (ed w),Zs (35::(cg al kvs l r w w.length).flatten),a9,a10]) ?_;unfold b_law_changed;refine(aC (e:=[Zf R,Zs w,Zf (cD al),Zf ch,Zf l,Zf r,Zn,Zn,Zn,Zn,Zn]) (by rw[<-hR];rfl)).trans ?_;refine(aC (e:=[Zf R,Zs w,Zf (cD al),Zf ch,Zf l,Zf r,Zn,Zn,Zn,Zn,Zn]) ((stIf_f (t0 _ _ _ _ _)).trans rfl)).trans ?_;refine(aC (e:=[Zf R,Zs w,Zf (cD al),Zf ch,Zf l,Zf r,Zf (.dct kvs),Zn,Zn,Zn,Zn]) ?_).trans ?_
 ·exact bK (e:=[Zf R,Zs w,Zf (cD al),Zf ch,Zf l,Zf r,Zn,Zn,Zn,Zn,Zn]) (aF (ds:=[ch]) rfl hd) rfl
 refine(aC (e:=[Zf R,Zs w,Zf (cD al),Zf ch,Zf l,Zf r,Zf (.dct kvs),Zs (ed w),Zn,Zn,Zn]) ?_).trans ?_
 ·refine bK (d:=.str (ed w)) (e:=[Zf R,Zs w,Zf (cD al),Zf ch,Zf l,Zf r,Zf (.dct kvs),Zn,Zn,Zn,Zn]) ?_ rfl;refine aN (x:=.str ([35]++w)) (y:=.str [35]) (e1:=[Zf R,Zs w,Zf (cD al),Zf ch,Zf l,Zf r,Zf (.dct kvs),Zn,Zn,Zn,Zn]) ?_ rfl (gAddS (by show w.length+1+1<=100000;omega));exact aN (x:=.str [35]) (y:=.str w) (e1:=[Zf R,Zs w,Zf (cD al),Zf ch,Zf l,Zf r,Zf (.dct kvs),Zn,Zn,Zn,Zn]) rfl rfl (gAddS (by show 1+w.length<=100000;omega))
 refine(aC (e:=[Zf R,Zs w,Zf (cD al),Zf ch,Zf l,Zf r,Zf (.dct kvs),Zs (ed w),Zs [35],Zn,Zn]) rfl).trans ?_;refine(aC ((stFor_eq (ds:=cR 1 1 w.length) (e:=[Zf R,Zs w,Zf (cD al),Zf ch,Zf l,Zf r,Zf (.dct kvs),Zs (ed w),Zs [35],Zn,Zn]) ?_).trans f1)).trans ?_
 ·refine K20.evRng_eq (ds:=[.int 1,.int ((w.length+1:Nat):Int)]) ?_ (rng2 (by omega));refine aD (d:=.int 1) rfl (aD ?_ bA);refine aN (x:=.int ((w.length+1+1:Nat):Int)) (y:=.int 1) (e1:=[Zf R,Zs w,Zf (cD al),Zf ch,Zf l,Zf r,Zf (.dct kvs),Zs (ed w),Zs [35],Zn,Zn]) ?_ rfl (sub1 _);refine aF (ds:=[.str (ed w)]) rfl ?_;show some (D.int ((ed w).length:Int))=_;rw[ed_len]
 ·refine bH ?_;unfold out;generalize(cg al kvs l r w w.length).flatten=z;have e1:∀(env:Ev.Env),env[8]? = some (Zs (35::z))->evSlS (aQ 8) (evP (Zi 1)) evNoP env = .ok (.str (cutN (35::z) (some 1) none)) env:=λenv h=>by
   have hv:aQ 8 env = .ok (.str (35::z)) env:=by unfold aQ;rw[h]
   unfold evSlS;rw[hv]
   rfl
  rw[cut_tail] at e1;exact e1 _ rfl
end
theorem wy_of{w:D}(h:w = .str [111,110,99,101]\/w = .str [97,108,111,110,103]):∃al,w=cD al:=by
 rcases h with rfl|rfl
 ·exact⟨false,rfl⟩
 ·exact⟨true,rfl⟩
theorem from_left{x w:List Nat}{wy ch l r:D}(hx:x∈XS)(h:RuleOk x wy ch l r)(hw:∀c∈w,c∈x)(hn:w.length<=30000):∃o:List Nat,f_from_left [.tup [wy,ch,l,r],.str w]=some (.str o)/\f_law_changed [.tup [wy,ch,l,r],.str w]=some (.str o)/\(∀c∈o,c∈x)/\o.length<=2*w.length+1:=by
 obtain⟨al,rfl⟩:=wy_of h.way;cases h.chg with
 | put hc=>
  rename_i c;refine⟨inn l r c w,?_,?_,inn_ok hc hw⟩
  ·refine bV (env:=[Zf (.tup [cD al,.tup [.tup [.str [],.str [c]]],l,r]),Zs w]) ?_;unfold b_from_left;refine stSeq_rt ?_;refine(stIf_t (e:=[Zf (.tup [cD al,.tup [.tup [.str [],.str [c]]],l,r]),Zs w]) (cL (aF (ds:=[.tup [cD al,.tup [.tup [.str [],.str [c]]],l,r]]) rfl rfl))).trans ?_;exact bH (aF (ds:=[.tup [cD al,.tup [.tup [.str [],.str [c]]],l,r],.str w]) rfl (with_put_in hx h.left h.right hw hn _ c))
  ·refine bV (env:=[Zf (.tup [cD al,.tup [.tup [.str [],.str [c]]],l,r]),Zs w,Zf (cD al),Zf (.tup [.tup [.str [],.str [c]]]),Zf l,Zf r,Zn,Zn,Zn,Zn,Zn]) ?_;unfold b_law_changed;refine(aC (e:=[Zf (.tup [cD al,.tup [.tup [.str [],.str [c]]],l,r]),Zs w,Zf (cD al),Zf (.tup [.tup [.str [],.str [c]]]),Zf l,Zf r,Zn,Zn,Zn,Zn,Zn]) rfl).trans ?_;refine stSeq_rt ?_;refine(stIf_t (e:=[Zf (.tup [cD al,.tup [.tup [.str [],.str [c]]],l,r]),Zs w,Zf (cD al),Zf (.tup [.tup [.str [],.str [c]]]),Zf l,Zf r,Zn,Zn,Zn,Zn,Zn]) rfl).trans ?_;exact bH (aF (ds:=[.tup [cD al,.tup [.tup [.str [],.str [c]]],l,r],.str w]) rfl (law_put_in hx h.left h.right hw hn _ c))
 | chg h0 h4 hp=>
  rename_i ps;obtain⟨kvs,hd,hk⟩:=dict_of hp;refine⟨out al kvs l r w,?_,law_changed_c hx h.left h.right hw hn hk al ps h0 hd,out_ok hx h.left h.right hw hn hk al⟩;have hpi:f_puts_in [.tup [cD al,.tup (ps.map encC),l,r]]=some (.bl false):=by
   match ps,h0 with
   | p::ps,_=>
    refine bV (env:=[Zf (.tup [cD al,.tup ((p::ps).map encC),l,r])]) (bH ?_);refine aN (x:=.str [p.1]) (y:=.str []) (e1:=[Zf (.tup [cD al,.tup ((p::ps).map encC),l,r])]) ?_ rfl rfl;refine aN (x:=encC p) (y:=.int 0) (e1:=[Zf (.tup [cD al,.tup ((p::ps).map encC),l,r])]) ?_ rfl rfl;refine aN (x:=.tup ((p::ps).map encC)) (y:=.int 0) (e1:=[Zf (.tup [cD al,.tup ((p::ps).map encC),l,r])]) rfl rfl (atI_nat (xs:=(p::ps).map encC) (j:=0) (v:=encC p) rfl)
  refine bV (env:=[Zf (.tup [cD al,.tup (ps.map encC),l,r]),Zs w]) ?_;unfold b_from_left;refine(aC ((stIf_f (e:=[Zf (.tup [cD al,.tup (ps.map encC),l,r]),Zs w]) (cL (aF (ds:=[.tup [cD al,.tup (ps.map encC),l,r]]) rfl hpi))).trans rfl)).trans ?_;exact bH (aF (ds:=[.tup [cD al,.tup (ps.map encC),l,r],.str w]) rfl (with_changes hx h.left h.right hw hn hk al _ hd))
def sides:List D:=[.str [108,101,102,116],.str [114,105,103,104,116]]
theorem changed{x w:List Nat}{wy ch l r:D}(hx:x∈XS)(h:RuleOk x wy ch l r)(hw:∀c∈w,c∈x)(hn:w.length<=30000):∀s∈sides,∃o:List Nat,f_changed [s,.tup [wy,ch,l,r],.str w]=some (.str o)/\f_law_by_side [s,.tup [wy,ch,l,r],.str w]=some (.str o)/\(∀c∈o,c∈x)/\o.length<=2*w.length+1:=by
 intro s hs;rcases Qq3.mp hs with rfl|hs
 ·obtain⟨o,h1,h2,h3⟩:=from_left hx h hw hn;refine⟨o,?_,?_,h3⟩
  ·refine bV (env:=[Zs [108,101,102,116],Zf (.tup [wy,ch,l,r]),Zs w]) ?_;unfold b_changed;refine(aC ((stIf_f (e:=[Zs [108,101,102,116],Zf (.tup [wy,ch,l,r]),Zs w]) (by rfl)).trans rfl)).trans ?_;exact bH (aF (ds:=[.tup [wy,ch,l,r],.str w]) rfl h1)
  ·refine bV (env:=[Zs [108,101,102,116],Zf (.tup [wy,ch,l,r]),Zs w]) ?_;unfold b_law_by_side;refine(aC ((stIf_f (e:=[Zs [108,101,102,116],Zf (.tup [wy,ch,l,r]),Zs w]) (by rfl)).trans rfl)).trans ?_;exact bH (aF (ds:=[.tup [wy,ch,l,r],.str w]) rfl h2)
 ·rw[Qq2.mp hs];obtain⟨o,h1,h2,h3,h4⟩:=from_left (w:=w.reverse) hx (⟨h.way,h.chg,h.right,h.left⟩:RuleOk x wy ch r l) (λc hc=>hw c (List.mem_reverse.mp hc)) (by rw[Qx0];exact hn);have rev:∀{a:Ev} {env:Ev.Env},a env = .ok (.str o) env->evRev a env = .ok (.str o.reverse) env:=λ{a env} e=>by unfold evRev;rw[e];rfl
  refine⟨o.reverse,?_,?_,λc hc=>h3 c (List.mem_reverse.mp hc),by rw[Qx0] at h4 ⊢;exact h4⟩
  ·refine bV (env:=[Zs [114,105,103,104,116],Zf (.tup [wy,ch,l,r]),Zs w]) ?_;unfold b_changed;refine stSeq_rt ((stIf_t (e:=[Zs [114,105,103,104,116],Zf (.tup [wy,ch,l,r]),Zs w]) rfl).trans (bH (rev ?_)));exact aF (ds:=[.tup [wy,ch,r,l],.str w.reverse]) rfl h1
  ·refine bV (env:=[Zs [114,105,103,104,116],Zf (.tup [wy,ch,l,r]),Zs w]) ?_;unfold b_law_by_side;refine stSeq_rt ((stIf_t (e:=[Zs [114,105,103,104,116],Zf (.tup [wy,ch,l,r]),Zs w]) rfl).trans (bH (rev ?_)));exact aF (ds:=[.tup [wy,ch,r,l],.str w.reverse]) rfl h2
theorem from_leftP{x w:List Nat}{wy ch l r:D}(hx:x∈XS)(h:RuleOk x wy ch l r)(hw:∀c∈w,c∈x)(hn:w.length<=30000):∃o:List Nat,f_from_left [.tup [wy,ch,l,r],.str w]=some (.str o)/\(∀c∈o,c∈x)/\o.length<=2*w.length+1:=by
 obtain⟨al,rfl⟩:=wy_of h.way;cases h.chg with
 | put hc=>
  rename_i c;refine⟨inn l r c w,?_,inn_ok hc hw⟩
  ·refine bV (env:=[Zf (.tup [cD al,.tup [.tup [.str [],.str [c]]],l,r]),Zs w]) ?_;unfold b_from_left;refine stSeq_rt ?_;refine(stIf_t (e:=[Zf (.tup [cD al,.tup [.tup [.str [],.str [c]]],l,r]),Zs w]) (cL (aF (ds:=[.tup [cD al,.tup [.tup [.str [],.str [c]]],l,r]]) rfl rfl))).trans ?_;exact bH (aF (ds:=[.tup [cD al,.tup [.tup [.str [],.str [c]]],l,r],.str w]) rfl (with_put_in hx h.left h.right hw hn _ c))
 | chg h0 h4 hp=>
  rename_i ps;obtain⟨kvs,hd,hk⟩:=dict_of hp;refine⟨out al kvs l r w,?_,out_ok hx h.left h.right hw hn hk al⟩;have hpi:f_puts_in [.tup [cD al,.tup (ps.map encC),l,r]]=some (.bl false):=by
   match ps,h0 with
   | p::ps,_=>
    refine bV (env:=[Zf (.tup [cD al,.tup ((p::ps).map encC),l,r])]) (bH ?_);refine aN (x:=.str [p.1]) (y:=.str []) (e1:=[Zf (.tup [cD al,.tup ((p::ps).map encC),l,r])]) ?_ rfl rfl;refine aN (x:=encC p) (y:=.int 0) (e1:=[Zf (.tup [cD al,.tup ((p::ps).map encC),l,r])]) ?_ rfl rfl;refine aN (x:=.tup ((p::ps).map encC)) (y:=.int 0) (e1:=[Zf (.tup [cD al,.tup ((p::ps).map encC),l,r])]) rfl rfl (atI_nat (xs:=(p::ps).map encC) (j:=0) (v:=encC p) rfl)
  refine bV (env:=[Zf (.tup [cD al,.tup (ps.map encC),l,r]),Zs w]) ?_;unfold b_from_left;refine(aC ((stIf_f (e:=[Zf (.tup [cD al,.tup (ps.map encC),l,r]),Zs w]) (cL (aF (ds:=[.tup [cD al,.tup (ps.map encC),l,r]]) rfl hpi))).trans rfl)).trans ?_;exact bH (aF (ds:=[.tup [cD al,.tup (ps.map encC),l,r],.str w]) rfl (with_changes hx h.left h.right hw hn hk al _ hd))
theorem changedP{x w:List Nat}{wy ch l r:D}(hx:x∈XS)(h:RuleOk x wy ch l r)(hw:∀c∈w,c∈x)(hn:w.length<=30000):∀s∈sides,∃o:List Nat,f_changed [s,.tup [wy,ch,l,r],.str w]=some (.str o)/\(∀c∈o,c∈x)/\o.length<=2*w.length+1:=by
 intro s hs;rcases Qq3.mp hs with rfl|hs
 ·obtain⟨o,h1,h3⟩:=from_leftP hx h hw hn;refine⟨o,?_,h3⟩
  ·refine bV (env:=[Zs [108,101,102,116],Zf (.tup [wy,ch,l,r]),Zs w]) ?_;unfold b_changed;refine(aC ((stIf_f (e:=[Zs [108,101,102,116],Zf (.tup [wy,ch,l,r]),Zs w]) (by rfl)).trans rfl)).trans ?_;exact bH (aF (ds:=[.tup [wy,ch,l,r],.str w]) rfl h1)
 ·rw[Qq2.mp hs];obtain⟨o,h1,h3,h4⟩:=from_leftP (w:=w.reverse) hx (⟨h.way,h.chg,h.right,h.left⟩:RuleOk x wy ch r l) (λc hc=>hw c (List.mem_reverse.mp hc)) (by rw[Qx0];exact hn);have rev:∀{a:Ev} {env:Ev.Env},a env = .ok (.str o) env->evRev a env = .ok (.str o.reverse) env:=λ{a env} e=>by unfold evRev;rw[e];rfl
  refine⟨o.reverse,?_,λc hc=>h3 c (List.mem_reverse.mp hc),by rw[Qx0] at h4 ⊢;exact h4⟩
  ·refine bV (env:=[Zs [114,105,103,104,116],Zf (.tup [wy,ch,l,r]),Zs w]) ?_;unfold b_changed;refine stSeq_rt ((stIf_t (e:=[Zs [114,105,103,104,116],Zf (.tup [wy,ch,l,r]),Zs w]) rfl).trans (bH (rev ?_)));exact aF (ds:=[.tup [wy,ch,r,l],.str w.reverse]) rfl h1
end K08
namespace K09
open Ev
def b_fits:cz:=K76.b_fits
def f_fits:LD:=b8 2 b_fits
def b_turned:cz:=K76.b_turned
def f_turned:LD:=b8 5 b_turned
def b_puts_in:cz:=K76.b_puts_in
def f_puts_in:LD:=b8 1 b_puts_in
def b_with_put_in:cz:=K08.b_with_put_in
def f_with_put_in:LD:=b8 10 b_with_put_in
def b_with_changes:cz:=K08.b_with_changes
def f_with_changes:LD:=b8 13 b_with_changes
def b_from_left:cz:=K08.b_from_left
def f_from_left:LD:=b8 2 b_from_left
def b_changed:cz:=K08.b_changed
def f_changed:LD:=b8 3 b_changed
def b_walk:cz:=aJ (aY (aQ 0) (gvTup 2 (aV (ak 2) (aV (ak 3) gvNil)))) (aJ (stOwn 4 (cW (Zv 1 aj))) (aJ (stFor (evIt (aQ 3)) (ak 5) (stApp 4 (ao f_changed (Zv 2 (Zv 5 (aa (aq cI 4 (evUn gNeg (Zi 1))) aj)))))) (aZ (ao gTuple (aa (bB 4) aj)))))
def f_walk:LD:=b8 6 b_walk
def b_made:cz:=K76.b_made
def f_made:LD:=b8 2 b_made
def b_law_fits:cz:=K76.b_fits
def cJ:LD:=b8 2 b_law_fits
def b_law_put_in:cz:=K08.b_law_put_in
def f_law_put_in:LD:=b8 5 b_law_put_in
def b_law_changed:cz:=K08.b_law_changed
def f_law_changed:LD:=b8 11 b_law_changed
def b_law_turned:cz:=K76.b_law_turned
def f_law_turned:LD:=b8 1 b_law_turned
def b_law_by_side:cz:=K08.b_law_by_side
def f_law_by_side:LD:=b8 3 b_law_by_side
def b_law_walk:cz:=aJ (stOwn 2 (cW (Zv 1 aj))) (aJ (stFor (evIt (aq cI 0 (Zi 1))) (ak 3) (stApp 2 (ao f_law_by_side (aa (aq cI 0 (Zi 0)) (Zv 3 (aa (aq cI 2 (evUn gNeg (Zi 1))) aj)))))) (aZ (ao gTuple (aa (bB 2) aj))))
def f_law_walk:LD:=b8 4 b_law_walk
open Ev PySem L2
open K06 (stApp_eq)
open K08 (XS sides RuleOk gAddS)
def RuleD(x:List Nat)(R:D):Prop:=∃wy ch l r,R = .tup [wy,ch,l,r]/\RuleOk x wy ch l r
def cF(s R:D)(w:List Nat):List Nat:=match K08.f_changed [s,R,.str w] with
 | some (.str o)=>o
 | _=>[]
section
variable{x:List Nat}{s:D}
theorem cF_ok(hx:x∈XS)(hs:s∈sides){R:D}(hR:RuleD x R){w:List Nat}(hw:∀c∈w,c∈x)(hn:w.length<=30000) :
  f_changed [s,R,.str w]=some (.str (cF s R w))/\f_law_by_side [s,R,.str w]=some (.str (cF s R w))/\(∀c∈cF s R w,c∈x)/\(cF s R w).length<=2*w.length+1:=by
 obtain⟨wy,ch,l,r,rfl,h⟩:=hR;obtain⟨o,h1,h2,h3⟩:=K08.changed hx h hw hn s hs;have e:cF s (.tup [wy,ch,l,r]) w=o:=by unfold cF;rw[h1]
 rw[e];exact⟨h1,h2,h3⟩
theorem cF_p(hx:x∈XS)(hs:s∈sides){R:D}(hR:RuleD x R){w:List Nat}(hw:∀c∈w,c∈x)(hn:w.length<=30000) :
  f_changed [s,R,.str w]=some (.str (cF s R w))/\(∀c∈cF s R w,c∈x)/\(cF s R w).length<=2*w.length+1:=by
 obtain⟨wy,ch,l,r,rfl,h⟩:=hR;obtain⟨o,h1,h3⟩:=K08.changedP hx h hw hn s hs;have e:cF s (.tup [wy,ch,l,r]) w=o:=by unfold cF;rw[h1]
 rw[e];exact⟨h1,h3⟩
def fin(s:D)(Rs:List D)(w:List Nat):List Nat:=Rs.foldl (λv R=>cF s R v) w
def wds(s:D):List Nat->List D->List (List Nat)
 | w,[]=>[w]
 | w,R::Rs=>w::wds s (cF s R w) Rs
theorem wds_snoc:∀(Rs:List D) (w:List Nat) (R:D),wds s w (Rs++[R])=wds s w Rs++[cF s R (fin s Rs w)]
 | [],w,R=>rfl
 | Q::Rs,w,R=>by
  show w::wds s (cF s Q w) (Rs++[R])=w::wds s (cF s Q w) Rs++[cF s R (fin s Rs (cF s Q w))];rw[wds_snoc Rs]
  rfl
theorem wds_last:∀(Rs:List D) (w:List Nat),∃pre,wds s w Rs=pre++[fin s Rs w]
 | [],w=>⟨[],rfl⟩
 | R::Rs,w=>by
  obtain⟨pre,e⟩:=wds_last Rs (cF s R w);refine⟨w::pre,?_⟩;show w::wds s (cF s R w) Rs=_;rw[e]
  rfl
theorem wds_len:∀(Rs:List D) (w:List Nat),(wds s w Rs).length=Rs.length+1
 | [],w=>rfl
 | R::Rs,w=>by show(w::wds s (cF s R w) Rs).length=_;rw[Qqk,wds_len Rs,Qqk]
theorem fin_ok(hx:x∈XS)(hs:s∈sides):∀(Rs:List D) (w:List Nat),(∀R∈Rs,RuleD x R)->(∀c∈w,c∈x)->(w.length+1)*2^Rs.length<=301->(∀c∈fin s Rs w,c∈x)/\(fin s Rs w).length+1<=(w.length+1)*2^Rs.length
 | [],w,_,hw,hn=>⟨hw,by show w.length+1<=(w.length+1)*1;omega⟩
 | R::Rs,w,hR,hw,hn=>by
  have h2:(w.length+1)*2^(R::Rs).length=(2*w.length+1+1)*2^Rs.length:=by
   rw[Qqk,Nat.pow_succ,<-Nat.mul_assoc,Nat.mul_right_comm]
   congr 1
   omega
  have hp:1<=2^Rs.length:=Nat.one_le_two_pow;have hwl:w.length<=30000:=by have:2*w.length+1+1<=(2*w.length+1+1)*2^Rs.length:=Nat.le_mul_of_pos_right _ hp;omega
  obtain⟨_,h3,h4⟩:=cF_p hx hs (hR R (Qqz ..)) hw hwl;have h5:((cF s R w).length+1)*2^Rs.length<=(2*w.length+1+1)*2^Rs.length:=Nat.mul_le_mul_right _ (by omega);obtain⟨h6,h7⟩:=fin_ok hx hs Rs (cF s R w) (λQ hQ=>hR Q (Qqj _ hQ)) h3 (by omega);refine⟨h6,?_⟩;show(fin s Rs (cF s R w)).length+1<=_;omega
theorem fin_len(hx:x∈XS)(hs:s∈sides)(Rs:List D)(w:List Nat)(hR:∀R∈Rs,RuleD x R)(hw:∀c∈w,c∈x)(hn:(w.length+1)*2^Rs.length<=301):(∀c∈fin s Rs w,c∈x)/\(fin s Rs w).length<=30000:=by obtain⟨h1,h2⟩:=fin_ok hx hs Rs w hR hw hn;exact⟨h1,by omega⟩
theorem pre_ok{Rs done rest:List D}{R:D}(hall:Rs=done++R::rest){n:Nat}(hn:(n+1)*2^Rs.length<=301):(n+1)*2^done.length<=301:=by
 have hl:done.length<=Rs.length:=by rw[hall,Qqq];omega
 exact Qqy (Nat.mul_le_mul_left _ (Nat.pow_le_pow_right (by decide) hl)) hn
theorem atI_last{ds:List D}{d:D}:atI (ds++[d]) (-1)=some d:=by
 unfold atI ixN;rw[if_neg (by decide),if_pos (by rw[Qqq,Qwq];omega)];show(ds++[d])[((-1:Int)+((ds++[d]).length:Int)).toNat]? = _;have e1:((-1:Int)+((ds++[d]).length:Int)).toNat=ds.length:=by rw[Qqq,Qwq];omega
 rw[e1];simp
theorem last_lst(Rs:List D)(w:List Nat):cI (.lst ((wds s w Rs).map .str)) (.int (-1))=some (.str (fin s Rs w)):=by obtain⟨pre,e⟩:=wds_last (s:=s) Rs w;rw[e,Qxj];exact atI_last
theorem last_tup(Rs:List D)(w:List Nat):cI (.tup ((wds s w Rs).map .str)) (.int (-1))=some (.str (fin s Rs w)):=by obtain⟨pre,e⟩:=wds_last (s:=s) Rs w;rw[e,Qxj];exact atI_last
def wkBody:cz:=K76.lb_walk_1
def lwBody:cz:=stApp 2 (ao f_law_by_side (aa (aq cI 0 (Zi 0)) (Zv 3 (aa (aq cI 2 (evUn gNeg (Zi 1))) aj))))
variable(hx:x∈XS)(hs:s∈sides){Rs:List D}(hR:∀R∈Rs,RuleD x R)(h4:Rs.length<=10){w:List Nat}(hw:∀c∈w,c∈x)(hn:(w.length+1)*2^Rs.length<=301)
include hx hs hR h4 hw hn
theorem walk:f_walk [.tup [s,.tup Rs],.str w]=some (.tup ((wds s w Rs).map .str)):=by
 generalize hO:D.tup [s,.tup Rs]=O;obtain⟨e',f1,hd,a5,rfl⟩:=forO_inv' (g:=ak 5) (b:=wkBody) Rs
  (λdone env=>done.length<=Rs.length/\∃a5,env=[Zf O,Zs w,Zf s,Zf (.tup Rs),Zl ((wds s w done).map .str),a5])
  (λdone R rest hall env ⟨hd,a5,he⟩=>by
   subst he;have hm:∀Q∈done,RuleD x Q:=λQ hQ=>hR Q (by rw[hall];exact Qx9 _ hQ);have hRm:RuleD x R:=hR R (by rw[hall];exact Qww _ (Qqz ..));obtain⟨q1,q2⟩:=fin_len hx hs done w hm hw (pre_ok hall hn);obtain⟨c1,_⟩:=cF_p hx hs hRm q1 q2;have hl:=Qzq List.length hall;rw[Qqq,Qqk] at hl;refine⟨[Zf O,Zs w,Zf s,Zf (.tup Rs),Zl ((wds s w done).map .str),Zf R],[Zf O,Zs w,Zf s,Zf (.tup Rs),Zl ((wds s w (done++[R])).map .str),Zf R],rfl,?_,by rw[Qqq,Qwq];omega,_,rfl⟩;rw[wds_snoc,Qxj];refine(stApp_eq (i:=4) (x0:=(wds s w done).map .str) (xs:=(wds s w done).map .str) (d:=.str (cF s R (fin s done w))) (env:=[Zf O,Zs w,Zf s,Zf (.tup Rs),Zl ((wds s w done).map .str),Zf R]) (e:=[Zf O,Zs w,Zf s,Zf (.tup Rs),Zl ((wds s w done).map .str),Zf R]) (by rfl) ?_ (by rfl) (by rw[Qqx,wds_len];exact Qx4 (show done.length+1<=11 by omega) (by decide))).trans rfl;refine aF (ds:=[s,R,.str (fin s done w)]) (aD (d:=s) (by rfl) (aD (d:=R) (by rfl) (aD ?_ bA))) c1;exact evBT (x:=.lst ((wds s w done).map .str)) (y:=.int (-1)) (by rfl) (by rfl) (by rfl) (last_lst done w))
  [Zf O,Zs w,Zf s,Zf (.tup Rs),Zl [.str w],Zn] ⟨Qx3 _,Zn,rfl⟩
 refine bV (env:=[Zf O,Zs w,Zf s,Zf (.tup Rs),Zl ((wds s w Rs).map .str),a5]) ?_;unfold b_walk;refine(aC (e:=[Zf O,Zs w,Zf s,Zf (.tup Rs),Zn,Zn]) (by rw[<-hO];rfl)).trans ?_;refine(aC (e:=[Zf O,Zs w,Zf s,Zf (.tup Rs),Zl [.str w],Zn]) (by rfl)).trans ?_;exact(aC ((stFor_eq (ds:=Rs) (e:=[Zf O,Zs w,Zf s,Zf (.tup Rs),Zl [.str w],Zn]) (by rfl)).trans f1)).trans rfl
theorem law_walk:f_law_walk [.tup [s,.tup Rs],.str w]=some (.tup ((wds s w Rs).map .str)):=by
 obtain⟨e',f1,hd,a5,rfl⟩:=forO_inv' (g:=ak 3) (b:=lwBody) Rs
  (λdone env=>done.length<=Rs.length/\∃a5,env=[Zf (.tup [s,.tup Rs]),Zs w,Zl ((wds s w done).map .str),a5])
  (λdone R rest hall env ⟨hd,a5,he⟩=>by
   subst he;have hm:∀Q∈done,RuleD x Q:=λQ hQ=>hR Q (by rw[hall];exact Qx9 _ hQ);have hRm:RuleD x R:=hR R (by rw[hall];exact Qww _ (Qqz ..));obtain⟨q1,q2⟩:=fin_len hx hs done w hm hw (pre_ok hall hn);obtain⟨_,c1,_⟩:=cF_ok hx hs hRm q1 q2;have hl:=Qzq List.length hall;rw[Qqq,Qqk] at hl;refine⟨[Zf (.tup [s,.tup Rs]),Zs w,Zl ((wds s w done).map .str),Zf R],[Zf (.tup [s,.tup Rs]),Zs w,Zl ((wds s w (done++[R])).map .str),Zf R],rfl,?_,by rw[Qqq,Qwq];omega,_,rfl⟩;rw[wds_snoc,Qxj];refine(stApp_eq (i:=2) (x0:=(wds s w done).map .str) (xs:=(wds s w done).map .str) (d:=.str (cF s R (fin s done w))) (env:=[Zf (.tup [s,.tup Rs]),Zs w,Zl ((wds s w done).map .str),Zf R]) (e:=[Zf (.tup [s,.tup Rs]),Zs w,Zl ((wds s w done).map .str),Zf R]) (by rfl) ?_ (by rfl) (by rw[Qqx,wds_len];exact Qx4 (show done.length+1<=11 by omega) (by decide))).trans rfl;refine aF (ds:=[s,R,.str (fin s done w)]) (aD (d:=s) (by rfl) (aD (d:=R) (by rfl) (aD ?_ bA))) c1;exact evBT (x:=.lst ((wds s w done).map .str)) (y:=.int (-1)) (by rfl) (by rfl) (by rfl) (last_lst done w))
  [Zf (.tup [s,.tup Rs]),Zs w,Zl [.str w],Zn] ⟨Qx3 _,Zn,rfl⟩
 refine bV (env:=[Zf (.tup [s,.tup Rs]),Zs w,Zl ((wds s w Rs).map .str),a5]) ?_;unfold b_law_walk;refine(aC (e:=[Zf (.tup [s,.tup Rs]),Zs w,Zl [.str w],Zn]) (by rfl)).trans ?_;exact(aC ((stFor_eq (ds:=Rs) (e:=[Zf (.tup [s,.tup Rs]),Zs w,Zl [.str w],Zn]) (by rfl)).trans f1)).trans rfl
theorem made:f_made [.tup [s,.tup Rs],.str w]=some (.str (fin s Rs w)):=by refine bV (env:=[Zf (.tup [s,.tup Rs]),Zs w]) (bH ?_);exact aN (x:=.tup ((wds s w Rs).map .str)) (y:=.int (-1)) (aF (ds:=[.tup [s,.tup Rs],.str w]) (by rfl) (walk hx hs hR h4 hw hn)) (by rfl) (last_tup Rs w)
end
theorem sIx_k{n d k:Nat}(h:k<=n):HT.sIx n d (some (k:Int))=k:=by rw[HT.sIx_nat];omega
theorem cut_to{Rs:List D}{k:Nat}(h:k<=Rs.length):gSlT (.tup Rs) none (some (k:Int))=some (.tup (Rs.take k)):=by
 have e1:HT.sIx Rs.length Rs.length (some (k:Int))=k:=sIx_k h;have e2:HT.sIx Rs.length 0 none=0:=rfl;show(if HT.sIx Rs.length 0 none=0/\HT.sIx Rs.length Rs.length (some (k:Int))=Rs.length then some (D.tup Rs) else some (D.tup (cutD Rs none (some (k:Int)))))=_;split
 ·rename_i hw;rw[e1] at hw;rw[hw.2,List.take_length]
 ·unfold cutD;rw[e1,e2,List.drop_zero,Nat.sub_zero]
theorem ok_strs(zs:List (List Nat)):okN 60 (.tup (zs.map .str))=true:=by
 refine Qq5.mpr λd hd=>?_;obtain⟨z,_,rfl⟩:=Qq8.mp hd
 rfl
theorem gNe_self{d:D}(h:okN 60 d=true):gNe d d=some (.bl false):=by
 show(bI 60 d d).map _=_;rw[eqN_self 60 d h]
 rfl
theorem evSlT_eq{a:Ev}{lo hi:EvP}{env e1 e2 e3:Ev.Env}{d v:D}{l u:Option Int}(h1:a env = .ok d e1)(h2:lo e1 = .ok l e2)(h3:hi e2 = .ok u e3)(h:gSlT d l u=some v):evSlT a lo hi env = .ok v e3:=by
 unfold evSlT;rw[h1];simp only[bindR];rw[h2];simp only;rw[h3];simp only;rw[h]
 rfl
theorem rngD3{i j c:Int}(h:c≠0/\c.natAbs<1073741824/\Builtin.Range.small i j c=true):rngD [.int i,.int j,.int c]=some (cR i c (Builtin.Range.rangeSize i j c).toNat):=by unfold rngD;simp only;rw[if_pos h]
end K09
namespace K14
open Ev
def b_law_take:cz:=K76.b_law_take
def bh:List D->Option (D×D):=runIO 3 b_law_take
def b_law_signs:cz:=K06.b_law_signs
def f_law_signs:List D->Option (D×D):=runIO 4 b_law_signs
def b_law_changes:cz:=K06.b_law_changes
def f_law_changes:List D->Option (D×D):=runIO 6 b_law_changes
def b_law_rule:cz:=K06.b_law_rule
def f_law_rule:List D->Option (D×D):=runIO 4 b_law_rule
def b_law_order:cz:=aJ (aY (aG cI (cW (aa (Zw [108,101,102,116]) (aa (Zw [114,105,103,104,116]) aj))) (evIO bh 0 (aa (Zi 2) aj))) (ak 3)) (aZ (evTup (Zv 3 (aa (ao gTuple (aa (evLC 4 5 (evRng (aa (evIO bh 0 (aa (aq bN 2 (Zi 1)) aj)) aj)) (ak 4) cA (evIO f_law_rule 0 (Zv 1 aj))) aj)) aj))))
def f_law_order:List D->Option (D×D):=runIO 4 b_law_order
open Ev PySem L2
open K06 (SG stApp_eq)
open K08 (XS sides RuleOk gAddS fit fits_eq DOk look look_get look_in cD encC dict_of ChOk evAndT_eq)
open K09 (RuleD gNe_self)
inductive Rl
 | put (c:Nat) (l r:D)
 | chg (al:Bool) (kvs:List (D×D)) (l r:D)
inductive Is (x:List Nat):D->Rl->Prop
 | put {wy l r:D} {c:Nat}:c∈x->l∈SG x->r∈SG x->Is x (.tup [wy,.tup [.tup [.str [],.str [c]]],l,r]) (.put c l r)
 | chg {al:Bool} {ps:List K08.Pr} {kvs:List (D×D)} {l r:D}:0<ps.length->gDict [.tup (ps.map encC)]=some (.dct kvs)->DOk x kvs->l∈SG x->r∈SG x->Is x (.tup [cD al,.tup (ps.map encC),l,r]) (.chg al kvs l r)
theorem sgs_inj:∀{y z:List Nat},sgs y=sgs z->y=z
 | [],[],_=>rfl
 | [],_::_,h=>by cases h
 | _::_,[],h=>by cases h
 | a::y,b::z,h=>by
  have h1:D.str [a]::sgs y=D.str [b]::sgs z:=h;injection h1 with h2 h3
  injection h2 with h4
  injection h4 with h5
  rw[h5,sgs_inj h3]
theorem sgs_snoc(y:List Nat)(a:Nat):sgs (y++[a])=sgs y++[.str [a]]:=by unfold sgs;rw[Qxj];rfl
theorem sgs_mem{z:List Nat}{done rest:List D}{d:D}(h:sgs z=done++d::rest):∃a,d = .str [a]/\a∈z/\done.length<z.length:=by
 have hm:d∈sgs z:=by rw[h];exact Qww _ (Qqz ..)
 obtain⟨a,ha,rfl⟩:=Qq8.mp hm;have:=Qzq List.length h;unfold sgs at this;rw[Qqx,Qqq,Qqk] at this;exact⟨a,rfl,ha,by omega⟩
def tn:D->D
 | .tup [wy,ch,l,r]=>.tup [wy,ch,r,l]
 | d=>d
def rt:D->Bool
 | .str (114::_)=>true
 | _=>false
open K08 (XS sides RuleOk gAddS ChOk)
open K06 (XS_pos XS_len KvOk PV SG chOf prs one others putIt ch_tail key_in put1 take_eq PV_fst strsD_map)
open K08 (prs_enc chOf_eq)
theorem changes(n:Int)(x:List Nat)(hx:x∈XS):∃ch n',K06.f_law_changes [.lst [.int n],.str x]=some (ch,.lst [.int n'])/\ChOk x ch:=by
 obtain⟨d,hd,e⟩:=dig n 5 (by decide);have hp:=XS_pos x hx;have hl4:=XS_len x hx;have t:cU (aG gEq (evIO K06.bh 0 (aa (Zi 5) aj)) (Zi 0)) [Zl [.int n],Zs x,Zn,Zn,Zn,Zn] = .ok ((d:Int) == 0) [Zl [.int (n / 5)],Zs x,Zn,Zn,Zn,Zn]:=by
  rw[<-e]
  rfl
 by_cases h0:d=0
 ·subst h0;obtain⟨j,hj,ej⟩:=dig (n / 5) x.length hp;refine⟨.tup [.tup [.str [],.str [x[j]]]],n / 5 / (x.length:Int),runIO_eq (env:=[Zl [.int (n / 5 / (x.length:Int))],Zs x,Zn,Zn,Zn,Zn]) ?_ rfl,.put (Qz7 hj)⟩;unfold K06.b_law_changes;refine(stSeq_rt (d:=.tup [.tup [.str [],.str [x[j]]]]) (o:=false) (e:=[Zl [.int (n / 5 / (x.length:Int))],Zs x,Zn,Zn,Zn,Zn]) ?_).trans rfl;refine(stIf_t t).trans ?_;refine bH (evTup_eq (aD (evTup_eq (ds:=[.str [],.str [x[j]]]) (aD (d:=.str []) rfl (aD ?_ bA)) Ev.zz2) bA) Ev.zz1);refine evBF (x:=.str x) (y:=.int (n / 5 % (x.length:Int))) rfl ?_ rfl ?_
  ·exact Ev.evIO1 (x:=.lst [.int (n / 5)]) (ds:=[.int (x.length:Int)]) (e1:=[Zl [.int (n / 5)],Zs x,Zn,Zn,Zn,Zn]) rfl rfl rfl (take_eq _ x.length hp (by omega))
  ·show(atI x (n / 5 % (x.length:Int))).map _=_;rw[ej,atI_lt hj]
   rfl
 ·have t0:((d:Int) == 0)=false:=by rw[Qxy];omega
  rw[t0] at t;obtain⟨j,hj,ej⟩:=dig (n / 5) 3 (by decide);obtain⟨ds,hds,hl1,hl2⟩:∃ds,rngD [.int (1+(j:Int))]=some ds/\0<ds.length/\ds.length<=4:=by
   have hc:j=0\/j=1\/j=2:=by omega
   rcases hc with rfl|rfl|rfl
   ·exact⟨_,rfl,by decide,by decide⟩
   ·exact⟨_,rfl,by decide,by decide⟩
   ·exact⟨_,rfl,by decide,by decide⟩
  obtain⟨e',f1,n',kvs,zs,v3,v4,v5,rfl,hk,hz1,hz2⟩:=forO_inv' (g:=ak 3) (b:=aJ one (aJ others putIt)) ds
   (λdone env=>∃n kvs zs v3 v4 v5,env=[Zl [.int n],Zs x,Zt (.dct kvs),v3,v4,v5]/\KvOk x kvs zs/\zs.length<=done.length/\(0<done.length->0<zs.length))
   (λdone s rest hall env ⟨n,kvs,zs,v3,v4,v5,he,hk,hz1,hz2⟩=>by
    subst he;have hdl:done.length<=4:=by have:=Qzq List.length hall;rw[Qqq,Qqk] at this;omega
    have hkl:kvs.length=zs.length:=by
     have:=Qzq List.length hk.keys
     rwa [Qqx,Qqx] at this
    obtain⟨p,n',w4,w5,hpv,hb⟩:=K06.round n x hx kvs (by omega) (Zf s) v4 v5;obtain⟨zs',hk',z1,z2⟩:=hk.put hpv (PV_fst hpv);exact⟨_,_,rfl,hb,n',_,zs',_,_,_,rfl,hk',by rw[Qqq,Qwq];omega,λ_=>z1⟩)
   [Zl [.int (n / 5 / 3)],Zs x,Zt (.dct []),Zn,Zn,Zn] ⟨_,[],[],_,_,_,rfl,⟨rfl,.nil,λc hc=>by simp at hc,λk v h=>by simp at h⟩,Qq0 _,λh=>h⟩
  have hz3:zs.length<=4:=Qqy hz1 hl2;have hok:ChOk x (.tup (prs kvs ((sortX (zs.map λc=>[c])).map D.str))):=by
   obtain⟨ps,e1,e2,e3⟩:=prs_enc hx _ (key_in hk);have hl:ps.length=zs.length:=by rw[e2,Qqx,(sortX_perm _).length_eq,Qqx]
   rw[e1];have:=hz2 hl1;exact .chg (by omega) (by omega) e3
  refine⟨_,n',runIO_eq (env:=[Zl [.int n'],Zs x,Zt (.dct kvs),v3,v4,v5]) ?_ rfl,hok⟩;unfold K06.b_law_changes;refine(aC (e:=[Zl [.int (n / 5)],Zs x,Zn,Zn,Zn,Zn]) ((stIf_f t).trans rfl)).trans ?_;refine(aC (e:=[Zl [.int (n / 5)],Zs x,Zt (.dct []),Zn,Zn,Zn]) rfl).trans ?_;refine(aC (e:=[Zl [.int n'],Zs x,Zt (.dct kvs),v3,v4,v5]) ?_).trans ?_
  ·refine(stFor_eq (ds:=ds) (e:=[Zl [.int (n / 5 / 3)],Zs x,Zt (.dct []),Zn,Zn,Zn]) ?_).trans f1;have a1:aa (aG bN (Zi 1) (evIO K06.bh 0 (aa (Zi 3) aj))) aj [Zl [.int (n / 5)],Zs x,Zt (.dct []),Zn,Zn,Zn] = .ok [.int (1+n / 5 % 3)] [Zl [.int (n / 5 / 3)],Zs x,Zt (.dct []),Zn,Zn,Zn]:=by rfl
   unfold evRng;rw[a1];show liftR (rngD [.int (1+n / 5 % ((3:Nat):Int))]) _=_;rw[ej,hds]
   rfl
  ·exact ch_tail (chOf_eq hk hz3) _ _ _ _ _
theorem rule(n:Int)(x:List Nat)(hx:x∈XS):∃w ch l r n',K06.f_law_rule [.lst [.int n],.str x]=some (.tup [w,ch,l,r],.lst [.int n'])/\RuleOk x w ch l r:=by
 obtain⟨d,hd,e⟩:=dig n 2 (by decide);obtain⟨w,hw,h1⟩:∃w,(w = .str [111,110,99,101]\/w = .str [97,108,111,110,103])/\cI (.lst [.str [111,110,99,101],.str [97,108,111,110,103]]) (.int (d:Int))=some w:=by
  have hc:d=0\/d=1:=by omega
  rcases hc with rfl|rfl
  ·exact⟨_,.inl rfl,rfl⟩
  ·exact⟨_,.inr rfl,rfl⟩
 obtain⟨ch,n1,h2,h3⟩:=changes (n / 2) x hx;obtain⟨l,n2,h5,h6⟩:=K06.signs n1 x hx;obtain⟨r,n3,h7,h8⟩:=K06.signs n2 x hx;refine⟨w,ch,l,r,n3,runIO_eq (env:=[Zl [.int n3],Zs x,Zf w,Zf ch]) ?_ rfl,⟨hw,h3,h6,h8⟩⟩;unfold K06.b_law_rule;refine(aC (e:=[Zl [.int (n / 2)],Zs x,Zf w,Zn]) ?_).trans ?_
 ·refine bK (d:=w) (e:=[Zl [.int (n / 2)],Zs x,Zn,Zn]) ?_ rfl;refine aN (x:=.lst [.str [111,110,99,101],.str [97,108,111,110,103]]) (y:=.int (n % 2)) (e1:=[Zl [.int n],Zs x,Zn,Zn]) rfl rfl ?_;have e2:n % 2=(d:Int):=e;rw[e2];exact h1
 refine(aC (e:=[Zl [.int n1],Zs x,Zf w,Zf ch]) ?_).trans ?_
 ·exact bK (d:=ch) (e:=[Zl [.int n1],Zs x,Zf w,Zn]) (Ev.evIO1 (x:=.lst [.int (n / 2)]) (ds:=[.str x]) (e1:=[Zl [.int (n / 2)],Zs x,Zf w,Zn]) rfl rfl rfl h2) rfl
 ·refine bH (evTup_eq (ds:=[w,ch,l,r]) (aD (d:=w) (e1:=[Zl [.int n1],Zs x,Zf w,Zf ch]) rfl (aD (d:=ch) (e1:=[Zl [.int n1],Zs x,Zf w,Zf ch]) rfl (aD (d:=l) (e1:=[Zl [.int n2],Zs x,Zf w,Zf ch]) ?_ (aD (d:=r) (e1:=[Zl [.int n3],Zs x,Zf w,Zf ch]) ?_ bA)))) Ev.zz4)
  ·exact Ev.evIO1 (x:=.lst [.int n1]) (ds:=[.str x]) (e1:=[Zl [.int n1],Zs x,Zf w,Zf ch]) rfl rfl rfl h5
  ·exact Ev.evIO1 (x:=.lst [.int n2]) (ds:=[.str x]) (e1:=[Zl [.int n2],Zs x,Zf w,Zf ch]) rfl rfl rfl h7
theorem order(n:Int)(x:List Nat)(hx:x∈XS)(m:Nat)(hm:m<=10):∃s Rs n',f_law_order [.lst [.int n],.str x,.int (m:Int)]=some (.tup [s,.tup Rs],.lst [.int n'])/\s∈sides/\(∀R∈Rs,RuleD x R)/\Rs.length<=m:=by
 obtain⟨d,hd,e⟩:=dig n 2 (by decide);obtain⟨s,hs,h1⟩:∃s,s∈sides/\cI (.lst [.str [108,101,102,116],.str [114,105,103,104,116]]) (.int (d:Int))=some s:=by
  have hc:d=0\/d=1:=by omega
  rcases hc with rfl|rfl
  ·exact⟨_,Qqz ..,rfl⟩
  ·exact⟨_,Qqj _ (Qqz ..),rfl⟩
 obtain⟨j,hj,ej⟩:=dig (n / 2) (m+1) (by omega);obtain⟨Rs,env',g1,⟨n',v4,rfl⟩,g3,g4⟩:=K20.lcO_ex (g:=ak 4) (e:=evIO f_law_rule 0 (Zv 1 aj)) (λenv=>∃n v4,env=[Zl [.int n],Zs x,Zf (.int (m:Int)),Zf s,v4]) (RuleD x) (cR 0 1 j)
  [Zl [.int (n / 2 / ((m+1:Nat):Int))],Zs x,Zf (.int (m:Int)),Zf s,Zn] ⟨_,_,rfl⟩
  (λt _ env ⟨n,v4,he⟩=>by
   subst he;obtain⟨wy,ch,l,r,n',h2,h3⟩:=rule n x hx;refine⟨.tup [wy,ch,l,r],_,[Zl [.int n'],Zs x,Zf (.int (m:Int)),Zf s,Zf t],rfl,?_,⟨_,_,rfl⟩,_,_,_,_,rfl,h3⟩;exact Ev.evIO1 (x:=.lst [.int n]) (ds:=[.str x]) (e1:=[Zl [.int n],Zs x,Zf (.int (m:Int)),Zf s,Zf t]) rfl rfl rfl h2)
 have hl:Rs.length=j:=by rw[stepsI_len] at g4;exact g4
 refine⟨s,Rs,n',runIO_eq (env:=[Zl [.int n'],Zs x,Zf (.int (m:Int)),Zf s]) ?_ rfl,hs,g3,by omega⟩;unfold b_law_order;refine(aC (e:=[Zl [.int (n / 2)],Zs x,Zf (.int (m:Int)),Zf s]) ?_).trans ?_
 ·refine bK (d:=s) (e:=[Zl [.int (n / 2)],Zs x,Zf (.int (m:Int)),Zn]) ?_ rfl;refine aN (x:=.lst [.str [108,101,102,116],.str [114,105,103,104,116]]) (y:=.int (n % 2)) (e1:=[Zl [.int n],Zs x,Zf (.int (m:Int)),Zn]) rfl rfl ?_;have e2:n % 2=(d:Int):=e;rw[e2];exact h1
 refine bH (evTup_eq (ds:=[s,.tup Rs]) (aD (d:=s) (e1:=[Zl [.int (n / 2)],Zs x,Zf (.int (m:Int)),Zf s]) rfl (aD ?_ bA)) Ev.zz2);refine aF (ds:=[.lst Rs]) (aD ?_ bA) rfl;refine evLC_eq (lo:=4) (n:=5) (ds:=cR 0 1 j) (aO:=[Zl [.int (n / 2 / ((m+1:Nat):Int))],Zs x,Zf (.int (m:Int)),Zf s]) (bZ:=[Zl [.int n'],Zs x,Zf (.int (m:Int)),Zf s,v4]) ?_ rfl g1 (by rw[hl];exact Qqy (show j<=10 by omega) (by decide));refine K20.evRng_eq (ds:=[.int (n / 2 % ((m+1:Nat):Int))]) ?_ ?_
 ·refine aD (e1:=[Zl [.int (n / 2 / ((m+1:Nat):Int))],Zs x,Zf (.int (m:Int)),Zf s]) ?_ bA;exact Ev.evIO1 (x:=.lst [.int (n / 2)]) (ds:=[.int ((m+1:Nat):Int)]) (e1:=[Zl [.int (n / 2)],Zs x,Zf (.int (m:Int)),Zf s]) rfl rfl rfl (K06.take_eq (n / 2) (m+1) (by omega) (by omega))
 ·have e2:n / 2 % ((m+1:Nat):Int)=(j:Int):=ej;rw[e2];exact K20.rng1 (by omega)
end K14
namespace K07
open Ev
def b_rises:cz:=K06.b_rises
def f_rises:LD:=b8 1 b_rises
def b_are_changes:cz:=K06.b_are_changes
def f_are_changes:LD:=b8 2 b_are_changes
def b_are_signs:cz:=K06.b_are_signs
def f_are_signs:LD:=b8 2 b_are_signs
open Ev PySem L2
open K06 (XS seqs oth PV isT isT_ok SG KvOk seqs_mem)
abbrev Pt:=List Nat×List Nat
def enc2(p:Pt):D:=.tup [.str p.1,.str p.2]
def renC(x:List Nat)(c:Nat):Nat:=if c=35 then 35 else [103,107,113,121].getD (x.idxOf c) 0
def ren(x z:List Nat):List Nat:=z.map (renC x)
def renP(x:List Nat)(p:Pt):Pt:=(ren x p.1,ren x p.2)
def less(x:List Nat):List Nat:=x.take (max 1 (x.length - 1))
def inY(y z:List Nat):Bool:=z == []||z == [35]||(match z with|[c]=>y.contains c|_=>false)
def rawP(ps:List Pt):List (List Nat):=ps.flatMap λp=>[p.1,p.2]
def inc:List Nat->Bool
 | []=>true
 | [_]=>true
 | a::b::r=>decide (a<b)&&inc (b::r)
def ups(x:List Nat):List (List Nat):=(seqs x).filter inc
def others(x:List Nat)(c:Nat):List (List Nat):=(x.map (λa=>[a])++[[]]).filter λz=>z != [c]
def asg(x:List Nat):List Nat->List (List Pt)
 | []=>[[]]
 | c::r=>(others x c).flatMap λv=>(asg x r).map λt=>([c],v)::t
def CP(x:List Nat):List (List Pt):=(x.map λc=>[([],[c])])++(ups x).flatMap (asg x)
def isF:Option D->Bool
 | some (.bl false)=>true
 | _=>false
def isB(o:Option D)(b:Bool):Bool:=if b then isT o else isF o
def chk(x:List Nat)(ps:List Pt):Bool:=
 isT (f_are_changes [.tup (sgs (ren x x)),.tup ((ps.map (renP x)).map enc2)])&&isF (f_are_changes [.tup (sgs (ren x x)),.tup (ps.map enc2)]) &&
 isB (f_are_changes [.tup (sgs (less x)),.tup (ps.map enc2)]) ((rawP ps).all (inY (less x))) &&
 (rawP ps).all (λz=>z == []||(match z with|[c]=>x.contains c|_=>false))&&(rawP ps).any (λz=>z != []&&z != [35])&&decide (ps.length<=3)
def cN:Option (List Nat)->D
 | none=>.non
 | some z=>.tup (sgs z)
def dec1:D->Option Nat
 | .str [c]=>some c
 | _=>none
def decL:List D->Option (List Nat)
 | []=>some []
 | d::r=>match dec1 d,decL r with
  | some c,some z=>some (c::z)
  | _,_=>none
def decG:D->Option (Option (List Nat))
 | .non=>some none
 | .tup ds=>(decL ds).map some
 | _=>none
theorem dec1_ok{d:D}{c:Nat}(h:dec1 d=some c):d = .str [c]:=by
 unfold dec1 at h;split at h
 ·cases h;rfl
 ·cases h
theorem decL_ok:∀{ds:List D} {z:List Nat},decL ds=some z->ds=sgs z
 | [],z,h=>by cases h;rfl
 | d::r,z,h=>by
  unfold decL at h;split at h
  ·rename_i c y h1 h2;cases h;rw[dec1_ok h1,decL_ok h2]
   rfl
  ·cases h
theorem decG_ok{d:D}{g:Option (List Nat)}(h:decG d=some g):d=cN g:=by
 unfold decG at h;split at h
 ·cases h;rfl
 ·obtain⟨z,h1,rfl⟩:=Qq9.mp h;rw[decL_ok h1]
  rfl
 ·cases h
def rawG:Option (List Nat)->List (List Nat)
 | none=>[]
 | some z=>z.map λc=>[c]
def renG(x:List Nat)(g:Option (List Nat)):Option (List Nat):=g.map (ren x)
def sok(x:List Nat)(g:Option (List Nat)):Bool:=
 isT (f_are_signs [.tup (sgs (ren x x)),cN (renG x g)])&&isB (f_are_signs [.tup (sgs (less x)),cN g]) ((rawG g).all (inY (less x))) &&
 (match g with|none=>true|some z=>!z.isEmpty&&z.all (λc=>c == 35||x.contains c)&&decide (z.length<=5))
theorem sok_all:(XS.all λx=>(SG x).all λl=>match decG l with|some g=>sok x g|none=>false)=true:=by decide +kernel
theorem sok_of{x:List Nat}(hx:x∈XS){l:D}(h:l∈SG x):∃g,l=cN g/\sok x g=true:=by
 have h1:=Qq5.mp (Qq5.mp sok_all x hx) l h;split at h1
 ·rename_i g e;exact⟨g,decG_ok e,h1⟩
 ·cases h1
theorem oth_is(x:List Nat)(c:Nat):oth x c=(others x c).map D.str:=rfl
theorem ups_all:(XS.all λx=>(seqs x).all λzs=>(ups x).any λu=>(sortX (zs.map λc=>[c])) == u.map (λc=>[c]))=true:=by decide +kernel
theorem ups_of{x zs:List Nat}(hx:x∈XS)(h:zs∈seqs x):∃u∈ups x,sortX (zs.map λc=>[c])=u.map (λc=>[c]):=by have h1:=Qq5.mp (Qq5.mp ups_all x hx) zs h;obtain⟨u,hu,he⟩:=List.any_eq_true.mp h1;exact⟨u,hu,eq_of_beq he⟩
theorem pv_of{x:List Nat}{c:Nat}{v:D}(h:(c,v)∈PV x):∃z∈others x c,v = .str z:=by unfold PV at h;obtain⟨a,_,h⟩:=Qz2.mp h;obtain⟨w,hw,e⟩:=Qq8.mp h;cases e;rw[oth_is] at hw;obtain⟨z,hz,rfl⟩:=Qq8.mp hw;exact⟨z,hz,rfl⟩
theorem asg_of{x:List Nat}{kvs:List (D×D)}:∀(u:List Nat),(∀c∈u,∃v,gDget (.dct kvs) (.str [c])=some v/\(c,v)∈PV x)->∃ps∈asg x u,K06.prs kvs ((u.map λc=>[c]).map D.str)=ps.map enc2
 | [],_=>⟨[],Qq2.mpr rfl,rfl⟩
 | c::u,h=>by
  obtain⟨v,h1,h2⟩:=h c (Qqz ..);obtain⟨z,hz,rfl⟩:=pv_of h2;obtain⟨ps,hp,e⟩:=asg_of u λd hd=>h d (Qqj _ hd);refine⟨([c],z)::ps,Qz2.mpr ⟨z,hz,Qq8.mpr ⟨ps,hp,rfl⟩⟩,?_⟩;have e':(((u.map λc=>[c]).map D.str).map λk=>D.tup [k,(gDget (.dct kvs) k).getD .non])=ps.map enc2:=e;show D.tup [.str [c],(gDget (.dct kvs) (.str [c])).getD .non]::(((u.map λc=>[c]).map D.str).map λk=>D.tup [k,(gDget (.dct kvs) k).getD .non])=_;rw[h1,e']
  rfl
theorem drawn_ok{x:List Nat}(hx:x∈XS){kvs:List (D×D)}{zs:List Nat}(hk:KvOk x kvs zs)(h0:0<zs.length)(h3:zs.length<=3):∃ps∈CP x,D.tup (K06.prs kvs ((sortX (zs.map λc=>[c])).map D.str)) = .tup (ps.map enc2):=by
 obtain⟨u,hu,e⟩:=ups_of hx (seqs_mem hk.mem hk.nd h0 h3);have hin:=K06.key_in hk;rw[e] at hin ⊢;obtain⟨ps,hp,e2⟩:=asg_of (x:=x) (kvs:=kvs) u λc hc=>by
  obtain⟨c',v,h1,h2,h4⟩:=hin (.str [c]) (Qq8.mpr ⟨[c],Qq8.mpr ⟨c,hc,rfl⟩,rfl⟩);cases h1;exact⟨v,h2,h4⟩
 exact⟨ps,Qww _ (Qz2.mpr ⟨u,hu,hp⟩),by rw[e2]⟩
open K06 (XS XS_pos XS_len KvOk PV SG chOf prs one putIt ch_tail key_in put1 take_eq PV_fst strsD_map)
open K08 (chOf_eq sides)
def RuleC(x:List Nat)(R:D):Prop:=∃w ps l r,R = .tup [w,.tup (ps.map enc2),cN l,cN r]/\(w = .str [111,110,99,101]\/w = .str [97,108,111,110,103])/\ps∈CP x/\sok x l=true/\sok x r=true
theorem changes(n:Int)(x:List Nat)(hx:x∈XS):∃ch n',K06.f_law_changes [.lst [.int n],.str x]=some (ch,.lst [.int n'])/\∃ps∈CP x,ch = .tup (ps.map enc2):=by
 obtain⟨d,hd,e⟩:=dig n 5 (by decide);have hp:=XS_pos x hx;have hl4:=XS_len x hx;have t:cU (aG gEq (evIO K06.bh 0 (aa (Zi 5) aj)) (Zi 0)) [Zl [.int n],Zs x,Zn,Zn,Zn,Zn] = .ok ((d:Int) == 0) [Zl [.int (n / 5)],Zs x,Zn,Zn,Zn,Zn]:=by
  rw[<-e]
  rfl
 by_cases h0:d=0
 ·subst h0;obtain⟨j,hj,ej⟩:=dig (n / 5) x.length hp;refine⟨.tup [.tup [.str [],.str [x[j]]]],n / 5 / (x.length:Int),runIO_eq (env:=[Zl [.int (n / 5 / (x.length:Int))],Zs x,Zn,Zn,Zn,Zn]) ?_ rfl,⟨[([],[x[j]])],Qx9 _ (Qq8.mpr ⟨x[j],Qz7 hj,rfl⟩),rfl⟩⟩;unfold K06.b_law_changes;refine(stSeq_rt (d:=.tup [.tup [.str [],.str [x[j]]]]) (o:=false) (e:=[Zl [.int (n / 5 / (x.length:Int))],Zs x,Zn,Zn,Zn,Zn]) ?_).trans rfl;refine(stIf_t t).trans ?_;refine bH (evTup_eq (aD (evTup_eq (ds:=[.str [],.str [x[j]]]) (aD (d:=.str []) (by rfl) (aD ?_ bA)) Ev.zz2) bA) Ev.zz1);refine evBF (x:=.str x) (y:=.int (n / 5 % (x.length:Int))) (by rfl) ?_ (by rfl) ?_
  ·exact evIO_eq (x:=.lst [.int (n / 5)]) (x0:=.lst [.int (n / 5)]) (ds:=[.int (x.length:Int)]) (e1:=[Zl [.int (n / 5)],Zs x,Zn,Zn,Zn,Zn]) (by rfl) (by rfl) (by rfl) (take_eq _ x.length hp (by omega))
  ·show(atI x (n / 5 % (x.length:Int))).map _=_;rw[ej,atI_lt hj]
   rfl
 ·have t0:((d:Int) == 0)=false:=by rw[Qxy];omega
  rw[t0] at t;obtain⟨j,hj,ej⟩:=dig (n / 5) 3 (by decide);obtain⟨ds,hds,hl1,hl2⟩:∃ds,rngD [.int (1+(j:Int))]=some ds/\0<ds.length/\ds.length<=3:=by
   have hc:j=0\/j=1\/j=2:=by omega
   rcases hc with rfl|rfl|rfl
   ·exact⟨_,rfl,by decide,by decide⟩
   ·exact⟨_,rfl,by decide,by decide⟩
   ·exact⟨_,rfl,by decide,by decide⟩
  obtain⟨e',f1,n',kvs,zs,v3,v4,v5,rfl,hk,hz1,hz2⟩:=forO_inv' (g:=ak 3) (b:=aJ one (aJ K06.others putIt)) ds
   (λdone env=>∃n kvs zs v3 v4 v5,env=[Zl [.int n],Zs x,Zt (.dct kvs),v3,v4,v5]/\KvOk x kvs zs/\zs.length<=done.length/\(0<done.length->0<zs.length))
   (λdone s rest hall env ⟨n,kvs,zs,v3,v4,v5,he,hk,hz1,hz2⟩=>by
    subst he;have hdl:done.length<=3:=by have:=Qzq List.length hall;rw[Qqq,Qqk] at this;omega
    have hkl:kvs.length=zs.length:=by
     have:=Qzq List.length hk.keys
     rwa [Qqx,Qqx] at this
    obtain⟨p,n',w4,w5,hpv,hb⟩:=K06.round n x hx kvs (by omega) (Zf s) v4 v5;obtain⟨zs',hk',z1,z2⟩:=hk.put hpv (PV_fst hpv);exact⟨_,_,rfl,hb,n',_,zs',_,_,_,rfl,hk',by rw[Qqq,Qwq];omega,λ_=>z1⟩)
   [Zl [.int (n / 5 / 3)],Zs x,Zt (.dct []),Zn,Zn,Zn] ⟨_,[],[],_,_,_,rfl,⟨rfl,.nil,λc hc=>by simp at hc,λk v h=>by simp at h⟩,Qq0 _,λh=>h⟩
  have hz3:zs.length<=3:=Qqy hz1 hl2;have hok:=drawn_ok hx hk (hz2 hl1) hz3;refine⟨_,n',runIO_eq (env:=[Zl [.int n'],Zs x,Zt (.dct kvs),v3,v4,v5]) ?_ rfl,hok⟩;unfold K06.b_law_changes;refine(aC (e:=[Zl [.int (n / 5)],Zs x,Zn,Zn,Zn,Zn]) ((stIf_f t).trans rfl)).trans ?_;refine(aC (e:=[Zl [.int (n / 5)],Zs x,Zt (.dct []),Zn,Zn,Zn]) (by rfl)).trans ?_;refine(aC (e:=[Zl [.int n'],Zs x,Zt (.dct kvs),v3,v4,v5]) ?_).trans ?_
  ·refine(stFor_eq (ds:=ds) (e:=[Zl [.int (n / 5 / 3)],Zs x,Zt (.dct []),Zn,Zn,Zn]) ?_).trans f1;have a1:aa (aG bN (Zi 1) (evIO K06.bh 0 (aa (Zi 3) aj))) aj [Zl [.int (n / 5)],Zs x,Zt (.dct []),Zn,Zn,Zn] = .ok [.int (1+n / 5 % 3)] [Zl [.int (n / 5 / 3)],Zs x,Zt (.dct []),Zn,Zn,Zn]:=by rfl
   unfold evRng;rw[a1];show liftR (rngD [.int (1+n / 5 % ((3:Nat):Int))]) _=_;rw[ej,hds]
   rfl
  ·exact ch_tail (chOf_eq hk (Nat.le_succ_of_le hz3)) _ _ _ _ _
theorem rule(n:Int)(x:List Nat)(hx:x∈XS):∃w ch l r n',K06.f_law_rule [.lst [.int n],.str x]=some (.tup [w,ch,l,r],.lst [.int n'])/\RuleC x (.tup [w,ch,l,r]):=by
 obtain⟨d,hd,e⟩:=dig n 2 (by decide);obtain⟨w,hw,h1⟩:∃w,(w = .str [111,110,99,101]\/w = .str [97,108,111,110,103])/\cI (.lst [.str [111,110,99,101],.str [97,108,111,110,103]]) (.int (d:Int))=some w:=by
  have hc:d=0\/d=1:=by omega
  rcases hc with rfl|rfl
  ·exact⟨_,.inl rfl,rfl⟩
  ·exact⟨_,.inr rfl,rfl⟩
 obtain⟨ch,n1,h2,ps,hps,rfl⟩:=changes (n / 2) x hx;generalize hch:D.tup (ps.map enc2)=ch at *;obtain⟨l,n2,h5,h6⟩:=K06.signs n1 x hx;obtain⟨r,n3,h7,h8⟩:=K06.signs n2 x hx;refine⟨w,ch,l,r,n3,runIO_eq (env:=[Zl [.int n3],Zs x,Zf w,Zf ch]) ?_ rfl,?_⟩
 case refine_2=>obtain⟨g1,e1,s1⟩:=sok_of hx h6;obtain⟨g2,e2,s2⟩:=sok_of hx h8;exact⟨w,ps,g1,g2,by rw[<-hch,e1,e2],hw,hps,s1,s2⟩
 unfold K06.b_law_rule;refine(aC (e:=[Zl [.int (n / 2)],Zs x,Zf w,Zn]) ?_).trans ?_
 ·refine bK (d:=w) (e:=[Zl [.int (n / 2)],Zs x,Zn,Zn]) ?_ (by rfl);refine aN (x:=.lst [.str [111,110,99,101],.str [97,108,111,110,103]]) (y:=.int (n % 2)) (e1:=[Zl [.int n],Zs x,Zn,Zn]) (by rfl) (by rfl) ?_;have e2:n % 2=(d:Int):=e;rw[e2];exact h1
 refine(aC (e:=[Zl [.int n1],Zs x,Zf w,Zf ch]) ?_).trans ?_
 ·exact bK (d:=ch) (e:=[Zl [.int n1],Zs x,Zf w,Zn]) (evIO_eq (x:=.lst [.int (n / 2)]) (x0:=.lst [.int (n / 2)]) (ds:=[.str x]) (e1:=[Zl [.int (n / 2)],Zs x,Zf w,Zn]) (by rfl) (by rfl) (by rfl) h2) (by rfl)
 ·refine bH (evTup_eq (ds:=[w,ch,l,r]) (aD (d:=w) (e1:=[Zl [.int n1],Zs x,Zf w,Zf ch]) (by rfl) (aD (d:=ch) (e1:=[Zl [.int n1],Zs x,Zf w,Zf ch]) (by rfl) (aD (d:=l) (e1:=[Zl [.int n2],Zs x,Zf w,Zf ch]) ?_ (aD (d:=r) (e1:=[Zl [.int n3],Zs x,Zf w,Zf ch]) ?_ bA)))) Ev.zz4)
  ·exact evIO_eq (x:=.lst [.int n1]) (x0:=.lst [.int n1]) (ds:=[.str x]) (e1:=[Zl [.int n1],Zs x,Zf w,Zf ch]) (by rfl) (by rfl) (by rfl) h5
  ·exact evIO_eq (x:=.lst [.int n2]) (x0:=.lst [.int n2]) (ds:=[.str x]) (e1:=[Zl [.int n2],Zs x,Zf w,Zf ch]) (by rfl) (by rfl) (by rfl) h7
theorem order(n:Int)(x:List Nat)(hx:x∈XS)(m:Nat)(hm:m<=10):∃s Rs n',K14.f_law_order [.lst [.int n],.str x,.int (m:Int)]=some (.tup [s,.tup Rs],.lst [.int n'])/\s∈sides/\(∀R∈Rs,RuleC x R)/\Rs.length<=m:=by
 obtain⟨d,hd,e⟩:=dig n 2 (by decide);obtain⟨s,hs,h1⟩:∃s,s∈sides/\cI (.lst [.str [108,101,102,116],.str [114,105,103,104,116]]) (.int (d:Int))=some s:=by
  have hc:d=0\/d=1:=by omega
  rcases hc with rfl|rfl
  ·exact⟨_,Qqz ..,rfl⟩
  ·exact⟨_,Qqj _ (Qqz ..),rfl⟩
 obtain⟨j,hj,ej⟩:=dig (n / 2) (m+1) (by omega);obtain⟨Rs,env',g1,⟨n',v4,rfl⟩,g3,g4⟩:=K20.lcO_ex (g:=ak 4) (e:=evIO K14.f_law_rule 0 (Zv 1 aj)) (λenv=>∃n v4,env=[Zl [.int n],Zs x,Zf (.int (m:Int)),Zf s,v4]) (RuleC x) (cR 0 1 j)
  [Zl [.int (n / 2 / ((m+1:Nat):Int))],Zs x,Zf (.int (m:Int)),Zf s,Zn] ⟨_,_,rfl⟩
  (λt _ env ⟨n,v4,he⟩=>by
   subst he;obtain⟨wy,ch,l,r,n',h2,h3⟩:=rule n x hx;refine⟨.tup [wy,ch,l,r],_,[Zl [.int n'],Zs x,Zf (.int (m:Int)),Zf s,Zf t],rfl,?_,⟨_,_,rfl⟩,h3⟩;exact evIO_eq (x:=.lst [.int n]) (x0:=.lst [.int n]) (ds:=[.str x]) (e1:=[Zl [.int n],Zs x,Zf (.int (m:Int)),Zf s,Zf t]) (by rfl) (by rfl) (by rfl) h2)
 have hl:Rs.length=j:=by rw[stepsI_len] at g4;exact g4
 refine⟨s,Rs,n',runIO_eq (env:=[Zl [.int n'],Zs x,Zf (.int (m:Int)),Zf s]) ?_ rfl,hs,g3,by omega⟩;unfold K14.b_law_order;refine(aC (e:=[Zl [.int (n / 2)],Zs x,Zf (.int (m:Int)),Zf s]) ?_).trans ?_
 ·refine bK (d:=s) (e:=[Zl [.int (n / 2)],Zs x,Zf (.int (m:Int)),Zn]) ?_ (by rfl);refine aN (x:=.lst [.str [108,101,102,116],.str [114,105,103,104,116]]) (y:=.int (n % 2)) (e1:=[Zl [.int n],Zs x,Zf (.int (m:Int)),Zn]) (by rfl) (by rfl) ?_;have e2:n % 2=(d:Int):=e;rw[e2];exact h1
 refine bH (evTup_eq (ds:=[s,.tup Rs]) (aD (d:=s) (e1:=[Zl [.int (n / 2)],Zs x,Zf (.int (m:Int)),Zf s]) (by rfl) (aD ?_ bA)) Ev.zz2);refine aF (ds:=[.lst Rs]) (aD ?_ bA) rfl;refine evLC_eq (lo:=4) (n:=5) (ds:=cR 0 1 j) (aO:=[Zl [.int (n / 2 / ((m+1:Nat):Int))],Zs x,Zf (.int (m:Int)),Zf s]) (bZ:=[Zl [.int n'],Zs x,Zf (.int (m:Int)),Zf s,v4]) ?_ (by rfl) g1 (by rw[hl];exact Qqy (show j<=10 by omega) (by decide));refine K20.evRng_eq (ds:=[.int (n / 2 % ((m+1:Nat):Int))]) ?_ ?_
 ·refine aD (e1:=[Zl [.int (n / 2 / ((m+1:Nat):Int))],Zs x,Zf (.int (m:Int)),Zf s]) ?_ bA;exact evIO_eq (x:=.lst [.int (n / 2)]) (x0:=.lst [.int (n / 2)]) (ds:=[.int ((m+1:Nat):Int)]) (e1:=[Zl [.int (n / 2)],Zs x,Zf (.int (m:Int)),Zf s]) (by rfl) (by rfl) (by rfl) (K06.take_eq (n / 2) (m+1) (by omega) (by omega))
 ·have e2:n / 2 % ((m+1:Nat):Int)=(j:Int):=ej;rw[e2];exact K20.rng1 (by omega)
end K07
namespace KX
open Ev PySem L2 PySem.Spec
theorem at_iff(x y:List Nat)(k:Nat):StrLaws.At (strOf x) (strOf y) (strOf x).length k↔k+y.length<=x.length/\(x.drop k).take y.length=y:=by
 show(k+(strOf y).length<=(strOf x).length/\Builtin.Str.subAt (strOf x) (strOf y) k=true)↔_;rw[StrLaws.subAt_eq,bF,bF,beq_iff_eq];have e:∀z:List Nat,(strOf z).cps.toList=z:=λz=>by simp[strOf]
 rw[e,e]
theorem joinN_cons(sep p q:List Nat)(ps:List (List Nat)):joinN sep (p::q::ps)=p++sep++joinN sep (q::ps):=by
 have h:∀(r:List (List Nat)) (a b:List Nat),r.foldl (λacc y=>acc++sep++y) (a++b)=a++r.foldl (λacc y=>acc++sep++y) b:=by
  intro r
  induction r with
  | nil=>intro a b;rfl
  | cons y r ih=>intro a b;rw[Qz6,Qz6,Qw6,Qw6,ih,<-Qw6 b]
 show(q::ps).foldl (λacc y=>acc++sep++y) p=_;rw[Qz6];exact h ps (p++sep) q
theorem chain_nil{x y:Str}{hi a f:Nat}(h:StrLaws.ChainG x y hi a [] f):f=a:=by unfold StrLaws.ChainG at h;exact h
theorem parts_of{c:Nat}{r:List Nat}:∀(ps:List (List Nat)) (p:List Nat) (pre:List Nat) (cuts:List Nat) (f:Nat) (x:List Nat),x=pre++joinN (c::r) (p::ps)->(∀q∈p::ps,c ∉ q)->
  StrLaws.ChainG (strOf x) (strOf (c::r)) (strOf x).length pre.length cuts f->(∀k,f<=k->¬StrLaws.At (strOf x) (strOf (c::r)) (strOf x).length k)->
  (StrLaws.partsFrom (strOf x) (c::r).length pre.length cuts).map (λs=>s.cps.toList)=p::ps
 | [],p,pre,cuts,f,x,hx,hp,hc,hf=>by
  have hx':x=pre++p:=hx;have hn:∀k,pre.length<=k->¬StrLaws.At (strOf x) (strOf (c::r)) (strOf x).length k:=λk hk h=>by
   obtain⟨h1,h2⟩:=(at_iff x (c::r) k).mp h;have h3:x[k]? = some c:=by have:=Qzq List.head? h2;rw[Qqk,List.head?_take,if_neg (by omega),List.head?_drop] at this;exact this
   rw[hx',Qxz hk] at h3;exact hp p (Qqz ..) (Qz3 h3)
  cases cuts with
  | nil=>
   show [(Builtin.Str.strSub (strOf x) pre.length (strOf x).length).cps.toList]=[p];rw[StrLaws.strSub_toList,bF];have e:(strOf x).cps.toList=x:=by simp[strOf]
   rw[e,hx',List.drop_left,Qqq,Nat.add_sub_cancel_left,List.take_length]
  | cons i cs=>
   have h:=hc;unfold StrLaws.ChainG at h;exact absurd h.2.1 (hn i h.1)
 | q::ps,p,pre,cuts,f,x,hx,hp,hc,hf=>by
  rw[joinN_cons] at hx;have hpc:=hp p (Qqz ..);have hn:∀k,pre.length<=k->k<pre.length+p.length->¬StrLaws.At (strOf x) (strOf (c::r)) (strOf x).length k:=λk hk hk2 h=>by
   obtain⟨h1,h2⟩:=(at_iff x (c::r) k).mp h;have h3:x[k]? = some c:=by have:=Qzq List.head? h2;rw[Qqk,List.head?_take,if_neg (by omega),List.head?_drop] at this;exact this
   rw[hx,Qxz hk,Qw6,Qw3 (by omega)] at h3;exact hpc (Qz3 h3)
  have ha:StrLaws.At (strOf x) (strOf (c::r)) (strOf x).length (pre.length+p.length):=by
   refine(at_iff x (c::r) _).mpr ⟨?_,?_⟩
   ·rw[hx,Qqq,Qqq,Qqq];omega
   ·have e:x=(pre++p)++((c::r)++joinN (c::r) (q::ps)):=by rw[hx];simp
    rw[e,<-Qqq,List.drop_left,List.take_left]
  cases cuts with
  | nil=>
   have h:=chain_nil hc;subst h;exact absurd ha (hf _ (Nat.le_add_right _ _))
  | cons i cs=>
   have h:=hc;unfold StrLaws.ChainG at h;obtain⟨h1,h2,h3,h4⟩:=h;have hi:i=pre.length+p.length:=by
    rcases Nat.lt_trichotomy i (pre.length+p.length) with l|l|l
    ·exact absurd h2 (hn i h1 l)
    ·exact l
    ·exact absurd ha (h3 _ (Nat.le_add_right _ _) l)
   subst hi;show(Builtin.Str.strSub (strOf x) pre.length (pre.length+p.length)).cps.toList::(StrLaws.partsFrom (strOf x) (c::r).length (pre.length+p.length+(c::r).length) cs).map (λs=>s.cps.toList)=_;have e0:(strOf x).cps.toList=x:=by simp[strOf]
   have e1:(Builtin.Str.strSub (strOf x) pre.length (pre.length+p.length)).cps.toList=p:=by rw[StrLaws.strSub_toList,e0,hx,List.drop_left,Nat.add_sub_cancel_left,Qw6,List.take_left]
   have e2:pre.length+p.length+(c::r).length=(pre++p++(c::r)).length:=by rw[Qqq,Qqq]
   have e3:(strOf (c::r)).length=(c::r).length:=bF _;rw[e3,e2] at h4;rw[e1,e2,parts_of ps q (pre++p++(c::r)) cs f x (by rw[hx];simp) (λz hz=>hp z (Qqj _ hz)) h4 hf]
theorem split_join{c:Nat}{r:List Nat}(hk:∀z,¬Builtin.Str.strKind z<Builtin.Str.strKind (strOf (c::r)))(p:List Nat)(ps:List (List Nat))(hp:∀q∈p::ps,c ∉ q):splitX (joinN (c::r) (p::ps)) (c::r)=p::ps:=by
 unfold splitX Txt.split;generalize hx:joinN (c::r) (p::ps)=x;obtain⟨f,h1,h2⟩:=StrLaws.occ_tight (strOf x) (strOf (c::r)) (by rw[bF,Qqk];omega);have key:=parts_of (c:=c) (r:=r) ps p [] _ f x (by rw[<-hx];rfl) hp h1 h2;split
 ·rename_i hc;have hl:x.length<(c::r).length:=by
   rcases Bool.or_eq_true_iff.mp hc with h|h
   ·have:=Qq7 h;rw[bF,bF] at this;exact this
   ·exact absurd (Qq7 h) (hk _)
  cases ps with
  | nil=>
   have:x=p:=hx.symm;show [(strOf x).cps.toList]=[p];rw[this];simp[strOf]
  | cons q ps=>
   rw[joinN_cons] at hx;rw[<-hx,Qqq,Qqq] at hl;omega
 ·split
  ·rename_i h0 he;have e:=List.isEmpty_iff.mp he;rw[e] at key;have:[(Builtin.Str.strSub (strOf x) 0 (strOf x).length).cps.toList]=p::ps:=key;rw[<-this,StrLaws.strSub_toList];have e0:(strOf x).cps.toList=x:=by simp[strOf]
   rw[e0,bF];simp[e0]
  ·rw[StrLaws.partsBetween_eq,bF];exact key
theorem kind_le(z:Str)(y:Str)(h:Builtin.Str.strKind y=1):¬Builtin.Str.strKind z<Builtin.Str.strKind y:=by rw[h];unfold Builtin.Str.strKind;split<;>(try split)<;>(try split)<;>omega
open Ev PySem L2
open K06 (strsD_map)
structure Few(xs:List (List Nat))(n m:Nat):Prop where
 len:xs.length<=n
 each:∀p∈xs,p.length<=m
theorem sum_le{m:Nat}:∀(xs:List (List Nat)),(∀p∈xs,p.length<=m)->(xs.map List.length).sum<=xs.length*m
 | [],_=>by simp
 | p::xs,h=>by
  rw[Qwz,List.sum_cons,Qqk,Nat.succ_mul,Nat.add_comm];exact Nat.add_le_add (sum_le xs λq hq=>h q (Qqj _ hq)) (h p (Qqz ..))
theorem Few.sum{xs:List (List Nat)}{n m:Nat}(h:Few xs n m):(xs.map List.length).sum<=n*m:=
 Qqy (sum_le xs h.each) (Nat.mul_le_mul_right _ h.len)
theorem joinN_len(sep:List Nat):∀xs:List (List Nat),(joinN sep xs).length<=(xs.map List.length).sum+xs.length*sep.length
 | []=>Qx3 _
 | [p]=>by show p.length<=_;simp
 | p::q::r=>by
  have:=joinN_len sep (q::r);rw[joinN_cons,Qqq,Qqq,Qwz,List.sum_cons,Qqk,Nat.succ_mul];omega
theorem Few.join{xs:List (List Nat)}{n m:Nat}(h:Few xs n m){sep:List Nat}(hs:sep.length<=2):(joinN sep xs).length<=n*m+n*2:=
 Qqy (joinN_len sep xs) (Nat.add_le_add h.sum (Nat.mul_le_mul h.len hs))
theorem Few.fits{xs:List (List Nat)}{n m:Nat}(h:Few xs n m){sep:List Nat}(hs:sep.length<=2)(hb:n*m+n*2<=100000):joinFits sep xs=true:=
 Qw9 (Qqy (Qqy (Nat.add_le_add h.sum (Nat.mul_le_mul h.len hs)) hb) (by decide))
theorem join_l{xs:List (List Nat)}{n m:Nat}(h:Few xs n m){sep:List Nat}(hs:sep.length<=2)(hb:n*m+n*2<=100000):gJoin (.str sep) (.lst (xs.map .str))=some (.str (joinN sep xs)):=by show(match strsD (xs.map D.str) with|some xs=>if joinFits sep xs=true then some (D.str (joinN sep xs)) else none|none=>none)=_;rw[strsD_map];exact if_pos (h.fits hs hb)
theorem join_t{xs:List (List Nat)}{n m:Nat}(h:Few xs n m){sep:List Nat}(hs:sep.length<=2)(hb:n*m+n*2<=100000):gJoinT (.str sep) (.tup (xs.map .str))=some (.str (joinN sep xs)):=by show(match strsD (xs.map D.str) with|some xs=>if joinFits sep xs=true then some (D.str (joinN sep xs)) else none|none=>none)=_;rw[strsD_map];exact if_pos (h.fits hs hb)
theorem split_l{c:Nat}{r p:List Nat}{ps:List (List Nat)}{n m:Nat}(hk:Builtin.Str.strKind (strOf (c::r))=1)(h:Few (p::ps) n m)(hr:r.length<=1)(hb:n*m+n*2<=100000)(hn:n<=100000)(hm:m<=100000)(hp:∀q∈p::ps,c ∉ q) :
  gSplit (.str (joinN (c::r) (p::ps))) (.str (c::r))=some (.lst ((p::ps).map .str)):=by
 have e:=split_join (c:=c) (r:=r) (λz=>kind_le z _ hk) p ps hp;have hz:(100000:Nat)<=sizeLine:=by decide
 show(if _ then some (D.lst ((splitX (joinN (c::r) (p::ps)) (c::r)).map .str)) else none)=_;rw[e];refine if_pos ⟨List.cons_ne_nil _ _,?_,?_,?_⟩
 ·exact Qqy (Qqy (h.join (by rw[Qqk];omega)) hb) hz
 ·exact Qqy (Qqy h.len hn) hz
 ·exact λq hq=>Qqy (Qqy (h.each q hq) hm) hz
theorem place_app{z:List Nat}:∀(a b:List (List Nat)),z ∉ a->placeX z (a++z::b)=some a.length
 | [],b,_=>by show(if z=z then _ else _)=_;rw[if_pos rfl];rfl
 | y::a,b,h=>by
  show(if y=z then some 0 else (placeX z (a++z::b)).map (·+ 1))=_;rw[if_neg λe=>h (by rw[e];exact Qqz ..),place_app a b λq=>h (Qqj _ q)]
  rfl
theorem index_l{z:List Nat}{a b:List (List Nat)}(h:z ∉ a):gLIndex (.lst ((a++z::b).map .str)) (.str z)=some (.int (a.length:Nat)):=by
 show(strsD ((a++z::b).map D.str)).bind _=_;rw[strsD_map];show(placeX z (a++z::b)).map _=_;rw[place_app a b h]
 rfl
theorem inL_strs(z:List Nat):∀xs:List (List Nat),inL (.str z) (xs.map .str)=some (decide (z∈xs))
 | []=>by simp[inL]
 | y::xs=>by
  have e:bI 59 (.str y) (.str z)=some (y == z):=rfl;rw[Qwz];unfold inL;rw[e,inL_strs z xs];show some ((y == z)||decide (z∈xs))=_
  congr 1
  by_cases h:y=z
  ·subst h;simp
  ·have h':¬z=y:=λe=>h e.symm;simp[h,h']
theorem notIn_l{z:List Nat}{xs:List (List Nat)}(h:z∈xs):gNotIn (.str z) (.lst (xs.map .str))=some (.bl false):=by
 show(match seqOf (.lst (xs.map D.str)) with|some ys=>(inL (.str z) ys).map (λb=>D.bl (!b))|none=>none).or _=_;show((inL (.str z) (xs.map D.str)).map (λb=>D.bl (!b))).or _=_;rw[inL_strs,Qw9 h]
 rfl
theorem cut_to{α:Type}(xs:List α)(k:Nat):cutD xs none (some (k:Int))=xs.take k:=by unfold cutD;rw[HT.sIx_nat];show(xs.drop 0).take (min k xs.length - 0)=_;rw[List.drop_zero,Nat.sub_zero];exact List.take_eq_take_min.symm
theorem cut_from{α:Type}(xs:List α)(k:Nat):cutD xs (some (k:Int)) none=xs.drop k:=by
 unfold cutD;rw[HT.sIx_nat];show(xs.drop (min k xs.length)).take (xs.length - min k xs.length)=_;by_cases h:k<=xs.length
 ·rw[Nat.min_eq_left h,List.take_of_length_le (by rw[Qx6];omega)]
 ·rw[Nat.min_eq_right (by omega),List.drop_length,List.drop_of_length_le (by omega),List.take_nil]
theorem cut_mid{α:Type}(xs:List α)(j k:Nat)(hj:j<=xs.length):cutD xs (some (j:Int)) (some (k:Int))=(xs.drop j).take (k - j):=by unfold cutD;rw[HT.sIx_nat,HT.sIx_nat,Nat.min_eq_left hj,List.take_eq_take_iff,Qx6];omega
end KX
namespace K76
open Ev PySem L2
open K07 (Pt enc2 cN)
open KX (Few)
structure Q where
 w:List Nat
 ps:List Pt
 l:Option (List Nat)
 r:Option (List Nat)
def cC(q:Q):D:=.tup [.str q.w,.tup (q.ps.map enc2),cN q.l,cN q.r]
def sho:List Nat->List Nat
 | []=>[48]
 | c::t=>c::t
def sgt:Option (List Nat)->List Nat
 | none=>[42]
 | some z=>z
def chT(p:Pt):List Nat:=sho p.1++[62]++sho p.2
def wds(q:Q):List (List Nat):=(q.w::q.ps.map chT)++[47]::[sgt q.l,[95],sgt q.r]
def txt(q:Q):List Nat:=joinN [32] (wds q)
def Ltr(c:Nat):Prop:=97<=c/\c<=122
def Snd(z:List Nat):Prop:=z=[]\/∃c,z=[c]/\Ltr c
def Sg(g:Option (List Nat)):Prop:=∀z,g=some z->z≠[]/\z.length<=5/\∀c∈z,c=35\/Ltr c
structure Ok(q:Q):Prop where
 w:q.w=[111,110,99,101]\/q.w=[97,108,111,110,103]
 n:q.ps.length<=4
 p:∀p∈q.ps,Snd p.1/\Snd p.2
 l:Sg q.l
 r:Sg q.r
theorem sho_is{z:List Nat}(h:Snd z):∃a,sho z=[a]/\(a=48\/Ltr a)/\(z=[]↔a=48):=by
 rcases h with rfl|⟨c,rfl,h⟩
 ·exact⟨48,rfl,.inl rfl,by simp⟩
 ·exact⟨c,rfl,.inr h,⟨λe=>absurd e (List.cons_ne_nil _ _),λe=>absurd h.1 (by omega)⟩⟩
theorem chT_is{p:Pt}(h:Snd p.1/\Snd p.2):∃a b,chT p=[a,62,b]/\sho p.1=[a]/\sho p.2=[b]/\(a=48\/Ltr a)/\(b=48\/Ltr b):=by obtain⟨a,e1,h1,_⟩:=sho_is h.1;obtain⟨b,e2,h2,_⟩:=sho_is h.2;exact⟨a,b,by unfold chT;rw[e1,e2];rfl,e1,e2,h1,h2⟩
theorem sgt_is{g:Option (List Nat)}(h:Sg g):(sgt g).length<=5/\∀c∈sgt g,c=42\/c=35\/Ltr c:=by
 cases g with
 | none=>exact⟨by decide,λc hc=>.inl (Qq2.mp hc)⟩
 | some z=>exact⟨(h z rfl).2.1,λc hc=>.inr ((h z rfl).2.2 c hc)⟩
theorem w_is{w:List Nat}(h:w=[111,110,99,101]\/w=[97,108,111,110,103]):w.length<=5/\∀c∈w,Ltr c:=by
 rcases h with rfl|rfl
 ·exact⟨by decide,by unfold Ltr;decide⟩
 ·exact⟨by decide,by unfold Ltr;decide⟩
def Sgn(c:Nat):Prop:=c≠32/\c≠59
theorem wds_few{q:Q}(h:Ok q):Few (wds q) 9 5:=by
 have hw:=(w_is h.w).1;have hl:=(sgt_is h.l).1;have hr:=(sgt_is h.r).1;have hn:=h.n;refine⟨?_,λz hz=>?_⟩
 ·unfold wds;rw[Qqq,Qqk,Qqx];show q.ps.length+1+4<=9;omega
 ·unfold wds at hz;rcases Qw4.mp hz with hz|hz
  ·rcases Qq3.mp hz with rfl|hz
   ·exact hw
   ·obtain⟨p,hp,rfl⟩:=Qq8.mp hz;obtain⟨a,b,e,_⟩:=chT_is (h.p p hp);rw[e];exact(by decide:3<=5)
  ·simp only[Qq3,Qxk,Qj6] at hz;rcases hz with rfl|rfl|rfl|rfl
   ·decide
   ·exact hl
   ·decide
   ·exact hr
theorem wds_sgn{q:Q}(h:Ok q):∀z∈wds q,∀c∈z,Sgn c:=by
 intro z hz c hc;unfold wds at hz;rcases Qw4.mp hz with hz|hz
 ·rcases Qq3.mp hz with rfl|hz
  ·have:=(w_is h.w).2 c hc;unfold Ltr at this;unfold Sgn;omega
  ·obtain⟨p,hp,rfl⟩:=Qq8.mp hz;obtain⟨a,b,e,_,_,h1,h2⟩:=chT_is (h.p p hp);rw[e] at hc;unfold Ltr at h1 h2;unfold Sgn;simp only[Qq3,Qxk,Qj6] at hc;omega
 ·simp only[Qq3,Qxk,Qj6] at hz;rcases hz with rfl|rfl|rfl|rfl
  ·rw[Qq2.mp hc];unfold Sgn;decide
  ·have:=(sgt_is h.l).2 c hc;unfold Ltr at this;unfold Sgn;omega
  ·rw[Qq2.mp hc];unfold Sgn;decide
  ·have:=(sgt_is h.r).2 c hc;unfold Ltr at this;unfold Sgn;omega
theorem join_sgn(sep:List Nat)(P:Nat->Prop)(hs:∀c∈sep,P c):∀xs:List (List Nat),(∀z∈xs,∀c∈z,P c)->∀c∈joinN sep xs,P c
 | [],_,c,hc=>by simp[joinN] at hc
 | [p],h,c,hc=>h p (Qqz ..) c hc
 | p::q::r,h,c,hc=>by
  rw[KX.joinN_cons] at hc;rcases Qw4.mp hc with hc|hc
  ·rcases Qw4.mp hc with hc|hc
   ·exact h p (Qqz ..) c hc
   ·exact hs c hc
  ·exact join_sgn sep P hs (q::r) (λz hz=>h z (Qqj _ hz)) c hc
theorem txt_sgn{q:Q}(h:Ok q):59 ∉ txt q:=λhc=>join_sgn [32] (λc=>c≠59) (by decide) (wds q) (λz hz c hc=>(wds_sgn h z hz c hc).2) 59 hc rfl
theorem txt_len{q:Q}(h:Ok q):(txt q).length<=63:=Qqy ((wds_few h).join (by decide)) (by decide)
theorem evFmt_eq{c u v:List Nat}{a b:Ev}{env e1 e2:Ev.Env}(h1:a env = .ok (.str u) e1)(h2:b e1 = .ok (.str v) e2)(hz:u.length+c.length+v.length<=sizeLine):evFmt c a b env = .ok (.str (u++c++v)) e2:=by unfold evFmt;rw[h1];show bindR (b e1) _=_;rw[h2];show(if u.length+c.length+v.length<=sizeLine then _ else _)=_;rw[if_pos hz]
theorem show_sound(z:List Nat):f_show_sound [.str z]=some (.str (sho z)):=by cases z<;>rfl
theorem join_signs:∀z:List Nat,joinN [] (z.map λc=>[c])=z
 | []=>rfl
 | [c]=>rfl
 | c::d::r=>by
  have:=join_signs (d::r);rw[Qwz] at this;rw[Qwz,Qwz,KX.joinN_cons,this]
  rfl
theorem signs_few{z:List Nat}(h:z.length<=5):Few (z.map λc=>[c]) 5 1:=
 ⟨by rw[Qqx];exact h,λp hp=>by obtain⟨c,_,rfl⟩:=Qq8.mp hp;exact Qq0 _⟩
theorem join_sgs{z:List Nat}(h:z.length<=5):gJoinT (.str []) (.tup (sgs z))=some (.str z):=by have e:=KX.join_t (signs_few h) (sep:=[]) (by decide) (by decide);rw[join_signs,Qz4] at e;exact e
theorem show_signs{g:Option (List Nat)}(h:Sg g):f_show_signs [cN g]=some (.str (sgt g)):=by
 cases g with
 | none=>rfl
 | some z=>
  refine bV (env:=[(Zf (.tup (sgs z)))]) (bH ?_);show(evIf _ _ _) [(Zf (.tup (sgs z)))]=_;unfold evIf;show aG gJoinT (Zw []) (bB 0) [(Zf (.tup (sgs z)))]=_;exact aN (x:=.str []) (y:=.tup (sgs z)) rfl rfl (join_sgs (h z rfl).2.1)
theorem law_signs_text{g:Option (List Nat)}(h:Sg g):f_law_signs_text [cN g]=some (.str (sgt g)):=by
 cases g with
 | none=>rfl
 | some z=>
  refine bV (env:=[(Zf (.tup (sgs z)))]) ?_;unfold b_law_signs_text;refine(aC (e:=[(Zf (.tup (sgs z)))]) rfl).trans (bH ?_);exact aN (x:=.str []) (y:=.tup (sgs z)) rfl rfl (join_sgs (h z rfl).2.1)
theorem lcO_enc{α:Type}{g:GV}{e:Ev}(P:Ev.Env->Prop)(enc out:α->D):∀(l:List α) (env:Ev.Env),P env->(∀a∈l,∀env,P env->∃e1 e2,g (enc a) env=some e1/\e e1 = .ok (out a) e2/\P e2)->∃env',lcO g cA e (l.map enc) env = .ok (l.map out) env'/\P env'
 | [],env,hp,_=>⟨env,rfl,hp⟩
 | a::l,env,hp,h=>by
  obtain⟨e1,e2,h1,h2,h3⟩:=h a (Qqz ..) env hp;obtain⟨env',h4,h5⟩:=lcO_enc P enc out l e2 h3 λb hb=>h b (Qqj _ hb);refine⟨env',?_,h5⟩;rw[Qwz,Qwz];unfold lcO;rw[h1];show bindR (e e1) _=_;rw[h2];show bindR (lcO g cA e (l.map enc) e2) _=_;rw[h4]
  rfl
theorem map2(f:Pt->List Nat)(ps:List Pt):ps.map (λp=>D.str (f p))=(ps.map f).map D.str:=by rw[Qz4];rfl
theorem show_rule{q:Q}(h:Ok q):f_show_rule [cC q]=some (.str (txt q)):=by
 have L:lc_show_rule_1 [Zf (cC q),Zs q.w,(Zf (.tup (q.ps.map enc2))),Zf (cN q.l),Zf (cN q.r),Zn] = .ok (.lst ((q.ps.map chT).map .str)) [Zf (cC q),Zs q.w,(Zf (.tup (q.ps.map enc2))),Zf (cN q.l),Zf (cN q.r),Zn]:=by
  obtain⟨env',h1,v6,v7,rfl⟩:=lcO_enc (g:=gvTup 2 (aV (ak 6) (aV (ak 7) gvNil))) (e:=evFmt [62] (ao f_show_sound (Zv 6 aj)) (ao f_show_sound (Zv 7 aj)))
   (λenv=>∃v6 v7,env=[Zf (cC q),Zs q.w,(Zf (.tup (q.ps.map enc2))),Zf (cN q.l),Zf (cN q.r),Zn,v6,v7]) enc2 (λp=>.str (chT p)) q.ps [Zf (cC q),Zs q.w,(Zf (.tup (q.ps.map enc2))),Zf (cN q.l),Zf (cN q.r),Zn,Zn,Zn] ⟨none,Zn,rfl⟩
   (λp hp env ⟨v6,v7,he⟩=>by
    subst he;obtain⟨a,b,_,e1,e2,_⟩:=chT_is (h.p p hp);refine⟨[Zf (cC q),Zs q.w,(Zf (.tup (q.ps.map enc2))),Zf (cN q.l),Zf (cN q.r),Zn,Zs p.1,Zs p.2],[Zf (cC q),Zs q.w,(Zf (.tup (q.ps.map enc2))),Zf (cN q.l),Zf (cN q.r),Zn,Zs p.1,Zs p.2],rfl,?_,_,_,rfl⟩;refine evFmt_eq (aF (ds:=[.str p.1]) rfl (show_sound p.1)) (aF (ds:=[.str p.2]) rfl (show_sound p.2)) ?_;rw[e1,e2];show 3<=sizeLine
    decide)
  rw[map2] at h1;exact evLC_eq (lo:=6) (n:=8) (ds:=q.ps.map enc2) (ys:=(q.ps.map chT).map .str) (aO:=[Zf (cC q),Zs q.w,(Zf (.tup (q.ps.map enc2))),Zf (cN q.l),Zf (cN q.r),Zn]) rfl rfl h1 (by rw[Qqx,Qqx];exact Qqy h.n (by decide))
 have h4:=h.n;refine bV (env:=[Zf (cC q),Zs q.w,(Zf (.tup (q.ps.map enc2))),Zf (cN q.l),Zf (cN q.r),(Zl ((q.ps.map chT).map .str))]) ?_;unfold b_show_rule;refine(aC (e:=[Zf (cC q),Zs q.w,(Zf (.tup (q.ps.map enc2))),Zf (cN q.l),Zf (cN q.r),Zn]) rfl).trans ?_;refine(aC (stOwn_eq L)).trans ?_;refine bH (aN (x:=.str [32]) (y:=.lst ((wds q).map .str)) (e1:=[Zf (cC q),Zs q.w,(Zf (.tup (q.ps.map enc2))),Zf (cN q.l),Zf (cN q.r),(Zl ((q.ps.map chT).map .str))]) rfl ?_ (KX.join_l (wds_few h) (by decide) (by decide)));refine aN (x:=.lst ((q.w::q.ps.map chT).map .str)) (y:=.lst ([[47],sgt q.l,[95],sgt q.r].map .str)) (e1:=[Zf (cC q),Zs q.w,(Zf (.tup (q.ps.map enc2))),Zf (cN q.l),Zf (cN q.r),(Zl ((q.ps.map chT).map .str))]) ?_ ?_ ?_
 ·refine aN (x:=.lst [.str q.w]) (y:=.lst ((q.ps.map chT).map .str)) (e1:=[Zf (cC q),Zs q.w,(Zf (.tup (q.ps.map enc2))),Zf (cN q.l),Zf (cN q.r),(Zl ((q.ps.map chT).map .str))]) rfl rfl ?_;refine(gAddL_eq ?_).trans rfl;rw[Qqx,Qqx];show 1+q.ps.length<=sizeLine;exact Qqy (Nat.add_le_add_left h4 1) (by decide)
 ·refine evLst_eq (aD (d:=.str [47]) (e1:=[Zf (cC q),Zs q.w,(Zf (.tup (q.ps.map enc2))),Zf (cN q.l),Zf (cN q.r),(Zl ((q.ps.map chT).map .str))]) rfl (aD (aF (ds:=[cN q.l]) (e:=[Zf (cC q),Zs q.w,(Zf (.tup (q.ps.map enc2))),Zf (cN q.l),Zf (cN q.r),(Zl ((q.ps.map chT).map .str))]) rfl (show_signs h.l)) (aD (d:=.str [95]) (e1:=[Zf (cC q),Zs q.w,(Zf (.tup (q.ps.map enc2))),Zf (cN q.l),Zf (cN q.r),(Zl ((q.ps.map chT).map .str))]) rfl (aD (aF (ds:=[cN q.r]) rfl (show_signs h.r)) bA)))) Ev.zz4
 ·refine(gAddL_eq ?_).trans ?_
  ·rw[Qqx,Qqk,Qqx];show q.ps.length+1+4<=sizeLine;exact Qqy (Nat.add_le_add_right (Nat.add_le_add_right h4 1) 4) (by decide)
  ·unfold wds;rw[Qxj]
theorem fold_app(xs ys:List (List Nat))(a:List Nat):joinN [32] ((a::xs)++ys)=ys.foldl (λacc y=>acc++[32]++y) (joinN [32] (a::xs)):=by
 show(xs++ys).foldl (λacc y=>acc++[32]++y) a=_;rw[List.foldl_append]
 rfl
theorem ix0{z:List Nat}(h:Snd z):cI (.str (z++[48])) (.int 0)=some (.str (sho z)):=by rcases h with rfl|⟨c,rfl,h⟩<;>rfl
theorem gAddSS{a b:List Nat}(h:a.length+b.length<=100000):bN (.str a) (.str b)=some (.str (a++b)):=if_pos (Qqy h (by decide))
theorem rt_loop(A0 A1 A2 A3 A4:OD):∀(ps:List Pt) (acc:List Nat) (v6 v7:OD),(∀p∈ps,Snd p.1/\Snd p.2)->acc.length+4*ps.length<=1000->
  ∃w6 w7,forO (gvTup 2 (aV (ak 6) (aV (ak 7) gvNil))) lb_law_rule_text_1 (ps.map enc2) [A0,A1,A2,A3,A4,Zs acc,v6,v7] = .nx [A0,A1,A2,A3,A4,(Zs ((ps.map chT).foldl (λacc y=>acc++[32]++y) acc)),w6,w7]
 | [],acc,v6,v7,_,_=>⟨v6,v7,rfl⟩
 | p::ps,acc,v6,v7,h,hl=>by
  have hp:=h p (Qqz ..);obtain⟨a,b,e,e1,e2,_⟩:=chT_is hp;rw[Qqk] at hl;have hb:lb_law_rule_text_1 [A0,A1,A2,A3,A4,Zs acc,Zs p.1,Zs p.2] = .nx [A0,A1,A2,A3,A4,Zs (acc++[32]++chT p),Zs p.1,Zs p.2]:=by
   generalize hE:([A0,A1,A2,A3,A4,Zs acc,Zs p.1,Zs p.2]:Ev.Env)=env;have l1:p.1.length<=1:=by rcases hp.1 with z|⟨c,z,_⟩<;>rw[z]<;>simp
   have l2:p.2.length<=1:=by rcases hp.2 with z|⟨c,z,_⟩<;>rw[z]<;>simp
   have s1:aq bN 5 (Zw [32]) env = .ok (.str (acc++[32])) env:=evBF (x:=.str acc) (by rw[<-hE];rfl) rfl (by rw[<-hE];rfl) (gAddSS (by show acc.length+1<=_;omega));have s2:aG cI (aq bN 6 (Zw [48])) (Zi 0) env = .ok (.str (sho p.1)) env:=aN (y:=.int 0) (evBF (x:=.str p.1) (by rw[<-hE];rfl) rfl (by rw[<-hE];rfl) (gAddSS (by show p.1.length+1<=_;omega))) rfl (ix0 hp.1);have s3:aG cI (aq bN 7 (Zw [48])) (Zi 0) env = .ok (.str (sho p.2)) env:=aN (y:=.int 0) (evBF (x:=.str p.2) (by rw[<-hE];rfl) rfl (by rw[<-hE];rfl) (gAddSS (by show p.2.length+1<=_;omega))) rfl (ix0 hp.2);unfold lb_law_rule_text_1;refine bK (d:=.str (acc++[32]++chT p)) (e:=env) ?_ (by rw[<-hE];rfl);refine aN (x:=.str (acc++[32]++sho p.1++[62])) (aN (x:=.str (acc++[32]++sho p.1)) (aN s1 s2 (gAddSS ?_)) (y:=.str [62]) rfl (gAddSS ?_)) s3 ?_
   ·rw[e1,Qqq];show acc.length+1+1<=_;omega
   ·rw[e1,Qqq,Qqq];show acc.length+1+1+1<=_;omega
   ·refine(gAddSS ?_).trans ?_
    ·rw[e1,e2,Qqq,Qqq,Qqq];show acc.length+1+1+1+1<=_;omega
    ·unfold chT;simp only[Qw6]
  obtain⟨w6,w7,hf⟩:=rt_loop A0 A1 A2 A3 A4 ps (acc++[32]++chT p) (Zs p.1) (Zs p.2) (λq hq=>h q (Qqj _ hq)) (by rw[Qqq,Qqq,e];show acc.length+1+3+4*ps.length<=1000;omega);refine⟨w6,w7,?_⟩;rw[Qwz,Qwz,Qz6];unfold forO;show(match lb_law_rule_text_1 [A0,A1,A2,A3,A4,Zs acc,Zs p.1,Zs p.2] with|.nx e2=>forO _ lb_law_rule_text_1 (ps.map enc2) e2|.ct e2=>_|.bk e2=>_|.rt o d e2=>_|.stuck=>_)=_;rw[hb];exact hf
theorem law_rule_text{q:Q}(h:Ok q):f_law_rule_text [cC q]=some (.str (txt q)):=by
 have hw:=(w_is h.w).1;have hl:=(sgt_is h.l).1;have hr:=(sgt_is h.r).1;have h4:=h.n;obtain⟨w6,w7,hf⟩:=rt_loop (Zf (cC q)) (Zs q.w) (Zf (.tup (q.ps.map enc2))) (Zf (cN q.l)) (Zf (cN q.r)) q.ps q.w none none h.p (by omega);have hj:(q.ps.map chT).foldl (λacc y=>acc++[32]++y) q.w=joinN [32] (q.w::q.ps.map chT):=rfl;rw[hj] at hf;have ht:txt q=joinN [32] (q.w::q.ps.map chT)++[32,47,32]++sgt q.l++[32,95,32]++sgt q.r:=by unfold txt wds;rw[fold_app];show joinN [32] (q.w::q.ps.map chT)++[32]++[47]++[32]++sgt q.l++[32]++[95]++[32]++sgt q.r=_;simp
 have hlen:(joinN [32] (q.w::q.ps.map chT)).length<=63:=by have:=txt_len h;rw[ht] at this;simp only[Qqq] at this;omega
 generalize joinN [32] (q.w::q.ps.map chT)=J at hf ht hlen;refine bV (env:=[Zf (cC q),Zs q.w,(Zf (.tup (q.ps.map enc2))),Zf (cN q.l),Zf (cN q.r),Zs J,w6,w7]) ?_;unfold b_law_rule_text;refine(aC (e:=[Zf (cC q),Zs q.w,(Zf (.tup (q.ps.map enc2))),Zf (cN q.l),Zf (cN q.r),Zn,Zn,Zn]) rfl).trans ?_;refine(aC (e:=[Zf (cC q),Zs q.w,(Zf (.tup (q.ps.map enc2))),Zf (cN q.l),Zf (cN q.r),Zs q.w,Zn,Zn]) rfl).trans ?_;refine(aC ((stFor_eq (ds:=q.ps.map enc2) rfl).trans hf)).trans ?_;generalize hE:([Zf (cC q),Zs q.w,(Zf (.tup (q.ps.map enc2))),Zf (cN q.l),Zf (cN q.r),Zs J,w6,w7]:Ev.Env)=env;have s1:aq bN 5 (Zw [32,47,32]) env = .ok (.str (J++[32,47,32])) env:=evBF (x:=.str J) (by rw[<-hE];rfl) rfl (by rw[<-hE];rfl) (gAddSS (by show J.length+3<=_;omega));have s2:ao f_law_signs_text (Zv 3 aj) env = .ok (.str (sgt q.l)) env:=aF (ds:=[cN q.l]) (by rw[<-hE];rfl) (law_signs_text h.l);have s3:ao f_law_signs_text (Zv 4 aj) env = .ok (.str (sgt q.r)) env:=aF (ds:=[cN q.r]) (by rw[<-hE];rfl) (law_signs_text h.r);rw[ht];refine bH (aN (x:=.str (J++[32,47,32]++sgt q.l++[32,95,32])) (aN (x:=.str (J++[32,47,32]++sgt q.l)) (aN s1 s2 (gAddSS ?_)) (y:=.str [32,95,32]) rfl (gAddSS ?_)) s3 (gAddSS ?_))
 ·rw[Qqq];show J.length+3+_<=_;omega
 ·rw[Qqq,Qqq];show J.length+3+_+3<=_;omega
 ·rw[Qqq,Qqq,Qqq];show J.length+3+_+3+_<=_;omega
open K06 (XS XS_len known stockBody stMarks mk mk_lst marks stApp_eq isT isT_ok)
def mok(ms:List (List Nat)):Bool:=
 ([97,98,99,101,112,116,109,110,122].all λc=>isT (f_is_marked_sound [.tup [.str [c],.tup (ms.map .str)]]))&&decide (ms.length<=4)&&ms.all (λz=>decide (z.length<=8)&&z.all λc=>decide (97<=c)&&decide (c<=122))
def decS:D->Option (List Nat)
 | .str z=>some z
 | _=>none
def decT:List D->Option (List (List Nat))
 | []=>some []
 | d::r=>match decS d,decT r with
  | some c,some z=>some (c::z)
  | _,_=>none
def decM:D->Option (List (List Nat))
 | .tup ds=>decT ds
 | _=>none
theorem decS_ok{d:D}{z:List Nat}(h:decS d=some z):d = .str z:=by
 unfold decS at h;split at h
 ·cases h;rfl
 ·cases h
theorem decT_ok:∀{ds:List D} {z:List (List Nat)},decT ds=some z->ds=z.map .str
 | [],z,h=>by cases h;rfl
 | d::r,z,h=>by
  unfold decT at h;split at h
  ·rename_i c y h1 h2;cases h;rw[decS_ok h1,decT_ok h2]
   rfl
  ·cases h
theorem decM_ok{d:D}{z:List (List Nat)}(h:decM d=some z):d = .tup (z.map .str):=by
 unfold decM at h;split at h
 ·rw[decT_ok h]
 ·cases h
def mT(d:Nat):D:=match mk d with
 | .lst zs=>.tup (cutD zs none (some 4))
 | _=>.non
theorem mt_all:((List.range 32).all λd=>match decM (mT d) with|some ms=>mok ms|none=>false)=true:=by decide +kernel
theorem mt_of(d:Nat)(hd:d<32):∃ms,mT d = .tup (ms.map .str)/\mok ms=true:=by
 have h1:=Qq5.mp mt_all d (Qzy.mpr hd);split at h1
 ·rename_i ms e;exact⟨ms,decM_ok e,h1⟩
 ·cases h1
abbrev Rw:=Nat×List (List Nat)
def bC(r:Rw):D:=.tup [.str [r.1],.tup (r.2.map .str)]
theorem stock_body7(n:Int)(b v5 v6:OD)(acc:List D)(s:D)(ha:acc.length<=10):∃ms v5' v6',mok ms=true/\stockBody [Zl [.int n],b,Zf known,Zl acc,Zf s,v5,v6] = .nx [Zl [.int (n / 32)],b,Zf known,Zl (acc++[.tup [s,.tup (ms.map .str)]]),Zf s,v5',v6']:=by
 obtain⟨d,hd,e⟩:=dig n 32 (by decide);obtain⟨zs,hz⟩:=mk_lst d hd;obtain⟨ms,hms,hmo⟩:=mt_of d hd;have hmt:D.tup (cutD zs none (some 4)) = .tup (ms.map .str):=by rw[<-hms];unfold mT;rw[hz]
 refine⟨ms,Zf (.int d),Zf (.lst zs),hmo,?_⟩;rw[<-hmt];unfold stockBody;refine(aC (e:=[Zl [.int (n / 32)],b,Zf known,Zl acc,Zf s,Zf (.int (n % (32:Nat))),v6]) (by rfl)).trans ?_;rw[e];refine(aC (marks d hd _ _ _ _ _)).trans ?_;rw[hz];exact Ev.stAp1 (xs:=acc) (e:=[Zl [.int (n / 32)],b,Zf known,Zl acc,Zf s,Zf (.int d),Zf (.lst zs)]) rfl rfl rfl (Qx4 ha (by decide))
theorem stock7(n:Int):∃(x:List Nat) (rws:List Rw) (n':Int),x∈XS/\K06.f_law_stock [.lst [.int n]]=some (.tup (rws.map bC),.lst [.int n'])/\rws.map (·.1)=x/\∀r∈rws,mok r.2=true:=by
 obtain⟨d,hd,e⟩:=dig n 6 (by decide);obtain⟨x,hx,h1⟩:∃x,x∈XS/\∀m:Int,(λ(k:Int) (m:Int)=>bindO (liftR (cI (.lst [.str [97],.str [97,98],.str [97,98],.str [97,98,99],.str [97,101,112,116],.str [109,110,122]]) (.int k)) ([Zl [.int m],Zn,Zn,Zn,Zn,Zn,Zn]:Ev.Env)) λd aO=>liftO (ak 1 d aO)) (d:Int) m = .nx [Zl [.int m],Zs x,Zn,Zn,Zn,Zn,Zn]:=by
  have hc:d=0\/d=1\/d=2\/d=3\/d=4\/d=5:=by omega
  rcases hc with rfl|rfl|rfl|rfl|rfl|rfl
  ·exact⟨[97],by decide,λm=>rfl⟩
  ·exact⟨[97,98],by decide,λm=>rfl⟩
  ·exact⟨[97,98],by decide,λm=>rfl⟩
  ·exact⟨[97,98,99],by decide,λm=>rfl⟩
  ·exact⟨[97,101,112,116],by decide,λm=>rfl⟩
  ·exact⟨[109,110,122],by decide,λm=>rfl⟩
 have hxl:x.length<=4:=XS_len x hx;obtain⟨e',f1,n',rws,v4,v5,v6,rfl,hr,hmo⟩:=forO_inv' (g:=ak 4) (b:=stockBody) (sgs x) (λdone env=>∃(n:Int) (rws:List Rw) (v4 v5 v6:OD),env=[Zl [.int n],Zs x,Zf known,Zl (rws.map bC),v4,v5,v6]/\sgs (rws.map (·.1))=done/\∀r∈rws,mok r.2=true)
  (λdone s rest hall env ⟨n,rws,v4,v5,v6,he,hr,hmo⟩=>by
   subst he;have hd:done.length<=4:=by have:=Qzq List.length hall;unfold sgs at this;rw[Qqx,Qqq,Qqk] at this;omega
   obtain⟨a,rfl,_,_⟩:=K14.sgs_mem hall;have hrl:(rws.map bC).length<=10:=by have:=Qzq List.length hr;unfold sgs at this;rw[Qqx,Qqx] at this;rw[Qqx];omega
   obtain⟨ms,w5,w6,hm,hb⟩:=stock_body7 n (Zs x) v5 v6 (rws.map bC) (.str [a]) hrl;refine⟨_,_,rfl,hb,n / 32,rws++[(a,ms)],_,_,_,by rw[Qxj];rfl,by rw[Qxj,<-hr];exact K14.sgs_snoc _ _,λr hr'=>?_⟩;rcases Qw4.mp hr' with h|h
   ·exact hmo r h
   ·rw[Qq2.mp h];exact hm)
  [Zl [.int (n / 6)],Zs x,Zf known,Zl [],Zn,Zn,Zn] ⟨_,[],_,_,_,rfl,rfl,λr hr=>by simp at hr⟩
 refine⟨x,rws,n',hx,runIO_eq (env:=[Zl [.int n'],Zs x,Zf known,Zl (rws.map bC),v4,v5,v6]) ?_ rfl,K14.sgs_inj hr,hmo⟩;unfold K06.b_law_stock;refine(aC (e:=[Zl [.int (n / 6)],Zs x,Zn,Zn,Zn,Zn,Zn]) ?_).trans ?_
 ·have h2:=h1 (n / 6);rw[<-e] at h2;exact h2
 refine(aC (e:=[Zl [.int (n / 6)],Zs x,Zf known,Zn,Zn,Zn,Zn]) (by rfl)).trans ?_;refine(aC (e:=[Zl [.int (n / 6)],Zs x,Zf known,Zl [],Zn,Zn,Zn]) (by rfl)).trans ?_;refine(aC (e:=[Zl [.int n'],Zs x,Zf known,Zl (rws.map bC),v4,v5,v6]) ?_).trans ?_
 ·exact(stFor_eq (ds:=sgs x) (by rfl)).trans f1
 ·rfl
theorem str_ne{a b:List Nat}(h:a≠b):gEq (.str a) (.str b)=some (.bl false):=by show some (D.bl (a == b))=_;rw[Qxy.mpr h]
theorem read_sound{z:List Nat}(h:Snd z):f_read_sound [.str (sho z)]=some (.str z):=by
 rcases h with rfl|⟨c,rfl,h⟩
 ·rfl
 ·refine bV (env:=[Zs [c]]) ?_;unfold b_read_sound;refine(aC (e:=[Zs [c]]) rfl).trans (bH ?_);have hc:cU (aq gEq 0 (Zw [48])) [Zs [c]] = .ok false [Zs [c]]:=cL (evBF (x:=.str [c]) (y:=.str [48]) rfl rfl rfl (str_ne λe=>by
   have:=List.head_eq_of_cons_eq e;unfold Ltr at h;omega))
  unfold evIf;rw[hc]
  rfl
theorem starts_f{c d:Nat}{t:List Nat}(h:c≠d):gStarts (.str (c::t)) (.str [d])=some (.bl false):=by
 show some (D.bl (decide (0+(strOf [d]).length<=(strOf (c::t)).length)&&Builtin.Str.subAt (strOf (c::t)) (strOf [d]) 0))=_;have e:Builtin.Str.subAt (strOf (c::t)) (strOf [d]) 0=false:=by
  rw[StrLaws.subAt_eq];have e1:∀z:List Nat,(strOf z).cps.toList=z:=λz=>by simp[strOf]
  rw[e1,e1,bF];rw[Qxy];intro z;have:c::[]=[d]:=z;exact h (List.head_eq_of_cons_eq this)
 rw[e,Bool.and_false]
theorem read_signs(T:D){g:Option (List Nat)}(h:Sg g):f_read_signs [T,.str (sgt g)]=some (cN g):=by
 cases g with
 | none=>rfl
 | some z=>
  obtain⟨hz,_,hc⟩:=h z rfl;cases z with
  | nil=>exact absurd rfl hz
  | cons c t=>
   have hc:=hc c (Qqz ..);unfold Ltr at hc;refine bV (env:=[Zf T,Zs (c::t)]) ?_;unfold b_read_signs;refine(aC (e:=[Zf T,Zs (c::t)]) ((stIf_f (e:=[Zf T,Zs (c::t)]) (cL (evBF (x:=.str (c::t)) (y:=.str [42]) rfl rfl rfl (str_ne λe=>?_)))).trans rfl)).trans ?_
   ·have:=(List.cons.inj e).1;omega
   refine stSeq_rt ?_;refine(stIf_t (e:=[Zf T,Zs (c::t)]) (evOrT_t ?_)).trans rfl;exact evNotT_eq (b:=false) (cL (aN (x:=.str (c::t)) (y:=.str [91]) (e1:=[Zf T,Zs (c::t)]) rfl rfl (starts_f (by omega))))
theorem evSlA_eq{a:Ev}{lo hi:EvP}{env e1 e2 e3:Ev.Env}{d v:D}{l u:Option Int}(h1:a env = .ok d e1)(h2:lo e1 = .ok l e2)(h3:hi e2 = .ok u e3)(h:gSlA d l u=some v):evSlA a lo hi env = .ok v e3:=by
 unfold evSlA;rw[h1];show bindR (lo e1) _=_;rw[h2];show bindR (hi e2) _=_;rw[h3];show liftR (gSlA d l u) e3=_;rw[h]
 rfl
theorem need_text(z:List Nat):f_need_text [.str z]=some .non:=rfl
theorem stDrop_eq{a:Ev}{env e:Ev.Env}{d:D}(h:a env = .ok d e):stDrop a env = .nx e:=by
 unfold stDrop;rw[h]
 rfl
theorem read_change{p:Pt}(h:Snd p.1/\Snd p.2)(A0 A1 A2 A3 A4 A5 A6:OD):ao gTuple (aa (lc_read_parts_1) aj) [A0,A1,A2,A3,A4,A5,A6,Zs (chT p)] = .ok (enc2 p) [A0,A1,A2,A3,A4,A5,A6,Zs (chT p)]:=by
 obtain⟨a,b,e,e1,e2,h1,h2⟩:=chT_is h;have hs:gSplit (.str (chT p)) (.str [62])=some (.lst ([sho p.1,sho p.2].map .str)):=by
  rw[e,e1,e2];refine KX.split_l (c:=62) (r:=[]) (p:=[a]) (ps:=[[b]]) (n:=2) (m:=1) (by decide +kernel) ⟨Qq0 2,λq hq=>?_⟩ (by decide) (by decide) (by decide) (by decide) (λq hq=>?_)
  ·simp only[Qq3,Qxk,Qj6] at hq;rcases hq with rfl|rfl<;>exact Qq0 1
  ·unfold Ltr at h1 h2;simp only[Qq3,Qxk,Qj6] at hq;rcases hq with rfl|rfl
   ·intro z;have:=Qq2.mp z;omega
   ·intro z;have:=Qq2.mp z;omega
 refine aF (ds:=[.lst [.str p.1,.str p.2]]) (aD ?_ bA) rfl;have g1:lcO (ak 8) cA (ao f_read_sound (Zv 8 aj)) ([sho p.1,sho p.2].map .str) [A0,A1,A2,A3,A4,A5,A6,Zs (chT p),Zn] = .ok [.str p.1,.str p.2] [A0,A1,A2,A3,A4,A5,A6,Zs (chT p),Zs (sho p.2)]:=by
  have s1:ao f_read_sound (Zv 8 aj) [A0,A1,A2,A3,A4,A5,A6,Zs (chT p),Zs (sho p.1)] = .ok (.str p.1) [A0,A1,A2,A3,A4,A5,A6,Zs (chT p),Zs (sho p.1)]:=aF (ds:=[.str (sho p.1)]) rfl (read_sound h.1);have s2:ao f_read_sound (Zv 8 aj) [A0,A1,A2,A3,A4,A5,A6,Zs (chT p),Zs (sho p.2)] = .ok (.str p.2) [A0,A1,A2,A3,A4,A5,A6,Zs (chT p),Zs (sho p.2)]:=aF (ds:=[.str (sho p.2)]) rfl (read_sound h.2);show lcO _ _ _ [.str (sho p.1),.str (sho p.2)] _=_;unfold lcO;show bindR (ao f_read_sound (Zv 8 aj) [A0,A1,A2,A3,A4,A5,A6,Zs (chT p),Zs (sho p.1)]) _=_;rw[s1];show bindR (lcO _ _ _ [.str (sho p.2)] [A0,A1,A2,A3,A4,A5,A6,Zs (chT p),Zs (sho p.1)]) _=_;unfold lcO;show bindR (bindR (ao f_read_sound (Zv 8 aj) [A0,A1,A2,A3,A4,A5,A6,Zs (chT p),Zs (sho p.2)]) _) _=_;rw[s2]
  rfl
 exact evLC_eq (lo:=8) (n:=9) (ds:=[sho p.1,sho p.2].map .str) (aO:=[A0,A1,A2,A3,A4,A5,A6,Zs (chT p)]) (evIt_eq (aN (x:=.str (chT p)) (y:=.str [62]) (e1:=[A0,A1,A2,A3,A4,A5,A6,Zs (chT p)]) rfl rfl hs) rfl) rfl g1 Ev.zz2
theorem read_changes{ps:List Pt}(h:∀p∈ps,Snd p.1/\Snd p.2)(A0 A1 A2 A3 A4 A5 A6:OD):∃v7,lcO (ak 7) cA (ao gTuple (aa (lc_read_parts_1) aj)) ((ps.map chT).map .str) [A0,A1,A2,A3,A4,A5,A6,Zn] = .ok (ps.map enc2) [A0,A1,A2,A3,A4,A5,A6,v7]:=by
 obtain⟨env',h1,v7,rfl⟩:=lcO_enc (g:=ak 7) (e:=ao gTuple (aa (lc_read_parts_1) aj)) (λenv=>∃v7,env=[A0,A1,A2,A3,A4,A5,A6,v7]) (λp=>.str (chT p)) enc2 ps [A0,A1,A2,A3,A4,A5,A6,Zn] ⟨none,rfl⟩
  (λp hp env ⟨v7,he⟩=>by
   subst he;exact⟨_,_,rfl,read_change (h p hp) A0 A1 A2 A3 A4 A5 A6,_,rfl⟩)
 rw[map2] at h1;exact⟨v7,h1⟩
theorem not_slash{q:Q}(h:Ok q):([47]:List Nat) ∉ q.w::q.ps.map chT:=by
 intro z;rcases Qq3.mp z with e|z
 ·rcases h.w with e'|e'<;>rw[e'] at e<;>exact absurd e (by decide)
 ·obtain⟨p,hp,e⟩:=Qq8.mp z;obtain⟨a,b,e',_⟩:=chT_is (h.p p hp);rw[e'] at e;cases e
theorem not_line{q:Q}(h:Ok q):([95]:List Nat) ∉ (q.w::q.ps.map chT)++[[47],sgt q.l]:=by
 intro z;rcases Qw4.mp z with z|z
 ·rcases Qq3.mp z with e|z
  ·rcases h.w with e'|e'<;>rw[e'] at e<;>exact absurd e (by decide)
  ·obtain⟨p,hp,e⟩:=Qq8.mp z;obtain⟨a,b,e',_⟩:=chT_is (h.p p hp);rw[e'] at e;cases e
 ·simp only[Qq3,Qxk,Qj6] at z;rcases z with e|e
  ·exact absurd e (by decide)
  ·have:=(sgt_is h.l).2 95 (by rw[<-e];exact Qq2.mpr rfl);unfold Ltr at this;omega
theorem read_parts(T:D){q:Q}(h:Ok q):f_read_parts [T,.str (txt q)]=some (cC q):=by
 have h4:=h.n;have e1:wds q=(q.w::q.ps.map chT)++[47]::[sgt q.l,[95],sgt q.r]:=rfl;have e2:wds q=((q.w::q.ps.map chT)++[[47],sgt q.l])++[95]::[sgt q.r]:=by rw[e1,Qw6];rfl
 have l1:(q.w::q.ps.map chT).length=q.ps.length+1:=by rw[Qqk,Qqx]
 have l2:((q.w::q.ps.map chT)++[[47],sgt q.l]).length=q.ps.length+3:=by rw[Qqq,l1];rfl
 have c0:wds q=q.w::(q.ps.map chT++[47]::[sgt q.l,[95],sgt q.r]):=rfl;have c1:cutD (wds q) (some ((1:Nat):Int)) (some ((q.ps.length+1:Nat):Int))=q.ps.map chT:=by rw[KX.cut_mid _ _ _ (by rw[e1,Qqq,l1];omega),c0];show(q.ps.map chT++_).take (q.ps.length+1 - 1)=_;rw[Nat.add_sub_cancel];exact List.take_left' (by rw[Qqx])
 have c2:cutD (wds q) (some ((q.ps.length+2:Nat):Int)) (some ((q.ps.length+3:Nat):Int))=[sgt q.l]:=by
  rw[KX.cut_mid _ _ _ (by rw[e2,Qqq,l2];omega)];have:(wds q).drop (q.ps.length+2)=[sgt q.l,[95],sgt q.r]:=by
   have e3:wds q=((q.w::q.ps.map chT)++[[47]])++[sgt q.l,[95],sgt q.r]:=by rw[e1,Qw6];rfl
   rw[e3];exact List.drop_left' (by rw[Qqq,l1];rfl)
  rw[this];have:q.ps.length+3 - (q.ps.length+2)=1:=by omega
  rw[this]
  rfl
 have c3:cutD (wds q) (some ((q.ps.length+4:Nat):Int)) none=[sgt q.r]:=by
  rw[KX.cut_from];have e3:wds q=(((q.w::q.ps.map chT)++[[47],sgt q.l])++[[95]])++[sgt q.r]:=by rw[e2,Qw6 _ [[95]]];rfl
  rw[e3];exact List.drop_left' (by rw[Qqq,l2];rfl)
 have hsp:gSplit (.str (txt q)) (.str [32])=some (.lst ((wds q).map .str)):=
  KX.split_l (c:=32) (r:=[]) (n:=9) (m:=5) (by decide +kernel) (wds_few h) (by decide) (by decide) (by decide) (by decide) λz hz hc=>(wds_sgn h z hz 32 hc).1 rfl
 have cm:∀(lo hi:Option Int),cutD ((wds q).map D.str) lo hi=(cutD (wds q) lo hi).map D.str:=λlo hi=>by
  unfold cutD;rw[Qqx,<-List.map_drop,<-List.map_take]
 have ix1:gLIndex (.lst ((wds q).map .str)) (.str [47])=some (.int ((q.ps.length+1:Nat):Int)):=by have:=KX.index_l (b:=[sgt q.l,[95],sgt q.r]) (not_slash h);rw[l1] at this;exact this
 have ix2:gLIndex (.lst ((wds q).map .str)) (.str [95])=some (.int ((q.ps.length+3:Nat):Int)):=by have:=KX.index_l (b:=[sgt q.r]) (not_line h);rw[l2,<-e2] at this;exact this
 have n1:gNotIn (.str [47]) (.lst ((wds q).map .str))=some (.bl false):=KX.notIn_l (by rw[e1];simp);have n2:gNotIn (.str [95]) (.lst ((wds q).map .str))=some (.bl false):=KX.notIn_l (by rw[e1];simp);have w0:cI (.lst ((wds q).map .str)) (.int 0)=some (.str q.w):=by rw[c0];exact K06.atI_zero _ _
 generalize wds q=W at *;obtain⟨v7,g1⟩:=read_changes h.p (Zf T) (Zs (txt q)) (Zf (.lst (W.map .str))) (Zf (.int ((q.ps.length+1:Nat):Int))) (Zf (.int ((q.ps.length+3:Nat):Int))) none none;refine bV (env:=[Zf T,Zs (txt q),(Zf (.lst (W.map .str))),(Zf (.int ((q.ps.length+1:Nat):Int))),(Zf (.int ((q.ps.length+3:Nat):Int))),(Zf (.tup (q.ps.map enc2))),Zf (cN q.l)]) ?_;unfold b_read_parts;refine(aC (e:=[Zf T,Zs (txt q),(Zf (.lst (W.map .str))),Zn,Zn,Zn,Zn]) ?_).trans ?_
 ·exact bK (e:=[Zf T,Zs (txt q),Zn,Zn,Zn,Zn,Zn]) (aN (x:=.str (txt q)) (y:=.str [32]) (e1:=[Zf T,Zs (txt q),Zn,Zn,Zn,Zn,Zn]) rfl rfl hsp) rfl
 refine(aC (e:=[Zf T,Zs (txt q),(Zf (.lst (W.map .str))),Zn,Zn,Zn,Zn]) ?_).trans ?_
 ·refine(stIf_f (e:=[Zf T,Zs (txt q),(Zf (.lst (W.map .str))),Zn,Zn,Zn,Zn]) ?_).trans rfl;refine(evOrT_f (e:=[Zf T,Zs (txt q),(Zf (.lst (W.map .str))),Zn,Zn,Zn,Zn]) (cL (aN (x:=.str [47]) (y:=.lst (W.map .str)) (e1:=[Zf T,Zs (txt q),(Zf (.lst (W.map .str))),Zn,Zn,Zn,Zn]) rfl rfl n1))).trans ?_;exact cL (aN (x:=.str [95]) (y:=.lst (W.map .str)) (e1:=[Zf T,Zs (txt q),(Zf (.lst (W.map .str))),Zn,Zn,Zn,Zn]) rfl rfl n2)
 refine(aC (e:=[Zf T,Zs (txt q),(Zf (.lst (W.map .str))),(Zf (.int ((q.ps.length+1:Nat):Int))),Zn,Zn,Zn]) ?_).trans ?_
 ·exact bK (e:=[Zf T,Zs (txt q),(Zf (.lst (W.map .str))),Zn,Zn,Zn,Zn]) (aN (x:=.lst (W.map .str)) (y:=.str [47]) (e1:=[Zf T,Zs (txt q),(Zf (.lst (W.map .str))),Zn,Zn,Zn,Zn]) rfl rfl ix1) rfl
 refine(aC (e:=[Zf T,Zs (txt q),(Zf (.lst (W.map .str))),(Zf (.int ((q.ps.length+1:Nat):Int))),(Zf (.int ((q.ps.length+3:Nat):Int))),Zn,Zn]) ?_).trans ?_
 ·exact bK (e:=[Zf T,Zs (txt q),(Zf (.lst (W.map .str))),(Zf (.int ((q.ps.length+1:Nat):Int))),Zn,Zn,Zn]) (aN (x:=.lst (W.map .str)) (y:=.str [95]) (e1:=[Zf T,Zs (txt q),(Zf (.lst (W.map .str))),(Zf (.int ((q.ps.length+1:Nat):Int))),Zn,Zn,Zn]) rfl rfl ix2) rfl
 generalize hE:([Zf T,Zs (txt q),(Zf (.lst (W.map .str))),(Zf (.int ((q.ps.length+1:Nat):Int))),(Zf (.int ((q.ps.length+3:Nat):Int))),Zn,Zn]:Ev.Env)=env;refine(aC (e:=[Zf T,Zs (txt q),(Zf (.lst (W.map .str))),(Zf (.int ((q.ps.length+1:Nat):Int))),(Zf (.int ((q.ps.length+3:Nat):Int))),(Zf (.tup (q.ps.map enc2))),Zn]) ?_).trans ?_
 ·refine bK (d:=.tup (q.ps.map enc2)) (e:=env) (aF (ds:=[.lst (q.ps.map enc2)]) (aD ?_ bA) rfl) (by rw[<-hE];rfl);have s0:evSlA (aQ 2) (evP (Zi 1)) (evP (aQ 3)) env = .ok (.lst ((q.ps.map chT).map .str)) env:=by
   refine evSlA_eq (d:=.lst (W.map .str)) (l:=some 1) (u:=some ((q.ps.length+1:Nat):Int)) (e1:=env) (e2:=env) (by rw[<-hE];rfl) rfl (by rw[<-hE];rfl) ?_;show some (D.lst (cutD (W.map D.str) (some ((1:Nat):Int)) (some ((q.ps.length+1:Nat):Int))))=_;rw[cm,c1]
  have hl:(q.ps.map enc2).length<=sizeLine:=by rw[Qqx];exact Qqy h4 (by decide)
  have:=evLC_eq (lo:=7) (n:=8) (it:=evIt (evSlA (aQ 2) (evP (Zi 1)) (evP (aQ 3)))) (ds:=(q.ps.map chT).map .str) (env:=env) (aO:=env) (evIt_eq s0 rfl) (by rw[<-hE];rfl) (by rw[<-hE];exact g1) hl;rw[<-hE] at this ⊢;exact this
 generalize hE2:([Zf T,Zs (txt q),(Zf (.lst (W.map .str))),(Zf (.int ((q.ps.length+1:Nat):Int))),(Zf (.int ((q.ps.length+3:Nat):Int))),(Zf (.tup (q.ps.map enc2))),Zn]:Ev.Env)=bZ;refine(aC (e:=[Zf T,Zs (txt q),(Zf (.lst (W.map .str))),(Zf (.int ((q.ps.length+1:Nat):Int))),(Zf (.int ((q.ps.length+3:Nat):Int))),(Zf (.tup (q.ps.map enc2))),Zf (cN q.l)]) ?_).trans ?_
 ·refine bK (d:=cN q.l) (e:=bZ) ?_ (by rw[<-hE2];rfl);have s0:evSlA (aQ 2) (evP (aq bN 3 (Zi 1))) (evP (aQ 4)) bZ = .ok (.lst ([sgt q.l].map .str)) bZ:=by
   refine evSlA_eq (d:=.lst (W.map .str)) (l:=some ((q.ps.length+2:Nat):Int)) (u:=some ((q.ps.length+3:Nat):Int)) (e1:=bZ) (e2:=bZ) (by rw[<-hE2];rfl) (by rw[<-hE2];rfl) (by rw[<-hE2];rfl) ?_;show some (D.lst (cutD (W.map D.str) _ _))=_;rw[cm,c2]
  refine aF (ds:=[T,.str (sgt q.l)]) (aD (d:=T) (e1:=bZ) (by rw[<-hE2];rfl) (aD (aN (x:=.str [32]) rfl s0 ?_) bA)) (read_signs T h.l);exact KX.join_l (xs:=[sgt q.l]) (n:=1) (m:=5) ⟨Qq0 1,λz hz=>by rw[Qq2.mp hz];exact(sgt_is h.l).1⟩ (by decide) (by decide)
 generalize hE3:([Zf T,Zs (txt q),(Zf (.lst (W.map .str))),(Zf (.int ((q.ps.length+1:Nat):Int))),(Zf (.int ((q.ps.length+3:Nat):Int))),(Zf (.tup (q.ps.map enc2))),Zf (cN q.l)]:Ev.Env)=env3;have s0:evSlA (aQ 2) (evP (aq bN 4 (Zi 1))) evNoP env3 = .ok (.lst ([sgt q.r].map .str)) env3:=by refine evSlA_eq (d:=.lst (W.map .str)) (l:=some ((q.ps.length+4:Nat):Int)) (u:=none) (e1:=env3) (e2:=env3) (by rw[<-hE3];rfl) (by rw[<-hE3];rfl) rfl ?_;show some (D.lst (cutD (W.map D.str) _ _))=_;rw[cm,c3]
 refine bH (evTup_eq (aD (d:=.str q.w) (e1:=env3) (evBF (x:=.lst (W.map .str)) (y:=.int 0) (by rw[<-hE3];rfl) rfl (by rw[<-hE3];rfl) w0) (aD (d:=.tup (q.ps.map enc2)) (e1:=env3) (by rw[<-hE3];rfl) (aD (d:=cN q.l) (e1:=env3) (by rw[<-hE3];rfl) (aD (d:=cN q.r) (e1:=env3) ?_ bA)))) Ev.zz4);refine aF (ds:=[T,.str (sgt q.r)]) (aD (d:=T) (e1:=env3) (by rw[<-hE3];rfl) (aD (aN (x:=.str [32]) rfl s0 ?_) bA)) (read_signs T h.r);exact KX.join_l (xs:=[sgt q.r]) (n:=1) (m:=5) ⟨Qq0 1,λz hz=>by rw[Qq2.mp hz];exact(sgt_is h.r).1⟩ (by decide) (by decide)
open K08 (sides)
def SD:List (List Nat):=[[108,101,102,116],[114,105,103,104,116]]
def prt(s:List Nat)(qs:List Q):List (List Nat):=s::qs.map txt
def otx(s:List Nat)(qs:List Q):List Nat:=joinN [59,32] (prt s qs)
def bL(s:List Nat)(qs:List Q):D:=.tup [.str s,.tup (qs.map cC)]
theorem sd_is{s:List Nat}(h:s∈SD):s.length<=5/\59 ∉ s:=by
 revert s
 decide
section
variable{s:List Nat}{qs:List Q}(hs:s∈SD)(h4:qs.length<=4)(hq:∀q∈qs,Ok q)
include hs h4 hq
theorem prt_few:Few (prt s qs) 5 63:=by
 refine⟨by unfold prt;rw[Qqk,Qqx];omega,λz hz=>?_⟩;rcases Qq3.mp hz with rfl|hz
 ·exact Qqy (sd_is hs).1 (by decide)
 ·obtain⟨q,hq',rfl⟩:=Qq8.mp hz;exact txt_len (hq q hq')
theorem prt_sgn:∀z∈prt s qs,59 ∉ z:=by
 intro z hz;rcases Qq3.mp hz with rfl|hz
 ·exact(sd_is hs).2
 ·obtain⟨q,hq',rfl⟩:=Qq8.mp hz;exact txt_sgn (hq q hq')
theorem split_o:gSplit (.str (otx s qs)) (.str [59,32])=some (.lst ((prt s qs).map .str)):=
 KX.split_l (c:=59) (r:=[32]) (n:=5) (m:=63) (by decide +kernel) (prt_few hs h4 hq) (by decide) (by decide) (by decide) (by decide) (prt_sgn hs h4 hq)
theorem join_o:gJoin (.str [59,32]) (.lst ((prt s qs).map .str))=some (.str (otx s qs)):=KX.join_l (prt_few hs h4 hq) (by decide) (by decide)
theorem map2Q(f:Q->List Nat)(ps:List Q):ps.map (λp=>D.str (f p))=(ps.map f).map D.str:=by rw[Qz4];rfl
theorem gAdd_o:bN (.lst [.str s]) (.lst ((qs.map txt).map .str))=some (.lst ((prt s qs).map .str)):=by refine(gAddL_eq ?_).trans rfl;rw[Qqx,Qqx];show 1+qs.length<=sizeLine;exact Qqy (Nat.add_le_add_left h4 1) (by decide)
theorem show_order:f_show_order [bL s qs]=some (.str (otx s qs)):=by
 obtain⟨env',h1,v3,rfl⟩:=lcO_enc (g:=ak 3) (e:=ao f_show_rule (Zv 3 aj)) (λenv=>∃v3,env=[Zf (bL s qs),Zs s,(Zf (.tup (qs.map cC))),v3]) cC (λq=>.str (txt q)) qs [Zf (bL s qs),Zs s,(Zf (.tup (qs.map cC))),Zn] ⟨none,rfl⟩
  (λq hq' env ⟨v3,he⟩=>by
   subst he;exact⟨[Zf (bL s qs),Zs s,(Zf (.tup (qs.map cC))),Zf (cC q)],_,rfl,aF (ds:=[cC q]) rfl (show_rule (hq q hq')),_,rfl⟩)
 rw[map2Q hs h4 hq] at h1;refine bV (env:=[Zf (bL s qs),Zs s,(Zf (.tup (qs.map cC)))]) ?_;unfold b_show_order;refine(aC (e:=[Zf (bL s qs),Zs s,(Zf (.tup (qs.map cC)))]) rfl).trans ?_;refine bH (aN (x:=.str [59,32]) (e1:=[Zf (bL s qs),Zs s,(Zf (.tup (qs.map cC)))]) rfl ?_ (join_o hs h4 hq));refine aN (x:=.lst [.str s]) (y:=.lst ((qs.map txt).map .str)) (e1:=[Zf (bL s qs),Zs s,(Zf (.tup (qs.map cC)))]) rfl ?_ (gAdd_o hs h4 hq);exact evLC_eq (lo:=3) (n:=4) (ds:=qs.map cC) (aO:=[Zf (bL s qs),Zs s,(Zf (.tup (qs.map cC)))]) rfl rfl h1 (by rw[Qqx,Qqx];exact Qqy h4 (by decide))
theorem law_order_text:f_law_order_text [bL s qs]=some (.str (otx s qs)):=by
 obtain⟨env',h1,v1,rfl⟩:=lcO_enc (g:=ak 1) (e:=ao f_law_rule_text (Zv 1 aj)) (λenv=>∃v1,env=[Zf (bL s qs),v1]) cC (λq=>.str (txt q)) qs [Zf (bL s qs),Zn] ⟨none,rfl⟩
  (λq hq' env ⟨v1,he⟩=>by
   subst he;exact⟨[Zf (bL s qs),Zf (cC q)],_,rfl,aF (ds:=[cC q]) rfl (law_rule_text (hq q hq')),_,rfl⟩)
 rw[map2Q hs h4 hq] at h1;refine bV (env:=[Zf (bL s qs)]) ?_;unfold b_law_order_text;refine bH (aN (x:=.str [59,32]) (e1:=[Zf (bL s qs)]) rfl ?_ (join_o hs h4 hq));refine aN (x:=.lst [.str s]) (y:=.lst ((qs.map txt).map .str)) (e1:=[Zf (bL s qs)]) rfl ?_ (gAdd_o hs h4 hq);exact evLC_eq (lo:=1) (n:=2) (ds:=qs.map cC) (aO:=[Zf (bL s qs)]) rfl rfl h1 (by rw[Qqx,Qqx];exact Qqy h4 (by decide))
end
theorem take_snoc{α β:Type}(f:α->β)(l:List α)(k:Nat)(h:k<l.length):(l.take k).map f++[f l[k]]=(l.take (k+1)).map f:=by
 rw[List.take_succ_eq_append_getElem h,Qxj]
 rfl
theorem read_order(T:D){s:List Nat}{qs:List Q}(hs:s∈SD)(h4:qs.length<=4)(hq:∀q∈qs,Ok q)(ho:∀k,k<=qs.length->f_is_order [T,bL s (qs.take k)]=some (.bl true)):f_read_order [T,.str (otx s qs)]=some (bL s qs):=by
 have r2:∀n:Nat,n<=5->rngD [.int 1,.int (n:Int)]=some (cR 1 1 (n - 1)):=by
  intro n hn;have:n=0\/n=1\/n=2\/n=3\/n=4\/n=5:=by omega
  rcases this with rfl|rfl|rfl|rfl|rfl|rfl<;>rfl
 obtain⟨e',f1,v4,rfl⟩:=forO_inv' (g:=ak 4) (b:=lb_read_order_1) (cR 1 1 qs.length) (λdone env=>∃v4,env=[Zf T,Zs (otx s qs),(Zf (.lst ((prt s qs).map .str))),(Zf (bL s (qs.take done.length))),v4])
  (λdone d rest hall env ⟨v4,he⟩=>by
   subst he;have hg:(cR 1 1 qs.length)[done.length]? = some d:=by rw[hall];simp
   obtain⟨hk,rfl⟩:=stepsI_get hg;generalize hdl:done.length=k at *;have e1:(1+(k:Int)*1)=((k+1:Nat):Int):=by omega
   rw[e1];have hx:cI (.lst ((prt s qs).map .str)) (.int ((k+1:Nat):Int))=some (.str (txt qs[k])):=by refine atI_nat ?_;show(((s::qs.map txt).map D.str)[k+1]?)=_;simp[hk]
   have hr:=read_parts T (hq qs[k] (Qz7 hk));refine⟨[Zf T,Zs (otx s qs),(Zf (.lst ((prt s qs).map .str))),(Zf (bL s (qs.take k))),(Zf (.int ((k+1:Nat):Int)))],[Zf T,Zs (otx s qs),(Zf (.lst ((prt s qs).map .str))),(Zf (bL s (qs.take (k+1)))),(Zf (.int ((k+1:Nat):Int)))],rfl,?_,_,by rw[Qqq,hdl];rfl⟩;unfold lb_read_order_1;generalize hE:([Zf T,Zs (otx s qs),(Zf (.lst ((prt s qs).map .str))),(Zf (bL s (qs.take k))),(Zf (.int ((k+1:Nat):Int)))]:Ev.Env)=env;refine(aC (e:=[Zf T,Zs (otx s qs),(Zf (.lst ((prt s qs).map .str))),(Zf (bL s (qs.take (k+1)))),(Zf (.int ((k+1:Nat):Int)))]) ?_).trans ?_
   ·refine bK (d:=bL s (qs.take (k+1))) (e:=env) ?_ (by rw[<-hE];rfl);refine evTup_eq (ds:=[.str s,.tup ((qs.take (k+1)).map cC)]) (aD (d:=.str s) (e1:=env) (evBF (x:=.lst ((prt s qs).map .str)) (y:=.int 0) (by rw[<-hE];rfl) rfl (by rw[<-hE];rfl) (K06.atI_zero _ _)) (aD (aN (x:=.tup ((qs.take k).map cC)) (y:=.tup [cC qs[k]]) (e1:=env) (e2:=env) (by rw[<-hE];rfl) ?_ ?_) bA)) Ev.zz2
    ·refine evTup_eq (aD (aF (ds:=[T,.str (txt qs[k])]) (e:=env) (aD (d:=T) (e1:=env) (by rw[<-hE];rfl) (aD (evBF (x:=.lst ((prt s qs).map .str)) (y:=.int ((k+1:Nat):Int)) (by rw[<-hE];rfl) (by rw[<-hE];rfl) (by rw[<-hE];rfl) hx) bA)) hr) bA) Ev.zz1
    ·show(if ((qs.take k).map cC).length+1<=sizeLine then some (D.tup ((qs.take k).map cC++[cC qs[k]])) else none)=_;rw[if_pos,take_snoc];rw[Qqx,Qxx];exact Qqy (show min k qs.length+1<=5 by omega) (by decide)
   ·refine(stIf_f (e:=[Zf T,Zs (otx s qs),(Zf (.lst ((prt s qs).map .str))),(Zf (bL s (qs.take (k+1)))),(Zf (.int ((k+1:Nat):Int)))]) ?_).trans rfl;exact evNotT_eq (b:=true) (cL (aF (ds:=[T,bL s (qs.take (k+1))]) rfl (ho (k+1) hk))))
  [Zf T,Zs (otx s qs),(Zf (.lst ((prt s qs).map .str))),Zf (bL s []),Zn] ⟨none,rfl⟩
 rw[stepsI_len,List.take_length] at f1;refine bV (env:=[Zf T,Zs (otx s qs),(Zf (.lst ((prt s qs).map .str))),Zf (bL s qs),v4]) ?_;unfold b_read_order;refine(aC (e:=[Zf T,Zs (otx s qs),Zn,Zn,Zn]) (stDrop_eq (aF (ds:=[.str (otx s qs)]) rfl (need_text _)))).trans ?_;refine(aC (e:=[Zf T,Zs (otx s qs),(Zf (.lst ((prt s qs).map .str))),Zn,Zn]) ?_).trans ?_
 ·exact bK (e:=[Zf T,Zs (otx s qs),Zn,Zn,Zn]) (aN (x:=.str (otx s qs)) (y:=.str [59,32]) (e1:=[Zf T,Zs (otx s qs),Zn,Zn,Zn]) rfl rfl (split_o hs h4 hq)) rfl
 refine(aC (e:=[Zf T,Zs (otx s qs),(Zf (.lst ((prt s qs).map .str))),Zf (bL s []),Zn]) (bK (d:=bL s []) (e:=[Zf T,Zs (otx s qs),(Zf (.lst ((prt s qs).map .str))),Zn,Zn]) (evTup_eq (aD (d:=.str s) (e1:=[Zf T,Zs (otx s qs),(Zf (.lst ((prt s qs).map .str))),Zn,Zn]) (evBF (x:=.lst ((prt s qs).map .str)) (y:=.int 0) rfl rfl rfl (K06.atI_zero _ _)) rfl) Ev.zz2) rfl)).trans ?_;refine(aC (e:=[Zf T,Zs (otx s qs),(Zf (.lst ((prt s qs).map .str))),Zf (bL s []),Zn]) ?_).trans ?_
 ·refine(stIf_f (e:=[Zf T,Zs (otx s qs),(Zf (.lst ((prt s qs).map .str))),Zf (bL s []),Zn]) ?_).trans rfl;exact evNotT_eq (b:=true) (cL (aF (ds:=[T,bL s []]) rfl (ho 0 (Qx3 _))))
 refine(aC (e:=[Zf T,Zs (otx s qs),(Zf (.lst ((prt s qs).map .str))),Zf (bL s qs),v4]) ?_).trans rfl;refine(stFor_eq (ds:=cR 1 1 qs.length) (e:=[Zf T,Zs (otx s qs),(Zf (.lst ((prt s qs).map .str))),Zf (bL s []),Zn]) ?_).trans f1;have:=r2 (qs.length+1) (by omega);refine K20.evRng_eq (ds:=[.int 1,.int ((qs.length+1:Nat):Int)]) ?_ this;refine aD (d:=.int 1) (e1:=[Zf T,Zs (otx s qs),(Zf (.lst ((prt s qs).map .str))),Zf (bL s []),Zn]) rfl (aD (aF (ds:=[.lst ((prt s qs).map .str)]) rfl ?_) bA);show some (D.int (((prt s qs).map D.str).length:Int))=_;unfold prt;rw[Qqx,Qqk,Qqx]
open K06 (XS isT isT_ok)
def rwd(r:Rw):List (List Nat):=[r.1]::r.2
def rtx(r:Rw):List Nat:=joinN [32] (rwd r)
def stx(rws:List Rw):List Nat:=joinN [44,32] (rws.map rtx)
structure RowOk(r:Rw):Prop where
 s:Ltr r.1
 n:r.2.length<=4
 m:∀z∈r.2,z.length<=8/\∀c∈z,Ltr c
 is:f_is_marked_sound [bC r]=some (.bl true)
theorem row_ok{x:List Nat}(hx:x∈XS){r:Rw}(h1:r.1∈x)(h2:mok r.2=true):RowOk r:=by
 have hm:∀x∈XS,∀c∈x,c∈([97,98,99,101,112,116,109,110,122]:List Nat)/\97<=c/\c<=122:=by decide +kernel
 obtain⟨a,b⟩:=hm x hx r.1 h1;unfold mok at h2;rw[Qwy,Qwy] at h2;refine⟨b,Qq7 h2.1.2,λz hz=>?_,isT_ok (Qq5.mp h2.1.1 r.1 a)⟩;have:=Qq5.mp h2.2 z hz;rw[Qwy] at this;refine⟨Qq7 this.1,λc hc=>?_⟩;have:=Qq5.mp this.2 c hc;rw[Qwy] at this;exact⟨Qq7 this.1,Qq7 this.2⟩
theorem rwd_few{r:Rw}(h:RowOk r):Few (rwd r) 5 8:=by
 refine⟨Nat.succ_le_succ h.n,λz hz=>?_⟩;rcases Qq3.mp hz with rfl|hz
 ·exact(by decide:1<=8)
 ·exact(h.m z hz).1
theorem rwd_sgn{r:Rw}(h:RowOk r):∀z∈rwd r,∀c∈z,c≠32/\c≠44:=by
 intro z hz c hc;have:Ltr c:=by
  rcases Qq3.mp hz with rfl|hz
  ·rw[Qq2.mp hc];exact h.s
  ·exact(h.m z hz).2 c hc
 unfold Ltr at this;omega
theorem rtx_len{r:Rw}(h:RowOk r):(rtx r).length<=50:=Qqy ((rwd_few h).join (by decide)) (by decide)
theorem rtx_sgn{r:Rw}(h:RowOk r):44 ∉ rtx r:=λhc=>join_sgn [32] (λc=>c≠44) (by decide) (rwd r) (λz hz c hc=>(rwd_sgn h z hz c hc).2) 44 hc rfl
theorem map2R(f:Rw->List Nat)(ps:List Rw):ps.map (λp=>D.str (f p))=(ps.map f).map D.str:=by rw[Qz4];rfl
section
variable{rws:List Rw}(h:∀r∈rws,RowOk r)(h4:rws.length<=4)
include h h4
theorem stx_few:Few (rws.map rtx) 4 50:=⟨by rw[Qqx];exact h4,λz hz=>by obtain⟨r,hr,rfl⟩:=Qq8.mp hz;exact rtx_len (h r hr)⟩
theorem show_stock:f_show_stock [.tup (rws.map bC)]=some (.str (stx rws)):=by
 obtain⟨env',h1,v1,v2,rfl⟩:=lcO_enc (g:=gvTup 2 (aV (ak 1) (aV (ak 2) gvNil))) (e:=aG gJoinT (Zw [32]) (aG bN (evTup (Zv 1 aj)) (bB 2))) (λenv=>∃v1 v2,env=[(Zf (.tup (rws.map bC))),v1,v2]) bC (λr=>.str (rtx r)) rws [(Zf (.tup (rws.map bC))),Zn,Zn] ⟨none,Zn,rfl⟩
  (λr hr env ⟨v1,v2,he⟩=>by
   subst he;refine⟨[(Zf (.tup (rws.map bC))),Zs [r.1],(Zf (.tup (r.2.map .str)))],[(Zf (.tup (rws.map bC))),Zs [r.1],(Zf (.tup (r.2.map .str)))],rfl,?_,_,_,rfl⟩;refine aN (x:=.str [32]) (y:=.tup ((rwd r).map .str)) (e1:=[(Zf (.tup (rws.map bC))),Zs [r.1],(Zf (.tup (r.2.map .str)))]) rfl (aN (x:=.tup [.str [r.1]]) (y:=.tup (r.2.map .str)) (e1:=[(Zf (.tup (rws.map bC))),Zs [r.1],(Zf (.tup (r.2.map .str)))]) rfl rfl ?_) (KX.join_t (rwd_few (h r hr)) (by decide) (by decide));show(if 1+(r.2.map D.str).length<=sizeLine then some (D.tup ([.str [r.1]]++r.2.map D.str)) else none)=_;rw[if_pos (by rw[Qqx];exact Qqy (Nat.add_le_add_left (h r hr).n 1) (by decide))]
   rfl)
 rw[map2R] at h1;refine bV (env:=[(Zf (.tup (rws.map bC)))]) (bH (aN (x:=.str [44,32]) (e1:=[(Zf (.tup (rws.map bC)))]) rfl ?_ (KX.join_l (stx_few h h4) (by decide) (by decide))));exact evLC_eq (lo:=1) (n:=3) (ds:=rws.map bC) (aO:=[(Zf (.tup (rws.map bC)))]) rfl rfl h1 (by rw[Qqx,Qqx];exact Qqy h4 (by decide))
theorem law_stock_text:f_law_stock_text [.tup (rws.map bC)]=some (.str (stx rws)):=by
 obtain⟨env',h1,v1,v2,rfl⟩:=lcO_enc (g:=gvTup 2 (aV (ak 1) (aV (ak 2) gvNil))) (e:=aG gJoin (Zw [32]) (aG bN (cW (Zv 1 aj)) (ao gList (aa (bB 2) aj)))) (λenv=>∃v1 v2,env=[(Zf (.tup (rws.map bC))),v1,v2]) bC (λr=>.str (rtx r)) rws [(Zf (.tup (rws.map bC))),Zn,Zn] ⟨none,Zn,rfl⟩
  (λr hr env ⟨v1,v2,he⟩=>by
   subst he;refine⟨[(Zf (.tup (rws.map bC))),Zs [r.1],(Zf (.tup (r.2.map .str)))],[(Zf (.tup (rws.map bC))),Zs [r.1],(Zf (.tup (r.2.map .str)))],rfl,?_,_,_,rfl⟩;refine aN (x:=.str [32]) (y:=.lst ((rwd r).map .str)) (e1:=[(Zf (.tup (rws.map bC))),Zs [r.1],(Zf (.tup (r.2.map .str)))]) rfl (aN (x:=.lst [.str [r.1]]) (y:=.lst (r.2.map .str)) (e1:=[(Zf (.tup (rws.map bC))),Zs [r.1],(Zf (.tup (r.2.map .str)))]) rfl rfl ?_) (KX.join_l (rwd_few (h r hr)) (by decide) (by decide));refine(gAddL_eq ?_).trans rfl;rw[Qqx];exact Qqy (Nat.add_le_add_left (h r hr).n 1) (by decide))
 rw[map2R] at h1;refine bV (env:=[(Zf (.tup (rws.map bC)))]) (bH (aN (x:=.str [44,32]) (e1:=[(Zf (.tup (rws.map bC)))]) rfl ?_ (KX.join_l (stx_few h h4) (by decide) (by decide))));exact evLC_eq (lo:=1) (n:=3) (ds:=rws.map bC) (aO:=[(Zf (.tup (rws.map bC)))]) rfl rfl h1 (by rw[Qqx,Qqx];exact Qqy h4 (by decide))
theorem sounds_of7:f_sounds_of [.tup (rws.map bC)]=some (.tup (sgs (rws.map (·.1)))):=by
 obtain⟨env',h1,v1,v2,rfl⟩:=lcO_enc (g:=gvTup 2 (aV (ak 1) (aV (ak 2) gvNil))) (e:=aQ 1) (λenv=>∃v1 v2,env=[(Zf (.tup (rws.map bC))),v1,v2]) bC (λr=>.str [r.1]) rws [(Zf (.tup (rws.map bC))),Zn,Zn] ⟨none,Zn,rfl⟩
  (λr hr env ⟨v1,v2,he⟩=>by
   subst he;exact⟨[(Zf (.tup (rws.map bC))),Zs [r.1],(Zf (.tup (r.2.map .str)))],_,rfl,rfl,_,_,rfl⟩)
 have e:rws.map (λr=>D.str [r.1])=sgs (rws.map (·.1)):=by unfold sgs;rw[Qz4];rfl
 rw[e] at h1;refine bV (env:=[(Zf (.tup (rws.map bC)))]) (bH (aF (ds:=[.lst (sgs (rws.map (·.1)))]) (aD ?_ bA) rfl));exact evLC_eq (lo:=1) (n:=3) (ds:=rws.map bC) (aO:=[(Zf (.tup (rws.map bC)))]) rfl rfl h1 (by unfold sgs;rw[Qqx,Qqx];exact Qqy h4 (by decide))
theorem is_stock(h0:0<rws.length)(hr:f_rises [.tup (sgs (rws.map (·.1)))]=some (.bl true)):f_is_stock [.tup (rws.map bC)]=some (.bl true):=by
 obtain⟨env',h1,v1,rfl⟩:=lcO_enc (g:=ak 1) (e:=ao f_is_marked_sound (Zv 1 aj)) (λenv=>∃v1,env=[(Zf (.tup (rws.map bC))),v1]) bC (λr=>.bl true) rws [(Zf (.tup (rws.map bC))),Zn] ⟨none,rfl⟩
  (λr hr env ⟨v1,he⟩=>by
   subst he;exact⟨[(Zf (.tup (rws.map bC))),Zf (bC r)],_,rfl,aF (ds:=[bC r]) rfl (h r hr).is,_,rfl⟩)
 have hl:(rws.map bC).length=rws.length:=Qqx ..;refine bV (env:=[(Zf (.tup (rws.map bC)))]) ?_;unfold b_is_stock;refine(aC (e:=[(Zf (.tup (rws.map bC)))]) ((stIf_f (e:=[(Zf (.tup (rws.map bC)))]) ?_).trans rfl)).trans ?_
 ·refine(evOrT_f (e:=[(Zf (.tup (rws.map bC)))]) rfl).trans ?_;refine evNotT_eq (b:=true) (cL ?_);have:rws.length=1\/rws.length=2\/rws.length=3\/rws.length=4:=by omega
  have e:ao gLen (aa (bB 0) aj) [(Zf (.tup (rws.map bC)))] = .ok (.int (rws.length:Int)) [(Zf (.tup (rws.map bC)))]:=aF (ds:=[.tup (rws.map bC)]) rfl (by show some (D.int ((rws.map bC).length:Int))=_;rw[hl]);have e0:Zi 1 [(Zf (.tup (rws.map bC)))] = .ok (.int 1) [(Zf (.tup (rws.map bC)))]:=rfl;unfold evChain;rw[e0,bR,e,bR];rcases this with z|z|z|z<;>rw[z]<;>rfl
 ·refine bH ((evAnd_t (e:=[(Zf (.tup (rws.map bC)))]) ?_).trans ?_)
  ·refine aF (ds:=[.lst (rws.map λ_=>.bl true)]) (aD ?_ bA) ?_
   ·exact evLC_eq (lo:=1) (n:=2) (ds:=rws.map bC) (aO:=[(Zf (.tup (rws.map bC)))]) rfl rfl h1 (by rw[Qqx];exact Qqy h4 (by decide))
   ·show(blsOf (rws.map λ_=>D.bl true)).map _=_;rw[List.map_const',K06.blsOf_true];show some (D.bl ((List.replicate rws.length true).all id))=_;rw[K06.all_true]
  ·have e1:ao f_sounds_of (Zv 0 aj) [(Zf (.tup (rws.map bC)))] = .ok (.tup (sgs (rws.map (·.1)))) [(Zf (.tup (rws.map bC)))]:=aF (ds:=[.tup (rws.map bC)]) rfl (sounds_of7 h h4);exact aF (aD e1 bA) hr
theorem read_stock(h0:0<rws.length)(ho:∀k,0<k->k<=rws.length->f_is_stock [.tup ((rws.take k).map bC)]=some (.bl true)):f_read_stock [.str (stx rws)]=some (.tup (rws.map bC)):=by
 obtain⟨p,ps,hp⟩:∃p ps,rws.map rtx=p::ps:=by
  cases rws with
  | nil=>exact absurd h0 (by decide)
  | cons r rs=>exact⟨_,_,rfl⟩
 have hsp:gSplit (.str (stx rws)) (.str [44,32])=some (.lst ((rws.map rtx).map .str)):=by
  have hf:=stx_few h h4;have hn:∀z∈rws.map rtx,44 ∉ z:=λz hz=>by obtain⟨r,hr,rfl⟩:=Qq8.mp hz;exact rtx_sgn (h r hr)
  unfold stx;rw[hp] at hf hn ⊢;exact KX.split_l (c:=44) (r:=[32]) (n:=4) (m:=50) (by decide +kernel) hf (by decide) (by decide) (by decide) (by decide) hn
 obtain⟨e',f1,v2,v3,v4,rfl⟩:=forO_inv' (g:=gvTup 2 (aV (ak 2) (aV (ak 3) gvNil))) (b:=lb_read_stock_1) (enumT ((rws.map rtx).map .str)) (λdone env=>∃v2 v3 v4,env=[Zs (stx rws),(Zf (.tup ((rws.take done.length).map bC))),v2,v3,v4])
  (λdone d rest hall env ⟨v2,v3,v4,he⟩=>by
   subst he;have hg:(enumT ((rws.map rtx).map .str))[done.length]? = some d:=by rw[hall];simp
   have hk:done.length<rws.length:=by
    have:=(Qq4.mp hg).1;unfold enumT at this
    simpa using this
   generalize hdl:done.length=k at *;have hd:d = .tup [.int (k:Nat),.str (rtx rws[k])]:=by unfold enumT at hg;simp[hk] at hg;exact hg.symm
   subst hd;have hr:=h rws[k] (Qz7 hk);generalize hr':rws[k]=r at *;have hs2:gSplit (.str (rtx r)) (.str [32])=some (.lst ((rwd r).map .str)):=
    KX.split_l (c:=32) (r:=[]) (n:=5) (m:=8) (by decide +kernel) (rwd_few hr) (by decide) (by decide) (by decide) (by decide) λz hz hc=>(rwd_sgn hr z hz 32 hc).1 rfl
   refine⟨[Zs (stx rws),(Zf (.tup ((rws.take k).map bC))),(Zf (.int (k:Nat))),Zs (rtx r),v4],[Zs (stx rws),(Zf (.tup ((rws.take (k+1)).map bC))),(Zf (.int (k:Nat))),Zs (rtx r),(Zf (.lst ((rwd r).map .str)))],rfl,?_,_,_,_,by rw[Qqq,hdl];rfl⟩;unfold lb_read_stock_1;refine(aC (e:=[Zs (stx rws),(Zf (.tup ((rws.take k).map bC))),(Zf (.int (k:Nat))),Zs (rtx r),(Zf (.lst ((rwd r).map .str)))]) ?_).trans ?_
   ·exact bK (e:=[Zs (stx rws),(Zf (.tup ((rws.take k).map bC))),(Zf (.int (k:Nat))),Zs (rtx r),v4]) (aN (x:=.str (rtx r)) (y:=.str [32]) (e1:=[Zs (stx rws),(Zf (.tup ((rws.take k).map bC))),(Zf (.int (k:Nat))),Zs (rtx r),v4]) rfl rfl hs2) rfl
   generalize hE:([Zs (stx rws),(Zf (.tup ((rws.take k).map bC))),(Zf (.int (k:Nat))),Zs (rtx r),(Zf (.lst ((rwd r).map .str)))]:Ev.Env)=env;refine(aC (e:=[Zs (stx rws),(Zf (.tup ((rws.take (k+1)).map bC))),(Zf (.int (k:Nat))),Zs (rtx r),(Zf (.lst ((rwd r).map .str)))]) ?_).trans ?_
   ·refine bK (d:=.tup ((rws.take (k+1)).map bC)) (e:=env) ?_ (by rw[<-hE];rfl);have sl:evSlA (aQ 4) (evP (Zi 1)) evNoP env = .ok (.lst (r.2.map .str)) env:=by
     refine evSlA_eq (d:=.lst ((rwd r).map .str)) (l:=some ((1:Nat):Int)) (u:=none) (e1:=env) (e2:=env) (by rw[<-hE];rfl) rfl rfl ?_;show some (D.lst (cutD ((rwd r).map D.str) (some ((1:Nat):Int)) none))=_;rw[KX.cut_from]
     rfl
    refine evBF (x:=.tup ((rws.take k).map bC)) (y:=.tup [bC r]) (e2:=env) (by rw[<-hE];rfl) ?_ (by rw[<-hE];rfl) ?_
    ·refine evTup_eq (aD (evTup_eq (ds:=[.str [r.1],.tup (r.2.map .str)]) (aD (d:=.str [r.1]) (e1:=env) (evBF (x:=.lst ((rwd r).map .str)) (y:=.int 0) (by rw[<-hE];rfl) rfl (by rw[<-hE];rfl) (K06.atI_zero _ _)) (aD (aF (ds:=[.lst (r.2.map .str)]) (aD sl bA) rfl) bA)) Ev.zz2) bA) Ev.zz1
    ·show(if ((rws.take k).map bC).length+1<=sizeLine then some (D.tup ((rws.take k).map bC++[bC r])) else none)=_;rw[if_pos,<-hr',List.take_succ_eq_append_getElem hk,Qxj]
     ·rfl
     ·rw[Qqx,Qxx];exact Qqy (show min k rws.length+1<=5 by omega) (by decide)
   ·refine(stIf_f (e:=[Zs (stx rws),(Zf (.tup ((rws.take (k+1)).map bC))),(Zf (.int (k:Nat))),Zs (rtx r),(Zf (.lst ((rwd r).map .str)))]) ?_).trans rfl;exact evNotT_eq (b:=true) (cL (aF (ds:=[.tup ((rws.take (k+1)).map bC)]) rfl (ho (k+1) (Nat.succ_pos k) hk))))
  [Zs (stx rws),Zf (.tup []),Zn,Zn,Zn] ⟨none,Zn,Zn,rfl⟩
 have hel:(enumT ((rws.map rtx).map .str)).length=rws.length:=by unfold enumT;simp
 rw[hel,List.take_length] at f1;refine bV (env:=[Zs (stx rws),(Zf (.tup (rws.map bC))),v2,v3,v4]) ?_;unfold b_read_stock;refine(aC (e:=[Zs (stx rws),Zn,Zn,Zn,Zn]) (stDrop_eq (aF (ds:=[.str (stx rws)]) rfl (need_text _)))).trans ?_;refine(aC (e:=[Zs (stx rws),Zf (.tup []),Zn,Zn,Zn]) rfl).trans ?_;refine(aC (e:=[Zs (stx rws),(Zf (.tup (rws.map bC))),v2,v3,v4]) ?_).trans rfl;refine(stFor_eq (ds:=enumT ((rws.map rtx).map .str)) (e:=[Zs (stx rws),Zf (.tup []),Zn,Zn,Zn]) ?_).trans f1;have he:aa (aG gSplit (aQ 0) (Zw [44,32])) aj [Zs (stx rws),Zf (.tup []),Zn,Zn,Zn] = .ok [.lst ((rws.map rtx).map .str)] [Zs (stx rws),Zf (.tup []),Zn,Zn,Zn]:=aD (aN (x:=.str (stx rws)) (y:=.str [44,32]) (e1:=[Zs (stx rws),Zf (.tup []),Zn,Zn,Zn]) (e2:=[Zs (stx rws),Zf (.tup []),Zn,Zn,Zn]) rfl rfl hsp) bA;unfold evEnumL;rw[he]
 rfl
end
theorem rises_all:(XS.all λx=>[1,2,3,4].all λk=>isT (f_rises [.tup (sgs (x.take k))]))=true:=by decide +kernel
theorem stock_is{x:List Nat}(hx:x∈XS){rws:List Rw}(hr:rws.map (·.1)=x)(hm:∀r∈rws,mok r.2=true):(∀r∈rws,RowOk r)/\0<rws.length/\rws.length<=4/\∀k,0<k->k<=rws.length->f_is_stock [.tup ((rws.take k).map bC)]=some (.bl true):=by
 have hl:rws.length=x.length:=by rw[<-hr,Qqx]
 have hok:∀r∈rws,RowOk r:=λr h=>row_ok hx (by rw[<-hr];exact Qq8.mpr ⟨r,h,rfl⟩) (hm r h);have h4:=K06.XS_len x hx;have h1:=K06.XS_pos x hx;refine⟨hok,by omega,by omega,λk h0 hk=>?_⟩;refine is_stock (λr h=>hok r (List.mem_of_mem_take h)) (by rw[Qxx];omega) (by rw[Qxx];omega) ?_;rw[List.map_take,hr];exact isT_ok (Qq5.mp (Qq5.mp rises_all x hx) k (by
  have:k=1\/k=2\/k=3\/k=4:=by omega
  rcases this with rfl|rfl|rfl|rfl<;>decide))
open K06 (XS SG isT isT_ok)
open K07 (Pt enc2 cN CP decG decG_ok)
open K09 (RuleD)
def sndB:List Nat->Bool
 | []=>true
 | [c]=>decide (97<=c)&&decide (c<=122)
 | _=>false
theorem sndB_ok{z:List Nat}(h:sndB z=true):Snd z:=by
 match z,h with
 | [],_=>exact .inl rfl
 | [c],h=>
  have h:(decide (97<=c)&&decide (c<=122))=true:=h;rw[Qwy] at h;exact .inr ⟨c,rfl,Qq7 h.1,Qq7 h.2⟩
 | _::_::_,h=>cases h
def sgB:Option (List Nat)->Bool
 | none=>true
 | some z=>(!z.isEmpty)&&decide (z.length<=5)&&z.all λc=>decide (c=35)||(decide (97<=c)&&decide (c<=122))
theorem sgB_ok{g:Option (List Nat)}(h:sgB g=true):Sg g:=by
 intro z e;subst e;have h:((!z.isEmpty)&&decide (z.length<=5)&&z.all λc=>decide (c=35)||(decide (97<=c)&&decide (c<=122)))=true:=h;rw[Qwy,Qwy] at h;refine⟨λe=>by rw[e] at h;exact absurd h.1.1 (by decide),Qq7 h.1.2,λc hc=>?_⟩;have:=Qq5.mp h.2 c hc;rw[Bool.or_eq_true,Qwy] at this;rcases this with z|z
 ·exact .inl (Qq7 z)
 ·exact .inr ⟨Qq7 z.1,Qq7 z.2⟩
theorem sg_all:(XS.all λx=>(SG x).all λl=>match decG l with|some g=>sgB g|none=>false)=true:=by decide +kernel
theorem sg_of{x:List Nat}(hx:x∈XS){l:D}(h:l∈SG x):∃g,l=cN g/\Sg g:=by
 have h1:=Qq5.mp (Qq5.mp sg_all x hx) l h;split at h1
 ·rename_i g e;exact⟨g,decG_ok e,sgB_ok h1⟩
 ·cases h1
theorem cp_all:(XS.all λx=>(CP x).all λps=>isT (f_are_changes [.tup (sgs x),.tup (ps.map enc2)])&&decide (ps.length<=4)&&ps.all λp=>sndB p.1&&sndB p.2)=true:=by decide +kernel
structure QOk(x:List Nat)(q:Q):Prop where
 ok:Ok q
 rd:RuleD x (cC q)
 ch:f_are_changes [.tup (sgs x),.tup (q.ps.map enc2)]=some (.bl true)
 l:cN q.l∈SG x
 r:cN q.r∈SG x
theorem q_of{x:List Nat}(hx:x∈XS){R:D}(h1:RuleD x R)(h2:K07.RuleC x R):∃q,R=cC q/\QOk x q:=by
 obtain⟨w,ch,l,r,rfl,ho⟩:=h1;obtain⟨w',ps,_,_,e,_,hps,_,_⟩:=h2;obtain⟨g1,e1,s1⟩:=sg_of hx ho.left;obtain⟨g2,e2,s2⟩:=sg_of hx ho.right;have ec:ch = .tup (ps.map enc2):=by injection e with e;injection e with _ e;injection e
 have hc:=Qq5.mp (Qq5.mp cp_all x hx) ps hps;rw[Qwy,Qwy] at hc;obtain⟨t,et,ht⟩:∃t,w = .str t/\(t=[111,110,99,101]\/t=[97,108,111,110,103]):=by
  rcases ho.way with e|e
  ·exact⟨_,e,.inl rfl⟩
  ·exact⟨_,e,.inr rfl⟩
 have hR:D.tup [w,ch,l,r]=cC ⟨t,ps,g1,g2⟩:=by rw[et,ec,e1,e2];rfl
 refine⟨⟨t,ps,g1,g2⟩,hR,⟨ht,Qq7 hc.1.2,λp hp=>?_,s1,s2⟩,⟨w,ch,l,r,hR.symm,ho⟩,isT_ok hc.1.1,?_,?_⟩
 ·have:=Qq5.mp hc.2 p hp;rw[Qwy] at this;exact⟨sndB_ok this.1,sndB_ok this.2⟩
 ·show cN g1∈SG x;rw[<-e1];exact ho.left
 ·show cN g2∈SG x;rw[<-e2];exact ho.right
theorem qs_of{x:List Nat}(hx:x∈XS):∀(Rs:List D),(∀R∈Rs,RuleD x R)->(∀R∈Rs,K07.RuleC x R)->∃qs:List Q,Rs=qs.map cC/\∀q∈qs,QOk x q
 | [],_,_=>⟨[],rfl,λq hq=>by simp at hq⟩
 | R::Rs,h1,h2=>by
  obtain⟨q,e,hq⟩:=q_of hx (h1 R (Qqz ..)) (h2 R (Qqz ..));obtain⟨qs,e',hqs⟩:=qs_of hx Rs (λQ hQ=>h1 Q (Qqj _ hQ)) λQ hQ=>h2 Q (Qqj _ hQ);refine⟨q::qs,by rw[e,e'];rfl,λq' hq'=>?_⟩;rcases Qq3.mp hq' with rfl|hq'
  ·exact hq
  ·exact hqs q' hq'
theorem order(n:Int)(x:List Nat)(hx:x∈XS):∃s qs n',f_law_order [.lst [.int n],.str x,.int 4]=some (bL s qs,.lst [.int n'])/\s∈SD/\(∀q∈qs,QOk x q)/\qs.length<=4:=by
 obtain⟨s,Rs,n',h1,h2,h3,h4⟩:=K14.order n x hx 4 (by decide);obtain⟨s',Rs',n'',h1',h2',h3',h4'⟩:=K07.order n x hx 4 (by decide);rw[h1] at h1';have e:Rs=Rs':=by injection h1' with e;injection e with e _;injection e with e;injection e with _ e;injection e with e _;injection e
 subst e;obtain⟨qs,rfl,hqs⟩:=qs_of hx Rs h3 h3';obtain⟨t,et,ht⟩:∃t,s = .str t/\t∈SD:=by
  rcases Qq3.mp h2 with e|e
  ·exact⟨_,e,by decide⟩
  ·exact⟨_,Qq2.mp e,by decide⟩
 subst et;exact⟨t,qs,n',h1,ht,hqs,by rw[Qqx] at h4;exact h4⟩
theorem rows_of:∀rws:List Rw,K06.Rows (sgs (rws.map (·.1))) (rws.map bC)
 | []=>.nil
 | r::rws=>.cons (rows_of rws)
theorem is_rule{x:List Nat}(hx:x∈XS){rws:List Rw}(hr:rws.map (·.1)=x){q:Q}(h:QOk x q):f_is_rule [.tup (rws.map bC),cC q]=some (.bl true):=by
 have hrow:=rows_of rws;rw[hr] at hrow;refine K06.is_rule (w:=.str q.w) (ch:=.tup (q.ps.map enc2)) (l:=cN q.r) (r:=cN q.l) hx hrow ⟨?_,h.ch,?_,h.r,h.l⟩
 ·rcases h.ok.w with e|e<;>rw[e]
  ·exact Qqz ..
  ·exact Qqj _ (Qqz ..)
 ·refine Qq5.mpr λd hd=>?_;obtain⟨p,_,rfl⟩:=Qq8.mp hd
  rfl
theorem is_order{T:D}{s:List Nat}{qs:List Q}(hs:s∈SD)(h4:qs.length<=4)(hR:∀q∈qs,f_is_rule [T,cC q]=some (.bl true)):f_is_order [T,bL s qs]=some (.bl true):=by
 obtain⟨env',g1,v4,rfl⟩:=lcO_enc (g:=ak 4) (e:=ao f_is_rule (Zv 0 (Zv 4 aj))) (λenv=>∃v4,env=[Zf T,Zf (bL s qs),Zs s,(Zf (.tup (qs.map cC))),v4]) cC (λR=>.bl true) qs
  [Zf T,Zf (bL s qs),Zs s,(Zf (.tup (qs.map cC))),Zn] ⟨none,rfl⟩
  (λq hq env ⟨v4,he⟩=>by
   subst he;exact⟨[Zf T,Zf (bL s qs),Zs s,(Zf (.tup (qs.map cC))),Zf (cC q)],_,rfl,aF (ds:=[T,cC q]) rfl (hR q hq),_,rfl⟩)
 refine bV (env:=[Zf T,Zf (bL s qs),Zs s,(Zf (.tup (qs.map cC)))]) ?_;unfold b_is_order;refine(aC (e:=[Zf T,Zf (bL s qs),Zn,Zn]) (by rfl)).trans ?_;refine(aC (e:=[Zf T,Zf (bL s qs),Zs s,(Zf (.tup (qs.map cC)))]) (by rfl)).trans ?_;generalize hE:([Zf T,Zf (bL s qs),Zs s,(Zf (.tup (qs.map cC)))]:Ev.Env)=env;refine(aC (e:=env) ((stIf_f (e:=env) ?_).trans rfl)).trans ?_
 ·refine(evOrT_f (e:=env) ?_).trans ((evOrT_f (e:=env) (by rw[<-hE];rfl)).trans ?_)
  ·refine cL (evBF (x:=.str s) (y:=.tup [.str [108,101,102,116],.str [114,105,103,104,116]]) (by rw[<-hE];rfl) rfl (by rw[<-hE];rfl) ?_);rcases Qq3.mp hs with rfl|hs
   ·kernel_rfl
   ·cases Qq2.mp hs
    kernel_rfl
  ·refine cL (aN (x:=.int (qs.length:Int)) (y:=.int 4) (e1:=env) (e2:=env) ?_ rfl ?_)
   ·rw[<-hE];refine aF (ds:=[.tup (qs.map cC)]) rfl ?_;show some (D.int ((qs.map cC).length:Int))=_;rw[Qqx]
   ·show some (D.bl (decide ((qs.length:Int) > 4)))=_;rw[Qw7 (by omega)]
 ·refine bH (aF (ds:=[.lst (qs.map λ_=>.bl true)]) (aD ?_ bA) ?_)
  ·rw[<-hE];exact evLC_eq (lo:=4) (n:=5) (ds:=qs.map cC) (aO:=[Zf T,Zf (bL s qs),Zs s,(Zf (.tup (qs.map cC)))]) rfl rfl g1 (by rw[Qqx];exact Qqy h4 (by decide))
  ·show(blsOf (qs.map λ_=>D.bl true)).map _=_;rw[List.map_const',K06.blsOf_true];show some (D.bl ((List.replicate qs.length true).all id))=_;rw[K06.all_true]
def okS:Nat->D->Bool
 | n+1,.tup xs=>xs.all (okS n)
 | _+1,.str _=>true
 | _+1,.non=>true
 | _,_=>false
theorem eqL_iff{f:D->D->Option Bool}:∀(xs ys:List D),(∀x∈xs,∀y∈ys,∃b,f x y=some b/\(b=true↔x=y))->∃b,eqL f xs ys=some b/\(b=true↔xs=ys)
 | [],[],_=>⟨true,rfl,by simp⟩
 | [],y::ys,_=>⟨false,rfl,by simp⟩
 | x::xs,[],_=>⟨false,rfl,by simp⟩
 | x::xs,y::ys,h=>by
  obtain⟨a,e1,h1⟩:=h x (Qqz ..) y (Qqz ..);obtain⟨b,e2,h2⟩:=eqL_iff xs ys λu hu v hv=>h u (Qqj _ hu) v (Qqj _ hv);refine⟨a&&b,by unfold eqL;rw[e1,e2],?_⟩;rw[Qwy,h1,h2,List.cons.injEq]
theorem eqS:∀(n:Nat) (d e:D),okS n d=true->okS n e=true->∃b,bI n d e=some b/\(b=true↔d=e)
 | 0,_,_,h,_=>by cases h
 | n+1,d,e,h1,h2=>by
  cases d with
  | tup xs=>
   cases e with
   | tup ys=>
    obtain⟨b,e1,e2⟩:=eqL_iff (f:=bI n) xs ys λx hx y hy=>eqS n x y (Qq5.mp h1 x hx) (Qq5.mp h2 y hy);exact⟨b,e1,by rw[e2,D.tup.injEq]⟩
   | str y=>exact⟨false,rfl,by simp⟩
   | non=>exact⟨false,rfl,by simp⟩
   | _=>cases h2
  | str x=>
   cases e with
   | tup ys=>exact⟨false,rfl,by simp⟩
   | str y=>exact⟨x == y,rfl,by rw[D.str.injEq,beq_iff_eq]⟩
   | non=>exact⟨false,rfl,by simp⟩
   | _=>cases h2
  | non=>
   cases e with
   | tup ys=>exact⟨false,rfl,by simp⟩
   | str y=>exact⟨false,rfl,by simp⟩
   | non=>exact⟨true,rfl,by simp⟩
   | _=>cases h2
  | _=>cases h1
theorem okS_q(q:Q):okS 58 (cC q)=true:=by
 have h:okS 57 (.tup (q.ps.map enc2))=true:=by
  refine Qq5.mpr λd hd=>?_;obtain⟨p,_,rfl⟩:=Qq8.mp hd
  rfl
 have hg:∀g:Option (List Nat),okS 57 (cN g)=true:=λg=>by
  cases g with
  | none=>rfl
  | some z=>
   refine Qq5.mpr λd hd=>?_;obtain⟨c,_,rfl⟩:=Qq8.mp hd
   rfl
 show([D.str q.w,.tup (q.ps.map enc2),cN q.l,cN q.r].all (okS 57))=true;simp[h,hg]
 rfl
theorem okS_o(s:List Nat)(qs:List Q):okS 60 (bL s qs)=true:=by
 have h:okS 59 (.tup (qs.map cC))=true:=by refine Qq5.mpr λd hd=>?_;obtain⟨q,_,rfl⟩:=Qq8.mp hd;exact okS_q q
 show([D.str s,.tup (qs.map cC)].all (okS 59))=true;simp[h]
 rfl
theorem eq_o(s t:List Nat)(qs rs:List Q):∃b,gEq (bL s qs) (bL t rs)=some (.bl b)/\(b=true↔bL s qs=bL t rs):=by obtain⟨b,e,h⟩:=eqS 60 (bL s qs) (bL t rs) (okS_o s qs) (okS_o t rs);exact⟨b,by unfold gEq;rw[e];rfl,h⟩
theorem ne_o(s:List Nat)(qs:List Q):gNe (bL s qs) (bL s qs)=some (.bl false):=by
 obtain⟨b,e,h⟩:=eqS 60 (bL s qs) (bL s qs) (okS_o s qs) (okS_o s qs);unfold gNe;rw[e,h.mpr rfl]
 rfl
open K09 (RuleD fin)
theorem sd_sides{s:List Nat}(h:s∈SD):D.str s∈sides:=by
 rcases Qq3.mp h with rfl|h
 ·exact Qqz ..
 ·rw[Qq2.mp h];exact Qqj _ (Qqz ..)
theorem take_prt(s:List Nat)(qs:List Q)(j:Nat):(prt s qs).take (j+1)=prt s (qs.take j):=by unfold prt;rw[List.take_succ_cons,List.map_take]
theorem walk_take(s:D):∀(Rs:List D) (w:List Nat) (j:Nat),(K09.wds s w Rs).take (j+1)=K09.wds s w (Rs.take j)
 | [],w,j=>by
  rw[List.take_nil];unfold K09.wds;rw[List.take_succ_cons,List.take_nil]
 | R::Rs,w,0=>by
  unfold K09.wds
  rfl
 | R::Rs,w,j+1=>by
  rw[List.take_succ_cons];unfold K09.wds;rw[List.take_succ_cons,walk_take s Rs _ j]
section
variable{x:List Nat}(hx:x∈XS){rws:List Rw}(hr:rws.map (·.1)=x){s:List Nat}(hs:s∈SD){w:List Nat}(hw:∀c∈w,c∈x)(h6:w.length<=6)
include hx hr hs hw h6
theorem pw{n:Nat}(h:n<=4):(w.length+1)*2^n<=301:=by
 have:n=0\/n=1\/n=2\/n=3\/n=4:=by omega
 rcases this with rfl|rfl|rfl|rfl|rfl<;>omega
theorem rd_o{qs:List Q}(hq:∀q∈qs,QOk x q):∀R∈qs.map cC,RuleD x R:=λR hR=>by
 obtain⟨q,hq',rfl⟩:=Qq8.mp hR;exact(hq q hq').rd
section
variable{qs:List Q}(hq:∀q∈qs,QOk x q)(h4:qs.length<=4)
include hq h4
theorem mo_walk:f_walk [bL s qs,.str w]=some (.tup ((K09.wds (.str s) w (qs.map cC)).map .str)):=
 K09.walk hx (sd_sides hs) (rd_o hx hr hs hw h6 hq) (by rw[Qqx];omega) hw (by rw[Qqx];exact pw hx hr hs hw h6 h4)
theorem mo_made:f_made [bL s qs,.str w]=some (.str (fin (.str s) (qs.map cC) w)):=
 K09.made hx (sd_sides hs) (rd_o hx hr hs hw h6 hq) (by rw[Qqx];omega) hw (by rw[Qqx];exact pw hx hr hs hw h6 h4)
theorem mo_lmade:f_law_made [bL s qs,.str w]=some (.str (fin (.str s) (qs.map cC) w)):=by have h:=K09.law_walk hx (sd_sides hs) (rd_o hx hr hs hw h6 hq) (by rw[Qqx];omega) hw (by rw[Qqx];exact pw hx hr hs hw h6 h4);refine bV (env:=[Zf (bL s qs),Zs w]) (bH ?_);exact aN (x:=.tup ((K09.wds (.str s) w (qs.map cC)).map .str)) (y:=.int (-1)) (aF (ds:=[bL s qs,.str w]) (by rfl) h) (by rfl) (K09.last_tup _ w)
theorem mo_is:f_is_order [.tup (rws.map bC),bL s qs]=some (.bl true):=is_order hs h4 λq h=>is_rule hx hr (hq q h)
theorem mo_read:f_read_order [.tup (rws.map bC),.str (otx s qs)]=some (bL s qs):=
 read_order _ hs h4 (λq h=>(hq q h).ok) λk hk=>is_order hs (by rw[Qxx];omega) λq h=>is_rule hx hr (hq q (List.mem_of_mem_take h))
end
variable{qs:List Q}(hq:∀q∈qs,QOk x q)(h4:qs.length<=4)
include hq h4
theorem ne_str(z:List Nat):gNe (.str z) (.str z)=some (.bl false):=by
 show some (D.bl (!(z == z)))=_;rw[Qj0]
 rfl
theorem size_body(P:OD)(a7 a8 a9:OD)(j:Nat)(hj:j<=qs.length) :
  ∃b7,lb_law_right_1 [P,(Zf (.tup (rws.map bC))),Zf (bL s qs),Zs (otx s qs),(Zf (.lst ((prt s qs).map .str))),Zs w,(Zf (.int ((j+1:Nat):Int))),a7,a8,a9] = .nx [P,(Zf (.tup (rws.map bC))),Zf (bL s qs),Zs (otx s qs),(Zf (.lst ((prt s qs).map .str))),Zs w,(Zf (.int ((j+1:Nat):Int))),b7,a8,a9]:=by
 have hq':∀q∈qs.take j,QOk x q:=λq h=>hq q (List.mem_of_mem_take h);have h4':(qs.take j).length<=4:=by rw[Qxx];omega
 have r1:=mo_read hx hr hs hw h6 hq' h4';have r2:=mo_is hx hr hs hw h6 hq' h4';have r3:=mo_made hx hr hs hw h6 hq' h4';have r4:=mo_lmade hx hr hs hw h6 hq' h4';have r5:=mo_walk hx hr hs hw h6 hq' h4';have r6:=mo_walk hx hr hs hw h6 hq h4;have e1:cutD ((prt s qs).map D.str) none (some ((j+1:Nat):Int))=(prt s (qs.take j)).map .str:=by rw[KX.cut_to,<-List.map_take,take_prt]
 have jn:=join_o hs h4' λq h=>(hq' q h).ok;have e2:gSlT (.tup (qs.map cC)) none (some ((j:Nat):Int))=some (.tup ((qs.take j).map cC)):=by rw[K09.cut_to (by rw[Qqx];exact hj),List.map_take]
 have e3:gSlA (.tup ((K09.wds (.str s) w (qs.map cC)).map .str)) none (some ((j+1:Nat):Int))=some (.tup ((K09.wds (.str s) w ((qs.take j).map cC)).map .str)):=by show some (D.tup (cutD ((K09.wds (.str s) w (qs.map cC)).map D.str) none (some ((j+1:Nat):Int))))=_;rw[KX.cut_to,<-List.map_take,walk_take,List.map_take]
 refine⟨(Zf (bL s (qs.take j))),?_⟩;generalize hE:([P,(Zf (.tup (rws.map bC))),Zf (bL s qs),Zs (otx s qs),(Zf (.lst ((prt s qs).map .str))),Zs w,(Zf (.int ((j+1:Nat):Int))),a7,a8,a9]:Ev.Env)=env;unfold lb_law_right_1;refine(aC (e:=[P,(Zf (.tup (rws.map bC))),Zf (bL s qs),Zs (otx s qs),(Zf (.lst ((prt s qs).map .str))),Zs w,(Zf (.int ((j+1:Nat):Int))),(Zf (bL s (qs.take j))),a8,a9]) ?_).trans ?_
 ·refine bK (d:=bL s (qs.take j)) (e:=env) ?_ (by rw[<-hE];rfl);refine aF (ds:=[.tup (rws.map bC),.str (otx s (qs.take j))]) (aD (d:=.tup (rws.map bC)) (e1:=env) (by rw[<-hE];rfl) (aD (aN (x:=.str [59,32]) (y:=.lst ((prt s (qs.take j)).map .str)) (e1:=env) (e2:=env) rfl ?_ jn) bA)) r1;refine evSlA_eq (d:=.lst ((prt s qs).map .str)) (l:=none) (u:=some ((j+1:Nat):Int)) (e1:=env) (e2:=env) (by rw[<-hE];rfl) rfl (by rw[<-hE];rfl) ?_;show some (D.lst (cutD _ _ _))=_;rw[e1]
 generalize hE2:([P,(Zf (.tup (rws.map bC))),Zf (bL s qs),Zs (otx s qs),(Zf (.lst ((prt s qs).map .str))),Zs w,(Zf (.int ((j+1:Nat):Int))),(Zf (bL s (qs.take j))),a8,a9]:Ev.Env)=bZ;refine(aC (e:=bZ) ((stIf_f (e:=bZ) ?_).trans rfl)).trans ((stIf_f (e:=bZ) ?_).trans rfl)
 ·refine(evOrT_f (e:=bZ) (evNotT_eq (b:=true) (cL (aF (ds:=[.tup (rws.map bC),bL s (qs.take j)]) (by rw[<-hE2];rfl) r2)))).trans ?_;refine cL (evBF (x:=bL s (qs.take j)) (y:=bL s (qs.take j)) (by rw[<-hE2];rfl) ?_ (by rw[<-hE2];rfl) (ne_o _ _));refine evTup_eq (aD (d:=.str s) (e1:=bZ) (by rw[<-hE2];rfl) (aD (K09.evSlT_eq (d:=.tup (qs.map cC)) (l:=none) (u:=some ((j:Nat):Int)) (e1:=bZ) (e2:=bZ) (by rw[<-hE2];rfl) rfl ?_ e2) bA)) Ev.zz2;rw[<-hE2];show R.ok (some (((j+1:Nat):Int) - 1)) _=_;have:((j+1:Nat):Int) - 1=(j:Int):=by omega
  rw[this]
 ·refine(evOrT_f (e:=bZ) (cL (aN (aF (ds:=[bL s (qs.take j),.str w]) (e:=bZ) (by rw[<-hE2];rfl) r3) (aF (ds:=[bL s (qs.take j),.str w]) (by rw[<-hE2];rfl) r4) (ne_str hx hr hs hw h6 hq h4 _)))).trans ?_;refine cL (aN (evSlA_eq (l:=none) (u:=some ((j+1:Nat):Int)) (e1:=bZ) (e2:=bZ) (e3:=bZ) (aF (ds:=[bL s qs,.str w]) (by rw[<-hE2];rfl) r6) rfl (by rw[<-hE2];rfl) e3) (aF (ds:=[bL s (qs.take j),.str w]) (by rw[<-hE2];rfl) r5) (K09.gNe_self (K09.ok_strs _)))
end
theorem law_right{x:List Nat}(hx:x∈XS){rws:List Rw}(hr:rws.map (·.1)=x){s:List Nat}(hs:s∈SD){qs:List Q}(hq:∀q∈qs,QOk x q)(h4:qs.length<=4)(n:Int):∃n',f_law_right [.lst [.int n],.tup (rws.map bC),bL s qs]=some (.bl true,.lst [.int n']):=by
 obtain⟨w,n',hwd,hw,h6⟩:=K20.word n x hx 6 (by decide);have hok:∀q∈qs,Ok q:=λq h=>(hq q h).ok;have hrow:=rows_of rws;rw[hr] at hrow;have hso:f_law_sounds [.tup (rws.map bC)]=some (.str x):=K06.law_sounds hx hrow;have hqr:∀q∈qs.reverse,QOk x q:=λq h=>hq q (List.mem_reverse.mp h);have h4r:qs.reverse.length<=4:=by rw[Qx0];exact h4
 refine⟨n',?_⟩;obtain⟨e',f1,v6,v7,rfl⟩:=forO_inv' (g:=ak 6) (b:=lb_law_right_1) (cR 1 1 (qs.length+1)) (λdone env=>∃v6 v7,env=[Zl [.int n'],(Zf (.tup (rws.map bC))),Zf (bL s qs),Zs (otx s qs),(Zf (.lst ((prt s qs).map .str))),Zs w,v6,v7,Zn,Zn])
  (λdone d rest hall env ⟨v6,v7,he⟩=>by
   subst he;have hg:(cR 1 1 (qs.length+1))[done.length]? = some d:=by rw[hall];simp
   obtain⟨hk,rfl⟩:=stepsI_get hg;have e1:(1+(done.length:Int)*1)=((done.length+1:Nat):Int):=by omega
   rw[e1];obtain⟨b7,hb⟩:=size_body hx hr hs hw h6 hq h4 (Zl [.int n']) v7 none none done.length (by omega);exact⟨_,_,rfl,hb,_,_,rfl⟩)
  [Zl [.int n'],(Zf (.tup (rws.map bC))),Zf (bL s qs),Zs (otx s qs),(Zf (.lst ((prt s qs).map .str))),Zs w,Zn,Zn,Zn,Zn] ⟨none,Zn,rfl⟩
 have lenE:∀env:Ev.Env,env[4]? = some (Zf (.lst ((prt s qs).map .str)))->ao gLen (aa (bB 4) aj) env = .ok (.int ((qs.length+1:Nat):Int)) env:=λenv h=>by
  refine aF (ds:=[.lst ((prt s qs).map .str)]) (aD (d:=.lst ((prt s qs).map .str)) ?_ bA) ?_
  ·unfold bB;rw[h]
  ·show some (D.int (((prt s qs).map D.str).length:Int))=_;unfold prt;rw[Qqx,Qqk,Qqx]
 obtain⟨env',hend,hp⟩:∃env',(aJ (cT (cU (aG gGt (ao gLen (aa (bB 4) aj)) (Zi 2))) (aJ (aY (aG gJoin (Zw [59,32]) (aG bN (evSlA (aQ 4) evNoP (evP (Zi 1))) (evUn gRev1 (aQ 4)))) (ak 8)) (aJ (aY (ao f_read_order (Zv 1 (Zv 8 aj))) (ak 9)) (aJ (cT (evOrT (cU (aq gNe 9 (evTup (aa (aq cI 2 (Zi 0)) (aa (evUn gRevT (aq cI 2 (Zi 1))) aj))))) (cU (aG gNe (ao f_made (Zv 9 (Zv 5 aj))) (ao f_law_made (Zv 9 (Zv 5 aj)))))) (aZ (evC (.bl false))) bM) (cT (cU (aG gNe (aq gEq 8 (bB 3)) (aq gEq 9 (bB 2)))) (aZ (evC (.bl false))) bM)))) bM) (aZ (evC (.bl true))))
   [Zl [.int n'],(Zf (.tup (rws.map bC))),Zf (bL s qs),Zs (otx s qs),(Zf (.lst ((prt s qs).map .str))),Zs w,v6,v7,Zn,Zn] = .rt false (.bl true) env'/\env'[0]? = some (Zl [.int n']):=by
  have hc:cU (aG gGt (ao gLen (aa (bB 4) aj)) (Zi 2)) [Zl [.int n'],(Zf (.tup (rws.map bC))),Zf (bL s qs),Zs (otx s qs),(Zf (.lst ((prt s qs).map .str))),Zs w,v6,v7,Zn,Zn] = .ok (decide (((qs.length+1:Nat):Int) > 2)) [Zl [.int n'],(Zf (.tup (rws.map bC))),Zf (bL s qs),Zs (otx s qs),(Zf (.lst ((prt s qs).map .str))),Zs w,v6,v7,Zn,Zn]:=
   cL (aN (y:=.int 2) (lenE _ rfl) rfl rfl)
  cases hb:decide (((qs.length+1:Nat):Int) > 2) with
  | false=>
   rw[hb] at hc;exact⟨_,(aC ((stIf_f hc).trans rfl)).trans rfl,rfl⟩
  | true=>
   rw[hb] at hc;have r1:=mo_read hx hr hs hw h6 hqr h4r;have r3:=mo_made hx hr hs hw h6 hqr h4r;have r4:=mo_lmade hx hr hs hw h6 hqr h4r;have jn:=join_o hs h4r λq h=>(hqr q h).ok;have ga:bN (.lst [.str s]) (.lst (((prt s qs).map D.str).drop 1).reverse)=some (.lst ((prt s qs.reverse).map .str)):=by
    have e:(((prt s qs).map D.str).drop 1).reverse=(qs.reverse.map txt).map D.str:=by show((qs.map txt).map D.str).reverse=_;rw[<-List.map_reverse,<-List.map_reverse]
    rw[e];exact gAdd_o hs h4r λq h=>(hqr q h).ok
   refine⟨[Zl [.int n'],(Zf (.tup (rws.map bC))),Zf (bL s qs),Zs (otx s qs),(Zf (.lst ((prt s qs).map .str))),Zs w,v6,v7,Zs (otx s qs.reverse),Zf (bL s qs.reverse)],(aC ((stIf_t hc).trans ?_)).trans rfl,rfl⟩;generalize hE:([Zl [.int n'],(Zf (.tup (rws.map bC))),Zf (bL s qs),Zs (otx s qs),(Zf (.lst ((prt s qs).map .str))),Zs w,v6,v7,Zn,Zn]:Ev.Env)=env;refine(aC (e:=[Zl [.int n'],(Zf (.tup (rws.map bC))),Zf (bL s qs),Zs (otx s qs),(Zf (.lst ((prt s qs).map .str))),Zs w,v6,v7,Zs (otx s qs.reverse),Zn]) ?_).trans ?_
   ·refine bK (d:=.str (otx s qs.reverse)) (e:=env) (aN (x:=.str [59,32]) (e1:=env) rfl (aN (x:=.lst [.str s]) (y:=.lst (((prt s qs).map D.str).drop 1).reverse) (e1:=env) (e2:=env) ?_ (by rw[<-hE];rfl) ga) jn) (by rw[<-hE];rfl);refine evSlA_eq (d:=.lst ((prt s qs).map .str)) (l:=none) (u:=some ((1:Nat):Int)) (e1:=env) (e2:=env) (by rw[<-hE];rfl) rfl rfl ?_;show some (D.lst (cutD ((prt s qs).map D.str) none (some ((1:Nat):Int))))=_;rw[KX.cut_to]
    rfl
   refine(aC (e:=[Zl [.int n'],(Zf (.tup (rws.map bC))),Zf (bL s qs),Zs (otx s qs),(Zf (.lst ((prt s qs).map .str))),Zs w,v6,v7,Zs (otx s qs.reverse),Zf (bL s qs.reverse)]) ?_).trans ?_
   ·exact bK (d:=bL s qs.reverse) (e:=[Zl [.int n'],(Zf (.tup (rws.map bC))),Zf (bL s qs),Zs (otx s qs),(Zf (.lst ((prt s qs).map .str))),Zs w,v6,v7,Zs (otx s qs.reverse),Zn]) (aF (ds:=[.tup (rws.map bC),.str (otx s qs.reverse)]) (by rfl) r1) (by rfl)
   generalize hE2:([Zl [.int n'],(Zf (.tup (rws.map bC))),Zf (bL s qs),Zs (otx s qs),(Zf (.lst ((prt s qs).map .str))),Zs w,v6,v7,Zs (otx s qs.reverse),Zf (bL s qs.reverse)]:Ev.Env)=bZ;refine(aC (e:=bZ) ((stIf_f (e:=bZ) ?_).trans rfl)).trans ((stIf_f (e:=bZ) ?_).trans rfl)
   ·refine(evOrT_f (e:=bZ) ?_).trans ?_
    ·refine cL (evBF (x:=bL s qs.reverse) (y:=bL s qs.reverse) (by rw[<-hE2];rfl) ?_ (by rw[<-hE2];rfl) (ne_o _ _));have er:D.tup ((qs.map cC).reverse) = .tup (qs.reverse.map cC):=by rw[List.map_reverse]
     refine evTup_eq (aD (d:=.str s) (e1:=bZ) (by rw[<-hE2];rfl) (aD (d:=.tup (qs.reverse.map cC)) (e1:=bZ) ?_ bA)) Ev.zz2;rw[<-er,<-hE2]
     rfl
    ·exact cL (aN (aF (ds:=[bL s qs.reverse,.str w]) (e:=bZ) (by rw[<-hE2];rfl) r3) (aF (ds:=[bL s qs.reverse,.str w]) (by rw[<-hE2];rfl) r4) (ne_str hx hr hs hw h6 hq h4 _))
   ·obtain⟨b,eb,hbi⟩:=eq_o s s qs.reverse qs;have es:gEq (.str (otx s qs.reverse)) (.str (otx s qs))=some (.bl b):=by
     show some (D.bl (otx s qs.reverse == otx s qs))=_
     congr 2
     have r1':=mo_read hx hr hs hw h6 hq h4;cases b with
     | true=>
      have he:=hbi.mp rfl;have hso:=show_order hs h4r λq h=>(hqr q h).ok;rw[he,show_order hs h4 hok] at hso;injection hso with hso
      injection hso with hso
      rw[hso];exact Qj0 _
     | false=>
      refine Qxy.mpr λz=>?_;rw[z,r1'] at r1;exact absurd (hbi.mpr (Qw1 r1).symm) (by decide)
    refine cL (aN (x:=.bl b) (y:=.bl b) (e1:=bZ) (evBF (x:=.str (otx s qs.reverse)) (y:=.str (otx s qs)) (by rw[<-hE2];rfl) (by rw[<-hE2];rfl) (by rw[<-hE2];rfl) es) (evBF (x:=bL s qs.reverse) (y:=bL s qs) (by rw[<-hE2];rfl) (by rw[<-hE2];rfl) (by rw[<-hE2];rfl) eb) ?_);cases b<;>rfl
 refine runIO_eq (env:=env') ?_ hp;unfold b_law_right;have hsh:=show_order hs h4 hok;have hlt:=law_order_text hs h4 hok;refine(aC (e:=[Zl [.int n],(Zf (.tup (rws.map bC))),Zf (bL s qs),Zs (otx s qs),Zn,Zn,Zn,Zn,Zn,Zn]) ?_).trans ?_
 ·exact bK (d:=.str (otx s qs)) (e:=[Zl [.int n],(Zf (.tup (rws.map bC))),Zf (bL s qs),Zn,Zn,Zn,Zn,Zn,Zn,Zn]) (aF (ds:=[bL s qs]) (by rfl) hsh) (by rfl)
 refine(aC (e:=[Zl [.int n],(Zf (.tup (rws.map bC))),Zf (bL s qs),Zs (otx s qs),(Zf (.lst ((prt s qs).map .str))),Zn,Zn,Zn,Zn,Zn]) ?_).trans ?_
 ·exact bK (e:=[Zl [.int n],(Zf (.tup (rws.map bC))),Zf (bL s qs),Zs (otx s qs),Zn,Zn,Zn,Zn,Zn,Zn]) (aN (x:=.str (otx s qs)) (y:=.str [59,32]) (e1:=[Zl [.int n],(Zf (.tup (rws.map bC))),Zf (bL s qs),Zs (otx s qs),Zn,Zn,Zn,Zn,Zn,Zn]) (by rfl) (by rfl) (split_o hs h4 hok)) (by rfl)
 refine(aC (e:=[Zl [.int n'],(Zf (.tup (rws.map bC))),Zf (bL s qs),Zs (otx s qs),(Zf (.lst ((prt s qs).map .str))),Zs w,Zn,Zn,Zn,Zn]) ?_).trans ?_
 ·refine bK (d:=.str w) (e:=[Zl [.int n'],(Zf (.tup (rws.map bC))),Zf (bL s qs),Zs (otx s qs),(Zf (.lst ((prt s qs).map .str))),Zn,Zn,Zn,Zn,Zn]) ?_ (by rfl);exact evIO_eq (x:=.lst [.int n]) (x0:=.lst [.int n]) (ds:=[.str x,.int 6]) (e1:=[Zl [.int n],(Zf (.tup (rws.map bC))),Zf (bL s qs),Zs (otx s qs),(Zf (.lst ((prt s qs).map .str))),Zn,Zn,Zn,Zn,Zn]) (by rfl) (aD (aF (ds:=[.tup (rws.map bC)]) (e:=[Zl [.int n],(Zf (.tup (rws.map bC))),Zf (bL s qs),Zs (otx s qs),(Zf (.lst ((prt s qs).map .str))),Zn,Zn,Zn,Zn,Zn]) (by rfl) hso) (by rfl)) (by rfl) hwd
 refine(aC (e:=[Zl [.int n'],(Zf (.tup (rws.map bC))),Zf (bL s qs),Zs (otx s qs),(Zf (.lst ((prt s qs).map .str))),Zs w,Zn,Zn,Zn,Zn]) ?_).trans ?_
 ·generalize hE:([Zl [.int n'],(Zf (.tup (rws.map bC))),Zf (bL s qs),Zs (otx s qs),(Zf (.lst ((prt s qs).map .str))),Zs w,Zn,Zn,Zn,Zn]:Ev.Env)=env;refine(stIf_f (e:=env) ((evOrT_f (e:=env) ?_).trans ?_)).trans rfl
  ·refine cL (evBF (x:=.lst ((prt s qs).map .str)) (y:=.lst ((prt s qs).map .str)) (e2:=env) (by rw[<-hE];rfl) ?_ (by rw[<-hE];rfl) ?_)
   ·refine aN (x:=.lst [.str s]) (y:=.lst ((qs.map txt).map .str)) (e1:=env) (by rw[<-hE];rfl) ?_ (gAdd_o hs h4 hok);obtain⟨env',h1,v10,rfl⟩:=lcO_enc (g:=ak 10) (e:=ao f_show_rule (Zv 10 aj)) (λe=>∃v10,e=[Zl [.int n'],(Zf (.tup (rws.map bC))),Zf (bL s qs),Zs (otx s qs),(Zf (.lst ((prt s qs).map .str))),Zs w,Zn,Zn,Zn,Zn,v10]) cC (λq=>.str (txt q)) qs [Zl [.int n'],(Zf (.tup (rws.map bC))),Zf (bL s qs),Zs (otx s qs),(Zf (.lst ((prt s qs).map .str))),Zs w,Zn,Zn,Zn,Zn,Zn] ⟨none,rfl⟩
     (λq hq' env ⟨v10,he⟩=>by
      subst he;exact⟨[Zl [.int n'],(Zf (.tup (rws.map bC))),Zf (bL s qs),Zs (otx s qs),(Zf (.lst ((prt s qs).map .str))),Zs w,Zn,Zn,Zn,Zn,Zf (cC q)],_,rfl,aF (ds:=[cC q]) (by rfl) (show_rule (hok q hq')),_,rfl⟩)
    rw[map2Q hs h4 hok] at h1;rw[<-hE];exact evLC_eq (lo:=10) (n:=11) (ds:=qs.map cC) (aO:=[Zl [.int n'],(Zf (.tup (rws.map bC))),Zf (bL s qs),Zs (otx s qs),(Zf (.lst ((prt s qs).map .str))),Zs w,Zn,Zn,Zn,Zn]) (by rfl) (by rfl) h1 (by rw[Qqx,Qqx];exact Qqy h4 (by decide))
   ·refine K09.gNe_self (Qq5.mpr λd hd=>?_);obtain⟨z,_,rfl⟩:=Qq8.mp hd
    rfl
  ·exact cL (evBF (x:=.str (otx s qs)) (y:=.str (otx s qs)) (e2:=env) (by rw[<-hE];rfl) (aF (ds:=[bL s qs]) (by rw[<-hE];rfl) hlt) (by rw[<-hE];rfl) (ne_str hx hr hs hw h6 hq h4 _))
 refine(aC (e:=[Zl [.int n'],(Zf (.tup (rws.map bC))),Zf (bL s qs),Zs (otx s qs),(Zf (.lst ((prt s qs).map .str))),Zs w,v6,v7,Zn,Zn]) ?_).trans hend;refine(stFor_eq (ds:=cR 1 1 (qs.length+1)) (e:=[Zl [.int n'],(Zf (.tup (rws.map bC))),Zf (bL s qs),Zs (otx s qs),(Zf (.lst ((prt s qs).map .str))),Zs w,Zn,Zn,Zn,Zn]) ?_).trans f1;have r2:∀n:Nat,n<=6->rngD [.int 1,.int (n:Int)]=some (cR 1 1 (n - 1)):=by
  intro n hn;have:n=0\/n=1\/n=2\/n=3\/n=4\/n=5\/n=6:=by omega
  rcases this with rfl|rfl|rfl|rfl|rfl|rfl|rfl<;>rfl
 refine K20.evRng_eq (ds:=[.int 1,.int ((qs.length+2:Nat):Int)]) ?_ (r2 (qs.length+2) (by omega));exact aD (d:=.int 1) (e1:=[Zl [.int n'],(Zf (.tup (rws.map bC))),Zf (bL s qs),Zs (otx s qs),(Zf (.lst ((prt s qs).map .str))),Zs w,Zn,Zn,Zn,Zn]) (by rfl) (aD (aN (y:=.int 1) (lenE _ rfl) (by rfl) (by rfl)) bA)
theorem law_body(ns:List Int)(hl:ns.length<=63)(hb:Bits ns)(k:Int)(h0:0<=k)(h1:k<=400)(a2 a3:OD):∃b2 b3,lb_law_1 [(Zf (.arr (ns.map .int))),Zf (.int k),a2,a3] = .nx [(Zf (.arr (ns.map .int))),Zf (.int k),b2,b3]:=by
 obtain⟨p,hp⟩:=K06.pack ns hl hb k h0 (by omega);obtain⟨x,rws,n,hx,hst,hr,hm⟩:=stock7 p;obtain⟨s,qs,n1,hor,hs,hq,h4⟩:=order n x hx;obtain⟨n2,hrt⟩:=law_right hx hr hs hq h4 n1;obtain⟨hok,hl0,hl4,his⟩:=stock_is hx hr hm;have hrow:=rows_of rws;rw[hr] at hrow;have hso:f_law_sounds [.tup (rws.map bC)]=some (.str x):=K06.law_sounds hx hrow;have r1:=show_stock hok hl4;have r2:=law_stock_text hok hl4;have r3:=read_stock hok hl4 hl0 his;have hT:okN 60 (.tup (rws.map bC))=true:=by
  refine Qq5.mpr λd hd=>?_;obtain⟨r,_,rfl⟩:=Qq8.mp hd;show([D.str [r.1],.tup (r.2.map .str)].all (okN 58))=true;have:okN 58 (.tup (r.2.map .str))=true:=by
   refine Qq5.mpr λd hd=>?_;obtain⟨z,_,rfl⟩:=Qq8.mp hd
   rfl
  simp[this]
  rfl
 refine⟨(Zl [.int n2]),(Zf (.tup (rws.map bC))),?_⟩;generalize hA:(Zf (D.arr (ns.map .int)):OD)=A0;unfold lb_law_1;refine(aC (e:=[A0,Zf (.int k),Zl [.int p],a3]) ?_).trans ?_
 ·rw[<-hA];exact(stOwn_eq (d:=.lst [.int p]) (e:=[(Zf (.arr (ns.map .int))),Zf (.int k),a2,a3]) (aF (ds:=[.arr (ns.map .int),.int k]) (by rfl) hp)).trans rfl
 refine(aC (e:=[A0,Zf (.int k),Zl [.int n],(Zf (.tup (rws.map bC)))]) ?_).trans ?_
 ·exact bK (d:=.tup (rws.map bC)) (e:=[A0,Zf (.int k),Zl [.int n],a3]) (evIO_eq (x:=.lst [.int p]) (x0:=.lst [.int p]) (ds:=[]) (e1:=[A0,Zf (.int k),Zl [.int p],a3]) (by rfl) (by rfl) (by rfl) hst) (by rfl)
 generalize hE:([A0,Zf (.int k),Zl [.int n],(Zf (.tup (rws.map bC)))]:Ev.Env)=env;have c1:ao f_show_stock (Zv 3 aj) env = .ok (.str (stx rws)) env:=aF (ds:=[.tup (rws.map bC)]) (by rw[<-hE];rfl) r1;refine(aC (e:=env) ((stIf_f (e:=env) ((evOrT_f (e:=env) ?_).trans ?_)).trans rfl)).trans ?_
 ·exact cL (aN (y:=.tup (rws.map bC)) (e2:=env) (aF (aD c1 bA) r3) (by rw[<-hE];rfl) (K09.gNe_self hT))
 ·refine cL (aN c1 (aF (ds:=[.tup (rws.map bC)]) (by rw[<-hE];rfl) r2) ?_);show some (D.bl (!(stx rws == stx rws)))=_;rw[Qj0]
  rfl
 ·rw[<-hE];refine(stIf_f (e:=[A0,Zf (.int k),Zl [.int n2],(Zf (.tup (rws.map bC)))]) (evNotT_eq (b:=true) (cL ?_))).trans rfl;refine evIO_eq (x:=.lst [.int n1]) (x0:=.lst [.int n]) (ds:=[.tup (rws.map bC),bL s qs]) (e1:=[A0,Zf (.int k),Zl [.int n1],(Zf (.tup (rws.map bC)))]) (by rfl) ?_ (by rfl) hrt;refine aD (d:=.tup (rws.map bC)) (e1:=[A0,Zf (.int k),Zl [.int n],(Zf (.tup (rws.map bC)))]) (by rfl) (aD (d:=bL s qs) (e1:=[A0,Zf (.int k),Zl [.int n1],(Zf (.tup (rws.map bC)))]) ?_ bA);exact evIO_eq (x:=.lst [.int n]) (x0:=.lst [.int n]) (ds:=[.str x,.int 4]) (e1:=[A0,Zf (.int k),Zl [.int n],(Zf (.tup (rws.map bC)))]) (by rfl) (aD (aF (ds:=[.tup (rws.map bC)]) (e:=[A0,Zf (.int k),Zl [.int n],(Zf (.tup (rws.map bC)))]) (by rfl) hso) (by rfl)) (by rfl) hor
theorem true_law(ns:List Int)(hl:ns.length<=63)(hb:Bits ns):f_law [.arr (ns.map .int)]=some (.bl true):=by
 have hlen:ao gLen (aa (bB 0) aj) [Zf (D.arr (ns.map .int)),Zn,Zn,Zn] = .ok (.int (ns.length:Int)) [Zf (D.arr (ns.map .int)),Zn,Zn,Zn]:=by show R.ok (D.int ((ns.map D.int).length:Int)) _=_;rw[Qqx]
 obtain⟨ds,hds,hk⟩:∃ds,evRng (aa (Zi 0) (aa (ao gMax (aa (Zi 1) (aa (ao gMin (aa (ao gLen (aa (bB 0) aj)) (aa (Zi 12) aj))) aj))) (aa (Zi 2) aj))) [Zf (D.arr (ns.map .int)),Zn,Zn,Zn] = .ok ds [Zf (D.arr (ns.map .int)),Zn,Zn,Zn]/\∀d∈ds,∃k:Int,d = .int k/\0<=k/\k<=400:=by
  generalize hE:([Zf (D.arr (ns.map .int)),Zn,Zn,Zn]:Ev.Env)=env at hlen ⊢;have a1:aa (Zi 0) (aa (ao gMax (aa (Zi 1) (aa (ao gMin (aa (ao gLen (aa (bB 0) aj)) (aa (Zi 12) aj))) aj))) (aa (Zi 2) aj)) env = .ok [.int 0,.int (if (if (12:Int)<ns.length then 12 else (ns.length:Int)) > 1 then (if (12:Int)<ns.length then 12 else (ns.length:Int)) else 1),.int 2] env:=
   aD (d:=.int 0) (by rfl) (aD (aF (ds:=[.int 1,.int (if (12:Int)<ns.length then 12 else (ns.length:Int))]) (aD (d:=.int 1) (by rfl) (aD (aF (ds:=[.int (ns.length:Int),.int 12]) (aD hlen (by rfl)) (by rfl)) bA)) (by rfl)) (by rfl))
  generalize hm:(if (if (12:Int)<ns.length then 12 else (ns.length:Int)) > 1 then (if (12:Int)<ns.length then 12 else (ns.length:Int)) else 1)=m at a1;have hm1:1<=m/\m<=12:=by rw[<-hm];split<;>split<;>omega
  obtain⟨j,rfl⟩:∃j:Nat,m=(j:Int):=⟨m.toNat,by omega⟩;have hall:((List.range 13).all λj=>Builtin.Range.small 0 (j:Int) 2&&decide ((Builtin.Range.rangeSize 0 (j:Int) 2).toNat<=20))=true:=by decide +kernel
  have hj:=Qq5.mp hall j (Qzy.mpr (by omega));rw[Qwy] at hj;have hsz:=Qq7 hj.2;refine⟨cR 0 2 (Builtin.Range.rangeSize 0 (j:Int) 2).toNat,K20.evRng_eq a1 (K09.rngD3 ⟨by decide,by decide,hj.1⟩),λd hd=>?_⟩;unfold cR at hd;obtain⟨i,hi,rfl⟩:=Qq8.mp hd;have:=Qzy.mp hi;exact⟨0+(i:Int)*2,rfl,by omega,by omega⟩
 obtain⟨e',f1,b1,b2,b3,rfl⟩:=forO_inv (g:=ak 1) (b:=lb_law_1) (λenv=>∃b1 b2 b3,env=[Zf (.arr (ns.map .int)),b1,b2,b3]) ds
  (λd hd env ⟨b1,b2,b3,he⟩=>by
   subst he;obtain⟨k,rfl,h0,h1⟩:=hk d hd;obtain⟨c2,c3,hb⟩:=law_body ns hl hb k h0 h1 b2 b3;exact⟨_,_,rfl,hb,_,_,_,rfl⟩)
  [Zf (.arr (ns.map .int)),Zn,Zn,Zn] ⟨_,_,_,rfl⟩
 refine bV (env:=[Zf (.arr (ns.map .int)),b1,b2,b3]) ?_;unfold b_law;refine(aC (e:=[Zf (.arr (ns.map .int)),b1,b2,b3]) ?_).trans rfl;exact(stFor_eq hds).trans f1
open PySem PySem.Spec PyProof.Rows L2 Ev
theorem all_mk{P:Program}{w:World}{K:Fg}{h:Heap}{mg:Str->Option Value}{fa:Addr}(X:K.In h)(G:h.Ns mainGlobals mg)(hfa:mg "law" = some (.ref fa))
  {t_ALL_FITS:Tok} {t_EDGE:Tok} {t_LETTERS:Tok} {t_MOST_LETTERS:Tok} {t_MOST_MARKS:Tok} {t_MOST_RULES:Tok} {t_MOST_SOUNDS:Tok} {t_NO_SOUND:Tok} {ga_SIDES:Addr} {gn_SIDES:Nat} {gsl_SIDES:Array (Option Value)} {gt0_SIDES gt1_SIDES:Tok} {ga_WAYS:Addr} {gn_WAYS:Nat} {gsl_WAYS:Array (Option Value)} {gt0_WAYS gt1_WAYS:Tok}
  (z_all:PySem.W.nsIn K mainGlobals "all" = some none) (z_dict:PySem.W.nsIn K mainGlobals "dict" = some none) (z_divmod:PySem.W.nsIn K mainGlobals "divmod" = some none) (z_enumerate:PySem.W.nsIn K mainGlobals "enumerate" = some none) (z_isinstance:PySem.W.nsIn K mainGlobals "isinstance" = some none) (z_len:PySem.W.nsIn K mainGlobals "len" = some none) (z_list:PySem.W.nsIn K mainGlobals "list" = some none) (z_max:PySem.W.nsIn K mainGlobals "max" = some none) (z_min:PySem.W.nsIn K mainGlobals "min" = some none) (z_range:PySem.W.nsIn K mainGlobals "range" = some none) (z_sorted:PySem.W.nsIn K mainGlobals "sorted" = some none) (z_str:PySem.W.nsIn K mainGlobals "str" = some none) (z_tuple:PySem.W.nsIn K mainGlobals "tuple" = some none) (isi_str:∀d:D,PySem.W.kitOne K (.type (tyD d)) (.type "str")=some (instD d "str")) (isi_tuple:∀d:D,PySem.W.kitOne K (.type (tyD d)) (.type "tuple")=some (instD d "tuple")) (g_ALL_FITS:PySem.W.nsIn K mainGlobals "ALL_FITS" = some (some (.str "*" t_ALL_FITS))) (g_EDGE:PySem.W.nsIn K mainGlobals "EDGE" = some (some (.str "#" t_EDGE))) (g_LETTERS:PySem.W.nsIn K mainGlobals "LETTERS" = some (some (.str "abcdefghijklmnopqrstuvwxyz" t_LETTERS))) (g_MOST_LETTERS:PySem.W.nsIn K mainGlobals "MOST_LETTERS" = some (some (.int 8 t_MOST_LETTERS))) (g_MOST_MARKS:PySem.W.nsIn K mainGlobals "MOST_MARKS" = some (some (.int 4 t_MOST_MARKS))) (g_MOST_RULES:PySem.W.nsIn K mainGlobals "MOST_RULES" = some (some (.int 4 t_MOST_RULES))) (g_MOST_SOUNDS:PySem.W.nsIn K mainGlobals "MOST_SOUNDS" = some (some (.int 4 t_MOST_SOUNDS))) (g_NO_SOUND:PySem.W.nsIn K mainGlobals "NO_SOUND" = some (some (.str "0" t_NO_SOUND))) (g_SIDES:PySem.W.nsIn K mainGlobals "SIDES" = some (some (.ref ga_SIDES))) (gl_SIDES:K.lookup ga_SIDES=some ⟨.type "tuple",none,.seq #[.str "left" gt0_SIDES,.str "right" gt1_SIDES] gn_SIDES,gsl_SIDES⟩) (g_WAYS:PySem.W.nsIn K mainGlobals "WAYS" = some (some (.ref ga_WAYS))) (gl_WAYS:K.lookup ga_WAYS=some ⟨.type "tuple",none,.seq #[.str "once" gt0_WAYS,.str "along" gt1_WAYS] gn_WAYS,gsl_WAYS⟩) (a_is_name:FA K "is_name" s_is_name) (a_is_sound:FA K "is_sound" s_is_sound) (a_rises:FA K "rises" s_rises) (a_is_pair:FA K "is_pair" s_is_pair) (a_are_marks:FA K "are_marks" s_are_marks) (a_is_marked_sound:FA K "is_marked_sound" s_is_marked_sound) (a_sounds_of:FA K "sounds_of" s_sounds_of) (a_is_stock:FA K "is_stock" s_is_stock) (a_sounds_by:FA K "sounds_by" s_sounds_by) (a_changes_sound:FA K "changes_sound" s_changes_sound) (a_puts_one_in:FA K "puts_one_in" s_puts_one_in) (a_are_changes:FA K "are_changes" s_are_changes) (a_are_signs:FA K "are_signs" s_are_signs) (a_is_rule:FA K "is_rule" s_is_rule) (a_is_order:FA K "is_order" s_is_order) (a_fits:FA K "fits" s_fits) (a_turned:FA K "turned" s_turned) (a_puts_in:FA K "puts_in" s_puts_in) (a_need_text:FA K "need_text" s_need_text) (a_show_stock:FA K "show_stock" s_show_stock) (a_read_stock:FA K "read_stock" s_read_stock) (a_show_sound:FA K "show_sound" s_show_sound) (a_show_signs:FA K "show_signs" s_show_signs) (a_show_rule:FA K "show_rule" s_show_rule) (a_read_sound:FA K "read_sound" s_read_sound) (a_read_signs:FA K "read_signs" s_read_signs) (a_read_parts:FA K "read_parts" s_read_parts) (a_show_order:FA K "show_order" s_show_order) (a_read_order:FA K "read_order" s_read_order) (a_with_put_in:FA K "with_put_in" s_with_put_in) (a_with_changes:FA K "with_changes" s_with_changes) (a_from_left:FA K "from_left" s_from_left) (a_changed:FA K "changed" s_changed) (a_walk:FA K "walk" s_walk) (a_made:FA K "made" s_made) (a_law_mixed:FA K "_law_mixed" s_law_mixed) (a_law_pack:FA K "_law_pack" s_law_pack) (a_law_take:FA K "_law_take" s_law_take) (a_law_stock:FA K "_law_stock" s_law_stock) (a_law_sounds:FA K "_law_sounds" s_law_sounds) (a_law_signs:FA K "_law_signs" s_law_signs) (a_law_changes:FA K "_law_changes" s_law_changes) (a_law_rule:FA K "_law_rule" s_law_rule) (a_law_order:FA K "_law_order" s_law_order) (a_law_word:FA K "_law_word" s_law_word) (a_law_fits:FA K "_law_fits" s_law_fits) (a_law_put_in:FA K "_law_put_in" s_law_put_in) (a_law_changed:FA K "_law_changed" s_law_changed) (a_law_turned:FA K "_law_turned" s_law_turned) (a_law_by_side:FA K "_law_by_side" s_law_by_side) (a_law_walk:FA K "_law_walk" s_law_walk) (a_law_made:FA K "_law_made" s_law_made) (a_law_stock_text:FA K "_law_stock_text" s_law_stock_text) (a_law_signs_text:FA K "_law_signs_text" s_law_signs_text) (a_law_rule_text:FA K "_law_rule_text" s_law_rule_text) (a_law_order_text:FA K "_law_order_text" s_law_order_text) (a_law_right:FA K "_law_right" s_law_right) (a_law:FA K "law" s_law) :
  ∃fd:FuncData,(∀(s:Shared) (v:Value),BindsTo s fd ⟨[v],[]⟩ [("_law_script",v)])/\∀base:Heap,K.In base->base.Ns mainGlobals mg->FnOk P w K mg base CX0 8 fa fd ["_law_script"] (spP K 1 f_law):=
 a_law.law X G hfa (λs v=>.of_eq rfl) λbase F=>fn_law ⟨nbAt X G z_all,
  nbAt X G z_dict,
  nbAt X G z_divmod,
  nbAt X G z_enumerate,
  nbAt X G z_isinstance,
  nbAt X G z_len,
  nbAt X G z_list,
  nbAt X G z_max,
  nbAt X G z_min,
  nbAt X G z_range,
  nbAt X G z_sorted,
  nbAt X G z_str,
  nbAt X G z_tuple,
  isi_str,
  isi_tuple,
  glb_str X G g_ALL_FITS (by decide +kernel) (by decide),
  glb_str X G g_EDGE (by decide +kernel) (by decide),
  glb_str X G g_LETTERS (by decide +kernel) (by decide),
  glb_int X G g_MOST_LETTERS,
  glb_int X G g_MOST_MARKS,
  glb_int X G g_MOST_RULES,
  glb_int X G g_MOST_SOUNDS,
  glb_str X G g_NO_SOUND (by decide +kernel) (by decide),
  glb_tup2 X G g_SIDES gl_SIDES (.str (by decide +kernel) (by decide)) (.str (by decide +kernel) (by decide)),
  glb_tup2 X G g_WAYS gl_WAYS (.str (by decide +kernel) (by decide)) (.str (by decide +kernel) (by decide)),
  a_is_name.at X G (fun|[_],_=>rfl),
  a_is_sound.at X G (fun|[_],_=>rfl),
  a_rises.at X G (fun|[_],_=>rfl),
  a_is_pair.at X G (fun|[_],_=>rfl),
  a_are_marks.at X G (fun|[_],_=>rfl),
  a_is_marked_sound.at X G (fun|[_],_=>rfl),
  a_sounds_of.at X G (fun|[_],_=>rfl),
  a_is_stock.at X G (fun|[_],_=>rfl),
  a_sounds_by.at X G (fun|[_,_],_=>rfl),
  a_changes_sound.at X G (fun|[_,_],_=>rfl),
  a_puts_one_in.at X G (fun|[_,_],_=>rfl),
  a_are_changes.at X G (fun|[_,_],_=>rfl),
  a_are_signs.at X G (fun|[_,_],_=>rfl),
  a_is_rule.at X G (fun|[_,_],_=>rfl),
  a_is_order.at X G (fun|[_,_],_=>rfl),
  a_fits.at X G (fun|[_,_],_=>rfl),
  a_turned.at X G (fun|[_],_=>rfl),
  a_puts_in.at X G (fun|[_],_=>rfl),
  a_need_text.at X G (fun|[_],_=>rfl),
  a_show_stock.at X G (fun|[_],_=>rfl),
  a_read_stock.at X G (fun|[_],_=>rfl),
  a_show_sound.at X G (fun|[_],_=>rfl),
  a_show_signs.at X G (fun|[_],_=>rfl),
  a_show_rule.at X G (fun|[_],_=>rfl),
  a_read_sound.at X G (fun|[_],_=>rfl),
  a_read_signs.at X G (fun|[_,_],_=>rfl),
  a_read_parts.at X G (fun|[_,_],_=>rfl),
  a_show_order.at X G (fun|[_],_=>rfl),
  a_read_order.at X G (fun|[_,_],_=>rfl),
  a_with_put_in.at X G (fun|[_,_],_=>rfl),
  a_with_changes.at X G (fun|[_,_],_=>rfl),
  a_from_left.at X G (fun|[_,_],_=>rfl),
  a_changed.at X G (fun|[_,_,_],_=>rfl),
  a_walk.at X G (fun|[_,_],_=>rfl),
  a_made.at X G (fun|[_,_],_=>rfl),
  a_law_mixed.at X G (fun|[_],_=>rfl),
  a_law_pack.at X G (fun|[_,_],_=>rfl),
  a_law_take.at X G (fun|[_,_],_=>rfl),
  a_law_stock.at X G (fun|[_],_=>rfl),
  a_law_sounds.at X G (fun|[_],_=>rfl),
  a_law_signs.at X G (fun|[_,_],_=>rfl),
  a_law_changes.at X G (fun|[_,_],_=>rfl),
  a_law_rule.at X G (fun|[_,_],_=>rfl),
  a_law_order.at X G (fun|[_,_,_],_=>rfl),
  a_law_word.at X G (fun|[_,_,_],_=>rfl),
  a_law_fits.at X G (fun|[_,_],_=>rfl),
  a_law_put_in.at X G (fun|[_,_],_=>rfl),
  a_law_changed.at X G (fun|[_,_],_=>rfl),
  a_law_turned.at X G (fun|[_],_=>rfl),
  a_law_by_side.at X G (fun|[_,_,_],_=>rfl),
  a_law_walk.at X G (fun|[_,_],_=>rfl),
  a_law_made.at X G (fun|[_,_],_=>rfl),
  a_law_stock_text.at X G (fun|[_],_=>rfl),
  a_law_signs_text.at X G (fun|[_],_=>rfl),
  a_law_rule_text.at X G (fun|[_],_=>rfl),
  a_law_order_text.at X G (fun|[_],_=>rfl),
  a_law_right.at X G (fun|[_,_,_],_=>rfl)⟩ F
end K76
theorem PySem.W.Fast.tw12981211430659742403:True:=trivial
theorem PySem.W.Fast.tw15771423813176715805:True:=trivial
theorem PySem.W.Fast.tw2337824652046873144:True:=trivial
theorem PySem.W.Fast.tw14677957306058256001:True:=trivial
theorem PySem.W.Fast.tw6081946403195755124:True:=trivial
theorem PySem.W.Fast.tw8661274814446354600:True:=trivial
theorem PySem.W.Fast.tw5393810675464810708:True:=trivial
theorem PySem.W.Fast.tw7436091687384577735:True:=trivial
theorem PySem.W.Fast.tw4236386788312395981:True:=trivial
theorem PySem.W.Fast.tw11457932878243945454:True:=trivial
theorem PySem.W.Fast.tw10613677434987999024:True:=trivial
theorem PySem.W.Fast.tw17414227335619473664:True:=trivial
theorem PySem.W.Fast.tw6054210845941633554:True:=trivial
theorem PySem.W.Fast.tw4658252186970475945:True:=trivial
theorem PySem.W.Fast.tw10381540627057025181:True:=trivial
theorem PySem.W.Fast.tw1516221069191568698:True:=trivial
theorem PySem.W.Fast.tw12369485029977580348:True:=trivial
theorem PySem.W.Fast.tw7858395892266507597:True:=trivial
theorem PySem.W.Fast.tw8977790861841166987:True:=trivial
theorem PySem.W.Fast.tw2037698170512154136:True:=trivial
theorem PySem.W.Fast.tw4090470962303107246:True:=trivial
theorem PySem.W.Fast.tw13574790454902905821:True:=trivial
theorem PySem.W.Fast.tw9115323190331601910:True:=trivial
theorem PySem.W.Fast.tw2306488884712419085:True:=trivial
theorem PySem.W.Fast.tw8306438949845365047:True:=trivial
theorem PySem.W.Fast.tw9619693912816190677:True:=trivial
theorem PySem.W.Fast.tw987852573657361322:True:=trivial
theorem PySem.W.Fast.tw17965038262725111169:True:=trivial
theorem PySem.W.Fast.tw15438069975857077157:True:=trivial
theorem PySem.W.Fast.tw2287862510058835740:True:=trivial
theorem PySem.W.Fast.tw11336213957149737184:True:=trivial
theorem PySem.W.Fast.tw10486783097075825890:True:=trivial
theorem PySem.W.Fast.tw13814486762638799913:True:=trivial
theorem PySem.W.Fast.tw17777266741415511162:True:=trivial
theorem PySem.W.Fast.tw10055618469391100479:True:=trivial
theorem PySem.W.Fast.tw7041892511006869036:True:=trivial
theorem PySem.W.Fast.tw10577859068842182864:True:=trivial
theorem PySem.W.Fast.tw8848191407063524584:True:=trivial
theorem PySem.W.Fast.tw10068978421294694050:True:=trivial
theorem PySem.W.Fast.tw16982833082237260268:True:=trivial
theorem PySem.W.Fast.tw13770212566504835665:True:=trivial
theorem PySem.W.Fast.tw4062531863223830662:True:=trivial
theorem PySem.W.Fast.tw8600775316554602292:True:=trivial
theorem PySem.W.Fast.tw8538286958230906813:True:=trivial
theorem PySem.W.Fast.tw14343155465916988585:True:=trivial
theorem PySem.W.Fast.tw11632521573878298904:True:=trivial
theorem PySem.W.Fast.tw12871167175485520449:True:=trivial
theorem PySem.W.Fast.tw1378534341202996034:True:=trivial
theorem PySem.W.Fast.tw1111320155026574103:True:=trivial
theorem PySem.W.Fast.tw11491254061019095258:True:=trivial
theorem PySem.W.Fast.tw10863312807679817110:True:=trivial
theorem PySem.W.Fast.tw9170795038830615892:True:=trivial
theorem PySem.W.Fast.tw13014672950197228920:True:=trivial
theorem PySem.W.Fast.tw7465373411646233882:True:=trivial
theorem PySem.W.Fast.tw1241648604668087779:True:=trivial
theorem PySem.W.Fast.tw6631635244447313612:True:=trivial
theorem PySem.W.Fast.tw3099683776561166783:True:=trivial
theorem PySem.W.Fast.tw7541669726765879431:True:=trivial
theorem PySem.W.Fast.tw736446953558658420:True:=trivial
theorem PySem.W.Fast.tw12101467494256297977:True:=trivial
theorem PySem.W.Fast.tw11312893087066079766:True:=trivial
theorem PySem.W.Fast.tw6203302759680955109:True:=trivial
open PySem PySem.W PyProof.Rows
set_option maxRecDepth 100000 in
set_option maxHeartbeats 0 in
theorem PySem.Challenge.cw_soundrules_k76_whole_orders_from_texts_holds : PySem.Challenge.rw_soundrules_k76_whole_orders_from_texts.Holds := by
 w_on;o_law;k_head;(case hw=>w_witness2)
 k_fill
 refine Ev.walkB (l:=PySem.Challenge.rw_soundrules_k76_whole_orders_from_texts) (k:=8) (x:="_law_script") (f:=K76.f_law) rfl (by decide) rfl ⟨rfl,by decide,by decide⟩ (λw h Y=>PySem.W.kIn_of Y) K76.true_law ?F
 case F=>
  intro w mg fa h KX G hmg
  refine' K76.all_mk KX G hmg ?z_all ?z_dict ?z_divmod ?z_enumerate ?z_isinstance ?z_len ?z_list ?z_max ?z_min ?z_range ?z_sorted ?z_str ?z_tuple ?isi_str ?isi_tuple ?g_ALL_FITS ?g_EDGE ?g_LETTERS ?g_MOST_LETTERS ?g_MOST_MARKS ?g_MOST_RULES ?g_MOST_SOUNDS ?g_NO_SOUND ?g_SIDES ?gl_SIDES ?g_WAYS ?gl_WAYS ?a_is_name ?a_is_sound ?a_rises ?a_is_pair ?a_are_marks ?a_is_marked_sound ?a_sounds_of ?a_is_stock ?a_sounds_by ?a_changes_sound ?a_puts_one_in ?a_are_changes ?a_are_signs ?a_is_rule ?a_is_order ?a_fits ?a_turned ?a_puts_in ?a_need_text ?a_show_stock ?a_read_stock ?a_show_sound ?a_show_signs ?a_show_rule ?a_read_sound ?a_read_signs ?a_read_parts ?a_show_order ?a_read_order ?a_with_put_in ?a_with_changes ?a_from_left ?a_changed ?a_walk ?a_made ?a_law_mixed ?a_law_pack ?a_law_take ?a_law_stock ?a_law_sounds ?a_law_signs ?a_law_changes ?a_law_rule ?a_law_order ?a_law_word ?a_law_fits ?a_law_put_in ?a_law_changed ?a_law_turned ?a_law_by_side ?a_law_walk ?a_law_made ?a_law_stock_text ?a_law_signs_text ?a_law_rule_text ?a_law_order_text ?a_law_right ?a_law
  (case isi_str=>(intro d;cases d with|clo=>(show PySem.W.kitOne _ (.type "NoneType") (.type "str")=some false;kit_is)|non=>(show PySem.W.kitOne _ (.type "NoneType") (.type "str")=some false;kit_is)|bl=>(show PySem.W.kitOne _ (.type "bool") (.type "str")=some false;kit_is)|int=>(show PySem.W.kitOne _ (.type "int") (.type "str")=some false;kit_is)|str=>(show PySem.W.kitOne _ (.type "str") (.type "str")=some true;kit_is)|tup=>(show PySem.W.kitOne _ (.type "tuple") (.type "str")=some false;kit_is)|lst=>(show PySem.W.kitOne _ (.type "list") (.type "str")=some false;kit_is)|arr=>(show PySem.W.kitOne _ (.type "list") (.type "str")=some false;kit_is)|dct=>(show PySem.W.kitOne _ (.type "dict") (.type "str")=some false;kit_is)|dcn=>(show PySem.W.kitOne _ (.type "dict") (.type "str")=some false;kit_is)))
  (case isi_tuple=>(intro d;cases d with|clo=>(show PySem.W.kitOne _ (.type "NoneType") (.type "tuple")=some false;kit_is)|non=>(show PySem.W.kitOne _ (.type "NoneType") (.type "tuple")=some false;kit_is)|bl=>(show PySem.W.kitOne _ (.type "bool") (.type "tuple")=some false;kit_is)|int=>(show PySem.W.kitOne _ (.type "int") (.type "tuple")=some false;kit_is)|str=>(show PySem.W.kitOne _ (.type "str") (.type "tuple")=some false;kit_is)|tup=>(show PySem.W.kitOne _ (.type "tuple") (.type "tuple")=some true;kit_is)|lst=>(show PySem.W.kitOne _ (.type "list") (.type "tuple")=some false;kit_is)|arr=>(show PySem.W.kitOne _ (.type "list") (.type "tuple")=some false;kit_is)|dct=>(show PySem.W.kitOne _ (.type "dict") (.type "tuple")=some false;kit_is)|dcn=>(show PySem.W.kitOne _ (.type "dict") (.type "tuple")=some false;kit_is)))
  (case g_ALL_FITS=>k_is)
  (case g_EDGE=>k_is)
  (case g_LETTERS=>k_is)
  (case g_MOST_LETTERS=>k_is)
  (case g_MOST_MARKS=>k_is)
  (case g_MOST_RULES=>k_is)
  (case g_MOST_SOUNDS=>k_is)
  (case g_NO_SOUND=>k_is)
  (case g_SIDES=>k_is)
  (case gl_SIDES=>k_is)
  (case g_WAYS=>k_is)
  (case gl_WAYS=>k_is)
  all_goals first|k_is|(refine' Ev.FA.mk ?a ?l ?c ?k;(case a=>k_is);(case l=>k_is);(case c=>k_is);(case k=>k_is))|(refine' Ev.FC.mk ?a ?l ?c ?k ?lc ?v;(case a=>k_is);(case l=>k_is);(case c=>k_is);(case k=>k_is);(case lc=>k_is);(case v=>exact rfl))
