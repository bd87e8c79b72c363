import PyProof.Rows.All
import Wide.All
import OpenK.AllK
import Wide.FinOn
import Lean
import PyProof.EqAt
import PyProof.EqKinds
import PyProof.TupleCall
import PyProof.TupleKey
import PyProof.DictRoadsH
import PyProof.FactsAll.bool_1
import PyProof.AttrMissHeap
import KE.KDictOf
import PyProof.ListMulRoad
import PyProof.FactsAll.tuple_2
import KE.KSortTup
import PyProof.TupleOfSeq
import PyProof.Rows.SortRuns
import PyProof.ListRange
import PyProof.DictTable
import PyProof.Rows.TupTab
import PyProof.FactsAll.range_1
import KE.KDictList
import PyProof.SetRoads
import PyProof.DictTruth
import PyProof.RulesTry
import KE.KIsAll
import KE.KTryDeep
import PyProof.ExcArgsOwn
import PyProof.ExcAttrAll.ValueError
import PyProof.InstStoreFacts
import PyProof.ExcInit
import PyProof.SumAnyB
import PyProof.ToksMono
import PyProof.StrReplace2
import PySem.Challenge.RW_soundrules_k73_rules_written
noncomputable section
set_option Elab.async false
set_option linter.all false
set_option maxRecDepth 100000
set_option maxHeartbeats 4000000
def Qqq:type_of% @List.length_append:=@List.length_append
theorem Qqx:type_of% @PySem.wpAny_bind:=@PySem.wpAny_bind
theorem Qqz:type_of% @PySem.Heap.get?_push_of_some:=@PySem.Heap.get?_push_of_some
def Qqj:type_of% @Nat.le_trans:=@Nat.le_trans
def Qqk:type_of% @List.length_map:=@List.length_map
def Qqv:type_of% @List.mem_cons_self:=@List.mem_cons_self
theorem Qqw:type_of% @PySem.wpAny_pure:=@PySem.wpAny_pure
def Qqy:type_of% @List.mem_cons_of_mem:=@List.mem_cons_of_mem
def Qq0:type_of% @List.length_cons:=@List.length_cons
def Qq1:type_of% @List.mem_cons:=@List.mem_cons
def Qq2:type_of% @Nat.le_refl:=@Nat.le_refl
def Qq3:type_of% @List.getElem?_set_ne:=@List.getElem?_set_ne
def Qq4:type_of% @List.size_toArray:=@List.size_toArray
def Qq5:type_of% @List.getElem?_eq_some_iff:=@List.getElem?_eq_some_iff
theorem Qq6:type_of% @PySem.Heap.get?_push_size:=@PySem.Heap.get?_push_size
def Qq7:type_of% @List.map_cons:=@List.map_cons
def Qq8:type_of% @List.all_eq_true:=@List.all_eq_true
theorem Qq9:type_of% @PySem.Heap.lt_size:=@PySem.Heap.lt_size
def Qwq:type_of% @List.getElem?_set_self:=@List.getElem?_set_self
def Qwx:type_of% @beq_eq_false_iff_ne:=@beq_eq_false_iff_ne
def Qwz:type_of% @List.not_mem_nil:=@List.not_mem_nil
def Qwj:type_of% @Bool.and_eq_true:=@Bool.and_eq_true
def Qwk:type_of% @List.append_assoc:=@List.append_assoc
def Qwv:type_of% @Nat.ne_of_lt:=@Nat.ne_of_lt
def Qww:type_of% @List.mem_singleton:=@List.mem_singleton
def Qwy:type_of% @Nat.lt_of_lt_of_le:=@Nat.lt_of_lt_of_le
def Qw0:type_of% @List.mem_map:=@List.mem_map
def Qw1:type_of% @Option.map_eq_some_iff:=@Option.map_eq_some_iff
def Qw2:type_of% @Option.some.injEq:=@Option.some.injEq
def Qw3:type_of% @of_decide_eq_true:=@of_decide_eq_true
def Qw4:type_of% @List.mem_append:=@List.mem_append
def Qw5:type_of% @List.length_set:=@List.length_set
def Qw6:type_of% @decide_eq_false:=@decide_eq_false
def Qw7:type_of% @List.getElem?_append_left:=@List.getElem?_append_left
def Qw8:type_of% @decide_eq_true:=@decide_eq_true
def Qw9:type_of% @Option.some.inj:=@Option.some.inj
def Qxq:type_of% @Bool.false_ne_true:=@Bool.false_ne_true
theorem Qxx:type_of% @PySem.wpAny_mono:=@PySem.wpAny_mono
def Qxz:type_of% @List.map_append:=@List.map_append
def Qxj:type_of% @List.append_nil:=@List.append_nil
def Qxk:type_of% @Bool.or_eq_true:=@Bool.or_eq_true
def Qxv:type_of% @List.map_map:=@List.map_map
def Qxw:type_of% @Option.bind_eq_some_iff:=@Option.bind_eq_some_iff
def Qxy:type_of% @List.mem_append_right:=@List.mem_append_right
def Qx0:type_of% @List.length_drop:=@List.length_drop
def Qx1:type_of% @List.mem_range:=@List.mem_range
def Qx2:type_of% @List.getElem?_map:=@List.getElem?_map
theorem Qx3:type_of% @PySem.wpAny_newObj_type:=@PySem.wpAny_newObj_type
def Qx4:type_of% @List.foldl_cons:=@List.foldl_cons
def Qx5:type_of% @List.getElem?_eq_getElem:=@List.getElem?_eq_getElem
def Qx6:type_of% @Nat.lt_of_le_of_lt:=@Nat.lt_of_le_of_lt
def Qx7:type_of% @List.getElem?_append_right:=@List.getElem?_append_right
def Qx8:type_of% @List.lookup_cons:=@List.lookup_cons
def Qx9:type_of% @List.length_take:=@List.length_take
def Qzq:type_of% @List.pairwise_cons:=@List.pairwise_cons
def Qzx:type_of% @List.length_replicate:=@List.length_replicate
theorem Qzz:type_of% @PySem.wpAny_holding:=@PySem.wpAny_holding
def Qzj:type_of% @List.getD_eq_getElem?_getD:=@List.getD_eq_getElem?_getD
def Qzk:type_of% @List.eq_nil_of_length_eq_zero:=@List.eq_nil_of_length_eq_zero
def Qzv:type_of% @List.filterMap_cons:=@List.filterMap_cons
def Qzw:type_of% @Option.isSome_iff_exists:=@Option.isSome_iff_exists
def Qzy:type_of% @Nat.zero_le:=@Nat.zero_le
def Qz0:type_of% @congrArg:=@congrArg
def Qz1:type_of% @Nat.lt_irrefl:=@Nat.lt_irrefl
def Qz2:type_of% @List.getElem?_replicate:=@List.getElem?_replicate
theorem Qz3:type_of% @PySem.wpAny_call_entry:=@PySem.wpAny_call_entry
def Qz4:type_of% @or_false:=@or_false
def Qz5:type_of% @List.map_congr_left:=@List.map_congr_left
def Qz6:type_of% @Array.length_toList:=@Array.length_toList
def Qz7:type_of% @PyProof.Rows.slot_tuple_getitem:=@PyProof.Rows.slot_tuple_getitem
def Qz8:type_of% @List.length_nil:=@List.length_nil
def Qz9:type_of% @List.getElem?_take_of_lt:=@List.getElem?_take_of_lt
def Qjq:type_of% @List.cons_append:=@List.cons_append
def Qjx:type_of% @List.sum_cons:=@List.sum_cons
theorem Qjz:type_of% @PySem.Heap.size_push:=@PySem.Heap.size_push
def Qjj:type_of% @Int.toNat_natCast:=@Int.toNat_natCast
def Qjk:type_of% @Nat.lt_succ_of_lt:=@Nat.lt_succ_of_lt
theorem Qjv:type_of% @PySem.wpAny_setField_rec:=@PySem.wpAny_setField_rec
def Qjw:type_of% @Nat.le_of_ble_eq_true:=@Nat.le_of_ble_eq_true
def Qjy:type_of% @List.getElem?_eq_none:=@List.getElem?_eq_none
def Qj0:type_of% @Nat.le_of_lt:=@Nat.le_of_lt
def Qj1:type_of% @List.mem_of_getElem?:=@List.mem_of_getElem?
def Qj2:type_of% @Bool.and_eq_true_iff:=@Bool.and_eq_true_iff
def Qj3:type_of% @List.nodup_cons:=@List.nodup_cons
theorem Qj4:type_of% @PySem.wpAny_specialOf:=@PySem.wpAny_specialOf
theorem Qj5:type_of% @PySem.codeAny_builtin:=@PySem.codeAny_builtin
def Qj6:type_of% @Bool.eq_iff_iff:=@Bool.eq_iff_iff
def Qj7:type_of% @Nat.le_of_succ_le:=@Nat.le_of_succ_le
theorem Qj8:type_of% @PySem.wpAny_truthy_bool:=@PySem.wpAny_truthy_bool
theorem Qj9:type_of% @PySem.mem_of_lookup:=@PySem.mem_of_lookup
theorem Qkq:type_of% @PySem.sizeLine_eq:=@PySem.sizeLine_eq
def Qkx:type_of% @List.find?_cons:=@List.find?_cons
def Qkz:type_of% @Option.map_some:=@Option.map_some
theorem Qkj:type_of% @PySem.codeAny_mono:=@PySem.codeAny_mono
theorem Qkk:type_of% @PySem.W.mg_of:=@PySem.W.mg_of
theorem Qkv:type_of% @PySem.typeIs_str:=@PySem.typeIs_str
abbrev jy(x:PySem.Str):Prop:=(x == ("__debug__" : PySem.Str))=false
abbrev uq(x:PySem.Str):Prop:=(x == ("__classdict__" : PySem.Str))=false
open PySem PySem.Spec PyProof.Rows in
abbrev BP(e:Expr)(E:PySem.Env):Prop:=starEach [e] E=(false,eval e E)::starEach [] E
namespace L2
open PySem PySem.Spec PyProof.Rows
inductive NK where
 | num (i:Int)
 | txt (x:Str)
 | tup (xs:List NK)
noncomputable instance:DecidableEq NK:=λ_ _=>Classical.propDecidable _
mutual
def JX(h:Heap):NK->Value->Prop
 | .num i,v=>(∃t,v = .int i t)\/∃b:Bool,v = .bool b/\i=if b then 1 else 0
 | .txt x,v=>∃t,v = .str x t
 | .tup ks,v=>∃a o items n,v = .ref a/\h.get? a=some o/\o.cls = .type "tuple"/\o.data = .seq items n/\pX h ks items.toList
def pX(h:Heap):List NK->List Value->Prop
 | [],vs=>vs=[]
 | k::ks,vs=>∃v r,vs=v::r/\JX h k v/\pX h ks r
end
mutual
def NK.dep:NK->Nat
 | .num _=>0
 | .txt _=>0
 | .tup ks=>1+NK.Aw ks
def NK.Aw:List NK->Nat
 | []=>0
 | k::ks=>max (NK.dep k) (NK.Aw ks)
end
mutual
def NK.draws:NK->Nat
 | .num _=>1
 | .txt _=>1
 | .tup ks=>NK.pq ks+1
def NK.pq:List NK->Nat
 | []=>0
 | k::ks=>NK.draws k+NK.pq ks
end
section
variable(P:Program)(w:World)
mutual
def NK.hash:NK->Int
 | .num i=>hashInt i
 | .txt x=>(strKind P w).hash x
 | .tup ks=>reduceHash (Builtin.Tuple.tupleHashOf (NK.hashes ks))
def NK.hashes:List NK->List Int
 | []=>[]
 | k::ks=>NK.hash k::NK.hashes ks
end
end
theorem pX.length{h:Heap}:∀{ks:List NK} {vs:List Value},pX h ks vs->vs.length=ks.length
 | [],_,e=>by cases e;rfl
 | k::ks,_,e=>by obtain⟨v,r,rfl,_,q⟩:=e;rw[Qq0,Qq0,q.length]
theorem pX.get{h:Heap}:∀{ks:List NK} {vs:List Value} {j:Nat} {v:Value},pX h ks vs->vs[j]? = some v->∃k,ks[j]? = some k/\JX h k v
 | [],_,_,_,e,g=>by cases e;simp at g
 | k::ks,_,j,v,e,g=>by
  obtain⟨u,r,rfl,h1,h2⟩:=e;cases j with
  | zero=>simp at g;subst g;exact⟨k,rfl,h1⟩
  | succ j=>obtain⟨k',e1,e2⟩:=pX.get h2 (j:=j) (by simpa using g);exact⟨k',by simpa using e1,e2⟩
theorem NK.Av:∀{ks:List NK} {j:Nat} {k:NK},ks[j]? = some k->k.dep<=NK.Aw ks
 | [],_,_,e=>by simp at e
 | c::ks,j,k,e=>by
  unfold NK.Aw;cases j with
  | zero=>simp at e;subst e;exact Nat.le_max_left _ _
  | succ j=>exact Qqj (NK.Av (j:=j) (by simpa using e)) (Nat.le_max_right _ _)
mutual
theorem JX.inj{h:Heap}:∀{x y:NK} {v:Value},JX h x v->JX h y v->x=y
 | .num i,.num j,v,a,b=>by
  rcases a with ⟨t,rfl⟩|⟨c,rfl,rfl⟩
  ·rcases b with ⟨t',e⟩|⟨c,e,_⟩
   ·cases e;rfl
   ·cases e
  ·rcases b with ⟨t',e⟩|⟨c,e,rfl⟩
   ·cases e
   ·cases e;rfl
 | .num i,.txt x,v,a,b=>by obtain⟨t,rfl⟩:=b;rcases a with ⟨t',e⟩|⟨c,e,_⟩<;>cases e
 | .num i,.tup ks,v,a,b=>by obtain⟨_,_,_,_,rfl,_⟩:=b;rcases a with ⟨t',e⟩|⟨c,e,_⟩<;>cases e
 | .txt x,.num i,v,a,b=>by obtain⟨t,rfl⟩:=a;rcases b with ⟨t',e⟩|⟨c,e,_⟩<;>cases e
 | .txt x,.txt y,v,a,b=>by obtain⟨t,rfl⟩:=a;obtain⟨t',e⟩:=b;cases e;rfl
 | .txt x,.tup ks,v,a,b=>by obtain⟨t,rfl⟩:=a;obtain⟨_,_,_,_,e,_⟩:=b;cases e
 | .tup ks,.num i,v,a,b=>by obtain⟨_,_,_,_,rfl,_⟩:=a;rcases b with ⟨t',e⟩|⟨c,e,_⟩<;>cases e
 | .tup ks,.txt y,v,a,b=>by obtain⟨_,_,_,_,rfl,_⟩:=a;obtain⟨t',e⟩:=b;cases e
 | .tup ks,.tup ls,v,a,b=>by
  obtain⟨p,o,items,n,rfl,h1,_,h3,h4⟩:=a;obtain⟨p',o',items',n',e,h1',_,h3',h4'⟩:=b;cases e;rw[h1] at h1';cases h1';rw[h3] at h3';cases h3';rw[pX.inj h4 h4']
theorem pX.inj{h:Heap}:∀{x y:List NK} {v:List Value},pX h x v->pX h y v->x=y
 | [],[],_,_,_=>rfl
 | [],k::ks,_,a,b=>by cases a;obtain⟨_,_,e,_⟩:=b;cases e
 | k::ks,[],_,a,b=>by cases b;obtain⟨_,_,e,_⟩:=a;cases e
 | k::ks,l::ls,_,a,b=>by
  obtain⟨v,r,rfl,h1,h2⟩:=a;obtain⟨v',r',e,h1',h2'⟩:=b;cases e;rw[JX.inj h1 h1',pX.inj h2 h2']
end
mutual
theorem JX.keeps{h h':Heap}{d:Addr}{o:Obj}{es ep}(ho:h.get? d=some o)(hd:o.data = .dict es ep)(hs:Heap.SameBut d h h'):∀{k:NK} {v:Value},JX h k v->JX h' k v
 | .num _,_,e=>e
 | .txt _,_,e=>e
 | .tup ks,_,e=>by
  obtain⟨a,o',items,n,rfl,h1,h2,h3,h4⟩:=e;have hne:a≠d:=by rintro rfl;rw[h1] at ho;cases ho;rw[h3] at hd;cases hd
  exact⟨a,o',items,n,rfl,(hs.2 a hne).trans h1,h2,h3,pX.keeps ho hd hs h4⟩
theorem pX.keeps{h h':Heap}{d:Addr}{o:Obj}{es ep}(ho:h.get? d=some o)(hd:o.data = .dict es ep)(hs:Heap.SameBut d h h'):∀{ks:List NK} {vs:List Value},pX h ks vs->pX h' ks vs
 | [],_,e=>e
 | k::ks,_,e=>by obtain⟨v,r,rfl,h1,h2⟩:=e;exact⟨v,r,rfl,JX.keeps ho hd hs h1,pX.keeps ho hd hs h2⟩
end
section
variable{P:Program}{w:World}
def Rp{A:Around}{E:Value->Shared->Prop}{s:Shared}{b:Bool}{Q:Int->Shared->Prop}(h:Q (hashInt (if b then 1 else 0)) { s with toks:=s.toks+1 }):wpAny (model P w) A (pyHash (.bool b)) Q E s:=by
 have hT:s.TypeIs (.bool b) "bool":=rfl;have hr:=rawHash_range (if b then 1 else 0);unfold pyHash;have hv:[Value.bool b].any Value.onHeap=false:=rfl;refine Qqx ?_;rw[cRoomFor,if_neg (by rw[hv];exact Qxq)];refine Qqw ?_;refine Qqx (Qj4 hT F.slot_bool_hash.lookup ?_);show wpAny _ _ (if (some (Value.builtin "int.__hash__") == some Value.none)=true then _ else _) Q E s;rw[if_neg (by rw[beq_builtin_none];exact Qxq)];refine Qqx (Qj4 hT F.slot_bool_hash.lookup ?_);show wpAny _ _ (callSpecialIfBoundUnlessNone? (.bool b) "__hash__" _ >>= _) Q E s;refine Qqx (wpAny_callSpecialIfBoundUnlessNone?_slot hT F.slot_bool_hash
  (Qz3 F.slot_bool_hash hT entry_int_hash
   (show wpAny _ _ (do ret (<-mkInt (rawHash (if b then 1 else 0)))) _ _ s from wpAny_ret_mkInt ?_) (args_int_hash _)))
 show wpAny _ _ (if (decide (-(2:Int)^63<=rawHash (if b then 1 else 0))&&decide (rawHash (if b then 1 else 0)<2^63))=true then _ else _) Q E _;rw[if_pos (by rw[Qw8 hr.1,Qw8 hr.2];rfl)];exact Qqw h
mutual
theorem Vm:∀(k:NK) (v:Value) (A:Around) (E:Value->Shared->Prop) (s:Shared) (Q:Int->Shared->Prop),A.units+k.dep<cLine->JX s.heap k v->Q (k.hash P w) { s with toks:=s.toks+k.draws }->wpAny (model P w) A (pyHash v) Q E s
 | .num i,v,A,E,s,Q,hu,e,h=>by
  rcases e with ⟨t,rfl⟩|⟨b,rfl,rfl⟩
  ·exact wpAny_pyHash_int h
  ·exact Rp h
 | .txt x,v,A,E,s,Q,hu,e,h=>by
  obtain⟨t,rfl⟩:=e;exact wpAny_pyHash_str h
 | .tup ks,v,A,E,s,Q,hu,e,h=>by
  obtain⟨a,o,items,n,rfl,ho,hc,hd,hi⟩:=e;have hT:s.TypeIs (.ref a) "tuple":=⟨o,ho,hc⟩;have ad3:(NK.tup ks).dep=1+NK.Aw ks:=by rw[NK.dep]
  rw[ad3] at hu;have hu0:A.units<cLine:=by omega
  have hin:A.in1.units+NK.Aw ks<cLine:=by show A.units+1+NK.Aw ks<cLine;omega
  unfold pyHash
  first|unfold pyHashByItsType|skip
  first|refine Qqx (wpAny_cRoomFor_or (.inr hu0) ?_)|skip
  refine Qqx (Qj4 hT F.slot_tuple_hash.lookup ?_);show wpAny _ _ (if (some (Value.builtin "tuple.__hash__") == some Value.none)=true then _ else _) Q E s;rw[if_neg (by rw[beq_builtin_none];exact Qxq)];refine Qqx (Qj4 hT F.slot_tuple_hash.lookup ?_);show wpAny _ _ (callSpecialIfBoundUnlessNone? (.ref a) "__hash__" _ >>= _) Q E s;refine Qqx (wpAny_callSpecialIfBoundUnlessNone?_slot hT F.slot_tuple_hash (Qz3 F.slot_tuple_hash hT F.entry_tuple_hash ?_ (F.args_tuple_hash_1 _)));show wpAny _ _ (Builtin.Tuple.tupleItemsOf (.ref a) >>= _) _ _ s;refine Qqx (wpAny_tupleItemsOf ho hd ?_);refine Qqx ?_;rw[<-Array.forIn_toList];refine Iv ks items.toList A.in1 _ s _ _ #[] hin hi (λx b s' R q=>?_) ?_
  ·first
    | exact Qqx (Qxx q (λz s2 hz=>Qqw hz) λ_ _ z=>z)
    | exact Qqx (Qxx q (λz s2 hz=>Qqx (Qqw (Qqw hz))) λ_ _ z=>z)
  ·show wpAny _ _ (retInt (Builtin.Tuple.tupleHashOf ((#[]:Array Int).toList++NK.hashes P w ks))) _ _ _;have hh:(NK.tup ks).hash P w=reduceHash (Builtin.Tuple.tupleHashOf (NK.hashes P w ks)):=by rw[NK.hash]
   have hdr:(NK.tup ks).draws=NK.pq ks+1:=by rw[NK.draws]
   rw[hh,hdr] at h;rw[show(#[]:Array Int).toList++NK.hashes P w ks=NK.hashes P w ks from rfl];refine wpAny_ret_mkInt ?_;show wpAny _ _ (if (decide (-(2:Int)^63<=Builtin.Tuple.tupleHashOf (NK.hashes P w ks))&&decide (Builtin.Tuple.tupleHashOf (NK.hashes P w ks)<2^63))=true then _ else _) Q E _;unfold reduceHash at h;by_cases hr:(decide (-(2:Int)^63<=Builtin.Tuple.tupleHashOf (NK.hashes P w ks))&&decide (Builtin.Tuple.tupleHashOf (NK.hashes P w ks)<2^63))=true
   ·rw[if_pos hr];rw[if_pos hr] at h;exact Qqw (by simpa[Nat.add_assoc] using h)
   ·rw[if_neg hr];rw[if_neg hr] at h;exact Qqx (wpAny_rule (Qqw (by simpa[Nat.add_assoc] using h)))
theorem Iv:∀(ks:List NK) (vs:List Value) (A:Around) (E:Value->Shared->Prop) (s:Shared) (body:Value->Array Int->Sem (ForInStep (Array Int))) (Q:Array Int->Shared->Prop) (acc:Array Int),A.units+NK.Aw ks<cLine->pX s.heap ks vs->
  (∀x b s' (R:ForInStep (Array Int)->Shared->Prop),wpAny (model P w) A (pyHash x) (λz s2=>R (.yield (b.push z)) s2) E s'->wpAny (model P w) A (body x b) R E s')->
  Q (acc.toList++NK.hashes P w ks).toArray { s with toks:=s.toks+NK.pq ks }->wpAny (model P w) A (forIn vs acc body) Q E s
 | [],vs,A,E,s,body,Q,acc,hu,e,hb,q=>by
  cases e;rw[List.forIn_nil];refine Qqw ?_;have:(acc.toList++NK.hashes P w []).toArray=acc:=by rw[NK.hashes];simp
  rw[this] at q;have e0:NK.pq []=0:=by rw[NK.pq]
  rw[e0] at q;exact q
 | k::ks,vs,A,E,s,body,Q,acc,hu,e,hb,q=>by
  obtain⟨v,r,rfl,h1,h2⟩:=e;have ad3:NK.Aw (k::ks)=max k.dep (NK.Aw ks):=by rw[NK.Aw]
  rw[ad3] at hu;rw[List.forIn_cons];refine Qqx (hb v acc s _ (Vm k v A E s _ (by omega) h1 ?_));refine Iv ks r A E { s with toks:=s.toks+k.draws } body Q (acc.push (k.hash P w)) (by omega) h2 hb ?_;have e1:NK.hashes P w (k::ks)=k.hash P w::NK.hashes P w ks:=by rw[NK.hashes]
  have e2:NK.pq (k::ks)=k.draws+NK.pq ks:=by rw[NK.pq]
  rw[e1,e2] at q
  simpa[Nat.add_assoc] using q
end
theorem agd:∀(n:Nat) (x y:NK) (u v:Value) (A:Around) (s:Shared),x.dep<=n->A.units+n+1<cLine->JX s.heap x u->JX s.heap y v->SeqAt.EqAt A s u v (decide (x=y))
 | n,.num i,.num j,u,v,A,s,hn,hu,hx,hy=>by
  have e:decide (NK.num i=NK.num j)=(i == j):=by rw[Qj6];simp
  rw[e];rcases hx with ⟨t,rfl⟩|⟨b,rfl,rfl⟩
  ·rcases hy with ⟨t',rfl⟩|⟨c,rfl,rfl⟩
   ·exact SeqAt.EqAt.int_int i t j t'
   ·exact SeqAt.EqAt.int_bool i t c
  ·rcases hy with ⟨t',rfl⟩|⟨c,rfl,rfl⟩
   ·exact SeqAt.EqAt.bool_int b j t'
   ·have:((if b then (1:Int) else 0) == (if c then 1 else 0))=(b == c):=by cases b<;>cases c<;>rfl
    rw[this];exact SeqAt.EqAt.bool_bool b c
 | n,.num i,.txt z,u,v,A,s,hn,hu,hx,hy=>by
  rw[Qw6 (λe=>by cases e)];obtain⟨t,rfl⟩:=hy;rcases hx with ⟨t',rfl⟩|⟨b,rfl,rfl⟩
  ·exact SeqAt.EqAt.int_str i t' _ t
  ·exact SeqAt.EqAt.bool_str b _ t
 | n,.num i,.tup ks,u,v,A,s,hn,hu,hx,hy=>by
  rw[Qw6 (λe=>by cases e)];obtain⟨a,o,items,m,rfl,h1,h2,h3,_⟩:=hy;have p:s.heap.IsTuple a items:=⟨o,h1,h2,m,h3⟩;rcases hx with ⟨t',rfl⟩|⟨b,rfl,rfl⟩
  ·exact SeqAt.EqAt.int_tuple i t' p (by omega)
  ·exact SeqAt.EqAt.bool_tuple b p (by omega)
 | n,.txt z,.num i,u,v,A,s,hn,hu,hx,hy=>by
  rw[Qw6 (λe=>by cases e)];obtain⟨t,rfl⟩:=hx;rcases hy with ⟨t',rfl⟩|⟨b,rfl,rfl⟩
  ·exact SeqAt.EqAt.str_int _ t i t'
  ·exact SeqAt.EqAt.str_bool _ t b
 | n,.txt z,.txt z',u,v,A,s,hn,hu,hx,hy=>by
  have e:decide (NK.txt z=NK.txt z')=(z == z'):=by rw[Qj6];simp
  rw[e];obtain⟨t,rfl⟩:=hx;obtain⟨t',rfl⟩:=hy;exact SeqAt.EqAt.str_str _ t _ t'
 | n,.txt z,.tup ks,u,v,A,s,hn,hu,hx,hy=>by
  rw[Qw6 (λe=>by cases e)];obtain⟨t,rfl⟩:=hx;obtain⟨a,o,items,m,rfl,h1,h2,h3,_⟩:=hy;have p:s.heap.IsTuple a items:=⟨o,h1,h2,m,h3⟩;exact SeqAt.EqAt.str_tuple _ t p (by omega)
 | n,.tup ks,.num i,u,v,A,s,hn,hu,hx,hy=>by
  rw[Qw6 (λe=>by cases e)];obtain⟨a,o,items,m,rfl,h1,h2,h3,_⟩:=hx;have p:s.heap.IsTuple a items:=⟨o,h1,h2,m,h3⟩;rcases hy with ⟨t',rfl⟩|⟨b,rfl,rfl⟩
  ·exact SeqAt.EqAt.tuple_int i t' p (by omega)
  ·exact SeqAt.EqAt.tuple_bool b p (by omega)
 | n,.tup ks,.txt z,u,v,A,s,hn,hu,hx,hy=>by
  rw[Qw6 (λe=>by cases e)];obtain⟨a,o,items,m,rfl,h1,h2,h3,_⟩:=hx;have p:s.heap.IsTuple a items:=⟨o,h1,h2,m,h3⟩;obtain⟨t,rfl⟩:=hy;exact SeqAt.EqAt.tuple_str _ t p (by omega)
 | 0,.tup ks,.tup ls,u,v,A,s,hn,hu,hx,hy=>by
  rw[NK.dep] at hn;omega
 | n+1,.tup ks,.tup ls,u,v,A,s,hn,hu,hx,hy=>by
  have hx0:=hx;have hy0:=hy;obtain⟨a,o,items,m,rfl,h1,h2,h3,h4⟩:=hx;obtain⟨a',o',items',m',rfl,h1',h2',h3',h4'⟩:=hy;have p:s.heap.IsTuple a items:=⟨o,h1,h2,m,h3⟩;have p':s.heap.IsTuple a' items':=⟨o',h1',h2',m',h3'⟩;rw[NK.dep] at hn;by_cases haa:a=a'
  ·subst haa;rw[Qw8 (JX.inj hx0 hy0)];exact SeqAt.EqAt.same _
  ·refine SeqAt.EqAt.of_refs haa ?_;have l1:=h4.length;have l2:=h4'.length;rw[Qz6] at l1 l2;have hu0:A.units<cLine:=by omega
   have:=SeqAt.RcAt.tuples (e:=λj=>decide (ks[j]? = ls[j]?)) p p' hu0 λj q1 q2=>?_
   ·have e:((List.range (min items.size items'.size)).all (λj=>decide (ks[j]? = ls[j]?))&&items.size == items'.size)=decide (NK.tup ks=NK.tup ls):=by
     rw[Qj6];simp only[Qwj,Qq8,Qx1,decide_eq_true_eq,beq_iff_eq,NK.tup.injEq];constructor
     ·rintro⟨g1,g2⟩;apply List.ext_getElem?;intro j;by_cases hj:j<min items.size items'.size
      ·exact g1 j hj
      ·rw[Qjy (by omega),Qjy (by omega)]
     ·rintro rfl;exact⟨λ_ _=>rfl,by omega⟩
    rw[<-e];exact this
   ·have g1:items.toList[j]? = some items[j]:=by simp
    have g2:items'.toList[j]? = some items'[j]:=by simp
    obtain⟨k,r1,r2⟩:=h4.get g1;obtain⟨l,r3,r4⟩:=h4'.get g2;have e:decide (ks[j]? = ls[j]?)=decide (k=l):=by rw[r1,r3];simp
    rw[e];exact agd n k l _ _ A.in1 s (Qqj (NK.Av r1) (by omega)) (by show A.units+1+n+1<cLine;omega) r2 r4
theorem N7:∀(n:Nat) (k:NK) (v:Value) (A:Around) (E:Value->Shared->Prop) (s:Shared) (Q:Bool->Shared->Prop),k.dep<=n->JX s.heap k v->Q true s->wpAny (model P w) A (eqIsQuiet n v) Q E s
 | n,.num i,v,A,E,s,Q,hn,e,h=>by
  rcases e with ⟨t,rfl⟩|⟨b,rfl,rfl⟩
  ·rw[eqIsQuiet_byValue n rfl];exact Qqw h
  ·rw[eqIsQuiet_byValue n rfl];exact Qqw h
 | n,.txt x,v,A,E,s,Q,hn,e,h=>by
  obtain⟨t,rfl⟩:=e;rw[eqIsQuiet_byValue n rfl];exact Qqw h
 | 0,.tup ks,v,A,E,s,Q,hn,e,h=>by
  rw[NK.dep] at hn;omega
 | n+1,.tup ks,v,A,E,s,Q,hn,e,h=>by
  obtain⟨a,o,items,m,rfl,ho,hc,hd,hi⟩:=e;rw[NK.dep] at hn;have hT:s.TypeIs (.ref a) "tuple":=⟨o,ho,hc⟩;unfold eqIsQuiet;refine Qqx (Qj4 hT F.slot_tuple_eq.lookup ?_);show wpAny _ _ (isInstance (.ref a) (.type "tuple") >>= _) _ _ s;refine Qqx (wpAny_isInstance hT isSubtype_tuple_tuple ?_);simp only[Bool.not_true,Bool.false_eq_true,if_false];refine Qqx (wpAny_seqItems ho hd ?_);refine Qqx ?_;show wpAny _ _ (forIn items _ _) _ _ s;rw[<-Array.forIn_toList];refine wpAny_forIn_list _ (λrest r s'=>r.1=none/\s'=s/\∀v∈rest,∃k:NK,k.dep<=n/\JX s.heap k v) _ ?_ ?_ _ _ ⟨rfl,rfl,λv hv=>?_⟩
  ·rintro v rest r s' ⟨hr,rfl,hall⟩;obtain⟨k,hk1,hk2⟩:=hall v Qqv;refine Qqx (N7 n k v A E _ _ hk1 hk2 ?_);simp only[Bool.not_true,Bool.false_eq_true,if_false];exact Qqw ⟨rfl,rfl,λu hu'=>hall u (Qqy _ hu')⟩
  ·rintro⟨r1,r2⟩ s' ⟨hr,rfl,_⟩;simp only at hr;subst hr;exact Qqw h
  ·obtain⟨j,hj,rfl⟩:=List.mem_iff_getElem.mp hv;obtain⟨k,r1,r2⟩:=hi.get (Qx5 hj);exact⟨k,Qqj (NK.Av r1) (by omega),r2⟩
noncomputable def Vk(P:Program)(w:World):HeapKind P w NK where
 is:=λh k a=>JX h k (.ref a)/\k.dep<=8
 hash:=NK.hash P w
 draws:=NK.draws
 room:=λA=>A.units+10<cLine
 inj:=λhx hy=>hx.1.inj hy.1
 keeps:=λx ho hd hs=>⟨x.1.keeps ho hd hs,x.2⟩
 pyHash:=λhu hk h=>Vm _ _ _ _ _ _ (by have:=hk.2;omega) hk.1 h
 eqBool:=λhu hx hy h=>agd 8 _ _ _ _ _ _ hx.2 (by omega) hx.1 hy.1 P w _ _ h
 quiet:=λhk h=>N7 8 _ _ _ _ _ _ hk.2 hk.1 h
end
abbrev Key:=Sum Int Str
def Dn:Key->Value->Bool
 | .inl k,v=>Value.isInt k v
 | .inr x,v=>Value.isStrOf x v
def aia(w:World):Key->Int
 | .inl k=>hashInt k
 | .inr x=>hashStr w x
theorem dZ:∀{k:Key} {v:Value},Dn k v=true->(∃i t,k=Sum.inl i/\v=Value.int i t)\/(∃x t,k=Sum.inr x/\v=Value.str x t)
 | .inl i,v,h=>by
  obtain⟨t,e⟩:=Value.isInt_shape (k:=i) (v:=v) h;exact .inl ⟨i,t,rfl,e⟩
 | .inr x,v,h=>by
  obtain⟨t,e⟩:=Value.isStrOf_shape (x:=x) (v:=v) h;exact .inr ⟨x,t,rfl,e⟩
def Rc(i:Int)(t:Tok):Dn (.inl i) (.int i t)=true:=by simp[Dn,Value.isInt]
def Rb(x:Str)(t:Tok):Dn (.inr x) (.str x t)=true:=by simp[Dn,Value.isStrOf]
def adN(a b:Int):decide ((Sum.inl a:Key)=Sum.inl b)=(a == b):=by
 by_cases e:a=b
 ·subst e;simp
 ·have h:¬(Sum.inl a:Key)=Sum.inl b:=λq=>e (Sum.inl.inj q);rw[Qw6 h];exact(Qwx.mpr e).symm
def adK(a b:Str):decide ((Sum.inr a:Key)=Sum.inr b)=decide (a=b):=by
 by_cases e:a=b
 ·subst e;simp
 ·have h:¬(Sum.inr a:Key)=Sum.inr b:=λq=>e (Sum.inr.inj q);rw[Qw6 h,Qw6 e]
def adM(a:Int)(b:Str):decide ((Sum.inl a:Key)=Sum.inr b)=false:=Qw6 (λq=>nomatch q)
def adL(a:Str)(b:Int):decide ((Sum.inr a:Key)=Sum.inl b)=false:=Qw6 (λq=>nomatch q)
def gO(prog:Program)(w:World):PySem.KeyKind prog w Key where
 is:=Dn
 hash:=aia w
 inj:=λv a b ha hb=>by
  rcases dZ ha with ⟨i,t,rfl,rfl⟩|⟨x,t,rfl,rfl⟩
  ·rcases dZ hb with ⟨j,u,rfl,e⟩|⟨y,u,rfl,e⟩
   ·injection e with e1 _;rw[e1]
   ·exact nomatch e
  ·rcases dZ hb with ⟨j,u,rfl,e⟩|⟨y,u,rfl,e⟩
   ·exact nomatch e
   ·injection e with e1 _;rw[e1]
 byValue:=λk v h=>by
  rcases dZ h with ⟨i,t,rfl,rfl⟩|⟨x,t,rfl,rfl⟩<;>rfl
 pyHash:=λhv h=>by
  rcases dZ hv with ⟨i,t,rfl,rfl⟩|⟨x,t,rfl,rfl⟩
  ·exact wpAny_pyHash_int h
  ·exact wpAny_pyHash_str h
 eqBool:=λhu hv h=>by
  rcases dZ hu with ⟨i,t,rfl,rfl⟩|⟨x,t,rfl,rfl⟩
  ·rcases dZ hv with ⟨j,u,rfl,rfl⟩|⟨y,u,rfl,rfl⟩
   ·rw[adN] at h;exact wpAny_eqBool_int h
   ·rw[adM] at h;exact SeqAt.EqAt.int_str i t y u _ _ _ _ h
  ·rcases dZ hv with ⟨j,u,rfl,rfl⟩|⟨y,u,rfl,rfl⟩
   ·rw[adL] at h;exact SeqAt.EqAt.str_int x t j u _ _ _ _ h
   ·rw[adK] at h;exact wpAny_eqBool_str h
 «strs»:=λk x t v h=>by
  rcases dZ h with ⟨i,u,rfl,e⟩|⟨y,u,rfl,e⟩
  ·exact nomatch e
  ·injection e with e1 _
   subst e1;cases v<;>rfl
def IW(prog:Program)(w:World)(i:Int)(t:Tok):(gO prog w).is (.inl i) (.int i t)=true:=Rc i t
def IV(prog:Program)(w:World)(x:Str)(t:Tok):(gO prog w).is (.inr x) (.str x t)=true:=Rb x t
inductive V where
 | non|bl (b:Bool)|int (i:Int)|str (x:Str)|byt (b:Array UInt8)|flt (b:UInt64)|ref (a:Addr)|ty (n:String)
 deriving DecidableEq
def RelV:V->Value->Prop
 | .non,u=>u=Value.none
 | .bl b,u=>u=Value.bool b
 | .int i,u=>∃t,u=Value.int i t
 | .str x,u=>∃t,u=Value.str x t
 | .byt b,u=>∃t,u=Value.bytes b t
 | .flt b,u=>∃t,u=Value.float b t
 | .ref a,u=>u=Value.ref a
 | .ty n,u=>u=Value.type n
abbrev Vals:List V->List Value->Prop:=Paired RelV
def Vals.length{xs:List V}{us:List Value}(r:Vals xs us):xs.length=us.length:=Paired.length r
theorem Vals.get:∀{xs:List V} {us:List Value} {i:Nat} {x:V},Vals xs us->xs[i]? = some x->∃u,us[i]? = some u/\RelV x u
 | _,_,_,_,.nil,e=>by simp at e
 | _,_,0,_,.cons r _,e=>by simp at e;subst e;exact⟨_,rfl,r⟩
 | _,_,i+1,x,.cons _ t,e=>by
  obtain⟨u,h1,h2⟩:=Vals.get (i:=i) (x:=x) t (by simpa using e);exact⟨u,by simpa using h1,h2⟩
theorem Vals.set{x:V}{u:Value}(r:RelV x u):∀{xs:List V} {us:List Value} (i:Nat),Vals xs us->Vals (xs.set i x) (us.set i u)
 | _,_,_,.nil=>.nil
 | _,_,0,.cons _ t=>.cons r t
 | _,_,i+1,.cons q t=>.cons q (Vals.set r i t)
theorem Vals.append:∀{xs ys:List V} {us ws:List Value},Vals xs us->Vals ys ws->Vals (xs++ys) (us++ws)
 | _,_,_,_,.nil,s=>s
 | _,_,_,_,.cons r t,s=>.cons r (Vals.append t s)
theorem Vals.take:∀{xs:List V} {us:List Value} (n:Nat),Vals xs us->Vals (xs.take n) (us.take n)
 | _,_,0,_=>.nil
 | _,_,_+1,.nil=>.nil
 | _,_,n+1,.cons r t=>.cons r (Vals.take n t)
theorem Vals.drop:∀{xs:List V} {us:List Value} (n:Nat),Vals xs us->Vals (xs.drop n) (us.drop n)
 | _,_,0,r=>r
 | _,_,_+1,.nil=>.nil
 | _,_,n+1,.cons _ t=>Vals.drop n t
def Cr:Option V->Option Value->Prop
 | some v,some u=>RelV v u
 | none,none=>True
 | _,_=>False
def KV{κ:Type}:List (κ×V)->List (κ×Value)->Prop:=Paired λ(p:κ×V) (q:κ×Value)=>p.1=q.1/\RelV p.2 q.2
def kV:Key->V
 | .inl i=>.int i
 | .inr x=>.str x
inductive HO where
 /-- a list -/
 | lst (xs:List V)
 /-- a tuple (never changes) -/
 | tup (xs:List V)
 /-- a dict whose keys are ints and texts;one whose keys are tuples of ints and texts (the empty one is both) -/
 | dK (kvs:List (Key×V))|dT (kvs:List (List Key×V))|dN (kvs:List (NK×V×V))
 /-- a set of ints: its members,its size -/
 | set (S:Int->Bool) (n:Nat)
 /-- an instance of the class at C,its dict at dx,its attributes -/
 | ins (C dx:Addr) (fs:List (Str×V))
 /-- the dict of the instance at x -/
 | own (x:Addr)
 /-- the dict of an exception -/
 | xd (fs:List (Str×V))
 /-- a bound method,f of x -/
 | met (f x:Addr)
 /-- a range object lo,lo+1,.. below hi -/
 | rng (lo hi:Int)
 /-- a thing that is known to the object (the script;a dict while a loop walks it): read,never written while it is so -/
 | qP (o:Obj) (u:HO)
 /-- a code object's table -/
 | tbl (ps:Array Value)
 /-- a code object's table: whatever it holds,the codes made at these places are known and bear these names -/
 | tab (qs:List (Pos×Str))
 /-- any other thing,by what is true of its one object (a def of one's own: WW a S n:=HO.ext λh=>..) -/
 | ext (φ:Heap->Prop)
abbrev Hp:=Addr->Option HO
def upd(H:Hp)(a:Addr)(o:HO):Hp:=λb=>if b=a then some o else H b
def bu{H:Hp}{a:Addr}{o:HO}:upd H a o a=some o:=by unfold upd;rw[if_pos rfl]
def bI{H:Hp}{a b:Addr}{o:HO}(h:b≠a):upd H a o b=H b:=by unfold upd;rw[if_neg h]
def Xo{H:Hp}{a:Addr}{o u:HO}:upd (upd H a o) a u=upd H a u:=by funext b;unfold upd;split<;>rfl
def agb{H:Hp}{a b:Addr}{o u:HO}(h:H a=some o)(h':H b=some u)(d:o≠u):a≠b:=by intro e;subst e;rw[h] at h';exact d (Qw9 h')
def cZ{H:Hp}{a b:Addr}{o:HO}(h:H a=some o)(h':H b=none):a≠b:=by intro e;subst e;rw[h] at h';cases h'
def Cq(h:Heap)(a:Addr)(items:Array Value):Prop:=∃o,h.get? a=some o/\o.cls = .type "tuple"/\(∃n,o.data = .seq items n)/\o.dict=none
def Cq.is{h:Heap}{a:Addr}{items:Array Value}(x:Cq h a items):IsTup h a items:=let ⟨o,h1,h2,h3,_⟩:=x;⟨o,h1,h2,h3⟩
def Cq.new(h:Heap)(items:Array Value):Cq (h.push { cls:=.type "tuple",data:=.seq items }) h.objs.size items:=⟨_,Qq6 _ rfl,rfl,⟨_,rfl⟩,rfl⟩
section
variable(P:Program)(w:World)
def fX(H:Hp)(h:Heap)(a:Addr):HO->Prop
 | .lst xs=>xs.length<=sizeLine/\∃(its:List Value) (n:Nat),Vals xs its/\h.get? a=some { cls:=.type "list",data:=.seq its.toArray n }
 | .tup xs=>xs.length<=sizeLine/\∃its:List Value,Vals xs its/\Cq h a its.toArray
 | .dK kvs=>kvs.length<=sizeLine/\(a == sysModules)=false/\∃vs,KV kvs vs/\h.DictOf (gO P w) a vs
 | .dT kvs=>kvs.length<=sizeLine/\(a == sysModules)=false/\∃xs:List (List Key×Addr×Value),
   Paired (λ(p:List Key×V) (q:List Key×Addr×Value)=>p.1=q.1/\H q.2.1=some (.tup (p.1.map kV))/\RelV p.2 q.2.2) kvs xs/\
   ∃o es ep,h.get? a=some o/\o.ExactDict/\o.data = .dict es ep/\es.toList=xs.map (entryOfKey (tupleKind (gO P w)))/\(xs.map (·.1)).Nodup
 | .dN kvs=>kvs.length<=sizeLine/\(a == sysModules)=false/\∃xs:List (NK×Addr×Value),
   Paired (λ(p:NK×V×V) (q:NK×Addr×Value)=>p.1=q.1/\p.2.1 = .ref q.2.1/\RelV p.2.2 q.2.2) kvs xs/\
   ∃o es ep,h.get? a=some o/\o.ExactDict/\o.data = .dict es ep/\es.toList=xs.map (entryOfKey (Vk P w))/\(xs.map (·.1)).Nodup
 | .set S n=>h.SetOf (intKind P w) a S n
 | .ins C dx fs=>H dx=some (.own a)/\fs.length<=1000/\dx≠a/\h.get? a=some (PySem.W.instObj C dx)/\
   ∃mA,h.Ns1 dx mA/\(∀f,Cr (fs.lookup f) (mA f))/\PySem.Within mA (fs.map (·.1))
 | .own _=>∃o,h.get? a=some o
 | .xd fs=>∃mA,h.Ns1 a mA/\∀f,Cr (fs.lookup f) (mA f)
 | .rng lo hi=>∃t u v,h.get? a=some { cls:=.type "range",data:=.fields #[.int lo t,.int hi u,.int 1 v] }
 | .qP o u=>h.get? a=some o/\fX H h a u
 | .tbl ps=>h.get? a=some { cls:=.none,data:=.fields ps }
 | .tab qs=>∃ps:Array Value,h.get? a=some { cls:=.none,data:=.fields ps }/\TriplesOk ps.toList/\∀q∈qs,codeAmong q.1 ps.toList=none\/∃(c:Addr) (o:Obj) (u:HO) (vs:Array Value) (t:Tok),codeAmong q.1 ps.toList=some (.ref c)/\H c=some (.qP o u)/\o.data = .fields vs/\vs[1]? = some (.str q.2 t)
 | .met f x=>h.get? a=some (PySem.W.methodObj (.ref f) (.ref x))
 | .ext φ=>φ h/\(∃o,h.get? a=some o)/\∀h1 h2:Heap,φ h1->(∀o,h1.get? a=some o->h2.get? a=some o)->φ h2
def pG(H:Hp)(h:Heap):Prop:=∀a o,H a=some o->fX P w H h a o
end
section
variable{P:Program}{w:World}{H H':Hp}{h h':Heap}{a:Addr}{o:HO}
def fX.lt(x:fX P w H h a o):a<h.objs.size:=by
 cases o with
 | lst xs=>obtain⟨_,_,_,_,e⟩:=x;exact Qq9 e
 | tup xs=>obtain⟨_,_,_,p⟩:=x;exact p.is.lt
 | dK kvs=>obtain⟨_,_,_,_,o,_,_,e,_⟩:=x;exact Qq9 e
 | dT kvs=>obtain⟨_,_,_,_,o,_,_,e,_⟩:=x;exact Qq9 e
 | dN kvs=>obtain⟨_,_,_,_,o,_,_,e,_⟩:=x;exact Qq9 e
 | set S n=>obtain⟨o,_,_,_,e,_⟩:=x;exact Qq9 e
 | ins C dx fs=>obtain⟨_,_,_,e,_⟩:=x;exact Qq9 e
 | own y=>obtain⟨_,e⟩:=x;exact Qq9 e
 | xd fs=>obtain⟨_,⟨_,_,_,e,_⟩,_⟩:=x;exact Qq9 e
 | rng lo hi=>obtain⟨_,_,_,e⟩:=x;exact Qq9 e
 | qP ob u=>obtain⟨e,_⟩:=x;exact Qq9 e
 | tbl ps=>exact Qq9 (show h.get? a=some _ from x)
 | tab qs=>obtain⟨_,e,_⟩:=x;exact Qq9 e
 | met f y=>exact Qq9 (show h.get? a=some _ from x)
 | ext φ=>obtain⟨_,⟨_,e⟩,_⟩:=x;exact Qq9 e
theorem Paired.adH{α β:Type}{F G:α->β->Prop}:∀{l₁:List α} {l₂:List β},Paired F l₁ l₂->(∀a b,F a b->G a b)->Paired G l₁ l₂
 | _,_,.nil,_=>.nil
 | _,_,.cons r t,f=>.cons (f _ _ r) (Paired.adH t f)
def fX.stay(x:fX P w H h a o)(k:∀b u,(b=a\/H b=some (.own a))->h.get? b=some u->h'.get? b=some u)
  (ho:∀b,H b=some (.own a)->H' b=some (.own a)) (ht:∀b xs,H b=some (.tup xs)->H' b=some (.tup xs))
  (hz:∀(b:Addr) (o:Obj) (u:HO) (vs:Array Value),o.data = .fields vs->H b=some (.qP o u)->H' b=some (.qP o u):=by intro _ _ _ _ _ q;exact q):fX P w H' h' a o:=by
 induction o with
 | lst xs=>obtain⟨z,its,n,r,e⟩:=x;exact⟨z,its,n,r,k _ _ (.inl rfl) e⟩
 | tup xs=>obtain⟨z,its,r,ob,e,c⟩:=x;exact⟨z,its,r,ob,k _ _ (.inl rfl) e,c⟩
 | dK kvs=>obtain⟨z,y,vs,r,ob,es,ep,e,c⟩:=x;exact⟨z,y,vs,r,ob,es,ep,k _ _ (.inl rfl) e,c⟩
 | dT kvs=>
  obtain⟨z,y,xs,r,ob,es,ep,e,c⟩:=x;exact⟨z,y,xs,Paired.adH r λp q z=>⟨z.1,ht _ _ z.2.1,z.2.2⟩,ob,es,ep,k _ _ (.inl rfl) e,c⟩
 | dN kvs=>obtain⟨z,y,xs,r,ob,es,ep,e,c⟩:=x;exact⟨z,y,xs,r,ob,es,ep,k _ _ (.inl rfl) e,c⟩
 | set S n=>obtain⟨ob,es,ep,t,e,c⟩:=x;exact⟨ob,es,ep,t,k _ _ (.inl rfl) e,c⟩
 | ins C dx fs=>
  obtain⟨d,z,ne,e,mA,⟨od,es,ep,e2,c⟩,r⟩:=x;exact⟨ho _ d,z,ne,k _ _ (.inl rfl) e,mA,⟨od,es,ep,k _ _ (.inr d) e2,c⟩,r⟩
 | own y=>obtain⟨ob,e⟩:=x;exact⟨ob,k _ _ (.inl rfl) e⟩
 | xd fs=>obtain⟨mA,⟨od,es,ep,e,c⟩,r⟩:=x;exact⟨mA,⟨od,es,ep,k _ _ (.inl rfl) e,c⟩,r⟩
 | rng lo hi=>obtain⟨t,u,v,e⟩:=x;exact⟨t,u,v,k _ _ (.inl rfl) e⟩
 | qP ob u ih=>obtain⟨e,q⟩:=x;exact⟨k _ _ (.inl rfl) e,ih q⟩
 | tbl ps=>
  have e:h.get? a=some { cls:=.none,data:=.fields ps }:=x;show h'.get? a=some { cls:=.none,data:=.fields ps };exact k a _ (.inl rfl) e
 | tab qs=>
  obtain⟨ps,e,t,r⟩:=x;refine⟨ps,k a _ (.inl rfl) e,t,λq hq=>?_⟩;rcases r q hq with z|⟨c,o,u,vs,t,h1,h2,h3,h4⟩
  ·exact .inl z
  ·exact .inr ⟨c,o,u,vs,t,h1,hz c o u vs h3 h2,h3,h4⟩
 | met f y=>
  have e:h.get? a=some (PySem.W.methodObj (.ref f) (.ref y)):=x;show h'.get? a=some (PySem.W.methodObj (.ref f) (.ref y));exact k a _ (.inl rfl) e
 | ext φ=>obtain⟨p,⟨o,e⟩,st⟩:=x;exact⟨st _ _ p λo q=>k _ _ (.inl rfl) q,⟨o,k _ _ (.inl rfl) e⟩,st⟩
def pG.lt(x:pG P w H h)(e:H a=some o):a<h.objs.size:=(x a o e).lt
def pG.fresh(x:pG P w H h)(e:h.objs.size<=a):H a=none:=by
 cases q:H a with
 | none=>rfl
 | some u=>exact absurd (Qwy (x.lt q) e) (Qz1 _)
def pG.kept(x:pG P w H h)(k:∀b u,h.get? b=some u->h'.get? b=some u):pG P w H h':=λa o e=>
 (x a o e).stay (λb u _ q=>k b u q) (λ_ q=>q) λ_ _ q=>q
def pG.laid(x:pG P w H h)(k:∀b u,h.get? b=some u->h'.get? b=some u)(hp:h.objs.size<=a)(new:fX P w (upd H a o) h' a o):pG P w (upd H a o) h':=λb u e=>by
 have hn:=x.fresh hp;by_cases hb:b=a
 ·subst hb;rw[bu] at e;cases e;exact new
 ·rw[bI hb] at e;exact(x b u e).stay (λc v _ q=>k c v q) (λc q=>by rw[bI (cZ q hn)];exact q) (λc xs q=>by rw[bI (cZ q hn)];exact q) λc _ _ _ _ q=>by rw[bI (cZ q hn)];exact q
end
def Rd(H:Hp)(a:Addr)(u:HO):Prop:=H a=some u\/∃o,H a=some (.qP o u)
def Rd.ok{P:Program}{w:World}{H:Hp}{h:Heap}{a:Addr}{u:HO}(r:Rd H a u)(x:pG P w H h):fX P w H h a u:=by
 rcases r with r|⟨o,r⟩
 ·exact x a u r
 ·obtain⟨_,q⟩:=x a _ r;exact q
def Mut:Option HO->Prop
 | some (.lst _)=>True
 | some (.dK _)=>True
 | some (.dT _)=>True
 | some (.dN _)=>True
 | some (.set _ _)=>True
 | some (.ins _ _ _)=>True
 | some (.ext _)=>True
 | _=>False
section
variable{P:Program}{w:World}{H:Hp}{h h':Heap}{x e:Addr}{o':HO}
def pG.write(ok:pG P w H h)(mu:Mut (H x))(he:e=x\/H e=some (.own x))(k:∀b u,b≠e->h.get? b=some u->h'.get? b=some u)(heo:∃u,h'.get? e=some u)
  (new:fX P w (upd H x o') h' x o'):pG P w (upd H x o') h':=λb u q=>by
 have af6:∀c y,H c=some (.own y)->c≠x:=λc y r z=>by subst z;rw[r] at mu;exact mu
 have ah1:∀c xs,H c=some (.tup xs)->c≠x:=λc xs r z=>by subst z;rw[r] at mu;exact mu
 by_cases hb:b=x
 ·subst hb;rw[bu] at q;cases q;exact new
 ·rw[bI hb] at q;by_cases hbe:b=e
  ·have q':H b=some (.own x):=by
    rcases he with z|z
    ·exact absurd (hbe.trans z) hb
    ·rw[hbe];exact z
   rw[q] at q';cases q';obtain⟨v,hv⟩:=heo;exact⟨v,by rw[hbe];exact hv⟩
  ·refine(ok b u q).stay (λc v hc r=>k c v ?_ r) (λc r=>by rw[bI (af6 c b r)];exact r) (λc xs r=>by rw[bI (ah1 c xs r)];exact r) λc _ _ _ _ r=>by rw[bI (λz=>by subst z;rw[r] at mu;exact mu)];exact r
   rcases hc with rfl|hc
   ·exact hbe
   ·rintro rfl;rcases he with z|z
    ·exact af6 c b hc z
    ·rw[hc] at z;cases z;exact hb rfl
end
structure Un(fs ex:List Addr)(H H':Hp)(h h':Heap):Prop where
 keep:∀b o,h.get? b=some o->H b=none->b ∉ fs->b ∉ ex->h'.get? b=some o
 slot:∀b o,h.get? b=some o->H b=none->b∈fs->b ∉ ex->∃sl,h'.get? b=some { o with slots:=sl }
 free:∀b o,h.get? b=some o->H b=none->b ∉ ex->H' b=none
 there:∀b o,h.get? b=some o->b ∉ ex->∃o',h'.get? b=some o'
 tups:∀b xs,H b=some (.tup xs)->H' b=some (.tup xs)
 rZ:∀b o u,H b=some (.qP o u)->H' b=some (.qP o u)
 vZ:∀b ps,H b=some (.tbl ps)->∃more,H' b=some (.tbl (ps++more))
 tabs:∀b qs,H b=some (.tab qs)->H' b=some (.tab qs)
section
variable{fs fs' ex ex':List Addr}{H H1 H2:Hp}{h h1 h2 h':Heap}{a x e:Addr}{o:HO}
def Un.any(u:Un fs ex H H1 h h1){b:Addr}{ob:Obj}(q:h.get? b=some ob)(n:H b=none)(hx:b ∉ ex):∃sl,h1.get? b=some { ob with slots:=sl }:=by
 by_cases hb:b∈fs
 ·exact u.slot b ob q n hb hx
 ·exact⟨ob.slots,u.keep b ob q n hb hx⟩
def Un.kept(k:∀b u,h.get? b=some u->h'.get? b=some u):Un fs ex H H h h':=
 ⟨λb ob q _ _ _=>k b ob q,λb ob q _ _ _=>⟨ob.slots,k b ob q⟩,λ_ _ _ n _=>n,λb ob q _=>⟨ob,k b ob q⟩,λ_ _ q=>q,λ_ _ _ q=>q,λ_ ps q=>⟨#[],by rw[q];simp⟩,λ_ _ q=>q⟩
def Un.refl:Un fs ex H H h h:=Un.kept λ_ _ q=>q
def Un.laid(k:∀b u,h.get? b=some u->h'.get? b=some u)(hp:h.objs.size<=a)(hn:H a=none):Un fs ex H (upd H a o) h h' where
 keep:=λb u q _ _ _=>k b u q
 slot:=λb u q _ _ _=>⟨u.slots,k b u q⟩
 free:=λb u q n _=>by rw[bI (Qwv (Qwy (Qq9 q) hp))];exact n
 there:=λb u q _=>⟨u,k b u q⟩
 tups:=λb xs q=>by rw[bI (cZ q hn)];exact q
 rZ:=λb u xs q=>by rw[bI (cZ q hn)];exact q
 vZ:=λb ps q=>⟨#[],by rw[bI (cZ q hn),q];simp⟩
 tabs:=λb qs q=>by rw[bI (cZ q hn)];exact q
def Un.write(mu:Mut (H x))(he:e=x\/H e=some (.own x))(k:∀b u,b≠e->h.get? b=some u->h'.get? b=some u)(heo:∃u,h'.get? e=some u):Un fs ex H (upd H x o) h h':=by
 have hx:∀b,H b=none->b≠x:=λb n z=>by subst z;rw[n] at mu;exact mu
 have hb:∀b,H b=none->b≠e:=λb n z=>by
  subst z;rcases he with r|r
  ·exact hx b n r
  ·rw[n] at r;cases r
 have hm:∀b u,H b=some u->¬Mut (some u)->b≠x:=λb u q nm z=>by subst z;rw[q] at mu;exact nm mu
 refine⟨λb u q n _ _=>k b u (hb b n) q,λb u q n _ _=>⟨u.slots,k b u (hb b n) q⟩,λb u q n _=>by rw[bI (hx b n)];exact n,λb u q _=>?_,
  λb xs q=>by rw[bI (hm b _ q λz=>z)];exact q,λb u xs q=>by rw[bI (hm b _ q λz=>z)];exact q,λb ps q=>⟨#[],by rw[bI (hm b _ q λz=>z),q];simp⟩,λb qs q=>by rw[bI (hm b _ q λz=>z)];exact q⟩
 by_cases hbe:b=e
 ·subst hbe;exact heo
 ·exact⟨u,k b u hbe q⟩
end
def trk(h:Heap)(H:Hp):List Addr:=(List.range h.objs.size).filter λa=>(H a).isSome
def Gf(h:Heap)(H:Hp):Heap:=PySem.W.hideAll h (trk h H)
def Ro(h:Heap)(H:Hp):(Gf h H).objs.size=h.objs.size:=PySem.W.hideAll_size _ _
def VN{h:Heap}{H:Hp}{b:Addr}{o:Obj}(e:h.get? b=some o)(n:H b=none):(Gf h H).get? b=some o:=
 PySem.W.hideAll_get _ e λhm=>by
  have q:(H b).isSome=true:=(List.mem_filter.mp hm).2;rw[n] at q;simp at q
def YL{h:Heap}{H:Hp}{b:Addr}{o:Obj}(e:(Gf h H).get? b=some o):h.get? b=some o/\H b=none:=by
 have e':h.get? b=some o:=PySem.W.of_hideAll (trk h H) e;refine⟨e',?_⟩;cases q:H b with
 | none=>rfl
 | some x=>
  have hm:b∈trk h H:=List.mem_filter.mpr ⟨Qx1.mpr (Qq9 e'),by simp[q]⟩;have z:(Gf h H).get? b=none:=PySem.W.hideAll_none (trk h H) hm;rw[z] at e;cases e
def aag(g h:Heap)(L:Addr):List (Addr×Obj):=(List.range h.objs.size).filterMap λa=>if a=L\/(g.get? a).isSome=true then none else (h.get? a).map λo=>(a,o)
def rest(g h:Heap)(L d:Addr):List (Addr×Obj):=(aag g h L).filter λp=>decide (p.1≠d)
structure Mod(K:PySem.W.Frag)(mg:Str->Option Value)(base:Heap):Prop where
 J2:K.In base
 glob:base.Ns mainGlobals mg
 blt:∃mb,base.Ns builtinsNs mb/\∀x:Str,x ≠ "__name__"->mb x=bootBuiltins x
 nolimit:base.NoLimit
structure Cx where
 prog:Program
 w:World
 K:PySem.W.Frag
 mg:Str->Option Value
 base:Heap
 A:Around
 N:List Str
 s₀:Shared
 H₀:Hp
 env:Env
 outer:List Env
 stack:List Env
 ex:List Addr
 fn:Str->Bool
 calm:Bool
 pn:List (Addr×Obj)
 xe:Value->Shared->Prop
def frs(l:List Env):List Addr:=l.filterMap (·.frame)
abbrev Cx.fs(X:Cx):List Addr:=frs X.outer
def ym(sc:Scope)(x:Str):Prop:=sc.names.lookup x=some .local\/sc.names.lookup x=some .cell\/sc.names.lookup x=some .free
def Loc(sc:Scope)(x:Str):Prop:=sc.names.lookup x=some .local\/sc.names.lookup x=some .cell
def Look(env:Env)(h:Heap)(m:Str->Option Value)(x:Str)(u:Value):Prop:=
 (env.kindOf x=some .local/\m x=some u)\/((env.kindOf x=some .cell\/env.kindOf x=some .free)/\∃c,env.cells.lookup x=some c/\h.IsCell c (some u))
structure Cx.Ok(X:Cx):Prop where
 mod:Mod X.K X.mg X.base
 kind:X.env.scope.kind = .function
 glob:X.env.globals=mainGlobals
 blt:X.env.builtins=builtinsNs
 above:X.s₀.heap.objs.size<=X.env.locals
 inj:∀x y c,X.env.cells.lookup x=some c->X.env.cells.lookup y=some c->x=y
 has:∀x,(X.env.kindOf x=some .cell\/X.env.kindOf x=some .free)->∃c,X.env.cells.lookup x=some c
 cab:∀x c,X.fn x=true->X.env.cells.lookup x=some c->X.s₀.heap.objs.size<=c
 hd:X.calm=true->X.A.handled=none
 frames:X.A.frames=some X.stack
 stk:X.stack=X.outer\/(X.stack=X.env::X.outer/\X.env.frame=some X.env.locals)
 exf:∀b∈X.ex,b≠X.env.locals/\∀x c,X.env.cells.lookup x=some c->c≠b
 bs:∀b o,X.base.get? b=some o->X.s₀.heap.get? b=some o/\X.H₀ b=none
 W6:X.base.objs.size<=X.s₀.heap.objs.size
 Q8:∀b o,X.base.get? b=some o->b ∉ X.ex
 Rw:∀b∈X.ex,b ∉ X.fs
 vp:X.s₀.heap.FunFrames X.base X.outer
 frf:∀b∈X.fs,X.H₀ b=none
structure Inv(X:Cx)(pins:List (Addr×Obj))(σ:List (Option V))(H:Hp)(s:Shared):Prop where
 ok:X.Ok
 os:s.os=X.s₀.os
 bare:AllBare s.gens
 base:Un X.fs X.ex X.H₀ H X.s₀.heap s.heap
 loc:∃m,s.heap.Ns X.env.locals m/\∀(i:Nat) (x:Str) (v:V),X.N[i]? = some x->σ[i]? = some (some v)->ym X.env.scope x->∃u,RelV v u/\Look X.env s.heap m x u
 cell:∀x c,X.env.cells.lookup x=some c->∃v,s.heap.IsCell c v
 free:H X.env.locals=none
 lq:∀x c,X.env.cells.lookup x=some c->H c=none\/(X.fn x=false/\∃o u,H c=some (.qP o u))
 pin:∀p∈X.pn++pins,s.heap.get? p.1=some p.2/\H p.1=none/\p.1≠X.env.locals/\p.1 ∉ X.fs/\∀v,p.2.data ≠ .cell v
 hok:pG X.prog X.w H s.heap
 len:σ.length=X.N.length
section
variable{X:Cx}{pins:List (Addr×Obj)}{σ:List (Option V)}{H H':Hp}{s:Shared}{h':Heap}
def Cx.Ok.adx(ok:X.Ok){b:Addr}{o:Obj}(e:X.base.get? b=some o):b ∉ X.fs:=λhb=>by
 have:=(ok.vp.mem hb).1;rw[e] at this;cases this
def Inv.bs(I:Inv X pins σ H s):∀b o,X.base.get? b=some o->s.heap.get? b=some o/\H b=none:=λb o e=>
 ⟨I.base.keep b o (I.ok.bs b o e).1 (I.ok.bs b o e).2 (I.ok.adx e) (I.ok.Q8 b o e),I.base.free b o (I.ok.bs b o e).1 (I.ok.bs b o e).2 (I.ok.Q8 b o e)⟩
def Inv.bk(I:Inv X pins σ H s):∀b o,X.base.get? b=some o->s.heap.get? b=some o:=λb o e=>(I.bs b o e).1
def Inv.mod(I:Inv X pins σ H s):Mod X.K X.mg X.base:=I.ok.mod
def Inv.Jd(I:Inv X pins σ H s):X.K.In s.heap:=I.ok.mod.J2.keeps I.bk
def Inv.lt(I:Inv X pins σ H s):X.env.locals<s.heap.objs.size:=let ⟨_,hn,_⟩:=I.loc;hn.lt
def Inv.sz(I:Inv X pins σ H s):X.s₀.heap.objs.size<=s.heap.objs.size:=Qqj I.ok.above (Qj0 I.lt)
def Inv.ah2(I:Inv X pins σ H s){a:Addr}(h:s.heap.objs.size<=a):a ∉ X.fs:=λhb=>by
 obtain⟨_,o,ho,_⟩:=I.ok.vp.mem hb;exact absurd (Qwy (Qq9 ho) (Qqj I.sz h)) (Qz1 _)
def Inv.ZW(I:Inv X pins σ H s):∀x c,X.env.cells.lookup x=some c->c≠X.env.locals:=λx c e z=>by
 obtain⟨v,o,ho,hd⟩:=I.cell x c e;obtain⟨m,⟨o',es,ep,ho',hd',_⟩,_⟩:=I.loc;rw[z,ho'] at ho;cases ho;rw[hd'] at hd;cases hd
def Inv.vp(I:Inv X pins σ H s):s.heap.FunFrames X.base X.outer:=by
 have all:∀(l:List Env),(∀b∈frs l,b∈X.fs)->X.s₀.heap.FunFrames X.base l->s.heap.FunFrames X.base l:=by
  intro l
  induction l with
  | nil=>intro _ _;trivial
  | cons env r ih=>
   intro hs hl;obtain⟨hk,⟨L,o,hf,hn,ho,hd⟩,hr⟩:=hl;have hL:L∈X.fs:=hs L (by unfold frs;rw[Qzv,hf];exact Qqv);obtain⟨sl,e⟩:=I.base.slot L o ho (I.ok.frf L hL) hL λz=>I.ok.Rw L z hL;exact⟨hk,⟨L,_,hf,hn,e,hd⟩,ih (λb hb=>hs b (by unfold frs;rw[Qzv,hf];exact Qqy _ hb)) hr⟩
 exact all X.outer (λ_ hb=>hb) I.ok.vp
def Inv.stack(I:Inv X pins σ H s):s.heap.FunFrames X.base X.stack:=by
 rcases I.ok.stk with e|⟨e,hf⟩
 ·rw[e];exact I.vp
 ·rw[e];obtain⟨m,hn,_⟩:=I.loc;refine .cons (by rw[I.ok.kind];decide) hf hn ?_ I.vp;exact Heap.get?_none_of_le (Qqj I.ok.W6 I.ok.above)
def Inv.K1(I:Inv X pins σ H s):∀b∈frs X.stack,b∈X.env.locals::X.fs:=λb hb=>by
 rcases I.ok.stk with e|⟨e,hf⟩
 ·rw[e] at hb;exact Qqy _ hb
 ·rw[e] at hb;unfold frs at hb;rw[Qzv,hf] at hb;exact hb
def Inv.Er(I:Inv X pins σ H s):∀b∈frs X.stack,H b=none:=λb hb=>by
 rcases Qq1.mp (I.K1 b hb) with e|hb
 ·rw[e];exact I.free
 ·obtain⟨_,o,ho,_⟩:=I.ok.vp.mem hb;exact I.base.free b o ho (I.ok.frf b hb) λz=>I.ok.Rw b z hb
def Inv.step{g':Array GenState}{t':Nat}{d':Drawn}{ch:List Addr}(I:Inv X pins σ H s)
  (hch:∀b∈ch,(b∈X.ex\/X.s₀.heap.objs.size<=b)/\b≠X.env.locals/\(∀x c,X.env.cells.lookup x=some c->c≠b)/\∀p∈X.pn++pins,p.1≠b)
  (keep:∀b o,b≠X.env.locals->b ∉ X.fs->b ∉ ch->s.heap.get? b=some o->H b=none->h'.get? b=some o)
  (slot:∀b o,b≠X.env.locals->b∈X.fs->b ∉ ch->s.heap.get? b=some o->H b=none->∃sl,h'.get? b=some { o with slots:=sl }) (free:∀b o,b ∉ ch->s.heap.get? b=some o->H b=none->H' b=none)
  (there:∀b o,b ∉ ch->s.heap.get? b=some o->∃o',h'.get? b=some o')
  (tups:∀b xs,H b=some (.tup xs)->H' b=some (.tup xs)) (rZ:∀b o u,H b=some (.qP o u)->H' b=some (.qP o u)) (vZ:∀b ps,H b=some (.tbl ps)->∃more,H' b=some (.tbl (ps++more)))
  (ns:∀m,s.heap.Ns X.env.locals m->h'.Ns X.env.locals m) (hok:pG X.prog X.w H' h') (hg:AllBare g')
  (tabs:∀(b:Addr) (qs:List (Pos×Str)),H b=some (.tab qs)->H' b=some (.tab qs):=by intro _ _ q;exact q) :
  Inv X pins σ H' { s with heap:=h',gens:=g',drawn:=d',toks:=t' }:=by
 have neL:∀b o,X.s₀.heap.get? b=some o->b≠X.env.locals:=λb o e=>Qwv (Qwy (Qq9 e) I.ok.above);have neC:∀b o,X.s₀.heap.get? b=some o->b ∉ X.ex->b ∉ ch:=λb o e hx hb=>by
  rcases(hch b hb).1 with z|z
  ·exact hx z
  ·exact absurd (Qwy (Qq9 e) z) (Qz1 _)
 have cellK:∀x c,X.env.cells.lookup x=some c->∀v,s.heap.IsCell c v->h'.IsCell c v:=λx c e v ⟨o,ho,hd⟩=>by
  have nch:c ∉ ch:=λz=>(hch c z).2.2.1 x c e rfl;rcases I.lq x c e with hn|⟨_,fo,fu,hz⟩
  ·by_cases hc:c∈X.fs
   ·obtain⟨sl,q⟩:=slot c o (I.ZW x c e) hc nch ho hn;exact⟨_,q,hd⟩
   ·exact⟨o,keep c o (I.ZW x c e) hc nch ho hn,hd⟩
  ·have e1:=(I.hok c _ hz).1;rw[ho] at e1;cases e1;exact⟨o,(hok c _ (rZ c o fu hz)).1,hd⟩
 refine⟨I.ok,I.os,hg,⟨λb o e n hb hx=>?_,λb o e n hb hx=>?_,λb o e n hx=>?_,λb o e hx=>?_,λb xs e=>tups b xs (I.base.tups b xs e),λb o xs e=>rZ b o xs (I.base.rZ b o xs e),λb ps e=>?_,λb qs e=>tabs b qs (I.base.tabs b qs e)⟩,?_,λx c e=>?_,?_,λx c e=>?_,λp hp=>?_,hok,I.len⟩
 ·exact keep b o (neL b o e) hb (neC b o e hx) (I.base.keep b o e n hb hx) (I.base.free b o e n hx)
 ·obtain⟨sl,e1⟩:=I.base.slot b o e n hb hx;obtain⟨sl',e2⟩:=slot b _ (neL b o e) hb (neC b o e hx) e1 (I.base.free b o e n hx);exact⟨sl',e2⟩
 ·obtain⟨o',e1⟩:=I.base.there b o e hx;exact free b o' (neC b o e hx) e1 (I.base.free b o e n hx)
 ·obtain⟨o',e1⟩:=I.base.there b o e hx;exact there b o' (neC b o e hx) e1
 ·obtain⟨m1,e1⟩:=I.base.vZ b ps e;obtain⟨m2,e2⟩:=vZ b _ e1;exact⟨m1++m2,by rw[e2,Array.append_assoc]⟩
 ·obtain⟨m,hn,hl⟩:=I.loc;refine⟨m,ns m hn,λi x v e1 e2 e3=>?_⟩;obtain⟨u,r,l⟩:=hl i x v e1 e2 e3;refine⟨u,r,?_⟩;rcases l with l|⟨k,c,e,z⟩
  ·exact .inl l
  ·exact .inr ⟨k,c,e,cellK x c e _ z⟩
 ·obtain⟨v,z⟩:=I.cell x c e;exact⟨v,cellK x c e v z⟩
 ·obtain⟨m,⟨o,_,_,ho,_⟩,_⟩:=I.loc;exact free _ o (λz=>(hch _ z).2.1 rfl) ho I.free
 ·rcases I.lq x c e with hn|⟨h1,fo,fu,hz⟩
  ·obtain⟨v,o,ho,hd⟩:=I.cell x c e;exact .inl (free c o (λz=>(hch c z).2.2.1 x c e rfl) ho hn)
  ·exact .inr ⟨h1,fo,fu,rZ c fo fu hz⟩
 ·obtain⟨e,n,ne,nf,d⟩:=I.pin p hp;have nch:p.1 ∉ ch:=λz=>(hch p.1 z).2.2.2 p hp rfl;exact⟨keep p.1 p.2 ne nf nch e n,free p.1 p.2 nch e n,ne,nf,d⟩
def Inv.un{t':Nat}(I:Inv X pins σ H s)(u:Un X.fs [] H H' s.heap h')(hok:pG X.prog X.w H' h'):Inv X pins σ H' { s with heap:=h',toks:=t' }:=by
 obtain⟨m,⟨o,es,ep,ho,r⟩,_⟩:=id I.loc;obtain⟨sl,hL⟩:=u.any ho I.free (by simp);exact I.step (g':=s.gens) (d':=s.drawn) (ch:=[]) (λ_ z=>nomatch z) (λb o _ hb _ e n=>u.keep b o e n hb (by simp)) (λb o _ hb _ e n=>u.slot b o e n hb (by simp)) (λb o _ e n=>u.free b o e n (by simp)) (λb o _ e=>u.there b o e (by simp)) u.tups u.rZ u.vZ (λm' hm=>by
  obtain⟨o',es',ep',ho',r'⟩:=hm;rw[ho] at ho';cases ho';exact⟨_,es',ep',hL,r'⟩) hok I.bare u.tabs
def Inv.call{g':Array GenState}{t':Nat}{d':Drawn}{ch:List Addr}(I:Inv X pins σ H s)(u:Un (frs X.stack) ch H H' s.heap h')(hok:pG X.prog X.w H' h')(hg:AllBare g')
  (hch:∀b∈ch,(b∈X.ex\/X.s₀.heap.objs.size<=b)/\b≠X.env.locals/\(∀x c,X.env.cells.lookup x=some c->c≠b)/\∀p∈X.pn++pins,p.1≠b) :
  Inv X pins σ H' { s with heap:=h',gens:=g',drawn:=d',toks:=t' }:=by
 obtain⟨m,⟨o,es,ep,ho,r⟩,_⟩:=id I.loc;obtain⟨sl,hL⟩:=u.any ho I.free λz=>(hch _ z).2.1 rfl;exact I.step (ch:=ch) hch (λb o hL hb hc e n=>u.keep b o e n (λz=>(Qq1.mp (I.K1 b z)).elim hL hb) hc) (λb o _ _ hc e n=>u.any e n hc) (λb o hc e n=>u.free b o e n hc) (λb o hc e=>u.there b o e hc) u.tups u.rZ u.vZ (λm' hm=>by
  obtain⟨o',es',ep',ho',r'⟩:=hm;rw[ho] at ho';cases ho';exact⟨_,es',ep',hL,r'⟩) hok hg u.tabs
def Inv.turned{t':Nat}{it:Addr}(I:Inv X pins σ H s)(k:∀b o,b≠it->s.heap.get? b=some o->h'.get? b=some o)(hn:H it=none)(hL:it≠X.env.locals)
  (h1:it∈X.ex\/X.s₀.heap.objs.size<=it) (h2:∀x c,X.env.cells.lookup x=some c->c≠it) (h3:∀p∈X.pn++pins,p.1≠it):Inv X pins σ H { s with heap:=h',toks:=t' }:=by
 have nit:∀b u,H b=some u->b≠it:=λb u e z=>by rw[z,hn] at e;cases e
 refine I.step (g':=s.gens) (d':=s.drawn) (ch:=[it]) (λb hb=>?_) (λb o _ _ hc e _=>k b o (λz=>hc (by simp[z])) e) (λb o _ _ hc e _=>⟨o.slots,k b o (λz=>hc (by simp[z])) e⟩) (λ_ _ _ _ n=>n)
  (λb o hc e=>⟨o,k b o (λz=>hc (by simp[z])) e⟩) (λ_ _ e=>e) (λ_ _ _ e=>e) (λb ps e=>⟨#[],by rw[e];simp⟩) (λm hm=>?_) (λb u e=>?_) I.bare
 ·have e:b=it:=by simpa using hb
  subst e;exact⟨h1,hL,h2,h3⟩
 ·obtain⟨o,es,ep,ho,r⟩:=hm;exact⟨o,es,ep,k _ o (Ne.symm hL) ho,r⟩
 ·refine(I.hok b u e).stay (λc v hc q=>k c v ?_ q) (λ_ q=>q) λ_ _ q=>q;rcases hc with z|z
  ·rw[z];exact nit b u e
  ·exact nit c _ z
def Inv.tok(I:Inv X pins σ H s)(t:Nat):Inv X pins σ H { s with toks:=t }:=I.un (h':=s.heap) (t':=t) Un.refl I.hok
def Inv.kept{t':Nat}(I:Inv X pins σ H s)(k:∀b u,s.heap.get? b=some u->h'.get? b=some u):Inv X pins σ H { s with heap:=h',toks:=t' }:=I.un (Un.kept k) (I.hok.kept k)
def Inv.laid{a:Addr}{o:HO}{t':Nat}(I:Inv X pins σ H s)(k:∀b u,s.heap.get? b=some u->h'.get? b=some u)(hp:s.heap.objs.size<=a)(new:fX X.prog X.w (upd H a o) h' a o) :
  Inv X pins σ (upd H a o) { s with heap:=h',toks:=t' }:=I.un (Un.laid k hp (I.hok.fresh hp)) (I.hok.laid k hp new)
def Inv.write{x e:Addr}{o:HO}{t':Nat}(I:Inv X pins σ H s)(mu:Mut (H x))(he:e=x\/H e=some (.own x))(k:∀b u,b≠e->s.heap.get? b=some u->h'.get? b=some u)(heo:∃u,h'.get? e=some u)
  (new:fX X.prog X.w (upd H x o) h' x o):Inv X pins σ (upd H x o) { s with heap:=h',toks:=t' }:=I.un (Un.write mu he k heo) (I.hok.write mu he k heo new)
def Inv.weak{σ':List (Option V)}(I:Inv X pins σ H s)(hl:σ'.length=σ.length)(w:∀(i:Nat) v,σ'[i]? = some (some v)->σ[i]? = some (some v)):Inv X pins σ' H s:=
 ⟨I.ok,I.os,I.bare,I.base,let ⟨m,hn,hl'⟩:=I.loc;⟨m,hn,λi x v e1 e2 e3=>hl' i x v e1 (w i v e2) e3⟩,I.cell,I.free,I.lq,I.pin,I.hok,hl.trans I.len⟩
def Inv.Nz{aaR:List (Addr×Obj)}(I:Inv X pins σ H s)(h:∀p∈aaR,s.heap.get? p.1=some p.2/\H p.1=none/\p.1≠X.env.locals/\p.1 ∉ X.fs/\∀v,p.2.data ≠ .cell v):Inv X aaR σ H s:=
 ⟨I.ok,I.os,I.bare,I.base,I.loc,I.cell,I.free,I.lq,λp hp=>(Qw4.mp hp).elim (λz=>I.pin p (List.mem_append_left _ z)) (h p),I.hok,I.len⟩
def zM{N:List Str}(hN:N.Nodup){i j:Nat}{x:Str}(a:N[i]? = some x)(b:N[j]? = some x):i=j:=by obtain⟨h1,e1⟩:=Qq5.mp a;obtain⟨h2,e2⟩:=Qq5.mp b;exact(List.getElem_inj hN).mp (e1.trans e2.symm)
def CQ{M:Model}{A:Around}{E:Value->Shared->Prop}{i:Nat}{x:Str}{v:V}{u:Value}{Q:Unit->Shared->Prop}(I:Inv X pins σ H s)(hN:X.N.Nodup)(hi:X.N[i]? = some x)(hx:Loc X.env.scope x)(r:RelV v u)
  (h:∀s',Inv X pins (σ.set i (some v)) H s'->(∃a,Heap.SameBut a s.heap s'.heap/\(a=X.env.locals\/X.env.cells.lookup x=some a))->Q () s') (hf:X.fn x=true\/X.env.scope.names.lookup x=some .local:=by first|exact .inl rfl|exact .inr rfl|assumption):wpAny M A (storeName X.env x u) Q E s:=by
 obtain⟨m,hn,hl⟩:=id I.loc;have hcls:(X.env.scope.kind == .class||(X.env.scope.kind == .module&&X.env.locals != X.env.globals))=false:=by rw[I.ok.kind];rfl
 have hiσ:i<σ.length:=by rw[I.len];exact(Qq5.mp hi).1
 have ZW:=I.ZW;have tracked:∀{a:Addr} {h':Heap},(∃o,s.heap.get? a=some o/\H a=none)->Heap.SameBut a s.heap h'->pG X.prog X.w H h':=λ{a h'} ha hs b ob e=>by
  obtain⟨_,_,hfree⟩:=ha;refine(I.hok b ob e).stay (λc w' hc q=>(hs.2 c ?_).trans q) (λ_ q=>q) λ_ _ q=>q;rintro rfl;rcases hc with rfl|hc
  ·rw[hfree] at e;cases e
  ·rw[hfree] at hc;cases hc
 rcases hx with hk|hk
 ·refine wpAny_storeName_local hk hn (λh' hn' hs=>?_) hcls;obtain⟨oL,_,_,hoL,_⟩:=id hn;refine h _ ⟨I.ok,I.os,I.bare,⟨λb o e n hb hx=>?_,λb o e n hb hx=>?_,I.base.free,λb o e hx=>?_,I.base.tups,I.base.rZ,I.base.vZ,I.base.tabs⟩,⟨_,hn',λj y v' e1 e2 e3=>?_⟩,λy c e=>?_,I.free,I.lq,λp hp=>?_,tracked ⟨oL,hoL,I.free⟩ hs,by simpa using I.len⟩ ⟨_,hs,.inl rfl⟩
  ·exact(hs.2 b (Qwv (Qwy (Qq9 e) I.ok.above))).trans (I.base.keep b o e n hb hx)
  ·obtain⟨sl,e1⟩:=I.base.slot b o e n hb hx;exact⟨sl,(hs.2 b (Qwv (Qwy (Qq9 e) I.ok.above))).trans e1⟩
  ·obtain⟨o',e1⟩:=I.base.there b o e hx;exact⟨o',(hs.2 b (Qwv (Qwy (Qq9 e) I.ok.above))).trans e1⟩
  ·by_cases hj:j=i
   ·subst hj;rw[hi] at e1;cases e1;rw[Qwq hiσ] at e2;cases e2;exact⟨u,r,.inl ⟨hk,by simp⟩⟩
   ·rw[Qq3 (Ne.symm hj)] at e2;obtain⟨u',r',q⟩:=hl j y v' e1 e2 e3;refine⟨u',r',?_⟩;rcases q with ⟨k,e⟩|⟨k,c,e,z⟩
    ·refine .inl ⟨k,?_⟩;have:y≠x:=λe=>hj (zM hN e1 (e ▸ hi));simp[this,e]
    ·exact .inr ⟨k,c,e,z.sameBut hs (ZW y c e)⟩
  ·obtain⟨w',z⟩:=I.cell y c e;exact⟨w',z.sameBut hs (ZW y c e)⟩
  ·obtain⟨e,n,ne,nf,d⟩:=I.pin p hp;exact⟨(hs.2 p.1 ne).trans e,n,ne,nf,d⟩
 ·have hfn:X.fn x=true:=by
   rcases hf with z|z
   ·exact z
   ·rw[z] at hk;cases hk
  obtain⟨c,hc⟩:=I.ok.has x (.inl hk);obtain⟨w',z⟩:=I.cell x c hc;refine wpAny_storeName_cell I.ok.kind hk hc z (λh' hc' hs=>?_);obtain⟨oc,hoc,ain⟩:=id z;refine h { s with heap:=h' } ⟨I.ok,I.os,I.bare,⟨λb o e n hb hx=>?_,λb o e n hb hx=>?_,I.base.free,λb o e hx=>?_,I.base.tups,I.base.rZ,I.base.vZ,I.base.tabs⟩,⟨m,hn.sameBut hs (Ne.symm (ZW x c hc)),λj y v' e1 e2 e3=>?_⟩,λy c' e=>?_,I.free,I.lq,λp hp=>?_,tracked ⟨oc,hoc,(I.lq x c hc).resolve_right λz=>by rw[hfn] at z;cases z.1⟩ hs,by simpa using I.len⟩ ⟨c,hs,.inr hc⟩
  ·exact(hs.2 b (Qwv (Qwy (Qq9 e) (I.ok.cab x c hfn hc)))).trans (I.base.keep b o e n hb hx)
  ·obtain⟨sl,e1⟩:=I.base.slot b o e n hb hx;exact⟨sl,(hs.2 b (Qwv (Qwy (Qq9 e) (I.ok.cab x c hfn hc)))).trans e1⟩
  ·obtain⟨o',e1⟩:=I.base.there b o e hx;exact⟨o',(hs.2 b (Qwv (Qwy (Qq9 e) (I.ok.cab x c hfn hc)))).trans e1⟩
  ·by_cases hj:j=i
   ·subst hj;rw[hi] at e1;cases e1;rw[Qwq hiσ] at e2;cases e2;exact⟨u,r,.inr ⟨.inl hk,c,hc,hc'⟩⟩
   ·rw[Qq3 (Ne.symm hj)] at e2;obtain⟨u',r',q⟩:=hl j y v' e1 e2 e3;refine⟨u',r',?_⟩;rcases q with q|⟨k,c',e,z'⟩
    ·exact .inl q
    ·refine .inr ⟨k,c',e,z'.sameBut hs ?_⟩;rintro rfl;exact hj (zM hN e1 (I.ok.inj _ _ _ e hc ▸ hi))
  ·by_cases hcc:c'=c
   ·subst hcc;exact⟨_,hc'⟩
   ·obtain⟨w2,z2⟩:=I.cell y c' e;exact⟨w2,z2.sameBut hs hcc⟩
  ·obtain⟨e,n,ne,nf,d⟩:=I.pin p hp;refine⟨(hs.2 p.1 ?_).trans e,n,ne,nf,d⟩;intro q;rw[q,hoc] at e;have q':oc=p.2:=Qw9 e;exact d w' (by rw[<-q'];exact ain)
def lK{M:Model}{A:Around}{E:Value->Shared->Prop}{i:Nat}{x:Str}{v:V}{u:Value}{Q:Unit->Shared->Prop}(I:Inv X pins σ H s)(hN:X.N.Nodup)(hi:X.N[i]? = some x)(hx:Loc X.env.scope x)(r:RelV v u)
  (h:∀s',Inv X pins (σ.set i (some v)) H s'->Q () s') (hf:X.fn x=true\/X.env.scope.names.lookup x=some .local:=by first|exact .inl rfl|exact .inr rfl|assumption):wpAny M A (storeName X.env x u) Q E s:=
 CQ I hN hi hx r (λs' I' _=>h s' I') hf
def Inv.call'{s':Shared}{ch:List Addr}(I:Inv X pins σ H s)(ho:s'.os=s.os)(u:Un (frs X.stack) ch H H' s.heap s'.heap)(hok:pG X.prog X.w H' s'.heap)(hg:AllBare s'.gens)
  (hch:∀b∈ch,(b∈X.ex\/X.s₀.heap.objs.size<=b)/\b≠X.env.locals/\(∀x c,X.env.cells.lookup x=some c->c≠b)/\∀p∈X.pn++pins,p.1≠b):Inv X pins σ H' s':=by
 obtain⟨h',g',d',t',o'⟩:=s';have e:o'=s.os:=ho;subst e;exact I.call (g':=g') (t':=t') (d':=d') u hok hg hch
end
abbrev XK:=Value->Option Addr->Hp->Prop
abbrev St:=List (Option V)
abbrev VK:=V->Hp->Prop
abbrev TE:=St->Hp->VK->Prop
abbrev TT:=St->Hp->(Bool->Hp->Prop)->Prop
abbrev TA:=St->Hp->(List V->Hp->Prop)->Prop
structure Ends where
 nx:St->Hp->Prop
 rt:VK
 bk:St->Hp->Prop:=λ_ _=>False
 ct:St->Hp->Prop:=λ_ _=>False
abbrev TS:=Ends->St->Hp->Prop
def EP(X:Cx)(pins:List (Addr×Obj))(σ:St)(Q:VK)(u:Value)(s':Shared):Prop:=∃v H',Inv X pins σ H' s'/\RelV v u/\Q v H'
def TP(X:Cx)(pins:List (Addr×Obj))(σ:St)(Q:Bool->Hp->Prop)(b:Bool)(s':Shared):Prop:=∃H',Inv X pins σ H' s'/\Q b H'
def AP(X:Cx)(pins:List (Addr×Obj))(σ:St)(Q:List V->Hp->Prop)(us:List Value)(s':Shared):Prop:=∃vs H',Inv X pins σ H' s'/\Vals vs us/\Q vs H'
def SP(X:Cx)(pins:List (Addr×Obj))(D:Ends)(f:Flow)(s':Shared):Prop:=
 match f with
 | .next=>∃σ' H',Inv X pins σ' H' s'/\D.nx σ' H'
 | .brk=>∃σ' H',Inv X pins σ' H' s'/\D.bk σ' H'
 | .cont=>∃σ' H',Inv X pins σ' H' s'/\D.ct σ' H'
 | .ret u=>∃v σ' H',Inv X pins σ' H' s'/\RelV v u/\D.rt v H'
def PE(X:Cx)(e:Expr)(t:TE):Prop:=
 ∀(pins:List (Addr×Obj)) (s:Shared) (σ:St) (H:Hp) (Q:VK),Inv X pins σ H s->t σ H Q->wpAny (model X.prog X.w) X.A (eval e X.env) (EP X pins σ Q) X.xe s
def PT(X:Cx)(e:Expr)(t:TT):Prop:=
 ∀(pins:List (Addr×Obj)) (s:Shared) (σ:St) (H:Hp) (Q:Bool->Hp->Prop),Inv X pins σ H s->t σ H Q->wpAny (model X.prog X.w) X.A (isTrue e X.env (eval e X.env)) (TP X pins σ Q) X.xe s
def PW(X:Cx)(e:Expr)(t:TT):Prop:=
 ∀(whole:Sem Value) (pins:List (Addr×Obj)) (s:Shared) (σ:St) (H:Hp) (Q:Bool->Hp->Prop),Inv X pins σ H s->t σ H Q->wpAny (model X.prog X.w) X.A (isTrue e X.env whole) (TP X pins σ Q) X.xe s
def PW.pt{X:Cx}{e:Expr}{t:TT}(h:PW X e t):PT X e t:=h _
def PA(X:Cx)(es:List Expr)(t:TA):Prop:=
 ∀(pos:Pos) (pins:List (Addr×Obj)) (s:Shared) (σ:St) (H:Hp) (Q:List V->Hp->Prop),Inv X pins σ H s->t σ H Q->wpAny (model X.prog X.w) X.A (spliced (backTo pos (starEach es X.env))) (AP X pins σ Q) X.xe s
def PS(X:Cx)(st:Stmt)(t:TS):Prop:=
 ∀(pins:List (Addr×Obj)) (s:Shared) (σ:St) (H:Hp) (D:Ends),Inv X pins σ H s->t D σ H->wpAny (model X.prog X.w) X.A (exec st X.env) (SP X pins D) X.xe s
def Bm(X:Cx)(st:List Stmt)(t:TS):Prop:=
 ∀(pins:List (Addr×Obj)) (s:Shared) (σ:St) (H:Hp) (D:Ends),Inv X pins σ H s->t D σ H->wpAny (model X.prog X.w) X.A (execs st X.env) (SP X pins D) X.xe s
def fK{α:Type}{t:Sem α}{Q Q':α->Shared->Prop}{M:Model}{A:Around}{E:Value->Shared->Prop}{s:Shared}(h:wpAny M A t Q E s)(hQ:∀a s,Q a s->Q' a s):wpAny M A t Q' E s:=Qxx h hQ λ_ _ x=>x
section
variable{X:Cx}
def afa(i:Nat):TE:=λσ H Q=>∃v,σ[i]? = some (some v)/\Q v H
def tC(v:V):TE:=λ_ H Q=>Q v H
def jj{i:Nat}{x:Str}{pos:Pos}(hN:X.N[i]? = some x)(hv:ym X.env.scope x)(hd:jy x:=by decide)(hcd:uq x:=by decide):PE X (.Name x pos) (afa i):=by
 intro pins s σ H Q I h;obtain⟨v,e,h⟩:=h;obtain⟨m,hn,hl⟩:=I.loc;obtain⟨u,r,l⟩:=hl i x v hN e hv;have fin:EP X pins σ Q u s:=⟨v,H,I,r,h⟩;rcases l with ⟨hk,hm⟩|⟨hk,c,hc,hcell⟩
 ·exact wpAny_Name (wpAny_loadName_local I.ok.kind hk hn hm fin) hd
 ·rcases hk with hk|hk
  ·exact wpAny_Name (wpAny_loadName_cell I.ok.kind hk hc hcell fin) hd
  ·exact wpAny_Name (wpAny_loadName_free I.ok.kind hk hc hcell fin hcd) hd
def acT{i j pos}:PE X (.Constant (.int i) j pos) (tC (.int i)):=λ_ _ _ H _ I h=>wpAny_Constant_int ⟨.int i,H,I.tok _,⟨_,rfl⟩,h⟩
def afW{b j pos}:PE X (.Constant (.bool b) j pos) (tC (.bl b)):=λ_ _ _ H _ I h=>Constant_bool ⟨.bl b,H,I,rfl,h⟩
def acR{j pos}:PE X (.Constant .none j pos) (tC .non):=λ_ _ _ H _ I h=>Constant_none ⟨.non,H,I,rfl,h⟩
def acO{x j pos}:PE X (.Constant (.str x) j pos) (tC (.str x)):=λ_ _ _ H _ I h=>Calls.Constant_str ⟨.str x,H,I.tok _,⟨_,rfl⟩,h⟩
def Gl(X:Cx)(x:Str):Prop:=X.env.kindOf x=some .globalImplicit
def uU{E:Value->Shared->Prop}{pins:List (Addr×Obj)}{s:Shared}{σ:St}{H:Hp}{x:Str}{u:Value}{pos:Pos}{Q:Value->Shared->Prop}(I:Inv X pins σ H s)(hg:Gl X x)(hm:X.mg x=some u)(h:Q u s)
  (hd:jy x:=by decide):wpAny (model X.prog X.w) X.A (eval (.Name x pos) X.env) Q E s:=
 Calls.Name_function_global I.ok.kind hg (Calls.loadGlobal_global (by rw[I.ok.glob];exact I.mod.glob.keeps I.bk) hm h) hd
def zW{E:Value->Shared->Prop}{pins:List (Addr×Obj)}{s:Shared}{σ:St}{H:Hp}{x:Str}{u:Value}{pos:Pos}{Q:Value->Shared->Prop}(I:Inv X pins σ H s)(hg:Gl X x)(hm:X.mg x=none)(hv:bootBuiltins x=some u)(h:Q u s)
  (hn:x ≠ "__name__":=by decide) (hd:jy x:=by decide):wpAny (model X.prog X.w) X.A (eval (.Name x pos) X.env) Q E s:=by
 obtain⟨mb,h1,h2⟩:=I.mod.blt;exact Calls.Name_function_global I.ok.kind hg (Calls.loadGlobal_builtin (by rw[I.ok.glob];exact I.mod.glob.keeps I.bk) hm (by rw[I.ok.blt];exact h1.keeps I.bk) ((h2 x hn).trans hv) h) hd
def NP{x:Str}{v:V}{u:Value}{pos:Pos}(hg:Gl X x)(hm:X.mg x=some u)(r:RelV v u)(hd:jy x:=by decide):PE X (.Name x pos) (tC v):=
 λ_ _ _ H _ I h=>uU I hg hm ⟨v,H,I,r,h⟩ hd
def NT{x:Str}{v:V}{u:Value}{pos:Pos}(hg:Gl X x)(hm:X.mg x=none)(hv:bootBuiltins x=some u)(r:RelV v u)(hn:x ≠ "__name__":=by decide)(hd:jy x:=by decide):PE X (.Name x pos) (tC v):=
 λ_ _ _ H _ I h=>zW I hg hm hv ⟨v,H,I,r,h⟩ hn hd
variable{a b:Expr}{ta tb:TE}{pos:Pos}
def tB(t:TE):TT:=λσ H Q=>t σ H λx H1=>∃c,x = .bl c/\Q c H1
def acz{e:Expr}{t:TE}(h:PE X e t)(he:∀whole,isTrue e X.env whole=(do let v <-whole;standAt e.pos;holding [v] (truthy v)):=by intro _;rfl):PT X e (tB t):=by intro pins s σ H Q I hw;refine isTrue_plain (fK (h pins s σ H _ I hw) λv s1 ⟨x,H1,I1,r1,q1⟩=>?_) (he _);obtain⟨d,rfl,q⟩:=q1;cases r1;exact Qj8 ⟨H1,I1,q⟩
variable{tA tB':TT}{rest:List Expr}
def ahP(t u:TT):TT:=λσ H Q=>t σ H λc H1=>if c=true then u σ H1 Q else Q false H1
def tOr(t u:TT):TT:=λσ H Q=>t σ H λc H1=>if c=true then Q true H1 else u σ H1 Q
def ahH(t:TT):TT:=λσ H Q=>t σ H λc H1=>Q (!c) H1
def pw_and1(ha:PT X a tA):PW X (.BoolOp .And [a] pos) tA:=by
 intro wh pins s σ H Q I h;refine isTrue_and (fK (ha pins s σ H Q I h) λc s1 e=>?_);cases c with
 | true=>exact isTrue_and_nil e
 | false=>exact e
def pw_or1(ha:PT X a tA):PW X (.BoolOp .Or [a] pos) tA:=by
 intro wh pins s σ H Q I h;refine isTrue_or (fK (ha pins s σ H Q I h) λc s1 e=>?_);cases c with
 | false=>exact isTrue_or_nil e
 | true=>exact e
def pw_and(ha:PT X a tA)(hb:PW X (.BoolOp .And (b::rest) pos) tB'):PW X (.BoolOp .And (a::b::rest) pos) (ahP tA tB'):=by
 intro wh pins s σ H Q I h;refine isTrue_and (fK (ha pins s σ H _ I h) λc s1 ⟨H1,I1,q1⟩=>?_);cases c with
 | true=>exact hb wh pins s1 σ H1 Q I1 q1
 | false=>exact⟨H1,I1,q1⟩
def pw_or(ha:PT X a tA)(hb:PW X (.BoolOp .Or (b::rest) pos) tB'):PW X (.BoolOp .Or (a::b::rest) pos) (tOr tA tB'):=by
 intro wh pins s σ H Q I h;refine isTrue_or (fK (ha pins s σ H _ I h) λc s1 ⟨H1,I1,q1⟩=>?_);cases c with
 | true=>exact⟨H1,I1,q1⟩
 | false=>exact hb wh pins s1 σ H1 Q I1 q1
def acA(ha:PT X a tA):PT X (.UnaryOp .Not a pos) (ahH tA):=by intro pins s σ H Q I h;exact isTrue_not (ha pins s σ H (λc H1=>Q (!c) H1) I h)
def afm(ta tb:TE):TE:=λσ H Q=>ta σ H λx H1=>∃c,x = .bl c/\if c=true then tb σ H1 Q else Q (.bl false) H1
def ahG(ta tb:TE):TE:=λσ H Q=>ta σ H λx H1=>∃c,x = .bl c/\if c=true then Q (.bl true) H1 else tb σ H1 Q
def afg(ta:TE):TE:=λσ H Q=>ta σ H λx H1=>∃c,x = .bl c/\Q (.bl (!c)) H1
def acP{op}{t:TE}(h:PE X a t):PE X (.BoolOp op [a] pos) t:=λpins s σ H Q I hw=>BoolOp_one (h pins s σ H Q I hw)
def acV(ha:PE X a ta)(hb:PE X (.BoolOp .And (b::rest) pos) tb):PE X (.BoolOp .And (a::b::rest) pos) (afm ta tb):=by
 intro pins s σ H Q I h;refine BoolOp_and (fK (ha pins s σ H _ I h) λv s1 ⟨x,H1,I1,r1,q1⟩=>?_);obtain⟨c,rfl,q1⟩:=q1;cases r1;refine Qj8 ?_;cases c with
 | true=>exact hb pins s1 σ H1 Q I1 q1
 | false=>exact⟨.bl false,H1,I1,rfl,q1⟩
def afU(ha:PE X a ta)(hb:PE X (.BoolOp .Or (b::rest) pos) tb):PE X (.BoolOp .Or (a::b::rest) pos) (ahG ta tb):=by
 intro pins s σ H Q I h;refine BoolOp_or (fK (ha pins s σ H _ I h) λv s1 ⟨x,H1,I1,r1,q1⟩=>?_);obtain⟨c,rfl,q1⟩:=q1;cases r1;refine Qj8 ?_;cases c with
 | false=>exact hb pins s1 σ H1 Q I1 q1
 | true=>exact⟨.bl true,H1,I1,rfl,q1⟩
def acQ(ha:PE X a ta):PE X (.UnaryOp .Not a pos) (afg ta):=by intro pins s σ H Q I h;refine UnaryOp_ (fK (ha pins s σ H _ I h) λv s1 ⟨x,H1,I1,r1,q1⟩=>?_);obtain⟨c,rfl,q1⟩:=q1;cases r1;exact not_of (Qj8 ⟨.bl (!c),H1,I1,rfl,q1⟩)
def tIf(t:TT)(ta tb:TE):TE:=λσ H Q=>t σ H λc H1=>if c=true then ta σ H1 Q else tb σ H1 Q
def U4{c:Expr}(hc:PT X c tA)(ha:PE X a ta)(hb:PE X b tb):PE X (.IfExp c a b pos) (tIf tA ta tb):=by
 intro pins s σ H Q I h;refine wpAny_IfExp (fK (hc pins s σ H _ I h) λd s1 ⟨H1,I1,q1⟩=>?_);cases d with
 | true=>exact ha pins s1 σ H1 Q I1 q1
 | false=>exact hb pins s1 σ H1 Q I1 q1
end
def j8(K:PySem.W.Frag)(H:Hp)(a:Addr)(xs:List V):Prop:=
 Rd H a (.lst xs)\/
  ∃(o:Obj) (its:Array Value) (n:Nat),K.lookup a=some o/\o.cls = .type "list"/\o.dict=none/\o.data = .seq its n/\its.size<=sizeLine/\Vals xs its.toList
def pO(K:PySem.W.Frag)(H:Hp)(a:Addr)(xs:List V):Prop:=
 Rd H a (.tup xs)\/
  ∃(o:Obj) (its:Array Value) (n:Nat),K.lookup a=some o/\o.cls = .type "tuple"/\o.dict=none/\o.data = .seq its n/\its.size<=sizeLine/\Vals xs its.toList
def aiG:Value->Option V
 | .none=>some .non
 | .bool b=>some (.bl b)
 | .int i _=>some (.int i)
 | .str x _=>some (.str x)
 | .bytes b _=>some (.byt b)
 | .float b _=>some (.flt b)
 | .ref a=>some (.ref a)
 | .type n=>some (.ty n)
 | _=>none
def RelV.abs{x:V}{u:Value}(r:RelV x u):aiG u=some x:=by
 cases x with
 | non=>cases r;rfl
 | bl _=>cases r;rfl
 | int _=>obtain⟨t,rfl⟩:=r;rfl
 | str _=>obtain⟨t,rfl⟩:=r;rfl
 | byt _=>obtain⟨t,rfl⟩:=r;rfl
 | flt _=>obtain⟨t,rfl⟩:=r;rfl
 | ref _=>cases r;rfl
 | ty _=>cases r;rfl
def RelV.inj{x y:V}{u:Value}(r:RelV x u)(q:RelV y u):x=y:=Qw9 (r.abs.symm.trans q.abs)
theorem Vals.inj:∀{xs ys:List V} {us:List Value},Vals xs us->Vals ys us->xs=ys
 | _,_,_,.nil,.nil=>rfl
 | _,_,_,.cons r t,.cons r' t'=>by rw[r.inj r',Vals.inj t t']
section
variable{X:Cx}{pins:List (Addr×Obj)}{σ:St}{H:Hp}{s:Shared}{a:Addr}{xs ys:List V}
theorem j8.of{K:PySem.W.Frag}(h:H a=some (.lst xs)):j8 K H a xs:=.inl (.inl h)
theorem pO.of{K:PySem.W.Frag}(h:H a=some (.tup xs)):pO K H a xs:=.inl (.inl h)
def Inv.list(I:Inv X pins σ H s)(h:j8 X.K H a xs):∃its:List Value,Vals xs its/\PlainL s.heap a its.toArray/\xs.length<=sizeLine:=by
 rcases h with h|⟨o,its,n,hk,hc,hd,hs,hz,r⟩
 ·obtain⟨z,its,n,r,e⟩:=h.ok I.hok;exact⟨its,r,⟨_,n,e,rfl,rfl,rfl⟩,z⟩
 ·refine⟨its.toList,r,⟨o,n,I.Jd a o hk,hc,hd,by simpa using hs⟩,?_⟩;have e:=r.length;simp only[Qz6] at e;omega
def Inv.tuple(I:Inv X pins σ H s)(h:pO X.K H a xs):∃its:List Value,Vals xs its/\IsTup s.heap a its.toArray/\xs.length<=sizeLine:=by
 rcases h with h|⟨o,its,n,hk,hc,hdn,hs,hz,r⟩
 ·obtain⟨z,its,r,p⟩:=h.ok I.hok;exact⟨its,r,p.is,z⟩
 ·refine⟨its.toList,r,⟨o,I.Jd a o hk,hc,n,by simpa using hs⟩,?_⟩;have e:=r.length;simp only[Qz6] at e;omega
def Inv.Vu(I:Inv X pins σ H s)(h:j8 X.K H a xs)(h':j8 X.K H a ys):xs=ys:=by
 obtain⟨its,r,⟨o,n,e,_,_,d⟩,_⟩:=I.list h;obtain⟨its',r',⟨o',n',e',_,_,d'⟩,_⟩:=I.list h';rw[e] at e';cases e';rw[d] at d';injection d' with d1 _
 have:its=its':=by simpa using Qz0 Array.toList d1
 subst this;exact r.inj r'
def Inv.Qg(I:Inv X pins σ H s)(h:pO X.K H a xs)(h':pO X.K H a ys):xs=ys:=by
 obtain⟨its,r,⟨o,e,_,n,d⟩,_⟩:=I.tuple h;obtain⟨its',r',⟨o',e',_,n',d'⟩,_⟩:=I.tuple h';rw[e] at e';cases e';rw[d] at d';injection d' with d1 _
 have:its=its':=by simpa using Qz0 Array.toList d1
 subst this;exact r.inj r'
end
abbrev Cx.wish(X:Cx)(E:Value->Shared->Prop):Cx:={ X with xe:=E }
abbrev Cx.wU(X:Cx):Cx:=X.wish λ_ _=>False
def Cx.Ok.wish{X:Cx}(ok:X.Ok)(E:Value->Shared->Prop):(X.wish E).Ok:=
 ⟨ok.mod,ok.kind,ok.glob,ok.blt,ok.above,ok.inj,ok.has,ok.cab,ok.hd,ok.frames,ok.stk,ok.exf,ok.bs,ok.W6,ok.Q8,ok.Rw,ok.vp,ok.frf⟩
def Cx.Ok.fO{X:Cx}{E:Value->Shared->Prop}(ok:(X.wish E).Ok):X.Ok:=
 ⟨ok.mod,ok.kind,ok.glob,ok.blt,ok.above,ok.inj,ok.has,ok.cab,ok.hd,ok.frames,ok.stk,ok.exf,ok.bs,ok.W6,ok.Q8,ok.Rw,ok.vp,ok.frf⟩
section
variable{X:Cx}{pins:List (Addr×Obj)}{σ:St}{H:Hp}{s:Shared}{E:Value->Shared->Prop}
def Inv.wish(I:Inv X pins σ H s)(E:Value->Shared->Prop):Inv (X.wish E) pins σ H s:=⟨I.ok.wish E,I.os,I.bare,I.base,I.loc,I.cell,I.free,I.lq,I.pin,I.hok,I.len⟩
def Inv.fO(I:Inv (X.wish E) pins σ H s):Inv X pins σ H s:=⟨I.ok.fO,I.os,I.bare,I.base,I.loc,I.cell,I.free,I.lq,I.pin,I.hok,I.len⟩
def SP.fO{D:Ends}{f:Flow}{s':Shared}(h:SP (X.wish E) pins D f s'):SP X pins D f s':=by
 cases f with
 | next=>obtain⟨σ',H',I,q⟩:=h;exact⟨σ',H',I.fO,q⟩
 | brk=>obtain⟨σ',H',I,q⟩:=h;exact⟨σ',H',I.fO,q⟩
 | cont=>obtain⟨σ',H',I,q⟩:=h;exact⟨σ',H',I.fO,q⟩
 | ret u=>obtain⟨v,σ',H',I,r,q⟩:=h;exact⟨v,σ',H',I.fO,r,q⟩
def PT.wU{e:Expr}{t:TT}(h:PT X.wU e t):PT X e t:=λpins s σ H Q I hw=>
 Qxx (h pins s σ H Q (I.wish _) hw) (λ_ _ ⟨H',I',q⟩=>⟨H',I'.fO,q⟩) λ_ _ z=>False.elim z
def Bm.wU{st:List Stmt}{t:TS}(h:Bm X.wU st t):Bm X st t:=λpins s σ H D I hw=>
 Qxx (h pins s σ H D (I.wish _) hw) (λ_ _ q=>q.fO) λ_ _ z=>False.elim z
end
section
variable{X:Cx}{st:Stmt}{rest:List Stmt}{t u:TS}{e:Expr}{te:TE}{pos:Pos}
def afh:TS:=λD σ H=>D.nx σ H
def ab1(t u:TS):TS:=λD σ H=>t { D with nx:=u D } σ H
def Yn:Bm X [] afh:=λ_ _ σ H _ I h=>wpAny_execs_nil ⟨σ,H,I,h⟩
def Ih(h1:PS X st t)(h2:Bm X rest u):Bm X (st::rest) (ab1 t u):=by
 intro pins s σ H D I h;refine wpAny_execs_cons (fK (h1 pins s σ H { D with nx:=u D } I h) λf s1 q=>?_);cases f with
 | next=>
  obtain⟨σ',H',I',q⟩:=q;exact h2 pins s1 σ' H' D I' q
 | ret v=>exact q
 | brk=>exact q
 | cont=>exact q
def yM(h1:PS X st t):Bm X [st] t:=by
 intro pins s σ H D I h;refine wpAny_execs_cons (fK (h1 pins s σ H D I h) λf s1 q=>?_);cases f with
 | next=>exact wpAny_execs_nil q
 | ret v=>exact q
 | brk=>exact q
 | cont=>exact q
def Inv.quiet{pins:List (Addr×Obj)}{σ:St}{H:Hp}{s:Shared}(I:Inv X pins σ H s):interactive X.env=false:=by simp[interactive,I.ok.kind]
def afj(te:TE):TS:=λD σ H=>te σ H λ_ H1=>D.nx σ H1
def Fx(he:PE X e te)(hs:swapsWith e none pos.line X.env=pure false:=by rfl):PS X (.Expr e pos) (afj te):=by intro pins s σ H D I h;exact wpAny_Expr_any (fK (he pins s σ H _ I h) λv s1 ⟨x,H1,I1,r1,q1⟩=>⟨σ,H1,I1,q1⟩) I.quiet hs
def ahE(te:TE):TS:=λD σ H=>te σ H D.rt
def Uz(he:PE X e te):PS X (.Return (some e) pos) (ahE te):=by intro pins s σ H D I h;exact wpAny_Return_some (fK (he pins s σ H _ I h) λv s1 ⟨x,H1,I1,r1,q1⟩=>⟨x,σ,H1,I1,r1,q1⟩)
def ahL(c:TT)(t u:TS):TS:=λD σ H=>c σ H λb H1=>if b=true then t D σ H1 else u D σ H1
def aaN{c:Expr}{a b:List Stmt}{tc:TT}(hc:PT X c tc)(ha:Bm X a t)(hb:Bm X b u):PS X (.If c a b pos) (ahL tc t u):=by
 intro pins s σ H D I h;refine wpAny_If (fK (hc pins s σ H _ I h) λd s1 ⟨H1,I1,q1⟩=>?_);cases d with
 | true=>exact ha pins s1 σ H1 D I1 q1
 | false=>exact hb pins s1 σ H1 D I1 q1
end
abbrev TG:=V->St->Hp->(St->Hp->Prop)->Prop
abbrev TGs:=List V->St->Hp->(St->Hp->Prop)->Prop
def PG(X:Cx)(target:Expr)(t:TG):Prop:=
 ∀(pins:List (Addr×Obj)) (s:Shared) (σ:St) (H:Hp) (v:V) (u:Value) (Q:St->Hp->Prop),Inv X pins σ H s->RelV v u->t v σ H Q->
  wpAny (model X.prog X.w) X.A (assign target X.env u) (λ_ s'=>∃σ' H',Inv X pins σ' H' s'/\Q σ' H') X.xe s
def PGs(X:Cx)(ts:List Expr)(t:TGs):Prop:=
 ∀(pins:List (Addr×Obj)) (s:Shared) (σ:St) (H:Hp) (vs:List V) (us:List Value) (Q:St->Hp->Prop),Inv X pins σ H s->Vals vs us->t vs σ H Q->
  wpAny (model X.prog X.w) X.A (assignInOrder ((assignEach ts X.env).map (·.2)) us) (λ_ s'=>∃σ' H',Inv X pins σ' H' s'/\Q σ' H') X.xe s
abbrev pF:=V->V->V->Hp->(Hp->Prop)->Prop
def agX(X:Cx)(t:pF):Prop:=
 ∀(pins:List (Addr×Obj)) (s:Shared) (σ:St) (H:Hp) (o i v:V) (ov iv u:Value) (Q:Hp->Prop),Inv X pins σ H s->RelV o ov->RelV i iv->RelV v u->t o i v H Q->
  wpAny (model X.prog X.w) X.A (setItem ov iv u) (λ_ s'=>∃H',Inv X pins σ H' s'/\Q H') X.xe s
section
variable{X:Cx}{pos:Pos}
def Ag(i:Nat):TG:=λv σ H Q=>Q (σ.set i (some v)) H
def Yw{i:Nat}{x:Str}(hN:X.N.Nodup)(hi:X.N[i]? = some x)(hx:Loc X.env.scope x)(hf:X.fn x=true\/X.env.scope.names.lookup x=some .local:=by first|exact .inl rfl|exact .inr rfl|assumption):PG X (.Name x pos) (Ag i):=by intro pins s σ H v u Q I r h;exact wpAny_assign_Name (lK I hN hi hx r (λs' I'=>⟨_,H,I',h⟩) hf)
def aix:TGs:=λvs σ H Q=>vs=[]/\Q σ H
def agF(t:TG)(u:TGs):TGs:=λvs σ H Q=>∃v r,vs=v::r/\t v σ H λσ' H'=>u r σ' H' Q
def Yv:PGs X [] aix:=by intro pins s σ H vs us Q I r h;obtain⟨e,h⟩:=h;subst e;cases r;exact assignInOrder_nil ⟨σ,H,I,h⟩
def UW{e:Expr}{es:List Expr}{t:TG}{u:TGs}(h1:PG X e t)(h2:PGs X es u)
  (hs:(assignEach (e::es) X.env).map (·.2)=assign e X.env::(assignEach es X.env).map (·.2):=by rfl):PGs X (e::es) (agF t u):=by
 intro pins s σ H vs us Q I r h;obtain⟨v,vr,e1,h⟩:=h;subst e1;cases r with
 | cons r rr=>
  rw[hs];refine assignInOrder_cons (fK (h1 pins s σ H _ _ _ I r h) λ_ s1 ⟨σ1,H1,I1,q1⟩=>?_);exact h2 pins s1 σ1 H1 _ _ Q I1 rr q1
def aiv(K:PySem.W.Frag)(n:Nat)(t:TGs):TG:=λv σ H Q=>∃a xs,v = .ref a/\pO K H a xs/\xs.length=n/\t xs σ H Q
def acJ{es:List Expr}{k:Nat}{t:TGs}{n:Nat}(hc:X.calm=true)(h:PGs X es t)
  (hn:(assignEach es X.env).length=n:=by rfl) (hst:(assignEach es X.env).findIdx? (·.1)=none:=by rfl):PG X (.Tuple es k pos) (aiv X.K n t):=by
 intro pins s σ H v u Q I r hw;obtain⟨a,xs,e1,hq,hl,hw⟩:=hw;subst e1;cases r;obtain⟨its,rv,ht,hz⟩:=I.tuple hq;refine assign_Tuple_tuple (I.ok.hd hc) ht (by simp[hn,<-hl,rv.length]) hst λh' hx=>?_;have I1:Inv X pins σ H { s with heap:=h' }:=I.kept (t':=s.toks) λb o e=>hx b o (Qwv (Qq9 e)) e;exact h pins _ σ H xs _ Q I1 (by simpa using rv) hw
def Af(to ti:TE)(t:pF):TG:=λv σ H Q=>to σ H λo H1=>ti σ H1 λi H2=>t o i v H2 λH3=>Q σ H3
def acK{o i:Expr}{to ti:TE}{t:pF}(ho:PE X o to)(hi:PE X i ti)(hs:agX X t)
  (ha:∀v,assign (.Subscript o i pos) X.env v=(do
   let ov <-holding [v] (eval o X.env)
   let iv <-holding [v,ov] (eval i X.env)
   standAt pos
   holding [v,ov,iv] (setItem ov iv v)
   release [v,ov,iv] []):=by intro _;rfl):PG X (.Subscript o i pos) (Af to ti t):=by
 intro pins s σ H v u Q I r h;rw[ha];refine Qqx (Qzz (fK (ho pins s σ H _ I h) λov s1 ⟨x,H1,I1,r1,q1⟩=>?_));refine Qqx (Qzz (fK (hi pins s1 σ H1 _ I1 q1) λiv s2 ⟨y,H2,I2,r2,q2⟩=>?_));refine Qqx (wpAny_standAt (Qqx (Qzz (fK (hs pins s2 σ H2 x y v ov iv u _ I2 r1 r2 r q2) λ_ s3 ⟨H3,I3,q3⟩=>?_))));exact wpAny_release ⟨σ,H3,I3,q3⟩
def Ql(te:TE)(g:TG):TS:=λD σ H=>te σ H λx H1=>g x σ H1 D.nx
def acG{tg e:Expr}{te:TE}{g:TG}(he:PE X e te)(hg:PG X tg g)(hs:swapsWithSole [tg] e pos.line X.env=pure false:=by rfl)(hw:swappedStores [tg] e X.env=pure none:=by rfl)
  (h1:(assignEach [tg] X.env).map (·.2)=[assign tg X.env]:=by rfl):PS X (.Assign [tg] e pos) (Ql te g):=by
 intro pins s σ H D I h;refine wpAny_Assign_stores (fK (he pins s σ H _ I h) λv s1 ⟨x,H1,I1,r1,q1⟩=>?_) hs hw;rw[h1];exact fK (hg pins s1 σ H1 x v _ I1 r1 q1) λ_ s2 q=>q
def Lg{i:Nat}{x:Str}{e:Expr}{te:TE}{pos':Pos}(hN:X.N.Nodup)(hi:X.N[i]? = some x)(hx:Loc X.env.scope x)(he:PE X e te)(hs:swapsWith e (some (.Name x pos')) pos.line X.env=pure false:=by rfl)(hf:X.fn x=true\/X.env.scope.names.lookup x=some .local:=by first|exact .inl rfl|exact .inr rfl|assumption) :
  PS X (.Assign [.Name x pos'] e pos) (Ql te (Ag i)):=by
 intro pins s σ H D I h;refine wpAny_Assign_Name (fK (he pins s σ H _ I h) λv s1 ⟨y,H1,I1,r1,q1⟩=>?_) hs;exact lK I1 hN hi hx r1 (λs2 I2=>⟨_,H1,I2,q1⟩) hf
def ahF(i j:Nat)(ta:TA):TS:=λD σ H=>ta σ H λvs H1=>∃v w,vs=[v,w]/\D.nx ((σ.set i (some v)).set j (some w)) H1
def acD{i j:Nat}{x y:Str}{a b:Expr}{ta:TA}{px py pt:Pos}{kt k2 pt2}(hc:X.calm=true)(hN:X.N.Nodup)(hi:X.N[i]? = some x)(hj:X.N[j]? = some y)(hij:i≠j)
  (hx:X.env.scope.names.lookup x=some .local) (hy:X.env.scope.names.lookup y=some .local) (ha:PA X [a,b] ta)
  (hw:swappedStores [.Tuple [.Name x px,.Name y py] kt pt] (.Tuple [a,b] k2 pt2) X.env=pure (some [x,y]))
  (hs:swapsWithSole [.Tuple [.Name x px,.Name y py] kt pt] (.Tuple [a,b] k2 pt2) pos.line X.env=pure false:=by rfl) :
  PS X (.Assign [.Tuple [.Name x px,.Name y py] kt pt] (.Tuple [a,b] k2 pt2) pos) (ahF i j ta):=by
 intro pins s σ H D I h;rw[exec_Assign_arm];refine Qqx (wpAny_standAt ?_);rw[hs];refine Qqx (Qqw ?_);rw[if_neg (by decide)];refine Qqx (Tuple_ (fK (ha _ pins s σ H _ I h) λus s1 ⟨vs,H1,I1,r1,q1⟩=>?_));obtain⟨v,w,e1,q1⟩:=q1;subst e1;obtain⟨u1,u2,rfl,rv,zu⟩:∃u1 u2,us=[u1,u2]/\RelV v u1/\RelV w u2:=by
  cases r1 with
  | cons p q=>
   cases q with
   | cons p' q'=>
    cases q';exact⟨_,_,rfl,p,p'⟩
 refine Qx3 ?_ (by show 2<=sizeLine;decide);have I2:Inv X pins σ H1 { s1 with heap:=s1.heap.push { cls:=.type "tuple",data:=.seq [u1,u2].toArray } }:=I1.kept (t':=s1.toks) λb o e=>Qqz _ e;rw[hw];refine Qqx (Qqw ?_);show wpAny (model X.prog X.w) X.A (do rule "assign.swapped-stores";let items <-unpackItems (.ref s1.heap.objs.size) 2 none;assignInOrder [λv=>bindName X.env y v,λv=>bindName X.env x v] items.reverse;pure Flow.next) _ _ _;refine Qqx (wpAny_rule (Qqx (unpackItems_tuple (items:=#[u1,u2]) (I.ok.hd hc) (IsTup.new s1.heap _) λh' hx'=>?_)));have I3:=I2.kept (h':=h') (t':=s1.toks) λb o e=>hx' b o (Qwv (Qq9 e)) e;show wpAny _ _ (assignInOrder [λv=>bindName X.env y v,λv=>bindName X.env x v] [u2,u1] >>= λ_=>pure Flow.next) _ _ _;refine Qqx (assignInOrder_cons (wpAny_bindName (lK I3 hN hj (.inl hy) zu (λs2 I4=>?_) (.inr hy))));refine assignInOrder_cons (wpAny_bindName (lK I4 hN hi (.inl hx) rv (λs3 I5=>assignInOrder_nil (Qqw ?_)) (.inr hx)));rw[List.set_comm _ _ (Ne.symm hij)] at I5;exact⟨_,H1,I5,q1⟩
end
structure It where
 go:Nat->Hp->Prop
 yld:Nat->Hp->V->Hp->Prop
 stop:Nat->Hp->Prop
def Bo(X:Cx)(pins:List (Addr×Obj))(H:Hp)(b:Addr):Prop:=
 H b=none/\b≠X.env.locals/\b ∉ X.fs/\(b∈X.ex\/X.s₀.heap.objs.size<=b)/\(∀x c,X.env.cells.lookup x=some c->c≠b)/\∀p∈X.pn++pins,p.1≠b
def Inv.aec{X:Cx}{pins:List (Addr×Obj)}{σ:St}{H H':Hp}{s:Shared}{b:Addr}(I:Inv X pins σ H s)(hb:s.heap.objs.size<=b)(hn:H' b=none):Bo X pins H' b:=by
 refine⟨hn,Nat.ne_of_gt (Qwy I.lt hb),I.ah2 hb,.inr (Qqj I.sz hb),λx c e z=>?_,λp hp z=>?_⟩
 ·obtain⟨v,q⟩:=I.cell x c e;exact absurd (Qwy q.lt (by rw[z];exact hb)) (Qz1 _)
 ·exact absurd (Qwy (Qq9 (I.pin p hp).1) (by rw[z];exact hb)) (Qz1 _)
structure Turn(P:Program)(w:World)(K:PySem.W.Frag)(tg:Expr)(J:It)(fp:List Addr)(it:Addr)(tn:Nat->Heap->Prop):Prop where
 mem:it∈fp
 obj:∀i h,tn i h->∀b∈fp,∃o,h.get? b=some o/\∀v,o.data ≠ .cell v
 keep:∀i h h',tn i h->(∀b∈fp,∀o,h.get? b=some o->h'.get? b=some o)->tn i h'
 item:∀(X:Cx),X.prog=P->X.w=w->X.K=K->X.calm=true->∀(i:Nat) (pins:List (Addr×Obj)) (s:Shared) (σ:St) (H:Hp) (E:Value->Shared->Prop),Inv X pins σ H s->(∀b∈fp,Bo X pins H b)->tn i s.heap->J.go i H->
  wpAny (model P w) X.A (pyNext (.ref it)) (λr s1=>∃u,r=some u/\
   wpAny (model P w) X.A (letOwnedTupleGo tg (.ref it) u) (λ_ s2=>∃x H',Inv X pins σ H' s2/\RelV x u/\J.yld i H x H'/\tn (i+1) s2.heap/\∀b∈fp,H' b=none) E s1) E s
 done:∀(X:Cx),X.prog=P->X.w=w->X.K=K->X.calm=true->∀(i:Nat) (pins:List (Addr×Obj)) (s:Shared) (σ:St) (H:Hp) (E:Value->Shared->Prop),Inv X pins σ H s->(∀b∈fp,Bo X pins H b)->tn i s.heap->J.stop i H->
  wpAny (model P w) X.A (pyNext (.ref it)) (λr s1=>r=none/\Inv X pins σ H s1) E s
 self:∀(A:Around) (i:Nat) (s:Shared) (Q:Value->Shared->Prop) (E:Value->Shared->Prop),tn i s.heap->Q (.ref it) s->wpAny (model P w) A (pyIter (.ref it)) Q E s
abbrev TI:=St->Hp->(It->Hp->Prop)->Prop
def PIE(X:Cx)(pins:List (Addr×Obj))(σ:St)(tg:Expr)(R:It->Hp->Prop)(itv:Value)(s2:Shared):Prop:=
 ∃(it:Addr) (fp:List Addr) (tn:Nat->Heap->Prop) (J:It) (H':Hp),itv = .ref it/\Inv X pins σ H' s2/\Turn X.prog X.w X.K tg J fp it tn/\tn 0 s2.heap/\(∀b∈fp,Bo X pins H' b)/\R J H'
def PI(X:Cx)(tg iter:Expr)(wi:TI):Prop:=
 ∀(pins:List (Addr×Obj)) (s:Shared) (σ:St) (H:Hp) (R:It->Hp->Prop),Inv X pins σ H s->wi σ H R->
  wpAny (model X.prog X.w) X.A (eval iter X.env) (λv s1=>wpAny (model X.prog X.w) X.A (pyIter v) (PIE X pins σ tg R) X.xe s1) X.xe s
def Du{M : Model}{A : Around}{E : Value → Shared → Prop}{s : Shared}{tg : Expr}{it : Addr}{u : Value}{o : Obj}{n : String}{vs : Array Value}{Q : Unit → Shared → Prop}(ho : s.heap.get? it = some o)(hc : o.cls = .type n)(hd : o.data = .fields vs)
    (hn : ["enumerate", "zip", "dict_itemiterator", "dict_reverseitemiterator", "odict_iterator", "itertools.zip_longest", "itertools.pairwise"].contains n = false) (hQ : Q () s) : wpAny M A (letOwnedTupleGo tg (.ref it) u) Q E s := by
  unfold letOwnedTupleGo;cases tg <;> first
    | exact Qqw hQ
    | (cases u <;> first
        | exact Qqw hQ
        | (refine Qqx (wpAny_load ho ?_)
           rw [hc, hd];show wpAny M A (if (["enumerate", "zip", "dict_itemiterator", "dict_reverseitemiterator", "odict_iterator", "itertools.zip_longest", "itertools.pairwise"].contains n && vs[0]? == some (rawInt _)) = true then _ else _) Q E s;rw [if_neg (by intro h; rw [hn, Bool.false_and] at h; cases h)];exact Qqw hQ))
def Itl(K:PySem.W.Frag)(a:Addr):It:=
 ⟨λi H=>∃xs x,j8 K H a xs/\xs[i]? = some x,λi H x H'=>H'=H/\∀xs,j8 K H a xs->xs[i]? = some x,λi H=>∃xs,j8 K H a xs/\xs.length<=i⟩
def Itt(K:PySem.W.Frag)(a:Addr):It:=
 ⟨λi H=>∃xs x,pO K H a xs/\xs[i]? = some x,λi H x H'=>H'=H/\∀xs,pO K H a xs->xs[i]? = some x,λi H=>∃xs,pO K H a xs/\xs.length<=i⟩
def Itr(lo:Int)(n:Nat):It:=⟨λi _=>i<n,λi H x H'=>H'=H/\x = .int (lo+i),λi _=>n<=i⟩
theorem Qf{P:Program}{w:World}{K:PySem.W.Frag}{tg:Expr}(a it:Addr):Turn P w K tg (Itl K a) [it] it (λi h=>h.IsListIter it a i) where
 mem:=by simp
 obj:=λi h st b hb=>by
  have e:b=it:=by simpa using hb
  subst e;obtain⟨o,e,c,d⟩:=st;exact⟨o,e,λv z=>by rw[d] at z;cases z⟩
 keep:=λi h h' st k=>st.at λo e=>k it (by simp) o e
 item:=by intro X hP hw hK hc i pins s σ H E I hf st hg;subst hP hw hK;obtain⟨xs,x,hq,hx⟩:=hg;obtain⟨its,rv,p,hz⟩:=I.list hq;obtain⟨u,hu,ru⟩:=rv.get hx;obtain⟨f0,f1,f2,f3,f4,f5⟩:=hf it (by simp);refine wpAny_pyNext_list_item st p.isList (x:=u) (by simpa using hu) λh' st' sb=>?_;have I1:Inv X pins σ H { s with heap:=h' }:=I.turned (t':=s.toks) (λb o hb e=>(sb.2 b hb).trans e) f0 f1 f3 f4 f5;obtain⟨o,e,c,d⟩:=id st';exact⟨u,rfl,Du (s:={ s with heap:=h' }) e c d (by decide) ⟨x,H,I1,ru,⟨rfl,λys hy=>by rw[I.Vu hy hq];exact hx⟩,st',λb hb=>(hf b hb).1⟩⟩
 done:=by intro X hP hw hK hc i pins s σ H E I hf st hg;subst hP hw hK;obtain⟨xs,hq,hx⟩:=hg;obtain⟨its,rv,p,hz⟩:=I.list hq;obtain⟨f0,f1,f2,f3,f4,f5⟩:=hf it (by simp);have hl:=rv.length;exact wpAny_pyNext_list_end (I.ok.hd hc) st p.isList (by simp;omega) λh' eb=>⟨rfl,I.turned (t':=s.toks) (λb o hb e=>eb b o hb e) f0 f1 f3 f4 f5⟩
 self:=λ_ _ _ _ _ st h=>wpAny_pyIter_listiter st h
theorem Ky{P:Program}{w:World}{K:PySem.W.Frag}{tg:Expr}(a it:Addr):Turn P w K tg (Itt K a) [it] it (λi h=>h.IsTupleIter it a i) where
 mem:=by simp
 obj:=λi h st b hb=>by
  have e:b=it:=by simpa using hb
  subst e;obtain⟨o,e,c,d⟩:=st;exact⟨o,e,λv z=>by rw[d] at z;cases z⟩
 keep:=λi h h' st k=>st.at λo e=>k it (by simp) o e
 item:=by intro X hP hw hK hc i pins s σ H E I hf st hg;subst hP hw hK;obtain⟨xs,x,hq,hx⟩:=hg;obtain⟨its,rv,p,hz⟩:=I.tuple hq;obtain⟨u,hu,ru⟩:=rv.get hx;obtain⟨f0,f1,f2,f3,f4,f5⟩:=hf it (by simp);refine wpAny_pyNext_tuple_item st (show s.heap.IsTuple a its.toArray from p) (x:=u) (by simpa using hu) λh' st' sb=>?_;have I1:Inv X pins σ H { s with heap:=h' }:=I.turned (t':=s.toks) (λb o hb e=>(sb.2 b hb).trans e) f0 f1 f3 f4 f5;obtain⟨o,e,c,d⟩:=id st';exact⟨u,rfl,Du (s:={ s with heap:=h' }) e c d (by decide) ⟨x,H,I1,ru,⟨rfl,λys hy=>by rw[I.Qg hy hq];exact hx⟩,st',λb hb=>(hf b hb).1⟩⟩
 done:=by intro X hP hw hK hc i pins s σ H E I hf st hg;subst hP hw hK;obtain⟨xs,hq,hx⟩:=hg;obtain⟨its,rv,p,hz⟩:=I.tuple hq;obtain⟨f0,f1,f2,f3,f4,f5⟩:=hf it (by simp);have hl:=rv.length;exact wpAny_pyNext_tuple_end (I.ok.hd hc) st (show s.heap.IsTuple a its.toArray from p) (by simp;omega) λh' eb=>⟨rfl,I.turned (t':=s.toks) (λb o hb e=>eb b o hb e) f0 f1 f3 f4 f5⟩
 self:=λ_ _ _ _ _ st h=>wpAny_pyIter_tupleiter st h
theorem Kz{P:Program}{w:World}{K:PySem.W.Frag}{tg:Expr}(it:Addr)(lo:Int)(n:Nat):Turn P w K tg (Itr lo n) [it] it (λi h=>IsRangeIter h it (lo+(i:Nat)*1) ((n:Int) - (i:Nat)) 1) where
 mem:=by simp
 obj:=λi h st b hb=>by
  have e:b=it:=by simpa using hb
  subst e;exact⟨_,st,λv z=>by
   have z':Data.fields _=Data.cell v:=z;cases z'⟩
 keep:=λi h h' st k=>k it (by simp) _ st
 item:=by intro X hP hw hK hc i pins s σ H E I hf st hg;subst hP hw hK;obtain⟨f0,f1,f2,f3,f4,f5⟩:=hf it (by simp);have W:=Walks.range (prog:=X.prog) (w:=X.w) (I.ok.hd hc) it lo 1 n;refine W.item i s _ _ hg st λv h' tk hv st' kk=>?_;obtain⟨t,rfl⟩:=hv;have I1:Inv X pins σ H { s with heap:=h',toks:=tk }:=I.turned (λb o hb e=>kk b o (by simpa using hb) e) f0 f1 f3 f4 f5;refine⟨_,rfl,Du (s:={ s with heap:=h',toks:=tk }) (n:="range_iterator") st' rfl rfl (by decide) ⟨.int (lo+i),H,I1,⟨t,?_⟩,⟨rfl,rfl⟩,st',λb hb=>(hf b hb).1⟩⟩;rw[Int.mul_one]
 done:=by intro X hP hw hK hc i pins s σ H E I hf st hg;subst hP hw hK;obtain⟨f0,f1,f2,f3,f4,f5⟩:=hf it (by simp);exact wpAny_pyNext_range_end (I.ok.hd hc) st (by have:n<=i:=hg;omega) λh' eb=>⟨rfl,I.turned (t':=s.toks) (λb o hb e=>eb b o hb e) f0 f1 f3 f4 f5⟩
 self:=λ_ _ _ _ _ st h=>wpAny_pyIter_rangeiter st h
section
variable{X:Cx}{tg:Expr}
def Ua{pins:List (Addr×Obj)}{σ:St}{H:Hp}{s:Shared}{R:It->Hp->Prop}{E:Value->Shared->Prop}{lo hi:Int}{t u v:Tok}{tk:Nat}(I:Inv X pins σ H s)(h1 : -(2^62)<=lo)(h2:lo<2^62)(h3 : -(2^62)<=hi)(h4:hi<2^62)
  (q:R (Itr lo (hi - lo).toNat) H):wpAny (model X.prog X.w) X.A (pyIter (.ref s.heap.objs.size)) (PIE X pins σ tg R) E { s with heap:=s.heap.push { cls:=.type "range",data:=.fields #[.int lo t,.int hi u,.int 1 v] },toks:=tk }:=by
 refine wpAny_pyIter_range (IsRange.new ..) (small_one h1 h2 h3 h4) ?_;have I1:Inv X pins σ H { s with heap:=s.heap.push { cls:=.type "range",data:=.fields #[.int lo t,.int hi u,.int 1 v] },toks:=tk }:=I.kept λb o e=>Qqz _ e;refine⟨(s.heap.push { cls:=.type "range",data:=.fields #[.int lo t,.int hi u,.int 1 v] }).objs.size,[(s.heap.push { cls:=.type "range",data:=.fields #[.int lo t,.int hi u,.int 1 v] }).objs.size],_,_,H,rfl,
  I1.kept (t':=tk) λb o e=>Qqz _ e,Kz _ lo (hi - lo).toNat,?_,λb hb=>?_,q⟩
 ·have e1:lo+((0:Nat):Int)*1=lo:=by simp
  have e2:(((hi - lo).toNat:Nat):Int) - ((0:Nat):Int)=Builtin.Range.rangeSize lo hi 1:=by rw[rangeSize_one];split<;>omega
  show IsRangeIter _ _ (lo+((0:Nat):Int)*1) ((((hi - lo).toNat:Nat):Int) - ((0:Nat):Int)) 1;rw[e1,e2];exact Qq6 _ rfl
 ·have e:b=(s.heap.push { cls:=.type "range",data:=.fields #[.int lo t,.int hi u,.int 1 v] }).objs.size:=by simpa using hb
  subst e;exact I1.aec (Qq2 _) (I1.hok.fresh (Qq2 _))
def agr(ta:TA):TI:=λσ H R=>ta σ H λvs H1=>∃j:Int,vs=[.int j]/\-(2^62)<=j/\j<2^62/\R (Itr 0 j.toNat) H1
def QS{a:Expr}{ta:TA}{p pos:Pos}(hg:Gl X "range")(hm:X.mg "range" = none)(ha:PA X [a] ta)(hs:starEach [a] X.env=[(false,eval a X.env)]:=by rfl):PI X tg (.Call (.Name "range" p) [a] [] pos) (agr ta):=by
 intro pins s σ H R I h;refine Call_ (zW I hg hm boot_range (PyProof.Rows.callWith_type1 (fK (ha pos pins s σ H _ I h) λus s1 ⟨vs,H1,I1,r1,q1⟩=>?_) hs rfl));obtain⟨j,e,q1,q2,q⟩:=q1;subst e;cases r1 with
 | cons r rr=>
  cases rr;obtain⟨t,rfl⟩:=r;exact call_range_1 (Ua I1 (by omega) (by omega) q1 q2 (by simpa using q))
def ahM(wi:TI)(g:TG)(tb:TS):TS:=λD σ H=>wi σ H λJ H1=>∃W:Nat->Nat->St->Hp->Prop,(∃m,W 0 m σ H1)/\∀i m σ H,W i m σ H->
 (J.stop i H/\D.nx σ H)\/(J.go i H/\∃N:St->Hp->Prop,(∀σ' H',N σ' H'->∃m',m'<m/\W (i+1) m' σ' H')/\∀x H',J.yld i H x H'->g x σ H' λσ2 H2=>tb { D with nx:=N,ct:=N,bk:=D.nx } σ2 H2)
def zF(fp:List Addr)(h:Heap):List (Addr×Obj):=fp.filterMap λb=>(h.get? b).map λo=>(b,o)
def o6{fp:List Addr}{h:Heap}{b:Addr}{o:Obj}(hb:b∈fp)(e:h.get? b=some o):(b,o)∈zF fp h:=List.mem_filterMap.mpr ⟨b,hb,by rw[e];rfl⟩
def Q3{fp:List Addr}{h:Heap}{p:Addr×Obj}(hp:p∈zF fp h):p.1∈fp/\h.get? p.1=some p.2:=by
 obtain⟨b,hb,e⟩:=List.mem_filterMap.mp hp;cases q:h.get? b with
 | none=>rw[q] at e;cases e
 | some o=>
  rw[q] at e;have e':(b,o)=p:=Qw9 e;subst e';exact⟨hb,q⟩
def Inv.pinned{pins:List (Addr×Obj)}{σ:St}{H:Hp}{s:Shared}{fp:List Addr}(I:Inv X pins σ H s)(hf:∀b∈fp,Bo X pins H b)(ho:∀b∈fp,∃o,s.heap.get? b=some o/\∀v,o.data ≠ .cell v):Inv X (pins++zF fp s.heap) σ H s:=
 I.Nz λp hp=>(Qw4.mp hp).elim (λz=>I.pin p (Qxy _ z)) λz=>by
  obtain⟨hb,e⟩:=Q3 z;obtain⟨f0,f1,f2,_⟩:=hf p.1 hb;obtain⟨o,e',d⟩:=ho p.1 hb;rw[e] at e';cases e';exact⟨e,f0,f1,f2,d⟩
def Inv.uA{pins pl:List (Addr×Obj)}{σ:St}{H:Hp}{s:Shared}(I:Inv X (pins++pl) σ H s):Inv X pins σ H s:=I.Nz λp hp=>I.pin p (Qxy _ (List.mem_append_left _ hp))
def acF{iter:Expr}{body:List Stmt}{wi:TI}{g:TG}{tb:TS}{pos:Pos}(hp:PassesOwn (model X.prog X.w) X.A X.env X.xe)(hc:X.calm=true)(hi:PI X tg iter wi)(hg:PG X tg g)(hb:Bm X body tb)
  (hs:∀x,foldedSetIterable iter X.env x=pure x:=by intro _;rfl):PS X (.For tg iter body [] pos) (ahM wi g tb):=by
 intro pins s σ H D I h;refine wpAny_For (fK (hi pins s σ H _ I h) λv s1 h1=>fK h1 λitv s2 h2=>?_) hs;obtain⟨it,fp,tn,J,H2,e,I2,T,st2,f2,W,⟨m0,w0⟩,turn⟩:=h2;subst e
 -- what stays true of the iterator's objects through the loop
 have stat:∀{H':Hp},(∀b∈fp,H' b=none)->∀b∈fp,Bo X pins H' b:=λhn b hb=>⟨hn b hb,(f2 b hb).2⟩;refine codeAny_forLoop_any (λn s'=>∃i σ' H',Inv X pins σ' H' s'/\tn i s'.heap/\(∀b∈fp,H' b=none)/\W i n σ' H') ?_ m0 ⟨0,σ,H2,I2,st2,λb hb=>(f2 b hb).1,w0⟩;rintro n s3 ⟨i,σ3,H3,I3,st3,fr3,w3⟩;rcases turn i n σ3 H3 w3 with ⟨stop,qn⟩|⟨go,N,hN,step⟩
 ·refine wpAny_passesOwn hp (fK (T.done X rfl rfl rfl hc i pins s3 σ3 H3 X.xe I3 (stat fr3) st3 stop) λr s4 ⟨hr,I4⟩=>?_);subst hr;exact wpAny_execs_nil ⟨σ3,H3,I4,qn⟩
 ·refine wpAny_passesOwn hp (fK (T.item X rfl rfl rfl hc i pins s3 σ3 H3 X.xe I3 (stat fr3) st3 go) λr s4 ⟨u,hr,h4⟩=>?_);subst hr;refine wpAny_passesOwn hp (fK h4 λ_ s5 ⟨x,H5,I5,r5,y5,st5,fr5⟩=>?_);have I5':=I5.pinned (stat fr5) (T.obj _ _ st5);refine wpAny_passesOwn hp (fK (hg _ s5 σ3 H5 x u _ I5' r5 (step x H5 y5)) λ_ s6 ⟨σ6,H6,I6,q6⟩=>?_);refine wpAny_passesOwn hp (fK (hb _ s6 σ6 H6 _ I6 q6) λf s7 q7=>?_);have again:∀{σ7:St} {H7:Hp},Inv X (pins++zF fp s5.heap) σ7 H7 s7->N σ7 H7->∃m,m<n/\∃i σ' H',Inv X pins σ' H' s7/\tn i s7.heap/\(∀b∈fp,H' b=none)/\W i m σ' H':=λ{σ7 H7} I7 n7=>by
   obtain⟨m',hm,w7⟩:=hN σ7 H7 n7;refine⟨m',hm,i+1,σ7,H7,I7.uA,T.keep _ _ _ st5 λb hb o e=>(I7.pin (b,o) (Qxy _ (Qxy _ (o6 hb e)))).1,λb hb=>?_,w7⟩;obtain⟨o,e,d⟩:=T.obj _ _ st5 b hb;exact(I7.pin (b,o) (Qxy _ (Qxy _ (o6 hb e)))).2.1
  cases f with
  | next=>obtain⟨σ7,H7,I7,n7⟩:=q7;exact again I7 n7
  | cont=>obtain⟨σ7,H7,I7,n7⟩:=q7;exact again I7 n7
  | brk=>obtain⟨σ7,H7,I7,q7⟩:=q7;exact⟨σ7,H7,I7.uA,q7⟩
  | ret v=>obtain⟨x7,σ7,H7,I7,r7,q7⟩:=q7;exact⟨x7,σ7,H7,I7.uA,r7,q7⟩
end
abbrev R2:=V->V->Hp->VK->Prop
def mG(X:Cx)(f:Value->Value->Sem Value)(r:R2):Prop:=
 ∀(pins:List (Addr×Obj)) (s:Shared) (σ:St) (H:Hp) (x y:V) (v u:Value) (Q:VK),Inv X pins σ H s->RelV x v->RelV y u->r x y H Q->
  wpAny (model X.prog X.w) X.A (f v u) (EP X pins σ Q) X.xe s
def UnR(X:Cx)(f:Value->Sem Value)(r:V->Hp->VK->Prop):Prop:=
 ∀(pins:List (Addr×Obj)) (s:Shared) (σ:St) (H:Hp) (x:V) (v:Value) (Q:VK),Inv X pins σ H s->RelV x v->r x H Q->
  wpAny (model X.prog X.w) X.A (f v) (EP X pins σ Q) X.xe s
def gQ(X:Cx)(f:Value)(r:List V->Hp->VK->Prop):Prop:=
 ∀(pins:List (Addr×Obj)) (s:Shared) (σ:St) (H:Hp) (xs:List V) (us:List Value) (Q:VK),Inv X pins σ H s->Vals xs us->r xs H Q->
  wpAny (model X.prog X.w) X.A (call f us) (EP X pins σ Q) X.xe s
def Xr(r:R2)(ta tb:TE):TE:=λσ H Q=>ta σ H λx H1=>tb σ H1 λy H2=>r x y H2 Q
def tUn(r:V->Hp->VK->Prop)(ta:TE):TE:=λσ H Q=>ta σ H λx H1=>r x H1 Q
def rI(C:Int->Int->Prop)(g:Int->Int->V):R2:=λx y H Q=>∃i j,x = .int i/\y = .int j/\C i j/\Q (g i j) H
def R7(g:Int->Int->V):R2:=λx y H Q=>∃i j,x = .int i/\y = .int j/\Q (g i j) H
def rU(g:Int->V):V->Hp->VK->Prop:=λx H Q=>∃i,x = .int i/\Q (g i) H
section
variable{X:Cx}{a b c:Expr}{ta tb tc:TE}{pos:Pos}
def aew(ha:PE X a ta)(hb:PE X b tb){pins:List (Addr×Obj)}{s:Shared}{σ:St}{H:Hp}{R:V->V->Hp->Prop}(I:Inv X pins σ H s)
  (h:ta σ H λx H1=>tb σ H1 λy H2=>R x y H2) {Q:Value->Shared->Prop} {f:Value->Value->Sem Value}
  (hf:∀v u s2 x y H2,Inv X pins σ H2 s2->RelV x v->RelV y u->R x y H2->wpAny (model X.prog X.w) X.A (f v u) Q X.xe s2) :
  wpAny (model X.prog X.w) X.A (eval a X.env) (λv s₁=>wpAny (model X.prog X.w) X.A (eval b X.env) (λu s₂=>wpAny (model X.prog X.w) X.A (f v u) Q X.xe s₂) X.xe s₁) X.xe s:=by
 refine fK (ha pins s σ H _ I h) λv s1 ⟨x,H1,I1,r1,q1⟩=>?_;refine fK (hb pins s1 σ H1 _ I1 q1) λu s2 ⟨y,H2,I2,r2,q2⟩=>?_;exact hf v u s2 x y H2 I2 r1 r2 q2
def U3{op:Operator}{r:R2}(ho:mG X (binaryOp op) r)(ha:PE X a ta)(hb:PE X b tb):PE X (.BinOp a op b pos) (Xr r ta tb):=by intro pins s σ H Q I h;exact wpAny_BinOp (aew ha hb I h λv u s2 x y H2 I2 rx ry q=>ho pins s2 σ H2 x y v u Q I2 rx ry q)
def afT{op:UnaryOp}{r:V->Hp->VK->Prop}(ho:UnR X (unaryOp op) r)(ha:PE X a ta):PE X (.UnaryOp op a pos) (tUn r ta):=by intro pins s σ H Q I h;exact UnaryOp_ (fK (ha pins s σ H _ I h) λv s1 ⟨x,H1,I1,r1,q1⟩=>ho pins s1 σ H1 x v Q I1 r1 q1)
def opI{f:Value->Value->Sem Value}{C:Int->Int->Prop}{g:Int->Int->Int}
  (rule:∀(i j:Int) (t u:Tok) (s:Shared) (Q:Value->Shared->Prop) (E:Value->Shared->Prop),C i j->Q (.int (g i j) s.toks) { s with toks:=s.toks+1 }->wpAny (model X.prog X.w) X.A (f (.int i t) (.int j u)) Q E s) :
  mG X f (rI C λi j=>.int (g i j)):=by
 intro pins s σ H x y v u Q I rx ry h;obtain⟨i,j,rfl,rfl,hc,q⟩:=h;obtain⟨t,rfl⟩:=rx;obtain⟨t',rfl⟩:=ry;exact rule i j t t' s _ _ hc ⟨.int (g i j),H,I.tok _,⟨_,rfl⟩,q⟩
def ade{f:Value->Value->Sem Value}{g:Int->Int->Int}
  (rule:∀(i j:Int) (t u:Tok) (s:Shared) (Q:Value->Shared->Prop) (E:Value->Shared->Prop),Q (.int (g i j) s.toks) { s with toks:=s.toks+1 }->wpAny (model X.prog X.w) X.A (f (.int i t) (.int j u)) Q E s) :
  mG X f (R7 λi j=>.int (g i j)):=by
 intro pins s σ H x y v u Q I rx ry h;obtain⟨i,j,rfl,rfl,q⟩:=h;obtain⟨t,rfl⟩:=rx;obtain⟨t',rfl⟩:=ry;exact rule i j t t' s _ _ ⟨.int (g i j),H,I.tok _,⟨_,rfl⟩,q⟩
def ahZ{f:Value->Value->Sem Value}{g:Int->Int->Bool}
  (rule:∀(i j:Int) (t u:Tok) (s:Shared) (Q:Value->Shared->Prop) (E:Value->Shared->Prop),Q (.bool (g i j)) s->wpAny (model X.prog X.w) X.A (f (.int i t) (.int j u)) Q E s) :
  mG X f (R7 λi j=>.bl (g i j)):=by
 intro pins s σ H x y v u Q I rx ry h;obtain⟨i,j,rfl,rfl,q⟩:=h;obtain⟨t,rfl⟩:=rx;obtain⟨t',rfl⟩:=ry;exact rule i j t t' s _ _ ⟨.bl (g i j),H,I,rfl,q⟩
def ag2(i j:Int):Prop:=0<j/\j<1073741824
def aav(i j:Int):Prop:=0<=j/\j<=1000000/\i.natAbs<2^64
def Kw(k:Nat):(0:Int)<=2^k:=by rw[two_pow_cast];exact Int.natCast_nonneg _
def adb:mG X (binaryOp .Add) (R7 λi j=>.int (i+j)):=ade λ_ _ _ _ _ _ _ q=>add_int q
def acY:mG X (binaryOp .Sub) (R7 λi j=>.int (i - j)):=ade λ_ _ _ _ _ _ _ q=>sub_int q
def ac3:mG X (binaryOp .Mod) (rI (λ_ j=>0<j) λi j=>.int (i % j)):=opI λi j _ _ _ _ _ hc q=>by
 have h1:(0:Int)<j:=hc;exact mod_int' (by omega) (by rw[Int.fmod_eq_emod_of_nonneg i (by omega)];exact q)
def ac1:mG X (binaryOp .Pow) (rI aav λi j=>.int (i^j.toNat)):=opI λ_ _ _ _ _ _ _ hc q=>pow_int_small hc.1 hc.2.1 hc.2.2 q
def ac0:mG X (binaryOp .LShift) (rI aav λi j=>.int (i*2^j.toNat)):=opI λ_ _ _ _ _ _ _ hc q=>lshift_int_small hc.1 hc.2.1 hc.2.2 q
def acZ:mG X (binaryOp .RShift) (rI (λ_ j=>0<=j) λi j=>.int (i / 2^j.toNat)):=opI λi j _ _ _ _ _ hc q=>
 rshift_int hc (by rw[Int.fdiv_eq_ediv_of_nonneg i (Kw _)];exact q)
def ada:mG X (binaryOp .BitAnd) (R7 λi j=>.int (Builtin.bitAnd i j)):=ade λ_ _ _ _ _ _ _ q=>and_int q
def unI{f:Value->Sem Value}{g:Int->Int}
  (rule:∀(i:Int) (t:Tok) (s:Shared) (Q:Value->Shared->Prop) (E:Value->Shared->Prop),Q (.int (g i) s.toks) { s with toks:=s.toks+1 }->wpAny (model X.prog X.w) X.A (f (.int i t)) Q E s) :
  UnR X f (rU λi=>.int (g i)):=by
 intro pins s σ H x v Q I rx h;obtain⟨i,rfl,q⟩:=h;obtain⟨t,rfl⟩:=rx;exact rule i t s _ _ ⟨.int (g i),H,I.tok _,⟨_,rfl⟩,q⟩
def abY:UnR X (unaryOp .USub) (rU λi=>.int (-i)):=unI λ_ _ _ _ _ q=>neg_int q
end
def aek{i j:Bool}:decide (V.bl i=V.bl j)=(i == j):=by rw[Qj6];simp
section
variable{X:Cx}{a b c:Expr}{ta tb tc:TE}{pos:Pos}
def ue{pins:List (Addr×Obj)}{σ:St}{H:Hp}{s:Shared}{Q:VK}{k k':Bool}(I:Inv X pins σ H s)(q:Q (.bl k) H)(e:k=k'):EP X pins σ Q (.bool k') s:=by subst e;exact⟨.bl k,H,I,rfl,q⟩
def afX:mG X (compareOp .Lt) (R7 λi j=>.bl (decide (i<j))):=ahZ λ_ _ _ _ _ _ _ q=>lt_int q
def QX:mG X (compareOp .Lt) (λx y H Q=>∃i j,x = .str i/\y = .str j/\Q (.bl (decide (i.cps.toList<j.cps.toList))) H):=by intro pins s σ H x y v u Q I rx ry h;obtain⟨i,j,rfl,rfl,q⟩:=h;obtain⟨t,rfl⟩:=rx;obtain⟨t',rfl⟩:=ry;exact lt_str (ue I q rfl)
def Q0:mG X (compareOp .In) (λx y H Q=>∃i j,x = .str i/\y = .str j/\Q (.bl (!(Builtin.Str.occurrences j i 0 j.length 1).isEmpty)) H):=by intro pins s σ H x y v u Q I rx ry h;obtain⟨i,j,rfl,rfl,q⟩:=h;obtain⟨t,rfl⟩:=rx;obtain⟨t',rfl⟩:=ry;exact in_str (ue I q rfl)
def ac5:mG X (compareOp .Is) (λx y H Q=>y = .non/\Q (.bl (decide (x = .non))) H):=by
 intro pins s σ H x y v u Q I rx ry h;obtain⟨rfl,q⟩:=h;cases ry;refine is_none_gen (ue I q ?_);cases x<;>first
  | (cases rx;rfl)
  | (obtain⟨t,rfl⟩:=rx;rfl)
def YG:mG X (compareOp .IsNot) (λx y H Q=>y = .non/\Q (.bl (!decide (x = .non))) H):=by
 intro pins s σ H x y v u Q I rx ry h;obtain⟨rfl,q⟩:=h;cases ry;refine isnot_none_gen (ue I q ?_);cases x<;>first
  | (cases rx;rfl)
  | (obtain⟨t,rfl⟩:=rx;rfl)
def FN:mG X (compareOp .NotIn) (λx y H Q=>∃i j,x = .str i/\y = .str j/\Q (.bl (!(!(Builtin.Str.occurrences j i 0 j.length 1).isEmpty))) H):=by intro pins s σ H x y v u Q I rx ry h;obtain⟨i,j,rfl,rfl,q⟩:=h;obtain⟨t,rfl⟩:=rx;obtain⟨t',rfl⟩:=ry;exact notIn_str (ue I q rfl)
def mG.or{f:Value->Value->Sem Value}{r r':R2}(h:mG X f r)(h':mG X f r'):mG X f (λx y H Q=>r x y H Q\/r' x y H Q):=by
 intro pins s σ H x y v u Q I rx ry q;rcases q with q|q
 ·exact h pins s σ H x y v u Q I rx ry q
 ·exact h' pins s σ H x y v u Q I rx ry q
def NQ{op:CmpOp}{r:R2}(ho:mG X (compareOp op) r)(ha:PE X a ta)(hb:PE X b tb)(hm:behindInMarks op b=false):PE X (.Compare a [op] [b] pos) (Xr r ta tb):=by intro pins s σ H Q I h;exact wpAny_Compare1 (aew ha hb I h λv u s2 x y H2 I2 rx ry q=>ho pins s2 σ H2 x y v u Q I2 rx ry q) hm
def afb(t:TE):TT:=λσ H Q=>t σ H λx H'=>∃k,x = .bl k/\Q k H'
def Ny{op:CmpOp}{r:R2}(ho:mG X (compareOp op) r)(ha:PE X a ta)(hb:PE X b tb)(hm:behindInMarks op b=false):PT X (.Compare a [op] [b] pos) (afb (Xr r ta tb)):=by
 intro pins s σ H Q I h;refine wpAny_isTrue_Compare1 (fK (ha pins s σ H _ I h) λv s1 ⟨x,H1,I1,r1,q1⟩=>fK (hb pins s1 σ H1 _ I1 q1) λu s2 ⟨y,H2,I2,r2,q2⟩=>
  fK (ho pins s2 σ H2 x y v u _ I2 r1 r2 q2) λc s3 ⟨z,H3,I3,r3,k,e,q3⟩=>?_) hm
 subst e;cases r3;exact Qj8 ⟨H3,I3,q3⟩
def adX{κ:Type}{kvs:List (κ×V)}{vs:List (κ×Value)}(r:KV kvs vs):(!vs.isEmpty) = !kvs.isEmpty:=by cases r<;>rfl
def adW{xs:List V}{its:List Value}(r:Vals xs its):(!its.toArray.isEmpty) = !xs.isEmpty:=by cases r<;>simp
def zU:(sizeLine:Nat)<2^63:=by rw[Qkq];decide
def Lj:mG X (binaryOp .Add) (λx y H Q=>∃i j,x = .str i/\y = .str j/\i.length+j.length<=sizeLine/\Q (.str (i++j)) H):=by intro pins s σ H x y v u Q I rx ry h;obtain⟨i,j,rfl,rfl,hz,q⟩:=h;obtain⟨t,rfl⟩:=rx;obtain⟨t',rfl⟩:=ry;exact add_str (λt' tk=>⟨.str (i++j),H,I.tok _,⟨_,rfl⟩,q⟩) hz
def vals1{x:V}{us:List Value}(r:Vals [x] us):∃u,us=[u]/\RelV x u:=by
 cases r with
 | cons r1 r2=>cases r2;exact⟨_,rfl,r1⟩
def vals2{x y:V}{us:List Value}(r:Vals [x,y] us):∃u w',us=[u,w']/\RelV x u/\RelV y w':=by
 cases r with
 | cons r1 r2=>
  cases r2 with
  | cons r3 r4=>cases r4;exact⟨_,_,rfl,r1,r3⟩
def RL(hc:X.calm=true):gQ X (.builtin "max") (λxs H Q=>∃i j,xs=[.int i,.int j]/\Q (.int (if j > i then j else i)) H):=by
 intro pins s σ H xs us Q I r h;obtain⟨i,j,rfl,q⟩:=h;obtain⟨u,w',rfl,⟨t,rfl⟩,⟨t',rfl⟩⟩:=vals2 r;refine max_two_ints (I.ok.hd hc) λh' tk k=>⟨_,H,I.kept k,?_,q⟩;by_cases hj:j > i
 ·rw[if_pos hj,if_pos hj];exact⟨_,rfl⟩
 ·rw[if_neg hj,if_neg hj];exact⟨_,rfl⟩
def RK(hc:X.calm=true):gQ X (.builtin "min") (λxs H Q=>∃i j,xs=[.int i,.int j]/\Q (.int (if j<i then j else i)) H):=by
 intro pins s σ H xs us Q I r h;obtain⟨i,j,rfl,q⟩:=h;obtain⟨u,w',rfl,⟨t,rfl⟩,⟨t',rfl⟩⟩:=vals2 r;refine min_two_ints (I.ok.hd hc) λh' tk k=>⟨_,H,I.kept k,?_,q⟩;by_cases hj:j<i
 ·rw[if_pos hj,if_pos hj];exact⟨_,rfl⟩
 ·rw[if_neg hj,if_neg hj];exact⟨_,rfl⟩
def ag0(K:PySem.W.Frag)(x:V)(H:Hp)(n:Nat):Prop:=
 match x with
 | .str y=>y.length<=sizeLine/\n=y.length
 | .byt y=>y.size<=sizeLine/\n=y.size
 | .ref p=>(∃xs,j8 K H p xs/\n=xs.length)\/∃xs,pO K H p xs/\n=xs.length
 | _=>False
def Ws:gQ X (.builtin "len") (λxs H Q=>∃x n,xs=[x]/\ag0 X.K x H n/\Q (.int n) H):=by
 intro pins s σ H xs us Q I r h;obtain⟨x,n,rfl,e,q⟩:=h;obtain⟨u,rfl,rx⟩:=vals1 r;have hl:=zU;have hs:sizeLine=16777216:=Qkq;cases x with
 | str y=>
  obtain⟨t,rfl⟩:=rx;obtain⟨hy,e'⟩:y.length<=sizeLine/\n=y.length:=e;subst e';exact len_str (by omega) ⟨.int _,H,I.tok _,⟨_,rfl⟩,q⟩
 | byt y=>
  obtain⟨t,rfl⟩:=rx;obtain⟨hy,e'⟩:y.size<=sizeLine/\n=y.size:=e;subst e';exact PySem.W.len_bytes (by omega) ⟨.int _,H,I.tok _,⟨_,rfl⟩,q⟩
 | ref p=>
  cases rx;have e':(∃xs,j8 X.K H p xs/\n=xs.length)\/∃xs,pO X.K H p xs/\n=xs.length:=e;rcases e' with ⟨xs,hx,e'⟩|⟨xs,hx,e'⟩
  ·subst e';obtain⟨its,r',pl,hz⟩:=I.list hx;have hlen:=r'.length;exact Calls.call_len_list pl.isList (by simp only[Qq4];omega) ⟨.int xs.length,H,I.tok _,⟨_,by simp only[Qq4];rw[hlen]⟩,q⟩
  ·subst e';obtain⟨its,r',pl,hz⟩:=I.tuple hx;have hlen:=r'.length;exact len_tuple pl (by simp only[Qq4];omega) ⟨.int xs.length,H,I.tok _,⟨_,by simp only[Qq4];rw[hlen]⟩,q⟩
 | _=>exact(show False from e).elim
def JM:gQ X (.builtin "divmod") (λxs H Q=>∃i j,xs=[.int i,.int j]/\ag2 i j/\∀p,H p=none->Q (.ref p) (upd H p (.tup [.int (i / j),.int (i % j)]))):=by intro pins s σ H xs us Q I r h;obtain⟨i,j,rfl,⟨h1,h2⟩,q⟩:=h;obtain⟨u,w',rfl,⟨t,rfl⟩,⟨t',rfl⟩⟩:=vals2 r;refine divmod_int (by omega) ?_ (.inl (PyProof.noPylong_small (by omega)));rw[Int.fdiv_eq_ediv_of_nonneg i (by omega),Int.fmod_eq_emod_of_nonneg i (by omega)];have hn:H s.heap.objs.size=none:=I.hok.fresh (Qq2 _);refine⟨.ref s.heap.objs.size,_,?_,rfl,q _ hn⟩;refine I.laid (λb o e=>Qqz _ e) (Qq2 _) ⟨by simp only[Qq0,Qz8];rw[Qkq];decide,[.int (i / j) s.toks,.int (i % j) (s.toks+1)],.cons ⟨_,rfl⟩ (.cons ⟨_,rfl⟩ .nil),?_⟩;exact⟨_,Qq6 s.heap rfl,rfl,⟨0,rfl⟩,rfl⟩
end
def Cr.some_of{v:V}{o:Option Value}(r:Cr (some v) o):∃u,o=some u/\RelV v u:=by
 cases o with
 | none=>exact(show False from r).elim
 | some u=>exact⟨u,rfl,r⟩
section
variable{X:Cx}{pins:List (Addr×Obj)}{σ:St}{H:Hp}{s:Shared}{a C dx:Addr}{fs:List (Str×V)}{f:Str}{v:V}{A:Around}{E:Value->Shared->Prop}
def aad{prog:Program}{w:World}{env:Env}{e:Expr}{f:Str}{pos:Pos}{s:Shared}{Q:Value->Shared->Prop}(hb:attributeBase e f env (eval e env)=eval e env)
  (h:wpAny (model prog w) A (eval e env) (λo s₁=>wpAny (model prog w) A (getAttr o f true) Q E s₁) E s):wpAny (model prog w) A (eval (.Attribute e f pos) env) Q E s:=
 Attribute_any_ h (by rw[arm_eval_Attribute,hb])
end
structure gq(k:Nat)(A:Around):Prop where
 hd:A.handled=none
 dp:A.depth+3*k+5<recursionLimit
 un:A.units+16*k+200<cLine
def gq.mono{j k:Nat}{A:Around}(r:gq k A)(h:j<=k):gq j A:=⟨r.hd,by have:=r.dp;omega,by have:=r.un;omega⟩
def gq.deeper{k:Nat}{A:Around}(r:gq (k+1) A)(env:Env):gq k (A.deeper env):=
 ⟨r.hd,by have:=r.dp;show A.depth+1+3*k+5<_;omega,by have:=r.un;show A.units+3+16*k+200<_;omega⟩
def Lx{A:Around}{C:Addr}{us:List Value}{kw:List (Str×Value)}:(A.under (.builtin "type.__call__" ⟨.ref C::us,kw⟩)).depth=A.depth+1:=by first|rfl|simp[Around.under,Code.weight,Code.isCreation,Code.isGuard,Code.isCaller,Code.frames,Code.isFrame,guardIds]
def Lw{A:Around}{C:Addr}{us:List Value}{kw:List (Str×Value)}:(A.under (.builtin "type.__call__" ⟨.ref C::us,kw⟩)).units=A.units+1:=by first|rfl|simp[Around.under,Code.cUnits,Code.frames,Code.isFrame]
def gq.make{k:Nat}{A:Around}(r:gq (k+1) A)(C:Addr)(us:List Value)(kw:List (Str×Value)):gq k (A.under (.builtin "type.__call__" ⟨.ref C::us,kw⟩)):=
 ⟨r.hd,by have:=r.dp;rw[Lx];omega,by have:=r.un;rw[Lw];omega⟩
def gq.depth{k:Nat}{A:Around}(r:gq k A):A.depth<recursionLimit:=by have:=r.dp;omega
def gq.units{k:Nat}{A:Around}(r:gq k A):A.units+64<cLine:=by have:=r.un;omega
def ahI:TA:=λ_ H Q=>Q [] H
def aaH(ta:TE)(tr:TA):TA:=λσ H Q=>ta σ H λx H1=>tr σ H1 λxs H2=>Q (x::xs) H2
section
variable{X:Cx}{e:Expr}{es:List Expr}{te:TE}{t:TA}{pos:Pos}
def iU:PA X [] ahI:=λ_ _ _ _ H Q I h=>Calls.spliced_nil ⟨[],H,I,.nil,h⟩
def dJ(ha:PE X e te)(hr:PA X es t)(hs:starEach (e::es) X.env=(false,eval e X.env)::starEach es X.env:=by rfl):PA X (e::es) (aaH te t):=by intro pos pins s σ H Q I h;rw[hs];show wpAny _ _ (spliced ((false,eval e X.env)::backTo pos (starEach es X.env))) _ _ s;refine Calls.spliced_cons (fK (ha pins s σ H _ I h) λu s1 ⟨x,H1,I1,r1,q1⟩=>?_);exact fK (hr pos pins s1 σ H1 _ I1 q1) λus s2 ⟨xs,H2,I2,r2,q2⟩=>⟨x::xs,H2,I2,.cons r1 r2,q2⟩
def ahD(t:TA):TE:=λσ H Q=>t σ H λxs H1=>xs.length<=sizeLine/\∀p,H1 p=none->Q (.ref p) (upd H1 p (.tup xs))
def afi(t:TA):TE:=λσ H Q=>t σ H λxs H1=>xs.length<=sizeLine/\∀p,H1 p=none->Q (.ref p) (upd H1 p (.lst xs))
def acN{x1}(h:PA X es t):PE X (.Tuple es x1 pos) (ahD t):=by intro pins s σ H Q I hq;refine wpAny_Tuple_spliced (fK (h pos pins s σ H _ I hq) λus s1 ⟨xs,H1,I1,r,z,q⟩=>⟨by rw[<-r.length];exact z,?_⟩);have hf:H1 s1.heap.objs.size=none:=I1.hok.fresh (Qq2 _);refine⟨.ref s1.heap.objs.size,upd H1 s1.heap.objs.size (.tup xs),I1.laid (t':=s1.toks) (λb u e=>Qqz _ e) (Qq2 _) ?_,rfl,q _ hf⟩;exact⟨z,us,r,Cq.new _ _⟩
def acS(h:PA X es t):PE X (.List es pos) (afi t):=by intro pins s σ H Q I hq;refine wpAny_List_spliced (fK (h pos pins s σ H _ I hq) λus s1 ⟨xs,H1,I1,r,z,q⟩=>⟨by rw[<-r.length];exact z,?_⟩);have hf:H1 s1.heap.objs.size=none:=I1.hok.fresh (Qq2 _);refine⟨.ref s1.heap.objs.size,upd H1 s1.heap.objs.size (.lst xs),I1.laid (t':=s1.toks) (λb u e=>Qqz _ e) (Qq2 _) ?_,rfl,q _ hf⟩;exact⟨z,us,0,r,Qq6 _ rfl⟩
end
abbrev Sp:=List V->Hp->VK->XK->Prop
abbrev Xf:=List Env->Hp->Shared->XK->Value->Shared->Prop
structure M3(P:Program)(w:World)(K:PySem.W.Frag)(mg:Str->Option Value)(base:Heap)(A:Around)(outer:List Env)(s:Shared)(H:Hp):Prop where
 frames:A.frames=some outer
 mod:Mod K mg base
 bs:∀b o,base.get? b=some o->s.heap.get? b=some o/\H b=none
 W6:base.objs.size<=s.heap.objs.size
 vp:s.heap.FunFrames base outer
 frf:∀b∈frs outer,H b=none
 hok:pG P w H s.heap
 bare:AllBare s.gens
def CE(outer:List Env)(P:Program)(w:World)(H:Hp)(s:Shared)(Q:VK)(u:Value)(s':Shared):Prop:=
 ∃v H',s'.os=s.os/\AllBare s'.gens/\Un (frs outer) [] H H' s.heap s'.heap/\pG P w H' s'.heap/\RelV v u/\Q v H'
def CR(CX:Xf)(outer:List Env)(P:Program)(w:World)(H:Hp)(s:Shared)(Q:VK)(E:XK)(r:Result)(s':Shared):Prop:=
 match r with
 | .ok (.ret u)=>CE outer P w H s Q u s'
 | .ok _=>False
 | .error e=>CX outer H s E e s'
structure mJ(P:Program)(w:World)(K:PySem.W.Frag)(mg:Str->Option Value)(base:Heap)(CX:Xf)(k:Nat)(f:Addr)(fd:FuncData)(ps:List Str)(sp:Sp):Prop where
 len:∀vs H Q E,sp vs H Q E->vs.length=ps.length
 run:∀(A:Around) (outer:List Env) (s:Shared) (H:Hp) (args:Args) (us:List Value) (vs:List V) (Q:VK) (E:XK),gq k A->M3 P w K mg base A outer s H->BindsTo s fd args (ps.zip us)->Vals vs us->sp vs H Q E->
  codeAny (model P w) A (.call (.ref f) args) (CR CX outer P w H s Q E) s
theorem M3.make{P:Program}{w:World}{K:PySem.W.Frag}{mg:Str->Option Value}{base:Heap}{A:Around}{outer:List Env}{s:Shared}{H:Hp}(e:M3 P w K mg base A outer s H)(C:Addr)(us:List Value)(kw:List (Str×Value)) :
  M3 P w K mg base (A.under (.builtin "type.__call__" ⟨.ref C::us,kw⟩)) outer s H:=⟨by first|exact e.frames|(simpa[Around.under,Code.envs,Code.isFrame,pushEnvs] using e.frames),e.mod,e.bs,e.W6,e.vp,e.frf,e.hok,e.bare⟩
section
variable{X:Cx}{pins:List (Addr×Obj)}{σ:St}{H:Hp}{s s':Shared}
def Inv.env0(I:Inv X pins σ H s):M3 X.prog X.w X.K X.mg X.base X.A X.stack s H:=
 ⟨I.ok.frames,I.ok.mod,I.bs,Qqj I.ok.W6 I.sz,I.stack,I.Er,I.hok,I.bare⟩
def Inv.after{Q:VK}{u:Value}(I:Inv X pins σ H s)(h:CE X.stack X.prog X.w H s Q u s'):EP X pins σ Q u s':=by obtain⟨v,H',os,bare,un,hok,r,q⟩:=h;obtain⟨hh,g,d,t,os'⟩:=s';obtain rfl:os'=s.os:=os;exact⟨v,H',I.call (h':=hh) (g':=g) (d':=d) (t':=t) (ch:=[]) un hok bare (λb z=>absurd z (by simp)),r,q⟩
end
def afl(sp:Sp)(dvs:List V)(E:XK)(t:TA):TE:=λσ H Q=>t σ H λvs H1=>sp (vs++dvs) H1 Q E
def Binds(K:PySem.W.Frag)(fd:FuncData)(ps:List Str)(ds:List Value):Prop:=
 ∀(s:Shared) (us:List Value),K.In s.heap->(us++ds).length=ps.length->BindsTo s fd ⟨us,[]⟩ (ps.zip (us++ds))
theorem Binds.all{K:PySem.W.Frag}{fd:FuncData}{ps:List Str}(h:∀us:List Value,us.length=ps.length->bindArgs fd ⟨us,[]⟩=pure (ps.zip us)):Binds K fd ps []:=λs us _ hl=>by
 rw[Qxj] at hl ⊢;exact .of_eq (h us hl)
def Passes(CX:Xf)(X:Cx)(E:XK):Prop:=∀(pins:List (Addr×Obj)) (σ:St) (H:Hp) (s:Shared) (e:Value) (s':Shared),Inv X pins σ H s->CX X.stack H s E e s'->X.xe e s'
section
variable{X:Cx}{CX:Xf}{k:Nat}{f C:Addr}{fd:FuncData}{ps:List Str}{sp:Sp}{dvs:List V}{ds:List Value}{E:XK}{x m:Str}{p pos apos:Pos}{e o:Expr}{es:List Expr}{ta:TE}{t:TA}
def acb{pins:List (Addr×Obj)}{σ:St}{H:Hp}{s:Shared}{Q:VK}{us:List Value}{vs:List V}(F:mJ X.prog X.w X.K X.mg X.base CX k f fd ps sp)(hr:gq k X.A)(hb:Binds X.K fd ps ds)(hd:Vals dvs ds)(hx:Passes CX X E)
  (I:Inv X pins σ H s) (r:Vals vs us) (h:sp (vs++dvs) H Q E):wpAny (model X.prog X.w) X.A (call (.ref f) us) (EP X pins σ Q) X.xe s:=by
 have r2:Vals (vs++dvs) (us++ds):=r.append hd;have hl:(us++ds).length=ps.length:=by rw[<-r2.length];exact F.len _ _ _ _ h
 refine wpAny_call (Qkj (F.run X.A X.stack s H ⟨us,[]⟩ (us++ds) (vs++dvs) Q E hr I.env0 (hb s us I.Jd hl) r2 h) λr s' hq=>?_);cases r with
 | error e=>exact hx pins σ H s e s' I hq
 | ok fl=>
  cases fl with
  | ret u=>exact I.after hq
  | next=>exact False.elim hq
  | brk=>exact False.elim hq
  | cont=>exact False.elim hq
def Fy(F:mJ X.prog X.w X.K X.mg X.base CX k f fd ps sp)(hr:gq k X.A)(hg:Gl X x)(hm:X.mg x=some (.ref f))(hk:PySem.W.keepIn X.K (.ref f)=true)(hb:Binds X.K fd ps ds)(hd:Vals dvs ds)(hx:Passes CX X E)
  (ha:PA X (e::es) t) (hdb:jy x:=by decide) (he:starEach (e::es) X.env=(false,eval e X.env)::starEach es X.env:=by rfl) (hpl:(backTo pos (starEach es X.env)).any (·.1)=false:=by rfl) :
  PE X (.Call (.Name x p) (e::es) [] pos) (afl sp dvs E t):=by
 intro pins s σ H Q I h;refine wpAny_Call_Name_kw (uU I hg hm ?_ hdb);refine PySem.W.callWith_K (h₀:=X.base) I.ok.mod.J2 hk (fK (ha pos pins s σ H _ I h) λus s1 ⟨vs,H1,I1,r,q⟩=>⟨I1.Jd,?_⟩) he hpl;exact acb F hr hb hd hx I1 r q
end
structure bH(N P:List Str)(sc:Scope):Prop where
 kind:sc.kind = .function
 co:sc.isCoroutine=false
 gen:sc.isGenerator=false
 nd:N.Nodup
 pre:N.take P.length=P
 par:∀x∈P,sc.names.lookup x=some .local\/sc.names.lookup x=some .cell
 adw:∀y∈sc.names,y.2 ≠ .free
theorem DQ{kindOf:Str->Option NameKind}{x:Str}:∀{binds:List (Str×Value)} {m:Str->Option Value},(∀v,(x,v) ∉ binds)->bindL kindOf binds m x=m x
 | [],_,_=>rfl
 | (n,v)::r,m,h=>by
  unfold bindL;rw[DQ λw hw=>h w (Qqy _ hw)];split
  ·have:x≠n:=by rintro rfl;exact h v Qqv
   simp[this]
  ·rfl
theorem DW{kindOf:Str->Option NameKind}{x:Str}:∀{binds:List (Str×Value)} {m:Str->Option Value},(∀v,(x,v) ∉ binds)->bindC kindOf binds m x=m x
 | [],_,_=>rfl
 | (n,v)::r,m,h=>by
  unfold bindC;rw[DW λw hw=>h w (Qqy _ hw)];split
  ·rfl
  ·have:x≠n:=by rintro rfl;exact h v Qqv
   simp[this]
theorem DR{kindOf:Str->Option NameKind}{x:Str}{v:Value}:∀{P:List Str} {vs:List Value} {i:Nat} {m:Str->Option Value},P.Nodup->P[i]? = some x->vs[i]? = some v->kindOf x=some .local->
  bindL kindOf (P.zip vs) m x=some v
 | [],_,_,_,_,h,_,_=>by simp at h
 | _::_,[],_,_,_,_,h,_=>by simp at h
 | p::P,w::vs,0,m,nd,h1,h2,hk=>by
  simp at h1 h2;subst h1;subst h2;show bindL kindOf ((p,w)::P.zip vs) m p=_;unfold bindL;rw[DQ λv hv=>(Qj3.mp nd).1 (List.of_mem_zip hv).1,if_pos hk];simp
 | p::P,w::vs,i+1,m,nd,h1,h2,hk=>by
  show bindL kindOf ((p,w)::P.zip vs) m x=_;unfold bindL;exact DR (i:=i) (Qj3.mp nd).2 (by simpa using h1) (by simpa using h2) hk
theorem DX{kindOf:Str->Option NameKind}{x:Str}{v:Value}:∀{P:List Str} {vs:List Value} {i:Nat} {m:Str->Option Value},P.Nodup->P[i]? = some x->vs[i]? = some v->kindOf x≠some .local->
  bindC kindOf (P.zip vs) m x=some v
 | [],_,_,_,_,h,_,_=>by simp at h
 | _::_,[],_,_,_,_,h,_=>by simp at h
 | p::P,w::vs,0,m,nd,h1,h2,hk=>by
  simp at h1 h2;subst h1;subst h2;show bindC kindOf ((p,w)::P.zip vs) m p=_;unfold bindC;rw[DW λv hv=>(Qj3.mp nd).1 (List.of_mem_zip hv).1,if_neg hk];simp
 | p::P,w::vs,i+1,m,nd,h1,h2,hk=>by
  show bindC kindOf ((p,w)::P.zip vs) m x=_;unfold bindC;exact DX (i:=i) (Qj3.mp nd).2 (by simpa using h1) (by simpa using h2) hk
def start(N:List Str)(vs:List V):St:=vs.map some++List.replicate (N.length - vs.length) none
def Gs(CX:Xf)(P:Program)(w:World)(K:PySem.W.Frag)(mg:Str->Option Value)(base:Heap)(N:List Str)(qual:Str)(scope:Scope)(f:Addr)(cd:Value)(A:Around)(outer:List Env)(s:Shared)(H:Hp)(E:XK):Cx where
 prog:=P
 w:=w
 K:=K
 mg:=mg
 base:=base
 A:=A.deeper (envOfC qual scope s.heap.objs.size f cd)
 N:=N
 s₀:=s
 H₀:=H
 env:=envOfC qual scope s.heap.objs.size f cd
 outer:=outer
 stack:=envOfC qual scope s.heap.objs.size f cd::outer
 ex:=[]
 calm:=true
 fn:=λ_=>true
 pn:=[]
 xe:=λe s'=>wpAny (model P w) (A.deeper (envOfC qual scope s.heap.objs.size f cd)) (leaving (envOfC qual scope s.heap.objs.size f cd) e) (λ_ s''=>CX outer H s E e s'') (λe' s''=>CX outer H s E e' s'') s'
def Ba{sc:Scope}{n:Nat}{x:Str}(h:sc.names.lookup x=some .cell):∃c,(cellsFrom n sc.names []).lookup x=some c:=by have q:=PySem.W.cellsFrom_some sc.names n [] (.inl h);exact Qzw.mp q
theorem Rg{CX:Xf}{P:Program}{w:World}{K:PySem.W.Frag}{mg:Str->Option Value}{base:Heap}{N ps:List Str}{qual:Str}{scope:Scope}{f:Addr}{cd:Value}{A:Around}{outer:List Env}{s s1:Shared}{H:Hp}{E:XK}{us:List Value}{vs:List V}
  (S:bH N ps scope) (hd:A.handled=none) (e0:M3 P w K mg base A outer s H) (hl:vs.length=ps.length) (r:Vals vs us)
  (x:InCallC s s.heap.objs.size (bindL (envOfC qual scope s.heap.objs.size f cd).kindOf (ps.zip us) λ_=>none) (cellsFrom (s.heap.objs.size+1) scope.names []) (bindC (envOfC qual scope s.heap.objs.size f cd).kindOf (ps.zip us) λ_=>none) s1) :
  Inv (Gs CX P w K mg base N qual scope f cd A outer s H E) [] (start N vs) H s1:=by
 have hpl:ps.length<=N.length:=by have:=Qz0 List.length S.pre;rw[Qx9] at this;omega
 obtain⟨h1,tk,rfl,hk⟩:=x.done;have noA:∀b:Addr,b ∉ (Gs CX P w K mg base N qual scope f cd A outer s H E).ex:=λb z=>absurd (show b∈([]:List Addr) from z) (by simp);refine⟨⟨e0.mod,S.kind,rfl,rfl,Qq2 _,λy z c h1 h2=>?_,λy hy=>?_,λy c _ h=>?_,λ_=>hd,Around.frames_deeper e0.frames,.inr ⟨rfl,rfl⟩,λb z=>absurd z (noA b),e0.bs,e0.W6,λb _ _=>noA b,λb z=>absurd z (noA b),e0.vp,e0.frf⟩,
  rfl,e0.bare,Un.kept hk,⟨_,x.toInCall.ns,λi y v h1 h2 h3=>?_⟩,λy c h=>⟨_,x.cell y c h⟩,e0.hok.fresh (Qq2 _),λy c h=>?_,λp hp=>absurd (show p∈([]:List (Addr×Obj)) from hp) (by simp),e0.hok.kept hk,?_⟩
 ·exact name_of_addr x.apart (Qj9 h1) (Qj9 h2)
 ·have hy:scope.names.lookup y=some .cell\/scope.names.lookup y=some .free:=hy;rcases hy with hy|hy
  ·exact Ba hy
  ·exact absurd rfl (S.adw _ (Qj9 hy))
 ·exact Qj0 (x.above y c (Qj9 h))
 ·have hi:i<vs.length:=by
   unfold start at h2;by_cases hi:i<vs.length
   ·exact hi
   ·rw[Qx7 (by simpa using hi)] at h2;rw[Qz2] at h2;split at h2<;>cases h2
  have ha:vs[i]? = some v:=by
   unfold start at h2;rw[Qw7 (by simpa using hi),Qx2] at h2;cases e:vs[i]? with
   | none=>rw[e] at h2;cases h2
   | some a=>rw[e] at h2;cases h2;rfl
  obtain⟨u,hu,rv⟩:=r.get ha;have hp:ps[i]? = some y:=by rw[<-S.pre,Qz9 (by omega)];exact h1
  have ndP:ps.Nodup:=by rw[<-S.pre];exact S.nd.sublist (List.take_sublist _ _)
  refine⟨u,rv,?_⟩;rcases S.par y (Qj1 hp) with k|k
  ·exact .inl ⟨k,DR ndP hp hu k⟩
  ·obtain⟨c,e⟩:=Ba (n:=s.heap.objs.size+1) k;refine .inr ⟨.inl k,c,e,?_⟩;have q:=x.cell y c e;rw[DX ndP hp hu (by show scope.names.lookup y≠_;rw[k];decide)] at q;exact q
 ·exact .inl (e0.hok.fresh (Qj0 (x.above y c (Qj9 h))))
 ·unfold start;show _=N.length;rw[Qqq,Qqk,Qzx];omega
theorem abi{CX:Xf}{P:Program}{w:World}{K:PySem.W.Frag}{mg:Str->Option Value}{base:Heap}{k:Nat}{f:Addr}{name qual:Str}{params:Arguments}{body:List Stmt}{scope:Scope}{dV kV doc pm cdv ct oc:Value}{an od:Option Addr}
  {osl:Array (Option Value)} {N ps:List Str} {sp:Sp} (lk:K.lookup f=some ⟨oc,od,.func (PySem.W.fnOf name qual params body scope dV kV doc pm an cdv ct),osl⟩) (hcd:PySem.W.codeIn K cdv qual=true) (S:bH N ps scope)
  (len:∀vs H Q E,sp vs H Q E->vs.length=ps.length)
  (hbody:∀(A:Around) (outer:List Env) (s:Shared) (H:Hp) (vs:List V) (Q:VK) (E:XK),gq k (A.deeper (envOfC qual scope s.heap.objs.size f cdv))->sp vs H Q E->
   ∃t,Bm (Gs CX P w K mg base N qual scope f cdv A outer s H E) body t/\t { nx:=λ_ H'=>Q .non H',rt:=Q } (start N vs) H) :
  mJ P w K mg base CX (k+1) f (PySem.W.fnOf name qual params body scope dV kV doc pm an cdv ct) ps sp:=by
 refine⟨len,λA outer s H args us vs Q E hr e0 hb r hsp=>?_⟩;have hl:=len _ _ _ _ hsp;have KX:K.In s.heap:=e0.mod.J2.keeps λb o e=>(e0.bs b o e).1;have lim:s.heap.NoLimit:=e0.mod.nolimit.keeps λb o e=>(e0.bs b o e).1;have hkind:∀y∈ps.zip us,scope.names.lookup y.1=some .local\/(scope.names.lookup y.1=some .cell/\((cellsFrom (s.heap.objs.size+1) scope.names []).lookup y.1).isSome=true):=λ⟨n,v⟩ hy=>by
  rcases S.par n (List.of_mem_zip hy).1 with q|q
  ·exact .inl q
  ·exact .inr ⟨q,PySem.W.cellsFrom_some _ _ _ (.inl q)⟩
 refine codeAny_call_function hr.depth (KX _ _ lk) rfl S.co S.gen rfl (PySem.W.codeRec_of KX hcd) (hb _ _ _ _ ?_);refine wpAny_newFunctionEnv_cells S.kind hkind λenv he s1 x=>?_;subst he;refine⟨lim.keeps x.toInCall.keep,codeAny_func ?_⟩;obtain⟨t,ht,hq⟩:=hbody A outer s H vs Q E (hr.deeper _) hsp;have I:Inv (Gs CX P w K mg base N qual scope f cdv A outer s H E) [] (start N vs) H s1:=Rg S hr.hd e0 hl r x;refine Qxx (ht [] s1 (start N vs) H _ I hq) (λfl s' hs=>?_) λe s' hs=>hs;have fin:∀{σ':St} {H':Hp} {v:V} {u:Value},Inv (Gs CX P w K mg base N qual scope f cdv A outer s H E) [] σ' H' s'->RelV v u->Q v H'->CE outer P w H s Q u s':=
  λ{σ' H' v u} J rv q=>⟨v,H',J.os,J.bare,J.base,J.hok,rv,q⟩
 cases fl with
 | ret u=>
  obtain⟨v,σ',H',J,rv,q⟩:=hs;exact fin J rv q
 | next=>
  obtain⟨σ',H',J,q⟩:=hs;exact fin (v:=V.non) (u:=Value.none) J rfl q
 | brk=>
  obtain⟨_,_,_,q⟩:=hs;exact False.elim q
 | cont=>
  obtain⟨_,_,_,q⟩:=hs;exact False.elim q
section
variable{X:Cx}{x:Str}{p pos:Pos}{e:Expr}{es:List Expr}{t:TA}{id T:String}{r:List V->Hp->VK->Prop}
def tCB(r:List V->Hp->VK->Prop)(t:TA):TE:=λσ H Q=>t σ H λvs H1=>r vs H1 Q
def qC(hc:gQ X (.builtin id) r)(hg:Gl X x)(hm:X.mg x=none)(hv:bootBuiltins x=some (.builtin id))(ha:PA X (e::es) t)(hn:x ≠ "__name__":=by decide)(hdb:jy x:=by decide)
  (he:starEach (e::es) X.env=(false,eval e X.env)::starEach es X.env:=by rfl) (hpl:(backTo pos (starEach es X.env)).any (·.1)=false:=by rfl):PE X (.Call (.Name x p) (e::es) [] pos) (tCB r t):=by
 intro pins s σ H Q I h;refine wpAny_Call_Name_kw (zW I hg hm hv ?_ hn hdb);exact PyProof.Rows.callWith_builtin1 (fK (ha pos pins s σ H _ I h) λus s1 ⟨vs,H1,I1,r1,q1⟩=>hc pins s1 σ H1 vs us Q I1 r1 q1) he hpl
def Df(hc:gQ X (.type T) r)(hg:Gl X x)(hm:X.mg x=none)(hv:bootBuiltins x=some (.type T))(ha:PA X (e::es) t)(hn:x ≠ "__name__":=by decide)(hdb:jy x:=by decide)
  (he:starEach (e::es) X.env=(false,eval e X.env)::starEach es X.env:=by rfl) (hpl:(backTo pos (starEach es X.env)).any (·.1)=false:=by rfl):PE X (.Call (.Name x p) (e::es) [] pos) (tCB r t):=by
 intro pins s σ H Q I h;refine wpAny_Call_Name_kw (zW I hg hm hv ?_ hn hdb);exact PyProof.Rows.callWith_type1 (fK (ha pos pins s σ H _ I h) λus s1 ⟨vs,H1,I1,r1,q1⟩=>hc pins s1 σ H1 vs us Q I1 r1 q1) he hpl
end
end L2
namespace HT
open PySem PyProof.Rows
section
variable{prog:Program}{w:World}{A:Around}{E:Value->Shared->Prop}{s:Shared}
def Z4{t b:Addr}{vs ws:List Value}{Q:Value->Shared->Prop}(ht:IsTup s.heap t vs.toArray)(hb:IsTup s.heap b ws.toArray)(hv:vs≠[])
  (h1:ws=[]->Q (.ref t) s) (h2:ws≠[]->Q (.ref s.heap.objs.size) { s with heap:=s.heap.push { cls:=.type "tuple",data:=.seq (vs++ws).toArray } })
  (hsz:vs.length+ws.length<=sizeLine):wpAny (model prog w) A (binaryOp .Add (.ref t) (.ref b)) Q E s:=by
 obtain⟨⟨cls,dd,data,sl⟩,ho,hc,n,hd⟩:=id ht;obtain⟨⟨cls2,dd2,data2,sl2⟩,ho2,hc2,n2,hd2⟩:=id hb;simp only at hc hd hc2 hd2;subst hc hd hc2 hd2;have e:vs.toArray++ws.toArray=(vs++ws).toArray:=by simp
 by_cases hw:ws=[]
 ·exact concat_meets ⟨_,ho,rfl⟩ ⟨_,ho2,rfl⟩ noFill_tuple_add seq_tuple_add PySem.F.slot_tuple_add PySem.F.entry_tuple_add (PySem.F.args_tuple_add_2 _ _)
   (tuple_addW1 t b vs.toArray ws.toArray n n2 dd dd2 sl sl2 (by simpa using hv) (by simp[hw])) ⟨ho,ho2,h1 hw⟩
 ·refine concat_meets ⟨_,ho,rfl⟩ ⟨_,ho2,rfl⟩ noFill_tuple_add seq_tuple_add PySem.F.slot_tuple_add PySem.F.entry_tuple_add (PySem.F.args_tuple_add_2 _ _)
   (tuple_addW2 t b vs.toArray ws.toArray n n2 dd dd2 sl sl2 (by simpa using hv) (by simpa using hw) (by rw[Qq4,Qq4];exact hsz)) ⟨ho,ho2,?_⟩
  rw[e];exact h2 hw
def fc(n d:Nat):Option Int->Nat
 | none=>d
 | some v=>if v<0 then (v+(n:Int)).toNat else min v.toNat n
def yK(n d k:Nat):fc n d (some (k:Int))=min k n:=by show(if (k:Int)<0 then ((k:Int)+(n:Int)).toNat else min (k:Int).toNat n)=min k n;rw[if_neg (by omega),Qjj]
def Ft(n d:Nat)(hd:d<=n)(o:Option Int):fc n d o<=n:=by
 cases o with
 | none=>exact hd
 | some v=>
  show(if v<0 then (v+(n:Int)).toNat else min v.toNat n)<=n;by_cases hv:v<0
  ·rw[if_pos hv];omega
  ·rw[if_neg hv];exact Nat.min_le_right _ _
def Pk(v:Int)(n d:Nat):(if v<0 then max (v+(n:Int)) 0 else min v (n:Int))=((fc n d (some v):Nat):Int):=by
 show(if v<0 then max (v+(n:Int)) 0 else min v (n:Int))=(((if v<0 then (v+(n:Int)).toNat else min v.toNat n):Nat):Int);by_cases hv:v<0
 ·simp only[if_pos hv];omega
 ·simp only[if_neg hv];omega
def MF(lo hi:Option Int)(n:Nat):Builtin.Slice.sliceAdjust lo hi 1 (n:Int)=(((fc n 0 lo:Nat):Int),((fc n n hi:Nat):Int)):=by
 have h1:¬((1:Int)<0):=by omega
 unfold Builtin.Slice.sliceAdjust;simp only[h1,if_false];refine Prod.ext ?_ ?_
 ·cases lo with
  | none=>rfl
  | some v=>exact Pk v n 0
 ·cases hi with
  | none=>rfl
  | some v=>exact Pk v n n
def Lh(i j:Nat):Builtin.Slice.slicePlaces (i:Int) (j:Int) 1=j - i:=by
 unfold Builtin.Slice.slicePlaces;have h1:(1:Int) > 0:=by omega
 simp only[h1,if_true,Int.ediv_one];split<;>omega
def zg{v:Value}{o:Option Int}{Q:Option Int->Shared->Prop}(p:IsPart v o)(h:Q o s):wpAny (model prog w) A (Builtin.Slice.slicePartIndex v) Q E s:=by
 cases p with
 | none=>exact slicePart_none h
 | int i t=>exact slicePart_int h
def nW{sl:Addr}{vl vu:Value}{lo hi:Option Int}{n:Nat}{Q:Int×Int×Nat->Shared->Prop}(hs:s.heap.IsSliceOf sl vl vu .none)(pl:IsPart vl lo)(pu:IsPart vu hi)
  (h:Q (((fc n 0 lo:Nat):Int),1,fc n n hi - fc n 0 lo) s):wpAny (model prog w) A (Builtin.Slice.sliceApplied (.ref sl) (pure (n:Int))) Q E s:=by
 obtain⟨os,hos,hcs,hds⟩:=id hs;unfold Builtin.Slice.sliceApplied Builtin.Slice.sliceFields;refine Qqx (Qqx (wpAny_field hos hds (x:=vl) rfl (Qqx (wpAny_field hos hds (x:=vu) rfl (Qqx (wpAny_field hos hds (x:=.none) rfl (Qqw ?_)))))));refine Qqx (slicePart_none ?_);show wpAny _ _ (if ((1:Int) == 0)=true then _ else _) _ _ s;rw[if_neg (by decide)];refine Qqx (zg pl (Qqx (zg pu (Qqx (Qqw ?_)))));show wpAny _ _ (match Builtin.Slice.sliceAdjust lo hi 1 (n:Int) with|(lo,hi)=>pure (lo,(1:Int),Builtin.Slice.slicePlaces lo hi 1)) _ _ s;rw[MF lo hi n];show wpAny _ _ (pure (((fc n 0 lo:Nat):Int),(1:Int),Builtin.Slice.slicePlaces ((fc n 0 lo:Nat):Int) ((fc n n hi:Nat):Int) 1)) _ _ s;rw[Lh];exact Qqw h
def UT(xs:Array Value)(i k:Nat):((List.range k).filterMap λ(m:Nat)=>xs[((i:Int)+(m:Int)*1).toNat]?).toArray=((xs.toList.drop i).take k).toArray:=by
 have e:(λ(m:Nat)=>xs[((i:Int)+(m:Int)*1).toNat]?)=λm=>xs[i+m]?:=by
  funext m
  have:((i:Int)+(m:Int)*1).toNat=i+m:=by omega
  rw[this]
 rw[e];have:=pick_run xs i k;rw[List.filterMap_map] at this;have e2:((λx=>xs[x]?) ∘ λx=>i+x)=λm=>xs[i+m]?:=rfl;rw[e2] at this;rw[this]
def u9{t sl:Addr}{items:Array Value}{vl vu:Value}{lo hi:Option Int}{Q:Value->Shared->Prop}(ht:IsTup s.heap t items)(hs:s.heap.IsSliceOf sl vl vu .none)(pl:IsPart vl lo)(pu:IsPart vu hi)
  (hw:¬(fc items.size 0 lo=0/\fc items.size items.size hi=items.size))
  (h:Q (.ref s.heap.objs.size) { s with heap:=s.heap.push { cls:=.type "tuple",data:=.seq ((items.toList.drop (fc items.size 0 lo)).take (fc items.size items.size hi - fc items.size 0 lo)).toArray } })
  (hsz:items.size<=sizeLine):wpAny (model prog w) A (getItem (.ref t) (.ref sl)) Q E s:=by
 have Ol:sizeOk (.seq ((items.toList.drop (fc items.size 0 lo)).take (fc items.size items.size hi - fc items.size 0 lo)).toArray):=by show((items.toList.drop (fc items.size 0 lo)).take (fc items.size items.size hi - fc items.size 0 lo)).toArray.size<=sizeLine;rw[Qq4,Qx9,Qx0,Qz6];omega
 have hj:fc items.size items.size hi<=items.size:=Ft _ _ (Qq2 _) hi;obtain⟨os,hos,hcs,hds⟩:=id hs;have hTs:s.TypeIs (.ref sl) "slice":=⟨os,hos,hcs⟩;unfold getItem
 try with_reducible refine Qzz ?_
 first|refine Qqx (Qqw ?_)|skip
 refine Qqx (wpAny_sequenceKey ht.typeIs (by decide) ?_);refine Qqx (wpAny_callSpecial?_slot (name:=Str.ofString "__getitem__") ht.typeIs Qz7
  (Qz3 Qz7 ht.typeIs entry_tuple_getitem ?_ (args_tuple_getitem _ _)))
 show wpAny _ _ (Builtin.Tuple.tupleItemsOf (.ref t) >>= _) _ _ s;refine Qqx (tupleItemsOf_ ht ?_);refine Qqx (wpAny_typeOf hTs ?_);rw[if_pos (by decide)];refine Qqx (nW hs pl pu ?_);have hno:¬((((fc items.size 0 lo:Nat):Int) == 0&&(1:Int) == 1&&(fc items.size items.size hi - fc items.size 0 lo) == items.size)=true):=by intro q;rw[Qwj,Qwj] at q;have q1:((fc items.size 0 lo:Nat):Int)=0:=eq_of_beq q.1.1;have q2:fc items.size items.size hi - fc items.size 0 lo=items.size:=eq_of_beq q.2;exact hw ⟨by omega,by omega⟩
 show wpAny _ _ (if (((fc items.size 0 lo:Nat):Int) == 0&&(1:Int) == 1&&(fc items.size items.size hi - fc items.size 0 lo) == items.size)=true then _ else _) _ _ s;rw[if_neg hno,UT]
 first
  | exact Qqx (m:=Builtin.Tuple.tupleExact _) (Qx3 (Qqw ⟨_,rfl,Qqw h⟩) Ol)
  | exact Qqx (m:=Builtin.Tuple.tupleExact _) (Qx3 (Qqx (Qqw (Qqw ⟨_,rfl,Qqw h⟩))) Ol)
  | exact Qqx (Qqx (m:=Builtin.Tuple.tupleExact _) (Qx3 (Qqw (Qqw ⟨_,rfl,Qqw h⟩)) Ol))
  | exact Qqx (Qqx (m:=Builtin.Tuple.tupleExact _) (Qx3 (Qqw ⟨_,rfl,Qqw h⟩) Ol))
end
end HT
namespace L2
open PySem PySem.Spec PyProof.Rows
abbrev TO:=St->Hp->(Option Int->Hp->Prop)->Prop
def PO(X:Cx)(e:Option Expr)(t:TO):Prop:=
 ∀(pins:List (Addr×Obj)) (s:Shared) (σ:St) (H:Hp) (Q:Option Int->Hp->Prop),Inv X pins σ H s->t σ H Q->
  wpAny (model X.prog X.w) X.A (evalPart e X.env) (λu s'=>∃o H',Inv X pins σ H' s'/\IsPart u o/\Q o H') X.xe s
def Xu:TO:=λ_ H Q=>Q none H
def afe(t:TE):TO:=λσ H Q=>t σ H λx H1=>∃i,x = .int i/\Q (some i) H1
section
variable{X:Cx}{e:Expr}{te:TE}{lo hi:Option Expr}{tl th:TO}{pos p2:Pos}
def Ys:PO X none Xu:=by intro pins s σ H Q I h;rw[evalPart_none];exact Qqw ⟨none,H,I,.none,h⟩
def Yr(h:PE X e te):PO X (some e) (afe te):=by intro pins s σ H Q I hw;rw[evalPart_some];refine fK (h pins s σ H _ I hw) λu s1 ⟨x,H1,I1,r1,q1⟩=>?_;obtain⟨i,rfl,q⟩:=q1;obtain⟨t,rfl⟩:=r1;exact⟨some i,H1,I1,.int i t,q⟩
def PJ(X:Cx)(r:V->Option Int->Option Int->Hp->VK->Prop):Prop:=
 ∀(pins:List (Addr×Obj)) (s:Shared) (σ:St) (H:Hp) (x:V) (v vl vu:Value) (lo hi:Option Int) (sl:Addr) (Q:VK),Inv X pins σ H s->RelV x v->s.heap.IsSliceOf sl vl vu .none->IsPart vl lo->IsPart vu hi->r x lo hi H Q->
  ∃T id,typeLookup (.type T) "__getitem__" = pure (some (.builtin id))/\s.TypeIs v T/\wpAny (model X.prog X.w) X.A (getItem v (.ref sl)) (EP X pins σ Q) X.xe s
def PJ.or{r r':V->Option Int->Option Int->Hp->VK->Prop}(h:PJ X r)(h':PJ X r'):PJ X (λx lo hi H Q=>r x lo hi H Q\/r' x lo hi H Q):=by
 intro pins s σ H x v vl vu lo hi sl Q I rx hs pl pu q;rcases q with q|q
 ·exact h pins s σ H x v vl vu lo hi sl Q I rx hs pl pu q
 ·exact h' pins s σ H x v vl vu lo hi sl Q I rx hs pl pu q
def tSl(r:V->Option Int->Option Int->Hp->VK->Prop)(te:TE)(tl th:TO):TE:=λσ H Q=>te σ H λx H1=>tl σ H1 λl H2=>th σ H2 λu H3=>r x l u H3 Q
def Ii{r:V->Option Int->Option Int->Hp->VK->Prop}(hr:PJ X r)(he:PE X e te)(hl:PO X lo tl)(hu:PO X hi th):PE X (.Subscript e (.Slice lo hi none p2) pos) (tSl r te tl th):=by intro pins s σ H Q I h;refine Subscript_ (fK (he pins s σ H _ I h) λv s1 ⟨x,H1,I1,r1,q1⟩=>?_);refine wpAny_Slice (fK (hl pins s1 σ H1 _ I1 q1) λvl s2 ⟨l,H2,I2,pl,q2⟩=>fK (hu pins s2 σ H2 _ I2 q2) λvu s3 ⟨u,H3,I3,pu,q3⟩=>?_);rw[evalPart_none];refine Qqw ?_;have I4:Inv X pins σ H3 { s3 with heap:=s3.heap.push { cls:=.type "slice",data:=.fields #[vl,vu,.none] } }:=I3.kept (t':=s3.toks) λb ob q=>Qqz _ q;obtain⟨T,id,hT,ht,hg⟩:=hr pins { s3 with heap:=s3.heap.push { cls:=.type "slice",data:=.fields #[vl,vu,.none] } } σ H3 x v vl vu l u s3.heap.objs.size Q I4 r1 (Heap.IsSliceOf.new ..) pl pu q3;show wpAny (model X.prog X.w) X.A (subscriptTail e (.Slice lo hi none p2) v (.ref s3.heap.objs.size)) (EP X pins σ Q) X.xe { s3 with heap:=s3.heap.push { cls:=.type "slice",data:=.fields #[vl,vu,.none] } };exact tail_any (ops:=[.ref s3.heap.objs.size,v]) ht hT hg (by with_unfolding_all rfl)
def yH(xs:List V)(lo hi:Option Int):List V:=(xs.drop (HT.fc xs.length 0 lo)).take (HT.fc xs.length xs.length hi - HT.fc xs.length 0 lo)
def xU(xs:List V)(lo hi:Option Int):(yH xs lo hi).length<=xs.length:=by unfold yH;rw[Qx9,Qx0];omega
def ach(K:PySem.W.Frag):V->Option Int->Option Int->Hp->VK->Prop:=λx lo hi H Q=>∃a xs,x = .ref a/\pO K H a xs/\
 ¬(HT.fc xs.length 0 lo=0/\HT.fc xs.length xs.length hi=xs.length)/\∀p,H p=none->Q (.ref p) (upd H p (.tup (yH xs lo hi)))
def K4:PJ X (ach X.K):=by
 intro pins s σ H x v vl vu lo hi sl Q I rx hs pl pu h;obtain⟨a,xs,rfl,hx,hw,q⟩:=h;cases rx;obtain⟨its,r,ht,hz⟩:=I.tuple hx;have hlen:its.toArray.size=xs.length:=by rw[Qq4];exact r.length.symm
 refine⟨"tuple",_,PyProof.Rows.slot_tuple_getitem.lookup,ht.typeIs,?_⟩;refine HT.u9 ht hs pl pu (by rw[hlen];exact hw) ?_ (by rw[hlen];exact hz);rw[hlen];refine⟨.ref s.heap.objs.size,_,I.laid (t':=s.toks) (o:=.tup (yH xs lo hi)) (λb ob q=>Qqz _ q) (Qq2 _) ?_,rfl,q _ (I.hok.fresh (Qq2 _))⟩;exact⟨Qqj (xU xs lo hi) hz,_,(r.drop (HT.fc xs.length 0 lo)).take (HT.fc xs.length xs.length hi - HT.fc xs.length 0 lo),Cq.new _ _⟩
def aaL(K:PySem.W.Frag):R2:=λx y H Q=>∃a b xs ys,x = .ref a/\y = .ref b/\pO K H a xs/\pO K H b ys/\xs≠[]/\xs.length+ys.length<=sizeLine/\
 (ys=[]->Q (.ref a) H)/\(ys≠[]->∀p,H p=none->Q (.ref p) (upd H p (.tup (xs++ys))))
def Vals.Ga{xs:List V}{us:List Value}(r:Vals xs us):us=[]↔xs=[]:=by
 cases r with
 | nil=>simp
 | cons _ _=>simp
def YJ:mG X (binaryOp .Add) (aaL X.K):=by intro pins s σ H x y v u Q I rx ry h;obtain⟨a,b,xs,ys,rfl,rfl,ha,hb,hx,hz,q1,q2⟩:=h;cases rx;cases ry;obtain⟨its,r1,p1,_⟩:=I.tuple ha;obtain⟨its2,r2,p2,_⟩:=I.tuple hb;refine HT.Z4 p1 p2 (λz=>hx (r1.Ga.mp z)) (λz=>⟨.ref a,H,I,rfl,q1 (r2.Ga.mp z)⟩) (λz=>?_) (by rw[<-r1.length,<-r2.length];exact hz);refine⟨.ref s.heap.objs.size,_,I.laid (t':=s.toks) (o:=.tup (xs++ys)) (λb ob q=>Qqz _ q) (Qq2 _) ?_,rfl,q2 (λw=>z (r2.Ga.mpr w)) _ (I.hok.fresh (Qq2 _))⟩;exact⟨by rw[Qqq];exact hz,_,r1.append r2,Cq.new _ _⟩
end
def Zo(n:Nat)(i:Int):Option Nat:=if 0<=i then (if i<n then some i.toNat else none) else if -(n:Int)<=i then some (i+n).toNat else none
def sr{α:Type}(xs:List α)(i:Int):Option α:=(Zo xs.length i).bind λj=>xs[j]?
def Og{n:Nat}{i:Int}{j:Nat}(h:Zo n i=some j):seqIndex? i n=some j/\j<n/\-(n:Int)<=i/\i<n:=by
 unfold Zo at h;by_cases h0:0<=i
 ·rw[if_pos h0] at h;by_cases h1:i<n
  ·rw[if_pos h1] at h;have e:i.toNat=j:=Qw9 h;exact⟨by rw[seqIndex_of h0 h1,e],by omega,by omega,h1⟩
  ·rw[if_neg h1] at h;cases h
 ·rw[if_neg h0] at h;by_cases h1 : -(n:Int)<=i
  ·rw[if_pos h1] at h;have e:(i+n).toNat=j:=Qw9 h;exact⟨by rw[seqIndex_neg (by omega) h1,e],by omega,h1,by omega⟩
  ·rw[if_neg h1] at h;cases h
def GX{α:Type}{xs:List α}{i:Int}{v:α}(h:sr xs i=some v):∃j,seqIndex? i xs.length=some j/\xs[j]? = some v/\j<xs.length/\-(xs.length:Int)<=i/\i<xs.length:=by
 unfold sr at h;cases e:Zo xs.length i with
 | none=>rw[e] at h;cases h
 | some j=>
  rw[e] at h;obtain⟨h1,h2,h3,h4⟩:=Og e;exact⟨j,h1,h,h2,h3,h4⟩
def lG{α:Type}{xs:List α}{j:Nat}{v:α}(h:xs[j]? = some v):sr xs (j:Int)=some v:=by
 have hj:j<xs.length:=(Qq5.mp h).1;have e:Zo xs.length (j:Int)=some j:=by unfold Zo;rw[if_pos (by omega),if_pos (by omega)];simp
 unfold sr;rw[e];exact h
def mY(b:Expr):Prop:=∀o i,subscripted b false o i=operate [o,i] (getItem o i)
def Xb(X:Cx)(r:R2):Prop:=
 ∀(value slice:Expr) (pins:List (Addr×Obj)) (s:Shared) (σ:St) (H:Hp) (x y:V) (v u:Value) (Q:VK),Inv X pins σ H s->RelV x v->RelV y u->r x y H Q->
  subscripted slice false v u=operate [v,u] (getItem v u)->wpAny (model X.prog X.w) X.A (subscriptTail value slice v u) (EP X pins σ Q) X.xe s
def MtR(X:Cx)(id:String)(r:V->List V->Hp->VK->Prop):Prop:=
 ∀(pins:List (Addr×Obj)) (s:Shared) (σ:St) (H:Hp) (x:V) (xs:List V) (v:Value) (us:List Value) (Q:VK),Inv X pins σ H s->RelV x v->Vals xs us->r x xs H Q->
  wpAny (model X.prog X.w) X.A (call (.builtin id) (v::us)) (EP X pins σ Q) X.xe s
section
variable{X:Cx}{a b:Expr}{ta tb:TE}{pos:Pos}
def Xb.or{r r':R2}(h:Xb X r)(h':Xb X r'):Xb X (λx y H Q=>r x y H Q\/r' x y H Q):=by
 intro value slice pins s σ H x y v u Q I rx ry q hs;rcases q with q|q
 ·exact h value slice pins s σ H x y v u Q I rx ry q hs
 ·exact h' value slice pins s σ H x y v u Q I rx ry q hs
def aaS{r:R2}(hr:Xb X r)(ha:PE X a ta)(hb:PE X b tb)(hs:mY b):PE X (.Subscript a b pos) (Xr r ta tb):=by intro pins s σ H Q I h;exact Subscript_ (aew ha hb I h λv u s2 x y H2 I2 rx ry q=>hr a b pins s2 σ H2 x y v u Q I2 rx ry q (hs _ _))
def afF(K:PySem.W.Frag):R2:=λx y H Q=>∃p xs i v,x = .ref p/\y = .int i/\j8 K H p xs/\sr xs i=some v/\Q v H
def afD(K:PySem.W.Frag):R2:=λx y H Q=>∃p xs i v,x = .ref p/\y = .int i/\pO K H p xs/\sr xs i=some v/\Q v H
def afE:R2:=λx y H Q=>∃z i c,x = .str z/\y = .int i/\z.length<=sizeLine/\sr z.cps.toList i=some c/\Q (.str ⟨#[c]⟩) H
def Zm:Xb X (afF X.K):=by
 intro value slice pins s σ H x y v u Q I rx ry h hs;obtain⟨p,xs,i,z,rfl,rfl,hq,he,q⟩:=h;cases rx;obtain⟨t,rfl⟩:=ry;obtain⟨its,r,pl,hz⟩:=I.list hq;obtain⟨j,h1,h2,h3,h4,h5⟩:=GX he;obtain⟨w,ew,zu⟩:=r.get h2;have hl:=r.length;have hn:=zU;have fin:EP X pins σ Q w s:=⟨z,H,I,zu,q⟩;by_cases h0:0<=i
 ·have hj:i.toNat=j:=by
   rw[seqIndex_of h0 h5] at h1;exact Qw9 h1
  exact item_listR pl.isList h0 (by omega) (by rw[hj];simpa using ew) fin hs
 ·have hj:(i+(its.toArray.size:Int)).toNat=j:=by
   rw[seqIndex_neg (by omega) h4] at h1;rw[Qq4,<-hl];exact Qw9 h1
  exact subscriptTail_builtinR (x:=w) pl.isList.typeIs slot_list_getitem.lookup
   (wpAny_getItem_list_neg (Q:=λr s'=>r=w/\EP X pins σ Q r s') pl.isList (by omega) (by rw[Qq4]<;>omega) (by omega) (by rw[hj];simpa using ew) ⟨rfl,fin⟩) hs
def adS:Xb X (afD X.K):=by
 intro value slice pins s σ H x y v u Q I rx ry h hs;obtain⟨p,xs,i,z,rfl,rfl,hq,he,q⟩:=h;cases rx;obtain⟨t,rfl⟩:=ry;obtain⟨its,r,pl,hz⟩:=I.tuple hq;obtain⟨j,h1,h2,h3,h4,h5⟩:=GX he;obtain⟨w,ew,zu⟩:=r.get h2;have hl:=r.length;have hn:=zU;have fin:EP X pins σ Q w s:=⟨z,H,I,zu,q⟩;exact subscriptTail_builtinR (x:=w) pl.typeIs slot_tuple_getitem.lookup
  (getItem_tuple (j:=j) (Q:=λr s'=>r=w/\EP X pins σ Q r s') pl (by omega) (by omega) (by rw[Qq4,<-hl];exact h1) (by simpa using ew) ⟨rfl,fin⟩) hs
def adT:Xb X afE:=by
 intro value slice pins s σ H x y v u Q I rx ry h hs;obtain⟨z,i,c,rfl,rfl,hz,he,q⟩:=h;obtain⟨t,rfl⟩:=rx;obtain⟨t',rfl⟩:=ry;obtain⟨j,h1,h2,h3,h4,h5⟩:=GX he;have hl:z.cps.toList.length=z.length:=by simp[Str.length]
 rw[hl] at h1 h4 h5;have hn:=zU;exact tail_any (Qkv s z t) slot_str_getitem.lookup (getItem_str (c:=c) (by
  have e1:decide (i < -(2^63:Int))=false:=Qw6 (by omega);have e2:decide (i ≥ 2^63)=false:=Qw6 (by omega);rw[e1,e2,Bool.or_false]) (by rw[h1];simpa using h2) ⟨.str ⟨#[c]⟩,H,I.tok _,⟨_,rfl⟩,q⟩) hs
def rIx(K:PySem.W.Frag):R2:=λx y H Q=>afF K x y H Q\/afD K x y H Q\/afE x y H Q
def LQ:Xb X (rIx X.K):=Zm.or (adS.or adT)
def Ls(its:List Value)(n j:Nat)(u:Value):Obj.mapSeq (·.setIfInBounds j u) { cls:=.type "list",data:=.seq its.toArray n } = { cls:=.type "list",data:=.seq (its.set j u).toArray n }:=by simp[Obj.mapSeq]
def Inv.lst{pins:List (Addr×Obj)}{σ:St}{H:Hp}{s:Shared}{p:Addr}{xs:List V}(I:Inv X pins σ H s)(h:H p=some (.lst xs)) :
  ∃(its:List Value) (n:Nat),Vals xs its/\s.heap.get? p=some { cls:=.type "list",data:=.seq its.toArray n }/\xs.length<=sizeLine:=by
 obtain⟨z,its,n,r,e⟩:=I.hok p _ h;exact⟨its,n,r,e,z⟩
def Inv.adI{pins:List (Addr×Obj)}{σ:St}{H:Hp}{s:Shared}{p:Addr}{xs ys:List V}{its its':List Value}{n n':Nat}{f:Obj->Obj}(I:Inv X pins σ H s)(h:H p=some (.lst xs))
  (ho:s.heap.get? p=some { cls:=.type "list",data:=.seq its.toArray n }) (hf:f { cls:=.type "list",data:=.seq its.toArray n } = { cls:=.type "list",data:=.seq its'.toArray n' }) (r:Vals ys its') (hz:ys.length<=sizeLine) (t:Nat) :
  Inv X pins σ (upd H p (.lst ys)) { s with heap:=s.heap.update p f,toks:=t }:=by
 have e:(s.heap.update p f).get? p=some { cls:=.type "list",data:=.seq its'.toArray n' }:=by rw[Heap.get?_update_self f ho (by rw[hf]<;>rfl),hf]
 refine I.write (x:=p) (e:=p) (by rw[h];trivial) (.inl rfl) (λb u hb q=>(Heap.get?_update_other _ _ (Ne.symm hb)).trans q) ⟨_,e⟩ ?_;exact⟨hz,its',n',r,e⟩
def afy:V->V->V->Hp->(Hp->Prop)->Prop:=λo i v H Q=>∃p xs k j,o = .ref p/\i = .int k/\H p=some (.lst xs)/\Zo xs.length k=some j/\Q (upd H p (.lst (xs.set j v)))
def set_list:agX X afy:=by
 intro pins s σ H o i v ov iv u Q I ro ri rv h;obtain⟨p,xs,k,j,rfl,rfl,hp,hj,q⟩:=h;cases ro;obtain⟨t,rfl⟩:=ri;obtain⟨its,n,r,ho,hz⟩:=I.lst hp;obtain⟨h1,h2,h3,h4⟩:=Og hj;have hl:=r.length;have hn:=zU;have I':Inv X pins σ (upd H p (.lst (xs.set j v))) { s with heap:=s.heap.update p (Obj.mapSeq (·.setIfInBounds j u)) }:=
  I.adI hp ho (Ls its n j u) (r.set rv j) (by rw[Qw5];exact hz) s.toks
 by_cases h0:0<=k
 ·have hk:k.toNat=j:=by
   rw[seqIndex_of h0 h4] at h1;exact Qw9 h1
  exact PySem.W.ki_setAt ho h0 (by omega) (by rw[Qq4,<-hl];exact h4) (by rw[hk];exact⟨_,I',q⟩)
 ·have hk:(k+(its.toArray.size:Int)).toNat=j:=by
   rw[seqIndex_neg (by omega) h3] at h1;rw[Qq4,<-hl];exact Qw9 h1
  exact PySem.W.ki_setBack ho (by omega) (by rw[Qq4,<-hl];exact h3) (by omega) (by rw[hk];exact⟨_,I',q⟩)
def Ex(lo hi:Option Int)(n:Nat):(sliceBounds lo hi none n).1=((HT.fc n 0 lo:Nat):Int)/\(sliceBounds lo hi none n).2.1=((HT.fc n n hi:Nat):Int)/\(sliceBounds lo hi none n).2.2=1:=by
 refine⟨?_,?_,rfl⟩
 ·cases lo with
  | none=>simp[sliceBounds,HT.fc]
  | some i=>
   simp only[sliceBounds,HT.fc,Option.getD_none,show(1:Int) > 0 by decide,if_true];by_cases h:i<0
   ·simp only[h,if_true]<;>omega
   ·simp only[h,if_false]<;>omega
 ·cases hi with
  | none=>simp[sliceBounds,HT.fc]
  | some i=>
   simp only[sliceBounds,HT.fc,Option.getD_none,show(1:Int) > 0 by decide,if_true];by_cases h:i<0
   ·simp only[h,if_true]<;>omega
   ·simp only[h,if_false]<;>omega
def Bv(its:List Value)(lo hi:Option Int):slicePick its.toArray lo hi none=((its.drop (HT.fc its.length 0 lo)).take (HT.fc its.length its.length hi - HT.fc its.length 0 lo)).toArray:=by obtain⟨h1,h2,h3⟩:=Ex lo hi its.toArray.size;unfold slicePick;rw[h1,h2,h3];simp only[sliceRange_one,pick_run,Qq4]<;>rfl
def afx(K:PySem.W.Frag):V->Option Int->Option Int->Hp->VK->Prop:=λx lo hi H Q=>∃a xs,x = .ref a/\j8 K H a xs/\∀p,H p=none->Q (.ref p) (upd H p (.lst (yH xs lo hi)))
def Nj:PJ X (afx X.K):=by intro pins s σ H x v vl vu lo hi sl Q I rx hs pl pu h;obtain⟨a,xs,rfl,hx,q⟩:=h;cases rx;obtain⟨its,r,ht,hz⟩:=I.list hx;have hlen:=r.length;refine⟨"list",_,slot_list_getitem.lookup,ht.isList.typeIs,?_⟩;refine wpAny_getItem_list_slice ht.isList hs pl pu .none (by simp) ?_ (by rw[Qq4]<;>omega);rw[Bv,<-hlen];refine⟨.ref s.heap.objs.size,_,I.laid (t':=s.toks) (o:=.lst (yH xs lo hi)) (λb ob q=>Qqz _ q) (Qq2 _) ?_,rfl,q _ (I.hok.fresh (Qq2 _))⟩;exact⟨Qqj (xU xs lo hi) hz,_,0,(r.drop (HT.fc xs.length 0 lo)).take (HT.fc xs.length xs.length hi - HT.fc xs.length 0 lo),Qq6 _ rfl⟩
def gQ.or{f:Value}{r r':List V->Hp->VK->Prop}(h:gQ X f r)(h':gQ X f r'):gQ X f (λxs H Q=>r xs H Q\/r' xs H Q):=by
 intro pins s σ H xs us Q I rs q;rcases q with q|q
 ·exact h pins s σ H xs us Q I rs q
 ·exact h' pins s σ H xs us Q I rs q
def Gy:gQ X (.type "list") (λxs H Q=>∃p ys,xs=[.ref p]/\(j8 X.K H p ys\/pO X.K H p ys)/\∀l,H l=none->Q (.ref l) (upd H l (.lst ys))):=by
 intro pins s σ H xs us Q I r h;obtain⟨p,ys,rfl,hq,q⟩:=h;obtain⟨u,rfl,rx⟩:=vals1 r;cases rx;have fin:∀(its:List Value),Vals ys its->ys.length<=sizeLine->∀(h':Heap) (c':Nat),(∀b o',s.heap.get? b=some o'->h'.get? b=some o')->
   h'.get? s.heap.objs.size=some { cls:=.type "list",dict:=none,data:=.seq its.toArray c',slots:=#[] }->EP X pins σ Q (.ref s.heap.objs.size) { s with heap:=h' }:=λits r' hz h' c' kp e=>
  ⟨.ref s.heap.objs.size,_,I.laid (t':=s.toks) kp (Qq2 _) (show fX X.prog X.w _ h' _ (.lst ys) from⟨hz,its,c',r',e⟩),rfl,q _ (I.hok.fresh (Qq2 _))⟩
 rcases hq with hq|hq
 ·obtain⟨its,r',pl,hz⟩:=I.list hq;have hlen:=r'.length;obtain⟨o,ho,hc,n,hd⟩:=pl.isList;exact call_list_seq p (.inl rfl) ho hc hd (λh' c' kp e=>fin its r' hz h' c' kp e) (by simp only[Qq4]<;>omega)
 ·obtain⟨its,r',pl,hz⟩:=I.tuple hq;have hlen:=r'.length;obtain⟨o,ho,hc,n,hd⟩:=pl;exact call_list_seq p (.inr rfl) ho hc hd (λh' c' kp e=>fin its r' hz h' c' kp e) (by simp only[Qq4]<;>omega)
def Ci:gQ X (.type "tuple") (λxs H Q=>∃p ys,xs=[.ref p]/\((j8 X.K H p ys/\∀l,H l=none->Q (.ref l) (upd H l (.tup ys)))\/(pO X.K H p ys/\Q (.ref p) H))):=by
 intro pins s σ H xs us Q I r h;obtain⟨p,ys,rfl,h⟩:=h;obtain⟨u,rfl,rx⟩:=vals1 r;cases rx;rcases h with ⟨hq,q⟩|⟨hq,q⟩
 ·obtain⟨its,r',pl,hz⟩:=I.list hq;have hlen:=r'.length;refine call_tuple_list pl.isList (λh' kp=>?_) (by simp only[Qq4]<;>omega);have I1:Inv X pins σ H { s with heap:=h' }:=I.kept (t':=s.toks) kp;have I2:Inv X pins σ (upd H h'.objs.size (.tup ys)) { s with heap:=h'.push { cls:=.type "tuple",data:=.seq its.toArray } }:=
   I1.laid (t':=s.toks) (λb o e=>Qqz _ e) (Qq2 _) (show fX X.prog X.w _ _ _ (.tup ys) from⟨hz,its,r',Cq.new _ _⟩)
  exact⟨.ref h'.objs.size,_,I2,rfl,q _ (I1.hok.fresh (Qq2 _))⟩
 ·obtain⟨its,r',pl,hz⟩:=I.tuple hq;exact call_tuple_same pl ⟨.ref p,H,I,rfl,q⟩
def tyV(K:PySem.W.Frag)(T:String)(x:V)(H:Hp):Prop:=match x with
 | .str _=>T = "str"
 | .int _=>T = "int"
 | .ref p=>(T = "list"/\∃xs,j8 K H p xs)\/(T = "tuple"/\∃o,K.lookup p=some o/\o.cls = .type "tuple"/\o.dict=none)\/
   (T = "dict"/\((∃kvs,H p=some (.dK kvs))\/∃kvs,H p=some (.dT kvs)))\/(T = "set"/\∃S n,H p=some (.set S n))
 | _=>False
def S6{pins:List (Addr×Obj)}{σ:St}{H:Hp}{s:Shared}{T:String}{x:V}{v:Value}(I:Inv X pins σ H s)(r:RelV x v)(ty:tyV X.K T x H) :
  s.TypeIs v T/\∀a,v = .ref a->∃ob,s.heap.get? a=some ob/\ob.dict=none:=by
 cases x with
 | str z=>
  obtain⟨t,rfl⟩:=r;cases(show T = "str" from ty);exact⟨Qkv s z t,λ_ e=>nomatch e⟩
 | int i=>
  obtain⟨t,rfl⟩:=r;cases(show T = "int" from ty);exact⟨typeIs_int s i t,λ_ e=>nomatch e⟩
 | ref p=>
  cases r;rcases ty with ⟨rfl,xs,hq⟩|⟨rfl,o,hk,hc,hd⟩|⟨rfl,hk⟩|⟨rfl,S,n,hk⟩
  ·obtain⟨its,_,pl,_⟩:=I.list hq;refine⟨pl.isList.typeIs,λa e=>?_⟩;cases e;obtain⟨o,n,e,c,hd,_⟩:=pl;exact⟨o,e,hd⟩
  ·refine⟨⟨o,I.Jd p o hk,hc⟩,λa e=>?_⟩;cases e;exact⟨o,I.Jd _ o hk,hd⟩
  ·have z:∃o,s.heap.get? p=some o/\o.ExactDict:=by
    rcases hk with ⟨kvs,hk⟩|⟨kvs,hk⟩
    ·obtain⟨_,_,_,_,o,_,_,e,ex,_⟩:=I.hok p _ hk;exact⟨o,e,ex⟩
    ·obtain⟨_,_,_,_,o,_,_,e,ex,_⟩:=I.hok p _ hk;exact⟨o,e,ex⟩
   obtain⟨o,e,ex⟩:=z;refine⟨⟨o,e,ex.1⟩,λa e2=>?_⟩;cases e2;exact⟨o,e,ex.2.1⟩
  ·obtain⟨o,_,_,_,e,ex,_⟩:=I.hok p _ hk;refine⟨⟨o,e,ex.1⟩,λa e2=>?_⟩;cases e2;exact⟨o,e,ex.2.1⟩
 | _=>exact False.elim ty
def ahO(K:PySem.W.Frag)(T:String)(r:V->List V->Hp->VK->Prop)(to:TE):TE:=λσ H Q=>to σ H λx H1=>tyV K T x H1/\r x [] H1 Q
def tBM(K:PySem.W.Frag)(T:String)(r:V->List V->Hp->VK->Prop)(to:TE)(t:TA):TE:=λσ H Q=>to σ H λx H1=>tyV K T x H1/\t σ H1 λxs H2=>r x xs H2 Q
variable{o e:Expr}{es:List Expr}{to:TE}{t:TA}{name:Str}{apos cpos:Pos}{T id:String}{r:V->List V->Hp->VK->Prop}
def acU(pa:PlainAttrs T)(slot:Slot T name id)(hty:typeOf (.builtin id)=pure (.type "method_descriptor"))(hm:MtR X id r)(ho:PE X o to)
  (hbase:attributeBase o name X.env (eval o X.env)=eval o X.env:=by rfl) (hline:(apos.endLine == cpos.line)=true:=by rfl):PE X (.Call (.Attribute o name apos) [] [] cpos) (ahO X.K T r to):=by
 intro pins s σ H Q I h;refine wpAny_Call_method0_late hbase hline (fK (ho pins s σ H _ I h) λv s1 ⟨x,H1,I1,r1,ty,q1⟩=>?_);obtain⟨h1,h2⟩:=S6 I1 r1 ty;exact⟨T,id,pa,slot,hty,h1,h2,Calls.callWith_builtin rfl (PySem.evalArgs_none (hm pins s1 σ H1 x [] v [] Q I1 r1 .nil q1))⟩
def xK(pa:PlainAttrs T)(slot:Slot T name id)(hty:typeOf (.builtin id)=pure (.type "method_descriptor"))(hm:MtR X id r)(ho:PE X o to)(ha:PA X (e::es) t)
  (hbase:attributeBase o name X.env (eval o X.env)=eval o X.env:=by rfl)
  (hfew:((backTo cpos (starEach (e::es) X.env)).all (λx=>!x.1)&&(backToKw cpos (keywordEach [] X.env)).all (λx=>x.1.isSome)
   && decide ((e::es).length+([]:List Keyword).length+(if ([]:List Keyword).isEmpty then 0 else 1)<30))=true:=by rfl)
  (hline:(apos.endLine == cpos.line)=true:=by rfl) (hs:starEach (e::es) X.env=(false,eval e X.env)::starEach es X.env:=by rfl) (hplain:(backTo cpos (starEach es X.env)).any (·.1)=false:=by rfl) :
  PE X (.Call (.Attribute o name apos) (e::es) [] cpos) (tBM X.K T r to t):=by
 intro pins s σ H Q I h;refine wpAny_Call_method_late hbase hfew hline rfl (fK (ho pins s σ H _ I h) λv s1 ⟨x,H1,I1,r1,ty,q1⟩=>?_);obtain⟨h1,h2⟩:=S6 I1 r1 ty;refine⟨T,id,pa,slot,hty,h1,h2,?_⟩;have hA:=ha cpos pins s1 σ H1 _ I1 q1;rw[hs] at hA ⊢;refine Calls.callWith_builtin (by show(false||(backTo cpos (starEach es X.env)).any (·.1))=false;rw[hplain]<;>rfl) (Calls.evalArgs_plain ?_);exact fK hA λus s2 ⟨vs,H2,I2,r2,q2⟩=>hm pins s2 σ H2 x vs v us Q I2 r1 r2 q2
end
def MtM(X:Cx)(id:String)(r:V->List V->Hp->VK->Prop):Prop:=
 ∀(pins:List (Addr×Obj)) (s:Shared) (σ:St) (H:Hp) (x:V) (xs:List V) (v:Value) (us:List Value) (Q:VK),Inv X pins σ H s->RelV x v->Vals xs us->r x xs H Q->
  wpAny (model X.prog X.w) X.A (call (.builtin id) (v::us)) (EP X pins σ Q) X.xe s
theorem Vals.one:∀{x:V} {us:List Value},Vals [x] us->∃u,us=[u]/\RelV x u
 | _,_,.cons r .nil=>⟨_,rfl,r⟩
section
variable{X:Cx}{pins:List (Addr×Obj)}{σ:St}{H:Hp}{s:Shared}{l b:Addr}{xs ys zs:List V}
def Inv.ah6{its its':List Value}{n:Nat}{f:Array Value->Array Value}{t':Nat}(I:Inv X pins σ H s)(hH:H l=some (.lst xs))
  (e:s.heap.get? l=some { cls:=.type "list",data:=.seq its.toArray n }) (hf:f its.toArray=its'.toArray) (hv:Vals ys its') (hz:ys.length<=sizeLine) :
  Inv X pins σ (upd H l (.lst ys)) { s with heap:=s.heap.update l (Obj.mapSeq f),toks:=t' }:=by
 have q:=PySem.IsL.update e f;rw[hf] at q;refine I.write (x:=l) (e:=l) (by rw[hH];exact trivial) (.inl rfl) (λb' u hb hu=>(Heap.get?_update_other s.heap (Obj.mapSeq f) (Ne.symm hb)).trans hu) ⟨_,q⟩ ?_;exact⟨hz,its',_,hv,q⟩
def Inv.agi{its:List Value}{t':Nat}(I:Inv X pins σ H s)(hv:Vals ys its)(hz:ys.length<=sizeLine) :
  Inv X pins σ (upd H s.heap.objs.size (.lst ys)) { s with heap:=s.heap.push { cls:=.type "list",data:=.seq its.toArray },toks:=t' }:=
 I.laid (λ_ _ q=>Qqz _ q) (Qq2 _) ⟨hz,its,0,hv,Qq6 _ rfl⟩
def Inv.fresh(I:Inv X pins σ H s):H s.heap.objs.size=none:=I.hok.fresh (Qq2 _)
def Inv.adJ(I:Inv X pins σ H s)(hH:H l=some (.lst xs)):xs.length<=sizeLine/\∃(its:List Value) (n:Nat),Vals xs its/\xs.length=its.length/\s.heap.get? l=some { cls:=.type "list",data:=.seq its.toArray n }:=by obtain⟨z,its,n,r,e⟩:=I.hok l _ hH;exact⟨z,its,n,r,r.length,e⟩
def af8{n:Nat}(h:n<=sizeLine):Builtin.List.listTooLong n=false:=by unfold Builtin.List.listTooLong;exact Qw6 (by omega)
end
section
variable{X:Cx}{prog:Program}{w:World}{A:Around}{E:Value->Shared->Prop}{s:Shared}
def X5:V->List V->Hp->VK->Prop:=λx vs H Q=>∃l xs y,x = .ref l/\vs=[y]/\H l=some (.lst xs)/\xs.length<sizeLine/\Q .non (upd H l (.lst (xs++[y])))
def Dl:MtM X "list.append" X5:=by intro pins s σ H x vs v us Q I rx rv h;obtain⟨l,xs,y,rfl,rfl,hH,hz,q⟩:=h;cases rx;obtain⟨u,rfl,ru⟩:=rv.one;obtain⟨z,its,n,r,hl,e⟩:=I.adJ hH;refine call_meets F.slot_list_append ⟨_,e,rfl⟩ F.entry_list_append (F.args_list_append_2 _ _) (PySem.list_append l its.toArray n u (by rw[Qq4];omega)) ⟨e,?_⟩;refine⟨.non,_,I.ah6 (its':=its++[u]) hH e (by simp) (r.append (.cons ru .nil)) ?_,rfl,q⟩;rw[Qqq,List.length_singleton];omega
def afK:R2:=λx y H Q=>∃l b xs zs,x = .ref l/\y = .ref b/\H l=some (.lst xs)/\H b=some (.lst zs)/\xs.length+zs.length<=sizeLine/\∀p,H p=none->Q (.ref p) (upd H p (.lst (xs++zs)))
def Li:mG X (binaryOp .Add) afK:=by
 intro pins s σ H x y v u Q I rx ry h;obtain⟨l,b,xs,zs,rfl,rfl,hH,hB,hz,q⟩:=h;cases rx;cases ry;obtain⟨z,its,n,r,hl,e⟩:=I.adJ hH;obtain⟨z2,its2,n2,r2,hl2,e2⟩:=I.adJ hB;refine PySem.P.add_list e e2 ?_ (by rw[Qq4,Qq4];omega);have ea:its.toArray++its2.toArray=(its++its2).toArray:=by simp
 rw[ea];exact⟨.ref _,_,I.agi (t':=s.toks) (r.append r2) (by rw[Qqq];omega),rfl,q _ I.fresh⟩
set_option maxRecDepth 100000 in
end
end L2
namespace Att
open PySem PySem.W PySem.Calls PyProof.Rows
def yG{P:Params}{h:Heap}:∀(ns:List Int) (vs:List Value),WellAll P h vs (ns.map WData.int)->IntsAre vs ns:=by
 intro ns
 induction ns with
 | nil=>
  intro vs w;rw[List.map_nil] at w;cases w;exact .nil
 | cons n ns ih=>
  intro vs w;rw[Qq7] at w;cases w with
  | cons a b=>
   cases a;exact .cons _ _ (ih _ b)
def Qw{l:OpenLaw}{n:Nat}(hn:l.most=some n){P:Params}{h:Heap}{args:List WData}{vals:List Value}
  (hpre:l.row.toRowW.claim.pre args=true) (hwl:WellAll P h vals args) :
  ∃a vs ns,vals=[Value.ref a]/\args=[WData.list (ns.map WData.int)]/\h.get? a=some { cls:=.type "list",data:=.seq vs.toArray }/\IntsAre vs ns/\ns.length<=n:=by
 have hsh:WShape.hasAll [] args [.list .int]=true:=(pre_splitW hpre).1;have hc:l.pre.holds [] { args:=args }=true:=(pre_splitW hpre).2;obtain⟨d,r,rfl,h1,h2⟩:=hasAllW_cons hsh;obtain rfl:=hasAllW_nil h2;obtain⟨xs,rfl,h3⟩:=hasW_list h1;obtain⟨ns,rfl⟩:=items_int h3;have hlen:ns.length<=n:=by
  unfold OpenLaw.pre at hc;have h4:(WTm.not (.lt (.lit (.int (n:Int))) (.len (.arg 0)))).holds [] { args:=[.list (ns.map .int)] }=true:=by have h4:=(holds_andW hc).1;rw[hn] at h4;exact h4
  have h5:=condW_of h4 (w_not (w_lt w_lit (w_len_list (w_arg rfl))));rw[Qqk] at h5;refine Nat.le_of_not_lt λq=>?_;have q':(n:Int)<((ns.length:Nat):Int):=by omega
  first
   | (rw[Qw8 q'] at h5;exact absurd h5 (by decide))
   | (simp at h5;omega)
 cases hwl with
 | cons w1 w2=>
  cases w2;cases w1 with
  | list ho hall=>exact⟨_,_,ns,rfl,rfl,ho,yG ns _ hall,hlen⟩
def QK(l:OpenLaw)(args:List WData):l.row.toRowW.claim.post args (.bool true) args=true:=
 postW_of (r:=l.row.toRowW) (X:=(true == true))
  (show WShape.has [] (.bool true) .bool=true by first|rfl|decide|simp[WShape.has,WShape.arms,WShape.armsAll])
  (show(WTm.eq .res (.lit (.bool true))).value [] { args:=args,res:=some (.bool true),after:=args }=some (.bool (true == true)) from w_eq_bool (w_res rfl) w_lit) rfl
end Att
namespace L2
open PySem PySem.Spec PyProof.Rows
theorem CJ:∀{vs:List Value} {ns:List Int},IntsAre vs ns->Vals (ns.map V.int) vs
 | _,_,.nil=>.nil
 | _,_,.cons n t h=>.cons ⟨t,rfl⟩ (CJ h)
def Only(H:Hp):Prop:=∀b,H b=none\/∃o xs,H b=some (.qP o (.lst xs))
theorem Vv{P:Program}{w:World}{K:PySem.W.Frag}{mg mb:Str->Option Value}{CX:Xf}{k:Nat}{fa a:Addr}{fd:FuncData}{x:Str}{sp:Sp}{s₁:Shared}{vs:List Value}{ns:List Int}
  (KX:K.In s₁.heap) (hns:s₁.heap.Ns mainGlobals mg) (hb:s₁.heap.Ns builtinsNs mb) (hbb:∀x:Str,x ≠ "__name__"->mb x=bootBuiltins x) (hlim:s₁.heap.NoLimit) (hg:s₁.gens = #[])
  (ha:s₁.heap.get? a=some { cls:=.type "list",data:=.seq vs.toArray }) (hi:IntsAre vs ns) (hl:ns.length<=sizeLine) (hr:gq k callerA)
  (F:∀base:Heap,K.In base->base.Ns mainGlobals mg->mJ P w K mg base CX k fa fd [x] sp) (hbind:∀(s:Shared) (u:Value),BindsTo s fd ⟨[u],[]⟩ [(x,u)])
  (hsp:∀H:Hp,Only H->j8 K H a (ns.map V.int)->sp [.ref a] H (λv _=>v = .bl true) λ_ _ _=>False)
  (hCX:∀H e s',CX [] H s₁ (λ_ _ _=>False) e s'->False) :
  codeAny (model P w) callerA (.call (.ref fa) ⟨[.ref a],[]⟩) (λr s'=>r = .ok (.ret (.bool true))/\OldK s₁.heap s'.heap/\s'.os=s₁.os/\AllBare s'.gens) s₁:=by
 have rv:=CJ hi;have lenV:=hi.length
 -- from an abstract heap in which nothing but the script may be tracked
 have core:∀H:Hp,Only H->j8 K H a (ns.map V.int)->pG P w H s₁.heap->(∀b,H b≠none->b=a)->(H a≠none->K.lookup a=none)->
   codeAny (model P w) callerA (.call (.ref fa) ⟨[.ref a],[]⟩) (λr s'=>r = .ok (.ret (.bool true))/\OldK s₁.heap s'.heap/\s'.os=s₁.os/\AllBare s'.gens) s₁:=by
  intro H hO hS hok hA hK;have Pu:∀{b:Addr} {o:Obj},s₁.heap.get? b=some o->H b=none->(Gf s₁.heap H).get? b=some o:=λe n=>VN e n;have noA:∀{b:Addr} {o:Obj} {es:Array DictEntry} {ep:Nat},s₁.heap.get? b=some o->o.data = .dict es ep->H b=none:=λ{b o es ep} e d=>by
   cases q:H b with
   | none=>rfl
   | some u=>
    have e':b=a:=hA b (by rw[q];simp);subst e';rw[ha] at e;cases e;have d':Data.seq vs.toArray _=Data.dict es ep:=d;cases d'
  have nsK:∀{b:Addr} {m:Str->Option Value},s₁.heap.Ns b m->(Gf s₁.heap H).Ns b m:=λ{b m} ⟨o,es,ep,e,d,r⟩=>⟨o,es,ep,Pu e (noA e d),d,r⟩;have hKb:K.In (Gf s₁.heap H):=λb o e=>Pu (KX b o e) (by
   cases q:H b with
   | none=>rfl
   | some u=>
    have e':b=a:=hA b (by rw[q];simp);subst e';rw[hK (by rw[q];simp)] at e;cases e)
  have hM:Mod K mg (Gf s₁.heap H):=⟨hKb,nsK hns,⟨mb,nsK hb,hbb⟩,let ⟨mc,h1,h2⟩:=hlim;⟨mc,nsK h1,h2⟩⟩;have e0:M3 P w K mg (Gf s₁.heap H) callerA [] s₁ H:=⟨rfl,hM,λb o e=>YL e,Nat.le_of_eq (Ro _ _),trivial,λb hb=>absurd (show b∈([]:List Addr) from hb) (by simp),hok,.of_eq hg⟩;refine Qkj ((F _ hKb (nsK hns)).run callerA [] s₁ H ⟨[.ref a],[]⟩ [.ref a] [.ref a] _ _ hr e0 (hbind s₁ (.ref a)) (.cons rfl .nil) (hsp H hO hS)) λr s' h=>?_;cases r with
  | error e=>exact(hCX H e s' h).elim
  | ok fl=>
   cases fl with
   | next=>exact False.elim h
   | brk=>exact False.elim h
   | cont=>exact False.elim h
   | ret u=>
    obtain⟨v,H',os,bare,un,hok',r',q⟩:=h;have q':v = .bl true:=q;subst q';obtain rfl:u=Value.bool true:=r';refine⟨rfl,OldK.of_keep λb o e=>?_,os,bare⟩;cases q:H b with
    | none=>exact un.keep b o e q (by intro z;exact absurd (show b∈([]:List Addr) from z) (by simp)) (by simp)
    | some u=>
     rcases hO b with z|⟨ob,xs,z⟩
     ·rw[q] at z;cases z
     ·have z2:=un.rZ b ob _ z;obtain⟨e1,_⟩:=hok b _ z;obtain⟨e2,_⟩:=hok' b _ z2;rw[e] at e1;cases e1;exact e2
 cases hk:K.lookup a with
 | some o=>
  -- the script is one of the module's own objects
  have e:=KX a o hk;rw[ha] at e;cases e;refine core (λ_=>none) (λ_=>.inl rfl) (.inr ⟨_,vs.toArray,_,hk,rfl,rfl,rfl,by rw[Qq4,lenV];exact hl,by simpa using rv⟩) (λb u z=>by have z':(none:Option HO)=some u:=z;cases z') (λb z=>absurd rfl z) λz=>absurd rfl z
 | none=>
  refine core (λb=>if b=a then some (.qP { cls:=.type "list",data:=.seq vs.toArray } (.lst (ns.map V.int))) else none) (λb=>?_) (.inl (.inr ⟨{ cls:=.type "list",data:=.seq vs.toArray },if_pos rfl⟩)) (λb u z=>?_) (λb z=>?_) λ_=>hk
  ·by_cases hb:b=a
   ·exact .inr ⟨_,_,if_pos hb⟩
   ·exact .inl (if_neg hb)
  ·by_cases hb:b=a
   ·have z':=(if_pos hb).symm.trans z;cases z';subst hb;exact⟨ha,by rw[Qqk];exact hl,vs,_,rv,ha⟩
   ·have z':=(if_neg hb).symm.trans z;cases z'
  ·by_cases hb:b=a
   ·exact hb
   ·exact absurd (if_neg hb) z
def inClass(s:Stmt)(j:Nat):Stmt:=match s with
 | .ClassDef _ _ _ body _ _ _ _ _ _ _=>body.getD j (.Pass ⟨0,0,0,0⟩)
 | _=>.Pass ⟨0,0,0,0⟩
def fL(s:Stmt):Arguments:=match s with
 | .FunctionDef _ a _ _ _ _ _ _ _ _=>a
 | _=>{ posonlyargs:=[],args:=[],vararg:=none,kwonlyargs:=[],kw_defaults:=[],kwarg:=none,defaults:=[] }
def cL(s:Stmt):List Stmt:=match s with
 | .FunctionDef _ _ b _ _ _ _ _ _ _=>b
 | _=>[]
def aO(s:Stmt):Scope:=match s with
 | .FunctionDef _ _ _ _ _ _ sc _ _ _=>sc
 | _=>{ kind:=.function,names:=[],isGenerator:=false,isCoroutine:=false }
abbrev Cu:Xf:=λ_ _ _ _ _ _=>False
abbrev E0:XK:=λ_ _ _=>False
def U6{X:Cx}:Passes Cu X E0:=λ_ _ _ _ _ _ _ h=>h.elim
structure R0(K:PySem.W.Frag)(x qual:Str)(st:Stmt)(f:Addr)(fd:FuncData):Prop where
 ex:∃(oc:Value) (od:Option Addr) (kV doc pm:Value) (an:Option Addr) (cdv ct:Value) (osl:Array (Option Value)),
  fd=PySem.W.fnOf x qual (fL st) (cL st) (aO st) .none kV doc pm an cdv ct/\K.lookup f=some ⟨oc,od,.func fd,osl⟩/\PySem.W.codeIn K cdv qual=true
 kp:PySem.W.keepIn K (.ref f)=true
section
variable{P:Program}{w:World}{K:PySem.W.Frag}{mg:Str->Option Value}{base:Heap}
def R0.ok{x qual:Str}{st:Stmt}{f:Addr}{fd:FuncData}{N ps:List Str}{k:Nat}{sp:Sp}(F:R0 K x qual st f fd)(S:bH N ps (aO st))(len:∀vs H Q E,sp vs H Q E->vs.length=ps.length)
  (hbody:∀(cdv:Value) (A:Around) (outer:List Env) (s:Shared) (H:Hp) (vs:List V) (Q:VK) (E:XK),gq k (A.deeper (envOfC qual (aO st) s.heap.objs.size f cdv))->sp vs H Q E->
   ∃t,Bm (Gs Cu P w K mg base N qual (aO st) f cdv A outer s H E).wU (cL st) t/\t { nx:=λ_ H'=>Q .non H',rt:=Q } (start N vs) H):mJ P w K mg base Cu (k+1) f fd ps sp:=by
 obtain⟨oc,od,kV,doc,pm,an,cdv,ct,osl,rfl,lk,hcd⟩:=F.ex;refine abi lk hcd S len λA outer s H vs Q E hr hsp=>?_;obtain⟨t,h,q⟩:=hbody cdv A outer s H vs Q E hr hsp;exact⟨t,h.wU,q⟩
def R0.binds{x qual:Str}{st:Stmt}{f:Addr}{fd:FuncData}{ps:List Str}(F:R0 K x qual st f fd)
  (h:∀(kV doc pm:Value) (an:Option Addr) (cdv ct:Value) (us:List Value),us.length=ps.length->bindArgs (PySem.W.fnOf x qual (fL st) (cL st) (aO st) .none kV doc pm an cdv ct) ⟨us,[]⟩=pure (ps.zip us)):Binds K fd ps []:=by
 obtain⟨oc,od,kV,doc,pm,an,cdv,ct,osl,rfl,lk,hcd⟩:=F.ex;exact .all (h kV doc pm an cdv ct)
def Gn{x qual:Str}{st:Stmt}{f:Addr}{oc:Value}{od an:Option Addr}{osl:Array (Option Value)}{kV doc pm cdv ct:Value}(l:K.lookup f=some ⟨oc,od,.func (PySem.W.fnOf x qual (fL st) (cL st) (aO st) .none kV doc pm an cdv ct),osl⟩)
  (c:PySem.W.codeIn K cdv qual=true) (k:PySem.W.keepIn K (.ref f)=true):R0 K x qual st f (PySem.W.fnOf x qual (fL st) (cL st) (aO st) .none kV doc pm an cdv ct):=⟨⟨oc,od,kV,doc,pm,an,cdv,ct,osl,rfl,l,c⟩,k⟩
end
def agn{A B:Prop}(h:B):if false=true then A else B:=by rw[if_neg Qxq];exact h
def agm{A B:Prop}(h:A):if true=true then A else B:=by rw[if_pos rfl];exact h
def aU(H H':Hp):Prop:=∀b o,H b=some o->H' b=some o
def aU.refl(H:Hp):aU H H:=λ_ _ h=>h
def aU.trans{H H1 H2:Hp}(a:aU H H1)(b:aU H1 H2):aU H H2:=λc o h=>b c o (a c o h)
def aU.free{H H':Hp}(e:aU H H'){l:Addr}(h:H' l=Option.none):H l=Option.none:=by
 cases q:H l with
 | none=>rfl
 | some o=>
  rw[e l o q] at h;cases h
theorem aU.seq{K:PySem.W.Frag}{H H':Hp}{a:Addr}{xs:List V}(e:aU H H')(h:j8 K H a xs):j8 K H' a xs:=by
 rcases h with (h|⟨o,h⟩)|h
 ·exact .inl (.inl (e _ _ h))
 ·exact .inl (.inr ⟨o,e _ _ h⟩)
 ·exact .inr h
section
variable{κ:Type}[DecidableEq κ]
def yq(kvs:List (κ×V))(k:κ):Option V:=(kvs.find? λkv=>decide (kv.1=k)).map (·.2)
def putK(kvs:List (κ×V))(k:κ)(v:V):List (κ×V):=
 if (kvs.any λkv=>decide (kv.1=k))=true then kvs.map (λkv=>if kv.1=k then (kv.1,v) else kv) else kvs++[(k,v)]
def uy{p:κ×V}{r:List (κ×V)}{k:κ}(e:p.1=k):yq (p::r) k=some p.2:=by simp[yq,Qkx,e]
def uz{p:κ×V}{r:List (κ×V)}{k:κ}(e:¬p.1=k):yq (p::r) k=yq r k:=by simp[yq,Qkx,e]
theorem yX(k:κ):∀kvs:List (κ×V),(kvs.any λkv=>decide (kv.1=k))=(yq kvs k).isSome
 | []=>rfl
 | p::r=>by
  rw[List.any_cons];by_cases e:p.1=k
  ·simp only[uy e,Qw8 e,Bool.true_or,Option.isSome_some]
  ·rw[uz e,Qw6 e,Bool.false_or];exact yX k r
def xP(kvs:List (κ×V))(k:κ)(v:V):(putK kvs k v).length<=kvs.length+1:=by
 unfold putK;split
 ·rw[Qqk];omega
 ·rw[Qqq,Qq0,Qz8];omega
def Cr.Rf{o:Option V}{u:Option Value}(r:Cr o u):o.isSome=u.isSome:=by
 cases o with
 | none=>cases u with
  | none=>rfl
  | some _=>exact(show False from r).elim
 | some _=>cases u with
  | none=>exact(show False from r).elim
  | some _=>rfl
def KV.val{kvs:List (κ×V)}{vs:List (κ×Value)}(r:KV kvs vs)(k:κ):Cr (yq kvs k) (valueAt vs k):=by
 unfold KV at r
 induction r with
 | nil=>exact True.intro
 | @cons p q ps qs h t ih=>
  obtain⟨h1,h2⟩:=h;by_cases e:p.1=k
  ·have e':q.1=k:=h1.symm.trans e;have b:valueAt (q::qs) k=some q.2:=by simp[valueAt,Qkx,e']
   rw[uy e,b];exact h2
  ·have e':¬q.1=k:=λz=>e (h1.trans z);have b:valueAt (q::qs) k=valueAt qs k:=by simp[valueAt,Qkx,e']
   rw[uz e,b];exact ih
def KV.any{kvs:List (κ×V)}{vs:List (κ×Value)}(r:KV kvs vs)(k:κ):(kvs.any λkv=>decide (kv.1=k))=vs.any λkv=>decide (kv.1=k):=by
 unfold KV at r
 induction r with
 | nil=>rfl
 | cons h t ih=>rw[List.any_cons,List.any_cons,ih,h.1]
def KV.repl{kvs:List (κ×V)}{vs:List (κ×Value)}(r:KV kvs vs)(k:κ){y:V}{u:Value}(ry:RelV y u) :
  KV (kvs.map λkv=>if kv.1=k then (kv.1,y) else kv) (vs.map λkv=>if kv.1=k then (kv.1,u) else kv):=by
 unfold KV at r ⊢
 induction r with
 | nil=>exact .nil
 | @cons p q ps qs h t ih=>
  rw[Qq7,Qq7];refine .cons ?_ ih;obtain⟨h1,h2⟩:=h;by_cases e:p.1=k
  ·rw[if_pos e,if_pos (h1.symm.trans e)];exact⟨h1,ry⟩
  ·rw[if_neg e,if_neg (λz=>e (h1.trans z))];exact⟨h1,h2⟩
def KV.put{kvs:List (κ×V)}{vs:List (κ×Value)}(r:KV kvs vs)(k:κ){y:V}{u:Value}(ry:RelV y u):KV (putK kvs k y) (stored vs k u):=by
 unfold putK stored;rw[r.any k];by_cases e:(vs.any λkv=>decide (kv.1=k))=true
 ·rw[if_pos e,if_pos e];exact r.repl k ry
 ·rw[if_neg e,if_neg e];exact Paired.snoc r ⟨rfl,ry⟩
def KV.keys{kvs:List (κ×V)}{vs:List (κ×Value)}(r:KV kvs vs):kvs.map (·.1)=vs.map (·.1):=by
 unfold KV at r
 induction r with
 | nil=>rfl
 | cons h t ih=>rw[Qq7,Qq7,ih,h.1]
def KV.length{kvs:List (κ×V)}{vs:List (κ×Value)}(r:KV kvs vs):kvs.length=vs.length:=Paired.length r
end
def Vy{P:Program}{w:World}{k:Key}{u:Value}(r:RelV (kV k) u):(gO P w).is k u=true:=by
 cases k with
 | inl i=>obtain⟨t,e⟩:=(show ∃t,u=Value.int i t from r);subst e;exact IW P w i t
 | inr x=>obtain⟨t,e⟩:=(show ∃t,u=Value.str x t from r);subst e;exact IV P w x t
theorem Dr{P:Program}{w:World}:∀{ks:List Key} {us:List Value},Vals (ks.map kV) us->ItemsAre (gO P w) ks us
 | [],_,r=>by rw[List.map_nil] at r;cases r;exact .nil
 | k::ks,_,r=>by
  rw[Qq7] at r;cases r with
  | cons h t=>exact .cons (Vy h) (Dr t)
abbrev KT(H:Hp):List (List Key×V)->List (List Key×Addr×Value)->Prop:=Paired λp q=>p.1=q.1/\H q.2.1=some (.tup (p.1.map kV))/\RelV p.2 q.2.2
def KT.val{H:Hp}{kvs:List (List Key×V)}{xs:List (List Key×Addr×Value)}(r:KT H kvs xs)(k:List Key):Cr (yq kvs k) ((atKey xs k).map (·.2)):=by
 induction r with
 | nil=>exact True.intro
 | @cons p q ps qs h t ih=>
  obtain⟨h1,_,h2⟩:=h;by_cases e:p.1=k
  ·have e':q.1=k:=h1.symm.trans e;have b:atKey (q::qs) k=some q.2:=by simp[atKey,Qkx,e']
   rw[uy e,b];exact h2
  ·have e':¬q.1=k:=λz=>e (h1.trans z);have b:atKey (q::qs) k=atKey qs k:=by simp[atKey,Qkx,e']
   rw[uz e,b];exact ih
def KT.repl{H:Hp}{kvs:List (List Key×V)}{xs:List (List Key×Addr×Value)}(r:KT H kvs xs)(k:List Key){y:V}{u:Value}(ry:RelV y u) :
  KT H (kvs.map λkv=>if kv.1=k then (kv.1,y) else kv) (xs.map (putAt k u)):=by
 induction r with
 | nil=>exact .nil
 | @cons p q ps qs h t ih=>
  rw[Qq7,Qq7];refine .cons ?_ ih;obtain⟨h1,h2,h3⟩:=h;unfold putAt;by_cases e:p.1=k
  ·rw[if_pos e,if_pos (h1.symm.trans e)];exact⟨h1,h2,ry⟩
  ·rw[if_neg e,if_neg (λz=>e (h1.trans z))];exact⟨h1,h2,h3⟩
def KT.put{H:Hp}{kvs:List (List Key×V)}{xs:List (List Key×Addr×Value)}(r:KT H kvs xs)(k:List Key){b:Addr}{y:V}{u:Value}(hb:H b=some (.tup (k.map kV)))(ry:RelV y u) :
  KT H (putK kvs k y) (storedH xs k b u):=by
 have e:(kvs.any λkv=>decide (kv.1=k))=(atKey xs k).isSome:=by rw[yX,(r.val k).Rf,Option.isSome_map]
 unfold putK storedH;rw[e];by_cases q:(atKey xs k).isSome=true
 ·rw[if_pos q,if_pos q];exact r.repl k ry
 ·rw[if_neg q,if_neg q];exact Paired.snoc r ⟨rfl,hb,ry⟩
def KT.keeps{H H':Hp}{kvs:List (List Key×V)}{xs:List (List Key×Addr×Value)}(r:KT H kvs xs)(ht:∀b ys,H b=some (.tup ys)->H' b=some (.tup ys)):KT H' kvs xs:=
 Paired.adH r λ_ _ z=>⟨z.1,ht _ _ z.2.1,z.2.2⟩
section
variable{P:Program}{w:World}{H:Hp}{h:Heap}{a:Addr}
def aaJ{u:HO}(ok:pG P w H h)(e:Rd H a u):fX P w H h a u:=e.ok ok
def Pb{kvs:List (Key×V)}(ok:pG P w H h)(e:Rd H a (.dK kvs)):kvs.length<=sizeLine/\(a == sysModules)=false/\∃vs,KV kvs vs/\h.DictOf (gO P w) a vs:=
 show fX P w H h a (.dK kvs) from aaJ ok e
def agJ{kvs:List (Key×V)}(ok:pG P w H h)(e:H a=some (.dK kvs)):kvs.length<=sizeLine/\(a == sysModules)=false/\∃vs,KV kvs vs/\h.DictOf (gO P w) a vs:=Pb ok (.inl e)
def Ly{ks:List Key}(ok:pG P w H h)(e:H a=some (.tup (ks.map kV))):(tupleKind (gO P w)).is h ks a:=by obtain⟨_,its,r,o,h1,h2,⟨n,h3⟩,_⟩:=(show fX P w H h a (.tup (ks.map kV)) from ok a _ e);exact⟨o,its.toArray,n,h1,h2,h3,by simpa using Dr r⟩
def Wi{kvs:List (List Key×V)}(ok:pG P w H h)(e:Rd H a (.dT kvs)):kvs.length<=sizeLine/\(a == sysModules)=false/\
  ∃xs,KT H kvs xs/\h.DictOfH (tupleKind (gO P w)) a xs:=by
 obtain⟨z,y,xs,r,o,es,ep,h1,h2,h3,h4,h5⟩:=(show fX P w H h a (.dT kvs) from aaJ ok e);refine⟨z,y,xs,r,o,es,ep,h1,h2,h3,h4,λx hx=>?_,h5⟩;have all:∀{l:List (List Key×V)} {m:List (List Key×Addr×Value)},KT H l m->∀x∈m,(tupleKind (gO P w)).is h x.1 x.2.1:=by
  intro l m q
  induction q with
  | nil=>intro x hx;exact nomatch hx
  | @cons p q ps qs hq t ih=>
   intro x hx;rcases Qq1.mp hx with e|hx
   ·subst e;exact Ly ok (by rw[<-hq.1];exact hq.2.1)
   ·exact ih x hx
 exact all r x hx
def agI{kvs:List (List Key×V)}(ok:pG P w H h)(e:H a=some (.dT kvs)):kvs.length<=sizeLine/\(a == sysModules)=false/\
  ∃xs,KT H kvs xs/\h.DictOfH (tupleKind (gO P w)) a xs:=Wi ok (.inl e)
end
def aau(H:Hp)(a:Addr)(y:V)(r:Option V):Prop:=
 (∃kvs k,Rd H a (.dK kvs)/\y=kV k/\r=yq kvs k)\/∃kvs k b,Rd H a (.dT kvs)/\y = .ref b/\H b=some (.tup (k.map kV))/\r=yq kvs k
def W3(H:Hp)(a:Addr)(y v:V)(H':Hp):Prop:=
 (∃kvs k,H a=some (.dK kvs)/\y=kV k/\kvs.length<sizeLine/\H'=upd H a (.dK (putK kvs k v)))\/
 ∃kvs k b,H a=some (.dT kvs)/\y = .ref b/\H b=some (.tup (k.map kV))/\kvs.length<sizeLine/\H'=upd H a (.dT (putK kvs k v))
theorem W3.k{H:Hp}{a:Addr}{kvs:List (Key×V)}{k:Key}{v:V}(e:H a=some (.dK kvs))(hl:kvs.length<sizeLine):W3 H a (kV k) v (upd H a (.dK (putK kvs k v))):=.inl ⟨kvs,k,e,rfl,hl,rfl⟩
section
variable{X:Cx}{pins:List (Addr×Obj)}{σ:St}{H:Hp}{s:Shared}{a:Addr}{y v:V}{u r:Value}{o:Option V}{A:Around}{E:Value->Shared->Prop}
def Inv.big(I:Inv X pins σ H s):sysModules<s.heap.objs.size:=by have h:mainGlobals<s.heap.objs.size:=(I.mod.glob.keeps I.bk).lt;exact Nat.lt_trans (by decide) h
def Rz{Q:Value->Shared->Prop}(hu:A.units+1<cLine)(I:Inv X pins σ H s)(g:aau H a y (some v))(ry:RelV y u)(h:∀w' s',Inv X pins σ H s'->RelV v w'->Q w' s') :
  wpAny (model X.prog X.w) A (getItem (.ref a) u) Q E s:=by
 rcases g with ⟨kvs,k,e,ey,l⟩|⟨kvs,k,b,e,ey,eb,l⟩
 ·subst ey;obtain⟨z,hd,vs,rel,dd⟩:=Pb I.hok e;obtain⟨w',hw,zu⟩:=Cr.some_of (v:=v) (o:=valueAt vs k) (by rw[l];exact rel.val k);exact wpAny_getItem_of (Vy ry) dd.mapOf hw (h w' _ (I.tok _) zu)
 ·subst ey;cases(show u=Value.ref b from ry);obtain⟨z,hd,xs,rel,dd⟩:=Wi I.hok e;obtain⟨w',hw,zu⟩:=Cr.some_of (v:=v) (o:=(atKey xs k).map (·.2)) (by rw[l];exact rel.val k);obtain⟨p,hp,hp2⟩:=Qw1.mp hw;refine wpAny_getItem_heap (tupleKind_room_in1 hu) (Ly I.hok eb) dd hp ?_;rw[hp2];exact h w' _ (I.tok _) zu
def Ph{h':Heap}{t':Nat}{ob:HO}(I:Inv X pins σ H s)(mu:Mut (H a))(hs:Heap.SameBut a s.heap h')(he:∃q,h'.get? a=some q)(new:fX X.prog X.w (upd H a ob) h' a ob) :
  Inv X pins σ (upd H a ob) { s with heap:=h',toks:=t' }:=
 I.write (x:=a) (e:=a) mu (.inl rfl) (λb q hb z=>(hs.2 b hb).trans z) he new
def aei{P:Program}{w:World}{H':Hp}{h':Heap}{kvs:List (Key×V)}{vs:List (Key×Value)}(z:kvs.length<=sizeLine)(hd:(a == sysModules)=false)(rel:KV kvs vs)(dd:h'.DictOf (gO P w) a vs) :
  fX P w H' h' a (.dK kvs):=⟨z,hd,vs,rel,dd⟩
def Ry{H':Hp}{Q:Unit->Shared->Prop}(hu:A.units+1<cLine)(I:Inv X pins σ H s)(g:W3 H a y v H')(ry:RelV y u)(rv:RelV v r)(h:∀s',Inv X pins σ H' s'->Q () s') :
  wpAny (model X.prog X.w) A (setItem (.ref a) u r) Q E s:=by
 rcases g with ⟨kvs,k,e,ey,l,eH⟩|⟨kvs,k,b,e,ey,eb,l,eH⟩
 ·subst ey eH;obtain⟨z,hd,vs,rel,dd⟩:=agJ I.hok e;have hz:vs.length<=sizeLine:=by rw[<-rel.length];exact z
  have hl:(putK kvs k v).length<=sizeLine:=by have:=xP kvs k v;omega
  refine wpAny_setItem_pairs (hsz:=hz) (Vy ry) dd λh' dd' hs=>h _ ?_;have he:∃q,h'.get? a=some q:=let ⟨q,_,_,hq,_⟩:=dd';⟨q,hq⟩
  exact Ph I (by rw[e];exact True.intro) hs he (aei hl hd (rel.put k rv) dd')
 ·subst ey eH;cases(show u=Value.ref b from ry);obtain⟨z,hd,xs,rel,dd⟩:=agI I.hok e;have hz:xs.length<=sizeLine:=by rw[<-Paired.length rel];exact z
  have hl:(putK kvs k v).length<=sizeLine:=by have:=xP kvs k v;omega
  refine wpAny_setItem_heap (hsz:=hz) (tupleKind_room_in1 hu) (Ly I.hok eb) dd λh' dd' hs=>h _ ?_;obtain⟨q,es,ep,hq,h2,h3,h4,_,h5⟩:=dd';refine Ph I (by rw[e];exact True.intro) hs ⟨q,hq⟩ ⟨hl,hd,_,(rel.put k eb rv).keeps λc ys ec=>?_,q,es,ep,hq,h2,h3,h4,h5⟩;rw[bI (agb ec e (λz=>nomatch z))];exact ec
end
def aas(i:Expr):Prop:=∀ov iv,subscripted i false ov iv=operate [ov,iv] (getItem ov iv)
def Xv{prog:Program}{w:World}{A:Around}{E:Value->Shared->Prop}{s:Shared}{env:Env}{value slice:Expr}{pos:Pos}{T id:String}{Q:Value->Shared->Prop}
  (hl:typeLookup (.type T) "__getitem__" = pure (some (.builtin id))) (hs:aas slice)
  (h:wpAny (model prog w) A (eval value env) (λo s₁=>wpAny (model prog w) A (eval slice env) (λi s₂=>s₂.TypeIs o T/\wpAny (model prog w) A (getItem o i) Q E s₂) E s₁) E s) :
  wpAny (model prog w) A (eval (.Subscript value slice pos) env) Q E s:=by
 refine Subscript_ (Qxx h (λo s₁ h₁=>Qxx h₁ (λi s₂ h₂=>?_) λ_ _ x=>x) λ_ _ x=>x);obtain⟨hT,h₂⟩:=h₂;unfold subscriptTail;refine Qqx ?_;rw[getitemInPython_of_ne hT.not_modules];refine Qqx (Qj4 hT hl ?_);have fin:wpAny (model prog w) A (subscripted slice false o i) (λr s₃=>wpAny (model prog w) A (letTemporaryGo value o r >>= λ_=>pure r) Q E s₃) E s₂:=by rw[hs o i];exact wpAny_operating (Qxx h₂ (λr s₃ h₃=>Qqx (wpAny_letTemporaryGo (Qqw h₃))) λ_ _ x=>x)
 first
  | exact Qqw (Qqx fin)
  | exact Qqx (Qqw (Qqx fin))
  | exact Qqx fin
def Jy{X:Cx}{pins:List (Addr×Obj)}{σ:St}{H:Hp}{s:Shared}{a:Addr}{y:V}{o:Option V}(I:Inv X pins σ H s)(g:aau H a y o):s.TypeIs (.ref a) "dict":=by
 rcases g with ⟨kvs,k,e,_,_⟩|⟨kvs,k,b,e,_,_,_⟩
 ·obtain⟨_,_,vs,_,dd⟩:=Pb I.hok e;exact dd.typeIs
 ·obtain⟨_,_,xs,_,dd⟩:=Wi I.hok e;exact dd.typeIs
def afk(td ty:TE):TE:=λσ H Q=>td σ H λx H1=>ty σ H1 λy H2=>∃a v,x = .ref a/\aau H2 a y (some v)/\Q v H2
def afr(td ty tv:TE):TS:=λD σ H=>tv σ H λv H1=>td σ H1 λx H2=>ty σ H2 λy H3=>∃a H4,x = .ref a/\W3 H3 a y v H4/\D.nx σ H4
section
variable{X:Cx}{o i e value:Expr}{pos pos' tpos:Pos}{td ty tv:TE}
def YB(hu:X.A.units+1<cLine)(ho:PE X o td)(hi:PE X i ty)(hs:aas i):PE X (.Subscript o i pos) (afk td ty):=by intro pins s σ H Q I h;refine Xv PySem.F.slot_dict_getitem.lookup hs (fK (ho pins s σ H _ I h) λu s1 ⟨x,H1,I1,rx,q1⟩=>fK (hi pins s1 σ H1 _ I1 q1) λiv s2 ⟨y,H2,I2,ry,a,v,ex,g,q2⟩=>?_);subst ex;obtain rfl:u=Value.ref a:=rx;exact⟨Jy I2 g,Rz hu I2 g ry λw' s3 I3 zu=>⟨v,H2,I3,zu,q2⟩⟩
def Yq(hu:X.A.units+1<cLine)(ho:PE X o td)(hi:PE X i ty)(hv:PE X value tv)(hs:swapsWith value (some (.Subscript o i pos')) pos.line X.env=pure false) :
  PS X (.Assign [.Subscript o i pos'] value pos) (afr td ty tv):=by
 intro pins s σ H D I h;refine wpAny_Assign_Subscript (fK (hv pins s σ H _ I h) λr s1 ⟨v,H1,I1,rv,q1⟩=>fK (ho pins s1 σ H1 _ I1 q1) λu s2 ⟨x,H2,I2,rx,q2⟩=>fK (hi pins s2 σ H2 _ I2 q2) λiv s3 ⟨y,H3,I3,ry,a,H4,ex,g,q3⟩=>?_) hs;subst ex;obtain rfl:u=Value.ref a:=rx;exact Ry hu I3 g ry rv λs4 I4=>⟨σ,H4,I4,q3⟩
end
def Wj{P:Program}{w:World}{H:Hp}(h:Heap)(hb:sysModules<h.objs.size):fX P w H (h.push { cls:=.type "dict",data:=.dict #[] }) h.objs.size (.dK []):=
 ⟨Qzy _,Qwx.mpr (Ne.symm (Qwv hb)),[],.nil,Heap.DictOf.new h⟩
def ab2:TE:=λ_ H Q=>∀p,H p=none->Q (.ref p) (upd H p (.dK []))
section
variable{X:Cx}{pos:Pos}
def U5:PE X (.Dict [] [] pos) ab2:=λpins s σ H Q I h=>
 wpAny_Dict_empty ⟨.ref s.heap.objs.size,_,I.laid (a:=s.heap.objs.size) (o:=.dK []) (t':=s.toks) (λ_ _ q=>Qqz _ q) (Qq2 _) (Wj s.heap I.big),rfl,h _ (I.hok.fresh (Qq2 _))⟩
end
def mF(env:Env):List (Str×NameKind)->List (Str×Addr)->List (Str×Addr)
 | [],acc=>acc
 | (n,k)::r,acc=>if k == .free then mF env r ((n,(env.cells.lookup n).getD 0)::acc) else mF env r acc
theorem Ax{env:Env}(f:Str×NameKind->List (Str×Addr)->Sem (ForInStep (List (Str×Addr))))
  (hf:∀n k cs,f (n,k) cs=if k == .free then (do let a <-cellOf env n;pure (.yield ((n,a)::cs))) else pure (.yield cs)) :
  ∀(names:List (Str×NameKind)) (acc:List (Str×Addr)),(∀n,(n,NameKind.free)∈names->∃c,env.cells.lookup n=some c)->forIn names acc f=pure (mF env names acc)
 | [],acc,_=>by rw[List.forIn_nil];rfl
 | (n,k)::r,acc,h=>by
  have ih:=Ax f hf r;have hr:∀n,(n,NameKind.free)∈r->∃c,env.cells.lookup n=some c:=λm hm=>h m (Qqy _ hm);rw[List.forIn_cons,hf];cases hk:k == NameKind.free with
  | true=>
   have hk':k = .free:=by simpa using hk
   obtain⟨c,hc⟩:=h n (by rw[hk'];exact Qqv);rw[if_pos rfl];unfold cellOf;rw[hc];simp only[pure_bind];rw[ih _ hr]
   conv=>rhs;unfold mF
   rw[if_pos hk,hc]
   rfl
  | false=>
   rw[if_neg (by simp)];simp only[pure_bind];rw[ih _ hr]
   conv=>rhs;unfold mF
   rw[if_neg (by simp[hk])]
def Ay{scope:Scope}{env:Env}(h:∀n,(n,NameKind.free)∈scope.names->∃c,env.cells.lookup n=some c):closureFor scope env=pure (mF env scope.names []):=by
 simp only[closureFor];rw[Ax (env:=env) _ (λn k cs=>by cases hk:k == NameKind.free<;>simp[hk]) _ _ h]
 rfl
theorem vB{env:Env}:∀(names:List (Str×NameKind)) (acc:List (Str×Addr)) (x:Str) (c:Addr),(∀n,(n,NameKind.free)∈names->∃c,env.cells.lookup n=some c)->
  (∀y d,acc.lookup y=some d->env.cells.lookup y=some d)->(mF env names acc).lookup x=some c->env.cells.lookup x=some c
 | [],acc,x,c,_,ha,h=>ha x c h
 | (n,k)::r,acc,x,c,hn,ha,h=>by
  have hr:∀n,(n,NameKind.free)∈r->∃c,env.cells.lookup n=some c:=λm hm=>hn m (Qqy _ hm);unfold mF at h;split at h
  ·rename_i hk;have hk':k = .free:=by simpa using hk
   obtain⟨d,hd⟩:=hn n (by rw[hk'];exact Qqv);refine vB r _ x c hr (λy e he=>?_) h;rw[Qx8] at he;cases hy:y == n with
   | true=>
    rw[hy] at he;have e1:y=n:=by simpa using hy
    rw[e1,hd];rw[hd] at he;exact he
   | false=>
    rw[hy] at he;exact ha y e he
  ·exact vB r acc x c hr ha h
theorem xr{env:Env}:∀(names:List (Str×NameKind)) (acc:List (Str×Addr)) (x:Str),(acc.lookup x).isSome=true->((mF env names acc).lookup x).isSome=true
 | [],acc,x,h=>h
 | (n,k)::r,acc,x,h=>by
  unfold mF;split
  ·refine xr r _ x ?_;rw[Qx8];split
   ·rfl
   ·exact h
  ·exact xr r acc x h
theorem vA{env:Env}:∀(names:List (Str×NameKind)) (acc:List (Str×Addr)) (x:Str),(x,NameKind.free)∈names->((mF env names acc).lookup x).isSome=true
 | [],acc,x,h=>nomatch h
 | (n,k)::r,acc,x,h=>by
  unfold mF;rcases Qq1.mp h with e|h
  ·obtain⟨e1,e2⟩:=Prod.mk.inj e;subst e1 e2;rw[if_pos (by rfl)];refine xr r _ x ?_;rw[Qx8];simp
  ·split
   ·exact vA r _ x h
   ·exact vA r acc x h
theorem fH:∀(names:List (Str×NameKind)) (n:Nat) (acc:List (Str×Addr)),cellsFrom n names acc=cellsFrom n names []++acc
 | [],n,acc=>rfl
 | (x,k)::r,n,acc=>by
  unfold cellsFrom;split
  ·rw[fH r (n+1) ((x,n)::acc),fH r (n+1) [(x,n)],Qwk]
   rfl
  ·exact fH r n acc
theorem nD:∀(names:List (Str×NameKind)) (n:Nat) (x:Str) (c:Addr),(x,c)∈cellsFrom n names []->(x,NameKind.cell)∈names
 | [],n,x,c,h=>nomatch h
 | (y,k)::r,n,x,c,h=>by
  unfold cellsFrom at h;split at h
  ·rename_i hk;have hk':k = .cell:=by simpa using hk
   rw[fH] at h;rcases Qw4.mp h with h|h
   ·exact Qqy _ (nD r _ x c h)
   ·have e:=Qww.mp h;cases e;rw[hk'];exact Qqv
  ·exact Qqy _ (nD r _ x c h)
theorem o7{α:Type}:∀(l m:List (Str×α)) (x:Str),(l++m).lookup x=match l.lookup x with|some v=>some v|none=>m.lookup x
 | [],m,x=>rfl
 | (k,v)::r,m,x=>by
  rw[Qjq,Qx8,Qx8];cases h:x == k with
  | true=>rfl
  | false=>exact o7 r m x
theorem qH{α:Type}:∀(l:List (Str×α)) (x:Str),(∀v,(x,v) ∉ l)->l.lookup x=none
 | [],x,_=>rfl
 | (k,v)::r,x,h=>by
  rw[Qx8];cases e:x == k with
  | true=>
   have e':x=k:=by simpa using e
   exact absurd (by rw[e'];exact Qqv) (h v)
  | false=>exact qH r x λw hw=>h w (Qqy _ hw)
theorem lookup_mem{α:Type}:∀(l:List (Str×α)) (x:Str) (v:α),l.lookup x=some v->(x,v)∈l
 | [],x,v,h=>nomatch h
 | (k,w)::r,x,v,h=>by
  rw[Qx8] at h;cases e:x == k with
  | true=>
   rw[e] at h;cases h;have e':x=k:=by simpa using e
   rw[e'];exact Qqv
  | false=>
   rw[e] at h;exact Qqy _ (lookup_mem r x v h)
theorem iH{α:Type}:∀(l:List (Str×α)) (x:Str) (v:α),(l.map (·.1)).Nodup->(x,v)∈l->l.lookup x=some v
 | [],x,v,_,h=>nomatch h
 | (k,w)::r,x,v,nd,h=>by
  rw[Qx8];have nd':=Qj3.mp nd;rcases Qq1.mp h with e|h
  ·cases e;simp
  ·have hne:¬x=k:=λe=>nd'.1 (by rw[<-e];exact Qw0.mpr ⟨(x,v),h,rfl⟩);have hb:(x == k)=false:=by simpa using hne
   rw[hb];exact iH r x v nd'.2 h
def Iu{M:Model}{A:Around}{E:Value->Shared->Prop}{s:Shared}{scope:Scope}{globals:Addr}{cl:List (Str×Addr)}{qual:Str}{outer:Env}{Q:Env->Shared->Prop}
  (hQ:∀h',h'.Ns s.heap.objs.size (λ_=>none)->(∀b o,s.heap.get? b=some o->h'.get? b=some o)->CellsOk h' (s.heap.objs.size+1) (cellsFrom (s.heap.objs.size+1) scope.names [])->
   Q { scope,locals:=s.heap.objs.size,globals,cells:=cellsFrom (s.heap.objs.size+1) scope.names cl,qual,func:=none,code:=outer.code,frame:=outer.frame,builtins:=outer.builtins } { s with heap:=h' }) :
  wpAny M A (newFunctionEnv scope globals cl [] qual none .none (some outer)) Q E s:=by
 simp only[newFunctionEnv,Option.isSome_some,if_true];refine Qqx (wpAny_alloc ?_);refine Qqx (wpAny_layCells _ (λname kind cells=>by cases hkc:kind == NameKind.cell<;>simp[hkc]) _ _ _ _ ?_);have ok:=cellsFrom_ok scope.names (s.heap.push { cls:=.type "dict",data:=.dict #[] }) (s.heap.objs.size+1) [] ⟨λ_ _ hm=>(nomatch hm),List.Pairwise.nil⟩ (by rw[Qjz];exact Qq2 _);rw[Qjz] at ok;rw[show({ s with heap:=s.heap.push { cls:=.type "dict",data:=.dict #[] } }:Shared).heap.objs.size=s.heap.objs.size+1 from Qjz ..];refine Qqx ?_;rw[List.forIn_nil];refine Qqw (Qqw (hQ _ ?_ ?_ ?_))
 ·exact(Heap.Ns.new s.heap (.type "dict")).keeps (pushCells_keeps _ _)
 ·exact λb o e=>pushCells_keeps _ _ b o (Qqz _ e)
 ·exact ok
def cxC(X:Cx)(scope:Scope)(N':List Str)(cells:List (Str×Addr))(C:Addr)(s0:Shared)(H0:Hp)(fp:List Addr):Cx:=
 { X with N:=N',s₀:=s0,H₀:=H0,env:=compEnvC scope cells C X.env,outer:=X.stack,stack:=X.stack,ex:=fp,fn:=λx=>decide (scope.names.lookup x=some .cell),pn:=[],xe:=λ_ _=>False }
theorem qG{env:Env}:∀(names:List (Str×NameKind)) (x:Str),
  (names.map λ(n,k)=>if (k == NameKind.free&&env.scope.kind == .function&&env.kindOf n == some .cell) then (n,NameKind.cell) else (n,k)).lookup x =
   (names.lookup x).map λk=>if (k == NameKind.free&&env.scope.kind == .function&&env.kindOf x == some .cell) then NameKind.cell else k
 | [],x=>rfl
 | (n,k)::r,x=>by
  show List.lookup x ((if (k == NameKind.free&&env.scope.kind == .function&&env.kindOf n == some .cell)=true then (n,NameKind.cell) else (n,k))::_)=_;cases hx:x == n with
  | true=>
   have e:x=n:=by simpa using hx
   subst e;simp only[Qx8,hx,Qkz];split<;>simp[Qx8]
  | false=>
   simp only[Qx8,hx];rw[<-qG r x];split<;>simp only[Qx8,hx]
def Wn(names:List (Str×NameKind)):List Str->List Str->Bool
 | _,[]=>true
 | [],_::_=>false
 | x'::N',x::N=>((names.lookup x').isNone||(x' == x&&names.lookup x' == some .free))&&Wn names N' N
theorem JG{names:List (Str×NameKind)}:∀{N' N:List Str},Wn names N' N=true->∀(i:Nat) (x:Str),i<N.length->N'[i]? = some x->(names.lookup x).isSome=true->N[i]? = some x/\names.lookup x=some .free
 | _,[],_,i,x,h,_,_=>absurd h (Nat.not_lt_zero _)
 | [],_::_,h,_,_,_,_,_=>by cases h
 | x'::N',y::N,h,i,x,hi,e,hs=>by
  unfold Wn at h;have h1:=(Qj2.mp h).1;have h2:=(Qj2.mp h).2;cases i with
  | zero=>
   have e':x'=x:=by simpa using e
   subst e';rcases Bool.or_eq_true_iff.mp h1 with q|q
   ·cases z:names.lookup x' with
    | none=>rw[z] at hs;cases hs
    | some k=>rw[z] at q;cases q
   ·have q1:=(Qj2.mp q).1;have q2:=(Qj2.mp q).2;have e1:x'=y:=by simpa using q1
    have e2:names.lookup x'=some .free:=by simpa using q2
    exact⟨by rw[e1];rfl,e2⟩
  | succ i=>exact JG h2 i x (by simpa using hi) (by simpa using e) hs
structure mD(X:Cx)(scope:Scope)(N':List Str):Prop where
 kind:scope.kind = .function
 nd:(scope.names.map (·.1)).Nodup
 free:∀x∈scope.names,x.2 = .free->X.env.kindOf x.1=some .cell\/X.env.kindOf x.1=some .free
 chk:Wn scope.names N' X.N=true
 len:X.N.length<=N'.length
def PIf(X:Cx)(ifs:List Expr)(t:TT):Prop:=
 ∀(pins:List (Addr×Obj)) (s:Shared) (σ:St) (H:Hp) (Q:Bool->Hp->Prop),Inv X pins σ H s->t σ H Q->
  wpAny (model X.prog X.w) X.A (forIn ifs true λc r=>if r=true then do let ok <-isTrue c X.env (eval c X.env);pure (ForInStep.yield ok) else pure (ForInStep.yield r)) (TP X pins σ Q) X.xe s
def Yu{X:Cx}:PIf X [] (λ_ H Q=>Q true H):=λpins s σ H Q I h=>by
 rw[List.forIn_nil];exact Qqw ⟨H,I,h⟩
def Yt{X:Cx}{c:Expr}{t:TT}(h:PT X c t):PIf X [c] t:=λpins s σ H Q I hw=>by
 rw[List.forIn_cons,if_pos rfl];refine Qqx (Qqx (fK (h pins s σ H Q I hw) λb s' q=>?_));refine Qqw ?_;show wpAny _ _ (forIn [] b _) _ _ _;rw[List.forIn_nil];exact Qqw q
def uM(n:Nat)(σ:St):St:=σ++List.replicate n none
def tLC(n:Nat)(wi:TI)(g:TG)(tc:TT)(te:TE):TE:=λσ H Q=>wi σ H λJ H1=>∀d,H1 d=none->∃W:Nat->Nat->St->Hp->Prop,(∃m,W 0 m (uM (n - σ.length) σ) (upd H1 d (.lst [])))/\∀i m σ' H',W i m σ' H'->
 (J.stop i H'/\Q (.ref d) H')\/(J.go i H'/\∃N:St->Hp->Prop,(∀σ2 H2,N σ2 H2->∃m',m'<m/\W (i+1) m' σ2 H2)/\∀x H2,J.yld i H' x H2->g x σ' H2 λσ3 H3=>tc σ3 H3 λb H4=>
  if b=true then te σ3 H4 λy H5=>∃ys,H5 d=some (.lst ys)/\ys.length<sizeLine/\N σ3 (upd H5 d (.lst (ys++[y]))) else N σ3 H4)
section
variable{prog:Program}{w:World}{A:Around}{R:Result->Shared->Prop}{s:Shared}
def Gv{elt target iter:Expr}{ifs:List Expr}{scope:Scope}{pos:Pos}{it acc:Value}{env:Env}(I:Nat->Shared->Prop)
  (turn:∀n s,I n s->wpAny (model prog w) A (pyNext it) (λr s₁=>match r with
   | none=>R (.ok .next) s₁
   | some v=>wpAny (model prog w) A (letOwnedTupleGo target it v) (λ_ s₁'=>wpAny (model prog w) A (assign target env v) (λ_ s₂=>
     wpAny (model prog w) A (forIn ifs true λc r=>if r=true then do let ok <-isTrue c env (eval c env);pure (ForInStep.yield ok) else pure (ForInStep.yield r)) (λok s₃=>
      if ok=true then wpAny (model prog w) A (eval elt env) (λx s₄=>
       wpAny (model prog w) A (call (.builtin "list.append") [acc,x]) (λ_ s₅=>∃m,m<n/\I m s₅) (λ_ _=>False) s₄) (λ_ _=>False) s₃
      else ∃m,m<n/\I m s₃) (λ_ _=>False) s₂) (λ_ _=>False) s₁') (λ_ _=>False) s₁) (λ_ _=>False) s)
  (n:Nat) (h:I n s) :
  codeAny (model prog w) A (.compLoop (.ListComp elt [⟨target,iter,ifs,0⟩] scope pos) 0 it acc env) R s:=by
 refine codeAny_loop rfl I (λn s hI=>?_) n h;show wpAny _ A ((compTurn (.ListComp elt [⟨target,iter,ifs,0⟩] scope pos) 0 it acc env).onRaise (λx=>do noteFrame x env;theTreesLotGoes x)) _ _ s;refine wpAny_noted ?_;rw[compTurn_list];refine Qqx (wpAny_standAt (Qqx (Qxx (turn n s hI) (λr s₁ h₁=>?_) λ_ _ h'=>h'.elim)));cases r with
 | none=>exact Qqw h₁
 | some v=>
  refine Qqx (Qxx h₁ (λ_ s₁' h₁'=>?_) λ_ _ h'=>h'.elim);refine Qqx (Qxx h₁' (λ_ s₂ h₂=>Qqx (Qxx h₂ (λok s₃ h₃=>?_) λ_ _ h'=>h'.elim)) λ_ _ h'=>h'.elim);cases ok with
  | false=>exact Qqw ⟨rfl,h₃⟩
  | true=>
   exact Qqx (Qqx (Qxx h₃ (λx s₄ h₄=>Qqx (Qxx h₄ (λ_ s₅ h₅=>Qqw (Qqw ⟨rfl,h₅⟩)) λ_ _ h'=>h'.elim)) λ_ _ h'=>h'.elim))
end
def VL{X:Cx}{scope:Scope}{N':List Str}{pins:List (Addr×Obj)}{σ:St}{H:Hp}{s:Shared}{h':Heap}{fp:List Addr}(ok:mD X scope N')(I:Inv X pins σ H s)(hf:∀b∈fp,Bo X pins H b)(hlt:∀b∈fp,b<s.heap.objs.size)
  (hn:h'.Ns s.heap.objs.size (λ_=>none)) (hk:∀b o,s.heap.get? b=some o->h'.get? b=some o) (co:CellsOk h' (s.heap.objs.size+1) (cellsFrom (s.heap.objs.size+1) scope.names [])) :
  Inv (cxC X scope N' (cellsFrom (s.heap.objs.size+1) scope.names (mF X.env scope.names [])) s.heap.objs.size s H fp) [] (uM (N'.length - σ.length) σ) H { s with heap:=h' }:=by
 have hfree:∀n,(n,NameKind.free)∈scope.names->∃c,X.env.cells.lookup n=some c:=λn hm=>I.ok.has n (ok.free _ hm rfl)
 -- the cells by name
 have pA:∀x c,(cellsFrom (s.heap.objs.size+1) scope.names (mF X.env scope.names [])).lookup x=some c->
   ((x,c)∈cellsFrom (s.heap.objs.size+1) scope.names []/\(cellsFrom (s.heap.objs.size+1) scope.names []).lookup x=some c)\/((cellsFrom (s.heap.objs.size+1) scope.names []).lookup x=none/\X.env.cells.lookup x=some c):=λx c e=>by
  rw[fH,o7] at e;cases q:(cellsFrom (s.heap.objs.size+1) scope.names []).lookup x with
  | some d=>rw[q] at e;cases e;exact .inl ⟨lookup_mem _ _ _ q,rfl⟩
  | none=>rw[q] at e;exact .inr ⟨rfl,vB _ _ x c hfree (λy d h=>by simp at h) e⟩
 have zH:∀x c,(x,c)∈cellsFrom (s.heap.objs.size+1) scope.names []->s.heap.objs.size+1<=c:=λx c h=>(co.empty x c h).2;have U9:∀x c,X.env.cells.lookup x=some c->c<s.heap.objs.size:=λx c h=>let ⟨v,q⟩:=I.cell x c h;q.lt
 have Gd:∀x,(relabel scope X.env).names.lookup x=(scope.names.lookup x).map λk=>if (k == NameKind.free&&X.env.scope.kind == .function&&X.env.kindOf x == some .cell) then NameKind.cell else k:=λx=>qG _ _
 have Jl:∀x,(x,NameKind.cell)∈scope.names->∃c,(cellsFrom (s.heap.objs.size+1) scope.names []).lookup x=some c:=λx hx=>by
  have q:=PySem.W.cellsFrom_some scope.names (s.heap.objs.size+1) [] (.inl (iH _ _ _ ok.nd hx));exact Qzw.mp q
 have fpC:∀b∈fp,∀x c,(cellsFrom (s.heap.objs.size+1) scope.names (mF X.env scope.names [])).lookup x=some c->c≠b:=λb hb x c e=>by
  rcases pA x c e with ⟨h1,_⟩|⟨_,h2⟩
  ·have h3:=zH x c h1;have h4:=hlt b hb;rintro rfl;exact absurd (Qwy h4 (Qj7 h3)) (Qz1 _)
  ·exact(hf b hb).2.2.2.2.1 x c h2
 refine⟨⟨I.ok.mod,ok.kind,I.ok.glob,I.ok.blt,Qq2 _,λx y c h1 h2=>?_,λx hx=>?_,λx c hx e=>?_,I.ok.hd,I.ok.frames,.inl rfl,λb hb=>⟨Qwv (hlt b hb),λx c e=>fpC b hb x c e⟩,I.bs,Qqj I.ok.W6 I.sz,λb o e hb=>?_,λb hb=>?_,I.stack,I.Er⟩,
  rfl,I.bare,Un.kept hk,⟨_,hn,λi x v e1 e2 e3=>?_⟩,λx c e=>?_,I.hok.fresh (Qq2 _),λx c e=>?_,λp hp=>absurd (show p∈([]:List (Addr×Obj)) from hp) (by simp),I.hok.kept hk,?_⟩
 ·-- one name a cell
  rcases pA x c h1 with ⟨p1,_⟩|⟨_,p2⟩
  ·rcases pA y c h2 with ⟨q1,_⟩|⟨_,q2⟩
   ·exact name_of_addr co.apart p1 q1
   ·exact absurd (Qwy (U9 y c q2) (Qj7 (zH x c p1))) (Qz1 _)
  ·rcases pA y c h2 with ⟨q1,_⟩|⟨_,q2⟩
   ·exact absurd (Qwy (U9 x c p2) (Qj7 (zH y c q1))) (Qz1 _)
   ·exact I.ok.inj x y c p2 q2
 ·-- each cell name has one
  show ∃c,(cellsFrom (s.heap.objs.size+1) scope.names (mF X.env scope.names [])).lookup x=some c;have hx:(relabel scope X.env).names.lookup x=some .cell\/(relabel scope X.env).names.lookup x=some .free:=hx;rw[Gd] at hx;cases q:scope.names.lookup x with
  | none=>rw[q] at hx;rcases hx with hx|hx<;>cases hx
  | some k=>
   rw[q] at hx;rw[fH,o7];cases z:(cellsFrom (s.heap.objs.size+1) scope.names []).lookup x with
   | some d=>exact⟨d,rfl⟩
   | none=>
    have hkf:k = .free:=by
     cases k with
     | free=>rfl
     | cell=>obtain⟨c,hc⟩:=Jl x (lookup_mem _ _ _ q);rw[hc] at z;cases z
     | _=>rcases hx with hx|hx<;>simp at hx
    subst hkf;exact Qzw.mp (vA _ _ x (lookup_mem _ _ _ q))
 ·-- its own cells are new
  have hx':scope.names.lookup x=some .cell:=Qw3 hx;rcases pA x c e with ⟨p1,_⟩|⟨p1,_⟩
  ·exact Qj7 (zH x c p1)
  ·obtain⟨d,hd⟩:=Jl x (lookup_mem _ _ _ hx');rw[hd] at p1;cases p1
 ·rcases(hf b hb).2.2.2.1 with z|z
  ·exact I.ok.Q8 b o e z
  ·have h1:=Qq9 e;have h2:=I.ok.W6;exact absurd (Qwy h1 (Qqj h2 z)) (Qz1 _)
 ·intro hm;rcases Qq1.mp (I.K1 b hm) with z|z
  ·exact(hf b hb).2.1 z
  ·exact(hf b hb).2.2.1 z
 ·-- the names
  have hiσ:i<σ.length:=by
   by_cases hi:i<σ.length
   ·exact hi
   ·unfold uM at e2;rw[Qx7 (by omega),Qz2] at e2;split at e2<;>cases e2
  have e2':σ[i]? = some (some v):=by
   unfold uM at e2
   rwa [Qw7 hiσ] at e2
  have vis:(scope.names.lookup x).isSome=true:=by
   have e3:(relabel scope X.env).names.lookup x=some .local\/(relabel scope X.env).names.lookup x=some .cell\/(relabel scope X.env).names.lookup x=some .free:=e3;rw[Gd] at e3;cases q:scope.names.lookup x with
   | none=>rw[q] at e3;rcases e3 with z|z|z<;>cases z
   | some k=>rfl
  obtain⟨hN,hfr⟩:=JG ok.chk i x (by rw[<-I.len];exact hiσ) e1 vis;have hm:=lookup_mem _ _ _ hfr;have hkk:=ok.free _ hm rfl;obtain⟨m,hns,hl⟩:=I.loc;obtain⟨u,ru,lk⟩:=hl i x v hN e2' (hkk.elim (λz=>.inr (.inl z)) λz=>.inr (.inr z));refine⟨u,ru,.inr ⟨?_,?_⟩⟩
  ·show(relabel scope X.env).names.lookup x=some .cell\/(relabel scope X.env).names.lookup x=some .free;rw[Gd,hfr];by_cases hc:(NameKind.free == NameKind.free&&X.env.scope.kind == .function&&X.env.kindOf x == some .cell)=true
   ·left;rw[Qkz,if_pos hc]
   ·right;rw[Qkz,if_neg hc]
  ·rcases lk with ⟨hl1,_⟩|⟨_,c,hc,hcell⟩
   ·rcases hkk with z|z<;>(rw[z] at hl1;cases hl1)
   ·refine⟨c,?_,hcell.keeps hk⟩;show(cellsFrom (s.heap.objs.size+1) scope.names (mF X.env scope.names [])).lookup x=some c;rw[fH,o7];have hno:(cellsFrom (s.heap.objs.size+1) scope.names []).lookup x=none:=qH _ _ λd hd=>by
     have h1:=iH _ _ _ ok.nd (nD _ _ _ _ hd);rw[hfr] at h1;cases h1
    rw[hno];obtain⟨d,hd⟩:=Qzw.mp (vA (env:=X.env) scope.names [] x hm);have h2:=vB _ _ x d hfree (λy d h=>by simp at h) hd;rw[hc] at h2;show(mF X.env scope.names []).lookup x=some c;rw[hd,h2]
 ·rcases pA x c e with ⟨p1,_⟩|⟨_,p2⟩
  ·exact⟨_,(co.empty x c p1).1⟩
  ·obtain⟨v,q⟩:=I.cell x c p2;exact⟨v,q.keeps hk⟩
 ·rcases pA x c e with ⟨p1,_⟩|⟨p0,p2⟩
  ·exact .inl (I.hok.fresh (Qj7 (zH x c p1)))
  ·rcases I.lq x c p2 with z|⟨_,z⟩
   ·exact .inl z
   ·refine .inr ⟨?_,z⟩;show decide (scope.names.lookup x=some .cell)=false;refine Qw6 λq=>?_;obtain⟨d,hd⟩:=Ba (n:=s.heap.objs.size+1) q;rw[p0] at hd;cases hd
 ·show(uM (N'.length - σ.length) σ).length=N'.length;unfold uM;rw[Qqq,Qzx];have h1:=ok.len;have h2:=I.len;omega
abbrev jx(X:Cx)(scope:Scope)(N':List Str)(X':Cx):Prop:=
 ∃(cells:List (Str×Addr)) (C:Addr) (s0:Shared) (H0:{ H:Hp // ∀b qs,X.H₀ b=some (.tab qs)->H b=some (.tab qs) }) (fp:List Addr),X'=cxC X scope N' cells C s0 H0.1 fp
def DN{X:Cx}{elt tg iter:Expr}{ifs:List Expr}{scope:Scope}{N':List Str}{pos:Pos}{g:TG}{tc:TT}{te:TE}{use:Option (Value->Sem Unit)}{QQ:Value->Shared->Prop}
  (ok:mD X scope N') (hc:X.calm=true)
  (bg:∀X',jx X scope N' X'->PG X' tg g) (bc:∀X',jx X scope N' X'->PIf X' ifs tc) (be:∀X',jx X scope N' X'->PE X' elt te)
  {pins:List (Addr×Obj)} {s2:Shared} {σ:St} {H2:Hp} {Q:VK} {it:Addr} {fp:List Addr} {tn:Nat->Heap->Prop} {J:It} (I2:Inv X pins σ H2 s2) (T:Turn X.prog X.w X.K tg J fp it tn) (st2:tn 0 s2.heap) (f2:∀b∈fp,Bo X pins H2 b)
  (q:∀d,H2 d=none->∃W:Nat->Nat->St->Hp->Prop,(∃m,W 0 m (uM (N'.length - σ.length) σ) (upd H2 d (.lst [])))/\∀i m σ' H',W i m σ' H'->
   (J.stop i H'/\Q (.ref d) H')\/(J.go i H'/\∃N:St->Hp->Prop,(∀σ2 H2,N σ2 H2->∃m',m'<m/\W (i+1) m' σ2 H2)/\∀x H2,J.yld i H' x H2->g x σ' H2 λσ3 H3=>tc σ3 H3 λb H4=>
    if b=true then te σ3 H4 λy H5=>∃ys,H5 d=some (.lst ys)/\ys.length<sizeLine/\N σ3 (upd H5 d (.lst (ys++[y]))) else N σ3 H4))
  (fin:∀d C m s' H',Inv X pins σ H' s'->Q (.ref d) H'->s'.heap.Ns C m->H' C=none->C≠X.env.locals->X.s₀.heap.objs.size<=C->(∀x c,X.env.cells.lookup x=some c->c≠C)->(∀p∈X.pn++pins,p.1≠C)->
   compPost (model X.prog X.w) X.A X.xe use QQ (.ref d) C (.ok .next) s') :
  wpAny (model X.prog X.w) X.A (newList []) (λacc s₃=>wpAny (model X.prog X.w) X.A (newFunctionEnv scope X.env.globals (mF X.env scope.names []) [] X.env.qual none .none (some X.env)) (λcenv s₄=>
   codeAny (model X.prog X.w) X.A (.compStart (.ListComp elt [⟨tg,iter,ifs,0⟩] scope pos) 0 (.ref it) acc { cenv with scope:=relabel scope X.env }) (compPost (model X.prog X.w) X.A X.xe use QQ acc cenv.locals) s₄) X.xe s₃) X.xe s2:=by
 have hd2:H2 s2.heap.objs.size=none:=I2.fresh;refine Qx3 (Iu λh' hns hkeep hco=>?_)
 -- the state behind the list
 obtain⟨W,⟨m0,w0⟩,turn⟩:=q s2.heap.objs.size hd2;have I3:Inv X pins σ (upd H2 s2.heap.objs.size (.lst [])) { s2 with heap:=s2.heap.push { cls:=.type "list",data:=.seq ([]:List Value).toArray } }:=I2.agi (t':=s2.toks) .nil (Qzy _);have lt2:∀b∈fp,b<s2.heap.objs.size:=λb hb=>by
  obtain⟨o,e,_⟩:=T.obj _ _ st2 b hb;exact Qq9 e
 have f3:∀b∈fp,Bo X pins (upd H2 s2.heap.objs.size (.lst [])) b:=λb hb=>by
  refine⟨?_,(f2 b hb).2⟩;rw[bI (Qwv (lt2 b hb))];exact(f2 b hb).1
 have lt3:∀b∈fp,b<({ s2 with heap:=s2.heap.push { cls:=.type "list",data:=.seq ([]:List Value).toArray } }:Shared).heap.objs.size:=λb hb=>by
  show b<(s2.heap.push _).objs.size;rw[Qjz];exact Qjk (lt2 b hb)
 have st3:tn 0 h':=T.keep _ _ _ st2 λb hb o e=>hkeep b o (Qqz _ e);have I4:=VL (fp:=fp) ok I3 f3 lt3 hns hkeep hco;generalize hs3:({ s2 with heap:=s2.heap.push { cls:=.type "list",data:=.seq ([]:List Value).toArray } }:Shared)=s3 at *;have sz3:s3.heap.objs.size=s2.heap.objs.size+1:=by rw[<-hs3];exact Qjz ..
 generalize hX':cxC X scope N' (cellsFrom (s3.heap.objs.size+1) scope.names (mF X.env scope.names [])) s3.heap.objs.size s3 (upd H2 s2.heap.objs.size (.lst [])) fp=X' at I4;have at':jx X scope N' X':=⟨_,_,_,⟨_,I3.base.tabs⟩,_,hX'.symm⟩;have hg:=bg X' at';have hif:=bc X' at';have he:=be X' at';have eP:X'.prog=X.prog:=by rw[<-hX'];rfl
 have eW:X'.w=X.w:=by rw[<-hX'];rfl
 have eK:X'.K=X.K:=by rw[<-hX'];rfl
 have eA:X'.A=X.A:=by rw[<-hX'];rfl
 have eC:X'.calm=true:=by rw[<-hX'];exact hc
 have eX:X'.xe=λ_ _=>False:=by rw[<-hX'];rfl
 have ePn:X'.pn=[]:=by rw[<-hX'];rfl
 have eEx:X'.ex=fp:=by rw[<-hX'];rfl
 have eL:X'.env.locals=s3.heap.objs.size:=by rw[<-hX'];rfl
 have eFs:X'.fs=frs X.stack:=by rw[<-hX'];rfl
 have aiD:compEnvC scope (cellsFrom (s3.heap.objs.size+1) scope.names (mF X.env scope.names [])) s3.heap.objs.size X.env=X'.env:=by rw[<-hX'];rfl
 have eS0:X'.s₀=s3:=by rw[<-hX'];rfl
 have eH0:X'.H₀=upd H2 s2.heap.objs.size (.lst []):=by rw[<-hX'];rfl
 -- what is true of the iterator's objects in the block
 have stat:∀{H':Hp},(∀b∈fp,H' b=none)->∀b∈fp,Bo X' [] H' b:=λ{H'} hn b hb=>by
  refine⟨hn b hb,?_,?_,.inl (by rw[eEx];exact hb),λx c e=>?_,λp hp=>?_⟩
  ·rw[eL];exact Qwv (lt3 b hb)
  ·have:=I4.ok.Rw b (by rw[eEx];exact hb);exact this
  ·exact(I4.ok.exf b (by rw[eEx];exact hb)).2 x c e
  ·rw[ePn] at hp;exact absurd hp (by simp)
 -- the outer context again
 have back:∀σ' H' s',Inv X' [] σ' H' s'->Inv X pins σ H' s':=λσ' H' s' J'=>by
  have hb:=J'.base;rw[eFs,eEx,eS0,eH0] at hb;have hos:=J'.os;rw[eS0] at hos;have hok:=J'.hok;rw[eP,eW] at hok;exact I3.call' (ch:=fp) hos hb hok J'.bare λb hbm=>⟨(f3 b hbm).2.2.2.1,(f3 b hbm).2.1,(f3 b hbm).2.2.2.2.1,(f3 b hbm).2.2.2.2.2⟩
 have loop:∀s4:Shared,s4 = { s3 with heap:=h' }->codeAny (model X.prog X.w) X.A (.compLoop (.ListComp elt [⟨tg,iter,ifs,0⟩] scope pos) 0 (.ref it) (.ref s2.heap.objs.size) X'.env) (compPost (model X.prog X.w) X.A X.xe use QQ (.ref s2.heap.objs.size) s3.heap.objs.size) s4:=by
  rintro s4 rfl;refine Gv (λn s'=>∃i σ' H',Inv X' [] σ' H' s'/\tn i s'.heap/\(∀b∈fp,H' b=none)/\W i n σ' H') ?_ m0 ⟨0,_,_,I4,st3,λb hb=>(f3 b hb).1,w0⟩;rintro n s5 ⟨i,σ5,H5,I5,st5,fr5,w5⟩;rcases turn i n σ5 H5 w5 with ⟨stop,qn⟩|⟨go,N,hN,step⟩
  ·have td:=T.done X' eP eW eK eC i [] s5 σ5 H5 (λ_ _=>False) I5 (stat fr5) st5 stop;rw[eA] at td;refine fK td λr s6 ⟨hr,I6⟩=>?_;subst hr;obtain⟨mC,hnC,_⟩:=id I6.loc;rw[eL] at hnC;have lc:X.env.locals<s3.heap.objs.size:=by
    have:=I3.lt;exact this
   refine fin _ _ mC s6 H5 (back _ _ _ I6) qn hnC ?_ (Nat.ne_of_gt lc) I3.sz (λx c e=>?_) (λp hp=>?_)
   ·have:=I6.free;rw[eL] at this;exact this
   ·obtain⟨v,z⟩:=I3.cell x c e;exact Qwv z.lt
   ·exact Qwv (Qq9 (I3.pin p hp).1)
  ·have ti:=T.item X' eP eW eK eC i [] s5 σ5 H5 (λ_ _=>False) I5 (stat fr5) st5 go;rw[eA] at ti;refine fK ti λr s6 ⟨u,hr,h6⟩=>?_;subst hr;refine fK h6 λ_ s7 ⟨x,H7,I7,r7,y7,st7,fr7⟩=>?_;have I7':=I7.pinned (stat fr7) (T.obj _ _ st7);have hg':=hg _ s7 σ5 H7 x u _ I7' r7 (step x H7 y7);rw[eP,eW,eA,eX] at hg';refine fK hg' λ_ s8 ⟨σ8,H8,I8,q8⟩=>?_;have agt:=hif _ s8 σ8 H8 _ I8 q8;rw[eP,eW,eA,eX] at agt;refine fK agt λb s9 ⟨H9,I9,q9⟩=>?_;have again:∀{σz:St} {Hz:Hp} {sz:Shared},Inv X' ([]++zF fp s7.heap) σz Hz sz->N σz Hz->∃m,m<n/\∃i σ' H',Inv X' [] σ' H' sz/\tn i sz.heap/\(∀b∈fp,H' b=none)/\W i m σ' H':=λ{σz Hz sz} Iz nz=>by
    obtain⟨m',hm,wz⟩:=hN σz Hz nz;refine⟨m',hm,i+1,σz,Hz,Iz.uA,T.keep _ _ _ st7 λb hb o e=>(Iz.pin (b,o) (Qxy _ (Qxy _ (o6 hb e)))).1,λb hb=>?_,wz⟩;obtain⟨o,e,d⟩:=T.obj _ _ st7 b hb;exact(Iz.pin (b,o) (Qxy _ (Qxy _ (o6 hb e)))).2.1
   cases b with
   | false=>
    rw[if_neg Qxq] at q9 ⊢;exact again I9 q9
   | true=>
    rw[if_pos rfl] at q9 ⊢;have he':=he _ s9 σ8 H9 _ I9 q9;rw[eP,eW,eA,eX] at he';refine fK he' λy sa ⟨yv,Ha,Ia,ra,ys,hys,hlen,qa⟩=>?_;have ap:=Dl (X:=X') _ sa σ8 Ha (.ref s2.heap.objs.size) [yv] (.ref s2.heap.objs.size) [y] (λv H'=>v = .non/\N σ8 H') Ia rfl (.cons ra .nil) ⟨_,ys,yv,rfl,rfl,hys,hlen,rfl,qa⟩;rw[eP,eW,eA,eX] at ap;refine fK ap λ_ sb ⟨vb,Hb,Ib,rb,_,nb⟩=>?_;exact again Ib nb
 show codeAny _ _ (.compStart _ 0 (.ref it) (.ref s2.heap.objs.size) (compEnvC scope (cellsFrom (s3.heap.objs.size+1) scope.names (mF X.env scope.names [])) s3.heap.objs.size X.env)) (compPost (model X.prog X.w) X.A X.xe use QQ (.ref s2.heap.objs.size) s3.heap.objs.size) _;rw[aiD];exact codeAny_compStart_list (loop _ rfl) (T.self X.A 0 _ _ _ st3 (loop _ rfl))
def afV{X:Cx}{elt tg iter:Expr}{ifs:List Expr}{scope:Scope}{N':List Str}{pos:Pos}{wi:TI}{g:TG}{tc:TT}{te:TE}
  (ok:mD X scope N') (hc:X.calm=true) (hi:PI X tg iter wi)
  (bg:∀X',jx X scope N' X'->PG X' tg g) (bc:∀X',jx X scope N' X'->PIf X' ifs tc) (be:∀X',jx X scope N' X'->PE X' elt te)
  (hs:∀x,foldedSetIterable iter X.env x=pure x:=by intro _;rfl) :
  PE X (.ListComp elt [⟨tg,iter,ifs,0⟩] scope pos) (tLC N'.length wi g tc te):=by
 intro pins s σ H Q I h;rw[eval_ListComp];have hfree:∀n,(n,NameKind.free)∈scope.names->∃c,X.env.cells.lookup n=some c:=λn hm=>I.ok.has n (ok.free _ hm rfl);refine wpAny_comprehension_free (use:=none) rfl hs (Ay hfree) ok.kind (λx hx hl=>iH _ _ _ ok.nd (by rw[<-hl];exact hx)) ?_;refine fK (hi pins s σ H _ I h) λv s1 h1=>fK h1 λitv s2 h2=>?_;obtain⟨it,fp,tn,J,H2,e,I2,T,st2,f2,q⟩:=h2;subst e;refine DN ok hc bg bc be I2 T st2 f2 q λd C m s' H' I' hq hn hC hL h0 hcell hpin=>?_;refine⟨m,hn,λh' hs'=>?_⟩;have I'':Inv X pins σ H' { s' with heap:=h',toks:=s'.toks }:=I'.turned (it:=C) (λb o hb e=>(hs'.2 b hb).trans e) hC hL (.inr h0) hcell hpin;exact⟨.ref d,H',I'',rfl,hq⟩
def Uy{X:Cx}{elt tg iter:Expr}{ifs:List Expr}{scope:Scope}{N':List Str}{pos spos py:Pos}{wi:TI}{g:TG}{tc:TT}{te:TE}{i:Nat}{y:Str}
  (ok:mD X scope N') (hc:X.calm=true) (hi:PI X tg iter wi)
  (bg:∀X',jx X scope N' X'->PG X' tg g) (bc:∀X',jx X scope N' X'->PIf X' ifs tc) (be:∀X',jx X scope N' X'->PE X' elt te)
  (hN:X.N.Nodup) (hy:X.N[i]? = some y) (hx:Loc X.env.scope y)
  (hsw:swapsWith (.ListComp elt [⟨tg,iter,ifs,0⟩] scope pos) (some (.Name y py)) spos.line X.env=pure true)
  (hf:X.fn y=true\/X.env.scope.names.lookup y=some .local:=by first|exact .inl rfl|exact .inr rfl|assumption)
  (hs:∀x,foldedSetIterable iter X.env x=pure x:=by intro _;rfl) :
  PS X (.Assign [.Name y py] (.ListComp elt [⟨tg,iter,ifs,0⟩] scope pos) spos) (Ql (tLC N'.length wi g tc te) (Ag i)):=by
 intro pins s σ H D I h;rw[exec_Assign_Name_used _ _ _ _ hsw];refine Qqx (wpAny_standAt (Qqx ?_));have hfree:∀n,(n,NameKind.free)∈scope.names->∃c,X.env.cells.lookup n=some c:=λn hm=>I.ok.has n (ok.free _ hm rfl);show wpAny _ X.A (do let _ <-comprehension (.ListComp elt [⟨tg,iter,ifs,0⟩] scope pos) scope X.env _ (newList []) false (eval iter X.env) (some (assign (.Name y py) X.env))) _ _ s;refine Qqx (Qxx (wpAny_comprehension_free (use:=some (assign (.Name y py) X.env)) (Q:=λ_ s'=>SP X pins D .next s') rfl hs (Ay hfree) ok.kind (λx hx hl=>iH _ _ _ ok.nd (by rw[<-hl];exact hx)) ?_) (λ_ s' hq=>Qqw (Qqw hq)) λ_ _ e=>e);refine fK (hi pins s σ H _ I h) λv s1 h1=>fK h1 λitv s2 h2=>?_;obtain⟨it,fp,tn,J,H2,e,I2,T,st2,f2,q⟩:=h2;subst e;refine DN (Q:=λx H1=>Ag i x σ H1 D.nx) ok hc bg bc be I2 T st2 f2 q λd C m s' H' I' hq hn hC hL h0 hcell hpin=>?_;refine wpAny_assign_Name (CQ (v:=.ref d) I' hN hy hx rfl (λs'' I'' sb=>?_) hf);obtain⟨a,hsb,ha⟩:=sb;have haC:C≠a:=by
  rcases ha with z|z
  ·rw[z];exact hL
  ·exact(hcell y a z).symm
 refine⟨m,hn.sameBut hsb haC,λh' hs'=>?_⟩;have I3:Inv X pins (σ.set i (some (.ref d))) H' { s'' with heap:=h',toks:=s''.toks }:=I''.turned (it:=C) (λb o hb e=>(hs'.2 b hb).trans e) hC hL (.inr h0) hcell hpin;exact⟨_,H',I3,hq⟩
end L2
namespace Ev
open PySem PySem.Spec PyProof.Rows L2
inductive D where
 | non
 | bl (b:Bool)
 | int (i:Int)
 | str (x:List Nat)
 | tup (xs:List D)
 | lst (xs:List D)
 | arr (xs:List D)
 | dct (kvs:List (D×D))
 | lE (kvs:List (D×D))
 | clo (st:Stmt) (ds:List D)
 deriving Inhabited
abbrev Fg:=PySem.W.Frag
def strOf(x:List Nat):Str:=⟨x.toArray⟩
def yF:D->Option Key
 | .int i=>some (.inl i)
 | .str x=>some (.inr (strOf x))
 | _=>none
mutual
def nkD:D->Option NK
 | .int i=>some (.num i)
 | .bl b=>some (.num (if b then 1 else 0))
 | .str x=>some (.txt (strOf x))
 | .tup xs=>(aga xs).map .tup
 | _=>none
def aga:List D->Option (List NK)
 | []=>some []
 | d::ds=>match nkD d,aga ds with
  | some k,some ks=>some (k::ks)
  | _,_=>none
end
def defName(s:Stmt):Str:=match s with
 | .FunctionDef n _ _ _ _ _ _ _ _ _=>n
 | _=>""
def freeOf(s:Stmt):List Str:=(((aO s).names.filter (·.2 == .free)).map (·.1)).reverse
def aeP(F:Hp)(c:Addr)(v:V):Prop:=∃(o:Obj) (u:HO) (w:Value),F c=some (.qP o u)/\o.data = .cell (some w)/\RelV v w
def yV(F:Hp):List (Str×Addr)->List V->Prop
 | [],vs=>vs=[]
 | (_,c)::r,vs=>∃v vs',vs=v::vs'/\aeP F c v/\yV F r vs'
def aeO(F:Hp)(c:Addr)(q:Str):Prop:=∃(o:Obj) (u:HO) (vs:Array Value) (t:Tok),F c=some (.qP o u)/\o.data = .fields vs/\vs[1]? = some (.str q t)
def aiN(F:Hp)(st:Stmt)(a:Addr)(vs:List V):Prop:=∃(u:HO) (q:Str) (cl:List (Str×Addr)) (doc pm ctv:Value) (c:Addr),
 F a=some (.qP (PySem.W.fnMade (defName st) q (fL st) (cL st) (aO st) cl doc pm c ctv) u)/\aeO F c q/\cl.map (·.1)=freeOf st/\(cl.map (·.2)).Nodup/\yV F cl vs
theorem aU.cells{F F':Hp}(e:aU F F'):∀{cl:List (Str×Addr)} {vs:List V},yV F cl vs->yV F' cl vs
 | [],_,h=>h
 | (_,c)::r,_,⟨v,vs',h0,⟨o,u,w,h1,h2⟩,h3⟩=>⟨v,vs',h0,⟨o,u,w,e _ _ h1,h2⟩,aU.cells e h3⟩
def Mark(K:Fg)(st:Stmt)(a:Addr):Prop:=∃(n:Str) (p:Pos) (oc:Value) (od:Option Addr) (fd:FuncData) (sl:Array (Option Value)),st = .Global [n] p/\PySem.W.nsIn K mainGlobals n=some (some (.ref a))/\K.lookup a=some ⟨oc,od,.func fd,sl⟩
def ExcAt(K:Fg)(F:Hp)(st:Stmt)(a:Addr)(vs:List V):Prop:=∃(n:Str) (r:List Str) (p:Pos) (o:Obj) (u:HO) (c:Addr) (fs:Array Value),st = .Nonlocal (n::r) p/\PySem.W.nsIn K mainGlobals n=some (some (.ref c))/\F a=some (.qP o u)/\o.cls = .ref c/\o.data = .fields fs/\
 (r=[]/\vs=[]\/∃(x:Str) (v:V) (w:Value) (dx:Addr) (od:Obj) (ud:HO) (m:Str->Option Value),r=[x]/\vs=[v]/\RelV v w/\o.dict=some dx/\F dx=some (.qP od ud)/\(∀h:Heap,h.get? dx=some od->h.Ns dx m)/\m x=some w)
def aU.excAt{K:Fg}{F F':Hp}{st:Stmt}{a:Addr}{vs:List V}(e:aU F F')(h:ExcAt K F st a vs):ExcAt K F' st a vs:=by
 obtain⟨n,r,p,o,u,c,fs,h1,h2,h3,h4,h5,h6⟩:=h;refine⟨n,r,p,o,u,c,fs,h1,h2,e _ _ h3,h4,h5,?_⟩;rcases h6 with h6|⟨x,v,w,dx,od,ud,m,q1,q2,q3,q4,q5,q6⟩
 ·exact .inl h6
 ·exact .inr ⟨x,v,w,dx,od,ud,m,q1,q2,q3,q4,e _ _ q5,q6⟩
def aic(st:Stmt):Bool:=match st with
 | .Global _ _=>true
 | .Nonlocal _ _=>true
 | _=>false
def Clo(K:Fg)(F:Hp)(st:Stmt)(a:Addr)(vs:List V):Prop:=aiN F st a vs/\aic st=false\/Mark K st a\/ExcAt K F st a vs
def aU.clo{K:Fg}{F F':Hp}{st:Stmt}{a:Addr}{vs:List V}(e:aU F F')(h:Clo K F st a vs):Clo K F' st a vs:=by
 rcases h with ⟨h,hg⟩|h|h
 rotate_left
 ·exact .inr (.inl h)
 ·exact .inr (.inr (aU.excAt e h))
 refine .inl ⟨?_,hg⟩;obtain⟨u,q,cl,doc,pm,ctv,c,h1,⟨o,u2,ws,t,h2,h3⟩,h4,h5,h6⟩:=h;exact⟨u,q,cl,doc,pm,ctv,c,e _ _ h1,⟨o,u2,ws,t,e _ _ h2,h3⟩,h4,h5,aU.cells e h6⟩
mutual
def Rep(K:Fg)(F:Hp):D->V->Prop
 | .non,v=>v = .non
 | .bl b,v=>v = .bl b
 | .int i,v=>v = .int i
 | .str x,v=>v = .str (strOf x)/\x.length<=sizeLine
 | .tup xs,v=>xs.length<=sizeLine/\∃a vs,v = .ref a/\pO K F a vs/\cg K F xs vs
 | .lst xs,v=>xs.length<=sizeLine/\∃a vs,v = .ref a/\F a=some (.lst vs)/\cg K F xs vs
 | .arr xs,v=>xs.length<=sizeLine/\∃a vs,v = .ref a/\j8 K F a vs/\cg K F xs vs
 | .dct kvs,v=>kvs.length<=sizeLine/\∃a ks,v = .ref a/\Rd F a (.dK ks)/\dH K F kvs ks
 | .lE kvs,v=>kvs.length<=sizeLine/\∃a ks,v = .ref a/\Rd F a (.dN ks)/\pP K F kvs ks
 | .clo st ds,v=>∃a vs,v = .ref a/\Clo K F st a vs/\cg K F ds vs
def cg(K:Fg)(F:Hp):List D->List V->Prop
 | [],vs=>vs=[]
 | d::ds,vs=>∃v r,vs=v::r/\Rep K F d v/\cg K F ds r
def dH(K:Fg)(F:Hp):List (D×D)->List (Key×V)->Prop
 | [],vs=>vs=[]
 | (k,d)::ds,vs=>∃q v r,vs=(q,v)::r/\yF k=some q/\Rep K F d v/\dH K F ds r
def pP(K:Fg)(F:Hp):List (D×D)->List (NK×V×V)->Prop
 | [],vs=>vs=[]
 | (k,d)::ds,vs=>∃q u v r,vs=(q,u,v)::r/\nkD k=some q/\q.dep<=8/\Rep K F k u/\Rep K F d v/\pP K F ds r
end
def aU.rd{F F':Hp}{a:Addr}{u:HO}(e:aU F F')(h:Rd F a u):Rd F' a u:=by
 rcases h with h|⟨o,h⟩
 ·exact .inl (e _ _ h)
 ·exact .inr ⟨o,e _ _ h⟩
def aU.tupK{K:Fg}{F F':Hp}{a:Addr}{xs:List V}(e:aU F F')(h:pO K F a xs):pO K F' a xs:=by
 rcases h with h|h
 ·exact .inl (aU.rd e h)
 ·exact .inr h
mutual
theorem Rep.mono{K:Fg}{F F':Hp}(e:aU F F'):∀(d:D) (v:V),Rep K F d v->Rep K F' d v
 | .non,_,h=>h
 | .bl _,_,h=>h
 | .int _,_,h=>h
 | .str _,_,h=>h
 | .tup xs,v,h=>by
  obtain⟨z,a,vs,rfl,h1,h2⟩:=h;exact⟨z,a,vs,rfl,aU.tupK e h1,cg.mono e xs vs h2⟩
 | .lst xs,v,h=>by
  obtain⟨z,a,vs,rfl,h1,h2⟩:=h;exact⟨z,a,vs,rfl,e _ _ h1,cg.mono e xs vs h2⟩
 | .arr xs,v,h=>by
  obtain⟨z,a,vs,rfl,h1,h2⟩:=h;exact⟨z,a,vs,rfl,e.seq h1,cg.mono e xs vs h2⟩
 | .dct kvs,v,h=>by
  obtain⟨z,a,ks,rfl,h1,h2⟩:=h;exact⟨z,a,ks,rfl,aU.rd e h1,dH.mono e kvs ks h2⟩
 | .lE kvs,v,h=>by
  obtain⟨z,a,ks,rfl,h1,h2⟩:=h;exact⟨z,a,ks,rfl,aU.rd e h1,pP.mono e kvs ks h2⟩
 | .clo st ds,v,h=>by
  obtain⟨a,vs,rfl,h1,h2⟩:=h;exact⟨a,vs,rfl,aU.clo e h1,cg.mono e ds vs h2⟩
theorem cg.mono{K:Fg}{F F':Hp}(e:aU F F'):∀(ds:List D) (vs:List V),cg K F ds vs->cg K F' ds vs
 | [],_,h=>h
 | d::ds,vs,h=>by
  obtain⟨v,r,rfl,h1,h2⟩:=h;exact⟨v,r,rfl,Rep.mono e d v h1,cg.mono e ds r h2⟩
theorem dH.mono{K:Fg}{F F':Hp}(e:aU F F'):∀(ds:List (D×D)) (vs:List (Key×V)),dH K F ds vs->dH K F' ds vs
 | [],_,h=>h
 | (k,d)::ds,vs,h=>by
  obtain⟨q,v,r,rfl,h0,h1,h2⟩:=h;exact⟨q,v,r,rfl,h0,Rep.mono e d v h1,dH.mono e ds r h2⟩
theorem pP.mono{K:Fg}{F F':Hp}(e:aU F F'):∀(ds:List (D×D)) (vs:List (NK×V×V)),pP K F ds vs->pP K F' ds vs
 | [],_,h=>h
 | (k,d)::ds,vs,h=>by
  obtain⟨q,u,v,r,rfl,h0,h3,h4,h1,h2⟩:=h;exact⟨q,u,v,r,rfl,h0,h3,Rep.mono e k u h4,Rep.mono e d v h1,pP.mono e ds r h2⟩
end
theorem cg.length{K:Fg}{F:Hp}:∀{ds:List D} {vs:List V},cg K F ds vs->vs.length=ds.length
 | [],_,h=>by cases h;rfl
 | d::ds,vs,h=>by
  obtain⟨v,r,rfl,_,h2⟩:=h;rw[Qq0,Qq0,h2.length]
theorem cg.get{K:Fg}{F:Hp}:∀{ds:List D} {vs:List V} {i:Nat} {d:D},cg K F ds vs->ds[i]? = some d->∃v,vs[i]? = some v/\Rep K F d v
 | [],_,_,_,_,e=>by simp at e
 | c::ds,vs,i,d,h,e=>by
  obtain⟨v,r,rfl,h1,h2⟩:=h;cases i with
  | zero=>simp at e;subst e;exact⟨v,rfl,h1⟩
  | succ i=>obtain⟨u,e1,e2⟩:=cg.get h2 (i:=i) (by simpa using e);exact⟨u,by simpa using e1,e2⟩
theorem cg.append{K:Fg}{F:Hp}:∀{ds es:List D} {vs ws:List V},cg K F ds vs->cg K F es ws->cg K F (ds++es) (vs++ws)
 | [],es,vs,ws,h,g=>by cases h;exact g
 | d::ds,es,vs,ws,h,g=>by
  obtain⟨v,r,rfl,h1,h2⟩:=h;exact⟨v,r++ws,rfl,h1,cg.append h2 g⟩
theorem cg.drop{K:Fg}{F:Hp}:∀(n:Nat) {ds:List D} {vs:List V},cg K F ds vs->cg K F (ds.drop n) (vs.drop n)
 | 0,_,_,h=>h
 | _+1,[],_,h=>by cases h;exact rfl
 | n+1,d::ds,vs,h=>by
  obtain⟨v,r,rfl,_,h2⟩:=h;exact cg.drop n h2
theorem cg.take{K:Fg}{F:Hp}:∀(n:Nat) {ds:List D} {vs:List V},cg K F ds vs->cg K F (ds.take n) (vs.take n)
 | 0,_,_,_=>rfl
 | _+1,[],_,h=>by cases h;exact rfl
 | n+1,d::ds,vs,h=>by
  obtain⟨v,r,rfl,h1,h2⟩:=h;exact⟨v,r.take n,rfl,h1,cg.take n h2⟩
theorem cg.set{K:Fg}{F:Hp}{d:D}{v:V}(hd:Rep K F d v):∀(i:Nat) {ds:List D} {vs:List V},cg K F ds vs->cg K F (ds.set i d) (vs.set i v)
 | _,[],_,h=>by cases h;exact rfl
 | 0,c::ds,vs,h=>by
  obtain⟨u,r,rfl,_,h2⟩:=h;exact⟨v,r,rfl,hd,h2⟩
 | i+1,c::ds,vs,h=>by
  obtain⟨u,r,rfl,h1,h2⟩:=h;exact⟨u,r.set i v,rfl,h1,cg.set hd i h2⟩
def cg.one{K:Fg}{F:Hp}{d:D}{v:V}(h:Rep K F d v):cg K F [d] [v]:=⟨v,[],rfl,h,rfl⟩
abbrev Env:=List (Option (Bool×D))
inductive R (α:Type) where
 | ok (a:α) (env:Env)
 | stuck
abbrev Ev:=Env->R D
abbrev fM:=Env->R Bool
abbrev di:=Env->R (List D)
structure Cfg where
 K:Fg
 fx:Nat->Option Addr
def jw(K:Fg)(F H:Hp):D->Addr->Prop
 | .lst xs,a=>xs.length<=sizeLine/\∃vs,H a=some (.lst vs)/\cg K F xs vs
 | .dct kvs,a=>kvs.length<=sizeLine/\∃ks,H a=some (.dK ks)/\dH K F kvs ks
 | .lE kvs,a=>kvs.length<=sizeLine/\∃ks,H a=some (.dN ks)/\pP K F kvs ks
 | _,_=>False
def jw.mono{K:Fg}{F F' H H':Hp}(e:aU F F'){d:D}{a:Addr}(k:H' a=H a)(h:jw K F H d a):jw K F' H' d a:=by
 cases d with
 | lst xs=>obtain⟨z,vs,h1,h2⟩:=h;exact⟨z,vs,k.trans h1,cg.mono e _ _ h2⟩
 | dct kvs=>obtain⟨z,ks,h1,h2⟩:=h;exact⟨z,ks,k.trans h1,dH.mono e _ _ h2⟩
 | lE kvs=>obtain⟨z,ks,h1,h2⟩:=h;exact⟨z,ks,k.trans h1,pP.mono e _ _ h2⟩
 | _=>exact h
theorem jw.some{K:Fg}{F H:Hp}{d:D}{a:Addr}(h:jw K F H d a):∃o,H a=some o:=by
 cases d with
 | lst xs=>obtain⟨z,vs,h1,h2⟩:=h;exact⟨_,h1⟩
 | dct kvs=>obtain⟨z,ks,h1,h2⟩:=h;exact⟨_,h1⟩
 | lE kvs=>obtain⟨z,ks,h1,h2⟩:=h;exact⟨_,h1⟩
 | _=>exact h.elim
def iD(K:Fg)(F H:Hp)(d:D)(v:V):Prop:=Rep K F d v\/∃a,v = .ref a/\jw K F H d a
def iD.rep{K:Fg}{F H:Hp}{d:D}{v:V}(s:aU F H)(h:iD K F H d v):Rep K H d v:=by
 rcases h with h|⟨a,rfl,h⟩
 ·exact Rep.mono s d v h
 ·cases d with
  | lst xs=>obtain⟨z,vs,h1,h2⟩:=h;exact⟨z,a,vs,rfl,h1,cg.mono s _ _ h2⟩
  | dct kvs=>obtain⟨z,ks,h1,h2⟩:=h;exact⟨z,a,ks,rfl,.inl h1,dH.mono s _ _ h2⟩
  | lE kvs=>obtain⟨z,ks,h1,h2⟩:=h;exact⟨z,a,ks,rfl,.inl h1,pP.mono s _ _ h2⟩
  | _=>exact h.elim
def iD.lst{K:Fg}{F H:Hp}{xs:List D}{v:V}(s:aU F H)(h:iD K F H (.lst xs) v):xs.length<=sizeLine/\∃a vs,v = .ref a/\H a=some (.lst vs)/\cg K F xs vs:=by
 rcases h with ⟨z,a,vs,rfl,h1,h2⟩|⟨a,rfl,z,vs,h1,h2⟩
 ·exact⟨z,a,vs,rfl,s _ _ h1,h2⟩
 ·exact⟨z,a,vs,rfl,h1,h2⟩
def iD.arr{K:Fg}{F H:Hp}{xs:List D}{v:V}(s:aU F H)(h:iD K F H (.arr xs) v):xs.length<=sizeLine/\∃a vs,v = .ref a/\j8 K H a vs/\cg K F xs vs:=by
 rcases h with ⟨z,a,vs,rfl,h1,h2⟩|⟨a,rfl,h⟩
 ·exact⟨z,a,vs,rfl,s.seq h1,h2⟩
 ·exact h.elim
def iD.tup{K:Fg}{F H:Hp}{xs:List D}{v:V}(s:aU F H)(h:iD K F H (.tup xs) v):xs.length<=sizeLine/\∃a vs,v = .ref a/\pO K H a vs/\pO K F a vs/\cg K F xs vs:=by
 rcases h with ⟨z,a,vs,rfl,h1,h2⟩|⟨a,rfl,h⟩
 ·exact⟨z,a,vs,rfl,aU.tupK s h1,h1,h2⟩
 ·exact h.elim
def iD.int{K:Fg}{F H:Hp}{i:Int}{v:V}(h:iD K F H (.int i) v):v = .int i:=by
 rcases h with h|⟨a,rfl,h⟩
 ·exact h
 ·exact h.elim
def iD.bl{K:Fg}{F H:Hp}{i:Bool}{v:V}(h:iD K F H (.bl i) v):v = .bl i:=by
 rcases h with h|⟨a,rfl,h⟩
 ·exact h
 ·exact h.elim
def iD.non{K:Fg}{F H:Hp}{v:V}(h:iD K F H .non v):v = .non:=by
 rcases h with h|⟨a,rfl,h⟩
 ·exact h
 ·exact h.elim
def iD.str{K:Fg}{F H:Hp}{x:List Nat}{v:V}(h:iD K F H (.str x) v):v = .str (strOf x)/\x.length<=sizeLine:=by
 rcases h with h|⟨a,rfl,h⟩
 ·exact h
 ·exact h.elim
structure Rel(C:Cfg)(Pr F:Hp)(env:Env)(σ:L2.St)(H:Hp):Prop where
 pr:aU Pr H
 fr:aU F H
 len:env.length=σ.length
 val:∀(i:Nat) (d:D),env[i]? = some (some (false,d))->∃v,σ[i]? = some (some v)/\Rep C.K F d v
 own:∀(i:Nat) (d:D),env[i]? = some (some (true,d))->∃a,σ[i]? = some (some (V.ref a))/\jw C.K F H d a/\F a=none/\Pr a=none
 apart:∀(i j:Nat) (d e:D) (a:Addr),env[i]? = some (some (true,d))->env[j]? = some (some (true,e))->σ[i]? = some (some (V.ref a))->σ[j]? = some (some (V.ref a))->i=j
 dj:∀b o,F b=some o->Pr b=none
 fix:∀i a,C.fx i=some a->σ[i]? = some (some (V.ref a))
def lN{H:Hp}{a:Addr}{o:HO}(h:H a=none):aU H (upd H a o):=λb u e=>by
 rw[bI (cZ e h)];exact e
def Rel.new{C:Cfg}{Pr F:Hp}{env:Env}{σ:L2.St}{H:Hp}{a:Addr}{o:HO}(r:Rel C Pr F env σ H)(h:H a=none):Rel C Pr (upd F a o) env σ (upd H a o)/\aU F (upd F a o):=by
 have hF:F a=none:=r.fr.free h;have s1:aU F (upd F a o):=lN hF;refine⟨⟨r.pr.trans (lN h),λb u e=>?_,r.len,λi d e1=>?_,λi d e1=>?_,r.apart,λb u e=>?_,r.fix⟩,s1⟩
 ·by_cases hb:b=a
  ·subst hb;rw[bu] at e ⊢;exact e
  ·rw[bI hb] at e ⊢;exact r.fr b u e
 ·obtain⟨v,h1,h2⟩:=r.val i d e1;exact⟨v,h1,Rep.mono s1 d v h2⟩
 ·obtain⟨b,h1,h2,h3,h4⟩:=r.own i d e1;obtain⟨u,hu⟩:=h2.some;have hb:b≠a:=cZ hu h;exact⟨b,h1,h2.mono s1 (bI hb),by rw[bI hb];exact h3,h4⟩
 ·by_cases hb:b=a
  ·subst hb;exact r.pr.free h
  ·rw[bI hb] at e;exact r.dj b u e
def Rel.fresh{C:Cfg}{Pr F:Hp}{env:Env}{σ:L2.St}{H:Hp}{a:Addr}{o:HO}(r:Rel C Pr F env σ H)(h:H a=none):Rel C Pr F env σ (upd H a o):=by refine⟨r.pr.trans (lN h),r.fr.trans (lN h),r.len,r.val,λi d e1=>?_,r.apart,r.dj,r.fix⟩;obtain⟨b,h1,h2,h3,h4⟩:=r.own i d e1;obtain⟨u,hu⟩:=h2.some;have hb:b≠a:=cZ hu h;exact⟨b,h1,h2.mono (aU.refl F) (bI hb),h3,h4⟩
def Rel.aside{C:Cfg}{Pr F:Hp}{env:Env}{σ:L2.St}{H:Hp}{a:Addr}{o:HO}(r:Rel C Pr F env σ H)(h:H a=none):Rel C (upd Pr a o) F env σ (upd H a o):=by
 have r':=r.fresh (o:=o) h;have hF:F a=none:=r.fr.free h;refine⟨λb u e=>?_,r'.fr,r.len,r.val,λi d e1=>?_,r.apart,λb u e=>?_,r.fix⟩
 ·by_cases hb:b=a
  ·subst hb;rw[bu] at e ⊢;exact e
  ·rw[bI hb] at e ⊢;exact r.pr b u e
 ·obtain⟨b,h1,h2,h3,h4⟩:=r'.own i d e1;obtain⟨b',h1',h2',_⟩:=r.own i d e1;rw[h1] at h1';cases h1';obtain⟨u,hu⟩:=h2'.some;have hb:b≠a:=cZ hu h;exact⟨b,h1,h2,h3,by rw[bI hb];exact h4⟩
 ·have hb:b≠a:=λz=>by rw[z,hF] at e;cases e
  rw[bI hb];exact r.dj b u e
def Rel.turn{C:Cfg}{Pr F:Hp}{env:Env}{σ:L2.St}{H:Hp}{a:Addr}{o u:HO}(r:Rel C Pr F env σ H)(h:Pr a=some o):Rel C (upd Pr a u) F env σ (upd H a u):=by
 have hF:F a=none:=by
  cases e:F a with
  | none=>rfl
  | some w=>have:=r.dj a w e;rw[h] at this;cases this
 refine⟨λb w e=>?_,λb w e=>?_,r.len,r.val,λi d e1=>?_,r.apart,λb w e=>?_,r.fix⟩
 ·by_cases hb:b=a
  ·subst hb;rw[bu] at e ⊢;exact e
  ·rw[bI hb] at e ⊢;exact r.pr b w e
 ·have hb:b≠a:=λz=>by rw[z,hF] at e;cases e
  rw[bI hb];exact r.fr b w e
 ·obtain⟨b,h1,h2,h3,h4⟩:=r.own i d e1;have hb:b≠a:=λz=>by rw[z,h] at h4;cases h4
  exact⟨b,h1,h2.mono (aU.refl F) (bI hb),h3,by rw[bI hb];exact h4⟩
 ·have hb:b≠a:=λz=>by rw[z,hF] at e;cases e
  rw[bI hb];exact r.dj b w e
def Rel.less{C:Cfg}{Pr Pr' F:Hp}{env:Env}{σ:L2.St}{H:Hp}(r:Rel C Pr F env σ H)(s:aU Pr' Pr):Rel C Pr' F env σ H:=
 ⟨s.trans r.pr,r.fr,r.len,r.val,λi d e=>let ⟨b,h1,h2,h3,h4⟩:=r.own i d e;⟨b,h1,h2,h3,s.free h4⟩,r.apart,λb o e=>s.free (r.dj b o e),r.fix⟩
def Rel.freeze{C:Cfg}{Pr F:Hp}{env:Env}{σ:L2.St}{H:Hp}(r:Rel C Pr F env σ H){i:Nat}{d:D}(h:env[i]? = some (some (true,d))) :
  ∃(F':Hp) (v:V),Rel C Pr F' (env.set i (some (false,d))) σ H/\aU F F'/\σ[i]? = some (some v)/\Rep C.K F' d v:=by
 obtain⟨a,h1,h2,h3,h4⟩:=r.own i d h;obtain⟨o,ho⟩:=h2.some;have s1:aU F (upd F a o):=lN h3;have hi:i<env.length:=(Qq5.mp h).1;have rep:Rep C.K (upd F a o) d (.ref a):=by
  cases d with
  | lst xs=>obtain⟨z,vs,g1,g2⟩:=h2;rw[ho] at g1;cases g1;exact⟨z,a,vs,rfl,bu,cg.mono s1 _ _ g2⟩
  | dct kvs=>obtain⟨z,ks,g1,g2⟩:=h2;rw[ho] at g1;cases g1;exact⟨z,a,ks,rfl,.inl bu,dH.mono s1 _ _ g2⟩
  | lE kvs=>obtain⟨z,ks,g1,g2⟩:=h2;rw[ho] at g1;cases g1;exact⟨z,a,ks,rfl,.inl bu,pP.mono s1 _ _ g2⟩
  | _=>exact h2.elim
 refine⟨upd F a o,.ref a,⟨r.pr,λb u e=>?_,by rw[Qw5];exact r.len,λj e he=>?_,λj e he=>?_,λj k e f b hj hk g1 g2=>?_,λb u e=>?_,r.fix⟩,s1,h1,rep⟩
 ·by_cases hb:b=a
  ·subst hb;rw[bu] at e;cases e;exact ho
  ·rw[bI hb] at e;exact r.fr b u e
 ·by_cases hj:j=i
  ·subst hj;rw[Qwq hi] at he;cases he;exact⟨_,h1,rep⟩
  ·rw[Qq3 (Ne.symm hj)] at he;obtain⟨v,g1,g2⟩:=r.val j e he;exact⟨v,g1,Rep.mono s1 e v g2⟩
 ·by_cases hj:j=i
  ·subst hj;rw[Qwq hi] at he;cases he
  ·rw[Qq3 (Ne.symm hj)] at he;obtain⟨b,g1,g2,g3,g4⟩:=r.own j e he;have hb:b≠a:=λz=>hj (r.apart j i e d a he h (by rw[<-z];exact g1) h1);exact⟨b,g1,g2.mono s1 rfl,by rw[bI hb];exact g3,g4⟩
 ·have nj:j≠i:=λz=>by subst z;rw[Qwq hi] at hj;cases hj
  have nk:k≠i:=λz=>by subst z;rw[Qwq hi] at hk;cases hk
  rw[Qq3 (Ne.symm nj)] at hj;rw[Qq3 (Ne.symm nk)] at hk;exact r.apart j k e f b hj hk g1 g2
 ·by_cases hb:b=a
  ·subst hb;exact h4
  ·rw[bI hb] at e;exact r.dj b u e
def tE(C:Cfg)(ev:Ev):TE:=λσ H Q=>∃(Pr F:Hp) (env env':Env) (d:D),Rel C Pr F env σ H/\ev env = .ok d env'/\
 ∀v H' F',Rel C Pr F' env' σ H'->aU F F'->Rep C.K F' d v->Q v H'
def tRd(C:Cfg)(ev:Ev):TE:=λσ H Q=>∃(Pr F:Hp) (env env':Env) (d:D),Rel C Pr F env σ H/\ev env = .ok d env'/\
 ∀v H' F',Rel C Pr F' env' σ H'->aU F F'->iD C.K F' H' d v->Q v H'
def tT(C:Cfg)(ev:fM):TT:=λσ H Q=>∃(Pr F:Hp) (env env':Env) (b:Bool),Rel C Pr F env σ H/\ev env = .ok b env'/\
 ∀H' F',Rel C Pr F' env' σ H'->aU F F'->Q b H'
def tA(C:Cfg)(ev:di):TA:=λσ H Q=>∃(Pr F:Hp) (env env':Env) (ds:List D),Rel C Pr F env σ H/\ev env = .ok ds env'/\
 ∀vs H' F',Rel C Pr F' env' σ H'->aU F F'->cg C.K F' ds vs->Q vs H'
def PX(X:Cx)(C:Cfg)(e:Expr)(ev:Ev):Prop:=PE X e (tE C ev)
def WY(X:Cx)(C:Cfg)(e:Expr)(ev:Ev):Prop:=PE X e (tRd C ev)
def PXT(X:Cx)(C:Cfg)(e:Expr)(ev:fM):Prop:=PT X e (tT C ev)
def PL(X:Cx)(C:Cfg)(es:List Expr)(ev:di):Prop:=PA X es (tA C ev)
def _root_.L2.PE.imp{X:Cx}{e:Expr}{t t':TE}(h:PE X e t)(i:∀σ H Q,t' σ H Q->t σ H Q):PE X e t':=λpins s σ H Q I q=>h pins s σ H Q I (i σ H Q q)
def _root_.L2.PT.imp{X:Cx}{e:Expr}{t t':TT}(h:PT X e t)(i:∀σ H Q,t' σ H Q->t σ H Q):PT X e t':=λpins s σ H Q I q=>h pins s σ H Q I (i σ H Q q)
def _root_.L2.PW.imp{X:Cx}{e:Expr}{t t':TT}(h:PW X e t)(i:∀σ H Q,t' σ H Q->t σ H Q):PW X e t':=λwhole pins s σ H Q I q=>h whole pins s σ H Q I (i σ H Q q)
def _root_.L2.PA.imp{X:Cx}{e:List Expr}{t t':TA}(h:PA X e t)(i:∀σ H Q,t' σ H Q->t σ H Q):PA X e t':=λpos pins s σ H Q I q=>h pos pins s σ H Q I (i σ H Q q)
def _root_.L2.PS.imp{X:Cx}{e:Stmt}{t t':TS}(h:PS X e t)(i:∀D σ H,t' D σ H->t D σ H):PS X e t':=λpins s σ H D I q=>h pins s σ H D I (i D σ H q)
def _root_.L2.Bm.imp{X:Cx}{e:List Stmt}{t t':TS}(h:Bm X e t)(i:∀D σ H,t' D σ H->t D σ H):Bm X e t':=λpins s σ H D I q=>h pins s σ H D I (i D σ H q)
def bindR{α β:Type}(x:R α)(f:α->Env->R β):R β:=match x with
 | .ok a env=>f a env
 | .stuck=>.stuck
def fJ{α:Type}(o:Option α)(env:Env):R α:=match o with
 | some a=>.ok a env
 | none=>.stuck
def aQ{α β:Type}{x:R α}{f:α->Env->R β}{b:β}{env':Env}(h:bindR x f = .ok b env'):∃a aH,x = .ok a aH/\f a aH = .ok b env':=by
 cases x with
 | ok a aH=>exact⟨a,aH,rfl,h⟩
 | stuck=>cases h
def cF{α:Type}{o:Option α}{env env':Env}{a:α}(h:fJ o env = .ok a env'):o=some a/\env'=env:=by
 cases o with
 | some b=>cases h;exact⟨rfl,rfl⟩
 | none=>cases h
section
variable{X:Cx}{C:Cfg}{pos:Pos}
def aK(i:Nat):Ev:=λenv=>match env[i]? with
 | some (some (false,d))=>.ok d env
 | some (some (true,d))=>.ok d (env.set i (some (false,d)))
 | _=>.stuck
def acn(i:Nat){x:Str}(hN:X.N[i]? = some x)(hv:ym X.env.scope x)(hd:jy x:=by decide)(hcd:uq x:=by decide):PX X C (.Name x pos) (aK i):=by
 refine(jj hN hv hd hcd).imp λσ H Q h=>?_;obtain⟨Pr,F,env,env',d,r,e,q⟩:=h;unfold aK at e;split at e
 ·rename_i d' hd';cases e;obtain⟨v,h1,h2⟩:=r.val i d hd';exact⟨v,h1,q v H F r (aU.refl F) h2⟩
 ·rename_i d' hd';cases e;obtain⟨F',v,r',s',h1,h2⟩:=r.freeze hd';exact⟨v,h1,q v H F' r' s' h2⟩
 ·cases e
def PX.b{e:Expr}{ev:Ev}(h:PX X C e ev):WY X C e ev:=PE.imp h λσ H Q hq=>by
 obtain⟨Pr,F,env,env',d,r,e,q⟩:=hq;exact⟨Pr,F,env,env',d,r,e,λv H' F' r' s' p'=>q v H' F' r' s' (.inl p')⟩
def bw(i:Nat):Ev:=λenv=>match env[i]? with
 | some (some (_,d))=>.ok d env
 | _=>.stuck
def Rel.rd{Pr F:Hp}{env:Env}{σ:L2.St}{H:Hp}(r:Rel C Pr F env σ H){i:Nat}{o:Bool}{d:D}(h:env[i]? = some (some (o,d))):∃v,σ[i]? = some (some v)/\iD C.K F H d v:=by
 cases o with
 | true=>obtain⟨a,h1,h2,_⟩:=r.own i d h;exact⟨_,h1,.inr ⟨a,rfl,h2⟩⟩
 | false=>obtain⟨v,h1,h2⟩:=r.val i d h;exact⟨v,h1,.inl h2⟩
def Yj(i:Nat){x:Str}(hN:X.N[i]? = some x)(hv:ym X.env.scope x)(hd:jy x:=by decide)(hcd:uq x:=by decide):WY X C (.Name x pos) (bw i):=by
 refine(jj hN hv hd hcd).imp λσ H Q h=>?_;obtain⟨Pr,F,env,env',d,r,e,q⟩:=h;unfold bw at e;split at e
 ·rename_i o' d' hd';cases e;obtain⟨v,h1,h2⟩:=r.rd hd';exact⟨v,h1,q v H F r (aU.refl F) h2⟩
 ·cases e
def jR(d:D):Ev:=λenv=>.ok d env
def acv{i:Int}{j:Nat}:PX X C (.Constant (.int i) j pos) (jR (.int i)):=acT.imp λσ H Q h=>by
 obtain⟨Pr,F,env,env',d,r,e,q⟩:=h;cases e;exact q _ _ F r (aU.refl F) rfl
def afS{b:Bool}{j:Nat}:PX X C (.Constant (.bool b) j pos) (jR (.bl b)):=afW.imp λσ H Q h=>by
 obtain⟨Pr,F,env,env',d,r,e,q⟩:=h;cases e;exact q _ _ F r (aU.refl F) rfl
def acq{j:Nat}:PX X C (.Constant .none j pos) (jR .non):=acR.imp λσ H Q h=>by
 obtain⟨Pr,F,env,env',d,r,e,q⟩:=h;cases e;exact q _ _ F r (aU.refl F) rfl
def ak:di:=λenv=>.ok [] env
def aa(a:Ev)(r:di):di:=λenv=>bindR (a env) λd aH=>bindR (r aH) λds dC=>.ok (d::ds) dC
def Fw:PL X C [] ak:=iU.imp λσ H Q h=>by
 obtain⟨Pr,F,env,env',d,r,e,q⟩:=h;cases e;exact q _ _ F r (aU.refl F) rfl
def zy{e:Expr}{es:List Expr}{a:Ev}{r:di}(ha:PX X C e a)(hr:PL X C es r)(hs:starEach (e::es) X.env=(false,eval e X.env)::starEach es X.env:=by rfl):PL X C (e::es) (aa a r):=
 (dJ ha hr hs).imp λσ H Q h=>by
  obtain⟨Pr,F,env,env',ds,rl,e,q⟩:=h;obtain⟨d1,aH,e1,e2⟩:=aQ e;obtain⟨ds2,dC,e3,e4⟩:=aQ e2;cases e4;refine⟨Pr,F,env,aH,d1,rl,e1,λv H1 F1 r1 s1 p1=>?_⟩;refine⟨Pr,F1,aH,env',ds2,r1,e3,λvs H2 F2 r2 s2 p2=>?_⟩;exact q _ H2 F2 r2 (s1.trans s2) ⟨v,vs,rfl,Rep.mono s2 d1 v p1,p2⟩
def cG(r:di):Ev:=λenv=>bindR (r env) λds aH=>if ds.length<=sizeLine then .ok (.tup ds) aH else .stuck
def bM(r:di):Ev:=λenv=>bindR (r env) λds aH=>if ds.length<=sizeLine then .ok (.lst ds) aH else .stuck
def az(g:D->D->Option D)(a b:Ev):Ev:=λenv=>bindR (a env) λx aH=>bindR (b aH) λy dC=>fJ (g x y) dC
def dY(g:D->Option D)(a:Ev):Ev:=λenv=>bindR (a env) λx aH=>fJ (g x) aH
def pW(C:Cfg)(r:R2)(g:D->D->Option D):Prop:=∀(Pr F:Hp) (env:Env) (σ:L2.St) (H:Hp) (x y d:D) (vx vy:V) (Q:VK),Rel C Pr F env σ H->iD C.K F H x vx->iD C.K F H y vy->g x y=some d->
 (∀v H' F',Rel C Pr F' env σ H'->aU F F'->Rep C.K F' d v->Q v H')->r vx vy H Q
def UnD(C:Cfg)(r:V->Hp->VK->Prop)(g:D->Option D):Prop:=∀(Pr F:Hp) (env:Env) (σ:L2.St) (H:Hp) (x d:D) (vx:V) (Q:VK),Rel C Pr F env σ H->iD C.K F H x vx->g x=some d->
 (∀v H' F',Rel C Pr F' env σ H'->aU F F'->Rep C.K F' d v->Q v H')->r vx H Q
def Be{r:R2}{g:D->D->Option D}{a b:Ev}(o:pW C r g)(σ:L2.St)(H:Hp)(Q:VK)(h:tE C (az g a b) σ H Q):Xr r (tE C a) (tRd C b) σ H Q:=by obtain⟨Pr,F,env,env',d,rl,e,q⟩:=h;obtain⟨x,aH,e1,e2⟩:=aQ e;obtain⟨y,dC,e3,e4⟩:=aQ e2;obtain⟨e5,rfl⟩:=cF e4;refine⟨Pr,F,env,aH,x,rl,e1,λvx H1 F1 r1 s1 p1=>⟨Pr,F1,aH,env',y,r1,e3,λvy H2 F2 r2 s2 p2=>?_⟩⟩;exact o Pr F2 env' σ H2 x y d vx vy Q r2 (.inl (Rep.mono s2 x vx p1)) p2 e5 λv H3 F3 r3 s3 p3=>q v H3 F3 r3 ((s1.trans s2).trans s3) p3
def aA(g:D->D->Option D)(i:Nat)(b:Ev):Ev:=λenv=>match env[i]? with
 | some (some (_,_))=>bindR (b env) λy dC=>(match dC[i]? with
  | some (some (_,x))=>fJ (g x y) dC
  | _=>.stuck)
 | _=>.stuck
def vC{r:R2}{g:D->D->Option D}{i:Nat}{b:Ev}(o:pW C r g)(σ:L2.St)(H:Hp)(Q:VK)(h:tE C (aA g i b) σ H Q):Xr r (afa i) (tRd C b) σ H Q:=by
 obtain⟨Pr,F,env,env',d,rl,e,q⟩:=h;unfold aA at e;split at e
 ·rename_i o0 d0 h0;obtain⟨v,hv,_⟩:=rl.rd h0;obtain⟨y,dC,e1,e2⟩:=aQ e;split at e2
  ·rename_i o2 x h2;obtain⟨e5,rfl⟩:=cF e2;refine⟨v,hv,Pr,F,env,env',y,rl,e1,λvy H2 F2 r2 s2 p2=>?_⟩;obtain⟨v',hv',p⟩:=r2.rd h2;rw[hv] at hv';cases hv';exact o Pr F2 env' σ H2 x y d v vy Q r2 p p2 e5 λv H3 F3 r3 s3 p3=>q v H3 F3 r3 (s2.trans s3) p3
  ·cases e2
 ·cases e
def afP{op:Operator}{r:R2}{g:D->D->Option D}{x y:Expr}{a b:Ev}(ho:mG X (binaryOp op) r)(o:pW C r g)(ha:PX X C x a)(hb:WY X C y b):PX X C (.BinOp x op y pos) (az g a b):=
 (U3 ho ha hb).imp (Be o)
def acp{op:Operator}{r:R2}{g:D->D->Option D}{y:Expr}{b:Ev}{px:Pos}(i:Nat){x:Str}(hN:X.N[i]? = some x)(hv:ym X.env.scope x)(ho:mG X (binaryOp op) r)(o:pW C r g)(hb:WY X C y b)
  (hd:jy x:=by decide) (hcd:uq x:=by decide):PX X C (.BinOp (.Name x px) op y pos) (aA g i b):=
 (U3 ho (jj hN hv hd hcd) hb).imp (vC o)
def acw{op:CmpOp}{r:R2}{g:D->D->Option D}{x y:Expr}{a b:Ev}(ho:mG X (compareOp op) r)(o:pW C r g)(ha:PX X C x a)(hb:WY X C y b)(hm:behindInMarks op y=false):PX X C (.Compare x [op] [y] pos) (az g a b):=
 (NQ ho ha hb hm).imp (Be o)
def afN{op:UnaryOp}{r:V->Hp->VK->Prop}{g:D->Option D}{x:Expr}{a:Ev}(ho:UnR X (unaryOp op) r)(o:UnD C r g)(ha:PX X C x a):PX X C (.UnaryOp op x pos) (dY g a):=
 (afT ho ha).imp λσ H Q h=>by
  obtain⟨Pr,F,env,env',d,rl,e,q⟩:=h;obtain⟨x,aH,e1,e2⟩:=aQ e;obtain⟨e3,rfl⟩:=cF e2;exact⟨Pr,F,env,env',x,rl,e1,λvx H1 F1 r1 s1 p1=>o Pr F1 env' σ H1 x d vx Q r1 (.inl p1) e3 λv H3 F3 r3 s3 p3=>q v H3 F3 r3 (s1.trans s3) p3⟩
def fB(a:Ev):fM:=λenv=>bindR (a env) λd aH=>match d with
 | .bl b=>.ok b aH
 | _=>.stuck
def Tc{a:Ev}{σ:L2.St}{H:Hp}{Q:Bool->Hp->Prop}(h:tT C (fB a) σ H Q):tE C a σ H λx H'=>∃k,x = .bl k/\Q k H':=by
 obtain⟨Pr,F,env,env',b,rl,e,q⟩:=h;obtain⟨d,aH,e1,e2⟩:=aQ e;refine⟨Pr,F,env,aH,d,rl,e1,λv H1 F1 r1 s1 p1=>?_⟩;cases d with
 | bl c=>cases e2;exact⟨_,p1,q H1 F1 r1 s1⟩
 | _=>cases e2
def X6{op:CmpOp}{r:R2}{g:D->D->Option D}{x y:Expr}{a b:Ev}(ho:mG X (compareOp op) r)(o:pW C r g)(ha:PX X C x a)(hb:WY X C y b)(hm:behindInMarks op y=false):PXT X C (.Compare x [op] [y] pos) (fB (az g a b)):=
 (Ny ho ha hb hm).imp λσ H Q h=>by
  have h1:=Tc h;exact Be o σ H _ h1
def dO(a:fM):fM:=λenv=>bindR (a env) λb aH=>.ok (!b) aH
def xn(a b:fM):fM:=λenv=>bindR (a env) λc aH=>if c=true then b aH else .ok false aH
def j5(a b:fM):fM:=λenv=>bindR (a env) λc aH=>if c=true then .ok true aH else b aH
def PXW(X:Cx)(C:Cfg)(e:Expr)(ev:fM):Prop:=PW X e (tT C ev)
def PXW.pt{e:Expr}{a:fM}(h:PXW X C e a):PXT X C e a:=PW.pt h
def jd(a b:Ev):Ev:=λenv=>bindR (a env) λc aH=>match c with
 | .bl true=>b aH
 | .bl false=>.ok (.bl false) aH
 | _=>.stuck
def Jt(a b:Ev):Ev:=λenv=>bindR (a env) λc aH=>match c with
 | .bl true=>.ok (.bl true) aH
 | .bl false=>b aH
 | _=>.stuck
def abk(a:Ev):Ev:=λenv=>bindR (a env) λc aH=>match c with
 | .bl b=>.ok (.bl (!b)) aH
 | _=>.stuck
def Mj(t:fM)(a b:Ev):Ev:=λenv=>bindR (t env) λc aH=>if c=true then a aH else b aH
end
def xR(f:D->D->Option Bool):List D->List D->Option Bool
 | [],[]=>some true
 | x::xs,y::ys=>match f x y,xR f xs ys with
  | some a,some b=>some (a&&b)
  | _,_=>none
 | [],_::_=>some false
 | _::_,[]=>some false
def bD:Nat->D->D->Option Bool
 | 0,_,_=>none
 | n+1,.tup xs,.tup ys=>xR (bD n) xs ys
 | n+1,.lst xs,.lst ys=>xR (bD n) xs ys
 | _+1,.dct _,_=>none
 | _+1,.lE _,_=>none
 | _+1,.clo _ _,_=>none
 | _+1,_,.dct _=>none
 | _+1,_,.lE _=>none
 | _+1,_,.clo _ _=>none
 | _+1,.arr _,_=>none
 | _+1,_,.arr _=>none
 | _+1,.non,.non=>some true
 | _+1,.bl a,.bl b=>some (a == b)
 | _+1,.bl a,.int b=>some ((if a then 1 else 0) == b)
 | _+1,.int a,.bl b=>some (a == (if b then 1 else 0))
 | _+1,.int a,.int b=>some (a == b)
 | _+1,.str a,.str b=>some (a == b)
 | _+1,_,_=>some false
mutual
def Sh(h:Heap):D->Value->Prop
 | .non,u=>u = .none
 | .bl b,u=>u = .bool b
 | .int i,u=>∃t,u = .int i t
 | .str x,u=>∃t,u = .str (strOf x) t
 | .tup xs,u=>∃a its,u = .ref a/\IsTup h a its.toArray/\J4 h xs its
 | .lst xs,u=>∃a its,u = .ref a/\PlainL h a its.toArray/\J4 h xs its
 | .arr xs,u=>∃a its,u = .ref a/\PlainL h a its.toArray/\J4 h xs its
 | .dct _,u=>∃a o,u = .ref a/\h.get? a=some o/\o.ExactDict
 | .lE _,u=>∃a o,u = .ref a/\h.get? a=some o/\o.ExactDict
 | .clo _ _,u=>∃a,u = .ref a
def J4(h:Heap):List D->List Value->Prop
 | [],us=>us=[]
 | d::ds,us=>∃u r,us=u::r/\Sh h d u/\J4 h ds r
end
theorem J4.length{h:Heap}:∀{ds:List D} {us:List Value},J4 h ds us->us.length=ds.length
 | [],_,e=>by cases e;rfl
 | d::ds,us,e=>by obtain⟨u,r,rfl,_,h2⟩:=e;rw[Qq0,Qq0,h2.length]
section
variable{X:Cx}{pins:List (Addr×Obj)}{σ:L2.St}{H:Hp}{s:Shared}
mutual
theorem Rep.sh(I:Inv X pins σ H s):∀(d:D) (v:V) (u:Value),Rep X.K H d v->RelV v u->Sh s.heap d u
 | .non,_,_,h,r=>by cases h;exact r
 | .bl _,_,_,h,r=>by cases h;exact r
 | .int _,_,_,h,r=>by cases h;exact r
 | .str _,_,_,h,r=>by obtain⟨h,_⟩:=h;cases h;exact r
 | .tup xs,v,u,h,r=>by
  obtain⟨z,a,vs,rfl,h1,h2⟩:=h;cases r;obtain⟨its,rv,p,_⟩:=I.tuple h1;exact⟨a,its,rfl,p,cg.sh I xs vs its h2 rv⟩
 | .lst xs,v,u,h,r=>by
  obtain⟨z,a,vs,rfl,h1,h2⟩:=h;cases r;obtain⟨its,rv,p,_⟩:=I.list (j8.of h1);exact⟨a,its,rfl,p,cg.sh I xs vs its h2 rv⟩
 | .arr xs,v,u,h,r=>by
  obtain⟨z,a,vs,rfl,h1,h2⟩:=h;cases r;obtain⟨its,rv,p,_⟩:=I.list h1;exact⟨a,its,rfl,p,cg.sh I xs vs its h2 rv⟩
 | .dct kvs,v,u,h,r=>by
  obtain⟨z,a,ks,rfl,h1,h2⟩:=h;cases r;obtain⟨_,_,vs,_,o,_,_,e,ex,_⟩:=h1.ok I.hok;exact⟨a,o,rfl,e,ex⟩
 | .lE kvs,v,u,h,r=>by
  obtain⟨z,a,ks,rfl,h1,h2⟩:=h;cases r;obtain⟨_,_,vs,_,o,_,_,e,ex,_⟩:=h1.ok I.hok;exact⟨a,o,rfl,e,ex⟩
 | .clo st ds,v,u,h,r=>by
  obtain⟨a,vs,rfl,h1,h2⟩:=h;cases r;exact⟨a,rfl⟩
theorem cg.sh(I:Inv X pins σ H s):∀(ds:List D) (vs:List V) (us:List Value),cg X.K H ds vs->Vals vs us->J4 s.heap ds us
 | [],_,_,h,r=>by cases h;cases r;exact rfl
 | d::ds,vs,us,h,r=>by
  obtain⟨v,rr,rfl,h1,h2⟩:=h;cases r with
  | cons q qs=>exact⟨_,_,rfl,Rep.sh I d v _ h1 q,cg.sh I ds rr _ h2 qs⟩
end
end
def Ng{h:Heap}{a:Addr}{xs ys:Array Value}(p:IsTup h a xs)(q:IsTup h a ys):xs=ys:=by obtain⟨o,e,_,n,d⟩:=p;obtain⟨o',e',_,n',d'⟩:=q;rw[e] at e';cases e';rw[d] at d';cases d';rfl
def N8{h:Heap}{a:Addr}{xs ys:Array Value}(p:PlainL h a xs)(q:PlainL h a ys):xs=ys:=by obtain⟨o,e,_,n,d⟩:=p.isList;obtain⟨o',e',_,n',d'⟩:=q.isList;rw[e] at e';cases e';rw[d] at d';cases d';rfl
def yI{h:Heap}{a:Addr}{xs ys:Array Value}(p:IsTup h a xs)(q:PlainL h a ys):False:=by obtain⟨o,e,c,n,d⟩:=p;obtain⟨o',e',c',n',d'⟩:=q.isList;rw[e] at e';cases e';rw[c] at c';simp at c'
theorem An{h:Heap}:∀(n:Nat) (d e:D) (u:Value) (b:Bool),Sh h d u->Sh h e u->bD n d e=some b->b=true
 | 0,_,_,_,_,_,_,hb=>by simp[bD] at hb
 | n+1,d,e,u,b,hd,he,hb=>by
  have all:∀(xs ys:List D) (us:List Value) (b:Bool),J4 h xs us->J4 h ys us->xR (bD n) xs ys=some b->b=true:=by
   intro xs
   induction xs with
   | nil=>
    intro ys us b h1 h2 hb;cases h1;cases ys with
    | nil=>simp[xR] at hb;exact hb
    | cons y ys=>obtain⟨u,r,q,_⟩:=h2;cases q
   | cons x xs ih=>
    intro ys us b h1 h2 hb;obtain⟨u,r,rfl,h3,h4⟩:=h1;cases ys with
    | nil=>cases h2
    | cons y ys=>
     obtain⟨u',r',q,h5,h6⟩:=h2;cases q;unfold xR at hb;cases q1:bD n x y with
     | none=>rw[q1] at hb;simp at hb
     | some c=>
      cases q2:xR (bD n) xs ys with
      | none=>rw[q1,q2] at hb;simp at hb
      | some c'=>
       rw[q1,q2] at hb;have e1:=An n x y u c h3 h5 q1;have e2:=ih ys r c' h4 h6 q2;subst e1 e2;simp at hb;exact hb
  cases d with
  | non=>cases hd;cases e<;>simp[Sh] at he;simp[bD] at hb;exact hb
  | bl c=>cases hd;cases e<;>simp[Sh] at he;subst he;simp[bD] at hb;exact hb
  | int i=>obtain⟨t,rfl⟩:=hd;cases e<;>simp[Sh] at he;subst he;simp[bD] at hb;exact hb
  | str x=>
   obtain⟨t,rfl⟩:=hd;cases e with
   | str y=>
    obtain⟨t',q⟩:=he;injection q with q1 _
    unfold strOf at q1;injection q1 with q2
    have q3:=Qz0 Array.toList q2;simp at q3;subst q3;simp[bD] at hb;exact hb
   | _=>simp[Sh] at he
  | tup xs=>
   obtain⟨a,its,rfl,p,hs⟩:=hd;cases e with
   | tup ys=>
    obtain⟨a',its',q,p',hs'⟩:=he;cases q;have e2:its=its':=by simpa using Ng p p'
    subst e2;exact all xs ys its b hs hs' (by simpa only[bD] using hb)
   | lst ys=>
    obtain⟨a',its',q,p',hs'⟩:=he;cases q;exact(yI p p').elim
   | dct kvs=>simp[bD] at hb
   | lE kvs=>simp[bD] at hb
   | clo _ _=>simp[bD] at hb
   | arr kvs=>simp[bD] at hb
   | _=>simp[Sh] at he
  | lst xs=>
   obtain⟨a,its,rfl,p,hs⟩:=hd;cases e with
   | lst ys=>
    obtain⟨a',its',q,p',hs'⟩:=he;cases q;have e2:its=its':=by simpa using N8 p p'
    subst e2;exact all xs ys its b hs hs' (by simpa only[bD] using hb)
   | tup ys=>
    obtain⟨a',its',q,p',hs'⟩:=he;cases q;exact(yI p' p).elim
   | dct kvs=>simp[bD] at hb
   | lE kvs=>simp[bD] at hb
   | clo _ _=>simp[bD] at hb
   | arr kvs=>simp[bD] at hb
   | _=>simp[Sh] at he
  | dct kvs=>cases e<;>simp[bD] at hb
  | lE kvs=>cases e<;>simp[bD] at hb
  | clo _ _=>cases e<;>simp[bD] at hb
  | arr kvs=>cases e<;>simp[bD] at hb
theorem Pa{h:Heap}:∀(n:Nat) (d d' e:D) (u:Value) (b b':Bool),Sh h d u->Sh h d' u->bD n d e=some b->bD n d' e=some b'->b=b'
 | 0,_,_,_,_,_,_,_,_,hb,_=>by simp[bD] at hb
 | n+1,d,d',e,u,b,b',hd,hd',hb,hb'=>by
  have all:∀(xs xs' ys:List D) (us:List Value) (b b':Bool),J4 h xs us->J4 h xs' us->xR (bD n) xs ys=some b->xR (bD n) xs' ys=some b'->b=b':=by
   intro xs
   induction xs with
   | nil=>
    intro xs' ys us b b' h1 h2 hb hb';cases h1;cases xs' with
    | nil=>rw[hb] at hb';exact Qw9 hb'
    | cons y ys=>obtain⟨u,r,q,_⟩:=h2;cases q
   | cons x xs ih=>
    intro xs' ys us b b' h1 h2 hb hb';obtain⟨u,r,rfl,h3,h4⟩:=h1;cases xs' with
    | nil=>cases h2
    | cons x' xs'=>
     obtain⟨u',r',q,h5,h6⟩:=h2;cases q;cases ys with
     | nil=>simp[xR] at hb hb';rw[hb,hb']
     | cons y ys=>
      unfold xR at hb hb';cases q1:bD n x y with
      | none=>rw[q1] at hb;simp at hb
      | some c=>
       cases q2:xR (bD n) xs ys with
       | none=>rw[q1,q2] at hb;simp at hb
       | some c2=>
        cases q3:bD n x' y with
        | none=>rw[q3] at hb';simp at hb'
        | some c3=>
         cases q4:xR (bD n) xs' ys with
         | none=>rw[q3,q4] at hb';simp at hb'
         | some c4=>
          rw[q1,q2] at hb;rw[q3,q4] at hb';have e1:=Pa n x x' y u c c3 h3 h5 q1 q3;have e2:=ih xs' ys r c2 c4 h4 h6 q2 q4;subst e1 e2;simp at hb hb';rw[<-hb,<-hb']
  cases d with
  | non=>cases hd;cases d'<;>simp[Sh] at hd';rw[hb] at hb';exact Qw9 hb'
  | bl c=>cases hd;cases d'<;>simp[Sh] at hd';subst hd';rw[hb] at hb';exact Qw9 hb'
  | int i=>obtain⟨t,rfl⟩:=hd;cases d'<;>simp[Sh] at hd';subst hd';rw[hb] at hb';exact Qw9 hb'
  | str x=>
   obtain⟨t,rfl⟩:=hd;cases d' with
   | str y=>
    obtain⟨t',q⟩:=hd';injection q with q1 _
    unfold strOf at q1;injection q1 with q2
    have q3:=Qz0 Array.toList q2;simp at q3;subst q3;rw[hb] at hb';exact Qw9 hb'
   | _=>simp[Sh] at hd'
  | tup xs=>
   obtain⟨a,its,rfl,p,hs⟩:=hd;cases d' with
   | tup xs'=>
    obtain⟨a',its',q,p',hs'⟩:=hd';cases q;have e2:its=its':=by simpa using Ng p p'
    subst e2;cases e with
    | tup ys=>exact all xs xs' ys its b b' hs hs' (by simpa only[bD] using hb) (by simpa only[bD] using hb')
    | _=>first|(simp[bD] at hb;done)|(simp only[bD,Qw2] at hb hb';rw[<-hb,<-hb'])
   | lst ys=>
    obtain⟨a',its',q,p',hs'⟩:=hd';cases q;exact(yI p p').elim
   | dct kvs=>cases e<;>simp[bD] at hb'
   | lE kvs=>cases e<;>simp[bD] at hb'
   | clo _ _=>cases e<;>simp[bD] at hb'
   | arr kvs=>cases e<;>simp[bD] at hb'
   | _=>simp[Sh] at hd'
  | lst xs=>
   obtain⟨a,its,rfl,p,hs⟩:=hd;cases d' with
   | lst xs'=>
    obtain⟨a',its',q,p',hs'⟩:=hd';cases q;have e2:its=its':=by simpa using N8 p p'
    subst e2;cases e with
    | lst ys=>exact all xs xs' ys its b b' hs hs' (by simpa only[bD] using hb) (by simpa only[bD] using hb')
    | _=>first|(simp[bD] at hb;done)|(simp only[bD,Qw2] at hb hb';rw[<-hb,<-hb'])
   | tup ys=>
    obtain⟨a',its',q,p',hs'⟩:=hd';cases q;exact(yI p' p).elim
   | dct kvs=>cases e<;>simp[bD] at hb'
   | lE kvs=>cases e<;>simp[bD] at hb'
   | clo _ _=>cases e<;>simp[bD] at hb'
   | arr kvs=>cases e<;>simp[bD] at hb'
   | _=>simp[Sh] at hd'
  | dct kvs=>cases e<;>simp[bD] at hb
  | lE kvs=>cases e<;>simp[bD] at hb
  | clo _ _=>cases e<;>simp[bD] at hb
  | arr kvs=>cases e<;>simp[bD] at hb
def wu(x y:List Nat):(strOf x == strOf y)=(x == y):=by
 rw[Qj6];simp only[beq_iff_eq];constructor
 ·intro e;unfold strOf at e;injection e with e
  simpa using Qz0 Array.toList e
 ·intro e;rw[e]
theorem yR:∀{f:D->D->Option Bool} {xs ys:List D},xs.length≠ys.length->∀b,xR f xs ys=some b->b=false
 | f,[],[],h,b,e=>absurd rfl h
 | f,[],_::_,_,b,e=>by simp[xR] at e;exact e
 | f,_::_,[],_,b,e=>by simp[xR] at e;exact e
 | f,x::xs,y::ys,h,b,e=>by
  unfold xR at e;cases h1:f x y with
  | none=>rw[h1] at e;simp at e
  | some c=>
   cases h2:xR f xs ys with
   | none=>rw[h1,h2] at e;simp at e
   | some d=>
    rw[h1,h2] at e;have:=yR (f:=f) (xs:=xs) (ys:=ys) (by simpa using h) d h2;subst this;simp at e;exact e
theorem uo:∀{f:D->D->Option Bool} (xs ys:List D) (b:Bool),xR f xs ys=some b->∃e:Nat->Bool,(∀(j:Nat) (x y:D),xs[j]? = some x->ys[j]? = some y->f x y=some (e j))/\b=((List.range (min xs.length ys.length)).all e&&xs.length == ys.length)
 | f,[],ys,b,h=>by
  refine⟨λ_=>true,λj x y hx=>by simp at hx,?_⟩;cases ys with
  | nil=>simp[xR] at h;simp[h.symm]
  | cons y ys=>simp[xR] at h;simp[h.symm]
 | f,x::xs,[],b,h=>by
  refine⟨λ_=>true,λj x y _ hy=>by simp at hy,?_⟩;simp[xR] at h;simp[h.symm]
 | f,x::xs,y::ys,b,h=>by
  unfold xR at h;cases h1:f x y with
  | none=>rw[h1] at h;simp at h
  | some c=>
   cases h2:xR f xs ys with
   | none=>rw[h1,h2] at h;simp at h
   | some d=>
    rw[h1,h2] at h;obtain⟨e,he,hd⟩:=uo xs ys d h2;refine⟨λj=>match j with|0=>c|j+1=>e j,λj x' y' hx hy=>?_,?_⟩
    ·cases j with
     | zero=>simp at hx hy;subst hx hy;exact h1
     | succ j=>exact he j x' y' (by simpa using hx) (by simpa using hy)
    ·have hb:b=(c&&d):=by simpa using h.symm
     have hm:min (x::xs).length (y::ys).length=min xs.length ys.length+1:=by simp only[Qq0];omega
     rw[hb,hd,hm,List.range_succ_eq_map,List.all_cons,List.all_map,Bool.and_assoc];have hl:((x::xs).length == (y::ys).length)=(xs.length == ys.length):=by simp
     rw[hl]
     rfl
theorem mK{h:Heap}:∀{ds:List D} {us:List Value} {j:Nat} {u:Value},J4 h ds us->us[j]? = some u->∃d,ds[j]? = some d/\Sh h d u
 | [],_,_,_,e,g=>by cases e;simp at g
 | d::ds,us,j,u,e,g=>by
  obtain⟨v,r,rfl,h1,h2⟩:=e;cases j with
  | zero=>simp at g;subst g;exact⟨d,rfl,h1⟩
  | succ j=>obtain⟨c,e1,e2⟩:=mK h2 (j:=j) (by simpa using g);exact⟨c,by simpa using e1,e2⟩
theorem Gr:∀(n:Nat) (d e:D) (u v:Value) (b:Bool) (A:Around) (s:Shared),Sh s.heap d u->Sh s.heap e v->bD n d e=some b->A.units+n<cLine->SeqAt.EqAt A s u v b
 | 0,_,_,_,_,_,_,_,_,_,h,_=>by simp[bD] at h
 | n+1,d,e,u,v,b,A,s,hd,he,h,hu=>by
  have hu0:A.units<cLine:=by omega
  have hin:A.in1.units+n<cLine:=by show A.units+1+n<cLine;omega
  cases d with
  | non=>
   cases hd;cases e with
   | non=>cases he;simp[bD] at h;subst h;exact SeqAt.EqAt.same _
   | bl c=>cases he;simp[bD] at h;subst h;exact SeqAt.EqAt.none_bool c
   | int i=>obtain⟨t,rfl⟩:=he;simp[bD] at h;subst h;exact SeqAt.EqAt.none_int i t
   | str x=>obtain⟨t,rfl⟩:=he;simp[bD] at h;subst h;exact SeqAt.EqAt.none_str _ t
   | tup ys=>obtain⟨a,its,rfl,p,_⟩:=he;simp[bD] at h;subst h;exact SeqAt.EqAt.none_tuple p hu0
   | lst ys=>obtain⟨a,its,rfl,p,_⟩:=he;simp[bD] at h;subst h;exact SeqAt.EqAt.none_list p.isList hu0
   | dct kvs=>simp[bD] at h
   | lE kvs=>simp[bD] at h
   | clo _ _=>simp[bD] at h
   | arr kvs=>simp[bD] at h
  | bl c=>
   cases hd;cases e with
   | non=>cases he;simp[bD] at h;subst h;exact SeqAt.EqAt.bool_none c
   | bl c'=>cases he;simp only[bD,Qw2] at h;subst h;exact SeqAt.EqAt.bool_bool c c'
   | int i=>obtain⟨t,rfl⟩:=he;simp only[bD,Qw2] at h;subst h;exact SeqAt.EqAt.bool_int c i t
   | str x=>obtain⟨t,rfl⟩:=he;simp[bD] at h;subst h;exact SeqAt.EqAt.bool_str c _ t
   | tup ys=>obtain⟨a,its,rfl,p,_⟩:=he;simp[bD] at h;subst h;exact SeqAt.EqAt.bool_tuple c p hu0
   | lst ys=>obtain⟨a,its,rfl,p,_⟩:=he;simp[bD] at h;subst h;exact SeqAt.EqAt.bool_list c p.isList hu0
   | dct kvs=>simp[bD] at h
   | lE kvs=>simp[bD] at h
   | clo _ _=>simp[bD] at h
   | arr kvs=>simp[bD] at h
  | int i=>
   obtain⟨t',rfl⟩:=hd;cases e with
   | non=>cases he;simp[bD] at h;subst h;exact SeqAt.EqAt.int_none i t'
   | bl c'=>cases he;simp only[bD,Qw2] at h;subst h;exact SeqAt.EqAt.int_bool i t' c'
   | int j=>obtain⟨t,rfl⟩:=he;simp only[bD,Qw2] at h;subst h;exact SeqAt.EqAt.int_int i t' j t
   | str x=>obtain⟨t,rfl⟩:=he;simp[bD] at h;subst h;exact SeqAt.EqAt.int_str i t' _ t
   | tup ys=>obtain⟨a,its,rfl,p,_⟩:=he;simp[bD] at h;subst h;exact SeqAt.EqAt.int_tuple i t' p hu0
   | lst ys=>obtain⟨a,its,rfl,p,_⟩:=he;simp[bD] at h;subst h;exact SeqAt.EqAt.int_list i t' p.isList hu0
   | dct kvs=>simp[bD] at h
   | lE kvs=>simp[bD] at h
   | clo _ _=>simp[bD] at h
   | arr kvs=>simp[bD] at h
  | str x=>
   obtain⟨t',rfl⟩:=hd;cases e with
   | non=>cases he;simp[bD] at h;subst h;exact SeqAt.EqAt.str_none _ t'
   | bl c'=>cases he;simp[bD] at h;subst h;exact SeqAt.EqAt.str_bool _ t' c'
   | int j=>obtain⟨t,rfl⟩:=he;simp[bD] at h;subst h;exact SeqAt.EqAt.str_int _ t' j t
   | str y=>obtain⟨t,rfl⟩:=he;simp only[bD,Qw2] at h;subst h;rw[<-wu];exact SeqAt.EqAt.str_str _ t' _ t
   | tup ys=>obtain⟨a,its,rfl,p,_⟩:=he;simp[bD] at h;subst h;exact SeqAt.EqAt.str_tuple _ t' p hu0
   | lst ys=>obtain⟨a,its,rfl,p,_⟩:=he;simp[bD] at h;subst h;exact SeqAt.EqAt.str_list _ t' p.isList hu0
   | dct kvs=>simp[bD] at h
   | lE kvs=>simp[bD] at h
   | clo _ _=>simp[bD] at h
   | arr kvs=>simp[bD] at h
  | tup xs=>
   obtain⟨a,its,rfl,p,hs⟩:=hd;cases e with
   | non=>cases he;simp[bD] at h;subst h;exact SeqAt.EqAt.tuple_none p hu0
   | bl c'=>cases he;simp[bD] at h;subst h;exact SeqAt.EqAt.tuple_bool c' p hu0
   | int j=>obtain⟨t,rfl⟩:=he;simp[bD] at h;subst h;exact SeqAt.EqAt.tuple_int j t p hu0
   | str y=>obtain⟨t,rfl⟩:=he;simp[bD] at h;subst h;exact SeqAt.EqAt.tuple_str _ t p hu0
   | tup ys=>
    obtain⟨a',its',rfl,p',hs'⟩:=he;by_cases haa:a=a'
    ·subst haa;have:=An (n+1) (.tup xs) (.tup ys) (.ref a) b ⟨a,its,rfl,p,hs⟩ ⟨a,its',rfl,p',hs'⟩ h;subst this;exact SeqAt.EqAt.same _
    ·simp only[bD] at h;obtain⟨f,hf,hb⟩:=uo xs ys b h;have l1:=hs.length;have l2:=hs'.length;refine SeqAt.EqAt.of_refs haa ?_;have:=SeqAt.RcAt.tuples (e:=f) p p' hu0 λj h1 h2=>?_
     ·rw[hb];simp only[Qq4] at this;rw[l1,l2] at this;exact this
     ·have g1:its[j]? = some its.toArray[j]:=by simp at h1 ⊢
      have g2:its'[j]? = some its'.toArray[j]:=by simp at h2 ⊢
      obtain⟨x,q1,q2⟩:=mK hs g1;obtain⟨y,q3,q4⟩:=mK hs' g2;exact Gr n x y _ _ _ A.in1 s q2 q4 (hf j x y q1 q3) hin
   | lst ys=>obtain⟨a',its',rfl,p',_⟩:=he;simp[bD] at h;subst h;exact SeqAt.EqAt.tuple_list p p'.isList hu0
   | dct kvs=>simp[bD] at h
   | lE kvs=>simp[bD] at h
   | clo _ _=>simp[bD] at h
   | arr kvs=>simp[bD] at h
  | lst xs=>
   obtain⟨a,its,rfl,p,hs⟩:=hd;cases e with
   | non=>cases he;simp[bD] at h;subst h;exact SeqAt.EqAt.list_none p.isList hu0
   | bl c'=>cases he;simp[bD] at h;subst h;exact SeqAt.EqAt.list_bool c' p.isList hu0
   | int j=>obtain⟨t,rfl⟩:=he;simp[bD] at h;subst h;exact SeqAt.EqAt.list_int j t p.isList hu0
   | str y=>obtain⟨t,rfl⟩:=he;simp[bD] at h;subst h;exact SeqAt.EqAt.list_str _ t p.isList hu0
   | lst ys=>
    obtain⟨a',its',rfl,p',hs'⟩:=he;have l1:=hs.length;have l2:=hs'.length;by_cases haa:a=a'
    ·subst haa;have:=An (n+1) (.lst xs) (.lst ys) (.ref a) b ⟨a,its,rfl,p,hs⟩ ⟨a,its',rfl,p',hs'⟩ h;subst this;exact SeqAt.EqAt.same _
    ·simp only[bD] at h;refine SeqAt.EqAt.of_refs haa ?_;by_cases hl:xs.length=ys.length
     ·obtain⟨f,hf,hb⟩:=uo xs ys b h;have:=SeqAt.RcAt.lists (e:=f) p.isList p'.isList (by simp only[Qq4];omega) hu0 λj h1 h2=>?_
      ·rw[hb,<-hl,Nat.min_self,beq_self_eq_true,Bool.and_true,<-l1];simp only[Qq4] at this;exact this
      ·have g1:its[j]? = some its.toArray[j]:=by simp at h1 ⊢
       have g2:its'[j]? = some its'.toArray[j]:=by simp at h2 ⊢
       obtain⟨x,q1,q2⟩:=mK hs g1;obtain⟨y,q3,q4⟩:=mK hs' g2;exact Gr n x y _ _ _ A.in1 s q2 q4 (hf j x y q1 q3) hin
     ·have:=yR hl b h;subst this;exact SeqAt.RcAt.lists_lengths p.isList p'.isList (by simp only[Qq4];rw[l1,l2];simpa using hl) hu0
   | tup ys=>obtain⟨a',its',rfl,p',_⟩:=he;simp[bD] at h;subst h;exact SeqAt.EqAt.list_tuple p.isList p' hu0
   | dct kvs=>simp[bD] at h
   | lE kvs=>simp[bD] at h
   | clo _ _=>simp[bD] at h
   | arr kvs=>simp[bD] at h
  | dct kvs=>cases e<;>simp[bD] at h
  | lE kvs=>cases e<;>simp[bD] at h
  | clo _ _=>cases e<;>simp[bD] at h
  | arr kvs=>cases e<;>simp[bD] at h
def uY(n:Nat)(its its':List Value)(xs ys:List D)(f:Nat->Bool)(A:Around)(s:Shared)(hs:J4 s.heap xs its)(hs':J4 s.heap ys its')(hf:∀(j:Nat) (x y:D),xs[j]? = some x->ys[j]? = some y->bD n x y=some (f j))(hin:A.in1.units+n<cLine)
  (j:Nat) (h1:j<its.toArray.size) (h2:j<its'.toArray.size):SeqAt.EqAt A.in1 s its.toArray[j] its'.toArray[j] (f j):=by
 have g1:its[j]? = some its.toArray[j]:=by simp at h1 ⊢
 have g2:its'[j]? = some its'.toArray[j]:=by simp at h2 ⊢
 obtain⟨x,q1,q2⟩:=mK hs g1;obtain⟨y,q3,q4⟩:=mK hs' g2;exact Gr n x y _ _ _ A.in1 s q2 q4 (hf j x y q1 q3) hin
def afv(n:Nat)(d e:D)(u v:Value)(b:Bool)(A:Around)(s:Shared)(hd:Sh s.heap d u)(he:Sh s.heap e v)(h:bD (n+1) d e=some b)(hu:A.units+(n+1)<cLine):SeqAt.RcAt A s u v b:=by
 have hu0:A.units<cLine:=by omega
 have hin:A.in1.units+n<cLine:=by show A.units+1+n<cLine;omega
 cases d with
 | non=>
  cases hd;cases e with
  | non=>
   cases he;simp[bD] at h;subst h;exact SeqAt.RcAt.none_none
  | bl c'=>
   cases he;simp[bD] at h;subst h;exact SeqAt.RcAt.none_bool c'
  | int j=>
   obtain⟨t,rfl⟩:=he;simp[bD] at h;subst h;exact SeqAt.RcAt.none_int j t
  | str y=>
   obtain⟨t,rfl⟩:=he;simp[bD] at h;subst h;exact SeqAt.RcAt.none_str _ t
  | tup ys=>
   obtain⟨a',its',rfl,p',hs'⟩:=he;simp[bD] at h;subst h;exact SeqAt.RcAt.none_tuple p' hu0
  | lst ys=>
   obtain⟨a',its',rfl,p',hs'⟩:=he;simp[bD] at h;subst h;exact SeqAt.RcAt.none_list p'.isList hu0
  | arr kvs=>
   simp[bD] at h
  | dct kvs=>
   simp[bD] at h
  | lE kvs=>
   simp[bD] at h
  | clo _ _=>
   simp[bD] at h
 | bl c=>
  cases hd;cases e with
  | non=>
   cases he;simp[bD] at h;subst h;exact SeqAt.RcAt.bool_none c
  | bl c'=>
   cases he;simp only[bD,Qw2] at h;subst h;exact SeqAt.RcAt.bool_bool c c'
  | int j=>
   obtain⟨t,rfl⟩:=he;simp only[bD,Qw2] at h;subst h;exact SeqAt.RcAt.bool_int c j t
  | str y=>
   obtain⟨t,rfl⟩:=he;simp[bD] at h;subst h;exact SeqAt.RcAt.bool_str c _ t
  | tup ys=>
   obtain⟨a',its',rfl,p',hs'⟩:=he;simp[bD] at h;subst h;exact SeqAt.RcAt.bool_tuple c p' hu0
  | lst ys=>
   obtain⟨a',its',rfl,p',hs'⟩:=he;simp[bD] at h;subst h;exact SeqAt.RcAt.bool_list c p'.isList hu0
  | arr kvs=>
   simp[bD] at h
  | dct kvs=>
   simp[bD] at h
  | lE kvs=>
   simp[bD] at h
  | clo _ _=>
   simp[bD] at h
 | int i=>
  obtain⟨t',rfl⟩:=hd;cases e with
  | non=>
   cases he;simp[bD] at h;subst h;exact SeqAt.RcAt.int_none i t'
  | bl c'=>
   cases he;simp only[bD,Qw2] at h;subst h;exact SeqAt.RcAt.int_bool i t' c'
  | int j=>
   obtain⟨t,rfl⟩:=he;simp only[bD,Qw2] at h;subst h;exact SeqAt.RcAt.int_int i t' j t
  | str y=>
   obtain⟨t,rfl⟩:=he;simp[bD] at h;subst h;exact SeqAt.RcAt.int_str i t' _ t
  | tup ys=>
   obtain⟨a',its',rfl,p',hs'⟩:=he;simp[bD] at h;subst h;exact SeqAt.RcAt.int_tuple i t' p' hu0
  | lst ys=>
   obtain⟨a',its',rfl,p',hs'⟩:=he;simp[bD] at h;subst h;exact SeqAt.RcAt.int_list i t' p'.isList hu0
  | arr kvs=>
   simp[bD] at h
  | dct kvs=>
   simp[bD] at h
  | lE kvs=>
   simp[bD] at h
  | clo _ _=>
   simp[bD] at h
 | str x=>
  obtain⟨t',rfl⟩:=hd;cases e with
  | non=>
   cases he;simp[bD] at h;subst h;exact SeqAt.RcAt.str_none _ t'
  | bl c'=>
   cases he;simp[bD] at h;subst h;exact SeqAt.RcAt.str_bool _ t' c'
  | int j=>
   obtain⟨t,rfl⟩:=he;simp[bD] at h;subst h;exact SeqAt.RcAt.str_int _ t' j t
  | str y=>
   obtain⟨t,rfl⟩:=he;simp only[bD,Qw2] at h;subst h;rw[<-wu];exact SeqAt.RcAt.str_str _ t' _ t
  | tup ys=>
   obtain⟨a',its',rfl,p',hs'⟩:=he;simp[bD] at h;subst h;exact SeqAt.RcAt.str_tuple _ t' p' hu0
  | lst ys=>
   obtain⟨a',its',rfl,p',hs'⟩:=he;simp[bD] at h;subst h;exact SeqAt.RcAt.str_list _ t' p'.isList hu0
  | arr kvs=>
   simp[bD] at h
  | dct kvs=>
   simp[bD] at h
  | lE kvs=>
   simp[bD] at h
  | clo _ _=>
   simp[bD] at h
 | tup xs=>
  obtain⟨a,its,rfl,p,hs⟩:=hd;cases e with
  | non=>
   cases he;simp[bD] at h;subst h;exact SeqAt.RcAt.tuple_none p hu0
  | bl c'=>
   cases he;simp[bD] at h;subst h;exact SeqAt.RcAt.tuple_bool c' p hu0
  | int j=>
   obtain⟨t,rfl⟩:=he;simp[bD] at h;subst h;exact SeqAt.RcAt.tuple_int j t p hu0
  | str y=>
   obtain⟨t,rfl⟩:=he;simp[bD] at h;subst h;exact SeqAt.RcAt.tuple_str _ t p hu0
  | tup ys=>
   obtain⟨a',its',rfl,p',hs'⟩:=he;simp only[bD] at h;have l1:=hs.length;have l2:=hs'.length;obtain⟨f,hf,hb⟩:=uo xs ys b h;have:=SeqAt.RcAt.tuples (e:=f) p p' hu0 λj h1 h2=>?_
   ·rw[hb];simp only[Qq4] at this;rw[l1,l2] at this;exact this
   ·exact uY n its its' xs ys f A s hs hs' hf hin j h1 h2
  | lst ys=>
   obtain⟨a',its',rfl,p',hs'⟩:=he;simp[bD] at h;subst h;exact SeqAt.RcAt.tuple_list p p'.isList hu0
  | arr kvs=>
   simp[bD] at h
  | dct kvs=>
   simp[bD] at h
  | lE kvs=>
   simp[bD] at h
  | clo _ _=>
   simp[bD] at h
 | lst xs=>
  obtain⟨a,its,rfl,p,hs⟩:=hd;cases e with
  | non=>
   cases he;simp[bD] at h;subst h;exact SeqAt.RcAt.list_none p.isList hu0
  | bl c'=>
   cases he;simp[bD] at h;subst h;exact SeqAt.RcAt.list_bool c' p.isList hu0
  | int j=>
   obtain⟨t,rfl⟩:=he;simp[bD] at h;subst h;exact SeqAt.RcAt.list_int j t p.isList hu0
  | str y=>
   obtain⟨t,rfl⟩:=he;simp[bD] at h;subst h;exact SeqAt.RcAt.list_str _ t p.isList hu0
  | tup ys=>
   obtain⟨a',its',rfl,p',hs'⟩:=he;simp[bD] at h;subst h;exact SeqAt.RcAt.list_tuple p.isList p' hu0
  | lst ys=>
   obtain⟨a',its',rfl,p',hs'⟩:=he;simp only[bD] at h;have l1:=hs.length;have l2:=hs'.length;by_cases hl:xs.length=ys.length
   ·obtain⟨f,hf,hb⟩:=uo xs ys b h;have:=SeqAt.RcAt.lists (e:=f) p.isList p'.isList (by simp only[Qq4];omega) hu0 λj h1 h2=>?_
    ·rw[hb,<-hl,Nat.min_self,beq_self_eq_true,Bool.and_true,<-l1];simp only[Qq4] at this;exact this
    ·exact uY n its its' xs ys f A s hs hs' hf hin j h1 h2
   ·have:=yR hl b h;subst this;exact SeqAt.RcAt.lists_lengths p.isList p'.isList (by simp only[Qq4];rw[l1,l2];simpa using hl) hu0
  | arr kvs=>
   simp[bD] at h
  | dct kvs=>
   simp[bD] at h
  | lE kvs=>
   simp[bD] at h
  | clo _ _=>
   simp[bD] at h
 | arr kvs=>
  cases e<;>simp[bD] at h
 | dct kvs=>
  cases e<;>simp[bD] at h
 | lE kvs=>
  cases e<;>simp[bD] at h
 | clo _ _=>
  cases e<;>simp[bD] at h
def XR(n:Nat)(d e:D)(u v:Value)(b:Bool)(A:Around)(s:Shared)(hd:Sh s.heap d u)(he:Sh s.heap e v)(h:bD (n+1) d e=some b)(hu:A.units+(n+1)<cLine):SeqAt.RcNeAt A s u v (!b):=by
 have hu0:A.units<cLine:=by omega
 have hin:A.in1.units+n<cLine:=by show A.units+1+n<cLine;omega
 cases d with
 | non=>
  cases hd;cases e with
  | non=>
   cases he;simp[bD] at h;subst h;exact SeqAt.RcNeAt.none_none
  | bl c'=>
   cases he;simp[bD] at h;subst h;exact SeqAt.RcNeAt.none_bool c'
  | int j=>
   obtain⟨t,rfl⟩:=he;simp[bD] at h;subst h;exact SeqAt.RcNeAt.none_int j t
  | str y=>
   obtain⟨t,rfl⟩:=he;simp[bD] at h;subst h;exact SeqAt.RcNeAt.none_str _ t
  | tup ys=>
   obtain⟨a',its',rfl,p',hs'⟩:=he;simp[bD] at h;subst h;exact SeqAt.RcNeAt.none_tuple p' hu0
  | lst ys=>
   obtain⟨a',its',rfl,p',hs'⟩:=he;simp[bD] at h;subst h;exact SeqAt.RcNeAt.none_list p'.isList hu0
  | arr kvs=>
   simp[bD] at h
  | dct kvs=>
   simp[bD] at h
  | lE kvs=>
   simp[bD] at h
  | clo _ _=>
   simp[bD] at h
 | bl c=>
  cases hd;cases e with
  | non=>
   cases he;simp[bD] at h;subst h;exact SeqAt.RcNeAt.bool_none c
  | bl c'=>
   cases he;simp only[bD,Qw2] at h;subst h;exact SeqAt.RcNeAt.bool_bool c c'
  | int j=>
   obtain⟨t,rfl⟩:=he;simp only[bD,Qw2] at h;subst h;exact SeqAt.RcNeAt.bool_int c j t
  | str y=>
   obtain⟨t,rfl⟩:=he;simp[bD] at h;subst h;exact SeqAt.RcNeAt.bool_str c _ t
  | tup ys=>
   obtain⟨a',its',rfl,p',hs'⟩:=he;simp[bD] at h;subst h;exact SeqAt.RcNeAt.bool_tuple c p' hu0
  | lst ys=>
   obtain⟨a',its',rfl,p',hs'⟩:=he;simp[bD] at h;subst h;exact SeqAt.RcNeAt.bool_list c p'.isList hu0
  | arr kvs=>
   simp[bD] at h
  | dct kvs=>
   simp[bD] at h
  | lE kvs=>
   simp[bD] at h
  | clo _ _=>
   simp[bD] at h
 | int i=>
  obtain⟨t',rfl⟩:=hd;cases e with
  | non=>
   cases he;simp[bD] at h;subst h;exact SeqAt.RcNeAt.int_none i t'
  | bl c'=>
   cases he;simp only[bD,Qw2] at h;subst h;exact SeqAt.RcNeAt.int_bool i t' c'
  | int j=>
   obtain⟨t,rfl⟩:=he;simp only[bD,Qw2] at h;subst h;exact SeqAt.RcNeAt.int_int i t' j t
  | str y=>
   obtain⟨t,rfl⟩:=he;simp[bD] at h;subst h;exact SeqAt.RcNeAt.int_str i t' _ t
  | tup ys=>
   obtain⟨a',its',rfl,p',hs'⟩:=he;simp[bD] at h;subst h;exact SeqAt.RcNeAt.int_tuple i t' p' hu0
  | lst ys=>
   obtain⟨a',its',rfl,p',hs'⟩:=he;simp[bD] at h;subst h;exact SeqAt.RcNeAt.int_list i t' p'.isList hu0
  | arr kvs=>
   simp[bD] at h
  | dct kvs=>
   simp[bD] at h
  | lE kvs=>
   simp[bD] at h
  | clo _ _=>
   simp[bD] at h
 | str x=>
  obtain⟨t',rfl⟩:=hd;cases e with
  | non=>
   cases he;simp[bD] at h;subst h;exact SeqAt.RcNeAt.str_none _ t'
  | bl c'=>
   cases he;simp[bD] at h;subst h;exact SeqAt.RcNeAt.str_bool _ t' c'
  | int j=>
   obtain⟨t,rfl⟩:=he;simp[bD] at h;subst h;exact SeqAt.RcNeAt.str_int _ t' j t
  | str y=>
   obtain⟨t,rfl⟩:=he;simp only[bD,Qw2] at h;subst h;rw[<-wu];exact SeqAt.RcNeAt.str_str _ t' _ t
  | tup ys=>
   obtain⟨a',its',rfl,p',hs'⟩:=he;simp[bD] at h;subst h;exact SeqAt.RcNeAt.str_tuple _ t' p' hu0
  | lst ys=>
   obtain⟨a',its',rfl,p',hs'⟩:=he;simp[bD] at h;subst h;exact SeqAt.RcNeAt.str_list _ t' p'.isList hu0
  | arr kvs=>
   simp[bD] at h
  | dct kvs=>
   simp[bD] at h
  | lE kvs=>
   simp[bD] at h
  | clo _ _=>
   simp[bD] at h
 | tup xs=>
  obtain⟨a,its,rfl,p,hs⟩:=hd;cases e with
  | non=>
   cases he;simp[bD] at h;subst h;exact SeqAt.RcNeAt.tuple_none p hu0
  | bl c'=>
   cases he;simp[bD] at h;subst h;exact SeqAt.RcNeAt.tuple_bool c' p hu0
  | int j=>
   obtain⟨t,rfl⟩:=he;simp[bD] at h;subst h;exact SeqAt.RcNeAt.tuple_int j t p hu0
  | str y=>
   obtain⟨t,rfl⟩:=he;simp[bD] at h;subst h;exact SeqAt.RcNeAt.tuple_str _ t p hu0
  | tup ys=>
   obtain⟨a',its',rfl,p',hs'⟩:=he;simp only[bD] at h;have l1:=hs.length;have l2:=hs'.length;obtain⟨f,hf,hb⟩:=uo xs ys b h;have:=SeqAt.RcNeAt.tuples (e:=f) p p' hu0 λj h1 h2=>?_
   ·rw[hb];simp only[Qq4] at this;rw[l1,l2] at this;exact this
   ·exact uY n its its' xs ys f A s hs hs' hf hin j h1 h2
  | lst ys=>
   obtain⟨a',its',rfl,p',hs'⟩:=he;simp[bD] at h;subst h;exact SeqAt.RcNeAt.tuple_list p p'.isList hu0
  | arr kvs=>
   simp[bD] at h
  | dct kvs=>
   simp[bD] at h
  | lE kvs=>
   simp[bD] at h
  | clo _ _=>
   simp[bD] at h
 | lst xs=>
  obtain⟨a,its,rfl,p,hs⟩:=hd;cases e with
  | non=>
   cases he;simp[bD] at h;subst h;exact SeqAt.RcNeAt.list_none p.isList hu0
  | bl c'=>
   cases he;simp[bD] at h;subst h;exact SeqAt.RcNeAt.list_bool c' p.isList hu0
  | int j=>
   obtain⟨t,rfl⟩:=he;simp[bD] at h;subst h;exact SeqAt.RcNeAt.list_int j t p.isList hu0
  | str y=>
   obtain⟨t,rfl⟩:=he;simp[bD] at h;subst h;exact SeqAt.RcNeAt.list_str _ t p.isList hu0
  | tup ys=>
   obtain⟨a',its',rfl,p',hs'⟩:=he;simp[bD] at h;subst h;exact SeqAt.RcNeAt.list_tuple p.isList p' hu0
  | lst ys=>
   obtain⟨a',its',rfl,p',hs'⟩:=he;simp only[bD] at h;have l1:=hs.length;have l2:=hs'.length;by_cases hl:xs.length=ys.length
   ·obtain⟨f,hf,hb⟩:=uo xs ys b h;have:=SeqAt.RcNeAt.lists (e:=f) p.isList p'.isList (by simp only[Qq4];omega) hu0 λj h1 h2=>?_
    ·rw[hb,<-hl,Nat.min_self,beq_self_eq_true,Bool.and_true,<-l1];simp only[Qq4] at this;exact this
    ·exact uY n its its' xs ys f A s hs hs' hf hin j h1 h2
   ·have:=yR hl b h;subst this;exact SeqAt.RcNeAt.lists_lengths p.isList p'.isList (by simp only[Qq4];rw[l1,l2];simpa using hl) hu0
  | arr kvs=>
   simp[bD] at h
  | dct kvs=>
   simp[bD] at h
  | lE kvs=>
   simp[bD] at h
  | clo _ _=>
   simp[bD] at h
 | arr kvs=>
  cases e<;>simp[bD] at h
 | dct kvs=>
  cases e<;>simp[bD] at h
 | lE kvs=>
  cases e<;>simp[bD] at h
 | clo _ _=>
  cases e<;>simp[bD] at h
section
variable{X:Cx}{C:Cfg}
def afI(K:Fg):R2:=λx y H Q=>∃dx dy b,Rep K H dx x/\Rep K H dy y/\bD 60 dx dy=some b/\Q (.bl b) H
def afA(K:Fg):R2:=λx y H Q=>∃dx dy b,Rep K H dx x/\Rep K H dy y/\bD 60 dx dy=some b/\Q (.bl (!b)) H
def ac9(hu:X.A.units+60<cLine):mG X (compareOp .Eq) (afI X.K):=by intro pins s σ H x y v u Q I rx ry h;obtain⟨dx,dy,b,h1,h2,h3,q⟩:=h;exact afv 59 dx dy v u b X.A s (Rep.sh I dx x v h1 rx) (Rep.sh I dy y u h2 ry) h3 hu X.prog X.w X.xe _ ⟨.bl b,H,I,rfl,q⟩
def ac2(hu:X.A.units+60<cLine):mG X (compareOp .NotEq) (afA X.K):=by intro pins s σ H x y v u Q I rx ry h;obtain⟨dx,dy,b,h1,h2,h3,q⟩:=h;exact XR 59 dx dy v u b X.A s (Rep.sh I dx x v h1 rx) (Rep.sh I dy y u h2 ry) h3 hu X.prog X.w X.xe _ ⟨.bl (!b),H,I,rfl,q⟩
def kJ(x y:D):Option D:=(bD 60 x y).map .bl
def Bp(x y:D):Option D:=(bD 60 x y).map λb=>.bl (!b)
def af3:pW C (afI C.K) kJ:=by
 intro Pr F env σ H x y d vx vy Q r hx hy h q;unfold kJ at h;cases e:bD 60 x y with
 | none=>rw[e] at h;cases h
 | some b=>
  rw[e] at h;cases h;exact⟨x,y,b,hx.rep r.fr,hy.rep r.fr,e,q _ H F r (aU.refl F) rfl⟩
def afZ:pW C (afA C.K) Bp:=by
 intro Pr F env σ H x y d vx vy Q r hx hy h q;unfold Bp at h;cases e:bD 60 x y with
 | none=>rw[e] at h;cases h
 | some b=>
  rw[e] at h;cases h;exact⟨x,y,b,hx.rep r.fr,hy.rep r.fr,e,q _ H F r (aU.refl F) rfl⟩
def G8(x:D):List D->Option Bool
 | []=>some false
 | y::ys=>match bD 59 y x,G8 x ys with
  | some a,some b=>some (a||b)
  | _,_=>none
theorem Oj(x:D):∀(ys:List D) (b:Bool),G8 x ys=some b->(∀y∈ys,∃c,bD 59 y x=some c)/\(b=true ↔ ∃y∈ys,bD 59 y x=some true)
 | [],b,h=>by simp[G8] at h;subst h;simp
 | y::ys,b,h=>by
  unfold G8 at h;cases h1:bD 59 y x with
  | none=>rw[h1] at h;simp at h
  | some c=>
   cases h2:G8 x ys with
   | none=>rw[h1,h2] at h;simp at h
   | some d=>
    rw[h1,h2] at h;obtain⟨i1,i2⟩:=Oj x ys d h2;have hb:b=(c||d):=by simpa using h.symm
    refine⟨λz hz=>?_,?_⟩
    ·rcases Qq1.mp hz with rfl|hz
     ·exact⟨c,h1⟩
     ·exact i1 z hz
    ·rw[hb,Qxk];constructor
     ·rintro(hc|hd)
      ·exact⟨y,Qqv,by rw[h1,hc]⟩
      ·obtain⟨z,hz,e⟩:=i2.mp hd;exact⟨z,Qqy _ hz,e⟩
     ·rintro⟨z,hz,e⟩;rcases Qq1.mp hz with rfl|hz
      ·rw[h1] at e;left;simpa using e
      ·right;exact i2.mpr ⟨z,hz,e⟩
open Classical in
noncomputable def Ck(h:Heap)(x:D)(u:Value):Bool:=decide (∃y,Sh h y u/\bD 59 y x=some true)
open Classical in
def GZ{h:Heap}{x y:D}{u:Value}{c:Bool}(hy:Sh h y u)(e:bD 59 y x=some c):Ck h x u=c:=by
 unfold Ck;cases c with
 | true=>exact Qw8 ⟨y,hy,e⟩
 | false=>
  refine Qw6 ?_;rintro⟨z,hz,e'⟩;have:=Pa 59 z y x u true false hz hy e' e;cases this
def xm{s:Shared}{A:Around}{x:D}{v:Value}{ys:List D}{us:List Value}{b:Bool}(hx:Sh s.heap x v)(hs:J4 s.heap ys us)(h:G8 x ys=some b)(hu:A.units+59<cLine) :
  (∀w,w∈us.toArray->SeqAt.EqAt A s w v (Ck s.heap x w))/\us.toArray.any (Ck s.heap x)=b:=by
 obtain⟨h1,h2⟩:=Oj x ys b h;have item:∀w∈us,∃y∈ys,Sh s.heap y w:=λw hw=>by
  obtain⟨j,hj,e⟩:=List.mem_iff_getElem.mp hw;obtain⟨d,e1,e2⟩:=mK hs (show us[j]? = some w by rw[Qx5 hj,e]);exact⟨d,Qj1 e1,e2⟩
 have back:∀{ys:List D} {us:List Value},J4 s.heap ys us->∀y∈ys,∃w∈us,Sh s.heap y w:=by
  intro ys
  induction ys with
  | nil=>intro us _ y hy;cases hy
  | cons z zs ih=>
   intro us hs y hy;obtain⟨w,r,rfl,g1,g2⟩:=hs;rcases Qq1.mp hy with rfl|hy
   ·exact⟨w,Qqv,g1⟩
   ·obtain⟨w',m,g⟩:=ih g2 y hy;exact⟨w',Qqy _ m,g⟩
 refine⟨λw hw=>?_,?_⟩
 ·obtain⟨y,hy,sy⟩:=item w (by simpa using hw);obtain⟨c,hc⟩:=h1 y hy;rw[GZ sy hc];exact Gr 59 y x w v c A s sy hx hc hu
 ·rw[List.any_toArray,Qj6,h2,List.any_eq_true];constructor
  ·rintro⟨w,hw,e⟩;obtain⟨y,hy,sy⟩:=item w hw;obtain⟨c,hc⟩:=h1 y hy;rw[GZ sy hc] at e;subst e;exact⟨y,hy,hc⟩
  ·rintro⟨y,hy,e⟩;obtain⟨w,hw,sy⟩:=back hs y hy;exact⟨w,hw,GZ sy e⟩
def HJ:D->Option (List D)
 | .tup xs=>some xs
 | .lst xs=>some xs
 | .arr xs=>some xs
 | _=>none
def QB(K:Fg)(neg:Bool):R2:=λx y H Q=>∃dx dy ys b,Rep K H dx x/\Rep K H dy y/\HJ dy=some ys/\G8 dx ys=some b/\Q (.bl (if neg then !b else b)) H
def ac7(hu:X.A.units+61<cLine):mG X (compareOp .In) (QB X.K false):=by
 intro pins s σ H x y v u Q I rx ry h;obtain⟨dx,dy,ys,b,h1,h2,h3,h4,q⟩:=h;have hx:=Rep.sh I dx x v h1 rx;have hy:=Rep.sh I dy y u h2 ry;have hin:X.A.in1.units+59<cLine:=by show X.A.units+1+59<cLine;omega
 cases dy with
 | tup zs=>
  cases h3;obtain⟨a,its,rfl,p,hs⟩:=hy;obtain⟨g1,g2⟩:=xm (A:=X.A.in1) hx hs h4 hin;refine SeqAt.in_tupleAt (Ck s.heap dx) p g1 ⟨.bl _,H,I,rfl,?_⟩;rw[g2];exact q
 | lst zs=>
  cases h3;obtain⟨a,its,rfl,p,hs⟩:=hy;obtain⟨g1,g2⟩:=xm (A:=X.A.in1) hx hs h4 hin;refine SeqAt.in_listAt (Ck s.heap dx) p.isList g1 ⟨.bl _,H,I,rfl,?_⟩;rw[g2];exact q
 | arr zs=>
  cases h3;obtain⟨a,its,rfl,p,hs⟩:=hy;obtain⟨g1,g2⟩:=xm (A:=X.A.in1) hx hs h4 hin;refine SeqAt.in_listAt (Ck s.heap dx) p.isList g1 ⟨.bl _,H,I,rfl,?_⟩;rw[g2];exact q
 | _=>cases h3
def QV(hu:X.A.units+61<cLine):mG X (compareOp .NotIn) (QB X.K true):=by
 intro pins s σ H x y v u Q I rx ry h;obtain⟨dx,dy,ys,b,h1,h2,h3,h4,q⟩:=h;have hx:=Rep.sh I dx x v h1 rx;have hy:=Rep.sh I dy y u h2 ry;have hin:X.A.in1.units+59<cLine:=by show X.A.units+1+59<cLine;omega
 cases dy with
 | tup zs=>
  cases h3;obtain⟨a,its,rfl,p,hs⟩:=hy;obtain⟨g1,g2⟩:=xm (A:=X.A.in1) hx hs h4 hin;refine SeqAt.notIn_tupleAt (Ck s.heap dx) p g1 ⟨.bl _,H,I,rfl,?_⟩;rw[g2];exact q
 | lst zs=>
  cases h3;obtain⟨a,its,rfl,p,hs⟩:=hy;obtain⟨g1,g2⟩:=xm (A:=X.A.in1) hx hs h4 hin;refine SeqAt.notIn_listAt (Ck s.heap dx) p.isList g1 ⟨.bl _,H,I,rfl,?_⟩;rw[g2];exact q
 | arr zs=>
  cases h3;obtain⟨a,its,rfl,p,hs⟩:=hy;obtain⟨g1,g2⟩:=xm (A:=X.A.in1) hx hs h4 hin;refine SeqAt.notIn_listAt (Ck s.heap dx) p.isList g1 ⟨.bl _,H,I,rfl,?_⟩;rw[g2];exact q
 | _=>cases h3
end
def pW.or{C:Cfg}{r r':R2}{g g':D->D->Option D}(h:pW C r g)(h':pW C r' g'):pW C (λx y H Q=>r x y H Q\/r' x y H Q) (λx y=>(g x y).or (g' x y)):=by
 intro Pr F env σ H x y d vx vy Q rl hx hy e q;have e:(g x y).or (g' x y)=some d:=e;cases e1:g x y with
 | some c=>
  rw[e1] at e;cases e;exact .inl (h Pr F env σ H x y d vx vy Q rl hx hy e1 q)
 | none=>
  rw[e1] at e;exact .inr (h' Pr F env σ H x y d vx vy Q rl hx hy e q)
section
variable{X:Cx}{C:Cfg}
def Mi(x y:D):Option D:=match HJ y with
 | some ys=>(G8 x ys).map .bl
 | none=>none
def vd(x y:D):Option D:=match HJ y with
 | some ys=>(G8 x ys).map λb=>.bl (!b)
 | none=>none
def adt:pW C (QB C.K false) Mi:=by
 intro Pr F env σ H x y d vx vy Q r hx hy h q;unfold Mi at h;cases e1:HJ y with
 | none=>rw[e1] at h;cases h
 | some ys=>
  rw[e1] at h;cases e:G8 x ys with
  | none=>simp only[e,Option.map_none] at h;cases h
  | some b=>
   simp only[e,Qkz] at h;cases h;exact⟨x,y,ys,b,hx.rep r.fr,hy.rep r.fr,e1,e,q _ H F r (aU.refl F) rfl⟩
def Q6:pW C (QB C.K true) vd:=by
 intro Pr F env σ H x y d vx vy Q r hx hy h q;unfold vd at h;cases e1:HJ y with
 | none=>rw[e1] at h;cases h
 | some ys=>
  rw[e1] at h;cases e:G8 x ys with
  | none=>simp only[e,Option.map_none] at h;cases h
  | some b=>
   simp only[e,Qkz] at h;cases h;exact⟨x,y,ys,b,hx.rep r.fr,hy.rep r.fr,e1,e,q _ H F r (aU.refl F) rfl⟩
def aea(x y:D):Option D:=match x,y with
 | .str [c],.str z=>some (.bl (decide (c∈z)))
 | _,_=>none
def Gj(x y:D):Option D:=match x,y with
 | .str [c],.str z=>some (.bl (!decide (c∈z)))
 | _,_=>none
abbrev afG:R2:=λx y H Q=>∃i j,x = .str i/\y = .str j/\Q (.bl (!(Builtin.Str.occurrences j i 0 j.length 1).isEmpty)) H
abbrev Nt:R2:=λx y H Q=>∃i j,x = .str i/\y = .str j/\Q (.bl (!(!(Builtin.Str.occurrences j i 0 j.length 1).isEmpty))) H
def one_sign(c:Nat)(z:List Nat):(!(Builtin.Str.occurrences (strOf z) (strOf [c]) 0 (strOf z).length 1).isEmpty)=decide (c∈z):=by
 have:=StrLaws.found_one (strOf z) c;unfold strOf at this ⊢
 simpa using this
def adq:pW C afG aea:=by
 intro Pr F env σ H x y d vx vy Q r hx hy h q;unfold aea at h;split at h
 ·rename_i c z;cases h;obtain⟨rfl,_⟩:=hx.str;obtain⟨rfl,_⟩:=hy.str;refine⟨_,_,rfl,rfl,?_⟩;rw[one_sign];exact q _ H F r (aU.refl F) rfl
 ·cases h
def Q5:pW C Nt Gj:=by
 intro Pr F env σ H x y d vx vy Q r hx hy h q;unfold Gj at h;split at h
 ·rename_i c z;cases h;obtain⟨rfl,_⟩:=hx.str;obtain⟨rfl,_⟩:=hy.str;refine⟨_,_,rfl,rfl,?_⟩;rw[one_sign];exact q _ H F r (aU.refl F) rfl
 ·cases h
def Rv(x y:D):Option D:=(Mi x y).or (aea x y)
def o8(x y:D):Option D:=(vd x y).or (Gj x y)
abbrev afH(K:Fg):R2:=λx y H Q=>QB K false x y H Q\/afG x y H Q
abbrev Nu(K:Fg):R2:=λx y H Q=>QB K true x y H Q\/Nt x y H Q
def ac8(hu:X.A.units+61<cLine):mG X (compareOp .In) (afH X.K):=(ac7 hu).or Q0
def QW(hu:X.A.units+61<cLine):mG X (compareOp .NotIn) (Nu X.K):=(QV hu).or FN
def af2:pW C (afH C.K) Rv:=adt.or adq
def Vd:pW C (Nu C.K) o8:=Q6.or Q5
def isPlain(x:V):Prop:=x = .non\/∃b,x = .bl b
def ac6:mG X (compareOp .Is) (λx y H Q=>isPlain y/\Q (.bl (decide (x=y))) H):=by
 intro pins s σ H x y v u Q I rx ry h;obtain⟨hp,q⟩:=h;rcases hp with rfl|⟨b,rfl⟩
 ·exact ac5 pins s σ H x .non v u Q I rx ry ⟨rfl,q⟩
 ·cases ry;refine wpAny_is_plain ?_ (ue I q ?_)
  ·cases x<;>first|(cases rx;rfl)|(obtain⟨t,rfl⟩:=rx;rfl)
  ·cases x with
   | bl c=>cases rx;cases b<;>cases c<;>rfl
   | _=>first|(cases rx;rfl)|(obtain⟨t,rfl⟩:=rx;rfl)
def QZ:mG X (compareOp .IsNot) (λx y H Q=>isPlain y/\Q (.bl (!decide (x=y))) H):=by
 intro pins s σ H x y v u Q I rx ry h;obtain⟨hp,q⟩:=h;rcases hp with rfl|⟨b,rfl⟩
 ·exact YG pins s σ H x .non v u Q I rx ry ⟨rfl,q⟩
 ·cases ry;refine wpAny_isNot_plain ?_ (ue I q ?_)
  ·cases x<;>first|(cases rx;rfl)|(obtain⟨t,rfl⟩:=rx;rfl)
  ·cases x with
   | bl c=>cases rx;cases b<;>cases c<;>rfl
   | _=>first|(cases rx;rfl)|(obtain⟨t,rfl⟩:=rx;rfl)
def isD:D->D->Option Bool
 | .non,.non=>some true
 | .bl a,.bl b=>some (a == b)
 | _,.non=>some false
 | _,.bl _=>some false
 | _,_=>none
def gIs(x y:D):Option D:=(isD x y).map .bl
def Ai(x y:D):Option D:=(isD x y).map λb=>.bl (!b)
def aa9{F H:Hp}{x y:D}{vx vy:V}{b:Bool}(hx:iD C.K F H x vx)(hy:iD C.K F H y vy)(h:isD x y=some b):isPlain vy/\decide (vx=vy)=b:=by
 have ahU:∀a,¬(V.ref a=V.non):=λa e=>by cases e
 cases y with
 | non=>
  obtain rfl:=hy.non;refine⟨.inl rfl,?_⟩;cases x with
  | non=>obtain rfl:=hx.non;simp[isD] at h;simp[h]
  | bl c=>obtain rfl:=hx.bl;simp[isD] at h;simp[h]
  | int i=>obtain rfl:=hx.int;simp[isD] at h;simp[h]
  | str z=>obtain⟨rfl,_⟩:=hx.str;simp[isD] at h;simp[h]
  | tup xs=>rcases hx with ⟨_,a,_,rfl,_⟩|⟨a,rfl,_⟩<;>(simp[isD] at h;simp[h])
  | lst xs=>rcases hx with ⟨_,a,_,rfl,_⟩|⟨a,rfl,_⟩<;>(simp[isD] at h;simp[h])
  | arr xs=>rcases hx with ⟨_,a,_,rfl,_⟩|⟨a,rfl,_⟩<;>(simp[isD] at h;simp[h])
  | dct xs=>rcases hx with ⟨_,a,_,rfl,_⟩|⟨a,rfl,_⟩<;>(simp[isD] at h;simp[h])
  | lE xs=>rcases hx with ⟨_,a,_,rfl,_⟩|⟨a,rfl,_⟩<;>(simp[isD] at h;simp[h])
  | clo st xs=>rcases hx with ⟨a,_,rfl,_⟩|⟨a,rfl,_⟩<;>(simp[isD] at h;simp[h])
 | bl k=>
  obtain rfl:=hy.bl;refine⟨.inr ⟨k,rfl⟩,?_⟩;cases x with
  | non=>obtain rfl:=hx.non;simp[isD] at h;simp[h]
  | bl c=>obtain rfl:=hx.bl;simp only[isD,Qw2] at h;rw[<-h,aek]
  | int i=>obtain rfl:=hx.int;simp[isD] at h;simp[h]
  | str z=>obtain⟨rfl,_⟩:=hx.str;simp[isD] at h;simp[h]
  | tup xs=>rcases hx with ⟨_,a,_,rfl,_⟩|⟨a,rfl,_⟩<;>(simp[isD] at h;simp[h])
  | lst xs=>rcases hx with ⟨_,a,_,rfl,_⟩|⟨a,rfl,_⟩<;>(simp[isD] at h;simp[h])
  | arr xs=>rcases hx with ⟨_,a,_,rfl,_⟩|⟨a,rfl,_⟩<;>(simp[isD] at h;simp[h])
  | dct xs=>rcases hx with ⟨_,a,_,rfl,_⟩|⟨a,rfl,_⟩<;>(simp[isD] at h;simp[h])
  | lE xs=>rcases hx with ⟨_,a,_,rfl,_⟩|⟨a,rfl,_⟩<;>(simp[isD] at h;simp[h])
  | clo st xs=>rcases hx with ⟨a,_,rfl,_⟩|⟨a,rfl,_⟩<;>(simp[isD] at h;simp[h])
 | _=>cases x<;>simp[isD] at h
def af1:pW C (λx y H Q=>isPlain y/\Q (.bl (decide (x=y))) H) gIs:=by
 intro Pr F env σ H x y d vx vy Q r hx hy h q;unfold gIs at h;cases e:isD x y with
 | none=>rw[e] at h;cases h
 | some b=>
  rw[e] at h;cases h;obtain⟨h1,h2⟩:=aa9 hx hy e;exact⟨h1,by rw[h2];exact q _ H F r (aU.refl F) rfl⟩
def Vf:pW C (λx y H Q=>isPlain y/\Q (.bl (!decide (x=y))) H) Ai:=by
 intro Pr F env σ H x y d vx vy Q r hx hy h q;unfold Ai at h;cases e:isD x y with
 | none=>rw[e] at h;cases h
 | some b=>
  rw[e] at h;cases h;obtain⟨h1,h2⟩:=aa9 hx hy e;exact⟨h1,by rw[h2];exact q _ H F r (aU.refl F) rfl⟩
def gI(c:Int->Int->Bool)(f:Int->Int->D)(x y:D):Option D:=match x,y with
 | .int i,.int j=>if c i j=true then some (f i j) else none
 | _,_=>none
def Vh{Cd:Int->Int->Prop}{c:Int->Int->Bool}{f:Int->Int->D}{g:Int->Int->V}(hc:∀i j,c i j=true->Cd i j)(hf:∀i j F,Rep C.K F (f i j) (g i j)):pW C (rI Cd g) (gI c f):=by
 intro Pr F env σ H x y d vx vy Q r hx hy h q;unfold gI at h;split at h
 ·rename_i i j;split at h
  ·rename_i hcc;cases h;obtain rfl:=hx.int;obtain rfl:=hy.int;exact⟨i,j,rfl,rfl,hc i j hcc,q _ H F r (aU.refl F) (hf i j F)⟩
  ·cases h
 ·cases h
def Vg{f:Int->Int->D}{g:Int->Int->V}(hf:∀i j F,Rep C.K F (f i j) (g i j)):pW C (R7 g) (gI (λ_ _=>true) f):=by
 intro Pr F env σ H x y d vx vy Q r hx hy h q;unfold gI at h;split at h
 ·rename_i i j;rw[if_pos rfl] at h;cases h;obtain rfl:=hx.int;obtain rfl:=hy.int;exact⟨i,j,rfl,rfl,q _ H F r (aU.refl F) (hf i j F)⟩
 ·cases h
def jl(i j:Int):Bool:=decide (Builtin.Int.intBits i+Builtin.Int.intBits j<=134217728)
def YH:mG X (binaryOp .Mult) (rI (λi j=>jl i j=true) λi j=>.int (i*j)):=
 opI λi j _ _ _ _ _ hc q=>mul_int q (mulOk_of_bits (Qq2 _) (Qq2 _) (Qw3 hc))
def n8:D->D->Option D:=gI jl λi j=>.int (i*j)
def Af:D->D->Option D:=gI (λ_ _=>true) λi j=>.int (i - j)
def Rr:D->D->Option D:=gI (λ_ j=>decide (0<j)) λi j=>.int (i % j)
def Mh:D->D->Option D:=gI (λi j=>decide (0<=j/\j<=1000000/\i.natAbs<2^64)) λi j=>.int (i^j.toNat)
def Rq:D->D->Option D:=gI (λi j=>decide (0<=j/\j<=1000000/\i.natAbs<2^64)) λi j=>.int (i*2^j.toNat)
def Gi:D->D->Option D:=gI (λ_ j=>decide (0<=j)) λi j=>.int (i / 2^j.toNat)
def Jp:D->D->Option D:=gI (λ_ _=>true) λi j=>.int (Builtin.bitAnd i j)
def adm:pW C (rI (λi j=>jl i j=true) λi j=>.int (i*j)) n8:=Vh (λ_ _ h=>h) λ_ _ _=>rfl
def adh:pW C (R7 λi j=>.int (i - j)) Af:=Vg λ_ _ _=>rfl
def adn:pW C (rI (λ_ j=>0<j) λi j=>.int (i % j)) Rr:=Vh (λ_ _ h=>Qw3 h) λ_ _ _=>rfl
def adl:pW C (rI aav λi j=>.int (i^j.toNat)) Mh:=Vh (λi j h=>(show 0<=j/\j<=1000000/\i.natAbs<2^64 from Qw3 h)) λ_ _ _=>rfl
def adk:pW C (rI aav λi j=>.int (i*2^j.toNat)) Rq:=Vh (λi j h=>(show 0<=j/\j<=1000000/\i.natAbs<2^64 from Qw3 h)) λ_ _ _=>rfl
def adi:pW C (rI (λ_ j=>0<=j) λi j=>.int (i / 2^j.toNat)) Gi:=Vh (λ_ _ h=>Qw3 h) λ_ _ _=>rfl
def adu:pW C (R7 λi j=>.int (Builtin.bitAnd i j)) Jp:=Vg λ_ _ _=>rfl
abbrev afB:R2:=λx y H Q=>∃i j,x = .str i/\y = .str j/\Q (.bl (decide (i.cps.toList<j.cps.toList))) H
def agA:D->D->Option D:=gI (λ_ _=>true) λi j=>.bl (decide (i<j))
def ad9(x y:D):Option D:=match x,y with
 | .str a,.str b=>some (.bl (decide (a<b)))
 | _,_=>none
def gLt(x y:D):Option D:=(agA x y).or (ad9 x y)
def ado:pW C afB ad9:=by
 intro Pr F env σ H x y d vx vy Q r hx hy h q;unfold ad9 at h;split at h
 ·cases h;obtain⟨rfl,_⟩:=hx.str;obtain⟨rfl,_⟩:=hy.str;exact⟨_,_,rfl,rfl,q _ H F r (aU.refl F) (by show V.bl _=V.bl _;congr)⟩
 ·cases h
abbrev afC:R2:=λx y H Q=>R7 (λi j=>.bl (decide (i<j))) x y H Q\/afB x y H Q
def ac4:mG X (compareOp .Lt) afC:=afX.or QX
def adp:pW C (R7 λi j=>.bl (decide (i<j))) agA:=Vg λ_ _ _=>rfl
def af0:pW C afC gLt:=adp.or ado
def Ui(K:Fg):R2:=λx y H Q=>∃a b ys,x = .ref a/\y = .ref b/\pO K H a []/\pO K H b ys/\Q (.ref b) H
def Va:mG X (binaryOp .Add) (Ui X.K):=by
 intro pins s σ H x y v u Q I rx ry h;obtain⟨a,b,ys,rfl,rfl,ha,hb,q⟩:=h;cases rx;cases ry;obtain⟨its,r1,p1,_⟩:=I.tuple ha;obtain⟨its2,r2,p2,_⟩:=I.tuple hb;cases r1;obtain⟨⟨cls,dd,data,sl⟩,ho,hc,n,hd⟩:=id p1;obtain⟨⟨cls2,dd2,data2,sl2⟩,ho2,hc2,n2,hd2⟩:=id p2;simp only at hc hd hc2 hd2;subst hc hd hc2 hd2;exact concat_meets ⟨_,ho,rfl⟩ ⟨_,ho2,rfl⟩ noFill_tuple_add seq_tuple_add PySem.F.slot_tuple_add PySem.F.entry_tuple_add (PySem.F.args_tuple_add_2 _ _)
  (tuple_addW0 a b ([]:List Value).toArray its2.toArray n n2 dd dd2 sl sl2 (by simp)) ⟨ho,ho2,⟨.ref b,H,I,rfl,q⟩⟩
abbrev afL:R2:=λx y H Q=>∃i j,x = .str i/\y = .str j/\i.length+j.length<=sizeLine/\Q (.str (i++j)) H
abbrev afM(K:Fg):R2:=λx y H Q=>R7 (λi j=>.int (i+j)) x y H Q\/afL x y H Q\/afK x y H Q\/aaL K x y H Q\/Ui K x y H Q
def YK:mG X (binaryOp .Add) (afM X.K):=adb.or (Lj.or (Li.or (YJ.or Va)))
def aP(x y:D):Option D:=match x,y with
 | .int i,.int j=>some (.int (i+j))
 | .str a,.str b=>if a.length+b.length<=sizeLine then some (.str (a++b)) else none
 | .lst a,.lst b=>if a.length+b.length<=sizeLine then some (.lst (a++b)) else none
 | .tup a,.tup b=>if a.length+b.length<=sizeLine then some (.tup (a++b)) else none
 | _,_=>none
def gf(a b:List Nat):strOf a++strOf b=strOf (a++b):=by show(⟨(strOf a).cps++(strOf b).cps⟩:Str)=_;unfold strOf;simp
def aW(a:List Nat):(strOf a).length=a.length:=by show a.toArray.size=a.length;simp
def adv:pW C (afM C.K) aP:=by
 intro Pr F env σ H x y d vx vy Q r hx hy h q;unfold aP at h;split at h
 ·cases h;obtain rfl:=hx.int;obtain rfl:=hy.int;exact .inl ⟨_,_,rfl,rfl,q _ H F r (aU.refl F) rfl⟩
 ·split at h
  ·rename_i hz;cases h;obtain⟨rfl,_⟩:=hx.str;obtain⟨rfl,_⟩:=hy.str;refine .inr (.inl ⟨_,_,rfl,rfl,by rw[aW,aW];exact hz,?_⟩);rw[gf];exact q _ H F r (aU.refl F) ⟨rfl,by rw[Qqq];exact hz⟩
  ·cases h
 ·split at h
  ·rename_i hz;cases h;obtain⟨_,a,vs,rfl,h1,h2⟩:=hx.lst r.fr;obtain⟨_,b,ws,rfl,h3,h4⟩:=hy.lst r.fr;refine .inr (.inr (.inl ⟨a,b,vs,ws,rfl,rfl,h1,h3,by rw[h2.length,h4.length];exact hz,λp hp=>?_⟩));obtain⟨r2,s2⟩:=r.new (o:=.lst (vs++ws)) hp;exact q _ _ _ r2 s2 ⟨by rw[Qqq];exact hz,p,_,rfl,bu,cg.mono s2 _ _ (h2.append h4)⟩
  ·cases h
 ·split at h
  ·rename_i hz;cases h;obtain⟨z1,a,vs,rfl,h1,f1,h2⟩:=hx.tup r.fr;obtain⟨z2,b,ws,rfl,h3,f3,h4⟩:=hy.tup r.fr;by_cases hv:vs=[]
   ·subst hv;have e1:_=0:=h2.length.symm;have e2:=Qzk e1;subst e2;refine .inr (.inr (.inr (.inr ⟨a,b,ws,rfl,rfl,h1,h3,?_⟩)));exact q _ H F r (aU.refl F) ⟨z2,b,ws,rfl,f3,h4⟩
   ·refine .inr (.inr (.inr (.inl ⟨a,b,vs,ws,rfl,rfl,h1,h3,hv,by rw[h2.length,h4.length];exact hz,λhw=>?_,λhw p hp=>?_⟩)))
    ·subst hw;have e1:_=0:=h4.length.symm;have e2:=Qzk e1;subst e2;rw[Qxj] at q;exact q _ H F r (aU.refl F) ⟨z1,a,vs,rfl,f1,h2⟩
    ·obtain⟨r2,s2⟩:=r.new (o:=.tup (vs++ws)) hp;exact q _ _ _ r2 s2 ⟨by rw[Qqq];exact hz,p,_,rfl,pO.of bu,cg.mono s2 _ _ (h2.append h4)⟩
  ·cases h
 ·cases h
def J0(K:Fg)(F H:Hp):List D->List V->Prop
 | [],vs=>vs=[]
 | d::ds,vs=>∃v r,vs=v::r/\iD K F H d v/\J0 K F H ds r
def tAB(C:Cfg)(ev:di):TA:=λσ H Q=>∃(Pr F:Hp) (env env':Env) (ds:List D),Rel C Pr F env σ H/\ev env = .ok ds env'/\
 ∀vs H' F',Rel C Pr F' env' σ H'->aU F F'->J0 C.K F' H' ds vs->Q vs H'
def aar(X:Cx)(C:Cfg)(es:List Expr)(ev:di):Prop:=PA X es (tAB C ev)
def CallD(C:Cfg)(r:List V->Hp->VK->Prop)(g:List D->Option D):Prop:=∀(Pr F:Hp) (env:Env) (σ:L2.St) (H:Hp) (ds:List D) (d:D) (vs:List V) (Q:VK),Rel C Pr F env σ H->J0 C.K F H ds vs->g ds=some d->
 (∀v H' F',Rel C Pr F' env σ H'->aU F F'->Rep C.K F' d v->Q v H')->r vs H Q
def aB(g:List D->Option D)(a:di):Ev:=λenv=>bindR (a env) λds aH=>fJ (g ds) aH
def Pn{r:List V->Hp->VK->Prop}{g:List D->Option D}{a:di}(o:CallD C r g)(σ:L2.St)(H:Hp)(Q:VK)(h:tE C (aB g a) σ H Q):tCB r (tAB C a) σ H Q:=by obtain⟨Pr,F,env,env',d,rl,e,q⟩:=h;obtain⟨ds,aH,e1,e2⟩:=aQ e;obtain⟨e3,rfl⟩:=cF e2;exact⟨Pr,F,env,env',ds,rl,e1,λvs H1 F1 r1 s1 p1=>o Pr F1 env' σ H1 ds d vs Q r1 p1 e3 λv H2 F2 r2 s2 p2=>q v H2 F2 r2 (s1.trans s2) p2⟩
def lQ{x:Str}{p pos:Pos}{e:Expr}{es:List Expr}{id:String}{r:List V->Hp->VK->Prop}{g:List D->Option D}{a:di}(hc:gQ X (.builtin id) r)(o:CallD C r g)(hg:Gl X x)(hm:X.mg x=none)(hv:bootBuiltins x=some (.builtin id))(ha:aar X C (e::es) a)
  (hn:x ≠ "__name__":=by decide) (hdb:jy x:=by decide) (he:starEach (e::es) X.env=(false,eval e X.env)::starEach es X.env:=by rfl) (hpl:(backTo pos (starEach es X.env)).any (·.1)=false:=by rfl) :
  PX X C (.Call (.Name x p) (e::es) [] pos) (aB g a):=(qC hc hg hm hv ha hn hdb he hpl).imp (Pn o)
def wL{x:Str}{p pos:Pos}{e:Expr}{es:List Expr}{T:String}{r:List V->Hp->VK->Prop}{g:List D->Option D}{a:di}(hc:gQ X (.type T) r)(o:CallD C r g)(hg:Gl X x)(hm:X.mg x=none)(hv:bootBuiltins x=some (.type T))(ha:aar X C (e::es) a)
  (hn:x ≠ "__name__":=by decide) (hdb:jy x:=by decide) (he:starEach (e::es) X.env=(false,eval e X.env)::starEach es X.env:=by rfl) (hpl:(backTo pos (starEach es X.env)).any (·.1)=false:=by rfl) :
  PX X C (.Call (.Name x p) (e::es) [] pos) (aB g a):=(Df hc hg hm hv ha hn hdb he hpl).imp (Pn o)
def jK{K:Fg}{F H:Hp}{d:D}{vs:List V}(h:J0 K F H [d] vs):∃v,vs=[v]/\iD K F H d v:=by obtain⟨v,r,rfl,h1,h2⟩:=h;cases h2;exact⟨v,rfl,h1⟩
def Mt{K:Fg}{F H:Hp}{d e:D}{vs:List V}(h:J0 K F H [d,e] vs):∃v w,vs=[v,w]/\iD K F H d v/\iD K F H e w:=by obtain⟨v,r,rfl,h1,h2⟩:=h;obtain⟨w,rfl,h3⟩:=jK h2;exact⟨v,w,rfl,h1,h3⟩
def gJ:List D->Option D
 | [.str x]=>some (.int x.length)
 | [.tup xs]=>some (.int xs.length)
 | [.lst xs]=>some (.int xs.length)
 | [.arr xs]=>some (.int xs.length)
 | _=>none
def aes:CallD C (λxs H Q=>∃x n,xs=[x]/\ag0 C.K x H n/\Q (.int n) H) gJ:=by
 intro Pr F env σ H ds d vs Q r hs h q;unfold gJ at h;split at h
 ·cases h;obtain⟨v,rfl,hv⟩:=jK hs;obtain⟨rfl,hz⟩:=hv.str;exact⟨_,_,rfl,⟨by rw[aW];exact hz,(aW _).symm⟩,q _ H F r (aU.refl F) rfl⟩
 ·cases h;obtain⟨v,rfl,hv⟩:=jK hs;obtain⟨_,a,ws,rfl,h1,_,h2⟩:=hv.tup r.fr;exact⟨_,_,rfl,.inr ⟨ws,h1,h2.length.symm⟩,q _ H F r (aU.refl F) rfl⟩
 ·cases h;obtain⟨v,rfl,hv⟩:=jK hs;obtain⟨_,a,ws,rfl,h1,h2⟩:=hv.lst r.fr;exact⟨_,_,rfl,.inl ⟨ws,j8.of h1,h2.length.symm⟩,q _ H F r (aU.refl F) rfl⟩
 ·cases h;obtain⟨v,rfl,hv⟩:=jK hs;obtain⟨_,a,ws,rfl,h1,h2⟩:=hv.arr r.fr;exact⟨_,_,rfl,.inl ⟨ws,h1,h2.length.symm⟩,q _ H F r (aU.refl F) rfl⟩
 ·cases h
def fG:List D->Option D
 | [.tup xs]=>some (.tup xs)
 | [.lst xs]=>some (.tup xs)
 | _=>none
abbrev Uc(K:Fg):List V->Hp->VK->Prop:=λxs H Q=>∃p ys,xs=[.ref p]/\((j8 K H p ys/\∀l,H l=none->Q (.ref l) (upd H l (.tup ys)))\/(pO K H p ys/\Q (.ref p) H))
def Wo:CallD C (Uc C.K) fG:=by
 intro Pr F env σ H ds d vs Q r hs h q;unfold fG at h;split at h
 ·cases h;obtain⟨v,rfl,hv⟩:=jK hs;obtain⟨z,a,ws,rfl,h1,f1,h2⟩:=hv.tup r.fr;exact⟨a,ws,rfl,.inr ⟨h1,q _ H F r (aU.refl F) ⟨z,a,ws,rfl,f1,h2⟩⟩⟩
 ·cases h;obtain⟨v,rfl,hv⟩:=jK hs;obtain⟨z,a,ws,rfl,h1,h2⟩:=hv.lst r.fr;refine⟨a,ws,rfl,.inl ⟨j8.of h1,λl hl=>?_⟩⟩;obtain⟨r2,s2⟩:=r.new (o:=.tup ws) hl;exact q _ _ _ r2 s2 ⟨z,l,ws,rfl,pO.of bu,cg.mono s2 _ _ h2⟩
 ·cases h
def signs(x:List Nat):List D:=x.map λc=>.str [c]
abbrev Ug:List V->Hp->VK->Prop:=λxs H Q=>∃z,xs=[.str z]/\z.length<=sizeLine/\∀l,H l=none->Q (.ref l) (upd H l (.lst (z.cps.toList.map λc=>V.str ⟨#[c]⟩)))
def Mr(hh:X.calm=true):gQ X (.type "list") Ug:=by
 intro pins s σ H xs us Q I r h;obtain⟨z,rfl,hz,q⟩:=h;obtain⟨u,rfl,⟨t,rfl⟩⟩:=vals1 r;refine call_list_str (I.ok.hd hh) z t (λh' tk acc' c' kp e hacc=>?_) hz;refine⟨.ref s.heap.objs.size,_,I.laid kp (Qq2 _) (show fX X.prog X.w _ h' _ (.lst (z.cps.toList.map λc=>V.str ⟨#[c]⟩)) from⟨?_,acc'.toList,c',?_,by simpa using e⟩),rfl,q _ (I.hok.fresh (Qq2 _))⟩
 ·simpa[Str.length] using hz
 ·obtain⟨hsz,hit⟩:=hacc;have go:∀(cs:List Nat) (vs:List Value),vs.length=cs.length->(∀(j:Nat) (v:Value),vs[j]? = some v->∃(c:Nat) (u:Tok),cs[j]? = some c/\v=Value.str ⟨#[c]⟩ u)->Vals (cs.map λc=>V.str ⟨#[c]⟩) vs:=by
   intro cs
   induction cs with
   | nil=>intro vs hl _;rw[Qzk hl];exact .nil
   | cons c cs ih=>
    intro vs hl hv;cases vs with
    | nil=>simp at hl
    | cons v vs=>
     obtain⟨c',u,e1,e2⟩:=hv 0 v rfl;simp at e1;subst e1 e2;exact .cons ⟨u,rfl⟩ (ih vs (by simpa using hl) λj w hw=>by simpa using hv (j+1) w (by simpa using hw))
  refine go _ _ (by simpa using hsz) λj v hv=>?_;obtain⟨c,u,e1,e2⟩:=hit j v (by simpa using hv);exact⟨c,u,by simpa using e1,e2⟩
def Dv:List D->Option D
 | [.tup xs]=>some (.lst xs)
 | [.lst xs]=>some (.lst xs)
 | [.str x]=>some (.lst (signs x))
 | _=>none
abbrev Uh(K:Fg):List V->Hp->VK->Prop:=λxs H Q=>(∃p ys,xs=[.ref p]/\(j8 K H p ys\/pO K H p ys)/\∀l,H l=none->Q (.ref l) (upd H l (.lst ys)))\/Ug xs H Q
def Ms(hh:X.calm=true):gQ X (.type "list") (Uh X.K):=Gy.or (Mr hh)
theorem tO{K:Fg}{F:Hp}:∀x:List Nat,cg K F (signs x) (x.map λc=>V.str ⟨#[c]⟩)
 | []=>rfl
 | c::x=>⟨_,_,rfl,⟨rfl,by rw[Qkq];simp⟩,tO x⟩
def Z3:CallD C (Uh C.K) Dv:=by
 intro Pr F env σ H ds d vs Q r hs h q;unfold Dv at h;split at h
 ·cases h;obtain⟨v,rfl,hv⟩:=jK hs;obtain⟨z,a,ws,rfl,h1,f1,h2⟩:=hv.tup r.fr;refine .inl ⟨a,ws,rfl,.inr h1,λl hl=>?_⟩;obtain⟨r2,s2⟩:=r.new (o:=.lst ws) hl;exact q _ _ _ r2 s2 ⟨z,l,ws,rfl,bu,cg.mono s2 _ _ h2⟩
 ·cases h;obtain⟨v,rfl,hv⟩:=jK hs;obtain⟨z,a,ws,rfl,h1,h2⟩:=hv.lst r.fr;refine .inl ⟨a,ws,rfl,.inl (j8.of h1),λl hl=>?_⟩;obtain⟨r2,s2⟩:=r.new (o:=.lst ws) hl;exact q _ _ _ r2 s2 ⟨z,l,ws,rfl,bu,cg.mono s2 _ _ h2⟩
 ·rename_i x;cases h;obtain⟨v,rfl,hv⟩:=jK hs;obtain⟨rfl,hz⟩:=hv.str;refine .inr ⟨_,rfl,by rw[aW];exact hz,λl hl=>?_⟩;obtain⟨r2,s2⟩:=r.new (o:=.lst ((strOf x).cps.toList.map λc=>V.str ⟨#[c]⟩)) hl;refine q _ _ _ r2 s2 ⟨by simpa[signs] using hz,l,_,rfl,bu,?_⟩;have e:(strOf x).cps.toList=x:=by simp[strOf]
  rw[e];exact tO x
 ·cases h
def Ru:List D->Option D
 | [.int i,.int j]=>some (.int (if j > i then j else i))
 | _=>none
def Rt:List D->Option D
 | [.int i,.int j]=>some (.int (if j<i then j else i))
 | _=>none
def aer:CallD C (λxs H Q=>∃i j,xs=[.int i,.int j]/\Q (.int (if j > i then j else i)) H) Ru:=by
 intro Pr F env σ H ds d vs Q r hs h q;unfold Ru at h;split at h
 ·cases h;obtain⟨v,w,rfl,hv,hw⟩:=Mt hs;obtain rfl:=hv.int;obtain rfl:=hw.int;exact⟨_,_,rfl,q _ H F r (aU.refl F) rfl⟩
 ·cases h
def aeq:CallD C (λxs H Q=>∃i j,xs=[.int i,.int j]/\Q (.int (if j<i then j else i)) H) Rt:=by
 intro Pr F env σ H ds d vs Q r hs h q;unfold Rt at h;split at h
 ·cases h;obtain⟨v,w,rfl,hv,hw⟩:=Mt hs;obtain rfl:=hv.int;obtain rfl:=hw.int;exact⟨_,_,rfl,q _ H F r (aU.refl F) rfl⟩
 ·cases h
def vm:List D->Option D
 | [.int i,.int j]=>if 0<j/\j<1073741824 then some (.tup [.int (i / j),.int (i % j)]) else none
 | _=>none
def RD:CallD C (λxs H Q=>∃i j,xs=[.int i,.int j]/\ag2 i j/\∀p,H p=none->Q (.ref p) (upd H p (.tup [.int (i / j),.int (i % j)]))) vm:=by
 intro Pr F env σ H ds d vs Q r hs h q;unfold vm at h;split at h
 ·split at h
  ·rename_i hj;cases h;obtain⟨v,w,rfl,hv,hw⟩:=Mt hs;obtain rfl:=hv.int;obtain rfl:=hw.int;refine⟨_,_,rfl,hj,λp hp=>?_⟩;obtain⟨r2,s2⟩:=r.new (o:=.tup [.int _,.int _]) hp;exact q _ _ _ r2 s2 ⟨by rw[Qkq];simp,p,_,rfl,pO.of bu,⟨_,_,rfl,rfl,_,_,rfl,rfl,rfl⟩⟩
  ·cases h
 ·cases h
def S7:D->String
 | .non=>"NoneType"
 | .bl _=>"bool"
 | .int _=>"int"
 | .str _=>"str"
 | .tup _=>"tuple"
 | .lst _=>"list"
 | .arr _=>"list"
 | .dct _=>"dict"
 | .lE _=>"dict"
 | .clo _ _=>"NoneType"
def qN(d:D)(T:String):Bool:=S7 d == T||(S7 d == "bool" && T == "int")
def adV{d:D}{u c:Value}{b:Bool}{s:Shared}{A:Around}{E:Value->Shared->Prop}{Q:Value->Shared->Prop}(J2:X.K.In s.heap)(nc:∀st ds,d ≠ .clo st ds)(h:Sh s.heap d u)(e:PySem.W.kitOne X.K (.type (S7 d)) c=some b)(q:∀tk,Q (.bool b) { s with toks:=tk }) :
  wpAny (model X.prog X.w) A (call (.builtin "isinstance") [u,c]) Q E s:=by
 cases d with
 | non=>cases h;exact PySem.W.kia_one PySem.W.kitx_none J2 True.intro e (λz=>nomatch z) q
 | bl y=>cases h;exact PySem.W.kia_one PySem.W.kitx_bool J2 True.intro e (λz=>nomatch z) q
 | int i=>obtain⟨t,rfl⟩:=h;exact PySem.W.kia_one PySem.W.kitx_int J2 True.intro e (λz=>nomatch z) q
 | str y=>obtain⟨t,rfl⟩:=h;exact PySem.W.kia_one PySem.W.kitx_str J2 True.intro e (λz=>nomatch z) q
 | tup xs=>
  obtain⟨a,its,rfl,p,_⟩:=h;obtain⟨o,h1,h2,_⟩:=p;exact PySem.W.kia_one PySem.W.kitx_tuple J2 ⟨o,h1,h2⟩ e (λz=>nomatch z) q
 | lst xs=>
  obtain⟨a,its,rfl,p,_⟩:=h;obtain⟨o,h1,h2,_⟩:=p.isList;exact PySem.W.kia_one PySem.W.kitx_list J2 ⟨o,h1,h2⟩ e (λz=>nomatch z) q
 | arr xs=>
  obtain⟨a,its,rfl,p,_⟩:=h;obtain⟨o,h1,h2,_⟩:=p.isList;exact PySem.W.kia_one PySem.W.kitx_list J2 ⟨o,h1,h2⟩ e (λz=>nomatch z) q
 | dct kvs=>
  obtain⟨a,o,rfl,h1,h2⟩:=h;exact PySem.W.kia_one PySem.W.kitx_dict J2 ⟨o,h1,h2.1⟩ e (λz=>nomatch z) q
 | lE kvs=>
  obtain⟨a,o,rfl,h1,h2⟩:=h;exact PySem.W.kia_one PySem.W.kitx_dict J2 ⟨o,h1,h2.1⟩ e (λz=>nomatch z) q
 | clo st ds=>exact(nc st ds rfl).elim
def vh(T:String)(d:D):Option D:=match d with
 | .clo _ _=>none
 | _=>some (.bl (qN d T))
def ZC{T:String}{d e:D}(h:vh T d=some e):(∀st ds,d ≠ .clo st ds)/\e = .bl (qN d T):=by cases d<;>simp[vh] at h<;>exact⟨λ_ _ z=>(by cases z),h.symm⟩
theorem Wt{T:String}(hk:∀d:D,PySem.W.kitOne X.K (.type (S7 d)) (.type T)=some (qN d T)) :
  gQ X (.builtin "isinstance") (λxs H Q=>∃d x,xs=[x,.ty T]/\(∀st ds,d ≠ .clo st ds)/\Rep X.K H d x/\Q (.bl (qN d T)) H):=by
 intro pins s σ H xs us Q I r h;obtain⟨d,x,rfl,nc,hr,q⟩:=h;obtain⟨u,w,rfl,r1,r2⟩:=vals2 r;cases r2;exact adV (X:=X) I.Jd nc (Rep.sh I d x u hr r1) (hk d) λtk=>⟨.bl _,H,I.tok tk,rfl,q⟩
def mV:List D->Option (List Bool)
 | []=>some []
 | .bl b::r=>(mV r).map (b :: ·)
 | _=>none
theorem uJ{K:Fg}{F:Hp}:∀{ds:List D} {bs:List Bool} {vs:List V},mV ds=some bs->cg K F ds vs->vs=bs.map V.bl
 | [],bs,vs,h,hr=>by simp[mV] at h;subst h;cases hr;rfl
 | d::ds,bs,vs,h,hr=>by
  obtain⟨v,r,rfl,h1,h2⟩:=hr;cases d with
  | bl b=>
   simp only[mV] at h;cases e:mV ds with
   | none=>rw[e] at h;cases h
   | some cs=>
    rw[e] at h;cases h;cases h1;rw[uJ e h2]
    rfl
  | _=>simp[mV] at h
theorem ux:∀{bs:List Bool} {us:List Value},Vals (bs.map V.bl) us->us=bs.map Value.bool
 | [],_,.nil=>rfl
 | b::bs,_,.cons r t=>by
  cases r;rw[ux t]
  rfl
def Cp(bs:List Bool):(List.range bs.length).all (λi=>bs.getD i true)=bs.all id:=by
 induction bs with
 | nil=>rfl
 | cons b bs ih=>
  rw[Qq0,List.range_succ_eq_map,List.all_cons,List.all_map,List.all_cons];simp only[List.getD_cons_zero,id]
  congr 1
def RM(hc:X.calm=true):gQ X (.builtin "all") (λxs H Q=>∃(p:Addr) (bs:List Bool),xs=[.ref p]/\j8 X.K H p (bs.map V.bl)/\Q (.bl (bs.all id)) H):=by
 intro pins s σ H xs us Q I r h;obtain⟨p,bs,rfl,hq,q⟩:=h;obtain⟨u,rfl,rx⟩:=vals1 r;cases rx;obtain⟨its,rv,pl,_⟩:=I.list hq;have e:=ux rv;subst e;refine call_all_walk (wpAny_pyIter_list pl.isList ?_);have hlt:p<s.heap.objs.size:=by obtain⟨o,e,_⟩:=pl.isList;exact Qq9 e
 refine⟨s.heap.objs.size,_,_,_,_,_,λi=>bs.getD i true,rfl,Walks.list (A:=X.A.in1) (show X.A.in1.handled=none from I.ok.hd hc) s.heap.objs.size p (Qwv hlt) (bs.map Value.bool).toArray,⟨⟨_,Qq6 _ rfl,rfl,rfl⟩,by obtain⟨o,e,rr⟩:=pl.isList;exact⟨o,Qqz _ e,rr⟩⟩,?_,λh' tk hk=>?_⟩
 ·intro i v s' Q' E' hv hq';have hv:(bs.map Value.bool).toArray[i]? = some v:=hv;rw[List.getElem?_toArray,Qx2] at hv;cases hb:bs[i]? with
  | none=>rw[hb] at hv;cases hv
  | some b=>
   rw[hb] at hv;cases hv;refine Qj8 ?_;have this:bs.getD i true=b:=by simp[Qzj,hb]
   have hq':Q' (bs.getD i true) s':=hq'
   rwa [this] at hq'
 ·have I1:Inv X pins σ H { s with heap:=h',toks:=tk }:=I.kept λb o e=>hk b o (by simp;exact Qwv (Qq9 e)) (Qqz _ e);refine⟨.bl _,H,I1,rfl,?_⟩;have e2:(bs.map Value.bool).toArray.size=bs.length:=by simp
  rw[e2,Cp];exact q
def rY:List D->Option D
 | [.lst ds]=>(mV ds).map λbs=>.bl (bs.all id)
 | _=>none
def aet:CallD C (λxs H Q=>∃(p:Addr) (bs:List Bool),xs=[.ref p]/\j8 C.K H p (bs.map V.bl)/\Q (.bl (bs.all id)) H) rY:=by
 intro Pr F env σ H ds d vs Q r hs h q;unfold rY at h;split at h
 ·rename_i es;cases e:mV es with
  | none=>rw[e] at h;cases h
  | some bs=>
   rw[e] at h;cases h;obtain⟨v,rfl,hv⟩:=jK hs;obtain⟨z,a,ws,rfl,h1,h2⟩:=hv.lst r.fr;have e2:=uJ e h2;subst e2;exact⟨a,bs,rfl,j8.of h1,q _ H F r (aU.refl F) rfl⟩
 ·cases h
def fP:List D->Option (List (List Nat))
 | []=>some []
 | .str x::r=>(fP r).map (x :: ·)
 | _=>none
def bF(sep:List Nat):List (List Nat)->List Nat
 | []=>[]
 | x::r=>r.foldl (λacc y=>acc++sep++y) x
def Aa(sep:List Nat)(xs:List (List Nat)):Txt.join (strOf sep) (xs.map strOf)=strOf (bF sep xs):=by
 unfold Txt.join;unfold Builtin.Str.glued;cases xs with
 | nil=>rfl
 | cons x r=>
  show(⟨(r.map strOf).foldl (λacc p=>acc++(strOf sep).cps++p.cps) (strOf x).cps⟩:Str)=strOf (r.foldl (λacc y=>acc++sep++y) x);have go:∀(r:List (List Nat)) (x:List Nat),(r.map strOf).foldl (λacc p=>acc++(strOf sep).cps++p.cps) (strOf x).cps=(strOf (r.foldl (λacc y=>acc++sep++y) x)).cps:=by
   intro r
   induction r with
   | nil=>intro x;rfl
   | cons y r ih=>
    intro x;rw[Qq7,Qx4,Qx4];rw[<-ih (x++sep++y)]
    congr 1
    simp[strOf]
  rw[go]
theorem lH{K:Fg}{F:Hp}:∀{ds:List D} {xs:List (List Nat)} {vs:List V},fP ds=some xs->cg K F ds vs->vs=xs.map λx=>V.str (strOf x)
 | [],bs,vs,h,hr=>by simp[fP] at h;subst h;cases hr;rfl
 | d::ds,bs,vs,h,hr=>by
  obtain⟨v,r,rfl,h1,h2⟩:=hr;cases d with
  | str b=>
   simp only[fP] at h;cases e:fP ds with
   | none=>rw[e] at h;cases h
   | some cs=>
    rw[e] at h;cases h;cases h1.1;rw[lH e h2]
    rfl
  | _=>simp[fP] at h
theorem nT:∀{xs:List (List Nat)} {us:List Value},Vals (xs.map λx=>V.str (strOf x)) us->StrsAre us (xs.map strOf)
 | [],_,.nil=>.nil
 | x::xs,_,.cons r t=>by
  obtain⟨k,rfl⟩:=r;exact .cons _ k (nT t)
def joinFits(sep:List Nat)(xs:List (List Nat)):Bool:=decide ((xs.map List.length).sum+xs.length*sep.length<=16777216)
def rJoin(K:Fg):V->List V->Hp->VK->Prop:=λx vs H Q=>∃sep xs p,x = .str (strOf sep)/\vs=[.ref p]/\j8 K H p (xs.map λx=>V.str (strOf x))/\joinFits sep xs=true/\Q (.str (strOf (bF sep xs))) H
def Y7:MtR X "str.join" (rJoin X.K):=by
 intro pins s σ H x vs v us Q I rx rv h;obtain⟨sep,xs,p,rfl,rfl,hq,hf,q⟩:=h;obtain⟨t,rfl⟩:=rx;obtain⟨u,rfl,ru⟩:=vals1 rv;cases ru;obtain⟨its,r,pl,_⟩:=I.list hq;have hs:=nT r;refine join_list pl.isList (by simpa using hs) ?_ λt' k=>?_
 ·have hf':=Qw3 hf;have e:((xs.map strOf).map (·.length))=xs.map List.length:=by
   rw[Qxv];apply Qz5;intro z _;exact aW z
  rw[e,aW,Qqk];exact hf'
 ·rw[Aa];exact⟨.str _,H,I.tok k,⟨t',rfl⟩,q⟩
theorem p7(sep:List Nat):∀(r:List (List Nat)) (x:List Nat),(r.foldl (λacc y=>acc++sep++y) x).length=x.length+(r.map List.length).sum+r.length*sep.length
 | [],x=>by simp
 | y::r,x=>by
  rw[Qx4,p7 sep r,Qqq,Qqq,Qq7,Qjx,Qq0,Nat.add_mul];omega
def Jg{sep:List Nat}{xs:List (List Nat)}(h:joinFits sep xs=true):(bF sep xs).length<=sizeLine:=by
 have h':=Qw3 h;rw[Qkq];cases xs with
 | nil=>simp[bF]
 | cons x r=>
  show(r.foldl (λacc y=>acc++sep++y) x).length<=_;rw[p7];rw[Qq7,Qjx,Qq0,Nat.add_mul] at h';omega
def jo(x y:D):Option D:=match x,y with
 | .str sep,.lst ds=>(match fP ds with
  | some xs=>if joinFits sep xs=true then some (.str (bF sep xs)) else none
  | none=>none)
 | _,_=>none
def Yl{o e:Expr}{a b:Ev}{apos cpos:Pos}(hK:X.K=C.K)(ho:PX X C o a)(he:WY X C e b)(hbase:attributeBase o "join" X.env (eval o X.env)=eval o X.env:=by rfl)
  (hs:BP e X.env:=by rfl)
  (hfew:((backTo cpos (starEach [e] X.env)).all (λx=>!x.1)&&(backToKw cpos (keywordEach [] X.env)).all (λx=>x.1.isSome)
   && decide ([e].length+([]:List Keyword).length+(if ([]:List Keyword).isEmpty then 0 else 1)<30))=true:=by rfl)
  (hline:(apos.endLine == cpos.line)=true:=by rfl) (hplain:(backTo cpos (starEach [] X.env)).any (·.1)=false:=by rfl) :
  PX X C (.Call (.Attribute o "join" apos) [e] [] cpos) (az jo a b):=by
 refine(xK PySem.F.plainAttrs_str PySem.F.slot_str_join PySem.F.type_str_join Y7 ho (dJ he iU hs) hbase hfew hline hs hplain).imp λσ H Q h=>?_;obtain⟨Pr,F,env,env',d,rl,e0,q⟩:=h;obtain⟨x,aH,e1,e2⟩:=aQ e0;obtain⟨y,dC,e3,e4⟩:=aQ e2;obtain⟨e5,rfl⟩:=cF e4;unfold jo at e5;split at e5
 ·rename_i sep ds;split at e5
  ·rename_i xs hxs;split at e5
   ·rename_i hf;cases e5;refine⟨Pr,F,env,aH,_,rl,e1,λvx H1 F1 r1 s1 p1=>?_⟩;obtain⟨rfl,_⟩:=p1;refine⟨rfl,Pr,F1,aH,env',_,r1,e3,λvy H2 F2 r2 s2 p2=>?_⟩;obtain⟨z,l,ws,rfl,h1,h2⟩:=p2.lst r2.fr;have e6:=lH hxs h2;subst e6;exact⟨sep,xs,l,rfl,rfl,j8.of h1,hf,q _ H2 F2 r2 (s1.trans s2) ⟨rfl,Jg hf⟩⟩
   ·cases e5
  ·cases e5
 ·cases e5
end
def Rel.put{C:Cfg}{Pr F:Hp}{env:Env}{σ:L2.St}{H:Hp}(r:Rel C Pr F env σ H){i:Nat}{d:D}{v:V}(hfx:C.fx i=none)(p:Rep C.K F d v):Rel C Pr F (env.set i (some (false,d))) (σ.set i (some v)) H:=by
 refine⟨r.pr,r.fr,by rw[Qw5,Qw5];exact r.len,λj e he=>?_,λj e he=>?_,λj k e f b hj hk g1 g2=>?_,r.dj,λj a hj=>?_⟩
 ·by_cases hji:j=i
  ·subst hji;have hl:j<env.length:=by
    have:=(Qq5.mp he).1
    rwa [Qw5] at this
   rw[Qwq hl] at he;cases he;exact⟨v,Qwq (by rw[<-r.len];exact hl),p⟩
  ·rw[Qq3 (Ne.symm hji)] at he ⊢;exact r.val j e he
 ·by_cases hji:j=i
  ·subst hji;have hl:j<env.length:=by
    have:=(Qq5.mp he).1
    rwa [Qw5] at this
   rw[Qwq hl] at he;cases he
  ·rw[Qq3 (Ne.symm hji)] at he ⊢;exact r.own j e he
 ·have nn:∀(j:Nat) (e:D),(env.set i (some (false,d)))[j]? = some (some (true,e))->j≠i:=λj e he z=>by
   subst z;have hl:j<env.length:=by
    have:=(Qq5.mp he).1
    rwa [Qw5] at this
   rw[Qwq hl] at he;cases he
  have nj:=nn j e hj;have nk:=nn k f hk;rw[Qq3 (Ne.symm nj)] at hj g1;rw[Qq3 (Ne.symm nk)] at hk g2;exact r.apart j k e f b hj hk g1 g2
 ·have hji:j≠i:=λz=>by rw[z,hfx] at hj;cases hj
  rw[Qq3 (Ne.symm hji)];exact r.fix j a hj
structure RZ(K:Fg)(Pr F:Hp)(env:Env)(σ:L2.St)(H:Hp)(d:D)(a:Addr):Prop where
 own:jw K F H d a
 nF:F a=none
 nP:Pr a=none
 ap:∀(j:Nat) (e:D),env[j]? = some (some (true,e))->σ[j]? = some (some (V.ref a))->False
def RZ.of{C:Cfg}{Pr F:Hp}{env:Env}{σ:L2.St}{H:Hp}{a:Addr}{o:HO}{d:D}(r:Rel C Pr F env σ H)(h:H a=none)(ho:jw C.K F (upd H a o) d a):RZ C.K Pr F env σ (upd H a o) d a:=
 ⟨ho,r.fr.free h,r.pr.free h,λj e he hs=>by
  obtain⟨b,h1,h2,_⟩:=r.own j e he;rw[hs] at h1;cases h1;obtain⟨u,hu⟩:=h2.some;rw[h] at hu;cases hu⟩
def Rel.Lf{C:Cfg}{Pr F:Hp}{env:Env}{σ:L2.St}{H:Hp}(r:Rel C Pr F env σ H){i:Nat}{d:D}{a:Addr}(hfx:C.fx i=none)(n:RZ C.K Pr F env σ H d a):Rel C Pr F (env.set i (some (true,d))) (σ.set i (some (.ref a))) H:=by
 have same:∀(j:Nat) (x:Bool×D),(env.set i (some (true,d)))[j]? = some (some x)->j=i->x=(true,d)/\j<env.length:=λj x he z=>by
  subst z;have hl:j<env.length:=by
   have:=(Qq5.mp he).1
   rwa [Qw5] at this
  rw[Qwq hl] at he;cases he;exact⟨rfl,hl⟩
 refine⟨r.pr,r.fr,by rw[Qw5,Qw5];exact r.len,λj e he=>?_,λj e he=>?_,λj k e f b hj hk g1 g2=>?_,r.dj,λj a hj=>?_⟩
 ·by_cases hji:j=i
  ·have:=(same j _ he hji).1;cases this
  ·rw[Qq3 (Ne.symm hji)] at he ⊢;exact r.val j e he
 ·by_cases hji:j=i
  ·obtain⟨z,hl⟩:=same j _ he hji;cases z;subst hji;exact⟨a,Qwq (by rw[<-r.len];exact hl),n.own,n.nF,n.nP⟩
  ·rw[Qq3 (Ne.symm hji)] at he ⊢;exact r.own j e he
 ·by_cases nj:j=i
  ·by_cases nk:k=i
   ·rw[nj,nk]
   ·obtain⟨z,hl⟩:=same j _ hj nj;subst nj;rw[Qwq (by rw[<-r.len];exact hl)] at g1;cases g1;rw[Qq3 (Ne.symm nk)] at hk g2;exact(n.ap k f hk g2).elim
  ·rw[Qq3 (Ne.symm nj)] at hj g1;by_cases nk:k=i
   ·obtain⟨z,hl⟩:=same k _ hk nk;subst nk;rw[Qwq (by rw[<-r.len];exact hl)] at g2;cases g2;exact(n.ap j e hj g1).elim
   ·rw[Qq3 (Ne.symm nk)] at hk g2;exact r.apart j k e f b hj hk g1 g2
 ·have hji:j≠i:=λz=>by rw[z,hfx] at hj;cases hj
  rw[Qq3 (Ne.symm hji)];exact r.fix j a hj
def Rel.keep{C:Cfg}{Pr F:Hp}{env:Env}{σ:L2.St}{H:Hp}{d:D}{a:Addr}(r:Rel C Pr F env σ H)(n:RZ C.K Pr F env σ H d a):∃F',Rel C Pr F' env σ H/\aU F F'/\Rep C.K F' d (.ref a):=by
 obtain⟨o,ho⟩:=n.own.some;have s1:aU F (upd F a o):=lN n.nF;have rep:Rep C.K (upd F a o) d (.ref a):=by
  have h2:=n.own;cases d with
  | lst xs=>obtain⟨z,vs,g1,g2⟩:=h2;rw[ho] at g1;cases g1;exact⟨z,a,vs,rfl,bu,cg.mono s1 _ _ g2⟩
  | dct kvs=>obtain⟨z,ks,g1,g2⟩:=h2;rw[ho] at g1;cases g1;exact⟨z,a,ks,rfl,.inl bu,dH.mono s1 _ _ g2⟩
  | lE kvs=>obtain⟨z,ks,g1,g2⟩:=h2;rw[ho] at g1;cases g1;exact⟨z,a,ks,rfl,.inl bu,pP.mono s1 _ _ g2⟩
  | _=>exact h2.elim
 refine⟨upd F a o,⟨r.pr,λb u e=>?_,r.len,λj e he=>?_,λj e he=>?_,r.apart,λb u e=>?_,r.fix⟩,s1,rep⟩
 ·by_cases hb:b=a
  ·subst hb;rw[bu] at e;cases e;exact ho
  ·rw[bI hb] at e;exact r.fr b u e
 ·obtain⟨v,g1,g2⟩:=r.val j e he;exact⟨v,g1,Rep.mono s1 e v g2⟩
 ·obtain⟨b,g1,g2,g3,g4⟩:=r.own j e he;have hb:b≠a:=λz=>by subst z;exact n.ap j e he g1
  exact⟨b,g1,g2.mono s1 rfl,by rw[bI hb];exact g3,g4⟩
 ·by_cases hb:b=a
  ·subst hb;exact n.nP
  ·rw[bI hb] at e;exact r.dj b u e
def Rel.write{C:Cfg}{Pr F:Hp}{env:Env}{σ:L2.St}{H:Hp}{i:Nat}{d d':D}{a:Addr}{u:HO}(r:Rel C Pr F env σ H)(h:env[i]? = some (some (true,d)))(hs:σ[i]? = some (some (V.ref a)))(ho:jw C.K F (upd H a u) d' a) :
  Rel C Pr F (env.set i (some (true,d'))) σ (upd H a u):=by
 obtain⟨a',h1,h2,h3,h4⟩:=r.own i d h;rw[hs] at h1;cases h1;have hi:i<env.length:=(Qq5.mp h).1;have ne:∀(j:Nat) (e:D) (b:Addr),j≠i->env[j]? = some (some (true,e))->σ[j]? = some (some (V.ref b))->b≠a:=λj e b hj he g z=>hj (r.apart j i e d a he h (by rw[<-z];exact g) hs);refine⟨λb w e=>?_,λb w e=>?_,by rw[Qw5];exact r.len,λj e he=>?_,λj e he=>?_,λj k e f b hj hk g1 g2=>?_,r.dj,r.fix⟩
 ·have hb:b≠a:=λz=>by rw[z,h4] at e;cases e
  rw[bI hb];exact r.pr b w e
 ·have hb:b≠a:=λz=>by rw[z,h3] at e;cases e
  rw[bI hb];exact r.fr b w e
 ·by_cases hj:j=i
  ·subst hj;rw[Qwq hi] at he;cases he
  ·rw[Qq3 (Ne.symm hj)] at he;exact r.val j e he
 ·by_cases hj:j=i
  ·subst hj;rw[Qwq hi] at he;cases he;exact⟨a,hs,ho,h3,h4⟩
  ·rw[Qq3 (Ne.symm hj)] at he;obtain⟨b,g1,g2,g3,g4⟩:=r.own j e he;exact⟨b,g1,g2.mono (aU.refl F) (bI (ne j e b hj he g1)),g3,g4⟩
 ·have un:∀(j:Nat) (e:D),(env.set i (some (true,d')))[j]? = some (some (true,e))->∃e',env[j]? = some (some (true,e')):=λj e he=>by
   by_cases hj:j=i
   ·subst hj;exact⟨d,h⟩
   ·rw[Qq3 (Ne.symm hj)] at he;exact⟨e,he⟩
  obtain⟨e',hj'⟩:=un j e hj;obtain⟨f',hk'⟩:=un k f hk;exact r.apart j k e' f' b hj' hk' g1 g2
def tN(C:Cfg)(ev:Ev):TE:=λσ H Q=>∃(Pr F:Hp) (env env':Env) (d:D),Rel C Pr F env σ H/\ev env = .ok d env'/\
 ∀a H' F',Rel C Pr F' env' σ H'->aU F F'->RZ C.K Pr F' env' σ H' d a->Q (.ref a) H'
def Xa(X:Cx)(C:Cfg)(e:Expr)(ev:Ev):Prop:=PE X e (tN C ev)
section
variable{X:Cx}{C:Cfg}{pos:Pos}
def Xa.px{e:Expr}{ev:Ev}(h:Xa X C e ev):PX X C e ev:=PE.imp h λσ H Q hq=>by
 obtain⟨Pr,F,env,env',d,r,e,q⟩:=hq;refine⟨Pr,F,env,env',d,r,e,λa H' F' r' s' n'=>?_⟩;obtain⟨F2,r2,s2,p2⟩:=r'.keep n';exact q _ _ F2 r2 (s'.trans s2) p2
def Nx{es:List Expr}{r:di}(h:PL X C es r):Xa X C (.List es pos) (bM r):=(acS h).imp λσ H Q hq=>by
 obtain⟨Pr,F,env,env',d,rl,e,q⟩:=hq;obtain⟨ds,aH,e1,e2⟩:=aQ e;split at e2
 ·rename_i hz;cases e2;refine⟨Pr,F,env,env',ds,rl,e1,λvs H1 F1 r1 s1 p1=>⟨by rw[p1.length];exact hz,λp hp=>?_⟩⟩;exact q _ _ F1 (r1.fresh hp) s1 (RZ.of r1 hp ⟨hz,vs,bu,p1⟩)
 ·cases e2
abbrev GV:=D->Env->Option Env
abbrev Xc:=List D->Env->Option Env
def tG(C:Cfg)(lo:Nat)(gv:GV):TG:=λv σ H Q=>∃(Pr F:Hp) (env env':Env) (d:D),Rel C Pr F env σ H/\Rep C.K F d v/\gv d env=some env'/\
 ∀σ' H' F',Rel C Pr F' env' σ' H'->aU F F'->σ'.take lo=σ.take lo->Q σ' H'
def tGs(C:Cfg)(lo:Nat)(gv:Xc):TGs:=λvs σ H Q=>∃(Pr F:Hp) (env env':Env) (ds:List D),Rel C Pr F env σ H/\cg C.K F ds vs/\gv ds env=some env'/\
 ∀σ' H' F',Rel C Pr F' env' σ' H'->aU F F'->σ'.take lo=σ.take lo->Q σ' H'
def PXG(X:Cx)(C:Cfg)(lo:Nat)(e:Expr)(gv:GV):Prop:=PG X e (tG C lo gv)
def aeG(X:Cx)(C:Cfg)(lo:Nat)(es:List Expr)(gv:Xc):Prop:=PGs X es (tGs C lo gv)
def _root_.L2.PG.imp{X:Cx}{e:Expr}{t t':TG}(h:PG X e t)(i:∀v σ H Q,t' v σ H Q->t v σ H Q):PG X e t':=λpins s σ H v u Q I r q=>h pins s σ H v u Q I r (i v σ H Q q)
def _root_.L2.PGs.imp{X:Cx}{e:List Expr}{t t':TGs}(h:PGs X e t)(i:∀v σ H Q,t' v σ H Q->t v σ H Q):PGs X e t':=λpins s σ H v u Q I r q=>h pins s σ H v u Q I r (i v σ H Q q)
def au(i:Nat):GV:=λd env=>some (env.set i (some (false,d)))
def Us{lo i:Nat}{x:Str}(hN:X.N.Nodup)(hi:X.N[i]? = some x)(hx:Loc X.env.scope x)(hlo:lo<=i)(hfx:C.fx i=none)(hf:X.fn x=true\/X.env.scope.names.lookup x=some .local:=by first|exact .inl rfl|exact .inr rfl|assumption):PXG X C lo (.Name x pos) (au i):=
 (Yw hN hi hx hf).imp λv σ H Q h=>by
  obtain⟨Pr,F,env,env',d,r,p,e,q⟩:=h;cases e;exact q _ _ F (r.put hfx p) (aU.refl F) (by rw[List.take_set_of_le hlo])
def eZ:Xc:=λds env=>if ds.isEmpty then some env else none
def bG(g:GV)(gs:Xc):Xc:=λds env=>match ds with
 | d::r=>(g d env).bind λe1=>gs r e1
 | []=>none
def Ur{lo:Nat}:aeG X C lo [] eZ:=Yv.imp λv σ H Q h=>by
 obtain⟨Pr,F,env,env',ds,r,p,e,q⟩:=h;cases ds with
 | nil=>cases e;cases p;exact⟨rfl,q _ _ F r (aU.refl F) rfl⟩
 | cons d ds=>cases e
def eY(n:Nat)(gs:Xc):GV:=λd env=>match d with
 | .tup ds=>if ds.length=n then gs ds env else none
 | _=>none
def Yi{lo:Nat}{es:List Expr}{k:Nat}{gs:Xc}{n:Nat}(hc:X.calm=true)(hK:X.K=C.K)(h:aeG X C lo es gs)
  (hn:(assignEach es X.env).length=n:=by rfl) (hst:(assignEach es X.env).findIdx? (·.1)=none:=by rfl):PXG X C lo (.Tuple es k pos) (eY n gs):=(acJ hc h hn hst).imp λv σ H Q h=>by
 obtain⟨Pr,F,env,env',d,r,p,e,q⟩:=h;cases d with
 | tup ds=>
  obtain⟨z,a,vs,rfl,h1,h2⟩:=p;unfold eY at e;simp only at e;split at e
  ·rename_i hl;rw[hK];exact⟨a,vs,rfl,aU.tupK r.fr h1,by rw[h2.length];exact hl,Pr,F,env,env',ds,r,h2,e,q⟩
  ·cases e
 | _=>cases e
def VR(i:Nat)(ix:Ev):GV:=λd env=>match env[i]? with
 | some (some (_,_))=>(match ix env with
  | .ok (.int k) aH=>(match aH[i]? with
   | some (some (true,.lst xs))=>(Zo xs.length k).map λj=>aH.set i (some (true,.lst (xs.set j d)))
   | _=>none)
  | _=>none)
 | _=>none
def ack{lo i:Nat}{x:Str}{ix:Expr}{ev:Ev}{px:Pos}(hN:X.N[i]? = some x)(hv:ym X.env.scope x)(h:PX X C ix ev)
  (ha:∀v,assign (.Subscript (.Name x px) ix pos) X.env v=(do
   let ov <-holding [v] (eval (.Name x px) X.env)
   let iv <-holding [v,ov] (eval ix X.env)
   standAt pos
   holding [v,ov,iv] (setItem ov iv v)
   release [v,ov,iv] []):=by intro _;rfl)
  (hd:jy x:=by decide) (hcd:uq x:=by decide):PXG X C lo (.Subscript (.Name x px) ix pos) (VR i ev):=
 (acK (jj hN hv hd hcd) h set_list ha).imp λv σ H Q hq=>by
  obtain⟨Pr,F,env,env',d,r,p,e,q⟩:=hq;unfold VR at e;split at e
  ·rename_i o0 d0 h0;obtain⟨v0,hv0,_⟩:=r.rd h0;split at e
   ·rename_i k aH e1;split at e
    ·rename_i xs h2;obtain⟨j,hj,e3⟩:=Qw1.mp e;subst e3;refine⟨v0,hv0,Pr,F,env,aH,.int k,r,e1,λvi H1 F1 r1 s1 p1=>?_⟩;cases p1;obtain⟨a,g1,⟨z,vs,g2,g3⟩,g4,g5⟩:=r1.own i _ h2;rw[hv0] at g1;cases g1;refine⟨a,vs,k,j,rfl,rfl,g2,by rw[g3.length];exact hj,?_⟩;refine q σ _ F1 (r1.write h2 hv0 ⟨by rw[Qw5];exact z,vs.set j v,bu,cg.set (Rep.mono s1 d v p) j g3⟩) s1 rfl
    ·cases e
   ·cases e
  ·cases e
end
inductive Out where
 | nx (env:Env)
 | rt (o:Bool) (d:D) (env:Env)
 | bk (env:Env)
 | ct (env:Env)
 | stuck
abbrev cR:=Env->Out
def Fin(C:Cfg)(Pr F:Hp)(D:Ends):Out->Prop
 | .nx env'=>∀σ' H' F',Rel C Pr F' env' σ' H'->aU F F'->D.nx σ' H'
 | .rt false d env'=>∀v σ' H' F',Rel C Pr F' env' σ' H'->aU F F'->Rep C.K F' d v->D.rt v H'
 | .rt true d env'=>∀a σ' H' F',Rel C Pr F' env' σ' H'->aU F F'->RZ C.K Pr F' env' σ' H' d a->D.rt (.ref a) H'
 | .bk env'=>∀σ' H' F',Rel C Pr F' env' σ' H'->aU F F'->D.bk σ' H'
 | .ct env'=>∀σ' H' F',Rel C Pr F' env' σ' H'->aU F F'->D.ct σ' H'
 | .stuck=>False
theorem Fin.mono{C:Cfg}{Pr F F1:Hp}{D:Ends}(s:aU F F1):∀{o:Out},Fin C Pr F D o->Fin C Pr F1 D o
 | .nx _,h=>λσ' H' F' r t=>h σ' H' F' r (s.trans t)
 | .rt false _ _,h=>λv σ' H' F' r t=>h v σ' H' F' r (s.trans t)
 | .rt true _ _,h=>λv σ' H' F' r t=>h v σ' H' F' r (s.trans t)
 | .bk _,h=>λσ' H' F' r t=>h σ' H' F' r (s.trans t)
 | .ct _,h=>λσ' H' F' r t=>h σ' H' F' r (s.trans t)
 | .stuck,h=>h
def tS(C:Cfg)(ev:cR):TS:=λD σ H=>∃(Pr F:Hp) (env:Env),Rel C Pr F env σ H/\Fin C Pr F D (ev env)
def WX(X:Cx)(C:Cfg)(st:Stmt)(ev:cR):Prop:=PS X st (tS C ev)
def Bl(X:Cx)(C:Cfg)(st:List Stmt)(ev:cR):Prop:=Bm X st (tS C ev)
def jB{α:Type}(x:R α)(f:α->Env->Out):Out:=match x with
 | .ok a env=>f a env
 | .stuck=>.stuck
def cW{C:Cfg}{Pr F:Hp}{D:Ends}{α:Type}{x:R α}{f:α->Env->Out}(h:Fin C Pr F D (jB x f)):∃a aH,x = .ok a aH/\Fin C Pr F D (f a aH):=by
 cases x with
 | ok a aH=>exact⟨a,aH,rfl,h⟩
 | stuck=>exact h.elim
section
variable{X:Cx}{C:Cfg}{pos:Pos}
def cP:cR:=λenv=>.nx env
def aL(a b:cR):cR:=λenv=>match a env with
 | .nx e=>b e
 | .rt o d e=>.rt o d e
 | .bk e=>.bk e
 | .ct e=>.ct e
 | .stuck=>.stuck
def Ul:Bl X C [] cP:=Yn.imp λD σ H h=>by
 obtain⟨Pr,F,env,r,f⟩:=h;exact f σ H F r (aU.refl F)
def gw(t:fM)(a b:cR):cR:=λenv=>jB (t env) λc aH=>if c=true then a aH else b aH
def bW(a:Ev):cR:=λenv=>jB (a env) λd aH=>.rt false d aH
def zb(a:Ev):cR:=λenv=>jB (a env) λd aH=>.rt true d aH
def Et(a:Ev):cR:=λenv=>jB (a env) λ_ aH=>.nx aH
def aa2(o:Option Env):Out:=match o with
 | some e=>.nx e
 | none=>.stuck
def bA(a:Ev)(g:GV):cR:=λenv=>jB (a env) λd aH=>aa2 (g d aH)
def aey{a:Ev}{g:GV}{D:Ends}{σ:L2.St}{H:Hp}(h:tS C (bA a g) D σ H):Ql (tE C a) (tG C 0 g) D σ H:=by
 obtain⟨Pr,F,env,r,f⟩:=h;obtain⟨d,aH,e1,f1⟩:=cW f;refine⟨Pr,F,env,aH,d,r,e1,λv H1 F1 r1 s1 p1=>?_⟩;cases e2:g d aH with
 | none=>rw[e2] at f1;exact f1.elim
 | some dC=>rw[e2] at f1;exact⟨Pr,F1,aH,dC,d,r1,p1,e2,λσ2 H2 F2 r2 s2 _=>f1 σ2 H2 F2 r2 (s1.trans s2)⟩
def X8{i:Nat}{x:Str}{e:Expr}{a:Ev}{pos':Pos}(hN:X.N.Nodup)(hi:X.N[i]? = some x)(hx:Loc X.env.scope x)(hfx:C.fx i=none)(he:PX X C e a)(hs:swapsWith e (some (.Name x pos')) pos.line X.env=pure false:=by rfl)(hf:X.fn x=true\/X.env.scope.names.lookup x=some .local:=by first|exact .inl rfl|exact .inr rfl|assumption) :
  WX X C (.Assign [.Name x pos'] e pos) (bA a (au i)):=(Lg hN hi hx he hs hf).imp λD σ H h=>by
 obtain⟨Pr,F,env,r,f⟩:=h;obtain⟨d,aH,e1,f1⟩:=cW f;exact⟨Pr,F,env,aH,d,r,e1,λv H1 F1 r1 s1 p1=>f1 _ H1 F1 (r1.put hfx p1) s1⟩
def eN(i:Nat)(a:Ev):cR:=λenv=>jB (a env) λd aH=>.nx (aH.set i (some (true,d)))
def Yb{i:Nat}{x:Str}{e:Expr}{a:Ev}{pos':Pos}(hN:X.N.Nodup)(hi:X.N[i]? = some x)(hx:Loc X.env.scope x)(hfx:C.fx i=none)(he:Xa X C e a)(hs:swapsWith e (some (.Name x pos')) pos.line X.env=pure false:=by rfl)(hf:X.fn x=true\/X.env.scope.names.lookup x=some .local:=by first|exact .inl rfl|exact .inr rfl|assumption) :
  WX X C (.Assign [.Name x pos'] e pos) (eN i a):=(Lg hN hi hx he hs hf).imp λD σ H h=>by
 obtain⟨Pr,F,env,r,f⟩:=h;obtain⟨d,aH,e1,f1⟩:=cW f;exact⟨Pr,F,env,aH,d,r,e1,λv H1 F1 r1 s1 p1=>f1 _ H1 F1 (r1.Lf hfx p1) s1⟩
def qb(i:Nat)(a:Ev):cR:=λenv=>match env[i]? with
 | some (some (true,.lst _))=>jB (a env) λd aH=>(match aH[i]? with
  | some (some (true,.lst xs))=>if xs.length<sizeLine then .nx (aH.set i (some (true,.lst (xs++[d])))) else .stuck
  | _=>.stuck)
 | _=>.stuck
def Yd{i:Nat}{x:Str}{e:Expr}{a:Ev}{px apos cpos:Pos}(hN:X.N[i]? = some x)(hv:ym X.env.scope x)(he:PX X C e a)(hK:X.K=C.K)
  (hs:swapsWith (.Call (.Attribute (.Name x px) "append" apos) [e] [] cpos) none pos.line X.env=pure false:=by rfl)
  (hfew:((backTo cpos (starEach [e] X.env)).all (λx=>!x.1)&&(backToKw cpos (keywordEach [] X.env)).all (λx=>x.1.isSome)
   && decide (([e]:List Expr).length+([]:List Keyword).length+(if ([]:List Keyword).isEmpty then 0 else 1)<30))=true:=by rfl)
  (hbase:attributeBase (.Name x px) "append" X.env (eval (.Name x px) X.env)=eval (.Name x px) X.env:=by rfl)
  (hline:(apos.endLine == cpos.line)=true:=by rfl) (hst:BP e X.env:=by rfl) (hplain:(backTo cpos (starEach [] X.env)).any (·.1)=false:=by rfl)
  (hd:jy x:=by decide) (hcd:uq x:=by decide):WX X C (.Expr (.Call (.Attribute (.Name x px) "append" apos) [e] [] cpos) pos) (qb i a):=by
 refine PS.imp (Fx (xK PySem.F.plainAttrs_list PySem.F.slot_list_append PySem.F.type_list_append Dl (jj hN hv hd hcd) (dJ he iU hst) hbase hfew hline hst hplain) hs) λD σ H h=>?_;obtain⟨Pr,F,env,r,f⟩:=h;unfold qb at f;split at f
 ·rename_i xs0 h0;obtain⟨d,aH,e1,f1⟩:=cW f;obtain⟨a0,hv0,⟨z0,vs0,g0,_⟩,_⟩:=r.own i _ h0;refine⟨_,hv0,.inl ⟨rfl,vs0,j8.of g0⟩,Pr,F,env,aH,d,r,e1,λv H1 F1 r1 s1 p1=>?_⟩;split at f1
  ·rename_i xs h1;split at f1
   ·rename_i hz;obtain⟨a,g1,⟨z,vs,g2,g3⟩,g4,g5⟩:=r1.own i _ h1;rw[hv0] at g1;cases g1;refine⟨a0,vs,v,rfl,rfl,g2,by rw[g3.length];exact hz,?_⟩;exact f1 σ _ F1 (r1.write h1 hv0 ⟨by rw[Qqq];exact hz,vs++[v],bu,g3.append (cg.one p1)⟩) s1
   ·exact f1.elim
  ·exact f1.elim
 ·exact f.elim
def pD(K:Fg)(F:Hp)(ds:List D)(J:It):Prop:=∀(i:Nat) (H:Hp),aU F H->(ds[i]? = none->i=ds.length->J.stop i H)/\∀d,ds[i]? = some d->J.go i H/\∀x H',J.yld i H x H'->
 (H'=H/\Rep K F d x)\/∃p vs es,H p=none/\H'=upd H p (.tup vs)/\x = .ref p/\d = .tup es/\es.length<=sizeLine/\cg K F es vs
def tI(C:Cfg)(ev:di):TI:=λσ H R=>∃(Pr F:Hp) (env env':Env) (ds:List D),Rel C Pr F env σ H/\ev env = .ok ds env'/\
 ∀J H' F',Rel C Pr F' env' σ H'->aU F F'->pD C.K F' ds J->R J H'
def PXI(X:Cx)(C:Cfg)(tg iter:Expr)(ev:di):Prop:=PI X tg iter (tI C ev)
def _root_.L2.PI.imp{X:Cx}{tg e:Expr}{t t':TI}(h:PI X tg e t)(i:∀σ H R,t' σ H R->t σ H R):PI X tg e t':=λpins s σ H R I q=>h pins s σ H R I (i σ H R q)
def pD.item{Pr F F1:Hp}{env:Env}{σ:L2.St}{H:Hp}{ds:List D}{J:It}{i:Nat}{d:D}{x:V}{H':Hp}(r:Rel C Pr F1 env σ H)(s:aU F F1)(y:pD C.K F ds J)(hd:ds[i]? = some d)(hy:J.yld i H x H') :
  ∃F2,Rel C Pr F2 env σ H'/\aU F1 F2/\Rep C.K F2 d x:=by
 rcases((y i H (s.trans r.fr)).2 d hd).2 x H' hy with ⟨rfl,p⟩|⟨p,vs,es,hp,rfl,rfl,rfl,hz,q⟩
 ·exact⟨F1,r,aU.refl F1,Rep.mono s _ _ p⟩
 ·obtain⟨r2,s2⟩:=r.new (o:=.tup vs) hp;exact⟨_,r2,s2,hz,p,vs,rfl,pO.of bu,cg.mono (s.trans s2) _ _ q⟩
def j4(g:GV)(b:cR):List D->cR
 | [],env=>.nx env
 | d::ds,env=>(match g d env with
  | none=>.stuck
  | some e1=>(match b e1 with
   | .nx e2=>j4 g b ds e2
   | .ct e2=>j4 g b ds e2
   | .bk e2=>.nx e2
   | .rt o d e2=>.rt o d e2
   | .stuck=>.stuck))
def gA(it:di)(g:GV)(b:cR):cR:=λenv=>jB (it env) λds aH=>j4 g b ds aH
def Yc{tg iter:Expr}{body:List Stmt}{it:di}{g:GV}{b:cR}(hp:PassesOwn (model X.prog X.w) X.A X.env X.xe)(hc:X.calm=true)(hi:PXI X C tg iter it)(hg:PXG X C 0 tg g)(hb:Bl X C body b)
  (hs:∀x,foldedSetIterable iter X.env x=pure x:=by intro _;rfl):WX X C (.For tg iter body [] pos) (gA it g b):=(acF hp hc hi hg hb hs).imp λD σ H h=>by
 obtain⟨Pr,F,env,r,f⟩:=h;obtain⟨ds,aH,e1,f1⟩:=cW f;refine⟨Pr,F,env,aH,ds,r,e1,λJ H1 F1 r1 s1 y1=>?_⟩;refine⟨λi m σ' H'=>m=ds.length - i/\i<=ds.length/\∃F' env',Rel C Pr F' env' σ' H'/\aU F1 F'/\Fin C Pr F' D (j4 g b (ds.drop i) env'),⟨ds.length,rfl,Qzy _,F1,aH,r1,aU.refl _,f1.mono s1⟩,?_⟩;rintro i m σ' H' ⟨rfl,hi,F',env',r',s',f'⟩;by_cases hl:i<ds.length
 ·have hd:ds[i]? = some ds[i]:=Qx5 hl;have hdr:ds.drop i=ds[i]::ds.drop (i+1):=List.drop_eq_getElem_cons hl;have yy:=y1 i H' (s'.trans r'.fr);refine .inr ⟨(yy.2 _ hd).1,λσ2 H2=>∃F' env',Rel C Pr F' env' σ2 H2/\aU F1 F'/\Fin C Pr F' D (j4 g b (ds.drop (i+1)) env'),λσ2 H2 h2=>⟨ds.length - (i+1),by omega,rfl,hl,h2⟩,λx H2 hy=>?_⟩;obtain⟨F2,r2,s2,p2⟩:=pD.item r' s' y1 hd hy;rw[hdr] at f';have f2:=f'.mono s2;unfold j4 at f2;cases eg:g ds[i] env' with
  | none=>rw[eg] at f2;exact f2.elim
  | some e2=>
   rw[eg] at f2;refine⟨Pr,F2,env',e2,ds[i],r2,p2,eg,λσ3 H3 F3 r3 s3 _=>⟨Pr,F3,e2,r3,?_⟩⟩;simp only at f2;have s13:aU F1 F3:=(s'.trans s2).trans s3;cases eb:b e2 with
   | nx e3=>rw[eb] at f2;exact λσ4 H4 F4 r4 s4=>⟨F4,e3,r4,s13.trans s4,f2.mono (s3.trans s4)⟩
   | ct e3=>rw[eb] at f2;exact λσ4 H4 F4 r4 s4=>⟨F4,e3,r4,s13.trans s4,f2.mono (s3.trans s4)⟩
   | bk e3=>rw[eb] at f2;exact λσ4 H4 F4 r4 s4=>f2 σ4 H4 F4 r4 (s3.trans s4)
   | rt o d e3=>rw[eb] at f2;cases o<;>exact λv σ4 H4 F4 r4 s4 p4=>f2 v σ4 H4 F4 r4 (s3.trans s4) p4
   | stuck=>rw[eb] at f2;exact f2.elim
 ·have e:i=ds.length:=by omega
  subst e;rw[List.drop_length] at f';exact .inl ⟨(y1 _ H' (s'.trans r'.fr)).1 (Qjy (Qq2 _)) rfl,f' σ' H' F' r' (aU.refl F')⟩
end
end Ev
namespace L2
open PySem PySem.Spec PyProof.Rows
def Its(z:Str):It:=⟨λi _=>i<z.cps.size,λi H x H'=>H'=H/\∃c,z.cps[i]? = some c/\x = .str ⟨#[c]⟩,λi _=>z.cps.size<=i⟩
theorem Qe{P:Program}{w:World}{K:PySem.W.Frag}{tg:Expr}(it:Addr)(z:Str)(t:Tok):Turn P w K tg (Its z) [it] it (λi h=>h.IsStrIter it "str_ascii_iterator" z t i/\i<=z.cps.size) where
 mem:=by simp
 obj:=λi h st b hb=>by
  have e:b=it:=by simpa using hb
  subst e;obtain⟨⟨o,ho,hc,hd⟩,_⟩:=st;exact⟨o,ho,λv z=>by rw[hd] at z;cases z⟩
 keep:=λi h h' st k=>let ⟨⟨o,ho,r⟩,l⟩:=st;⟨⟨o,k it (by simp) o ho,r⟩,l⟩
 item:=by intro X hP hw hK hc i pins s σ H E I hf st hg;subst hP hw hK;obtain⟨f0,f1,f2,f3,f4,f5⟩:=hf it (by simp);have hg':i<z.cps.size:=hg;refine wpAny_pyNext_ascii_item st.1 (c:=z.cps[i]) (by simp[hg']) λh' hit' hs'=>?_;have I1:Inv X pins σ H { s with heap:=h',toks:=s.toks+1 }:=I.turned (λb o hb e=>hs'.extBut b o hb e) f0 f1 f3 f4 f5;obtain⟨o,ho,hcl,hda⟩:=hit';refine⟨_,rfl,Du (s:={ s with heap:=h',toks:=s.toks+1 }) (n:="str_ascii_iterator") ho hcl hda (by decide) ⟨.str ⟨#[z.cps[i]]⟩,H,I1,⟨_,rfl⟩,⟨rfl,_,by simp[hg'],rfl⟩,⟨⟨o,ho,hcl,hda⟩,hg'⟩,λb hb=>(hf b hb).1⟩⟩
 done:=by intro X hP hw hK hc i pins s σ H E I hf st hg;subst hP hw hK;obtain⟨f0,f1,f2,f3,f4,f5⟩:=hf it (by simp);have hg':z.cps.size<=i:=hg;exact wpAny_pyNext_ascii_end (I.ok.hd hc) st.1 (by simp;omega) λh' eb=>⟨rfl,I.turned (t':=s.toks) (λb o hb e=>eb b o hb e) f0 f1 f3 f4 f5⟩
 self:=λ_ _ _ _ _ st h=>wpAny_pyIter_striter_ascii st.1 h
theorem Qd{P:Program}{w:World}{K:PySem.W.Frag}{tg:Expr}(it:Addr)(z:Str)(t:Tok):Turn P w K tg (Its z) [it] it (λi h=>h.IsStrIter it "str_iterator" z t i/\i<=z.cps.size) where
 mem:=by simp
 obj:=λi h st b hb=>by
  have e:b=it:=by simpa using hb
  subst e;obtain⟨⟨o,ho,hc,hd⟩,_⟩:=st;exact⟨o,ho,λv z=>by rw[hd] at z;cases z⟩
 keep:=λi h h' st k=>let ⟨⟨o,ho,r⟩,l⟩:=st;⟨⟨o,k it (by simp) o ho,r⟩,l⟩
 item:=by intro X hP hw hK hc i pins s σ H E I hf st hg;subst hP hw hK;obtain⟨f0,f1,f2,f3,f4,f5⟩:=hf it (by simp);have hg':i<z.cps.size:=hg;refine wpAny_pyNext_wide_item st.1 (c:=z.cps[i]) (by simp[hg']) λh' hit' hs'=>?_;have I1:Inv X pins σ H { s with heap:=h',toks:=s.toks+1 }:=I.turned (λb o hb e=>hs'.extBut b o hb e) f0 f1 f3 f4 f5;obtain⟨o,ho,hcl,hda⟩:=hit';refine⟨_,rfl,Du (s:={ s with heap:=h',toks:=s.toks+1 }) (n:="str_iterator") ho hcl hda (by decide) ⟨.str ⟨#[z.cps[i]]⟩,H,I1,⟨_,rfl⟩,⟨rfl,_,by simp[hg'],rfl⟩,⟨⟨o,ho,hcl,hda⟩,hg'⟩,λb hb=>(hf b hb).1⟩⟩
 done:=by intro X hP hw hK hc i pins s σ H E I hf st hg;subst hP hw hK;obtain⟨f0,f1,f2,f3,f4,f5⟩:=hf it (by simp);have hg':z.cps.size<=i:=hg;exact wpAny_pyNext_wide_end (I.ok.hd hc) st.1 (by simp;omega) λh' eb=>⟨rfl,I.turned (t':=s.toks) (λb o hb e=>eb b o hb e) f0 f1 f3 f4 f5⟩
 self:=λ_ _ _ _ _ st h=>wpAny_pyIter_striter_wide st.1 h
section
variable{X:Cx}{tg:Expr}
def aii(K:PySem.W.Frag)(tl:TE):TI:=λσ H R=>tl σ H λx H1=>(∃a,x = .ref a/\(∃xs,j8 K H1 a xs)/\R (Itl K a) H1)\/(∃a,x = .ref a/\(∃xs,pO K H1 a xs)/\R (Itt K a) H1)\/∃z,x = .str z/\R (Its z) H1
def acI{l:Expr}{tl:TE}(hl:PE X l tl):PI X tg l (aii X.K tl):=by
 intro pins s σ H R I h;refine fK (hl pins s σ H _ I h) λv s1 ⟨x,H1,I1,r1,q1⟩=>?_;have own:∀b ∈ [s1.heap.objs.size],Bo X pins H1 b:=λb hb=>by
  have e:b=s1.heap.objs.size:=by simpa using hb
  subst e;exact I1.aec (Qq2 _) (I1.hok.fresh (Qq2 _))
 rcases q1 with ⟨a,e,⟨xs,hq⟩,q⟩|⟨a,e,⟨xs,hq⟩,q⟩|⟨z,e,q⟩
 ·subst e;cases r1;obtain⟨its,rv,p,hz⟩:=I1.list hq;refine wpAny_pyIter_list p.isList ?_;exact⟨s1.heap.objs.size,[s1.heap.objs.size],_,_,H1,rfl,I1.kept (t':=s1.toks) λb o e=>Qqz _ e,Qf a _,⟨_,Qq6 _ rfl,rfl,rfl⟩,own,q⟩
 ·subst e;cases r1;obtain⟨its,rv,p,hz⟩:=I1.tuple hq;refine wpAny_pyIter_tuple (show s1.heap.IsTuple a its.toArray from p) ?_;exact⟨s1.heap.objs.size,[s1.heap.objs.size],_,_,H1,rfl,I1.kept (t':=s1.toks) λb o e=>Qqz _ e,Ky a _,⟨_,Qq6 _ rfl,rfl,rfl⟩,own,q⟩
 ·subst e;obtain⟨t,rfl⟩:=r1;cases ha:z.cps.all (·< 128)
  ·exact wpAny_pyIter_wide ha ⟨s1.heap.objs.size,[s1.heap.objs.size],_,_,H1,rfl,I1.kept (t':=s1.toks) λb o e=>Qqz _ e,Qd _ z t,⟨⟨_,Qq6 _ rfl,rfl,rfl⟩,Qzy _⟩,own,q⟩
  ·exact wpAny_pyIter_ascii ha ⟨s1.heap.objs.size,[s1.heap.objs.size],_,_,H1,rfl,I1.kept (t':=s1.toks) λb o e=>Qqz _ e,Qe _ z t,⟨⟨_,Qq6 _ rfl,rfl,rfl⟩,Qzy _⟩,own,q⟩
def aeJ(lo c:Int)(n:Nat):It:=⟨λi _=>i<n,λi H x H'=>H'=H/\x = .int (lo+i*c),λi _=>n<=i⟩
theorem Hm{P:Program}{w:World}{K:PySem.W.Frag}{tg:Expr}(it:Addr)(lo c:Int)(n:Nat):Turn P w K tg (aeJ lo c n) [it] it (λi h=>IsRangeIter h it (lo+(i:Nat)*c) ((n:Int) - (i:Nat)) c) where
 mem:=by simp
 obj:=λi h st b hb=>by
  have e:b=it:=by simpa using hb
  subst e;exact⟨_,st,λv z=>by
   have z':Data.fields _=Data.cell v:=z;cases z'⟩
 keep:=λi h h' st k=>k it (by simp) _ st
 item:=by intro X hP hw hK hc i pins s σ H E I hf st hg;subst hP hw hK;obtain⟨f0,f1,f2,f3,f4,f5⟩:=hf it (by simp);have W:=Walks.range (prog:=X.prog) (w:=X.w) (I.ok.hd hc) it lo c n;refine W.item i s _ _ hg st λv h' tk hv st' kk=>?_;obtain⟨t,rfl⟩:=hv;have I1:Inv X pins σ H { s with heap:=h',toks:=tk }:=I.turned (λb o hb e=>kk b o (by simpa using hb) e) f0 f1 f3 f4 f5;exact⟨_,rfl,Du (s:={ s with heap:=h',toks:=tk }) (n:="range_iterator") st' rfl rfl (by decide) ⟨.int (lo+i*c),H,I1,⟨t,rfl⟩,⟨rfl,rfl⟩,st',λb hb=>(hf b hb).1⟩⟩
 done:=by intro X hP hw hK hc i pins s σ H E I hf st hg;subst hP hw hK;obtain⟨f0,f1,f2,f3,f4,f5⟩:=hf it (by simp);exact wpAny_pyNext_range_end (I.ok.hd hc) st (by have:n<=i:=hg;omega) λh' eb=>⟨rfl,I.turned (t':=s.toks) (λb o hb e=>eb b o hb e) f0 f1 f3 f4 f5⟩
 self:=λ_ _ _ _ _ st h=>wpAny_pyIter_rangeiter st h
def agq(ta:TA):TI:=λσ H R=>ta σ H λvs H1=>∃i j c:Int,vs=[.int i,.int j,.int c]/\c≠0/\c.natAbs<1073741824/\Builtin.Range.small i j c=true/\R (aeJ i c (Builtin.Range.rangeSize i j c).toNat) H1
def QM{a b c:Expr}{ta:TA}{p pos:Pos}(hg:Gl X "range")(hm:X.mg "range" = none)(ha:PA X [a,b,c] ta)(hs:starEach [a,b,c] X.env=[(false,eval a X.env),(false,eval b X.env),(false,eval c X.env)]:=by rfl)(hs2:starEach [b,c] X.env=[(false,eval b X.env),(false,eval c X.env)]:=by rfl) :
  PI X tg (.Call (.Name "range" p) [a,b,c] [] pos) (agq ta):=by
 intro pins s σ H R I h;refine Call_ (zW I hg hm boot_range (PyProof.Rows.callWith_type1 (fK (ha pos pins s σ H _ I h) λus s1 ⟨vs,H1,I1,r1,q1⟩=>?_) (by rw[hs,hs2]) (by rw[hs2];rfl)));obtain⟨i,j,c,e,hc,hcs,hsm,q⟩:=q1;subst e;cases r1 with
 | cons r rr=>
  cases rr with
  | cons r' rr=>
   cases rr with
   | cons r'' rr=>
    cases rr;obtain⟨t,rfl⟩:=r;obtain⟨t',rfl⟩:=r';obtain⟨t'',rfl⟩:=r'';refine call_range_3 hc ?_ (.inl (PyProof.noPylong_small hcs));refine wpAny_pyIter_range (IsRange.new ..) hsm ?_;generalize ho:({ cls:=.type "range",data:=.fields #[.int i t,.int j t',.int c t''] }:Obj)=o;have I2:Inv X pins σ H1 { s1 with heap:=s1.heap.push o,toks:=s1.toks }:=I1.kept λb o e=>Qqz _ e;refine⟨(s1.heap.push o).objs.size,[(s1.heap.push o).objs.size],_,_,H1,rfl,I2.kept (t':=s1.toks) λb o e=>Qqz _ e,Hm _ i c (Builtin.Range.rangeSize i j c).toNat,?_,λb hb=>?_,q⟩
    ·have e1:i+((0:Nat):Int)*c=i:=by simp
     have e2:(((Builtin.Range.rangeSize i j c).toNat:Nat):Int) - ((0:Nat):Int)=Builtin.Range.rangeSize i j c:=by have:=PyProof.Rows.rangeSize_toNat i j c;omega
     show IsRangeIter _ _ (i+((0:Nat):Int)*c) (((Builtin.Range.rangeSize i j c).toNat:Int) - ((0:Nat):Int)) c;rw[e1,e2];exact Qq6 _ rfl
    ·have e:b=(s1.heap.push o).objs.size:=by simpa using hb
     subst e;exact I2.aec (Qq2 _) (I2.hok.fresh (Qq2 _))
end
end L2
namespace Ev
open PySem PySem.Spec PyProof.Rows L2
section
variable{X:Cx}{C:Cfg}{pos:Pos}{tg:Expr}
def dI(x:List Nat):List D:=x.map λc=>.str [c]
def J6{F:Hp}{a:Addr}{vs:List V}{ds:List D}(h:pO C.K F a vs)(p:cg C.K F ds vs):pD C.K F ds (Itt C.K a):=λi H s=>by
 refine⟨λ_ e=>⟨vs,aU.tupK s h,by rw[p.length,e];exact Qq2 _⟩,λd hd=>?_⟩;obtain⟨v,h1,h2⟩:=p.get hd;refine⟨⟨vs,v,aU.tupK s h,h1⟩,λx H' hy=>.inl ⟨hy.1,?_⟩⟩;have:=hy.2 vs (aU.tupK s h);rw[h1] at this;cases this;exact h2
def J7{F:Hp}{x:List Nat}:pD C.K F (dI x) (Its (strOf x)):=λi H s=>by
 refine⟨λ_ e=>?_,λd hd=>?_⟩
 ·show x.toArray.size<=i;rw[e];simp[dI]
 ·unfold dI at hd;rw[Qx2] at hd;obtain⟨c,hc,rfl⟩:=Qw1.mp hd;refine⟨?_,λv H' hy=>.inl ⟨hy.1,?_⟩⟩
  ·show i<x.toArray.size;have:=(Qq5.mp hc).1
   simpa using this
  ·obtain⟨c',h1,rfl⟩:=hy.2;have h2:x[i]? = some c':=by simpa[strOf] using h1
   rw[hc] at h2;cases h2;exact⟨rfl,by show 1<=sizeLine;decide⟩
def itD:D->Option (List D)
 | .lst xs=>some xs
 | .arr xs=>some xs
 | .tup xs=>some xs
 | .str x=>some (dI x)
 | _=>none
def dR(a:Ev):di:=λenv=>bindR (a env) λd aH=>fJ (itD d) aH
def Yh{l:Expr}{a:Ev}(hK:X.K=C.K)(h:PX X C l a):PXI X C tg l (dR a):=(acI h).imp λσ H R hq=>by
 obtain⟨Pr,F,env,env',ds,r,e,q⟩:=hq;obtain⟨d,aH,e1,e2⟩:=aQ e;obtain⟨e3,rfl⟩:=cF e2;refine⟨Pr,F,env,env',d,r,e1,λv H1 F1 r1 s1 p1=>?_⟩;rw[hK];cases d with
 | lst xs=>
  cases e3;obtain⟨z,a,vs,rfl,g1,g2⟩:=p1;refine .inl ⟨a,rfl,⟨vs,j8.of (r1.fr _ _ g1)⟩,q _ H1 F1 r1 s1 λi H s=>?_⟩;refine⟨λ_ e=>⟨vs,j8.of (s _ _ g1),by rw[g2.length,e];exact Qq2 _⟩,λd hd=>?_⟩;obtain⟨v,h1,h2⟩:=g2.get hd;refine⟨⟨vs,v,j8.of (s _ _ g1),h1⟩,λx H' hy=>.inl ⟨hy.1,?_⟩⟩;have:=hy.2 vs (j8.of (s _ _ g1));rw[h1] at this;cases this;exact h2
 | arr xs=>
  cases e3;obtain⟨z,a,vs,rfl,g1,g2⟩:=p1;refine .inl ⟨a,rfl,⟨vs,r1.fr.seq g1⟩,q _ H1 F1 r1 s1 λi H s=>?_⟩;refine⟨λ_ e=>⟨vs,s.seq g1,by rw[g2.length,e];exact Qq2 _⟩,λd hd=>?_⟩;obtain⟨v,h1,h2⟩:=g2.get hd;refine⟨⟨vs,v,s.seq g1,h1⟩,λx H' hy=>.inl ⟨hy.1,?_⟩⟩;have:=hy.2 vs (s.seq g1);rw[h1] at this;cases this;exact h2
 | tup xs=>
  cases e3;obtain⟨z,a,vs,rfl,g1,g2⟩:=p1;exact .inr (.inl ⟨a,rfl,⟨vs,aU.tupK r1.fr g1⟩,q _ H1 F1 r1 s1 (J6 g1 g2)⟩)
 | str x=>
  cases e3;obtain⟨rfl,z⟩:=p1;exact .inr (.inr ⟨_,rfl,q _ H1 F1 r1 s1 J7⟩)
 | _=>cases e3
def iR(lo c:Int)(n:Nat):List D:=(List.range n).map λ(i:Nat)=>.int (lo+i*c)
def sY(lo c:Int)(n:Nat):(iR lo c n).length=n:=by simp[iR]
def za{lo c:Int}{n i:Nat}{d:D}(h:(iR lo c n)[i]? = some d):i<n/\d = .int (lo+i*c):=by
 have hi:i<n:=by
  have:=(Qq5.mp h).1
  rwa [sY] at this
 refine⟨hi,?_⟩;unfold iR at h;rw[Qx2,List.getElem?_range hi] at h;cases h;rfl
def J8{F:Hp}{lo:Int}{n:Nat}:pD C.K F (iR lo 1 n) (Itr lo n):=λi H s=>by
 refine⟨λ_ e=>by show n<=i;rw[e,sY];exact Qq2 _,λd hd=>?_⟩;obtain⟨hi,rfl⟩:=za hd;refine⟨hi,λx H' hy=>.inl ⟨hy.1,?_⟩⟩;show x = .int _;rw[Int.mul_one];exact hy.2
def Hg{F:Hp}{lo c:Int}{n:Nat}:pD C.K F (iR lo c n) (aeJ lo c n):=λi H s=>by
 refine⟨λ_ e=>by show n<=i;rw[e,sY];exact Qq2 _,λd hd=>?_⟩;obtain⟨hi,rfl⟩:=za hd;exact⟨hi,λx H' hy=>.inl ⟨hy.1,hy.2⟩⟩
def mO(j:Int):Bool:=decide (-(2^62)<=j)&&decide (j<2^62)
def K8{j:Int}(h:mO j=true) : -(2^62)<=j/\j<2^62:=by unfold mO at h;rw[Qwj] at h;exact⟨Qw3 h.1,Qw3 h.2⟩
def qy:List D->Option (List D)
 | [.int j]=>if mO j=true then some (iR 0 1 j.toNat) else none
 | [.int i,.int j]=>if mO i=true/\mO j=true then some (iR i 1 (j - i).toNat) else none
 | [.int i,.int j,.int c]=>if c≠0/\c.natAbs<1073741824/\Builtin.Range.small i j c=true then some (iR i c (Builtin.Range.rangeSize i j c).toNat) else none
 | _=>none
def fV(a:di):di:=λenv=>bindR (a env) λds aH=>fJ (qy ds) aH
def cg.aie{F:Hp}{i:Int}{vs:List V}(h:cg C.K F [.int i] vs):vs=[.int i]:=by obtain⟨v,r,rfl,h1,h2⟩:=h;cases h1;cases h2;rfl
def cg.aid{F:Hp}{i j k:Int}{vs:List V}(h:cg C.K F [.int i,.int j,.int k] vs):vs=[.int i,.int j,.int k]:=by obtain⟨v,r,rfl,h1,v',r',rfl,h2,v'',r'',rfl,h3,h4⟩:=h;cases h1;cases h2;cases h3;cases h4;rfl
def Ld{a:Expr}{ea:di}{p pos:Pos}(hg:Gl X "range")(hm:X.mg "range" = none)(ha:PL X C [a] ea)(hl:∀env ds env',ea env = .ok ds env'->ds.length=1)(hs:starEach [a] X.env=[(false,eval a X.env)]:=by rfl):PXI X C tg (.Call (.Name "range" p) [a] [] pos) (fV ea):=
 (QS hg hm ha hs).imp λσ H R hq=>by
  obtain⟨Pr,F,env,env',ds,r,e,q⟩:=hq;obtain⟨as,aH,e1,e2⟩:=aQ e;obtain⟨e3,rfl⟩:=cF e2;refine⟨Pr,F,env,env',as,r,e1,λvs H1 F1 r1 s1 p1=>?_⟩;have:=hl _ _ _ e1;unfold qy at e3;split at e3
  ·split at e3
   ·rename_i hf;cases e3;have hb:=K8 hf;exact⟨_,p1.aie,hb.1,hb.2,q _ H1 F1 r1 s1 J8⟩
   ·cases e3
  ·simp at this
  ·simp at this
  ·cases e3
def Lb{a b c:Expr}{ea:di}{p pos:Pos}(hg:Gl X "range")(hm:X.mg "range" = none)(ha:PL X C [a,b,c] ea)(hl:∀env ds env',ea env = .ok ds env'->ds.length=3)(hs:starEach [a,b,c] X.env=[(false,eval a X.env),(false,eval b X.env),(false,eval c X.env)]:=by rfl)(hs2:starEach [b,c] X.env=[(false,eval b X.env),(false,eval c X.env)]:=by rfl):PXI X C tg (.Call (.Name "range" p) [a,b,c] [] pos) (fV ea):=
 (QM hg hm ha hs hs2).imp λσ H R hq=>by
  obtain⟨Pr,F,env,env',ds,r,e,q⟩:=hq;obtain⟨as,aH,e1,e2⟩:=aQ e;obtain⟨e3,rfl⟩:=cF e2;refine⟨Pr,F,env,env',as,r,e1,λvs H1 F1 r1 s1 p1=>?_⟩;have:=hl _ _ _ e1;unfold qy at e3;split at e3
  ·simp at this
  ·simp at this
  ·split at e3
   ·rename_i hf;cases e3;exact⟨_,_,_,p1.aid,hf.1,hf.2.1,hf.2.2,q _ H1 F1 r1 s1 Hg⟩
   ·cases e3
  ·cases e3
def Rx(env:Env)(ds:List D)(env':Env)(h:ak env = .ok ds env'):ds.length=0:=by cases h;rfl
def Ml{a:Ev}{r:di}{n:Nat}(hr:∀env ds env',r env = .ok ds env'->ds.length=n)(env:Env)(ds:List D)(env':Env)(h:aa a r env = .ok ds env'):ds.length=n+1:=by obtain⟨d,aH,e1,e2⟩:=aQ h;obtain⟨ds2,dC,e3,e4⟩:=aQ e2;cases e4;rw[Qq0,hr _ _ _ e3]
def cg.sr{F:Hp}{K:Fg}{ds:List D}{vs:List V}{k:Int}{d:D}(h:cg K F ds vs)(e:L2.sr ds k=some d):∃v,L2.sr vs k=some v/\Rep K F d v:=by unfold L2.sr at e ⊢;rw[h.length];obtain⟨j,h1,h2⟩:=Qxw.mp e;obtain⟨v,h3,h4⟩:=h.get h2;exact⟨v,by rw[h1];exact h3,h4⟩
def je:D->D->Option D
 | .lst xs,.int k=>sr xs k
 | .arr xs,.int k=>sr xs k
 | .tup xs,.int k=>sr xs k
 | .str x,.int k=>(sr x k).map λc=>.str [c]
 | _,_=>none
def Ve:pW C (rIx C.K) je:=by
 intro Pr F env σ H x y d vx vy Q r px py e q;unfold je at e;split at e
 ·obtain⟨z,a,vs,rfl,h1,h2⟩:=px.lst r.fr;cases py.int;obtain⟨v,e1,p1⟩:=h2.sr e;exact .inl ⟨a,vs,_,v,rfl,rfl,j8.of h1,e1,q _ _ F r (aU.refl F) p1⟩
 ·obtain⟨z,a,vs,rfl,h1,h2⟩:=px.arr r.fr;cases py.int;obtain⟨v,e1,p1⟩:=h2.sr e;exact .inl ⟨a,vs,_,v,rfl,rfl,h1,e1,q _ _ F r (aU.refl F) p1⟩
 ·obtain⟨z,a,vs,rfl,h1,_,h2⟩:=px.tup r.fr;cases py.int;obtain⟨v,e1,p1⟩:=h2.sr e;exact .inr (.inl ⟨a,vs,_,v,rfl,rfl,h1,e1,q _ _ F r (aU.refl F) p1⟩)
 ·obtain⟨rfl,z⟩:=px.str;cases py.int;obtain⟨c,e1,rfl⟩:=Qw1.mp e;exact .inr (.inr ⟨_,_,c,rfl,rfl,by simpa[strOf,Str.length] using z,by simpa[strOf] using e1,q _ _ F r (aU.refl F) ⟨rfl,by show 1<=sizeLine;decide⟩⟩)
 ·cases e
def afQ{x y:Expr}{a b:Ev}(hK:X.K=C.K)(ha:PX X C x a)(hb:WY X C y b)(hs:mY y:=by intro _ _;rfl):PX X C (.Subscript x y pos) (az je a b):=by have h:=(aaS (pos:=pos) LQ ha hb hs);rw[hK] at h;exact h.imp (Be Ve)
def acr{y:Expr}{b:Ev}{px:Pos}(i:Nat){x:Str}(hK:X.K=C.K)(hN:X.N[i]? = some x)(hv:ym X.env.scope x)(hb:WY X C y b)(hs:mY y:=by intro _ _;rfl)
  (hd:jy x:=by decide) (hcd:uq x:=by decide):PX X C (.Subscript (.Name x px) y pos) (aA je i b):=by
 have h:=(aaS (pos:=pos) LQ (jj (pos:=px) hN hv hd hcd) hb hs);rw[hK] at h;exact h.imp (vC Ve)
def cutD{α:Type}(xs:List α)(lo hi:Option Int):List α:=(xs.drop (HT.fc xs.length 0 lo)).take (HT.fc xs.length xs.length hi - HT.fc xs.length 0 lo)
def qW{α:Type}(xs:List α)(lo hi:Option Int):(cutD xs lo hi).length<=xs.length:=by unfold cutD;rw[Qx9,Qx0];omega
def cg.cut{F:Hp}{K:Fg}{ds:List D}{vs:List V}(h:cg K F ds vs)(lo hi:Option Int):cg K F (cutD ds lo hi) (yH vs lo hi):=by unfold cutD yH;rw[h.length];exact cg.take _ (cg.drop _ h)
abbrev W2:=Env->R (Option Int)
def tP(C:Cfg)(ev:W2):TO:=λσ H Q=>∃(Pr F:Hp) (env env':Env) (o:Option Int),Rel C Pr F env σ H/\ev env = .ok o env'/\∀H' F',Rel C Pr F' env' σ H'->aU F F'->Q o H'
def PXP(X:Cx)(C:Cfg)(e:Option Expr)(ev:W2):Prop:=PO X e (tP C ev)
def _root_.L2.PO.imp{X:Cx}{e:Option Expr}{t t':TO}(h:PO X e t)(i:∀σ H Q,t' σ H Q->t σ H Q):PO X e t':=λpins s σ H Q I q=>h pins s σ H Q I (i σ H Q q)
def lr:W2:=λenv=>.ok none env
def pR(a:Ev):W2:=λenv=>bindR (a env) λd aH=>match d with
 | .int i=>.ok (some i) aH
 | _=>.stuck
def Uo:PXP X C none lr:=Ys.imp λσ H Q h=>by
 obtain⟨Pr,F,env,env',d,r,e,q⟩:=h;cases e;exact q H F r (aU.refl F)
def gSl:D->Option Int->Option Int->Option D
 | .lst xs,lo,hi=>some (.lst (cutD xs lo hi))
 | .arr xs,lo,hi=>some (.lst (cutD xs lo hi))
 | .tup xs,lo,hi=>if HT.fc xs.length 0 lo=0/\HT.fc xs.length xs.length hi=xs.length then none else some (.tup (cutD xs lo hi))
 | _,_,_=>none
def Ce(a:Ev)(lo hi:W2):Ev:=λenv=>bindR (a env) λd aH=>bindR (lo aH) λl dC=>bindR (hi dC) λu We=>fJ (gSl d l u) We
def Tr{Pr F:Hp}{env:Env}{σ:L2.St}{H:Hp}{x d:D}{v:V}{lo hi:Option Int}{Q:VK}(r:Rel C Pr F env σ H)(p:iD C.K F H x v)(e:gSl x lo hi=some d)(q:∀v H' F',Rel C Pr F' env σ H'->aU F F'->Rep C.K F' d v->Q v H') :
  afx C.K v lo hi H Q\/ach C.K v lo hi H Q:=by
 unfold gSl at e;split at e
 ·cases e;obtain⟨z,a,vs,rfl,h1,h2⟩:=p.lst r.fr;refine .inl ⟨a,vs,rfl,j8.of h1,λb hb=>?_⟩;obtain⟨r2,s2⟩:=r.new (o:=.lst (yH vs lo hi)) hb;exact q _ _ _ r2 s2 ⟨Qqj (qW _ _ _) z,b,_,rfl,bu,cg.mono s2 _ _ (h2.cut lo hi)⟩
 ·cases e;obtain⟨z,a,vs,rfl,h1,h2⟩:=p.arr r.fr;refine .inl ⟨a,vs,rfl,h1,λb hb=>?_⟩;obtain⟨r2,s2⟩:=r.new (o:=.lst (yH vs lo hi)) hb;exact q _ _ _ r2 s2 ⟨Qqj (qW _ _ _) z,b,_,rfl,bu,cg.mono s2 _ _ (h2.cut lo hi)⟩
 ·obtain⟨z,a,vs,rfl,h1,_,h2⟩:=p.tup r.fr;split at e
  ·cases e
  ·rename_i hn;cases e;refine .inr ⟨a,vs,rfl,h1,by rw[h2.length];exact hn,λb hb=>?_⟩;obtain⟨r2,s2⟩:=r.new (o:=.tup (yH vs lo hi)) hb;exact q _ _ _ r2 s2 ⟨Qqj (qW _ _ _) z,b,_,rfl,pO.of bu,cg.mono s2 _ _ (h2.cut lo hi)⟩
 ·cases e
def afO{x:Expr}{lo hi:Option Expr}{a:Ev}{el eh:W2}{p2:Pos}(hK:X.K=C.K)(ha:PX X C x a)(hl:PXP X C lo el)(hh:PXP X C hi eh):PX X C (.Subscript x (.Slice lo hi none p2) pos) (Ce a el eh):=by have h:=Ii (pos:=pos) (p2:=p2) (PJ.or Nj K4) ha hl hh;rw[hK] at h;refine h.imp λσ H Q hq=>?_;obtain⟨Pr,F,env,env',d,r,e,q⟩:=hq;obtain⟨x,aH,e1,e2⟩:=aQ e;obtain⟨l,dC,e3,e4⟩:=aQ e2;obtain⟨u,We,e5,e6⟩:=aQ e4;obtain⟨e7,rfl⟩:=cF e6;refine⟨Pr,F,env,aH,x,r,e1,λv H1 F1 r1 s1 p1=>⟨Pr,F1,aH,dC,l,r1,e3,λH2 F2 r2 s2=>⟨Pr,F2,dC,env',u,r2,e5,λH3 F3 r3 s3=>?_⟩⟩⟩;exact Tr r3 (.inl (Rep.mono (s2.trans s3) _ _ p1)) e7 λv H' F' r' s' p'=>q v H' F' r' (((s1.trans s2).trans s3).trans s') p'
def vX(kvs:List (D×D))(q:Key):Option D:=match kvs with
 | []=>none
 | (k,d)::r=>if yF k=some q then some d else vX r q
def yx(kvs:List (D×D))(q:Key)(d:D):List (D×D):=match kvs with
 | []=>[]
 | (k,e)::r=>(if yF k=some q then (k,d) else (k,e))::yx r q d
def putD(kvs:List (D×D))(k:D)(q:Key)(d:D):List (D×D):=if (vX kvs q).isSome then yx kvs q d else kvs++[(k,d)]
theorem dH.length{K:Fg}{F:Hp}:∀{ds:List (D×D)} {vs:List (Key×V)},dH K F ds vs->vs.length=ds.length
 | [],_,h=>by cases h;rfl
 | (k,d)::ds,vs,h=>by
  obtain⟨q,v,r,rfl,_,_,h2⟩:=h;rw[Qq0,Qq0,h2.length]
theorem dH.val{K:Fg}{F:Hp}(q:Key):∀{ds:List (D×D)} {vs:List (Key×V)},dH K F ds vs->(vX ds q=none/\yq vs q=none)\/∃d v,vX ds q=some d/\yq vs q=some v/\Rep K F d v
 | [],_,h=>by cases h;exact .inl ⟨rfl,rfl⟩
 | (k,d)::ds,vs,h=>by
  obtain⟨q',v,r,rfl,hk,h1,h2⟩:=h;unfold vX;by_cases e:q'=q
  ·subst e;rw[if_pos hk];exact .inr ⟨d,v,rfl,uy rfl,h1⟩
  ·rw[if_neg (λz=>e (Qw9 (hk.symm.trans z))),uz (p:=(q',v)) e];exact dH.val q h2
theorem dH.set{K:Fg}{F:Hp}(q:Key){d:D}{v:V}(hd:Rep K F d v):∀{ds:List (D×D)} {vs:List (Key×V)},dH K F ds vs->dH K F (yx ds q d) (vs.map λkv=>if kv.1=q then (kv.1,v) else kv)
 | [],_,h=>by cases h;exact rfl
 | (k,e)::ds,vs,h=>by
  obtain⟨q',u,r,rfl,hk,h1,h2⟩:=h;unfold yx;by_cases e':q'=q
  ·subst e';rw[if_pos hk];refine⟨q',v,_,?_,hk,hd,dH.set q' hd h2⟩;rw[Qq7,if_pos rfl]
  ·rw[if_neg (λz=>e' (Qw9 (hk.symm.trans z)))];refine⟨q',u,_,?_,hk,h1,dH.set q hd h2⟩;rw[Qq7,if_neg e']
theorem dH.append{K:Fg}{F:Hp}:∀{ds es:List (D×D)} {vs ws:List (Key×V)},dH K F ds vs->dH K F es ws->dH K F (ds++es) (vs++ws)
 | [],es,vs,ws,h,g=>by cases h;exact g
 | (k,d)::ds,es,vs,ws,h,g=>by
  obtain⟨q,v,r,rfl,h0,h1,h2⟩:=h;exact⟨q,v,r++ws,rfl,h0,h1,dH.append h2 g⟩
theorem HH(q:Key)(d:D):∀kvs:List (D×D),(yx kvs q d).length=kvs.length
 | []=>rfl
 | (k,e)::r=>by unfold yx;rw[Qq0,Qq0,HH q d r]
def Ux(kvs:List (D×D))(k:D)(q:Key)(d:D):(putD kvs k q d).length<=kvs.length+1:=by
 unfold putD;split
 ·rw[HH];omega
 ·rw[Qqq];exact Qq2 _
def dH.put{K:Fg}{F:Hp}{ds:List (D×D)}{vs:List (Key×V)}{k:D}{q:Key}{d:D}{v:V}(h:dH K F ds vs)(hk:yF k=some q)(hd:Rep K F d v):dH K F (putD ds k q d) (putK vs q v):=by
 unfold putD putK;rw[yX];rcases h.val q with ⟨e1,e2⟩|⟨d',v',e1,e2,_⟩
 ·rw[e1,e2];exact h.append ⟨q,v,[],rfl,hk,hd,rfl⟩
 ·rw[e1,e2];exact dH.set q hd h
def adO{K:Fg}{F:Hp}{k:D}{q:Key}{v:V}(h:yF k=some q)(p:Rep K F k v):v=kV q:=by
 cases k with
 | int i=>cases h;exact p
 | str x=>cases h;exact p.1
 | _=>cases h
def adP{K:Fg}{F H:Hp}{k:D}{q:Key}{v:V}(h:yF k=some q)(p:iD K F H k v):v=kV q:=by
 cases k with
 | int i=>cases h;exact p.int
 | str x=>cases h;exact p.str.1
 | _=>cases h
def iD.dct{K:Fg}{F H:Hp}{kvs:List (D×D)}{v:V}(s:aU F H)(h:iD K F H (.dct kvs) v):kvs.length<=sizeLine/\∃a ks,v = .ref a/\Rd H a (.dK ks)/\dH K F kvs ks:=by
 rcases h with ⟨z,a,vs,rfl,h1,h2⟩|⟨a,rfl,z,vs,h1,h2⟩
 ·exact⟨z,a,vs,rfl,aU.rd s h1,h2⟩
 ·exact⟨z,a,vs,rfl,.inl h1,h2⟩
def aaK:R2:=λx y H Q=>∃a v,x = .ref a/\aau H a y (some v)/\Q v H
def lg:D->D->Option D
 | .dct kvs,k=>(yF k).bind λq=>vX kvs q
 | _,_=>none
def YW:pW C aaK lg:=by
 intro Pr F env σ H x y d vx vy Q r px py e q;unfold lg at e;split at e
 ·obtain⟨z,a,ks,rfl,h1,h2⟩:=px.dct r.fr;obtain⟨k,hk,hv⟩:=Qxw.mp e;cases adP hk py;rcases h2.val k with ⟨e1,_⟩|⟨d',v',e1,e2,p2⟩
  ·rw[e1] at hv;cases hv
  ·rw[e1] at hv;cases hv;exact⟨a,v',rfl,.inl ⟨ks,k,h1,rfl,e2.symm⟩,q _ _ F r (aU.refl F) p2⟩
 ·cases e
def Uu{y:Expr}{b:Ev}{px:Pos}(i:Nat){x:Str}(hu:X.A.units+1<cLine)(hN:X.N[i]? = some x)(hv:ym X.env.scope x)(hb:WY X C y b)(hs:aas y:=by intro _ _;rfl)
  (hd:jy x:=by decide) (hcd:uq x:=by decide):PX X C (.Subscript (.Name x px) y pos) (aA lg i b):=by
 have h:PE X (.Subscript (.Name x px) y pos) (Xr aaK _ _):=YB (pos:=pos) hu (jj (pos:=px) hN hv hd hcd) hb hs;exact h.imp (vC YW)
def Al:Ev:=λenv=>.ok (.dct []) env
def Up:Xa X C (.Dict [] [] pos) Al:=U5.imp λσ H Q hq=>by
 obtain⟨Pr,F,env,env',d,r,e,q⟩:=hq;cases e;exact λp hp=>q _ _ F (r.fresh hp) (aU.refl F) (RZ.of r hp ⟨Qzy _,[],bu,rfl⟩)
def sZ(i:Nat)(k a:Ev):cR:=λenv=>jB (a env) λd aH=>match aH[i]? with
 | some (some (_,_))=>jB (k aH) λkd dC=>(match dC[i]?,yF kd with
  | some (some (true,.dct kvs)),some q=>if kvs.length<sizeLine then .nx (dC.set i (some (true,.dct (putD kvs kd q d)))) else .stuck
  | _,_=>.stuck)
 | _=>.stuck
def Um{i:Nat}{x:Str}{k e:Expr}{ek a:Ev}{px pos':Pos}(hu:X.A.units+1<cLine)(hN:X.N[i]? = some x)(hv:ym X.env.scope x)(hk:PX X C k ek)(he:PX X C e a)
  (hs:swapsWith e (some (.Subscript (.Name x px) k pos')) pos.line X.env=pure false:=by rfl)
  (hd:jy x:=by decide) (hcd:uq x:=by decide):WX X C (.Assign [.Subscript (.Name x px) k pos'] e pos) (sZ i ek a):=
 (Yq hu (jj hN hv hd hcd) hk he hs).imp λD σ H h=>by
  obtain⟨Pr,F,env,r,f⟩:=h;obtain⟨d,aH,e1,f1⟩:=cW f;refine⟨Pr,F,env,aH,d,r,e1,λv H1 F1 r1 s1 p1=>?_⟩;split at f1
  ·rename_i o0 d0 h0;obtain⟨v0,hv0,_⟩:=r1.rd h0;obtain⟨kd,dC,e2,f2⟩:=cW f1;refine⟨v0,hv0,Pr,F1,aH,dC,kd,r1,e2,λvk H2 F2 r2 s2 p2=>?_⟩;split at f2
   ·rename_i kvs q h2 hq;split at f2
    ·rename_i hz;obtain⟨b,g1,⟨z,ks,g2,g3⟩,g4,g5⟩:=r2.own i _ h2;rw[hv0] at g1;cases g1;have hz':ks.length<sizeLine:=by rw[g3.length];exact hz
     cases adO hq p2;refine⟨b,_,rfl,W3.k g2 hz',?_⟩;refine f2 σ _ F2 (r2.write h2 hv0 ⟨Qqj (Ux _ _ _ _) hz,_,bu,g3.put hq (Rep.mono s2 _ _ p1)⟩) (s1.trans s2)
    ·exact f2.elim
   ·exact f2.elim
  ·exact f1.elim
def Rh(x:List Nat):List (List Nat)->List (List Nat)
 | []=>[x]
 | y::r=>if y<x then y::Rh x r else x::y::r
def fD:List (List Nat)->List (List Nat)
 | []=>[]
 | x::r=>Rh x (fD r)
theorem xj(x:List Nat):∀l,(Rh x l).Perm (x::l)
 | []=>.refl _
 | y::r=>by
  unfold Rh;split
  ·exact((xj x r).cons y).trans (.swap x y r)
  ·exact .refl _
theorem gh:∀l,(fD l).Perm l
 | []=>.refl _
 | x::r=>(xj x (fD r)).trans ((gh r).cons x)
theorem xQ(x:List Nat):∀l,l.Pairwise (λa b=>a<=b)->(Rh x l).Pairwise (λa b=>a<=b)
 | [],_=>List.pairwise_singleton _ _
 | y::r,h=>by
  unfold Rh;have h1:=Qzq.mp h;split
  ·rename_i hyx;refine Qzq.mpr ⟨λz hz=>?_,xQ x r h1.2⟩;rcases Qq1.mp ((xj x r).mem_iff.mp hz) with rfl|hz
   ·exact List.le_of_lt hyx
   ·exact h1.1 z hz
  ·rename_i hyx;have hxy:x<=y:=List.not_lt.mp hyx;refine Qzq.mpr ⟨λz hz=>?_,h⟩;rcases Qq1.mp hz with rfl|hz
   ·exact hxy
   ·exact List.le_trans hxy (h1.1 z hz)
theorem oK:∀l,(fD l).Pairwise (λa b=>a<=b)
 | []=>.nil
 | x::r=>xQ x _ (oK r)
theorem CV:∀(p:Str) (l:List Str),risingS p l=true->(p::l).Pairwise (λa b=>a.cps.toList<=b.cps.toList)
 | p,[],_=>List.pairwise_singleton _ _
 | p,x::r,h=>by
  have h':(!Spec.ltCps x.cps.toList p.cps.toList&&risingS x r)=true:=h;rw[Qwj,PyProof.Rows.ltCps_eq] at h';have hxp:¬x.cps.toList<p.cps.toList:=by
   have:=h'.1
   simpa using this
  have ih:=CV x r h'.2;refine Qzq.mpr ⟨λz hz=>?_,ih⟩;have hpx:p.cps.toList<=x.cps.toList:=List.not_lt.mp hxp;rcases Qq1.mp hz with rfl|hz
  ·exact hpx
  ·exact List.le_trans hpx ((Qzq.mp ih).1 z hz)
theorem Qq:∀(l:List Str),sortedS l=true->l.Pairwise (λa b=>a.cps.toList<=b.cps.toList)
 | [],_=>.nil
 | x::r,h=>CV x r h
def rC(s:Str):strOf s.cps.toList=s:=by obtain⟨c⟩:=s;simp[strOf]
def Ew{xs:List (List Nat)}{ss ss':List Str}(e:ss=xs.map strOf)(hp:ss'.Perm ss)(hs:sortedS ss'=true):ss'=(fD xs).map strOf:=by
 subst e;have h1:(ss'.map λs=>s.cps.toList).Perm xs:=by
  have:=hp.map (λs:Str=>s.cps.toList);rw[Qxv] at this;have e2:xs.map ((λs:Str=>s.cps.toList) ∘ strOf)=xs:=by rw[Qz5 (g:=id) (λx _=>by simp[strOf])];simp
  rwa [e2] at this
 have h2:(ss'.map λs=>s.cps.toList)=fD xs:=by refine List.Perm.eq_of_pairwise (le:=λa b=>a<=b) (λa b _ _=>List.le_antisymm) ?_ (oK xs) (h1.trans (gh xs).symm);exact List.pairwise_map.mpr (Qq ss' hs)
 rw[<-h2,Qxv];have e3:∀l:List Str,l.map (strOf ∘ λs=>s.cps.toList)=l:=λl=>by
  induction l with
  | nil=>rfl
  | cons a r ih=>rw[Qq7,ih];show strOf a.cps.toList::r=a::r;rw[rC]
 exact(e3 ss').symm
theorem uw:∀{us:List Value} {ss:List Str},StrsAre us ss->Vals (ss.map V.str) us
 | _,_,.nil=>.nil
 | _,_,.cons y t h=>.cons ⟨t,rfl⟩ (uw h)
theorem uI{K:Fg}{F:Hp}:∀(xs:List (List Nat)),(∀x∈xs,x.length<=sizeLine)->cg K F (xs.map D.str) (xs.map λz=>V.str (strOf z))
 | [],_=>rfl
 | x::xs,h=>⟨_,_,rfl,⟨rfl,h x (Qqv ..)⟩,uI xs λy hy=>h y (Qqy _ hy)⟩
def Fv(K:Fg):List V->Hp->VK->Prop:=λxs H Q=>∃p zs,xs=[.ref p]/\(j8 K H p (zs.map λz=>V.str (strOf z))\/∃ks,Rd H p (.dK ks)/\ks.map (·.1)=zs.map λz=>Sum.inr (strOf z))/\zs.length<64/\∀l,H l=none->Q (.ref l) (upd H l (.lst ((fD zs).map λz=>V.str (strOf z))))
def zf{pins:List (Addr×Obj)}{s:Shared}{σ:L2.St}{H:Hp}{Q:VK}{zs:List (List Nat)}{out:Array Value}{ss':List Str}{a:Addr}{e:Nat}{h':Heap}{tk:Nat}(I:Inv X pins σ H s)(hz:zs.length<64)(q:∀l,H l=none->Q (.ref l) (upd H l (.lst ((fD zs).map λz=>V.str (strOf z)))))
  (a1:StrsAre out.toList ss') (a2:ss'.Perm (zs.map strOf)) (a3:sortedS ss'=true) (hk:∀b o,s.heap.get? b=some o->h'.get? b=some o) (ha:s.heap.objs.size<=a) (ho:h'.get? a=some (seqObj "list" out e)):EP X pins σ Q (.ref a) { s with heap:=h',toks:=tk }:=by
 have e1:=Ew rfl a2 a3;subst e1;have rv:=uw a1;rw[Qxv] at rv;have hl:((fD zs).map λz=>V.str (strOf z)).length<=sizeLine:=by rw[Qqk,(gh zs).length_eq];exact Qqj (Qj0 hz) (by decide)
 exact⟨.ref a,_,I.laid (t':=tk) hk ha (show fX X.prog X.w _ h' a (.lst ((fD zs).map λz=>V.str (strOf z))) from⟨hl,out.toList,e,rv,by simpa[seqObj] using ho⟩),rfl,q a (I.hok.fresh ha)⟩
def JK(hc:X.calm=true):gQ X (.builtin "sorted") (Fv X.K):=by
 intro pins s σ H xs us Q I r h;obtain⟨p,zs,rfl,hq,hz,q⟩:=h;obtain⟨u,rfl,rx⟩:=vals1 r;cases rx;rcases hq with hq|⟨ks,hq,hks⟩
 ·obtain⟨its,r',pl,hzz⟩:=I.list hq;have hS:StrsAre its (zs.map strOf):=nT r';refine sorted_strs pl.isList hS (by rw[<-r'.length,Qqk];exact hz) λout ss' a1 a2 a3=>?_;obtain⟨e,he⟩:=sortedAll_at s.heap its out;exact zf (tk:=s.toks) I hz q a1 a2 a3 (λb o e=>sortedAll_old e) (Nat.le_succ _) he
 ·obtain⟨hz2,hsys,vs,rkv,hD⟩:=Pb I.hok hq;obtain⟨ep,hat⟩:=hD.dictAt;have hlen:vs.length=zs.length:=by
   have e1:=rkv.length;have e2:=Qz0 List.length hks;rw[Qqk,Qqk] at e2;omega
  refine Calls.call_function_entry kind_sorted plain_sorted entry_sorted (args_sorted1 _) ?_;unfold Builtin.«sorted»;refine Qqx (m:=checkCount "sorted" 1 1 _) (Qqw ?_);refine Qqx (PySem.W.kdu_collect (A:=X.A.in1) (PySem.W.kdl_dict (knd:=gO X.prog X.w) (kvs:=vs) (ep:=ep) hsys) (I.ok.hd hc) hat (by rw[hlen];exact Qqj (Qj0 hz) (by decide)) λh' tk acc hk hacc=>?_);have hl:acc.toList.length=vs.length:=by rw[Qz6];exact hacc.1
  have hS:StrsAre acc.toList (zs.map strOf):=by
   have keys:∀j:Nat,j<vs.length->∃v t,acc.toList[j]? = some v/\v=Value.str (strOf (zs.getD j [])) t:=λj hj=>by
    have hja:j<acc.size:=by rw[hacc.1];exact hj
    have e1:acc[j]? = some acc[j]:=by simp[hja]
    obtain⟨k,x,hx,hkx⟩:=hacc.2 j _ e1;have e2:(vs.map (·.1))[j]? = some k:=by rw[Qx2,hx];rfl
    rw[<-rkv.keys,hks,Qx2] at e2;obtain⟨z,hzj,rfl⟩:=Qw1.mp e2;rcases dZ (k:=Sum.inr (strOf z)) (v:=acc[j]) hkx with ⟨i,t,z1,_⟩|⟨y,t,z1,z2⟩
    ·cases z1
    ·cases z1;exact⟨_,t,by rw[Array.getElem?_toList];exact e1,by rw[z2,Qzj,hzj];rfl⟩
   have build:∀(us:List Value) (ys:List (List Nat)),us.length=ys.length->(∀j:Nat,j<us.length->∃v t,us[j]? = some v/\v=Value.str (strOf (ys.getD j [])) t)->StrsAre us (ys.map strOf):=λus=>by
    induction us with
    | nil=>intro ys hl _;cases ys with
     | nil=>exact .nil
     | cons _ _=>cases hl
    | cons u us ih=>intro ys hl hk;cases ys with
     | nil=>cases hl
     | cons y ys=>
      obtain⟨v,t,e1,e2⟩:=hk 0 (Nat.succ_pos _);cases e1;rw[e2];exact .cons _ t (ih ys (by simpa using hl) λj hj=>by
       obtain⟨v,t,e1,e2⟩:=hk (j+1) (by simpa using hj);exact⟨v,t,by simpa using e1,by simpa using e2⟩)
   exact build _ _ (by rw[hl,hlen]) λj hj=>keys j (by rw[<-hl];exact hj)
  refine Qqx (wpAny_newList ?_ (by rw[hl,hlen];exact Qqj (Qj0 hz) (by decide)));have hoL:(h'.push (seqObj "list" acc.toList.toArray 0)).get? h'.objs.size=some (seqObj "list" acc.toList.toArray 0):=Qq6 _ rfl;show wpAny _ _ _ _ _ { s with heap:=h'.push (seqObj "list" acc.toList.toArray 0),toks:=tk };refine Qqx (Qzz (Qz3 slot_list_sort ⟨_,hoL,rfl⟩ entry_list_sort (list_sort_treeK strKind_oneLt hoL hS.keysOf (λv₁ v₂ rest e=>keyKind_strs (by rw[<-e];exact hS)) (by rw[hl,hlen];exact hz) λst' b1 b2=>⟨_,rfl,?_⟩) (args_list_sort _)));obtain⟨ss',a1,a2,a3⟩:=sorted_out_str hS b1 b2;obtain⟨e,he⟩:=sortedHeap_at (out:=(arrOf st').map (·.2)) hoL;refine Qqw ⟨_,rfl,?_⟩;have I1:L2.Inv X pins σ H { s with heap:=h',toks:=tk }:=I.kept hk;refine zf (s:={ s with heap:=h',toks:=tk }) (tk:=tk) I1 hz q a1 a2 a3 (λb o e=>?_) (Qq2 _) he;have lt':=Qq9 e;rw[sortedHeap_old (Qwv lt') (by rw[size_push'];exact Qjk lt')];exact Qqz _ e
def iM:List D->Option D
 | [.lst ds]=>(fP ds).bind λzs=>if zs.length<64/\(∀z∈zs,z.length<=sizeLine) then some (.lst ((fD zs).map .str)) else none
 | [.dct kvs]=>(fP (kvs.map (·.1))).bind λzs=>if zs.length<64/\(∀z∈zs,z.length<=sizeLine) then some (.lst ((fD zs).map .str)) else none
 | _=>none
theorem dH.keys{K:Fg}{F:Hp}:∀{kvs:List (D×D)} {ks:List (Key×V)} {zs:List (List Nat)},dH K F kvs ks->fP (kvs.map (·.1))=some zs->ks.map (·.1)=zs.map λz=>Sum.inr (strOf z)
 | [],ks,zs,h,e=>by cases h;simp[fP] at e;subst e;rfl
 | (k,d)::kvs,ks,zs,h,e=>by
  obtain⟨q,v,r,rfl,h0,h1,h2⟩:=h;cases k with
  | str x=>
   cases h0;have e':(fP (kvs.map (·.1))).map (x :: ·)=some zs:=by simpa[fP] using e
   obtain⟨zs',e1,rfl⟩:=Qw1.mp e';rw[Qq7,Qq7,dH.keys h2 e1]
  | _=>simp[fP] at e
def zc{Pr F:Hp}{env:Env}{σ:L2.St}{H:Hp}{l:Addr}{zs:List (List Nat)}(r:Rel C Pr F env σ H)(hl:H l=none)(hz:zs.length<64/\∀z∈zs,z.length<=sizeLine) :
  jw C.K F (upd H l (.lst ((fD zs).map λz=>V.str (strOf z)))) (.lst ((fD zs).map .str)) l:=by
 refine⟨by rw[Qqk,(gh zs).length_eq];exact Qqj (Qj0 hz.1) (by decide),_,bu,uI _ λz h=>hz.2 z ((gh zs).mem_iff.mp h)⟩
def RC:CallD C (Fv C.K) iM:=by
 intro Pr F env σ H ds d vs Q r p e q;have fin:∀(zs:List (List Nat)) (l:Addr),(zs.length<64/\∀z∈zs,z.length<=sizeLine)->d = .lst ((fD zs).map .str)->H l=none->Q (.ref l) (upd H l (.lst ((fD zs).map λz=>V.str (strOf z)))):=λzs l hz hd hl=>by
  subst hd;obtain⟨F2,r2,s2,p2⟩:=(r.fresh (o:=.lst ((fD zs).map λz=>V.str (strOf z))) hl).keep (RZ.of r hl (zc r hl hz));exact q _ _ F2 r2 s2 p2
 unfold iM at e;split at e
 ·obtain⟨v,w,rfl,p1,p2⟩:=p;cases p2;obtain⟨zs,e1,e2⟩:=Qxw.mp e;split at e2
  ·rename_i hz;cases e2;obtain⟨z,a,ws,rfl,h1,h2⟩:=p1.lst r.fr;have e6:=lH e1 h2;subst e6;exact⟨a,zs,rfl,.inl (j8.of h1),hz.1,λl hl=>fin zs l hz rfl hl⟩
  ·cases e2
 ·obtain⟨v,w,rfl,p1,p2⟩:=p;cases p2;obtain⟨zs,e1,e2⟩:=Qxw.mp e;split at e2
  ·rename_i hz;cases e2;obtain⟨z,a,ks,rfl,h1,h2⟩:=p1.dct r.fr;exact⟨a,zs,rfl,.inr ⟨ks,h1,h2.keys e1⟩,hz.1,λl hl=>fin zs l hz rfl hl⟩
  ·cases e2
 ·cases e
def QF{p:Pos}{e:Expr}{a:di}(hK:X.K=C.K)(hc:X.calm=true)(hg:Gl X "sorted")(hm:X.mg "sorted" = none)(ha:aar X C [e] a)(he:BP e X.env:=by rfl)(hpl:(backTo pos (starEach [] X.env)).any (·.1)=false:=by rfl) :
  PX X C (.Call (.Name "sorted" p) [e] [] pos) (aB iM a):=
 lQ (X:=X) (r:=Fv C.K) (by rw[<-hK];exact JK hc) RC hg hm PyProof.Rows.boot_sorted ha (by decide) (by decide) he hpl
end
def Rel.pad{C:Cfg}{Pr F:Hp}{env:Env}{σ:L2.St}{H:Hp}(m:Nat)(r:Rel C Pr F env σ H):Rel C Pr F (env++List.replicate m none) (uM m σ) H:=by
 have un:∀(j:Nat) (x:Bool×D),(env++List.replicate m none)[j]? = some (some x)->env[j]? = some (some x):=λj x he=>by
  by_cases hj:j<env.length
  ·rwa [Qw7 hj] at he
  ·rw[Qx7 (by omega),Qz2] at he;split at he<;>cases he
 have up:∀(j:Nat) (v:V),σ[j]? = some (some v)->(uM m σ)[j]? = some (some v):=λj v h=>by
  unfold uM;rw[Qw7 (Qq5.mp h).1];exact h
 have dn:∀(j:Nat) (v:V),(uM m σ)[j]? = some (some v)->σ[j]? = some (some v):=λj v he=>by
  unfold uM at he;by_cases hj:j<σ.length
  ·rwa [Qw7 hj] at he
  ·rw[Qx7 (by omega),Qz2] at he;split at he<;>cases he
 refine⟨r.pr,r.fr,by unfold uM;rw[Qqq,Qqq,Qzx,Qzx,r.len],λj e he=>?_,λj e he=>?_,λj k e f b hj hk g1 g2=>r.apart j k e f b (un _ _ hj) (un _ _ hk) (dn _ _ g1) (dn _ _ g2),r.dj,λj a h=>up _ _ (r.fix j a h)⟩
 ·obtain⟨v,h1,h2⟩:=r.val j e (un _ _ he);exact⟨v,up _ _ h1,h2⟩
 ·obtain⟨a,h1,h2⟩:=r.own j e (un _ _ he);exact⟨a,up _ _ h1,h2⟩
def Rel.cut{C:Cfg}{Pr F:Hp}{env:Env}{σ σ0:L2.St}{H:Hp}(r:Rel C Pr F env σ H)(h:σ.take σ0.length=σ0)(fix:∀i a,C.fx i=some a->σ0[i]? = some (some (V.ref a))):Rel C Pr F (env.take σ0.length) σ0 H:=by
 have hl:σ0.length<=σ.length:=by have:=Qz0 List.length h;rw[Qx9] at this;omega
 have un:∀(j:Nat) (x:Bool×D),(env.take σ0.length)[j]? = some (some x)->env[j]? = some (some x)/\j<σ0.length:=λj x he=>by
  have hj:j<σ0.length:=by have:=(Qq5.mp he).1;rw[Qx9] at this;omega
  rw[Qz9 hj] at he;exact⟨he,hj⟩
 have dn:∀(j:Nat),j<σ0.length->σ[j]? = σ0[j]?:=λj hj=>by
  have:=Qz9 (l:=σ) hj;rw[h] at this;exact this.symm
 refine⟨r.pr,r.fr,by rw[Qx9,r.len];omega,λj e he=>?_,λj e he=>?_,λj k e f b hj hk g1 g2=>r.apart j k e f b (un _ _ hj).1 (un _ _ hk).1 (by rw[dn _ (un _ _ hj).2];exact g1) (by rw[dn _ (un _ _ hk).2];exact g2),r.dj,fix⟩
 ·obtain⟨e1,e2⟩:=un _ _ he;rw[<-dn j e2];exact r.val j e e1
 ·obtain⟨e1,e2⟩:=un _ _ he;rw[<-dn j e2];exact r.own j e e1
def G7(g:GV)(c:fM)(e:Ev):List D->Env->R (List D)
 | [],env=>.ok [] env
 | d::ds,env=>(match g d env with
  | none=>.stuck
  | some e1=>bindR (c e1) λb e2=>if b=true then bindR (e e2) λy e3=>bindR (G7 g c e ds e3) λys e4=>.ok (y::ys) e4 else G7 g c e ds e2)
def fj(lo n:Nat)(it:di)(g:GV)(c:fM)(e:Ev):Ev:=λenv=>bindR (it env) λds aH=>if aH.length=lo then bindR (G7 g c e ds (aH++List.replicate (n - lo) none)) λys dC=>(if ys.length<=sizeLine then .ok (.lst ys) (dC.take lo) else .stuck) else .stuck
def RV(X:Cx)(C:Cfg)(ifs:List Expr)(ev:fM):Prop:=PIf X ifs (tT C ev)
def cV:fM:=λenv=>.ok true env
def Uq{X:Cx}{C:Cfg}:RV X C [] cV:=λpins s σ H Q I h=>by
 obtain⟨Pr,F,env,env',b,r,e,q⟩:=h;cases e;exact Yu pins s σ H Q I (q H F r (aU.refl F))
def aa3{C:Cfg}{lo n:Nat}{it:di}{g:GV}{c:fM}{e:Ev}{σ:L2.St}{H:Hp}{Q:VK}(h:tN C (fj lo n it g c e) σ H Q):tLC n (tI C it) (tG C lo g) (tT C c) (tE C e) σ H Q:=by
 obtain⟨Pr,F,env,env',d,r,ev,q⟩:=h;obtain⟨ds,aH,e1,e2⟩:=aQ ev;split at e2
 ·rename_i hlo;obtain⟨ys,dC,e3,e4⟩:=aQ e2;split at e4
  ·rename_i hz;cases e4;refine⟨Pr,F,env,aH,ds,r,e1,λJ H1 F1 r1 s1 y1 a ha=>?_⟩;have hσ:σ.length=lo:=r1.len.symm.trans hlo;have hPa:Pr a=none:=r1.pr.free ha;refine⟨λi m σ' H'=>m=ds.length - i/\i<=ds.length/\∃F' Jx acc ws rest,Rel C (upd Pr a (.lst ws)) F' Jx σ' H'/\aU F1 F'/\cg C.K F' acc ws/\σ'.take lo=σ/\G7 g c e (ds.drop i) Jx = .ok rest dC/\acc++rest=ys,
    ⟨ds.length,rfl,Qzy _,F1,aH++List.replicate (n - lo) none,[],[],ys,?_,aU.refl _,rfl,?_,e3,rfl⟩,?_⟩
   ·rw[hσ];exact(r1.aside (o:=.lst []) ha).pad _
   ·unfold uM;rw[<-hσ,List.take_left]
   rintro i m σ' H' ⟨rfl,hi,F',Jx,acc,ws,rest,r',s',p',t',l',hacc⟩;have hFa:F' a=none:=by
    cases ez:F' a with
    | none=>rfl
    | some w=>have:=r'.dj a w ez;rw[bu] at this;cases this
   by_cases hl:i<ds.length
   ·have hd:ds[i]? = some ds[i]:=Qx5 hl;have hdr:ds.drop i=ds[i]::ds.drop (i+1):=List.drop_eq_getElem_cons hl;have yy:=y1 i H' (s'.trans r'.fr);refine .inr ⟨(yy.2 _ hd).1,λσ2 H2=>∃F' Jx acc ws rest,Rel C (upd Pr a (.lst ws)) F' Jx σ2 H2/\aU F1 F'/\cg C.K F' acc ws/\σ2.take lo=σ/\G7 g c e (ds.drop (i+1)) Jx = .ok rest dC/\acc++rest=ys,
     λσ2 H2 h2=>⟨ds.length - (i+1),by omega,rfl,hl,h2⟩,λx H2 hy=>?_⟩
    obtain⟨F2,r2,s2,p2⟩:=pD.item r' s' y1 hd hy;rw[hdr] at l';unfold G7 at l';cases eg:g ds[i] Jx with
    | none=>rw[eg] at l';cases l'
    | some e5=>
     rw[eg] at l';obtain⟨b,e6,c1,l2⟩:=aQ l';refine⟨_,F2,Jx,e5,ds[i],r2,p2,eg,λσ3 H3 F3 r3 s3 t3=>⟨_,F3,e5,e6,b,r3,c1,λH4 F4 r4 s4=>?_⟩⟩;have t3':σ3.take lo=σ:=t3.trans t';have s24:aU F' F4:=(s2.trans s3).trans s4;cases b with
     | false=>
      show if false=true then _ else _
      rw[if_neg Qxq];rw[if_neg Qxq] at l2;exact⟨F4,e6,acc,ws,rest,r4,s'.trans s24,cg.mono s24 _ _ p',t3',l2,hacc⟩
     | true=>
      show if true=true then _ else _
      rw[if_pos rfl];rw[if_pos rfl] at l2;obtain⟨y,e7,c2,l3⟩:=aQ l2;obtain⟨ys2,e8,c3,l4⟩:=aQ l3;cases l4;refine⟨_,F4,e6,e7,y,r4,c2,λv H5 F5 r5 s5 p5=>?_⟩;have hlen:acc.length+(ys2.length+1)=ys.length:=by rw[<-hacc,Qqq,Qq0]
      refine⟨ws,r5.pr _ _ bu,by rw[p'.length];omega,F5,e7,acc++[y],ws++[v],ys2,?_,s'.trans (s24.trans s5),(cg.mono (s24.trans s5) _ _ p').append (cg.one p5),t3',c3,by rw[Qwk];exact hacc⟩;have r6:=r5.turn (u:=.lst (ws++[v])) bu
      rwa [Xo] at r6
   ·have ei:i=ds.length:=by omega
    subst ei;rw[List.drop_length] at l';cases l';rw[Qxj] at hacc;subst hacc;refine .inl ⟨(y1 _ H' (s'.trans r'.fr)).1 (Qjy (Qq2 _)) rfl,?_⟩;have sP:aU Pr (upd Pr a (.lst ws)):=lN hPa;have r7:Rel C Pr F' (dC.take lo) σ H':=by
     have:=(r'.less sP).cut (σ0:=σ) (by rw[hσ];exact t') r1.fix
     rwa [hσ] at this
    refine q a H' F' r7 (s1.trans s') ⟨⟨hz,ws,r'.pr _ _ bu,p'⟩,hFa,hPa,λj e he hs=>?_⟩;have hj:j<σ.length:=(Qq5.mp hs).1;have he':dC[j]? = some (some (true,e)):=by rw[Qz9 (by rw[<-hσ];exact hj)] at he;exact he
    obtain⟨b,g1,_,_,g4⟩:=r'.own j e he';have:σ'[j]? = some (some (V.ref a)):=by rw[<-t',Qz9 (by rw[<-hσ];exact hj)] at hs;exact hs
    rw[this] at g1;cases g1;rw[bu] at g4;cases g4
  ·cases e4
 ·cases e2
section
variable{X:Cx}{C:Cfg}{pos:Pos}
def acj{elt tg iter:Expr}{ifs:List Expr}{scope:Scope}(N':List Str){it:di}{g:GV}{c:fM}{e:Ev}(lo:Nat)(ok:mD X scope N')(hc:X.calm=true)(hi:PXI X C tg iter it)
  (bg:∀X',jx X scope N' X'->PXG X' C lo tg g) (bc:∀X',jx X scope N' X'->RV X' C ifs c) (be:∀X',jx X scope N' X'->PX X' C elt e)
  (hs:∀x,foldedSetIterable iter X.env x=pure x:=by intro _;rfl):Xa X C (.ListComp elt [⟨tg,iter,ifs,0⟩] scope pos) (fj lo N'.length it g c e):=
 (afV ok hc hi bg bc be hs).imp λσ H Q h=>aa3 h
def QD{elt tg iter:Expr}{ifs:List Expr}{scope:Scope}(N':List Str){spos py:Pos}{it:di}{g:GV}{c:fM}{e:Ev}(lo:Nat){i:Nat}{y:Str}(ok:mD X scope N')(hc:X.calm=true)(hi:PXI X C tg iter it)
  (bg:∀X',jx X scope N' X'->PXG X' C lo tg g) (bc:∀X',jx X scope N' X'->RV X' C ifs c) (be:∀X',jx X scope N' X'->PX X' C elt e)
  (hN:X.N.Nodup) (hy:X.N[i]? = some y) (hx:Loc X.env.scope y) (hfx:C.fx i=none)
  (hsw:swapsWith (.ListComp elt [⟨tg,iter,ifs,0⟩] scope pos) (some (.Name y py)) spos.line X.env=pure true)
  (hf:X.fn y=true\/X.env.scope.names.lookup y=some .local:=by first|exact .inl rfl|exact .inr rfl|assumption)
  (hs:∀x,foldedSetIterable iter X.env x=pure x:=by intro _;rfl):WX X C (.Assign [.Name y py] (.ListComp elt [⟨tg,iter,ifs,0⟩] scope pos) spos) (eN i (fj lo N'.length it g c e)):=
 (Uy ok hc hi bg bc be hN hy hx hsw hf hs).imp λD σ H h=>by
  obtain⟨Pr,F,env,r,f⟩:=h;obtain⟨d,aH,e1,f1⟩:=cW f;have:tN C (fj lo N'.length it g c e) σ H λv H1=>Ag i v σ H1 D.nx:=⟨Pr,F,env,aH,d,r,e1,λv H1 F1 r1 s1 p1=>f1 _ H1 F1 (r1.Lf hfx p1) s1⟩;exact aa3 this
end
def pH(K:Fg)(n:Nat)(f:List D->Option D):Sp:=λvs H Q _=>∃(F:Hp) (ds:List D) (d:D),ds.length=n/\aU F H/\cg K F ds vs/\f ds=some d/\
 ∀v H' F',aU H H'->aU F' H'->aU F F'->(∀b o,F' b=some o->F b=some o\/H b=none)->Rep K F' d v->Q v H'
def spN(K:Fg)(n:Nat)(f:List D->Option D):Sp:=λvs H Q _=>∃(F:Hp) (ds:List D) (d:D),ds.length=n/\aU F H/\cg K F ds vs/\f ds=some d/\
 ∀a H' F',aU H H'->aU F' H'->aU F F'->(∀b o,F' b=some o->F b=some o\/H b=none)->jw K F' H' d a->F' a=none->H a=none->Q (.ref a) H'
def yw(K:Fg)(n:Nat)(f:List D->Option (D×D)):Sp:=λvs H Q _=>∃(F:Hp) (a:Addr) (r:List V) (x:D) (ds:List D) (d x':D),vs = .ref a::r/\ds.length+1=n/\aU F H/\F a=none/\jw K F H x a/\cg K F ds r/\f (x::ds)=some (d,x')/\
 ∀v H' F',(∀b o,b≠a->H b=some o->H' b=some o)->aU F' H'->aU F F'->(∀b o,F' b=some o->F b=some o\/H b=none)->jw K F' H' x' a->Rep K F' d v->Q v H'
def Rel.after{C:Cfg}{Pr F F':Hp}{env:Env}{σ:L2.St}{H H':Hp}(r:Rel C Pr F env σ H)(s:aU H H')(sF:aU F' H')(sF':aU F F')(nw:∀b o,F' b=some o->F b=some o\/H b=none):Rel C Pr F' env σ H':=by
 refine⟨r.pr.trans s,sF,r.len,λj e he=>?_,λj e he=>?_,r.apart,λb o e=>?_,r.fix⟩
 ·obtain⟨v,h1,h2⟩:=r.val j e he;exact⟨v,h1,Rep.mono sF' _ _ h2⟩
 ·obtain⟨a,h1,h2,h3,h4⟩:=r.own j e he;obtain⟨o,ho⟩:=h2.some;refine⟨a,h1,h2.mono sF' (by rw[ho,s _ _ ho]),?_,h4⟩;cases e:F' a with
  | none=>rfl
  | some u=>
   rcases nw a u e with z|z
   ·rw[h3] at z;cases z
   ·rw[ho] at z;cases z
 ·rcases nw b o e with z|z
  ·exact r.dj b o z
  ·exact r.pr.free z
def Rel.aah{C:Cfg}{Pr F F':Hp}{env:Env}{σ:L2.St}{H H':Hp}{i:Nat}{a:Addr}{d d':D}(r:Rel C Pr F env σ H)(h:env[i]? = some (some (true,d)))(hs:σ[i]? = some (some (V.ref a)))(s:∀b o,b≠a->H b=some o->H' b=some o)(sF:aU F' H')(sF':aU F F')(nw:∀b o,F' b=some o->F b=some o\/H b=none)(ho:jw C.K F' H' d' a):Rel C Pr F' (env.set i (some (true,d'))) σ H':=by
 obtain⟨a',h1,h2,h3,h4⟩:=r.own i d h;rw[hs] at h1;cases h1;have hi:i<env.length:=(Qq5.mp h).1;obtain⟨oa,hoa⟩:=h2.some;have ne:∀(j:Nat) (e:D) (b:Addr),j≠i->env[j]? = some (some (true,e))->σ[j]? = some (some (V.ref b))->b≠a:=λj e b hj he g z=>hj (r.apart j i e d a he h (by rw[<-z];exact g) hs);have nF:∀b u,F b=none->H b=some u->F' b=none:=λb u e1 e2=>by
  cases e:F' b with
  | none=>rfl
  | some w=>
   rcases nw b w e with z|z
   ·rw[e1] at z;cases z
   ·rw[e2] at z;cases z
 refine⟨λb w e=>?_,sF,by rw[Qw5];exact r.len,λj e he=>?_,λj e he=>?_,λj k e f b hj hk g1 g2=>?_,λb o e=>?_,r.fix⟩
 ·have hb:b≠a:=λz=>by rw[z,h4] at e;cases e
  exact s b w hb (r.pr b w e)
 ·by_cases hj:j=i
  ·subst hj;rw[Qwq hi] at he;cases he
  ·rw[Qq3 (Ne.symm hj)] at he;obtain⟨v,g1,g2⟩:=r.val j e he;exact⟨v,g1,Rep.mono sF' _ _ g2⟩
 ·by_cases hj:j=i
  ·subst hj;rw[Qwq hi] at he;cases he;exact⟨a,hs,ho,nF a oa h3 hoa,h4⟩
  ·rw[Qq3 (Ne.symm hj)] at he;obtain⟨b,g1,g2,g3,g4⟩:=r.own j e he;obtain⟨ob,hob⟩:=g2.some;exact⟨b,g1,g2.mono sF' (by rw[hob,s b ob (ne j e b hj he g1) hob]),nF b ob g3 hob,g4⟩
 ·have un:∀(j:Nat) (e:D),(env.set i (some (true,d')))[j]? = some (some (true,e))->∃e',env[j]? = some (some (true,e')):=λj e he=>by
   by_cases hj:j=i
   ·subst hj;exact⟨d,h⟩
   ·rw[Qq3 (Ne.symm hj)] at he;exact⟨e,he⟩
  obtain⟨e',hj'⟩:=un j e hj;obtain⟨f',hk'⟩:=un k f hk;exact r.apart j k e' f' b hj' hk' g1 g2
 ·rcases nw b o e with z|z
  ·exact r.dj b o z
  ·exact r.pr.free z
section
variable{X:Cx}{C:Cfg}{pos p:Pos}{k n:Nat}{f:Addr}{fd:FuncData}{ps:List Str}{x:Str}{e:Expr}{es:List Expr}
def Am{g:List D->Option D}{a:di}{env env':Env}{d:D}(h:aB g a env = .ok d env'):∃ds,a env = .ok ds env'/\g ds=some d:=by obtain⟨ds,aH,e1,e2⟩:=aQ h;obtain⟨e3,rfl⟩:=cF e2;exact⟨ds,e1,e3⟩
def aco{g:List D->Option D}{a:di}(G:mJ X.prog X.w X.K X.mg X.base Cu k f fd ps (pH C.K n g))(hr:gq k X.A)(hg:Gl X x)(hm:X.mg x=some (.ref f))(hk:PySem.W.keepIn X.K (.ref f)=true)(hb:Binds X.K fd ps [])
  (ha:PL X C (e::es) a) (hn:∀env ds env',a env = .ok ds env'->ds.length=n) (hdb:jy x:=by decide) (he:starEach (e::es) X.env=(false,eval e X.env)::starEach es X.env:=by rfl) (hpl:(backTo pos (starEach es X.env)).any (·.1)=false:=by rfl) :
  PX X C (.Call (.Name x p) (e::es) [] pos) (aB g a):=(Fy G hr hg hm hk hb .nil U6 ha hdb he hpl).imp λσ H Q hq=>by
 obtain⟨Pr,F,env,env',d,r,e,q⟩:=hq;obtain⟨ds,e1,e2⟩:=Am e;refine⟨Pr,F,env,env',ds,r,e1,λvs H1 F1 r1 s1 p1=>?_⟩;show pH C.K n g (vs++[]) H1 Q E0;rw[Qxj];exact⟨F1,ds,d,hn _ _ _ e1,r1.fr,p1,e2,λv H2 F2 t1 t2 t3 t4 p2=>q v H2 F2 (r1.after t1 t2 t3 t4) (s1.trans t3) p2⟩
def Ye{g:List D->Option D}{a:di}(G:mJ X.prog X.w X.K X.mg X.base Cu k f fd ps (spN C.K n g))(hr:gq k X.A)(hg:Gl X x)(hm:X.mg x=some (.ref f))(hk:PySem.W.keepIn X.K (.ref f)=true)(hb:Binds X.K fd ps [])
  (ha:PL X C (e::es) a) (hn:∀env ds env',a env = .ok ds env'->ds.length=n) (hdb:jy x:=by decide) (he:starEach (e::es) X.env=(false,eval e X.env)::starEach es X.env:=by rfl) (hpl:(backTo pos (starEach es X.env)).any (·.1)=false:=by rfl) :
  Xa X C (.Call (.Name x p) (e::es) [] pos) (aB g a):=(Fy G hr hg hm hk hb .nil U6 ha hdb he hpl).imp λσ H Q hq=>by
 obtain⟨Pr,F,env,env',d,r,e,q⟩:=hq;obtain⟨ds,e1,e2⟩:=Am e;refine⟨Pr,F,env,env',ds,r,e1,λvs H1 F1 r1 s1 p1=>?_⟩;show spN C.K n g (vs++[]) H1 Q E0;rw[Qxj];refine⟨F1,ds,d,hn _ _ _ e1,r1.fr,p1,e2,λb H2 F2 t1 t2 t3 t4 ho hF hH=>q b H2 F2 (r1.after t1 t2 t3 t4) (s1.trans t3) ⟨ho,hF,r1.pr.free hH,λj e he hs=>?_⟩⟩;obtain⟨c,h1,h2,_⟩:=r1.own j e he;rw[hs] at h1;cases h1;obtain⟨u,hu⟩:=h2.some;rw[hH] at hu;cases hu
def gB(f:List D->Option (D×D))(i:Nat)(a:di):Ev:=λenv=>match env[i]? with
 | some (some (true,_))=>bindR (a env) λds aH=>(match aH[i]? with
  | some (some (true,x))=>(match f (x::ds) with
   | some (d,x')=>.ok d (aH.set i (some (true,x')))
   | none=>.stuck)
  | _=>.stuck)
 | _=>.stuck
def afR{g:List D->Option (D×D)}{a:di}{i:Nat}{y:Str}{py:Pos}(hN:X.N[i]? = some y)(hv:ym X.env.scope y)(G:mJ X.prog X.w X.K X.mg X.base Cu k f fd ps (yw C.K n g))(hr:gq k X.A)(hg:Gl X x)(hm:X.mg x=some (.ref f))(hk:PySem.W.keepIn X.K (.ref f)=true)(hb:Binds X.K fd ps [])
  (ha:PL X C es a) (hn:∀env ds env',a env = .ok ds env'->ds.length+1=n) (hdb:jy x:=by decide) (he:starEach (.Name y py::es) X.env=(false,eval (.Name y py) X.env)::starEach es X.env:=by rfl) (hpl:(backTo pos (starEach es X.env)).any (·.1)=false:=by rfl)
  (hd:jy y:=by decide) (hcd:uq y:=by decide) :
  PX X C (.Call (.Name x p) (.Name y py::es) [] pos) (gB g i a):=(Fy G hr hg hm hk hb .nil U6 (dJ (jj hN hv hd hcd) ha he) hdb he hpl).imp λσ H Q hq=>by
 obtain⟨Pr,F,env,env',d,r,e,q⟩:=hq;unfold gB at e;split at e
 ·rename_i d0 h0;obtain⟨ds,aH,e1,e2⟩:=aQ e;split at e2
  ·rename_i z hz;split at e2
   ·rename_i d1 z' hg;cases e2;obtain⟨a0,hs0,_⟩:=r.own i _ h0;refine⟨_,hs0,Pr,F,env,aH,ds,r,e1,λvs H1 F1 r1 s1 p1=>?_⟩;obtain⟨a1,hs1,ho1,hF1,hP1⟩:=r1.own i _ hz;rw[hs0] at hs1;cases hs1;show yw C.K n g (_::vs++[]) H1 Q E0;rw[Qxj];exact⟨F1,a0,vs,z,ds,d,z',rfl,hn _ _ _ e1,r1.fr,hF1,ho1,p1,hg,λv H2 F2 t1 t2 t3 t4 t5 p2=>q v H2 F2 (r1.aah hz hs0 t1 t2 t3 t4 t5) (s1.trans t3) p2⟩
   ·cases e2
  ·cases e2
 ·cases e
end
def envOf(n:Nat)(ds:List D):Env:=ds.map (λd=>some (false,d))++List.replicate (n - ds.length) none
def Aq(n:Nat)(x:D)(ds:List D):Env:=some (true,x)::(ds.map (λd=>some (false,d))++List.replicate (n - (ds.length+1)) none)
def gV(n:Nat)(ev:cR)(ds:List D):Option D:=match ev (envOf n ds) with
 | .rt false d _=>some d
 | .nx _=>some .non
 | _=>none
def runN(n:Nat)(ev:cR)(ds:List D):Option D:=match ev (envOf n ds) with
 | .rt true d _=>some d
 | _=>none
def mL(n:Nat)(ev:cR)(ds:List D):Option (D×D):=match ds with
 | []=>none
 | x::r=>(match ev (Aq n x r) with
  | .rt false d env=>(match env[0]? with
   | some (some (true,x'))=>some (d,x')
   | _=>none)
  | .nx env=>(match env[0]? with
   | some (some (true,x'))=>some (.non,x')
   | _=>none)
  | _=>none)
def C0(K:Fg):Cfg:=⟨K,λ_=>none⟩
def C1(K:Fg)(a:Addr):Cfg:=⟨K,λi=>if i=0 then some a else none⟩
def Dm(H F:Hp):Hp:=λb=>if (F b).isSome then none else H b
def IK{H F:Hp}{b:Addr}{o:HO}(h:Dm H F b=some o):H b=some o/\F b=none:=by
 unfold Dm at h;split at h
 ·cases h
 ·rename_i z;exact⟨h,by cases e:F b with|none=>rfl|some w=>rw[e] at z;exact absurd rfl z⟩
def zR{H F:Hp}{b:Addr}(h:Dm H F b=none):H b=none\/∃o,F b=some o:=by
 unfold Dm at h;split at h
 ·rename_i z;exact .inr (Qzw.mp z)
 ·exact .inl h
def wI{K:Fg}{F H:Hp}{ds:List D}{vs:List V}{N:List Str}(s:aU F H)(p:cg K F ds vs):Rel (C0 K) (Dm H F) F (envOf N.length ds) (start N vs) H:=by
 have un:∀(j:Nat) (x:Bool×D),(envOf N.length ds)[j]? = some (some x)->∃d,x=(false,d)/\ds[j]? = some d:=λj x he=>by
  unfold envOf at he;by_cases hj:j<(ds.map λd=>some (false,d)).length
  ·rw[Qw7 hj,Qx2] at he;obtain⟨d,h1,h2⟩:=Qw1.mp he;cases h2;exact⟨d,rfl,h1⟩
  ·rw[Qx7 (by omega),Qz2] at he;split at he<;>cases he
 refine⟨λb o e=>(IK e).1,s,?_,λj d he=>?_,λj d he=>?_,λj k d e a hj hk=>?_,λb o e=>?_,λi a h=>by cases h⟩
 ·unfold envOf L2.start;rw[Qqq,Qqq,Qqk,Qqk,Qzx,Qzx,p.length]
 ·obtain⟨d',z,hd⟩:=un j _ he;cases z;obtain⟨v,h1,h2⟩:=p.get hd;refine⟨v,?_,h2⟩;unfold L2.start;rw[Qw7 (by rw[Qqk];exact(Qq5.mp h1).1),Qx2,h1]
  rfl
 ·obtain⟨d',z,_⟩:=un j _ he;cases z
 ·obtain⟨d',z,_⟩:=un j _ hj;cases z
 ·unfold Dm;rw[e];rfl
def aU.FQ{H F F' H':Hp}(s1:aU (Dm H F) H')(s2:aU F F')(s3:aU F' H')(sF:aU F H):aU H H':=λb o e=>by
 cases z:F b with
 | none=>exact s1 b o (by unfold Dm;rw[z];exact e)
 | some w=>
  have:=sF b w z;rw[e] at this;cases this;exact s3 b o (s2 b o z)
def Lr{H F F':Hp}(s2:aU F F')(dj:∀b o,F' b=some o->Dm H F b=none)(b:Addr)(o:HO)(h:F' b=some o):F b=some o\/H b=none:=by
 rcases zR (dj b o h) with z|⟨w,z⟩
 ·exact .inr z
 ·have:=s2 b w z;rw[h] at this;cases this;exact .inl z
section
variable{P:Program}{w:World}{K:Fg}{mg:Str->Option Value}{base:Heap}{x qual:Str}{st:Stmt}{f:Addr}{fd:FuncData}{N ps:List Str}{k:Nat}{ev:cR}
abbrev bx(P:Program)(w:World)(K:Fg)(mg:Str->Option Value)(base:Heap)(N:List Str)(qual:Str)(st:Stmt)(f:Addr)(cdv:Value)(A:Around)(outer:List PySem.Env)(s:Shared)(H:Hp)(E:XK):Cx:=(Gs Cu P w K mg base N qual (aO st) f cdv A outer s H E).wU
def Jz(F:R0 K x qual st f fd)(S:bH N ps (aO st))
  (hb:∀(cdv:Value) (A:Around) (outer:List PySem.Env) (s:Shared) (H:Hp) (E:XK),gq k (A.deeper (envOfC qual (aO st) s.heap.objs.size f cdv))->Bl (bx P w K mg base N qual st f cdv A outer s H E) (C0 K) (cL st) ev) :
  mJ P w K mg base Cu (k+1) f fd ps (pH K ps.length (gV N.length ev)):=by
 refine F.ok S (λvs H Q E h=>?_) (λcdv A outer s H vs Q E hr h=>?_)
 ·obtain⟨F0,ds,d,hl,_,p,_⟩:=h;rw[p.length,hl]
 ·obtain⟨F0,ds,d,hl,sF,p,e,q⟩:=h;refine⟨_,hb cdv A outer s H E hr,Dm H F0,F0,envOf N.length ds,wI sF p,?_⟩;unfold gV at e;split at e
  ·rename_i d' env' h1;cases e;rw[h1];exact λv σ' H' F' r' s' p'=>q v H' F' (aU.FQ r'.pr s' r'.fr sF) r'.fr s' (Lr s' r'.dj) p'
  ·rename_i env' h1;cases e;rw[h1];exact λσ' H' F' r' s'=>q .non H' F' (aU.FQ r'.pr s' r'.fr sF) r'.fr s' (Lr s' r'.dj) rfl
  ·cases e
def ZL(F:R0 K x qual st f fd)(S:bH N ps (aO st))
  (hb:∀(cdv:Value) (A:Around) (outer:List PySem.Env) (s:Shared) (H:Hp) (E:XK),gq k (A.deeper (envOfC qual (aO st) s.heap.objs.size f cdv))->Bl (bx P w K mg base N qual st f cdv A outer s H E) (C0 K) (cL st) ev) :
  mJ P w K mg base Cu (k+1) f fd ps (spN K ps.length (runN N.length ev)):=by
 refine F.ok S (λvs H Q E h=>?_) (λcdv A outer s H vs Q E hr h=>?_)
 ·obtain⟨F0,ds,d,hl,_,p,_⟩:=h;rw[p.length,hl]
 ·obtain⟨F0,ds,d,hl,sF,p,e,q⟩:=h;refine⟨_,hb cdv A outer s H E hr,Dm H F0,F0,envOf N.length ds,wI sF p,?_⟩;unfold runN at e;split at e
  ·rename_i d' env' h1;cases e;rw[h1];refine λa σ' H' F' r' s' n'=>q a H' F' (aU.FQ r'.pr s' r'.fr sF) r'.fr s' (Lr s' r'.dj) n'.own n'.nF ?_;rcases zR n'.nP with z|⟨u,z⟩
   ·exact z
   ·have:=s' a u z;rw[n'.nF] at this;cases this
  ·cases e
def HX{K:Fg}{F H:Hp}{y:D}{a:Addr}{ds:List D}{vs:List V}{N:List Str}(s:aU F H)(hF:F a=none)(ho:jw K F H y a)(p:cg K F ds vs):Rel (C1 K a) (λb=>if b=a then none else Dm H F b) F (Aq N.length y ds) (start N (.ref a::vs)) H:=by
 have un:∀(j:Nat) (x:Bool×D),(Aq N.length y ds)[j]? = some (some x)->(j=0/\x=(true,y))\/∃i d,j=i+1/\x=(false,d)/\ds[i]? = some d:=λj x he=>by
  unfold Aq at he;cases j with
  | zero=>cases he;exact .inl ⟨rfl,rfl⟩
  | succ i=>
   rw[List.getElem?_cons_succ] at he;by_cases hj:i<(ds.map λd=>some (false,d)).length
   ·rw[Qw7 hj,Qx2] at he;obtain⟨d,h1,h2⟩:=Qw1.mp he;cases h2;exact .inr ⟨i,d,rfl,rfl,h1⟩
   ·rw[Qx7 (by omega),Qz2] at he;split at he<;>cases he
 have z0:(start N (.ref a::vs))[0]? = some (some (V.ref a)):=rfl;refine⟨λb o e=>?_,s,?_,λj d he=>?_,λj d he=>?_,λj k d e b hj hk _ _=>?_,λb o e=>?_,λi b h=>?_⟩
 ·have e':(if b=a then none else Dm H F b)=some o:=e;split at e'
  ·cases e'
  ·exact(IK e').1
 ·unfold Aq L2.start;simp only[Qq0,Qqq,Qqk,Qzx,p.length,Qq7];omega
 ·rcases un j _ he with ⟨_,z⟩|⟨i,d',rfl,z,hd⟩
  ·cases z
  ·cases z;obtain⟨v,h1,h2⟩:=p.get hd;refine⟨v,?_,h2⟩;unfold L2.start;rw[Qq7,Qjq,List.getElem?_cons_succ,Qw7 (by rw[Qqk];exact(Qq5.mp h1).1),Qx2,h1]
   rfl
 ·rcases un j _ he with ⟨rfl,z⟩|⟨i,d',rfl,z,hd⟩
  ·cases z;exact⟨a,z0,ho,hF,if_pos rfl⟩
  ·cases z
 ·rcases un j _ hj with ⟨rfl,_⟩|⟨i,d',rfl,z,_⟩
  ·rcases un k _ hk with ⟨rfl,_⟩|⟨i,d',rfl,z,_⟩
   ·rfl
   ·cases z
  ·cases z
 ·show(if b=a then none else Dm H F b)=none;split
  ·rfl
  ·unfold Dm;rw[e];rfl
 ·have h':(if i=0 then some a else none)=some b:=h;split at h'
  ·rename_i hi;cases h';rw[hi];exact z0
  ·cases h'
def aej{y:Str}{qs:List Str}(F:R0 K x qual st f fd)(S:bH N (y::qs) (aO st))
  (hb:∀(cdv:Value) (A:Around) (outer:List PySem.Env) (s:Shared) (H:Hp) (E:XK) (a:Addr),gq k (A.deeper (envOfC qual (aO st) s.heap.objs.size f cdv))->Bl (bx P w K mg base N qual st f cdv A outer s H E) (C1 K a) (cL st) ev) :
  mJ P w K mg base Cu (k+1) f fd (y::qs) (yw K (qs.length+1) (mL N.length ev)):=by
 refine F.ok S (λvs H Q E h=>?_) (λcdv A outer s H vs Q E hr h=>?_)
 ·obtain⟨F0,a,r,z,ds,d,z',rfl,hl,_,_,_,p,_⟩:=h;rw[Qq0,Qq0,p.length];exact hl
 ·obtain⟨F0,a,r,z,ds,d,z',rfl,hl,sF,hFa,ho,p,e,q⟩:=h;refine⟨_,hb cdv A outer s H E a hr,_,F0,Aq N.length z ds,HX sF hFa ho p,?_⟩;have fin:∀(env':Env) (σ':L2.St) (H' F':Hp) (v:V) (d:D) (z':D),env'[0]? = some (some (true,z'))->Rel (C1 K a) (λb=>if b=a then none else Dm H F0 b) F' env' σ' H'->aU F0 F'->Rep K F' d v->(∀v H' F',(∀b o,b≠a->H b=some o->H' b=some o)->aU F' H'->aU F0 F'->(∀b o,F' b=some o->F0 b=some o\/H b=none)->jw K F' H' z' a->Rep K F' d v->Q v H')->Q v H':=λenv' σ' H' F' v d z' h0 r' s' p' q=>by
   obtain⟨b,g1,g2,g3,g4⟩:=r'.own 0 z' h0;have g5:=r'.fix 0 a rfl;rw[g1] at g5;cases g5;refine q v H' F' (λc o hc e=>?_) r'.fr s' (λc o e=>?_) g2 p'
   ·cases u:F0 c with
    | none=>exact r'.pr c o (by show(if c=a then none else Dm H F0 c)=some o;rw[if_neg hc];unfold Dm;rw[u];exact e)
    | some w=>
     have:=sF c w u;rw[e] at this;cases this;exact r'.fr c o (s' c o u)
   ·by_cases hc:c=a
    ·subst hc;rw[g3] at e;cases e
    ·have h1:=r'.dj c o e;have h1':(if c=a then none else Dm H F0 c)=none:=h1;rw[if_neg hc] at h1';rcases zR h1' with u|⟨w,u⟩
     ·exact .inr u
     ·have:=s' c w u;rw[e] at this;cases this;exact .inl u
  unfold mL at e;simp only at e;split at e
  ·rename_i d' env' h1;split at e
   ·rename_i z1 h0;cases e;rw[h1];exact λv σ' H' F' r' s' p'=>fin env' σ' H' F' v _ _ h0 r' s' p' q
   ·cases e
  ·rename_i env' h1;split at e
   ·rename_i z1 h0;cases e;rw[h1];exact λσ' H' F' r' s'=>fin env' σ' H' F' .non .non _ h0 r' s' rfl q
   ·cases e
  ·cases e
end
structure Good(X:Cx)(C:Cfg):Prop where
 K:X.K=C.K
 calm:X.calm=true
 un:X.A.units+64<cLine
def Good.u1{X:Cx}{C:Cfg}(G:Good X C):X.A.units+1<cLine:=Qx6 (Nat.add_le_add_left (by decide:1<=64) _) G.un
def Good.u60{X:Cx}{C:Cfg}(G:Good X C):X.A.units+60<cLine:=Qx6 (Nat.add_le_add_left (by decide:60<=64) _) G.un
def Good.u61{X:Cx}{C:Cfg}(G:Good X C):X.A.units+61<cLine:=Qx6 (Nat.add_le_add_left (by decide:61<=64) _) G.un
def Good.at{X X':Cx}{C:Cfg}{scope:Scope}{N':List Str}(G:Good X C)(h:jx X scope N' X'):Good X' C:=by obtain⟨_,_,_,_,_,rfl⟩:=h;exact⟨G.K,G.calm,G.un⟩
def Own(P:Program)(w:World)(K:Fg)(mg:Str->Option Value)(base:Heap)(x:Str)(k:Nat)(ps:List Str)(sp:Sp):Prop:=
 ∃f fd,mJ P w K mg base Cu k f fd ps sp/\mg x=some (.ref f)/\PySem.W.keepIn K (.ref f)=true/\Binds K fd ps []
def Glb(K:Fg)(mg:Str->Option Value)(x:Str)(d:D):Prop:=∃v u,mg x=some u/\RelV v u/\∀F,Rep K F d v
def cX(K:Fg)(mg:Str->Option Value)(x:Str)(st:Stmt)(ps:List Str):Prop:=∃f fd,R0 K x x st f fd/\mg x=some (.ref f)/\Binds K fd ps []
def jk:List Str->Bool
 | []=>true
 | x::r=>!(r.contains x)&&jk r
theorem fQ:∀{l:List Str},jk l=true->l.Nodup
 | [],_=>.nil
 | x::r,h=>by
  have h':(!(r.contains x)&&jk r)=true:=h;rw[Qwj] at h';refine Qj3.mpr ⟨λhm=>?_,fQ h'.2⟩;have:r.contains x=true:=List.contains_iff_mem.mpr hm;rw[this] at h';exact absurd h'.1 (by decide)
def O2(outer:List (Str×NameKind)):List (Str×NameKind)->Bool
 | []=>true
 | (n,k)::r=>(!decide (k = .free)||decide (outer.lookup n=some .cell)||decide (outer.lookup n=some .free))&&O2 outer r
theorem Jq{outer:List (Str×NameKind)}:∀{l:List (Str×NameKind)},O2 outer l=true->∀x∈l,x.2 = .free->outer.lookup x.1=some .cell\/outer.lookup x.1=some .free
 | [],_,x,hx,_=>by simp at hx
 | (n,k)::r,h,x,hx,hf=>by
  have h':((!decide (k = .free)||decide (outer.lookup n=some .cell)||decide (outer.lookup n=some .free))&&O2 outer r)=true:=h;rw[Qwj,Qxk,Qxk] at h';rcases Qq1.mp hx with rfl|hx
  ·rcases h'.1 with (z|z)|z
   ·have hf':k = .free:=hf;rw[Qw8 hf'] at z;exact absurd z (by decide)
   ·exact .inl (Qw3 z)
   ·exact .inr (Qw3 z)
  ·exact Jq h'.2 x hx hf
def dG{X:Cx}{scope:Scope}{N':List Str}(h1:scope.kind = .function:=by rfl)(h2:jk (scope.names.map (·.1))=true:=by rfl)(h3:O2 X.env.scope.names scope.names=true:=by rfl)(h4:Wn scope.names N' X.N=true:=by rfl)(h5:Nat.ble X.N.length N'.length=true:=by rfl):mD X scope N':=
 ⟨h1,fQ h2,Jq h3,h4,Qjw h5⟩
section
variable{X:Cx}{C:Cfg}{pos p px:Pos}{x y z:Expr}{a b c:Ev}{t u:fM}{i:Nat}{n:Str}
structure Bi(X:Cx)(C:Cfg)(op:Operator)(g:D->D->Option D):Prop where
 ex:∃r,mG X (binaryOp op) r/\pW C r g
structure Cm(X:Cx)(C:Cfg)(op:CmpOp)(g:D->D->Option D):Prop where
 ex:∃r,mG X (compareOp op) r/\pW C r g
def aY(G:Good X C):Bi X C .Add aP:=⟨_,YK,by rw[G.K];exact adv⟩
def WD:Bi X C .Sub Af:=⟨_,acY,adh⟩
def Pz:Bi X C .Mult n8:=⟨_,YH,adm⟩
def abo:Bi X C .Mod Rr:=⟨_,ac3,adn⟩
def abn:Bi X C .Pow Mh:=⟨_,ac1,adl⟩
def agQ:Bi X C .LShift Rq:=⟨_,ac0,adk⟩
def abm:Bi X C .RShift Gi:=⟨_,acZ,adi⟩
def abq:Bi X C .BitAnd Jp:=⟨_,ada,adu⟩
def nM(G:Good X C):Cm X C .Eq kJ:=⟨_,ac9 G.u60,by rw[G.K];exact af3⟩
def GC(G:Good X C):Cm X C .NotEq Bp:=⟨_,ac2 G.u60,by rw[G.K];exact afZ⟩
def GF(G:Good X C):Cm X C .In Rv:=⟨_,ac8 G.u61,by rw[G.K];exact af2⟩
def Gz(G:Good X C):Cm X C .NotIn o8:=⟨_,QW G.u61,by rw[G.K];exact Vd⟩
def aeu:Cm X C .Is gIs:=⟨_,ac6,af1⟩
def Pq:Cm X C .IsNot Ai:=⟨_,QZ,Vf⟩
def aiF:Cm X C .Lt gLt:=⟨_,ac4,af0⟩
variable{e:Expr}{es:List Expr}{ea:di}
def len0:∀(env:Env) (ds:List D) (env':Env),ak env = .ok ds env'->ds.length=0:=Rx
def bU{a:Ev}{r:di}{m:Nat}(hr:∀env ds env',r env = .ok ds env'->ds.length=m):∀(env:Env) (ds:List D) (env':Env),aa a r env = .ok ds env'->ds.length=m+1:=Ml hr
def jA{r:di}{m:Nat}(hr:∀env ds env',r env = .ok ds env'->ds.length=m):∀(env:Env) (ds:List D) (env':Env),r env = .ok ds env'->ds.length+1=m+1:=λenv ds env' h=>by rw[hr env ds env' h]
def ah3{elt tg iter:Expr}{ifs:List Expr}{scope:Scope}(N':List Str){it:di}{g:GV}{cc:fM}{ee:Ev}(lo:Nat)(ok:mD X scope N')(G:Good X C)(hi:PXI X C tg iter it)
  (bg:∀X',jx X scope N' X'->PXG X' C lo tg g) (bc:∀X',jx X scope N' X'->RV X' C ifs cc) (be:∀X',jx X scope N' X'->PX X' C elt ee)
  (hs:∀x,foldedSetIterable iter X.env x=pure x:=by intro _;rfl):Xa X C (.ListComp elt [⟨tg,iter,ifs,0⟩] scope pos) (fj lo N'.length it g cc ee):=acj N' lo ok G.calm hi bg bc be hs
def ahT{elt tg iter:Expr}{ifs:List Expr}{scope:Scope}(N':List Str){spos py:Pos}{it:di}{g:GV}{cc:fM}{ee:Ev}(lo:Nat)(i:Nat)(ok:mD X scope N')(G:Good X C)(hi:PXI X C tg iter it)
  (bg:∀X',jx X scope N' X'->PXG X' C lo tg g) (bc:∀X',jx X scope N' X'->RV X' C ifs cc) (be:∀X',jx X scope N' X'->PX X' C elt ee)
  (hnd:jk X.N=true:=by rfl) (hfx:C.fx i=none:=by rfl) (hy:X.N[i]? = some n:=by rfl) (hx:Loc X.env.scope n:=by first|exact Or.inl rfl|exact Or.inr rfl)
  (hsw:swapsWith (.ListComp elt [⟨tg,iter,ifs,0⟩] scope pos) (some (.Name n py)) spos.line X.env=pure true:=by rfl)
  (hf:X.fn n=true\/X.env.scope.names.lookup n=some .local:=by first|exact .inl rfl|exact .inr rfl)
  (hs:∀x,foldedSetIterable iter X.env x=pure x:=by intro _;rfl):WX X C (.Assign [.Name n py] (.ListComp elt [⟨tg,iter,ifs,0⟩] scope pos) spos) (eN i (fj lo N'.length it g cc ee)):=QD N' lo ok G.calm hi bg bc be (fQ hnd) hy hx hfx hsw hf hs
end
section
variable{P:Program}{w:World}{K:Fg}{mg:Str->Option Value}{base:Heap}{x:Str}{st:Stmt}{N ps:List Str}{k:Nat}{ev:cR}
def uZ{x:Str}{f:Addr}{cdv:Value}{A:Around}{outer:List PySem.Env}{s:Shared}{H:Hp}{E:XK}{C:Cfg}(hC:C.K=K)(hr:gq k (A.deeper (envOfC x (aO st) s.heap.objs.size f cdv))):Good (bx P w K mg base N x st f cdv A outer s H E) C:=⟨hC.symm,rfl,hr.units⟩
def cC(F:cX K mg x st ps)(S:bH N ps (aO st))
  (hb:∀(f:Addr) (cdv:Value) (A:Around) (outer:List PySem.Env) (s:Shared) (H:Hp) (E:XK),gq k (A.deeper (envOfC x (aO st) s.heap.objs.size f cdv))->Good (bx P w K mg base N x st f cdv A outer s H E) (C0 K)->Bl (bx P w K mg base N x st f cdv A outer s H E) (C0 K) (cL st) ev) :
  Own P w K mg base x (k+1) ps (pH K ps.length (gV N.length ev)):=by
 obtain⟨f,fd,h1,h2,h3⟩:=F;exact⟨f,fd,Jz h1 S λcdv A outer s H E hr=>hb f cdv A outer s H E hr (uZ rfl hr),h2,h1.kp,h3⟩
def YD(F:cX K mg x st ps)(S:bH N ps (aO st))
  (hb:∀(f:Addr) (cdv:Value) (A:Around) (outer:List PySem.Env) (s:Shared) (H:Hp) (E:XK),gq k (A.deeper (envOfC x (aO st) s.heap.objs.size f cdv))->Good (bx P w K mg base N x st f cdv A outer s H E) (C0 K)->Bl (bx P w K mg base N x st f cdv A outer s H E) (C0 K) (cL st) ev) :
  Own P w K mg base x (k+1) ps (spN K ps.length (runN N.length ev)):=by
 obtain⟨f,fd,h1,h2,h3⟩:=F;exact⟨f,fd,ZL h1 S λcdv A outer s H E hr=>hb f cdv A outer s H E hr (uZ rfl hr),h2,h1.kp,h3⟩
def wO{y:Str}{qs:List Str}(F:cX K mg x st (y::qs))(S:bH N (y::qs) (aO st))
  (hb:∀(f:Addr) (cdv:Value) (A:Around) (outer:List PySem.Env) (s:Shared) (H:Hp) (E:XK) (a:Addr),gq k (A.deeper (envOfC x (aO st) s.heap.objs.size f cdv))->Good (bx P w K mg base N x st f cdv A outer s H E) (C1 K a)->Bl (bx P w K mg base N x st f cdv A outer s H E) (C1 K a) (cL st) ev) :
  Own P w K mg base x (k+1) (y::qs) (yw K (qs.length+1) (mL N.length ev)):=by
 obtain⟨f,fd,h1,h2,h3⟩:=F;exact⟨f,fd,aej h1 S λcdv A outer s H E a hr=>hb f cdv A outer s H E a hr (uZ rfl hr),h2,h1.kp,h3⟩
def gR{sc:Scope}(h1:sc.kind = .function:=by rfl)(h2:sc.isCoroutine=false:=by rfl)(h3:sc.isGenerator=false:=by rfl)(h4:jk N=true:=by rfl)(h5:N.take ps.length=ps:=by rfl)
  (h6:(ps.all λx=>decide (sc.names.lookup x=some .local)||decide (sc.names.lookup x=some .cell))=true:=by rfl) (h7:(sc.names.all λy=>!decide (y.2 = .free))=true:=by rfl):bH N ps sc:=by
 refine⟨h1,h2,h3,fQ h4,h5,λx hx=>?_,λy hy z=>?_⟩
 ·have:=Qq8.mp h6 x hx;rw[Qxk] at this;rcases this with z|z
  ·exact .inl (Qw3 z)
  ·exact .inr (Qw3 z)
 ·have:=Qq8.mp h7 y hy;rw[Qw8 z] at this;exact absurd this (by decide)
end
open PySem PySem.Spec PySem.W PySem.Calls PyProof.Rows L2
theorem xB:∀(ns:List Int) (i:Int),i∈ns->Builtin.Int.intBits i<=WData.weightAll (ns.map WData.int)
 | [],_,h=>by simp at h
 | n::ns,i,h=>by
  rw[Qq7,WData.weightAll];rcases Qq1.mp h with rfl|h
  ·have e:WData.weight (.int i)=Builtin.Int.intBits i:=by rw[WData.weight];rfl
   rw[e];omega
  ·have:=xB ns i h;omega
def M6(ns:List Int):Prop:=∀i∈ns,Builtin.Int.intBits i<=2^20
def GR{l:OpenLaw}{n:Nat}{q:Program}{loose:List Str}{XP:(Str->Option Value)->Heap->Prop}{YP:World->Heap->Prop}{d:DefRec}
  (hn:l.most=some n) (hdf:d.params.defaults=[])
  (call:∀(w:World) (s₀ s₁:Shared) (mg mb:Str->Option Value) (fa:Addr) (o:Obj) (pm cd doc:Value) (a:Addr) (vs:List Value) (ns:List Int),
   Ground q loose [] XP w s₀ mg mb s₁.heap->YP w s₁.heap->
   s₁.heap.get? fa=some o->o.data = .func (docDef d.name d.params d.body d.scope pm cd doc)->s₁.heap.CodeRec cd d.name->mg d.name=some (.ref fa)->
   s₁.heap.get? a=some { cls:=.type "list",data:=.seq vs.toArray }->IntsAre vs ns->ns.length<=n->M6 ns->s₁.gens = #[]->
   codeAny (model l.prog w) callerA (.call (.ref fa) ⟨[.ref a],[]⟩) (λr s'=>r = .ok (.ret (.bool true))/\OldK s₁.heap s'.heap/\s'.os=s₁.os/\AllBare s'.gens) s₁) :
  WalkO q loose XP YP l.row.toRowW d [] (λf vs=>PySem.call f vs):=by
 intro w s₀ s₁ mg mb G Y fa o pm cd doc dV kV ho hd hcd hD hmg hg args vals as hpre hlay hrd hwl hlo;obtain rfl:dV = .none:=Dflts.none hD hdf;obtain rfl:kV = .none:=Dflts.noKw hD;obtain⟨a,vs,ns,rfl,rfl,hobj,hints,hlen⟩:=Att.Qw hn hpre hwl;have Oo:M6 ns:=λi hi=>by
  have h1:=(layableW_iff.mp (layableW_arg hlay _ (Qww.mpr rfl))).2.2;rw[WData.weight] at h1;exact Qqj (xB ns i hi) h1
 refine enter_call (Qkj (call w s₀ s₁ mg mb fa o pm cd doc a vs ns G Y ho (fd_plain hd) hcd hmg hobj hints hlen Oo hg) λr s' hq=>?_);obtain⟨rfl,h2,h3,h4⟩:=hq;exact⟨.inl ⟨.bool true,.bool true,[],rfl,λ_=>rfl,.bool true,Att.QK l _,λ_=>⟨List.Pairwise.nil,λ_ hm=>(nomatch hm)⟩⟩,h2,h3,h4⟩
theorem ae9{l:PySem.W.OpenLaw}{n k:Nat}{q:Program}{loose:List Str}{XP:(Str->Option Value)->Heap->Prop}{YP:World->Heap->Prop}{d:DefRec}{K:Params->PySem.W.Frag}{x:Str}{f:List D->Option D}
  (hn:l.most=some n) (hn2:n<=sizeLine) (hdf:d.params.defaults=[]) (hr:gq k callerA)
  (hY:∀(w:World) (h:Heap),YP w h->(K w.params).In h)
  (hf:∀ns:List Int,ns.length<=n->M6 ns->f [.arr (ns.map .int)]=some (.bl true))
  (F:∀(w:World) (mg:Str->Option Value) (fa:Addr) (h:Heap),(K w.params).In h->h.Ns mainGlobals mg->mg d.name=some (.ref fa)->
   ∃fd:FuncData,(∀(s:Shared) (u:Value),BindsTo s fd ⟨[u],[]⟩ [(x,u)])/\
    ∀base:Heap,(K w.params).In base->base.Ns mainGlobals mg->mJ l.prog w (K w.params) mg base Cu k fa fd [x] (pH (K w.params) 1 f)) :
  PySem.W.WalkO q loose XP YP l.row.toRowW d [] (λf vs=>PySem.call f vs):=by
 refine GR hn hdf λw s₀ s₁ mg mb fa o pm cd doc a vs ns G Y ho hd hcd hmg hobj hints hlen Oo hg=>?_;have KX:=hY w _ Y;obtain⟨fd,hb,hF⟩:=F w mg fa _ KX G.T.g hmg;refine Vv KX G.T.g G.T.b G.T.builtins G.T.nolimit hg hobj hints (Qqj hlen hn2) hr hF hb (λH hO hS=>?_) λH e s' z=>z;refine⟨H,[.arr (ns.map .int)],.bl true,rfl,aU.refl H,⟨_,_,rfl,⟨by rw[Qqk];exact Qqj hlen hn2,a,_,rfl,hS,?_⟩,rfl⟩,hf ns hlen Oo,λv H' F' _ _ _ _ p=>p⟩;clear hints hlen Oo hS
 induction ns with
 | nil=>exact rfl
 | cons m ns ih=>exact⟨_,_,rfl,rfl,ih⟩
section
variable{K:Fg}{h:Heap}{mg:Str->Option Value}
def funAt{x:Str}{st:Stmt}{ps:List Str}{f:Addr}{oc:Value}{od an:Option Addr}{osl:Array (Option Value)}{kV doc pm cdv ct:Value}(X:K.In h)(G:h.Ns mainGlobals mg)
  (a:PySem.W.nsIn K mainGlobals x=some (some (.ref f))) (l:K.lookup f=some ⟨oc,od,.func (PySem.W.fnOf x x (fL st) (cL st) (aO st) .none kV doc pm an cdv ct),osl⟩)
  (c:PySem.W.codeIn K cdv x=true) (k:PySem.W.keepIn K (.ref f)=true)
  (b:∀(kV doc pm:Value) (an:Option Addr) (cdv ct:Value) (us:List Value),us.length=ps.length->bindArgs (PySem.W.fnOf x x (fL st) (cL st) (aO st) .none kV doc pm an cdv ct) ⟨us,[]⟩=pure (ps.zip us)):cX K mg x st ps:=
 ⟨f,_,Gn l c k,Qkk X G a,(Gn (st:=st) l c k).binds b⟩
def Gh{x s:Str}{z:List Nat}{t:Tok}(X:K.In h)(G:h.Ns mainGlobals mg)(a:PySem.W.nsIn K mainGlobals x=some (some (.str s t)))(hs:s=strOf z)(hz:z.length<=sizeLine):Glb K mg x (.str z):=
 ⟨.str s,_,Qkk X G a,⟨t,rfl⟩,λF=>⟨by rw[hs],hz⟩⟩
inductive Cst (K:Fg):D->V->Value->Prop where
 | str {s:Str} {z:List Nat} {t:Tok} (hs:s=strOf z) (hz:z.length<=sizeLine):Cst K (.str z) (.str s) (.str s t)
 | int {i:Int} {t:Tok}:Cst K (.int i) (.int i) (.int i t)
def Cst.rel{d:D}{v:V}{u:Value}(c:Cst K d v u):RelV v u:=by cases c<;>exact⟨_,rfl⟩
def Cst.rep{d:D}{v:V}{u:Value}(c:Cst K d v u)(F:Hp):Rep K F d v:=by
 cases c with
 | str hs hz=>exact⟨by rw[hs],hz⟩
 | int=>exact rfl
def V2{x:Str}{a:Addr}{n:Nat}{sl:Array (Option Value)}{u1 u2:Value}{d1 d2:D}{v1 v2:V}(X:K.In h)(G:h.Ns mainGlobals mg)(e:PySem.W.nsIn K mainGlobals x=some (some (.ref a)))
  (l:K.lookup a=some ⟨.type "tuple",none,.seq #[u1,u2] n,sl⟩) (c1:Cst K d1 v1 u1) (c2:Cst K d2 v2 u2):Glb K mg x (.tup [d1,d2]):=
 ⟨.ref a,_,Qkk X G e,rfl,λF=>⟨by show 2<=sizeLine;decide,a,[v1,v2],rfl,.inr ⟨_,_,_,l,rfl,rfl,rfl,by show 2<=sizeLine;decide,.cons c1.rel (.cons c2.rel .nil)⟩,_,_,rfl,c1.rep F,_,_,rfl,c2.rep F,rfl⟩⟩
theorem tW{x:Str}(X:K.In h)(G:h.Ns mainGlobals mg)(e:PySem.W.nsIn K mainGlobals x=some none):mg x=none:=PySem.W.mg_none_of X G e
end
open PySem L2
theorem Aj{g:GV}{b:cR}(P:Env->Prop):∀(ds:List D),(∀d∈ds,∀env,P env->∃e1 e2,g d env=some e1/\b e1 = .nx e2/\P e2)->∀env,P env->∃e',j4 g b ds env = .nx e'/\P e'
 | [],_,env,hp=>⟨env,rfl,hp⟩
 | d::ds,h,env,hp=>by
  obtain⟨e1,e2,h1,h2,h3⟩:=h d (Qqv ..) env hp;obtain⟨e',h4,h5⟩:=Aj P ds (λd' hd=>h d' (Qqy _ hd)) e2 h3;refine⟨e',?_,h5⟩;unfold j4;rw[h1];simp only;rw[h2];exact h4
theorem O3{g:GV}{b:cR}{all:List D}(P:List D->Env->Prop)(h:∀done d rest,all=done++d::rest->∀env,P done env->∃e1 e2,g d env=some e1/\b e1 = .nx e2/\P (done++[d]) e2):∀(ds done:List D),all=done++ds->∀env,P done env->∃e',j4 g b ds env = .nx e'/\P all e'
 | [],done,ha,env,hp=>⟨env,rfl,by rw[ha,Qxj];exact hp⟩
 | d::ds,done,ha,env,hp=>by
  obtain⟨e1,e2,h1,h2,h3⟩:=h done d ds ha env hp;obtain⟨e',h4,h5⟩:=O3 P h ds (done++[d]) (by rw[Qwk];exact ha) e2 h3;refine⟨e',?_,h5⟩;unfold j4;rw[h1];simp only;rw[h2];exact h4
def Dz{g:GV}{b:cR}(all:List D)(P:List D->Env->Prop)(h:∀done d rest,all=done++d::rest->∀env,P done env->∃e1 e2,g d env=some e1/\b e1 = .nx e2/\P (done++[d]) e2)(env:Env)(h0:P [] env):∃e',j4 g b all env = .nx e'/\P all e':=O3 P h all [] rfl env h0
def aD{a b:cR}{env e:Env}(h:a env = .nx e):aL a b env=b e:=by unfold aL;rw[h]
def iG{a b:cR}{env e:Env}{o:Bool}{d:D}(h:a env = .rt o d e):aL a b env = .rt o d e:=by unfold aL;rw[h]
def fC{it:di}{g:GV}{b:cR}{env e:Env}{ds:List D}(h:it env = .ok ds e):gA it g b env=j4 g b ds e:=by unfold gA;rw[h];rfl
def bZ{a:Ev}{g:GV}{env e e':Env}{d:D}(h:a env = .ok d e)(h':g d e=some e'):bA a g env = .nx e':=by unfold bA;rw[h];show aa2 (g d e)=_;rw[h'];rfl
def lM{t:fM}{a b:cR}{env e:Env}(h:t env = .ok true e):gw t a b env=a e:=by unfold gw;rw[h];rfl
def eO{t:fM}{a b:cR}{env e:Env}(h:t env = .ok false e):gw t a b env=b e:=by unfold gw;rw[h];rfl
def cB{a:Ev}{env e:Env}{d:D}(h:a env = .ok d e):bW a env = .rt false d e:=by unfold bW;rw[h];rfl
def aN{g:List D->Option D}{a:di}{env e:Env}{ds:List D}{d:D}(h:a env = .ok ds e)(h':g ds=some d):aB g a env = .ok d e:=by unfold aB;rw[h];show fJ (g ds) e=_;rw[h'];rfl
def aM{g:D->D->Option D}{a b:Ev}{env e1 e2:Env}{x y d:D}(h1:a env = .ok x e1)(h2:b e1 = .ok y e2)(h3:g x y=some d):az g a b env = .ok d e2:=by
 unfold az;rw[h1];show bindR (b e1) _=_;rw[h2];show fJ (g x y) e2=_;rw[h3]
 rfl
def jc{g:D->D->Option D}{i:Nat}{b:Ev}{env e2:Env}{x y d:D}{o o':Bool}{x0:D}(h1:env[i]? = some (some (o',x0)))(h2:b env = .ok y e2)(h4:e2[i]? = some (some (o,x)))(h3:g x y=some d):aA g i b env = .ok d e2:=by
 unfold aA;rw[h1];show bindR (b env) _=_;rw[h2];show(match e2[i]? with|some (some (_,x))=>fJ (g x y) e2|_=>.stuck)=_;rw[h4];show fJ (g x y) e2=_;rw[h3]
 rfl
def aJ{a:Ev}{r:di}{env e1 e2:Env}{d:D}{ds:List D}(h1:a env = .ok d e1)(h2:r e1 = .ok ds e2):aa a r env = .ok (d::ds) e2:=by
 unfold aa;rw[h1];show bindR (r e1) _=_;rw[h2]
 rfl
def bQ{env:Env}:ak env = .ok [] env:=rfl
def qU{r:di}{env e:Env}{ds:List D}(h:r env = .ok ds e)(hz:ds.length<=sizeLine):bM r env = .ok (.lst ds) e:=by unfold bM;rw[h];show(if ds.length<=sizeLine then _ else _)=_;rw[if_pos hz]
def ou{r:di}{env e:Env}{ds:List D}(h:r env = .ok ds e)(hz:ds.length<=sizeLine):cG r env = .ok (.tup ds) e:=by unfold cG;rw[h];show(if ds.length<=sizeLine then _ else _)=_;rw[if_pos hz]
def jq{f:List D->Option (D×D)}{i:Nat}{a:di}{env e1:Env}{ds:List D}{x0 x d x':D}(h0:env[i]? = some (some (true,x0)))(h1:a env = .ok ds e1)(h2:e1[i]? = some (some (true,x)))(h3:f (x::ds)=some (d,x')):gB f i a env = .ok d (e1.set i (some (true,x'))):=by unfold gB;rw[h0];show bindR (a env) _=_;rw[h1];show(match e1[i]? with|some (some (true,x))=>(match f (x::ds) with|some (d,x')=>R.ok d (e1.set i (some (true,x')))|none=>R.stuck)|_=>R.stuck)=_;rw[h2];show(match f (x::ds) with|some (d,x')=>R.ok d (e1.set i (some (true,x')))|none=>.stuck)=_;rw[h3]
def Gk{i j:Int}(h:jl i j=true):n8 (.int i) (.int j)=some (.int (i*j)):=by show gI jl (λi j=>D.int (i*j)) (.int i) (.int j)=_;unfold gI;simp only;rw[if_pos h]
def vo{a b:List D}(h:a.length+b.length<=sizeLine):aP (.lst a) (.lst b)=some (.lst (a++b)):=by show(if a.length+b.length<=sizeLine then _ else _)=_;rw[if_pos h]
def cI{a:Ev}{env e:Env}{b:Bool}(h:a env = .ok (.bl b) e):fB a env = .ok b e:=by unfold fB;rw[h];rfl
def lL{i:Nat}{a:Ev}{env e:Env}{d:D}(h:a env = .ok d e):eN i a env = .nx (e.set i (some (true,d))):=by unfold eN;rw[h];rfl
def ph{a:Ev}{env e:Env}{d:D}{ds:List D}(h:a env = .ok d e)(h':itD d=some ds):dR a env = .ok ds e:=by unfold dR;rw[h];show fJ (itD d) e=_;rw[h'];rfl
def jW{n:Nat}{ev:cR}{x d x':D}{r:List D}{env:Env}(h:ev (Aq n x r) = .rt false d env)(h0:env[0]? = some (some (true,x'))):mL n ev (x::r)=some (d,x'):=by unfold mL;simp only;rw[h];simp only;rw[h0]
def cT{n:Nat}{ev:cR}{d:D}{ds:List D}{env:Env}(h:ev (envOf n ds) = .rt false d env):gV n ev ds=some d:=by unfold gV;rw[h]
def vq{a b:Ev}{env e:Env}(h:a env = .ok (.bl true) e):jd a b env=b e:=by unfold jd;rw[h];rfl
def O9{a b:Ev}{env e:Env}(h:a env = .ok (.bl false) e):jd a b env = .ok (.bl false) e:=by unfold jd;rw[h];rfl
def aeg{a b:Ev}{env e:Env}(h:a env = .ok (.bl true) e):Jt a b env = .ok (.bl true) e:=by unfold Jt;rw[h];rfl
def aeh{a b:Ev}{env e:Env}(h:a env = .ok (.bl false) e):Jt a b env=b e:=by unfold Jt;rw[h];rfl
def Gp{a b:fM}{env e:Env}(h:a env = .ok true e):j5 a b env = .ok true e:=by unfold j5;rw[h];rfl
def iQ{a b:fM}{env e:Env}(h:a env = .ok false e):j5 a b env=b e:=by unfold j5;rw[h];rfl
def fW{a:fM}{env e:Env}{b:Bool}(h:a env = .ok b e):dO a env = .ok (!b) e:=by unfold dO;rw[h];rfl
theorem Oa{g:GV}{e:Ev}(P:Env->Prop)(f:D->D):∀(ds:List D) (env:Env),P env->(∀d∈ds,∀env,P env->∃e1 e2,g d env=some e1/\e e1 = .ok (f d) e2/\P e2)->∃env',G7 g cV e ds env = .ok (ds.map f) env'/\P env'
 | [],env,hp,_=>⟨env,rfl,hp⟩
 | d::ds,env,hp,h=>by
  obtain⟨e1,e2,h1,h2,h3⟩:=h d (Qqv ..) env hp;obtain⟨e3,h4,h5⟩:=Oa P f ds e2 h3 λd' hd=>h d' (Qqy _ hd);refine⟨e3,?_,h5⟩;unfold G7;rw[h1];show bindR (e e1) _=_;rw[h2];show bindR (G7 g cV e ds e2) _=_;rw[h4]
  rfl
def yQ{lo n:Nat}{it:di}{g:GV}{c:fM}{e:Ev}{env aH dC:Env}{ds ys:List D}(h1:it env = .ok ds aH)(hl:aH.length=lo)(h2:G7 g c e ds (aH++List.replicate (n - lo) none) = .ok ys dC)(hz:ys.length<=sizeLine):fj lo n it g c e env = .ok (.lst ys) (dC.take lo):=by unfold fj;rw[h1];show(if aH.length=lo then _ else _)=_;rw[if_pos hl,h2];show(if ys.length<=sizeLine then _ else _)=_;rw[if_pos hz]
def dig(n:Int)(m:Nat)(hm:0<m):∃d:Nat,d<m/\n % (m:Int)=(d:Int):=by have h1:0<=n % (m:Int):=Int.emod_nonneg n (by omega);have h2:n % (m:Int)<m:=Int.emod_lt_of_pos n (by omega);exact⟨(n % (m:Int)).toNat,by omega,by omega⟩
def Mz{α:Type}{xs:List α}{d:Nat}(h:d<xs.length):sr xs (d:Int)=some xs[d]:=lG (Qx5 h)
def okN:Nat->D->Bool
 | 0,_=>false
 | n+1,.tup xs=>xs.all (okN n)
 | n+1,.lst xs=>xs.all (okN n)
 | _+1,.dct _=>false
 | _+1,.lE _=>false
 | _+1,.clo _ _=>false
 | _+1,.arr _=>false
 | _+1,_=>true
theorem Ao{f:D->D->Option Bool}:∀(xs:List D),(∀x∈xs,f x x=some true)->xR f xs xs=some true
 | [],_=>rfl
 | x::r,h=>by
  unfold xR;rw[h x (Qqv ..),Ao r λy hy=>h y (Qqy _ hy)]
  rfl
theorem vz:∀(n:Nat) (d:D),okN n d=true->bD n d d=some true
 | 0,_,h=>by cases h
 | n+1,d,h=>by
  cases d with
  | tup xs=>exact Ao xs λx hx=>vz n x (Qq8.mp h x hx)
  | lst xs=>exact Ao xs λx hx=>vz n x (Qq8.mp h x hx)
  | dct _=>cases h
  | lE _=>cases h
  | clo _ _=>cases h
  | arr _=>cases h
  | non=>rfl
  | bl b=>show some (b == b)=_;simp
  | int i=>show some (i == i)=_;simp
  | str x=>show some (x == x)=_;simp
open PySem PySem.Spec PyProof.Rows L2 PySem.Builtin
def iz(z:List Nat):List (List Nat)->Option Nat
 | []=>none
 | y::r=>if y=z then some 0 else (iz z r).map (·+ 1)
theorem Dd{z:List Nat}:∀{ys:List (List Nat)} {j:Nat},iz z ys=some j->∃hj:j<ys.length,ys[j]=z/\∀m (hm:m<ys.length),m<j->ys[m]≠z
 | [],j,h=>by cases h
 | y::r,j,h=>by
  unfold iz at h;split at h
  ·rename_i e;cases h;exact⟨by simp,e,λm _ hm=>absurd hm (Nat.not_lt_zero _)⟩
  ·rename_i e;obtain⟨i,hi,rfl⟩:=Qw1.mp h;obtain⟨h1,h2,h3⟩:=Dd hi;refine⟨by simpa using h1,by simpa using h2,λm hm hmi=>?_⟩;cases m with
   | zero=>simpa using e
   | succ m=>simpa using h3 m (by simpa using hm) (by omega)
section
variable{X:Cx}{C:Cfg}{pos:Pos}{e x y:Expr}{a b:Ev}
def ad8:D->Option D
 | .int i=>some (.int (-i))
 | _=>none
def abZ:UnD C (rU λi=>.int (-i)) ad8:=by
 intro Pr F env σ H x d vx Q r px e q;cases x with
 | int i=>cases e;exact⟨i,px.int,q _ H F r (aU.refl F) rfl⟩
 | _=>cases e
end
structure Pr where
 p:Addr
 k:Key
 kv:Value
 v:Value
section
variable{X:Cx}{C:Cfg}{pos:Pos}
abbrev Pv:=Addr×Key×V
end
end Ev
namespace L2
open PySem PySem.Spec PyProof.Rows PySem.Builtin PySem.Builtin.Str
section
variable{X:Cx}
def JF(v:Int)(n d:Nat):max 0 (min (if v<0 then v+(n:Int) else v) (n:Int))=((HT.fc n d (some v):Nat):Int):=by
 show _=(((if v<0 then (v+(n:Int)).toNat else min v.toNat n):Nat):Int);by_cases hv:v<0
 ·simp only[if_pos hv];omega
 ·simp only[if_neg hv];omega
def range_one(a b:Nat):sliceRange (a:Int) (b:Int) 1=List.range' a (b - a):=by
 unfold sliceRange;have h1:(1:Int) > 0:=by decide
 simp only[if_pos h1];have hc:(if (a:Int)<(b:Int) then ((b:Int) - (a:Int)+1 - 1) / 1 else 0).toNat=b - a:=by
  by_cases h:(a:Int)<(b:Int)
  ·rw[if_pos h,Int.ediv_one];omega
  ·rw[if_neg h];omega
 rw[hc,List.range'_eq_map_range];apply Qz5;intro k _;omega
def UL(lo hi:Option Int)(n:Nat):strSliceIndices lo hi 1 n=List.range' (HT.fc n 0 lo) (HT.fc n n hi - HT.fc n 0 lo):=by
 have h1:(1:Int) > 0:=by decide
 unfold strSliceIndices;simp only[if_pos h1];rw[<-range_one]
 congr 1
 ·cases lo with
  | none=>rfl
  | some v=>exact JF v n 0
 ·cases hi with
  | none=>rfl
  | some v=>exact JF v n n
theorem Jr(c:List Nat):∀(m a:Nat),a+m<=c.length->(List.range' a m).filterMap (c.toArray[·]?)=(c.drop a).take m
 | 0,a,_=>by simp
 | m+1,a,h=>by
  rw[List.range'_succ,Qzv];have e:c.toArray[a]? = some c[a]:=by simp
  rw[e,Jr c m (a+1) (by omega),List.drop_eq_getElem_cons (l:=c) (i:=a) (by omega),List.take_succ_cons]
def Cg(z:List Nat)(lo hi:Option Int):List Nat:=(z.drop (HT.fc z.length 0 lo)).take (HT.fc z.length z.length hi - HT.fc z.length 0 lo)
def ahV:V->Option Int->Option Int->Hp->VK->Prop:=λx lo hi H Q=>∃z:List Nat,x = .str ⟨z.toArray⟩/\z.length<=sizeLine/\Q (.str ⟨(Cg z lo hi).toArray⟩) H
def part_of{v:Value}{o:Option Int}(p:IsPart v o):∃l:Option (Int×Tok),v=partValue l/\l.map (·.1)=o:=by
 cases p with
 | none=>exact⟨none,rfl,rfl⟩
 | int i t=>exact⟨some (i,t),rfl,rfl⟩
def ab6:PJ X ahV:=by
 intro pins s σ H x v vl vu lo hi sl Q I rx hs pl pu h;obtain⟨z,rfl,hz,q⟩:=h;obtain⟨t,rfl⟩:=rx;obtain⟨l,rfl,el⟩:=part_of pl;obtain⟨u,rfl,eu⟩:=part_of pu;refine⟨"str",_,PySem.F.slot_str_getitem.lookup,Qkv s _ t,?_⟩;obtain⟨o,h1,h2,h3⟩:=hs;refine wpAny_getItem_str_slice (l:=l) (u:=u) (st:=none) ⟨o,h1,h2,h3⟩ rfl ?_;have hp:slicePicked ⟨z.toArray⟩ l u none=List.range' (HT.fc z.length 0 lo) (HT.fc z.length z.length hi - HT.fc z.length 0 lo):=by unfold slicePicked;rw[el,eu];show strSliceIndices lo hi 1 z.toArray.size=_;rw[Qq4,UL]
 have hle:HT.fc z.length 0 lo+(HT.fc z.length z.length hi - HT.fc z.length 0 lo)<=z.length\/HT.fc z.length z.length hi - HT.fc z.length 0 lo=0:=by have a1:=HT.Ft z.length 0 (Qzy _) lo;have a2:=HT.Ft z.length z.length (Qq2 _) hi;omega
 have ait:((slicePicked ⟨z.toArray⟩ l u none).filterMap ((⟨z.toArray⟩:Str).cps[·]?))=Cg z lo hi:=by
  rw[hp];unfold Cg;rcases hle with hle|hle
  ·exact Jr z _ _ hle
  ·rw[hle];simp
 unfold sliceMade;split
 ·rename_i hc;have hlen:(slicePicked ⟨z.toArray⟩ l u none).length=z.length:=by
   have:=(Qj2.mp hc).2;have:=eq_of_beq this
   simpa[Str.length] using this
  have hw:Cg z lo hi=z:=by
   rw[hp,List.length_range'] at hlen;unfold Cg;have a2:=HT.Ft z.length z.length (Qq2 _) hi;have a0:HT.fc z.length 0 lo=0\/z.length=0:=by omega
   rcases a0 with a0|a0
   ·rw[a0,List.drop_zero,List.take_of_length_le (by omega)]
   ·have:z=[]:=Qzk a0;subst this;simp
  rw[hw] at q;exact⟨.str ⟨z.toArray⟩,H,I,⟨t,rfl⟩,q⟩
 ·rw[ait];refine⟨?_,⟨.str ⟨(Cg z lo hi).toArray⟩,H,I.tok _,⟨_,rfl⟩,q⟩⟩;show(Cg z lo hi).toArray.size<=sizeLine;rw[Qq4];unfold Cg;rw[Qx9,Qx0];omega
end
end L2
namespace Ev
open PySem PySem.Spec PyProof.Rows L2 PySem.Builtin
section
variable{X:Cx}{C:Cfg}{pos:Pos}{x y:Expr}{a b:Ev}
def Wk(z:List Nat)(lo hi:Option Int):(Cg z lo hi).length<=z.length:=by unfold Cg;rw[Qx9,Qx0];omega
def o9:D->D->Option D
 | .lst a,.lst b=>if a.length+b.length<=sizeLine then some (.lst (a++b)) else none
 | _,_=>none
end
end Ev
namespace HT
open PySem PySem.Spec PyProof PyProof.Rows PySem.Builtin
section
variable{prog:Program}{w:World}{A:Around}{E:Value->Shared->Prop}{s:Shared}
def rW{t sl:Addr}{items:Array Value}{vl vu:Value}{lo hi:Option Int}{Q:Value->Shared->Prop}(ht:IsTup s.heap t items)(hs:s.heap.IsSliceOf sl vl vu .none)(pl:IsPart vl lo)(pu:IsPart vu hi)
  (hw:fc items.size 0 lo=0/\fc items.size items.size hi=items.size)
  (h:Q (.ref t) s):wpAny (model prog w) A (getItem (.ref t) (.ref sl)) Q E s:=by
 obtain⟨os,hos,hcs,hds⟩:=id hs;have hTs:s.TypeIs (.ref sl) "slice":=⟨os,hos,hcs⟩;unfold getItem
 try with_reducible refine Qzz ?_
 first|refine Qqx (Qqw ?_)|skip
 refine Qqx (wpAny_sequenceKey ht.typeIs (by decide) ?_);refine Qqx (wpAny_callSpecial?_slot (name:=Str.ofString "__getitem__") ht.typeIs Qz7
  (Qz3 Qz7 ht.typeIs entry_tuple_getitem ?_ (args_tuple_getitem _ _)))
 show wpAny _ _ (Builtin.Tuple.tupleItemsOf (.ref t) >>= _) _ _ s;refine Qqx (tupleItemsOf_ ht ?_);refine Qqx (wpAny_typeOf hTs ?_);rw[if_pos (by decide)];refine Qqx (nW hs pl pu ?_);have aij:(((fc items.size 0 lo:Nat):Int) == 0&&(1:Int) == 1&&(fc items.size items.size hi - fc items.size 0 lo) == items.size)=true:=by rw[hw.1,hw.2];simp
 show wpAny _ _ (if (((fc items.size 0 lo:Nat):Int) == 0&&(1:Int) == 1&&(fc items.size items.size hi - fc items.size 0 lo) == items.size)=true then _ else _) _ _ s;rw[if_pos aij];refine Qqx (m:=Builtin.Tuple.tupleIsExact (.ref t)) ?_;unfold Builtin.Tuple.tupleIsExact;refine Qqx (wpAny_typeOf ht.typeIs ?_);refine Qqw ?_;rw[if_pos (by decide)];exact Qqx (wpAny_rule (Qqw ⟨_,rfl,Qqw h⟩))
end
end HT
namespace L2
open PySem PySem.Spec PyProof.Rows
section
variable{X:Cx}
def afw(K:PySem.W.Frag):V->Option Int->Option Int->Hp->VK->Prop:=λx lo hi H Q=>∃a xs,x = .ref a/\pO K H a xs/\(HT.fc xs.length 0 lo=0/\HT.fc xs.length xs.length hi=xs.length)/\Q (.ref a) H
def Tq:PJ X (afw X.K):=by
 intro pins s σ H x v vl vu lo hi sl Q I rx hs pl pu h;obtain⟨a,xs,rfl,hx,hw,q⟩:=h;cases rx;obtain⟨its,r,ht,hz⟩:=I.tuple hx;have hlen:its.toArray.size=xs.length:=by rw[Qq4];exact r.length.symm
 refine⟨"tuple",_,PyProof.Rows.slot_tuple_getitem.lookup,ht.typeIs,?_⟩;refine HT.rW ht hs pl pu (by rw[hlen];exact hw) ?_;exact⟨.ref a,H,I,rfl,q⟩
end
end L2
namespace Ev
open PySem PySem.Spec PyProof.Rows L2
section
variable{X:Cx}{C:Cfg}{pos:Pos}{x:Expr}{a:Ev}
def ad6:D->Option Int->Option Int->Option D
 | .tup xs,lo,hi=>if HT.fc xs.length 0 lo=0/\HT.fc xs.length xs.length hi=xs.length then some (.tup xs) else some (.tup (cutD xs lo hi))
 | _,_,_=>none
def ab7{Pr F:Hp}{env:Env}{σ:L2.St}{H:Hp}{x d:D}{v:V}{lo hi:Option Int}{Q:VK}(r:Rel C Pr F env σ H)(p:Rep C.K F x v)(e:ad6 x lo hi=some d)(q:∀v H' F',Rel C Pr F' env σ H'->aU F F'->Rep C.K F' d v->Q v H') :
  ach C.K v lo hi H Q\/afw C.K v lo hi H Q:=by
 unfold ad6 at e;split at e
 ·obtain⟨z,a,vs,rfl,h1,_,h2⟩:=iD.tup r.fr (.inl p);split at e
  ·rename_i hn;cases e;exact .inr ⟨a,vs,rfl,h1,by rw[h2.length];exact hn,q _ H F r (aU.refl F) p⟩
  ·rename_i hn;cases e;refine .inl ⟨a,vs,rfl,h1,by rw[h2.length];exact hn,λb hb=>?_⟩;obtain⟨r2,s2⟩:=r.new (o:=.tup (yH vs lo hi)) hb;exact q _ _ _ r2 s2 ⟨Qqj (qW _ _ _) z,b,_,rfl,pO.of bu,cg.mono s2 _ _ (h2.cut lo hi)⟩
 ·cases e
end
end Ev
namespace SX
open PySem PySem.Spec PyProof.Rows L2 PySem.Builtin
def vG(ys:List Str)(x:Str):List Str:=if x∈ys then ys else ys++[x]
def xD(zs:List Str):List Str:=zs.foldl vG []
def WM(ys:List Str)(x:Str):(vG ys x).length<=ys.length+1:=by
 unfold vG;split
 ·omega
 ·simp
def Hj(zs:List Str):∀ys:List Str,(zs.foldl vG ys).length<=ys.length+zs.length:=by
 induction zs with
 | nil=>intro ys;exact Qq2 _
 | cons z zs ih=>intro ys;rw[Qx4,Qq0];have:=ih (vG ys z);have:=WM ys z;omega
def led(w:World):Bool:=!(w.params.followText "set-order")
structure TOk(P:Program)(w:World)(es:Array (Int×Value))(t:SetTable)(ys:List Str):Prop where
 el:ElemsOf (strKind P w) es.toList
 tx:∃ss:List Str,StrsAre (es.toList.map (·.2)) ss/\ss.Perm ys
 fit:t.fits es.size=true
 ld:t.led=led w
 pl:es.size≠0->t.plain=false
def pF(P:Program)(w:World)(h:Heap)(a:Addr)(ys:List Str):Prop:=
 ∃o es ep t,h.get? a=some o/\o.ExactSet/\o.data = .set es ep t/\TOk P w es t ys
def pF.keep{P:Program}{w:World}{h h':Heap}{a:Addr}{ys:List Str}(x:pF P w h a ys)(k:∀o,h.get? a=some o->h'.get? a=some o):pF P w h' a ys:=
 let ⟨o,es,ep,t,e,r⟩:=x;⟨o,es,ep,t,k o e,r⟩
def Hx{vs:List Value}{ss:List Str}(h:StrsAre vs ss):vs.length=ss.length:=by
 induction h with
 | nil=>rfl
 | cons _ _ _ ih=>simp[ih]
def Te{vs:List Value}{ss:List Str}(h:StrsAre vs ss):∀v∈vs,∃x t,v = .str x t/\x∈ss:=by
 induction h with
 | nil=>intro v hv;cases hv
 | cons y t _ ih=>
  intro v hv;rcases Qq1.mp hv with rfl|hv
  ·exact⟨y,t,rfl,Qqv⟩
  ·obtain⟨x,t,e,m⟩:=ih v hv;exact⟨x,t,e,Qqy _ m⟩
def Qo{vs:List Value}{ss:List Str}(h:StrsAre vs ss):∀x∈ss,∃t,Value.str x t∈vs:=by
 induction h with
 | nil=>intro x hx;cases hx
 | cons y t _ ih=>
  intro x hx;rcases Qq1.mp hx with rfl|hx
  ·exact⟨t,Qqv⟩
  ·obtain⟨t,m⟩:=ih x hx;exact⟨t,Qqy _ m⟩
def Tf{vs us:List Value}{ss rs:List Str}(h:StrsAre vs ss)(g:StrsAre us rs):StrsAre (vs++us) (ss++rs):=by
 induction h with
 | nil=>exact g
 | cons y t _ ih=>exact .cons y t ih
def rz{vs us:List Value}(p:us.Perm vs):∀{ss:List Str},StrsAre vs ss->∃rs,StrsAre us rs/\rs.Perm ss:=by
 induction p with
 | nil=>intro ss h;exact⟨ss,h,.rfl⟩
 | cons x _ ih=>
  intro ss h;cases h with
  | cons y t h=>
   obtain⟨rs,h1,h2⟩:=ih h;exact⟨y::rs,.cons y t h1,h2.cons y⟩
 | swap x y l=>
  intro ss h;cases h with
  | cons a t h=>cases h with
   | cons b u h=>exact⟨b::a::_,.cons b u (.cons a t h),.swap _ _ _⟩
 | trans _ _ ih1 ih2=>
  intro ss h;obtain⟨rs,h1,h2⟩:=ih2 h;obtain⟨qs,h3,h4⟩:=ih1 h1;exact⟨qs,h3,h4.trans h2⟩
def TOk.size{P:Program}{w:World}{es:Array (Int×Value)}{t:SetTable}{ys:List Str}(x:TOk P w es t ys):es.size=ys.length:=by obtain⟨ss,h1,h2⟩:=x.tx;rw[<-h2.length_eq,<-Hx h1,Qqk,Qz6]
def acX(t:SetTable)(n:Nat):(t.orStandIn n).led=t.led/\(t.plain=false->(t.orStandIn n).plain=false):=by
 unfold SetTable.orStandIn;split
 ·exact⟨rfl,id⟩
 ·exact⟨rfl,λ_=>rfl⟩
def Zh(t:SetTable)(es:Array (Int×Value))(h:Int)(x:Value):(layNew t es h x).2.1.led=t.led/\(t.plain=false->(layNew t es h x).2.1.plain=false):=by
 unfold layNew;split
 ·exact acX _ _
 ·exact⟨rfl,λ_=>rfl⟩
def Vx{mask finger moves:Nat}{l p:Bool}{hs:Array Int}{t:SetTable}{o:Array Nat}(h:SetTable.laid mask finger moves l p hs=some (t,o)):t.led=l/\t.plain=p:=by
 unfold SetTable.laid at h;cases h1:SetTable.layClean mask hs with
 | none=>rw[h1] at h;cases h
 | some ow=>rw[h1] at h;injection h with h;injection h with h _;subst h;exact⟨rfl,rfl⟩
def Qy(t:SetTable)(es:Array (Int×Value))(n:Nat):(relayAll t es n).2.1.led=t.led/\(t.plain=false->(relayAll t es n).2.1.plain=false):=by
 unfold relayAll;split
 ·rename_i t' order e;obtain⟨h1,h2⟩:=Vx e;dsimp only;split
  ·exact⟨h1,λz=>h2.trans z⟩
  ·exact⟨rfl,λ_=>rfl⟩
 ·exact⟨rfl,λ_=>rfl⟩
section
variable{P:Program}{w:World}{A:Around}{E:Value->Shared->Prop}{s:Shared}{a:Addr}
def SQ(b:Bool){n:String}{s₁:Shared}{Q:Unit->Shared->Prop}(h:Q () s₁):wpAny (model P w) A (match b with|true=>rule n|false=>pure ()) Q E s₁:=by
 cases b
 ·exact Qqw h
 ·exact wpAny_rule h
def store{o:Obj}{es es':Array (Int×Value)}{ep:Nat}{t t':SetTable}{ys:List Str}{Q:Unit->Shared->Prop}(ho:s.heap.get? a=some o)(hx:o.ExactSet)(hd:o.data = .set es ep t)(k:TOk P w es' t' ys)(hz:ys.length<scanBound)
  (h:∀g o',Heap.SameBut a s.heap g->g.get? a=some o'->o'.ExactSet->o'.data = .set es' (ep+1) t'->Q () { s with heap:=g }):wpAny (model P w) A (storeSet a es' t') Q E s:=by
 have hb:es'.size<scanBound:=by rw[k.size];exact hz
 refine wpAny_storeSet_of ho hd ?_ (fits_of_scanBound hb);have e:=Heap.get?_update_self (Obj.putSet es' t') ho (by rw[putSet_of es' t' hd];rfl);rw[putSet_of es' t' hd] at e;exact h _ _ (Heap.SameBut.update s.heap a _) e hx rfl
def RQ{k:Str}{tk:Tok}{o:Obj}{es:Array (Int×Value)}{ep:Nat}{t:SetTable}{ys:List Str}{Q:Bool->Shared->Prop}(ho:s.heap.get? a=some o)(hx:o.ExactSet)(hd:o.data = .set es ep t)(x:TOk P w es t ys)(hz:ys.length+1<scanBound)
  (h:∀g b,Heap.SameBut a s.heap g->pF P w g a (vG ys k)->Q b { s with heap:=g }):wpAny (model P w) A (setAddHashed a (.str k tk) ((strKind P w).hash k)) Q E s:=by
 have hk:(strKind P w).is k (.str k tk)=true:=strKind_is P w k tk;have hsc:(Value.str k tk).scannable=true:=rfl;have hb:es.size<scanBound:=by rw[x.size];omega
 unfold setAddHashed setAddHashedIn;refine Qzz (Qqx (wpAny_setState_of ho hd x.fit ?_));dsimp only;rw[if_pos (byScan_of hsc hb x.el)];unfold setAddByScan;refine Qqx (Qqx (wpAny_rule (Qqx (wpAny_setScan_of hk ho hd x.fit x.el ?_))));obtain⟨ss,s1,s2⟩:=x.tx;cases hr:es.toList.findIdx? (λe=>(strKind P w).is k e.2) with
 | some j=>
  dsimp only;obtain⟨hj,hpj,_⟩:=List.findIdx?_eq_some_iff_getElem.mp hr;refine Qqw (Qqw ?_);have hm:k∈ys:=by obtain⟨y,u,e1,e2⟩:=Te s1 (es.toList[j].2) (Qw0.mpr ⟨_,List.getElem_mem hj,rfl⟩);rw[e1] at hpj;have:k=y:=(strKind P w).inj _ _ _ hpj (strKind_is P w y u);subst this;exact s2.mem_iff.mp e2
  have:=h s.heap false (Heap.SameBut.refl a s.heap) (by rw[vG,if_pos hm];exact⟨o,es,ep,t,ho,hx,hd,x⟩);cases s;exact this
 | none=>
  dsimp only;have hm:k ∉ ys:=λz=>by
   obtain⟨u,hu⟩:=Qo s1 k (s2.mem_iff.mpr z);obtain⟨e,he,e2⟩:=Qw0.mp hu;have:=List.findIdx?_eq_none_iff.mp hr e he;rw[e2,strKind_is] at this;cases this
  have hp:=layNew_perm t es ((strKind P w).hash k) (.str k tk);have hf:=layNew_fits t es ((strKind P w).hash k) (.str k tk);have hl:=Zh t es ((strKind P w).hash k) (.str k tk);generalize layNew t es ((strKind P w).hash k) (.str k tk)=L at hp hf hl ⊢;obtain⟨e1,t1,wd,gv⟩:=L;dsimp only at hp hf hl ⊢;rw[Array.toList_push] at hp;have hel:ElemsOf (strKind P w) e1.toList:=(x.el.push hk hsc).perm hp;have htx:∃ss:List Str,StrsAre (e1.toList.map (·.2)) ss/\ss.Perm (ys++[k]):=by have h1:=Tf s1 (.cons k tk .nil);obtain⟨rs,h2,h3⟩:=rz (hp.map (·.2)) (by rw[Qxz];exact h1);exact⟨rs,h2,h3.trans (s2.append_right [k])⟩
  have hxy:vG ys k=ys++[k]:=by rw[vG,if_neg hm]
  have hyz:(ys++[k]).length<scanBound:=by rw[Qqq];exact hz
  refine Qqx (SQ _ ?_)
  /- the table that is laid down -/
  have hend:∀t2:SetTable,t2.fits e1.size=true->t2.led=led w->t2.plain=false->wpAny (model P w) A (do
    storeSet a e1 t2
    if (!wd&&t2.tooFull)=true then do
      (match (relayAll t2 e1 (SetTable.grown e1.size)).2.2 with|true=>rule "set.scan.the-table-gave-way" | false=>pure ())
      storeSet a (relayAll t2 e1 (SetTable.grown e1.size)).1 (relayAll t2 e1 (SetTable.grown e1.size)).2.1
      pure (some true)
     else pure (some true)) (λr s'=>wpAny (model P w) A (match r with|some added=>pure added|none=>setAddHashedIn a (.str k tk) ((strKind P w).hash k) 99999) Q E s') E s:=by
   intro t2 f2 l2 p2;have k2:TOk P w e1 t2 (ys++[k]):=⟨hel,htx,f2,l2,λ_=>p2⟩;refine Qqx (store ho hx hd k2 hyz λg o1 sb go gx gd=>?_);split
   ·have rp:=relayAll_perm t2 e1 (SetTable.grown e1.size);have rf:=relayAll_fits t2 e1 (SetTable.grown e1.size);have rl:=Qy t2 e1 (SetTable.grown e1.size);generalize relayAll t2 e1 (SetTable.grown e1.size)=L at rp rf rl ⊢;obtain⟨e3,t3,gv3⟩:=L;dsimp only at rp rf rl ⊢;obtain⟨r1,q1,q2⟩:=htx;obtain⟨rs,h2,h3⟩:=rz (rp.map (·.2)) q1;have k3:TOk P w e3 t3 (ys++[k]):=⟨hel.perm rp,⟨rs,h2,h3.trans q2⟩,rf,rl.1.trans l2,λ_=>rl.2 p2⟩;refine Qqx (SQ _ ?_);refine Qqx (store (s:={ s with heap:=g }) go gx gd k3 hyz λg2 o2 sb2 go2 gx2 gd2=>?_);refine Qqw (Qqw ?_);exact h g2 true (sb.trans sb2) (by rw[hxy];exact⟨o2,_,_,_,go2,gx2,gd2,k3⟩)
   ·refine Qqw (Qqw ?_);exact h g true sb (by rw[hxy];exact⟨o1,_,_,_,go,gx,gd,k2⟩)
  split
  ·rename_i hpl;refine Qqx ?_;rw[hashByValue_scannable 8 hsc];refine Qqw ?_;exact hend _ (SetTable.fits_plain_off hf) (hl.1.trans x.ld) rfl
  ·rename_i hpl;refine Qqx (Qqw ?_);simp only[↓reduceIte];exact hend _ hf (hl.1.trans x.ld) (by simpa using hpl)
def seen(val:Nat->Str)(i:Nat):List Str:=((List.range i).map val).foldl vG []
def Qv(val:Nat->Str)(i:Nat):seen val (i+1)=vG (seen val i) (val i):=by
 unfold seen;rw[List.range_succ,Qxz,List.foldl_append]
 rfl
def TV(val:Nat->Str)(i:Nat):(seen val i).length<=i:=by
 have:=Hj ((List.range i).map val) []
 simpa[seen] using this
def fill{R:Result->Shared->Prop}{I:Addr}{fp wr:List Addr}{G:Array GenState->Array GenState->Prop}{n:Nat}{Pi:Nat->Value->Prop}{St:Nat->Shared->Prop}(W:WalksS P w A.in1 I fp wr G n Pi St){a:Addr}(ha:a ∉ fp){val:Nat->Str}
  (hv:∀i v,Pi i v->∃t,v = .str (val i) t) (hb:n+1<scanBound) (d:Nat):∀(i:Nat) (s:Shared),i+d=n->St i s->pF P w s.heap a (seen val i)->(∀s',Moved (a::wr) G s s'->pF P w s'.heap a (seen val n)->R (.ok (.ret .none)) s')->
  codeAny (model P w) A (.builtin "set.update.loop" ⟨[.ref a,.ref I],[]⟩) R s:=by
 have hw:a ∉ wr:=λz=>ha (W.sub _ z);have up:∀b∈wr,b∈a::wr:=λb z=>Qqy _ z
 induction d with
 | zero=>
  intro i s e st x hR;obtain rfl:i=n:=e;refine Qj5 PyProof.Rows.F.entry_set_update_loop ?_;rw[Around.under_plainId PyProof.Rows.F.plain_set_update_loop _];show wpAny _ _ (pyNext (.ref I) >>= _) _ _ _;refine Qqx (W.done s _ _ st λs' m=>?_);show wpAny _ _ (ret .none) _ _ _;exact Qqw (hR s' (m.mono up) (x.keep λo z=>m.heap a o hw z))
 | succ d ih=>
  intro i s e st x hR;refine Qj5 PyProof.Rows.F.entry_set_update_loop ?_;rw[Around.under_plainId PyProof.Rows.F.plain_set_update_loop _];show wpAny _ _ (pyNext (.ref I) >>= _) _ _ _;refine Qqx (W.item i s _ _ (by omega) st λv s' pv st' m=>?_);obtain⟨t,rfl⟩:=hv i v pv;show wpAny _ _ (holding _ (setAdd a _) >>= _) _ _ _;unfold setAdd;refine Qqx (Qzz (Qzz (Qqx ((strKind P w).pyHash (strKind_is P w (val i) t) ?_))));obtain⟨o,es,ep,tb,ho,hx,hd,k⟩:=x.keep λo z=>m.heap a o hw z;refine RQ (s:={ s' with toks:=s'.toks+1 }) ho hx hd k (by have:=TV val i;omega) λg b sb y=>?_;rw[<-Qv] at y;refine Qqw ⟨plainId_quiet PyProof.Rows.F.plain_set_update_loop _,ih (i+1) _ (by omega) (W.frame _ s' _ _ st' (Nat.le_succ _) λc hc u z=>?_) y λs2 m2 x2=>?_⟩
  ·exact(sb.2 c (λq=>ha (q ▸ hc))).trans z
  ·refine hR s2 (Moved.trans W.gtrans ((m.mono up).then_heap (Nat.le_succ _) λc u hc z=>?_) m2) x2;exact(sb.2 c (λq=>hc (q ▸ Qqv))).trans z
def Y4(v:Value){Q:Value->Shared->Prop}(h:Q (.ref s.heap.objs.size) { s with heap:=s.heap.push { cls:=.type "set",dict:=none,data:=.set #[] 0 (.fresh 0 0 (led w)) } }) :
  codeAny (model P w) A (.call (.builtin "set.__new__") ⟨[.type "set",v],[]⟩) (wants Q E) s:=by
 refine codeAny_of_tree ?_;show wpAny _ _ (checkBuiltinCall "set.__new__" ⟨[.type "set",v],[]⟩ >>= λ_=>again (.builtin "set.__new__" ⟨[.type "set",v],[]⟩)) _ _ s;refine Qqx (wpAny_of_eq (PySem.F.newCall_set_1 v) (Qqw ⟨plainId_quiet PySem.F.plain_set_new _,Qj5 PySem.F.entry_set_new ?_⟩));rw[Around.under_plainId PySem.F.plain_set_new _];unfold Builtin.«set.__new__» Builtin.Frozenset.newClass;have hs:=sub_set_self;obtain⟨_,_,_,_,_⟩:=s;dsimp only
 wp_walk
 refine wpAny_askSetting (Qqw ?_);dsimp only;simp only[newObj];exact Qqx (wpAny_alloc (Qqw (Qqw h)))
def fresh(w:World):Obj:={ cls:=.type "set",dict:=none,data:=.set #[] 0 (.fresh 0 0 (led w)) }
def V6(h:Heap){a:Addr}(e:h.get? a=some (fresh w)):pF P w h a []:=
 ⟨_, #[],0,_,e,⟨rfl,rfl,rfl⟩,rfl,⟨λ_ z=>by simp at z,⟨[],.nil,.rfl⟩,rfl,rfl,λz=>absurd rfl z⟩⟩
def ab8{l:Addr}{its:Array Value}{zs:List Str}{Q:Value->Shared->Prop}(hh:A.handled=none)(hl:s.heap.IsList l its)(hi:StrsAre its.toList zs)(hb:zs.length+1<scanBound)
  (h:∀(g:Heap) (tk:Nat),pF P w g s.heap.objs.size (xD zs)->(∀b o,s.heap.get? b=some o->g.get? b=some o)->Q (.ref s.heap.objs.size) { s with heap:=g,toks:=tk }) :
  wpAny (model P w) A (call (.type "set") [.ref l]) Q E s:=by
 obtain⟨c,tl,mro⟩:=PySem.F.called_set.mro;have made:=PySem.F.called_set.made;have sub:=PySem.F.called_set.sub;refine wpAny_call (codeAny_of_tree ?_);show wpAny _ _ (callAny (.type "set") _) _ _ _;refine Qqw ⟨Code.quiet_builtin _ (by decide +kernel),Qj5 PySem.F.entry_type_call ?_⟩;rw[Around.under_plain (weight_type_call_type "set" [.ref l] []) rfl];have c1:=PySem.F.called_set.notType;have c2:=PySem.F.called_set.canCreate;have c3:=PySem.F.typeCall_set_1 (.ref l)
 repeat (any_goals (first|assumption|wp_step))
 refine Qkj (Y4 (.ref l) (E:=E) (Q:=λv s1=>v = .ref s.heap.objs.size/\s1 = { s with heap:=s.heap.push (fresh w) }) ⟨rfl,rfl⟩) λr s1 hr=>?_;have hlen:its.size=zs.length:=by rw[<-Qz6];exact Hx hi
 cases r with
 | error e=>exact hr
 | ok fl=>
  cases fl with
  | ret v=>
   obtain⟨rfl,rfl⟩:=hr;have e0:(s.heap.push (fresh w)).get? s.heap.objs.size=some (fresh w):=Qq6 _ rfl;have hT:Shared.TypeIs { s with heap:=s.heap.push (fresh w) } (.ref s.heap.objs.size) "set":=⟨_,e0,rfl⟩;have c4:=PySem.F.called_set.init.lookup;have c5:=PySem.F.called_set.init.bind (.ref s.heap.objs.size)
   repeat (any_goals (first|assumption|wp_step))
   refine Qkj (codeAny_call_builtin (R:=wants (λr s2=>r = .none/\∃g tk,s2 = { s with heap:=g,toks:=tk }/\pF P w g s.heap.objs.size (xD zs)/\(∀b o,s.heap.get? b=some o->g.get? b=some o)) E)
    PySem.F.called_set.init.plain PySem.F.entry_set_init (check_set_init_1 hT ?_)) λr2 s2 hr2=>?_
   ·obtain⟨ol,hol,hcl,nl,hdl⟩:=hl;obtain⟨ocls,odict,odata,oslots⟩:=ol;simp only at hcl hdl;subst hcl;subst hdl;have hol':(s.heap.push (fresh w)).get? l=some { cls:=.type "list",dict:=odict,data:=.seq its nl,slots:=oslots }:=Qqz _ hol;have l1:(s.heap.push (fresh w)).IsList l its:=⟨_,hol',rfl,nl,rfl⟩;have n1:=PySem.F.sub_list_set;have n2:=PySem.F.sub_list_frozenset;have n3:(Value.type "list" == Value.type "dict")=false:=by decide
    have e1:(s.heap.push (fresh w)).get? s.heap.objs.size=some { cls:=.type "set",dict:=none,data:=.set #[] 0 (.fresh 0 0 (led w)) }:=e0;unfold Builtin.«set.__init__» noKeywords Builtin.Frozenset.updateFrom;generalize hPI:pyIter=PI
    wp_walk
    subst hPI;refine wpAny_pyIter_list l1 (Qqx (wpAny_runValue ?_));have lt:l<s.heap.objs.size:=Qq9 hol;have sz:(s.heap.push (fresh w)).objs.size=s.heap.objs.size+1:=Qjz _ _;have hh3:A.in1.in1.in1.handled=none:=by simp[hh]
    have a1:l≠(s.heap.push (fresh w)).objs.size:=by rw[sz];exact Qwv (Qjk lt)
    have a2:s.heap.objs.size ∉ [(s.heap.push (fresh w)).objs.size,l]:=by rw[sz];simp only[Qq1,Qwz,Qz4,not_or];exact⟨Qwv (Nat.lt_succ_self _),Nat.ne_of_gt lt⟩
    have hv:∀(i:Nat) (v:Value),its[i]? = some v->∃t,v = .str (zs.getD i ⟨#[]⟩) t:=by
     have:∀{vs:List Value} {ss:List Str},StrsAre vs ss->∀(i:Nat) (v:Value),vs[i]? = some v->∃t,v = .str (ss.getD i ⟨#[]⟩) t:=by
      intro vs ss q
      induction q with
      | nil=>intro i v z;simp at z
      | cons y t _ ih=>
       intro i v z;cases i with
       | zero=>simp at z;exact⟨t,z.symm⟩
       | succ i=>simpa using ih i v (by simpa using z)
     exact λi v z=>this hi i v (by rw[Array.getElem?_toList];exact z)
    refine fill ((Walks.list hh3 _ l a1 its).toS) a2 (val:=λi=>zs.getD i ⟨#[]⟩) hv (by omega) its.size 0 _ (by omega) ⟨⟨_,Qq6 _ rfl,rfl,rfl⟩,l1.push _⟩ (V6 _ (Qqz _ e0)) λs' m x=>?_;have es:seen (λi=>zs.getD i ⟨#[]⟩) its.size=xD zs:=by
     unfold seen xD
     congr 1
     rw[hlen];apply List.ext_getElem
     ·simp
     ·intro i h1 h2;simp[Qzj,h2]
    rw[es] at x;obtain⟨g,gn,dr,tk,os⟩:=s';have q1:gn=s.gens:=m.gens;have q2:dr=s.drawn:=m.drawn;have q3:os=s.os:=m.os;subst q1 q2 q3;refine Qqw ?_;show wpAny _ _ (ret .none) _ _ _;refine Qqw ⟨rfl,g,tk,rfl,x,λb o e=>?_⟩;have hb1:b<s.heap.objs.size:=Qq9 e;refine m.heap b o ?_ (Qqz _ (Qqz _ e));rw[sz];simp only[Qq1,Qwz,Qz4,not_or];exact⟨Qwv hb1,Qwv (Qjk hb1)⟩
   ·cases r2 with
    | error e=>exact hr2
    | ok fl2=>
     cases fl2 with
     | ret r=>
      obtain⟨rfl,g,tk,rfl,x,k⟩:=hr2
      repeat (any_goals (first|assumption|wp_step))
      exact h _ _ x k
     | _=>exact hr2.elim
  | _=>exact hr.elim
end
def rE:Slot "set_iterator" "__next__" "set_iterator.__next__":=
 .of (owner:="set_iterator") (n:="__next__") (by rw[typeLookup_type,builtinLookup_eq_fast];kernel_rfl) (by decide +kernel) (by decide +kernel) (by decide +kernel) (by first|exact .inl (by decide +kernel)|exact .inr (by decide +kernel)) (by rw[isSubtype_type];kernel_rfl)
def Wg:entryFor table "set_iterator.__next__" = some Builtin.«set_iterator.__next__»:=entryFor_of_tree (by kernel_rfl)
def Ij:Manifest.owners.lookup (String.ofList ['r', 'o', 't', 'a', 'r', 'e', 't', 'i', '_', 't', 'e', 's'].reverse)=some Manifest.sig_set_iterator:=by kernel_rfl
def aaf(a:Value):argsOk "set_iterator.__next__" ⟨[a],[]⟩:=by
 unfold argsOk;rw[signature?_of (id:="set_iterator.__next__") (n:=['_', '_', 't', 'x', 'e', 'n', '_', '_']) (o:=['r', 'o', 't', 'a', 'r', 'e', 't', 'i', '_', 't', 'e', 's']) (by kernel_rfl) Ij]
 kernel_rfl
def Ni:Slot "set_iterator" "__iter__" "set_iterator.__iter__":=
 .of (owner:="set_iterator") (n:="__iter__") (by rw[typeLookup_type,builtinLookup_eq_fast];kernel_rfl) (by decide +kernel) (by decide +kernel) (by decide +kernel) (by first|exact .inl (by decide +kernel)|exact .inr (by decide +kernel)) (by rw[isSubtype_type];kernel_rfl)
def Wh:entryFor table "set.__iter__" = some Builtin.«frozenset.__iter__»:=
 entryFor_alias (id':="frozenset.__iter__") (by kernel_rfl) rfl (by decide +kernel) (by kernel_rfl)
def Wf:entryFor table "set_iterator.__iter__" = some Builtin.«dict_keyiterator.__iter__»:=
 entryFor_alias (id':="dict_keyiterator.__iter__") (by kernel_rfl) rfl (by decide +kernel) (by kernel_rfl)
def aae(a:Value):argsOk "set_iterator.__iter__" ⟨[a],[]⟩:=by
 unfold argsOk;rw[signature?_of (id:="set_iterator.__iter__") (n:=['_', '_', 'r', 'e', 't', 'i', '_', '_']) (o:=['r', 'o', 't', 'a', 'r', 'e', 't', 'i', '_', 't', 'e', 's']) (by kernel_rfl) Ij]
 kernel_rfl
def Oh(first:Value)(i:Nat)(a:Addr)(n ep:Nat):Obj:={ cls:=.type "set_iterator",data:=.fields #[first,.int i 0,.ref a,.int n 0,.int ep 0] }
section
variable{P:Program}{w:World}{A:Around}{E:Value->Shared->Prop}{s:Shared}
def N6{I a:Addr}{first:Value}{i n ep:Nat}{o:Obj}{es:Array (Int×Value)}{t:SetTable}{Q:Value->Shared->Prop}(hI:s.heap.get? I=some (Oh first i a n ep))(ho:s.heap.get? a=some o)(hd:o.data = .set es ep t)(hf:t.fits es.size=true)(hn:es.size=n)
  (h:wpAny (model P w) A (match first with
   | .int slot _=>(do match <-setNext a slot.toNat i ep with
     | some (x,next)=>(do setField (.ref I) 0 (rawInt next);setField (.ref I) 1 (rawInt (i+1));ret x)
     | none=>(do setField (.ref I) 2 .none;raiseNew (<-newExc (.type "StopIteration") [])))
   | v=>(do
        let some places <-seqItems? v|unsupported "internal:set_iterator"
        match places[i]? with
        | some (.int place _)=>(do let x <-setNextDrawn a place.toNat ep;setField (.ref I) 1 (rawInt (i+1));ret x)
        | some _=>unsupported "internal:set_iterator"
        | none=>(do setField (.ref I) 0 (rawInt 0);setField (.ref I) 2 .none;raiseNew (<-newExc (.type "StopIteration") [])))) (λfin s'=>∃v,fin = .done (.ret v)/\Q v s') E s) :
  wpAny (model P w) A (Builtin.«set_iterator.__next__» ⟨[.ref I],[]⟩) (λfin s'=>∃v,fin = .done (.ret v)/\Q v s') E s:=by
 unfold Builtin.«set_iterator.__next__» slotArgs;refine Qqx (Qqw ?_);refine Qqx (wpAny_fieldsOf hI rfl ?_);dsimp only[Oh];refine Qqx (wpAny_setEntries_of ho hd hf ?_);rw[if_neg (by rw[hn];simp)];cases first<;>first|exact h|(simpa using h)
def Nm{I a:Addr}{first:Value}{i n ep:Nat}{Q:Value->Shared->Prop}(hI:s.heap.get? I=some (Oh first i a n ep))(h:Q (.ref I) s):wpAny (model P w) A (pyIter (.ref I)) Q E s:=by have hT:s.TypeIs (.ref I) "set_iterator":=⟨_,hI,rfl⟩;refine wpAny_pyIter_slot hT Ni (Qz3 Ni hT Wf ?_ (aae _));show wpAny _ _ (ret (.ref I)) _ _ s;exact Qqw ⟨_,rfl,"set_iterator",_,hT,rE.lookup,h⟩
def stop{Q:Fin->Shared->Prop}(hh:A.handled=none)(q:∀g e,(∀b o,s.heap.get? b=some o->g.get? b=some o)->(∃o,g.get? e=some o/\o.cls = .type "StopIteration")->E (.ref e) { s with heap:=g }) :
  wpAny (model P w) A (do raiseNew (<-newExc (.type "StopIteration") [])) Q E s:=by
 refine Qqx ?_;simp only[newExc,newTuple];refine Qqx (Qx3 ?_ (by size_fits));refine Qqx (m:=firstArgMember _ _) (wpAny_of_eq (a:=Value.none) (by first|rfl|(simp only[firstArgMember];rfl)) ?_);refine Qx3 ?_ (by size_fits);simp only[raiseNew];refine Qqx (wpAny_handled ?_);rw[hh];refine Qqx (Qqw (wpAny_throw ?_));exact q _ _ (λb o e=>Qqz _ (Qqz _ e)) ⟨_,Qq6 _ rfl,rfl⟩
def N5{I a:Addr}{first:Value}{i n ep:Nat}{Q:Option Value->Shared->Prop}(hI:s.heap.get? I=some (Oh first i a n ep))
  (h:wpAny (model P w) A.in1 (Builtin.«set_iterator.__next__» ⟨[.ref I],[]⟩) (λfin s'=>∃v,fin = .done (.ret v)/\Q (some v) s') (λe s'=>∃b,e = .ref b/\s'.TypeIs (.ref b) "StopIteration"/\Q none s') s):wpAny (model P w) A (pyNext (.ref I)) Q E s:=by
 have hT:s.TypeIs (.ref I) "set_iterator":=⟨_,hI,rfl⟩;unfold pyNext;refine Qqx (wpAny_attempt (wpAny_callSpecial?_slot (name:=Str.ofString "__next__") hT rE (Qz3 rE hT Wg ?_ (aaf _))));refine Qxx h (λfin s' x=>?_) λe s' x=>?_
 ·obtain⟨v,rfl,y⟩:=x;exact⟨v,rfl,Qqw y⟩
 ·obtain⟨b,rfl,ty,y⟩:=x;refine Qqx (wpAny_isInstance (T:="StopIteration") (b:=true) ty isSubtype_stop ?_);exact Qqw y
structure M5(P:Program)(w:World)(a:Addr)(o:Obj)(ep:Nat)(sl:Nat->Nat)(os:List Value):Prop where
 step:∀(A:Around) (E:Value->Shared->Prop) (s:Shared) (i:Nat) (v:Value) (Q:Option (Value×Nat)->Shared->Prop),s.heap.get? a=some o->os[i]? = some v->Q (some (v,sl (i+1))) s->wpAny (model P w) A (setNext a (sl i) i ep) Q E s
 stop:∀(A:Around) (E:Value->Shared->Prop) (s:Shared) (Q:Option (Value×Nat)->Shared->Prop),s.heap.get? a=some o->Q none s->wpAny (model P w) A (setNext a (sl os.length) os.length ep) Q E s
def CG{I a:Addr}{o:Obj}{es:Array (Int×Value)}{ep:Nat}{t:SetTable}{sl:Nat->Nat}{os:List Value}(hh:A.handled=none)(hia:a≠I)(hd:o.data = .set es ep t)(hf:t.fits es.size=true)(hn:es.size=os.length)(B:M5 P w a o ep sl os) :
  WalksS P w A I [I,a] [I] (λg g'=>g'=g) os.length (λi v=>os[i]? = some v) (λi s=>s.heap.get? I=some (Oh (.int (sl i) 0) i a os.length ep)/\s.heap.get? a=some o) where
 sub:=λb z=>by simp at z;simp[z]
 grefl:=λ_=>rfl
 gtrans:=λ_ _ _ x y=>y.trans x
 frame:=λi s g tk st _ k=>⟨k I (by simp) _ st.1,k a (by simp) _ st.2⟩
 item:=λi s Q E hi st hQ=>by
  obtain⟨v,hv⟩:∃v,os[i]? = some v:=⟨os[i],by simp[hi]⟩;refine N5 st.1 (N6 st.1 st.2 hd hf hn ?_);dsimp only;refine Qqx ?_;rw[Qjj];refine B.step _ _ s i v _ st.2 hv ?_;dsimp only;refine Qqx (Qjv st.1 (by simp) λg1 h1 e1=>?_);refine Qqx (Qjv h1 (by simp) λg2 h2 e2=>?_);have kp:∀b u,b≠I->s.heap.get? b=some u->g2.get? b=some u:=λb u hb z=>(e2.2 b hb).trans ((e1.2 b hb).trans z);refine Qqw ⟨v,rfl,hQ v _ hv ⟨?_,kp a _ hia st.2⟩ ⟨λb u hb z=>kp b u (λq=>hb (by simp[q])) z,rfl,rfl,rfl,Qq2 _⟩⟩;rw[h2];simp[Oh,rawInt]
 done:=λs Q E st hQ=>by
  refine N5 st.1 (N6 st.1 st.2 hd hf hn ?_);dsimp only;refine Qqx ?_;rw[Qjj];refine B.stop _ _ s _ st.2 ?_;dsimp only;refine Qqx (Qjv st.1 (by simp) λg1 h1 e1=>?_);refine stop (s:={ s with heap:=g1 }) (by simpa using hh) λg e k he=>⟨e,rfl,he,?_⟩;exact hQ _ ⟨λb u hb z=>k b u ((e1.2 b (λq=>hb (by simp[q]))).trans z),rfl,rfl,rfl,Qq2 _⟩
 self:=λi s Q E st hQ=>Nm st.1 hQ
def Qa{I a T:Addr}{o oT:Obj}{es:Array (Int×Value)}{ep:Nat}{t:SetTable}{ps:List Nat}{os:List Value}(hh:A.handled=none)(hia:a≠I)(hit:T≠I)(hd:o.data = .set es ep t)(hf:t.fits es.size=true)(hn:es.size=os.length)
  {k:Nat} (hT:oT.data = .seq (ps.map λ(i:Nat)=>rawInt i).toArray k) (hp:ps.length=os.length) (ho:∀(i p:Nat) (v:Value),ps[i]? = some p->os[i]? = some v->∃h,es[p]? = some (h,v)) :
  WalksS P w A I [I,a,T] [I] (λg g'=>g'=g) os.length (λi v=>os[i]? = some v) (λi s=>s.heap.get? I=some (Oh (.ref T) i a os.length ep)/\s.heap.get? a=some o/\s.heap.get? T=some oT) where
 sub:=λb z=>by simp at z;simp[z]
 grefl:=λ_=>rfl
 gtrans:=λ_ _ _ x y=>y.trans x
 frame:=λi s g tk st _ k=>⟨k I (by simp) _ st.1,k a (by simp) _ st.2.1,k T (by simp) _ st.2.2⟩
 item:=λi s Q E hi st hQ=>by
  obtain⟨v,hv⟩:∃v,os[i]? = some v:=⟨os[i],by simp[hi]⟩;obtain⟨p,hpi⟩:∃p,ps[i]? = some p:=⟨ps[i]'(by omega),by simp[hp,hi]⟩;obtain⟨hs,hes⟩:=ho i p v hpi hv;refine N5 st.1 (N6 st.1 st.2.1 hd hf hn ?_);dsimp only;refine Qqx (wpAny_seqItems st.2.2 hT ?_);dsimp only;have hx:(ps.map λ(i:Nat)=>rawInt i).toArray[i]? = some (rawInt p):=by simp[hpi]
  rw[hx];dsimp only[rawInt];refine Qqx ?_;rw[Qjj];unfold setNextDrawn;refine Qqx (wpAny_setState_of st.2.1 hd hf ?_);dsimp only;rw[if_neg (by simp),hes];refine Qqw ?_;refine Qqx (Qjv st.1 (by simp) λg1 h1 e1=>?_);have kp:∀b u,b≠I->s.heap.get? b=some u->g1.get? b=some u:=λb u hb z=>(e1.2 b hb).trans z;refine Qqw ⟨v,rfl,hQ v _ hv ⟨?_,kp a _ hia st.2.1,kp T _ hit st.2.2⟩ ⟨λb u hb z=>kp b u (λq=>hb (by simp[q])) z,rfl,rfl,rfl,Qq2 _⟩⟩;rw[h1];simp[Oh]
 done:=λs Q E st hQ=>by
  refine N5 st.1 (N6 st.1 st.2.1 hd hf hn ?_);dsimp only;refine Qqx (wpAny_seqItems st.2.2 hT ?_);dsimp only;have hx:(ps.map λ(i:Nat)=>rawInt i).toArray[os.length]? = none:=by simp[hp]
  rw[hx];dsimp only;refine Qqx (Qjv st.1 (by simp) λg1 h1 e1=>?_);refine Qqx (Qjv h1 (by simp) λg2 h2 e2=>?_);refine stop (s:={ s with heap:=g2 }) (by simpa using hh) λg e k he=>⟨e,rfl,he,?_⟩;exact hQ _ ⟨λb u hb z=>k b u ((e2.2 b (λq=>hb (by simp[q]))).trans ((e1.2 b (λq=>hb (by simp[q]))).trans z)),rfl,rfl,rfl,Qq2 _⟩
 self:=λi s Q E st hQ=>Nm st.1 hQ
end
theorem um{α:Type}:∀{l:List α} {i:Nat} (h:i<l.length),(l[i]::l.eraseIdx i).Perm l
 | x::l,0,h=>by simp
 | x::l,i+1,h=>by
  have ih:=um (l:=l) (i:=i) (by simpa using h);rw[List.getElem_cons_succ,List.eraseIdx_cons_succ];exact(List.Perm.swap _ _ _).trans (ih.cons x)
theorem NB{α:Type}(next:Nat->Nat):∀(n k:Nat) (left:List α) (out:Array α),left.length=n->(pickOrder.go next n k left out).toList.Perm (out.toList++left)
 | 0,k,left,out,h=>by
  have:left=[]:=List.length_eq_zero_iff.mp h;subst this;simp[pickOrder.go]
 | n+1,k,left,out,h=>by
  have hl:next k % left.length<left.length:=Nat.mod_lt _ (by omega)
  have hx:left[next k % left.length]? = some left[next k % left.length]:=by simp[hl]
  unfold pickOrder.go;rw[hx];refine(NB next n (k+1) _ _ (by rw[List.length_eraseIdx_of_lt hl];omega)).trans ?_;rw[Array.toList_push,Qwk];refine List.Perm.append_left _ ?_;exact um hl
def QL{α:Type}(next:Nat->Nat)(xs:Array α):(pickOrder next xs).toList.Perm xs.toList:=by
 unfold pickOrder
 simpa using NB next xs.size 0 xs.toList #[] (by simp)
section
variable{P:Program}{w:World}{A:Around}{E:Value->Shared->Prop}{s:Shared}
def wp_choose{src:Source}{n:Nat}{Q:Nat->Shared->Prop}(hn:n≠0)(h:∀i d,i<n->Q i { s with drawn:=d }):wpAny (model P w) A (choose src n) Q E s:=by intro Γ p _;show Sem.wp _ _ (.choose src n .pure) _ _ _ _;rw[Sem.wp];exact⟨hn,h _ _ (Nat.mod_lt _ (Nat.pos_of_ne_zero hn))⟩
theorem DK{α:Type}:∀(n:Nat) (xs:List α) (s:Shared) (Q:List α->Shared->Prop),xs.length=n->(∀ys d,ys.Perm xs->Q ys { s with drawn:=d })->wpAny (model P w) A (drawOrder n xs) Q E s
 | 0,xs,s,Q,h,q=>by
  have:xs=[]:=List.length_eq_zero_iff.mp h;subst this;unfold drawOrder;refine Qqw ?_;have:=q [] s.drawn .rfl;cases s;exact this
 | n+1,x::xs,s,Q,h,q=>by
  unfold drawOrder;refine Qqx (wp_choose (by simp) λi d hi=>?_);have hx:(x::xs)[i]? = some ((x::xs)[i]):=by simp only[Qx5 hi]
  rw[hx];dsimp only;refine Qqx (DK n _ { s with drawn:=d } _ (by rw[List.length_eraseIdx_of_lt hi];simpa using h) λys d' p=>Qqw ?_);exact q _ d' ((p.cons _).trans (um hi))
def Wz{p:Array Nat}(h:p.size=1)(j:Nat):SetTable.below p j=if p.getD 0 j<j then 1 else 0:=by unfold SetTable.below;rw[h];unfold SetTable.below.go;rw[if_pos (by decide)];dsimp only;have:(0+1) / 2=0:=rfl;rw[this];split<;>rfl
def byText{Q:Bool->Shared->Prop}(h:Q (!led w) s):wpAny (model P w) A setsByText Q E s:=by unfold setsByText;refine Qqx (wpAny_askSetting (Qqw ?_));rw[led,Bool.not_not] at h;exact h
def Qt{a:Addr}{o:Obj}{es:Array (Int×Value)}{ep:Nat}{t:SetTable}(hd:o.data = .set es ep t)(hf:t.fits es.size=true)(hl:led w=false) :
  M5 P w a o ep (λ_=>0) ((pickOrder (w.params.setOrder a ep) es).toList.map (·.2)):=by
 have go:∀(A:Around) (E:Value->Shared->Prop) (s:Shared) (i:Nat) (Q:Option (Value×Nat)->Shared->Prop),s.heap.get? a=some o->Q (((pickOrder (w.params.setOrder a ep) es)[i]?).map λe=>(e.2,0)) s->wpAny (model P w) A (setNext a 0 i ep) Q E s:=by intro A E s i Q ho h;unfold setNext;refine Qqx (wpAny_setState_of ho hd hf ?_);dsimp only;refine Qqx (byText ?_);rw[hl];rw[if_pos (show(!false)=true from rfl),if_neg (by simp)];refine Qqx ?_;unfold setWalk;refine Qqx (wpAny_setState_of ho hd hf ?_);dsimp only;refine Qqx (byText ?_);rw[hl,if_pos (show(!false)=true from rfl)];exact Qqx (wpAny_askSetting (Qqw (Qqw h)))
 refine⟨λA E s i v Q ho hv h=>go A E s i Q ho ?_,λA E s Q ho h=>go A E s _ Q ho ?_⟩
 ·rw[Qx2,Array.getElem?_toList] at hv;obtain⟨e,he,rfl⟩:=Qw1.mp hv;rw[he];exact h
 ·have:(pickOrder (w.params.setOrder a ep) es)[((pickOrder (w.params.setOrder a ep) es).toList.map (·.2)).length]? = none:=by simp
  rw[this];exact h
def Tp{a:Addr}{o:Obj}{es:Array (Int×Value)}{ep:Nat}{t:SetTable}(hd:o.data = .set es ep t)(hf:t.fits es.size=true)(hw:led w=true)(hl:t.led=led w)(hz:¬es.size > 1) :
  M5 P w a o ep (λi=>if i=0 then 0 else t.place.getD 0 0+1) (es.toList.map (·.2)):=by
 have hp:t.place.size=es.size:=by simp only[SetTable.fits,Qwj,beq_iff_eq] at hf;exact hf.1
 have go:∀(A:Around) (E:Value->Shared->Prop) (s:Shared) (j i:Nat) (Q:Option (Value×Nat)->Shared->Prop),s.heap.get? a=some o->
   Q (match es[SetTable.below t.place j]?,t.place[SetTable.below t.place j]? with|some (_,x),some k=>some (x,k+1)|_,_=>none) s->wpAny (model P w) A (setNext a j i ep) Q E s:=by
  intro A E s j i Q ho h;unfold setNext;refine Qqx (wpAny_setState_of ho hd hf ?_);dsimp only;refine Qqx (byText ?_);rw[hw,if_neg (by simp)];show wpAny _ _ (if (!t.plain&&decide (es.size > 1))=true then _ else _) _ _ _;rw[if_neg (by rw[Qw6 hz];simp)];refine Qqx ?_;show wpAny _ _ (if (!t.led && !es.isEmpty)=true then _ else _) _ _ _;rw[if_neg (by rw[hl,hw];simp)];exact Qqw (Qqw h)
 have hc:es.size=0\/es.size=1:=by omega
 refine⟨λA E s i v Q ho hv h=>go A E s _ i Q ho ?_,λA E s Q ho h=>go A E s _ _ Q ho ?_⟩
 ·rcases hc with hc|hc
  ·have:es = #[]:=Array.size_eq_zero_iff.mp hc;subst this;simp at hv
  ·obtain⟨e,rfl⟩:∃e,es = #[e]:=Array.size_eq_one_iff.mp hc;obtain⟨p,pe⟩:∃p,t.place = #[p]:=Array.size_eq_one_iff.mp hp;have hi:i=0:=by
    rcases Nat.eq_zero_or_pos i with z|z
    ·exact z
    ·rw[Qjy (by simp;omega)] at hv;cases hv
   subst hi;simp at hv;subst hv;have hb:SetTable.below t.place 0=0:=by rw[Wz (by rw[pe];rfl)];simp
   simp only[if_pos];rw[hb,pe]
   simpa[pe] using h
 ·rcases hc with hc|hc
  ·have:es = #[]:=Array.size_eq_zero_iff.mp hc;subst this
   simpa using h
  ·obtain⟨e,rfl⟩:∃e,es = #[e]:=Array.size_eq_one_iff.mp hc;obtain⟨p,pe⟩:∃p,t.place = #[p]:=Array.size_eq_one_iff.mp hp;have hb:SetTable.below t.place (p+1)=1:=by rw[Wz (by rw[pe];rfl),pe];simp
   have hs:(if ([e].map (·.2)).length=0 then 0 else t.place.getD 0 0+1)=p+1:=by simp[pe]
   have hs':(if ((#[e]:Array (Int×Value)).toList.map (·.2)).length=0 then 0 else t.place.getD 0 0+1)=p+1:=hs;rw[hs',hb]
   simpa using h
def VG{a:Addr}{ys:List Str}{Q:Value->Shared->Prop}(x:pF P w s.heap a ys)(hz:ys.length<64)
  (h:∀(g:Heap) (d:Drawn) (I:Addr) (fp:List Addr) (os:List Value) (St:Nat->Shared->Prop),(∀A':Around,A'.handled=none->WalksS P w A' I fp [I] (λg g'=>g'=g) os.length (λi v=>os[i]? = some v) St)->St 0 { s with heap:=g,drawn:=d }->
   (∀b∈fp,b=a\/s.heap.objs.size<=b)->s.heap.objs.size<=I->os.length=ys.length->(∃ss,StrsAre os ss/\ss.Perm ys)->(∀b o,s.heap.get? b=some o->g.get? b=some o)->Q (.ref I) { s with heap:=g,drawn:=d }) :
  wpAny (model P w) A (pyIter (.ref a)) Q E s:=by
 obtain⟨o,es,ep,t,ho,hx,hd,k⟩:=x;have hT:s.TypeIs (.ref a) "set":=⟨o,ho,hx.1⟩;have hlt:a<s.heap.objs.size:=Qq9 ho;have hn:es.size=ys.length:=k.size;obtain⟨ss,s1,s2⟩:=k.tx;refine wpAny_pyIter_slot hT PySem.F.slot_set_iter (Qz3 PySem.F.slot_set_iter hT Wh ?_ (PySem.F.args_set_iter_1 _));unfold Builtin.«frozenset.__iter__» Builtin.Frozenset.slot0 slotArgs;simp only[List.isEmpty_nil,Bool.not_true,Bool.false_eq_true, ↓reduceIte,bind_assoc,Qz8,bne_self_eq_false];unfold Builtin.Frozenset.addrOf Builtin.Frozenset.sizeOf;refine Qqx (Qqw ?_);dsimp only;refine Qqx (Qqw ?_);refine Qqx (Qqx (wpAny_setEntries_of ho hd k.fit (Qqw ?_)));refine Qqx ?_;unfold setDrawn;refine Qqx (wpAny_setState_of ho hd k.fit ?_);dsimp only;refine Qqx (byText (Qqw ?_));show wpAny _ _ (if (!(!led w)&&(!t.plain&&decide (es.size > 1)))=true then _ else _) _ _ _;by_cases hl:led w=true
 ·by_cases hz1:es.size > 1
  ·have hp:t.plain=false:=k.pl (by omega);rw[if_pos (by rw[hl,hp,Qw8 hz1];rfl)];refine Qqx (DK _ _ s _ (by simp) λps d pp=>?_);refine Qqx (wpAny_newTuple ?_ (by rw[Qqk,pp.length_eq,List.length_range,hn];exact Qqj (Qj0 hz) (by decide)));refine Qqx (wpAny_setEpoch_of (Qqz _ ho) hd k.fit ?_);refine Qqx (Qx3 (Qqw ⟨_,rfl,"set_iterator",_,⟨_,Qq6 _ rfl,rfl⟩,rE.lookup,?_⟩))
   let f:Nat->Value:=λp=>((es[p]?).map (·.2)).getD .none
   have ef:(List.range es.size).map f=es.toList.map (·.2):=by
    apply List.ext_getElem
    ·simp
    ·intro i h1 h2;have hi:i<es.size:=by simpa using h1
     simp[f,hi]
   have hos:(ps.map f).length=es.size:=by rw[Qqk,pp.length_eq,List.length_range]
   have hperm:(ps.map f).Perm (es.toList.map (·.2)):=by rw[<-ef];exact pp.map f
   obtain⟨rs,q1,q2⟩:=rz hperm s1;have sz:(s.heap.push { cls:=.type "tuple",data:=.seq (ps.map λ(i:Nat)=>rawInt i).toArray }).objs.size=s.heap.objs.size+1:=Qjz _ _;have e1:((s.heap.push { cls:=.type "tuple",data:=.seq (ps.map λ(i:Nat)=>rawInt i).toArray }).push (Oh (.ref s.heap.objs.size) 0 a es.size ep)).get? s.heap.objs.size=some { cls:=.type "tuple",data:=.seq (ps.map λ(i:Nat)=>rawInt i).toArray }:=
    Qqz _ (Qq6 _ rfl)
   have a1:a≠(s.heap.push { cls:=.type "tuple",data:=.seq (ps.map λ(i:Nat)=>rawInt i).toArray }).objs.size:=by rw[sz];exact Qwv (Qjk hlt)
   have a2:s.heap.objs.size≠(s.heap.push { cls:=.type "tuple",data:=.seq (ps.map λ(i:Nat)=>rawInt i).toArray }).objs.size:=by rw[sz];exact Qwv (Nat.lt_succ_self _)
   refine h _ d _ [_,a,s.heap.objs.size] (ps.map f) _ (λA' hA=>Qa (ps:=ps) hA a1 a2 hd k.fit hos.symm rfl (by rw[Qqk]) λi p v h1 h2=>?_) ⟨?_,Qqz _ (Qqz _ ho),e1⟩ (λb hb=>?_) (by rw[sz];exact Nat.le_succ _) (hos.trans hn) ⟨rs,q1,q2.trans s2⟩ λb u e=>Qqz _ (Qqz _ e)
   ·rw[Qx2,h1] at h2;simp only[Qkz,Qw2] at h2;have hm:p∈List.range es.size:=pp.mem_iff.mp (Qj1 h1);have hp:p<es.size:=Qx1.mp hm;refine⟨es[p].1,?_⟩;rw[<-h2];simp[f,hp]
   ·have:=Qq6 (s.heap.push { cls:=.type "tuple",data:=.seq (ps.map λ(i:Nat)=>rawInt i).toArray }) (o:=Oh (.ref s.heap.objs.size) 0 a (ps.map f).length ep) rfl;rw[hos] at this ⊢;exact this
   ·simp only[Qq1,Qwz,Qz4] at hb;rcases hb with rfl|rfl|rfl
    ·exact .inr (by rw[sz];exact Nat.le_succ _)
    ·exact .inl rfl
    ·exact .inr (Qq2 _)
  ·rw[if_neg (by rw[Qw6 hz1];simp)];refine Qqx (Qqw ?_);refine Qqx (wpAny_setEpoch_of ho hd k.fit ?_);refine Qqx (Qx3 (Qqw ⟨_,rfl,"set_iterator",_,⟨_,Qq6 _ rfl,rfl⟩,rE.lookup,?_⟩));have hos:(es.toList.map (·.2)).length=es.size:=by simp
   have e0:=Qq6 s.heap (o:=Oh (.int 0 0) 0 a (es.toList.map (·.2)).length ep) rfl;have:=h (s.heap.push (Oh (.int 0 0) 0 a (es.toList.map (·.2)).length ep)) s.drawn s.heap.objs.size [s.heap.objs.size,a] (es.toList.map (·.2)) _ (λA' hA=>CG hA (Qwv hlt) hd k.fit hos.symm (Tp hd k.fit hl k.ld hz1)) ⟨e0,Qqz _ ho⟩ (λb hb=>by
    simp only[Qq1,Qwz,Qz4] at hb;rcases hb with rfl|rfl
    ·exact .inr (Qq2 _)
    ·exact .inl rfl) (Qq2 _) (hos.trans hn) ⟨ss,s1,s2⟩ λb u e=>Qqz _ e
   rw[hos] at this;cases s;exact this
 ·have hl:led w=false:=by simpa using hl
  rw[if_neg (by rw[hl];simp)];refine Qqx (Qqw ?_);refine Qqx (wpAny_setEpoch_of ho hd k.fit ?_);refine Qqx (Qx3 (Qqw ⟨_,rfl,"set_iterator",_,⟨_,Qq6 _ rfl,rfl⟩,rE.lookup,?_⟩));have pk:=QL (w.params.setOrder a ep) es;have hos:((pickOrder (w.params.setOrder a ep) es).toList.map (·.2)).length=es.size:=by rw[Qqk,pk.length_eq];simp
  obtain⟨rs,q1,q2⟩:=rz (pk.map (·.2)) s1;have e0:=Qq6 s.heap (o:=Oh (.int 0 0) 0 a ((pickOrder (w.params.setOrder a ep) es).toList.map (·.2)).length ep) rfl;have:=h (s.heap.push (Oh (.int 0 0) 0 a ((pickOrder (w.params.setOrder a ep) es).toList.map (·.2)).length ep)) s.drawn s.heap.objs.size [s.heap.objs.size,a] ((pickOrder (w.params.setOrder a ep) es).toList.map (·.2)) _ (λA' hA=>CG hA (Qwv hlt) hd k.fit hos.symm (Qt hd k.fit hl)) ⟨e0,Qqz _ ho⟩ (λb hb=>by
   simp only[Qq1,Qwz,Qz4] at hb;rcases hb with rfl|rfl
   ·exact .inr (Qq2 _)
   ·exact .inl rfl) (Qq2 _) (hos.trans hn) ⟨rs,q1,q2.trans s2⟩ λb u e=>Qqz _ e
  rw[hos] at this;cases s;exact this
def VM{r:Addr}{Q:Bool->Shared->Prop}(hT:s.TypeIs (.ref r) "set")(h:Q false s):wpAny (model P w) A (Builtin.List.listLengthHint (.ref r)) Q E s:=by
 unfold Builtin.List.listLengthHint;refine Qqx (Qj4 hT PySem.F.slot_set_len.lookup ?_);generalize hid:("set.__len__" : String)=id0
 wp_delta
 rw[show splitId id0=some ("set","__len__") from by subst hid;decide +kernel];subst hid;refine Qqx (wpAny_isInstance (T:="set") (b:=true) hT (by rw[isSubtype_type];kernel_rfl) ?_);refine wpAny_ite_split (λz=>absurd z (by decide)) (λ_=>?_);refine wpAny_ite_split (λ_=>?_) (λz=>absurd (by decide +kernel) z);exact Qqx (wpAny_typeOf hT (Qqw h))
def VH{os:List Value}{acc:Array Value}(h:ItemsOf (λi v=>os[i]? = some v) acc os.length):acc.toList=os:=by
 apply List.ext_getElem?;intro i;rw[Array.getElem?_toList];by_cases hi:i<acc.size
 ·have e:acc[i]? = some acc[i]:=by simp[hi]
  rw[e,h.2 i _ e]
 ·have h1:acc[i]? = none:=by simp;omega
  have h2:os[i]? = none:=by simp;rw[<-h.1];omega
  rw[h1,h2]
def JD{a:Addr}{ys:List Str}{Q:List Value->Shared->Prop}(hh:A.handled=none)(x:pF P w s.heap a ys)(hz:ys.length<64)
  (h:∀(g:Heap) (d:Drawn) (tk:Nat) (os:List Value),(∃ss,StrsAre os ss/\ss.Perm ys)->os.length=ys.length->(∀b o,s.heap.get? b=some o->g.get? b=some o)->Q os { s with heap:=g,drawn:=d,toks:=tk }) :
  wpAny (model P w) A (collect (.ref a)) Q E s:=by
 have hT:∀h':Heap,pF P w h' a ys->Shared.TypeIs { s with heap:=h' } (.ref a) "set":=λh' ⟨o,_,_,_,e,r,_⟩=>⟨o,e,r.1⟩;have hlt:a<s.heap.objs.size:=let ⟨o,_,_,_,e,_⟩:=x;Qq9 e
 unfold collect;refine Qqx (wpAny_runValue (Qj5 PySem.F.entry_proto_collect ?_));rw[Around.under_plainId PySem.F.plain_proto_collect _];show wpAny _ A.in1 (newList [] >>= λl=>again (.builtin "list.__iadd__" ⟨[l,.ref a],[]⟩)) _ _ s;refine Qqx (Qx3 (Qqw ⟨plainId_quiet PySem.F.plain_list_iadd _,Qj5 PySem.F.entry_list_iadd ?_⟩));rw[Around.under_plainId PySem.F.plain_list_iadd _];have l0:(s.heap.push { cls:=.type "list",data:=.seq ([]:List Value).toArray }).get? s.heap.objs.size=some { cls:=.type "list",data:=.seq #[] }:=Qq6 _ rfl;have x0:pF P w (s.heap.push { cls:=.type "list",data:=.seq ([]:List Value).toArray }) a ys:=x.keep λo e=>Qqz _ e;show wpAny _ A.in1 (Builtin.List.listExtendWith (.ref s.heap.objs.size) (.ref a) (.ref s.heap.objs.size)) _ _ _;unfold Builtin.List.listExtendWith;refine Qqx (wpAny_typeOf (T:="set") (hT _ x0) ?_);have n1:Builtin.List.listSameRef (.ref s.heap.objs.size) (.ref a)=false:=by simp[Builtin.List.listSameRef,Nat.ne_of_gt hlt]
 rw[if_neg (by rw[n1];decide)];refine Qqx (VG (s:={ s with heap:=s.heap.push { cls:=.type "list",data:=.seq ([]:List Value).toArray } }) x0 hz λg d I fp os St W st hfp hI hos hss kp=>?_);have sz:(s.heap.push { cls:=.type "list",data:=.seq ([]:List Value).toArray }).objs.size=s.heap.objs.size+1:=Qjz _ _;have kp0:∀b o,s.heap.get? b=some o->g.get? b=some o:=λb o e=>kp b o (Qqz _ e);have l1:g.get? s.heap.objs.size=some { cls:=.type "list",data:=.seq #[] }:=kp _ _ l0;have hSf:s.heap.objs.size ∉ fp:=λz=>by
  rcases hfp _ z with e|e
  ·exact absurd e (Nat.ne_of_gt hlt)
  ·dsimp only at e;rw[sz] at e;exact absurd e (Nat.not_succ_le_self _)
 refine Qqx (Qzz (VM (s:={ s with heap:=g,drawn:=d }) (let ⟨o,_,_,_,e,r,_⟩:=x.keep λo e=>kp0 _ o e;⟨o,e,r.1⟩) ?_));have W':=W A.in1 (by simpa using hh);have hn:os.length<=sizeLine:=by rw[hos];exact Qqj (Qj0 hz) (by decide)
 have key:∀(g1:Heap) (c:Nat),St 0 { s with heap:=g1,drawn:=d }->(∀b o,s.heap.get? b=some o->g1.get? b=some o)->g1.get? s.heap.objs.size=some { cls:=.type "list",data:=.seq #[] c }->
   codeAny (model P w) A (.builtin "list.extend.loop" ⟨[.ref s.heap.objs.size,.ref I,.ref s.heap.objs.size],[]⟩) (λr s'=>wants (λv s2=>wpAny (model P w) A ((match v with
    | .ref a=>do match (<-load a).data with
     | .seq xs _=>pure xs.toList
     | _=>unsupported "internal:collect"
    | _=>unsupported "internal:collect"):Sem (List Value)) Q E s2) E r s') { s with heap:=g1,drawn:=d }:=by
  intro g1 c st1 k1 l2;refine codeAny_extend_loopS W' hn s.heap.objs.size hSf (.ref s.heap.objs.size) os.length 0 _ #[] c rfl (Qzy _) st1 l2 (ItemsOf.nil _) λs' acc c' m hS hacc=>?_;show wpAny _ _ (load s.heap.objs.size >>= _) _ _ _;refine Qqx (wpAny_load hS (Qqw ?_));rw[VH hacc,Moved.eq_with m];refine h s'.heap d s'.toks os hss hos λb o e=>m.heap b o (λz=>?_) (k1 b o e);rcases Qq1.mp z with z|z
  ·exact absurd (Qq9 e) (by rw[z];exact Qz1 _)
  ·rw[Qww.mp z] at e;have:=Qq9 e;dsimp only at hI;rw[sz] at hI;exact absurd (Qwy this (Qj7 hI)) (Qz1 _)
 dsimp only;split
 ·refine Qqx (wpAny_rule (Qqx ?_));show wpAny _ _ (updateSeq s.heap.objs.size (·.push .none) >>= λ_=>updateSeq s.heap.objs.size (·.pop)) _ _ _;refine Qqx (wpAny_updateSeq l1 rfl ?_);have l2:=Heap.get?_update_self (Obj.mapSeq (·.push Value.none)) l1 rfl;refine wpAny_updateSeq (hz:=by seq_fits) l2 rfl ?_;have l3:=Heap.get?_update_self (Obj.mapSeq (·.pop)) l2 rfl;have oth:∀b o,b≠s.heap.objs.size->g.get? b=some o->((g.update s.heap.objs.size (Obj.mapSeq (·.push Value.none))).update s.heap.objs.size (Obj.mapSeq (·.pop))).get? b=some o:=λb o hb e=>
   (Heap.get?_update_other _ _ (Ne.symm hb)).trans ((Heap.get?_update_other _ _ (Ne.symm hb)).trans e)
  refine Qqw ⟨plainId_quiet PySem.F.plain_extend_loop _,key _ _ ?_ (λb o e=>oth b o (Qwv (Qq9 e)) (kp0 b o e)) l3⟩;exact W'.frame 0 { s with heap:=g,drawn:=d } _ _ st (Qq2 _) λb hb o e=>oth b o (λz=>hSf (z ▸ hb)) e
 ·exact Qqw ⟨plainId_quiet PySem.F.plain_extend_loop _,key g _ st kp0 l1⟩
end
open PySem PySem.Spec PyProof.Rows L2 PySem.Builtin Ev
def _root_.L2.Inv.dr{X:Cx}{pins:List (Addr×Obj)}{σ:L2.St}{H:Hp}{s:Shared}(I:L2.Inv X pins σ H s)(d:Drawn):L2.Inv X pins σ H { s with drawn:=d }:=
 ⟨I.ok,I.os,I.bare,I.base,I.loc,I.cell,I.free,I.lq,I.pin,I.hok,I.len⟩
def WW(P:Program)(w:World)(a:Addr)(ys:List Str):HO:=.ext λh=>pF P w h a ys
def afz(X:Cx):List V->Hp->VK->Prop:=λxs H Q=>∃(p:Addr) (zs:List (List Nat)),xs=[.ref p]/\j8 X.K H p (zs.map λz=>V.str (Ev.strOf z))/\zs.length<64/\∀l,H l=none->Q (.ref l) (upd H l (WW X.prog X.w l (xD (zs.map Ev.strOf))))
def Ue(X:Cx):List V->Hp->VK->Prop:=λxs H Q=>∃(p:Addr) (zs:List (List Nat)),xs=[.ref p]/\H p=some (WW X.prog X.w p (zs.map Ev.strOf))/\zs.length<64/\∀l,H l=none->Q (.ref l) (upd H l (.lst ((fD zs).map λz=>V.str (Ev.strOf z))))
section
variable{X:Cx}{C:Cfg}{pos:Pos}
def Wr(hc:X.calm=true):gQ X (.type "set") (afz X):=by intro pins s σ H xs us Q I r h;obtain⟨p,zs,rfl,hq,hz,q⟩:=h;obtain⟨u,rfl,rx⟩:=vals1 r;cases rx;obtain⟨its,r',pl,_⟩:=I.list hq;have hS:StrsAre its (zs.map Ev.strOf):=nT r';refine ab8 (I.ok.hd hc) pl.isList (zs:=zs.map Ev.strOf) (by simpa using hS) (by rw[Qqk];exact Qx6 (Nat.succ_le_of_lt hz) (by decide)) λg tk x k=>?_;refine⟨.ref s.heap.objs.size,_,I.laid (t':=tk) k (Qq2 _) (o:=WW X.prog X.w s.heap.objs.size (xD (zs.map Ev.strOf))) ⟨x,?_,λh1 h2 y kk=>y.keep kk⟩,rfl,q _ (I.hok.fresh (Qq2 _))⟩;obtain⟨o,_,_,_,e,_⟩:=x;exact⟨o,e⟩
def Mq(hc:X.calm=true):gQ X (.builtin "sorted") (Ue X):=by intro pins s σ H xs us Q I r h;obtain⟨p,zs,rfl,hq,hz,q⟩:=h;obtain⟨u,rfl,rx⟩:=vals1 r;cases rx;have x:pF X.prog X.w s.heap p (zs.map Ev.strOf):=(I.hok p _ hq).1;refine Calls.call_function_entry kind_sorted plain_sorted entry_sorted (args_sorted1 _) ?_;unfold Builtin.«sorted»;refine Qqx (m:=checkCount "sorted" 1 1 _) (Qqw ?_);refine Qqx (JD (A:=X.A.in1) (I.ok.hd hc) x (by rw[Qqk];exact hz) λh' d tk os hss hlen hk=>?_);obtain⟨ss,hS,pS⟩:=hss;rw[Qqk] at hlen;refine Qqx (wpAny_newList ?_ (by rw[hlen];exact Qqj (Qj0 hz) (by decide)));have hoL:(h'.push (seqObj "list" os.toArray 0)).get? h'.objs.size=some (seqObj "list" os.toArray 0):=Qq6 _ rfl;show wpAny _ _ _ _ _ { s with heap:=h'.push (seqObj "list" os.toArray 0),drawn:=d,toks:=tk };refine Qqx (Qzz (Qz3 slot_list_sort ⟨_,hoL,rfl⟩ entry_list_sort (list_sort_treeK strKind_oneLt hoL hS.keysOf (λv₁ v₂ rest e=>keyKind_strs (by rw[<-e];exact hS)) (by rw[hlen];exact hz) λst' b1 b2=>⟨_,rfl,?_⟩) (args_list_sort _)));obtain⟨ss',a1,a2,a3⟩:=sorted_out_str hS b1 b2;obtain⟨e,he⟩:=sortedHeap_at (out:=(arrOf st').map (·.2)) hoL;refine Qqw ⟨_,rfl,?_⟩;have I1:L2.Inv X pins σ H { s with heap:=h',drawn:=d,toks:=tk }:=(I.kept hk).dr d;refine zf (s:={ s with heap:=h',drawn:=d,toks:=tk }) (tk:=tk) I1 hz q a1 (a2.trans pS) a3 (λb o e=>?_) (Qq2 _) he;have lt':=Qq9 e;rw[sortedHeap_old (Qwv lt') (by rw[size_push'];exact Qjk lt')];exact Qqz _ e
end
def RT(ys:List (List Nat))(x:List Nat):List (List Nat):=if x∈ys then ys else ys++[x]
def xE(zs:List (List Nat)):List (List Nat):=zs.foldl RT []
def rB{x y:List Nat}(h:Ev.strOf x=Ev.strOf y):x=y:=by
 have:=Qz0 (λs:Str=>s.cps.toList) h
 simpa[Ev.strOf] using this
def WN(ys:List (List Nat))(x:List Nat):(RT ys x).map Ev.strOf=vG (ys.map Ev.strOf) (Ev.strOf x):=by
 unfold RT vG;by_cases h:x∈ys
 ·rw[if_pos h,if_pos (Qw0.mpr ⟨x,h,rfl⟩)]
 ·rw[if_neg h,if_neg (λz=>h (by obtain⟨y,hy,e⟩:=Qw0.mp z;rw[<-rB e];exact hy)),Qxz]
  rfl
theorem Hk:∀(zs ys:List (List Nat)),(zs.foldl RT ys).map Ev.strOf=(zs.map Ev.strOf).foldl vG (ys.map Ev.strOf)
 | [],ys=>rfl
 | z::zs,ys=>by rw[Qx4,Hk zs,WN,Qq7,Qx4]
def CN(zs:List (List Nat)):(xE zs).map Ev.strOf=xD (zs.map Ev.strOf):=Hk zs []
theorem CK:∀(zs ys:List (List Nat)) (x:List Nat),x∈zs.foldl RT ys↔x∈ys\/x∈zs
 | [],ys,x=>by simp
 | z::zs,ys,x=>by
  rw[Qx4,CK zs];unfold RT;by_cases h:z∈ys
  ·rw[if_pos h,Qq1];constructor
   ·rintro(a|a)
    ·exact .inl a
    ·exact .inr (.inr a)
   ·rintro(a|rfl|a)
    ·exact .inl a
    ·exact .inl h
    ·exact .inr a
  ·rw[if_neg h,Qw4,Qww,Qq1,or_assoc]
def Qc(zs:List (List Nat)):(xE zs).length<=zs.length:=by
 have h:=Hj (zs.map Ev.strOf) [];have e:=Qz0 List.length (CN zs);rw[Qqk] at e;rw[e]
 simpa[xD] using h
end SX
namespace Ev
open PySem PySem.Spec PyProof.Rows L2 PySem.Builtin
def qO:D->Option D
 | .lst ds=>(fP ds).bind λzs=>if zs.length<64/\(∀z∈zs,z.length<=sizeLine) then some (.lst ((fD (SX.xE zs)).map .str)) else none
 | _=>none
section
variable{X:Cx}{C:Cfg}{pos p p2 pos2:Pos}{e:Expr}{a:Ev}
def Ud:List V->Hp->VK->Prop:=λxs H Q=>∃z:Str,xs=[.str z]/\z.length<=sizeLine/\∀l,H l=none->Q (.ref l) (upd H l (.tup (z.cps.toList.map λc=>V.str ⟨#[c]⟩)))
theorem zj:∀(cs:List Nat) (vs:List Value),vs.length=cs.length->(∀(j:Nat) (v:Value),vs[j]? = some v->∃(c:Nat) (u:Tok),cs[j]? = some c/\v=Value.str ⟨#[c]⟩ u)->Vals (cs.map λc=>V.str ⟨#[c]⟩) vs
 | [],vs,hl,_=>by rw[Qzk hl];exact .nil
 | c::cs,[],hl,_=>by simp at hl
 | c::cs,v::vs,hl,hv=>by
  obtain⟨c',u,e1,e2⟩:=hv 0 v rfl;simp at e1;subst e1 e2;exact .cons ⟨u,rfl⟩ (zj cs vs (by simpa using hl) λj w hw=>by simpa using hv (j+1) w (by simpa using hw))
def RG(hh:X.calm=true):gQ X (.type "tuple") Ud:=by
 intro pins s σ H xs us Q I r h;obtain⟨z,rfl,hz,q⟩:=h;obtain⟨u,rfl,⟨t,rfl⟩⟩:=vals1 r;refine call_tuple_str (I.ok.hd hh) z t (λh' tk acc kp hacc=>?_) (by simpa[Str.length] using hz);have I1:L2.Inv X pins σ H { s with heap:=h',toks:=tk }:=I.kept kp;have hv:Vals (z.cps.toList.map λc=>V.str ⟨#[c]⟩) acc.toList:=by obtain⟨hsz,hit⟩:=hacc;refine zj _ _ (by simpa using hsz) λj v hv=>?_;obtain⟨c,u,e1,e2⟩:=hit j v (by simpa using hv);exact⟨c,u,by simpa using e1,e2⟩
 have I2:=I1.laid (t':=tk) (h':=h'.push { cls:=.type "tuple",data:=.seq acc.toList.toArray }) (a:=h'.objs.size) (o:=.tup (z.cps.toList.map λc=>V.str ⟨#[c]⟩)) (λb o e=>Qqz _ e) (Qq2 _) ⟨by simpa[Str.length] using hz,acc.toList,hv,Cq.new _ _⟩;have e:acc.toList.toArray=acc:=by simp
 rw[e] at I2;exact⟨.ref h'.objs.size,_,I2,rfl,q _ (I1.hok.fresh (Qq2 _))⟩
def Ov:List D->Option D
 | [.str x]=>some (.tup (signs x))
 | _=>none
def Z1:CallD C Ud Ov:=by
 intro Pr F env σ H ds d vs Q r hs h q;unfold Ov at h;split at h
 ·rename_i x;cases h;obtain⟨v,rfl,hv⟩:=jK hs;obtain⟨rfl,hz⟩:=hv.str;refine⟨_,rfl,by rw[aW];exact hz,λl hl=>?_⟩;obtain⟨r2,s2⟩:=r.new (o:=.tup ((strOf x).cps.toList.map λc=>V.str ⟨#[c]⟩)) hl;refine q _ _ _ r2 s2 ⟨by simpa[signs] using hz,l,_,rfl,pO.of bu,?_⟩;have e:(strOf x).cps.toList=x:=by simp[strOf]
  rw[e];exact tO x
 ·cases h
structure PXL(X:Cx)(C:Cfg)(es:List Expr)(ev:di):Prop where
 go:PL X C es ev
def Yg:PXL X C [] ak:=⟨Fw⟩
end
open PySem L2
def nr{α:Type}{a b:α}(h:a=b):a=b:=h
def bR{α β:Type}(a:α)(e:Env)(f:α->Env->R β):bindR (.ok a e) f=f a e:=nr rfl
def bO{α:Type}(a:α)(e:Env)(f:α->Env->Out):jB (.ok a e) f=f a e:=nr rfl
def lR{α:Type}(a:α)(e:Env):fJ (some a) e = .ok a e:=nr rfl
def stk{α:Type}(_:Env):R α:=.stuck
def rdO{α:Type}(o:Option (Option (Bool×D)))(f:Bool->D->R α):R α:=match o with
 | some (some (o,d))=>f o d
 | _=>.stuck
def rS{α:Type}(o:Bool)(d:D)(f:Bool->D->R α):rdO (some (some (o,d))) f=f o d:=nr rfl
def kRd(env:Env)(_:Bool)(d:D):R D:=.ok d env
def aa6(env:Env)(o:Bool)(d:D):kRd env o d = .ok d env:=nr rfl
def Wa(i:Nat)(env:Env):bw i env=rdO env[i]? (kRd env):=by unfold bw rdO;rfl
def LC(g:D->D->Option D)(y:D)(e:Env)(_:Bool)(x:D):R D:=fJ (g x y) e
def LK(g:D->D->Option D)(i:Nat)(y:D)(e:Env):R D:=rdO e[i]? (LC g y e)
def aa8(g:D->D->Option D)(i:Nat)(b:Ev)(env:Env)(_:Bool)(_:D):R D:=bindR (b env) (LK g i)
def VB(g:D->D->Option D)(y:D)(e:Env)(o:Bool)(x:D):LC g y e o x=fJ (g x y) e:=nr rfl
def VD(g:D->D->Option D)(i:Nat)(y:D)(e:Env):LK g i y e=rdO e[i]? (LC g y e):=nr rfl
def Zk(g:D->D->Option D)(i:Nat)(b:Ev)(env:Env)(o:Bool)(d:D):aa8 g i b env o d=bindR (b env) (LK g i):=nr rfl
def Wd(g:D->D->Option D)(i:Nat)(b:Ev)(env:Env):aA g i b env=rdO env[i]? (aa8 g i b env):=by unfold aA rdO;rfl
def afu(o:Out):Option D:=match o with
 | .rt false d _=>some d
 | .nx _=>some .non
 | _=>none
def acd(n:Nat)(ev:cR)(ds:List D):gV n ev ds=afu (ev (envOf n ds)):=nr rfl
def dRt(d:D)(e:Env):afu (.rt false d e)=some d:=nr rfl
def dX{a b:List Nat}(h:a.length+b.length<=sizeLine):aP (.str a) (.str b)=some (.str (a++b)):=if_pos h
def O1{a b:List D}(h:a.length+b.length<=sizeLine):o9 (.lst a) (.lst b)=some (.lst (a++b)):=if_pos h
def V3(xs:List D)(lo hi:Option Int):ad6 (.tup xs) lo hi=some (.tup (cutD xs lo hi)):=by
 show(if HT.fc xs.length 0 lo=0/\HT.fc xs.length xs.length hi=xs.length then some (D.tup xs) else some (D.tup (cutD xs lo hi)))=_;split
 ·rename_i h;unfold cutD;rw[h.1,h.2];simp
 ·rfl
def agC(xs:List D)(k:Int):je (.tup xs) (.int k)=sr xs k:=nr rfl
def agD(xs:List D)(k:Int):je (.lst xs) (.int k)=sr xs k:=nr rfl
def atN{α:Type}(xs:List α)(k:Nat):sr xs (k:Int)=xs[k]?:=by
 cases h:xs[k]? with
 | some x=>exact lG h
 | none=>
  have hl:xs.length<=k:=List.getElem?_eq_none_iff.mp h;unfold sr Zo;rw[if_pos (Int.natCast_nonneg k),if_neg (by omega)]
  rfl
def aeb(i j:Int):aP (.int i) (.int j)=some (.int (i+j)):=nr rfl
def abe(a b:List Nat):kJ (.str a) (.str b)=some (.bl (a == b)):=nr rfl
def abd(a b:List Nat):Bp (.str a) (.str b)=some (.bl (!(a == b))):=nr rfl
def abg(a b:Int):kJ (.int a) (.int b)=some (.bl (a == b)):=nr rfl
def agz(a b:List Nat):gLt (.str a) (.str b)=some (.bl (decide (a<b))):=nr rfl
def ad5(a b:Int):Af (.int a) (.int b)=some (.int (a - b)):=nr rfl
theorem agM{α:Type}(p:α->Bool):∀l:List α,mV (l.map λa=>D.bl (p a))=some (l.map p)
 | []=>rfl
 | a::l=>by
  rw[Qq7];unfold mV;rw[agM p l]
  rfl
def Dy{α:Type}(p:α->Bool)(l:List α):rY [.lst (l.map λa=>D.bl (p a))]=some (.bl (l.all p)):=by show(mV _).map _=_;rw[agM];simp[List.all_map]
def ab3(n:Nat):iR 0 1 n=(List.range n).map λ(i:Nat)=>D.int (i:Int):=by
 unfold iR;apply Qz5;intro i _
 congr 1
 omega
def aft{n:Nat}(h:n<2^62):qy [.int (n:Int)]=some ((List.range n).map λ(i:Nat)=>D.int (i:Int)):=by
 have hf:mO (n:Int)=true:=by unfold mO;simp only[Qwj,decide_eq_true_eq];omega
 show(if mO (n:Int)=true then some (iR 0 1 (n:Int).toNat) else none)=_;rw[if_pos hf,Qjj,ab3]
def agj(d:D)(e:Env):Out:=.rt false d e
def adQ(d:D)(e:Env):agj d e = .rt false d e:=nr rfl
def Xx(a:Ev)(env:Env):bW a env=jB (a env) agj:=nr rfl
def Wc(d:D)(env:Env):jR d env = .ok d env:=nr rfl
def O7(env:Env):ak env = .ok [] env:=nr rfl
def Lz(d:D)(ds:List D)(e:Env):R (List D):=.ok (d::ds) e
def aa7(r:di)(d:D)(e:Env):R (List D):=bindR (r e) (Lz d)
def Je(d:D)(ds:List D)(e:Env):Lz d ds e = .ok (d::ds) e:=nr rfl
def Od(r:di)(d:D)(e:Env):aa7 r d e=bindR (r e) (Lz d):=nr rfl
def Jv(a:Ev)(r:di)(env:Env):aa a r env=bindR (a env) (aa7 r):=nr rfl
def VF(g:D->D->Option D)(x y:D)(e:Env):R D:=fJ (g x y) e
def agk(g:D->D->Option D)(b:Ev)(x:D)(e:Env):R D:=bindR (b e) (VF g x)
def Oe(g:D->D->Option D)(x y:D)(e:Env):VF g x y e=fJ (g x y) e:=nr rfl
def Vz(g:D->D->Option D)(b:Ev)(x:D)(e:Env):agk g b x e=bindR (b e) (VF g x):=nr rfl
def O8(g:D->D->Option D)(a b:Ev)(env:Env):az g a b env=bindR (a env) (agk g b):=nr rfl
def kUn{α β:Type}(g:α->Option β)(x:α)(e:Env):R β:=fJ (g x) e
def aa5{α β:Type}(g:α->Option β)(x:α)(e:Env):kUn g x e=fJ (g x) e:=nr rfl
def Jw(g:List D->Option D)(a:di)(env:Env):aB g a env=bindR (a env) (kUn g):=nr rfl
def ZG(a:di)(env:Env):fV a env=bindR (a env) (kUn qy):=nr rfl
def gt0{α:Type}(a:α)(l:List α):(a::l)[0]? = some a:=nr rfl
def gtS{α:Type}(a:α)(l:List α)(i:Nat):(a::l)[i+1]? = l[i]?:=nr rfl
theorem aa4{α:Type}{g:GV}{c:fM}{e:Ev}(enc:α->D)(ext:α->Env)(p:α->Bool)(out:α->D)(env:Env)(k:Nat):∀(l:List α) (vs:Env),vs.length=k->
  (∀a∈l,(ext a).length=k/\(∀vs:Env,vs.length=k->g (enc a) (env++vs)=some (env++ext a))/\c (env++ext a) = .ok (p a) (env++ext a)/\(p a=true->e (env++ext a) = .ok (out a) (env++ext a)))->
  ∃vs',vs'.length=k/\G7 g c e (l.map enc) (env++vs) = .ok ((l.filter p).map out) (env++vs')
 | [],vs,hv,_=>⟨vs,hv,rfl⟩
 | a::l,vs,hv,h=>by
  obtain⟨h1,h2,h3,h4⟩:=h a Qqv;obtain⟨vs',h5,h6⟩:=aa4 enc ext p out env k l (ext a) h1 λb hb=>h b (Qqy _ hb);refine⟨vs',h5,?_⟩;rw[Qq7];unfold G7;rw[h2 vs hv];show bindR (c (env++ext a)) _=_;rw[h3,bR];cases hp:p a with
  | true=>rw[if_pos rfl,h4 hp,bR,h6,bR,List.filter_cons_of_pos hp,Qq7]
  | false=>rw[if_neg Qxq,h6,List.filter_cons_of_neg (by rw[hp];exact Qxq)]
def uh{α:Type}{lo n:Nat}{it:di}{g:GV}{c:fM}{e:Ev}{env aH:Env}(l:List α)(enc:α->D)(ext:α->Env)(p:α->Bool)(out:α->D)(hit:it env = .ok (l.map enc) aH)(hlo:aH.length=lo)
  (h:∀a∈l,(ext a).length=n - lo/\(∀vs:Env,vs.length=n - lo->g (enc a) (aH++vs)=some (aH++ext a))/\c (aH++ext a) = .ok (p a) (aH++ext a)/\(p a=true->e (aH++ext a) = .ok (out a) (aH++ext a)))
  (hz:l.length<=sizeLine):fj lo n it g c e env = .ok (.lst ((l.filter p).map out)) aH:=by
 obtain⟨vs',h5,h6⟩:=aa4 enc ext p out aH (n - lo) l (List.replicate (n - lo) none) Qzx h;have:=yQ hit hlo h6 (Qqj (by rw[Qqk];exact List.length_filter_le _ _) hz);rw[this,<-hlo,List.take_left]
def kY{α:Type}{lo n:Nat}{it:di}{e:Ev}{env aH:Env}(l:List α)(enc:α->D)(out:α->D)(hit:it env = .ok (l.map enc) aH)(hlo:aH.length=lo)(hn:n=lo+1)
  (h:∀a∈l,e (aH++[some (false,enc a)]) = .ok (out a) (aH++[some (false,enc a)])) (hz:l.length<=sizeLine):fj lo n it (au lo) cV e env = .ok (.lst (l.map out)) aH:=by
 subst hn hlo;have:=uh (lo:=aH.length) (n:=aH.length+1) (it:=it) (g:=au aH.length) (c:=cV) (e:=e) (env:=env) l enc (λa=>[some (false,enc a)]) (λ_=>true) out hit rfl (λa ha=>⟨by simp,λvs hv=>?_,rfl,λ_=>h a ha⟩) hz
 ·rw[this,List.filter_eq_self.mpr (λ_ _=>rfl)]
 ·have hv:vs.length=1:=by omega
  obtain⟨v,rfl⟩:=List.length_eq_one_iff.mp hv;unfold au;rw[List.set_append_right _ _ (Qq2 _),Nat.sub_self]
  rfl
def Gq{α:Type}{lo n:Nat}{it:di}{c:fM}{e:Ev}{env aH:Env}(l:List α)(enc:α->D)(p:α->Bool)(out:α->D)(hit:it env = .ok (l.map enc) aH)(hlo:aH.length=lo)(hn:n=lo+1)
  (hc:∀a∈l,c (aH++[some (false,enc a)]) = .ok (p a) (aH++[some (false,enc a)]))
  (h:∀a∈l,p a=true->e (aH++[some (false,enc a)]) = .ok (out a) (aH++[some (false,enc a)])) (hz:l.length<=sizeLine):fj lo n it (au lo) c e env = .ok (.lst ((l.filter p).map out)) aH:=by
 subst hn hlo;refine uh (lo:=aH.length) (n:=aH.length+1) l enc (λa=>[some (false,enc a)]) p out hit rfl (λa ha=>⟨by simp,λvs hv=>?_,hc a ha,λhp=>h a ha hp⟩) hz;have hv:vs.length=1:=by omega
 obtain⟨v,rfl⟩:=List.length_eq_one_iff.mp hv;unfold au;rw[List.set_append_right _ _ (Qq2 _),Nat.sub_self]
 rfl
open PySem PySem.Spec PyProof.Rows L2
section
variable{X:Cx}{C:Cfg}{pos:Pos}{x:Expr}{a:Ev}
def ad7:D->Option Int->Option Int->Option D
 | .str z,lo,hi=>some (.str (cutD z lo hi))
 | .tup xs,lo,hi=>some (.tup (cutD xs lo hi))
 | .lst xs,lo,hi=>some (.lst (cutD xs lo hi))
 | .arr xs,lo,hi=>some (.lst (cutD xs lo hi))
 | _,_,_=>none
def iZ(a:Ev)(lo hi:W2):Ev:=λenv=>bindR (a env) λd aH=>bindR (lo aH) λl dC=>bindR (hi dC) λu We=>fJ (ad7 d l u) We
end
structure SX(X:Cx)(C:Cfg)(e:Expr)(ev:Ev):Prop where
 u:Ev.PX X C e ev
structure Eg(X:Cx)(C:Cfg)(e:Expr)(ev:Ev):Prop where
 u:Ev.WY X C e ev
structure SXN(X:Cx)(C:Cfg)(e:Expr)(ev:Ev):Prop where
 u:Ev.Xa X C e ev
structure MK(X:Cx)(C:Cfg)(e:Expr)(ev:fM):Prop where
 u:Ev.PXT X C e ev
structure SXW(X:Cx)(C:Cfg)(e:Expr)(ev:fM):Prop where
 u:Ev.PXW X C e ev
structure J5(X:Cx)(C:Cfg)(e:List Expr)(ev:di):Prop where
 u:Ev.PL X C e ev
structure xx(X:Cx)(C:Cfg)(e:List Expr)(ev:di):Prop where
 u:Ev.aar X C e ev
structure SXL(X:Cx)(C:Cfg)(e:List Expr)(ev:di):Prop where
 u:Ev.PXL X C e ev
structure Ef(X:Cx)(C:Cfg)(e:Stmt)(ev:cR):Prop where
 u:Ev.WX X C e ev
structure eQ(X:Cx)(C:Cfg)(e:List Stmt)(ev:cR):Prop where
 u:Ev.Bl X C e ev
structure aam(X:Cx)(C:Cfg)(e:List Expr)(ev:fM):Prop where
 u:Ev.RV X C e ev
structure SXP(X:Cx)(C:Cfg)(e:Option Expr)(ev:W2):Prop where
 u:Ev.PXP X C e ev
structure SXI(X:Cx)(C:Cfg)(tg e:Expr)(ev:di):Prop where
 u:Ev.PXI X C tg e ev
structure SXG(X:Cx)(C:Cfg)(lo:Nat)(e:Expr)(ev:GV):Prop where
 u:Ev.PXG X C lo e ev
structure aan(X:Cx)(C:Cfg)(lo:Nat)(e:List Expr)(ev:Xc):Prop where
 u:Ev.aeG X C lo e ev
section
variable{X:Cx}{C:Cfg}{pos p px:Pos}{x y z:Expr}{a b c:Ev}{t u:fM}{i:Nat}{n:Str}{e:Expr}{es:List Expr}{ea:di}{p2 pos2:Pos}
def aj{e:Expr}{es:List Expr}{a:Ev}{r:di}(ha:SX X C e a)(hr:J5 X C es r)(hs:starEach (e::es) X.env=(false,eval e X.env)::starEach es X.env:=by rfl):J5 X C (e::es) (aa a r):=⟨Ev.zy ha.u hr.u hs⟩
def aR(i:Nat)(hN:X.N[i]? = some n:=by rfl)(hv:ym X.env.scope n:=by first|exact Or.inl rfl|exact Or.inr (Or.inl rfl)|exact Or.inr (Or.inr rfl))(hd:jy n:=by decide)(hcd:uq n:=by decide):SX X C (.Name n pos) (aK i):=⟨acn i hN hv hd hcd⟩
def eV{X:Cx}{C:Cfg}{n:Str}{pos:Pos}{es:List Expr}{r:di}(i:Nat)(hr:J5 X C es r)(hN:X.N[i]? = some n:=by rfl)(hv:ym X.env.scope n:=by first|exact Or.inl rfl|exact Or.inr (Or.inl rfl)|exact Or.inr (Or.inr rfl))(hd:jy n:=by decide)(hcd:uq n:=by decide)(hs:starEach (.Name n pos::es) X.env=(false,eval (.Name n pos) X.env)::starEach es X.env:=by rfl):J5 X C (.Name n pos::es) (aa (aK i) r):=aj (aR i hN hv hd hcd) hr hs
def ao  : J5 X C [] ak:=⟨Ev.Fw ⟩
def aF{e:Expr}{ev:Ev}(h:SX X C e ev):Eg X C e ev:=⟨Ev.PX.b h.u⟩
def aV{i:Int}{j:Nat}:SX X C (.Constant (.int i) j pos) (jR (.int i)):=⟨Ev.acv ⟩
def aC{st:Stmt}{rest:List Stmt}{a b:cR}(h1:Ef X C st a)(h2:eQ X C rest b):eQ X C (st::rest) (aL a b):=⟨(Ih h1.u h2.u).imp λD σ H h=>by
 obtain⟨Pr,F,env,r,f⟩:=h;refine⟨Pr,F,env,r,?_⟩;unfold aL at f;cases e:a env with
 | nx e1=>rw[e] at f;exact λσ' H' F' r' s'=>⟨Pr,F',e1,r',f.mono s'⟩
 | rt o d e1=>rw[e] at f;cases o<;>exact f
 | bk e1=>rw[e] at f;exact f
 | ct e1=>rw[e] at f;exact f
 | stuck=>rw[e] at f;exact f⟩
def aG{st:Stmt}{a:cR}(h1:Ef X C st a):eQ X C [st] a:=⟨yM h1.u⟩
def aZ{lo:Nat}(i:Nat)(hnd:jk X.N=true:=by rfl)(hlo:Nat.ble lo i=true:=by rfl)(hfx:C.fx i=none:=by rfl)(hi:X.N[i]? = some n:=by rfl)(hx:Loc X.env.scope n:=by first|exact Or.inl rfl|exact Or.inr rfl)(hf:X.fn n=true\/X.env.scope.names.lookup n=some .local:=by first|exact .inl rfl|exact .inr rfl):SXG X C lo (.Name n pos) (au i):=⟨Us (fQ hnd) hi hx (Qjw hlo) hfx hf⟩
def aq(z:List Nat){x:Str}{j:Nat}(hz:x=strOf z:=by decide +kernel)(hl:z.length<=sizeLine:=by decide):SX X C (.Constant (.str x) j pos) (jR (.str z)):=⟨by
 subst hz;refine acO.imp λσ H Q h=>?_;obtain⟨Pr,F,env,env',d,r,e,q⟩:=h;cases e;exact q _ _ F r (aU.refl F) ⟨rfl,hl⟩⟩
def bN(i:Nat)(hN:X.N[i]? = some n:=by rfl)(hv:ym X.env.scope n:=by first|exact Or.inl rfl|exact Or.inr (Or.inl rfl)|exact Or.inr (Or.inr rfl))(hd:jy n:=by decide)(hcd:uq n:=by decide):Eg X C (.Name n pos) (bw i):=⟨Yj i hN hv hd hcd⟩
def bV{pos':Pos}(i:Nat)(he:SX X C e a)(hnd:jk X.N=true:=by rfl)(hfx:C.fx i=none:=by rfl)(hi:X.N[i]? = some n:=by rfl)(hx:Loc X.env.scope n:=by first|exact Or.inl rfl|exact Or.inr rfl)(hs:swapsWith e (some (.Name n pos')) pos.line X.env=pure false:=by rfl)(hf:X.fn n=true\/X.env.scope.names.lookup n=some .local:=by first|exact .inl rfl|exact .inr rfl):Ef X C (.Assign [.Name n pos'] e pos) (bA a (au i)):=⟨X8 (fQ hnd) hi hx hfx he.u hs hf⟩
def aX{e:Expr}{a:Ev}(h:SX X C e a):Ef X C (.Return (some e) pos) (bW a):=⟨(Uz h.u).imp λD σ H hq=>by
 obtain⟨Pr,F,env,r,f⟩:=hq;obtain⟨d,aH,e1,f1⟩:=cW f;exact⟨Pr,F,env,aH,d,r,e1,λv H1 F1 r1 s1 p1=>f1 v σ H1 F1 r1 s1 p1⟩⟩
def bC{e:Expr}{a:Ev}(h:Eg X C e a)(hs:BP e X.env:=by rfl):xx X C [e] (aa a ak):=⟨(dJ h.u iU hs).imp λσ H Q hq=>by
 obtain⟨Pr,F,env,env',ds,rl,e,q⟩:=hq;obtain⟨d1,aH,e1,e2⟩:=aQ e;cases e2;exact⟨Pr,F,env,env',d1,rl,e1,λv H1 F1 r1 s1 p1=>q _ H1 F1 r1 s1 ⟨v,[],rfl,p1,rfl⟩⟩⟩
def bY{k k':Nat}{m:Nat}{ps:List Str}{g:List D->Option D}(O:Own X.prog X.w X.K X.mg X.base n k ps (pH X.K m g))(G:Good X C)(hr:gq k' X.A)(ha:J5 X C (e::es) ea)(hn:∀env ds env',ea env = .ok ds env'->ds.length=m)(hk:Nat.ble k k'=true:=by rfl)(hg:Gl X n:=by rfl)(hdb:jy n:=by decide)(he:starEach (e::es) X.env=(false,eval e X.env)::starEach es X.env:=by rfl)(hpl:(backTo pos (starEach es X.env)).any (·.1)=false:=by rfl):SX X C (.Call (.Name n p) (e::es) [] pos) (aB g ea):=⟨by
 obtain⟨f,fd,h1,h2,h3,h4⟩:=O;rw[G.K] at h1;have h1':mJ X.prog X.w X.K X.mg X.base Cu k f fd ps (pH C.K m g):=by rw[G.K];exact h1
 exact aco h1' (hr.mono (Qjw hk)) hg h2 h3 h4 ha.u hn hdb he hpl⟩
def cA{es:List Expr}{r:di}{k:Nat}(h:J5 X C es r):SX X C (.Tuple es k pos) (cG r):=⟨(acN h.u).imp λσ H Q hq=>by
 obtain⟨Pr,F,env,env',d,rl,e,q⟩:=hq;obtain⟨ds,aH,e1,e2⟩:=aQ e;split at e2
 ·rename_i hz;cases e2;refine⟨Pr,F,env,env',ds,rl,e1,λvs H1 F1 r1 s1 p1=>⟨by rw[p1.length];exact hz,λp hp=>?_⟩⟩;obtain⟨r2,s2⟩:=r1.new (o:=.tup vs) hp;exact q _ _ _ r2 (s1.trans s2) ⟨hz,p,vs,rfl,pO.of bu,cg.mono s2 _ _ p1⟩
 ·cases e2⟩
def bz{lo:Nat}{e:Expr}{es:List Expr}{g:GV}{gs:Xc}(h1:SXG X C lo e g)(h2:aan X C lo es gs)(hs:(assignEach (e::es) X.env).map (·.2)=assign e X.env::(assignEach es X.env).map (·.2):=by rfl):aan X C lo (e::es) (bG g gs):=⟨(UW h1.u h2.u hs).imp λv σ H Q h=>by
 obtain⟨Pr,F,env,env',ds,r,p,e,q⟩:=h;cases ds with
 | nil=>cases e
 | cons d ds=>
  obtain⟨u,w,rfl,p1,p2⟩:=p;obtain⟨aH,e1,e2⟩:=Qxw.mp e;refine⟨u,w,rfl,Pr,F,env,aH,d,r,p1,e1,λσ1 H1 F1 r1 s1 t1=>?_⟩;exact⟨Pr,F1,aH,env',ds,r1,cg.mono s1 _ _ p2,e2,λσ2 H2 F2 r2 s2 t2=>q σ2 H2 F2 r2 (s1.trans s2) (t2.trans t1)⟩⟩
def bf{e:Expr}{ev:Ev}(h:SXN X C e ev):SX X C e ev:=⟨Ev.Xa.px h.u⟩
def jf(i:Nat)(G:Good X C)(hb:Eg X C y b)(hN:X.N[i]? = some n:=by rfl)(hv:ym X.env.scope n:=by first|exact Or.inl rfl|exact Or.inr (Or.inl rfl)|exact Or.inr (Or.inr rfl))(hs:mY y:=by intro _ _;rfl)(hd:jy n:=by decide)(hcd:uq n:=by decide):SX X C (.Subscript (.Name n px) y pos) (aA je i b):=⟨acr i G.K hN hv hb.u hs hd hcd⟩
def jz{k k':Nat}{m:Nat}{ps:List Str}{g:List D->Option (D×D)}{v:Str}{pv:Pos}(i:Nat)(O:Own X.prog X.w X.K X.mg X.base n k ps (yw X.K m g))(G:Good X C)(hr:gq k' X.A)(ha:J5 X C es ea)(hn:∀env ds env',ea env = .ok ds env'->ds.length+1=m)(hk:Nat.ble k k'=true:=by rfl)(hN:X.N[i]? = some v:=by rfl)(hv:ym X.env.scope v:=by first|exact Or.inl rfl|exact Or.inr (Or.inl rfl)|exact Or.inr (Or.inr rfl))(hg:Gl X n:=by rfl)(hdb:jy n:=by decide)(he:starEach (.Name v pv::es) X.env=(false,eval (.Name v pv) X.env)::starEach es X.env:=by rfl)(hpl:(backTo pos (starEach es X.env)).any (·.1)=false:=by rfl)(hd:jy v:=by decide)(hcd:uq v:=by decide):SX X C (.Call (.Name n p) (.Name v pv::es) [] pos) (gB g i ea):=⟨by
 obtain⟨f,fd,h1,h2,h3,h4⟩:=O;rw[G.K] at h1;have h1':mJ X.prog X.w X.K X.mg X.base Cu k f fd ps (yw C.K m g):=by rw[G.K];exact h1
 exact afR hN hv h1' (hr.mono (Qjw hk)) hg h2 h3 h4 ha.u hn hdb he hpl hd hcd⟩
def bj{op:Operator}{g:D->D->Option D}(o:Bi X C op g)(ha:SX X C x a)(hb:Eg X C y b):SX X C (.BinOp x op y pos) (az g a b):=⟨let ⟨_,h1,h2⟩:=o.ex;afP h1 h2 ha.u hb.u⟩
def bh{e:Expr}{es:List Expr}{a:Ev}{r:di}(ha:SX X C e a)(hr:SXL X C es r)(hs:starEach (e::es) X.env=(false,eval e X.env)::starEach es X.env:=by rfl):SXL X C (e::es) (aa a r):=⟨⟨Ev.zy ha.u hr.u.go hs⟩⟩
def bL{op:Operator}{g:D->D->Option D}(i:Nat)(o:Bi X C op g)(hb:Eg X C y b)(hN:X.N[i]? = some n:=by rfl)(hv:ym X.env.scope n:=by first|exact Or.inl rfl|exact Or.inr (Or.inl rfl)|exact Or.inr (Or.inr rfl))(hd:jy n:=by decide)(hcd:uq n:=by decide):SX X C (.BinOp (.Name n px) op y pos) (aA g i b):=⟨let ⟨_,h1,h2⟩:=o.ex;acp i hN hv h1 h2 hb.u hd hcd⟩
def cN{c:Expr}{a b:List Stmt}{t:fM}{ea eb:cR}(hc:MK X C c t)(ha:eQ X C a ea)(hb:eQ X C b eb):Ef X C (.If c a b pos) (gw t ea eb):=⟨(aaN hc.u ha.u hb.u).imp λD σ H h=>by
 obtain⟨Pr,F,env,r,f⟩:=h;obtain⟨k,aH,e1,f1⟩:=cW f;refine⟨Pr,F,env,aH,k,r,e1,λH1 F1 r1 s1=>?_⟩;split at f1
 ·rename_i hk;rw[if_pos hk];exact⟨Pr,F1,aH,r1,f1.mono s1⟩
 ·rename_i hk;rw[if_neg hk];exact⟨Pr,F1,aH,r1,f1.mono s1⟩⟩
def bK{es:List Expr}{r:di}(h:J5 X C es r):SXN X C (.List es pos) (bM r):=⟨Ev.Nx h.u⟩
def cj  : eQ X C [] cP:=⟨Ev.Ul ⟩
def cM{tg:Expr}(G:Good X C)(h:SX X C x a):SXI X C tg x (dR a):=⟨Yh G.K h.u⟩
def gG{b:Bool}{j:Nat}:SX X C (.Constant (.bool b) j pos) (jR (.bl b)):=⟨Ev.afS ⟩
def gW{elt tg iter:Expr}{ifs:List Expr}{scope:Scope}(N':List Str){it:di}{g:GV}{cc:fM}{ee:Ev}(lo:Nat)(ok:mD X scope N')(G:Good X C)(hi:SXI X C tg iter it)(bg:∀X',jx X scope N' X'->SXG X' C lo tg g)(bc:∀X',jx X scope N' X'->aam X' C ifs cc)(be:∀X',jx X scope N' X'->SX X' C elt ee)(hs:∀x,foldedSetIterable iter X.env x=pure x:=by intro _;rfl):SXN X C (.ListComp elt [⟨tg,iter,ifs,0⟩] scope pos) (fj lo N'.length it g cc ee):=⟨Ev.ah3 N' lo ok G hi.u (λX1 h1=>(bg X1 h1).u) (λX1 h1=>(bc X1 h1).u) (λX1 h1=>(be X1 h1).u) hs⟩
def kh(G:Good X C)(hm:X.mg "len" = none)(ha:xx X C [e] ea)(hg:Gl X "len":=by rfl)(he:BP e X.env:=by rfl):SX X C (.Call (.Name "len" p) [e] [] pos) (aB gJ ea):=⟨lQ (by rw[<-G.K];exact Ws) aes hg hm PySem.boot_len ha.u (by decide) (by decide) he rfl⟩
def cQ{e:Expr}{a:Ev}(h:SX X C e a)(he:∀whole,isTrue e X.env whole=(do let v <-whole;standAt e.pos;holding [v] (truthy v)):=by intro _;rfl):MK X C e (fB a):=⟨(acz h.u he).imp λσ H Q hq=>Tc hq⟩
def dh{lo:Nat}:aan X C lo [] eZ:=⟨Ev.Ur ⟩
def iB{lo:Nat}{k:Nat}{gs:Xc}{m:Nat}(G:Good X C)(h:aan X C lo es gs)(hn:(assignEach es X.env).length=m:=by rfl)(hst:(assignEach es X.env).findIdx? (·.1)=none:=by rfl):SXG X C lo (.Tuple es k pos) (eY m gs):=⟨Yi G.calm G.K h.u hn hst⟩
def cO{X:Cx}{C:Cfg}:aam X C [] cV:=⟨Ev.Uq ⟩
def jh{tg iter:Expr}{body:List Stmt}{it:di}{g:GV}{bs:cR}(G:Good X C)(hi:SXI X C tg iter it)(hg:SXG X C 0 tg g)(hb:eQ X C body bs)(hp:PassesOwn (model X.prog X.w) X.A X.env X.xe:=by exact PassesOwn.never)(hs:∀x,foldedSetIterable iter X.env x=pure x:=by intro _;rfl):Ef X C (.For tg iter body [] pos) (gA it g bs):=⟨Yc hp G.calm hi.u hg.u hb.u hs⟩
def iw{op:CmpOp}{g:D->D->Option D}(o:Cm X C op g)(ha:SX X C x a)(hb:Eg X C y b)(hm:behindInMarks op y=false:=by rfl):MK X C (.Compare x [op] [y] pos) (fB (az g a b)):=⟨let ⟨_,h1,h2⟩:=o.ex;X6 h1 h2 ha.u hb.u hm⟩
def oV{pos':Pos}(i:Nat)(he:SXN X C e a)(hnd:jk X.N=true:=by rfl)(hfx:C.fx i=none:=by rfl)(hi:X.N[i]? = some n:=by rfl)(hx:Loc X.env.scope n:=by first|exact Or.inl rfl|exact Or.inr rfl)(hs:swapsWith e (some (.Name n pos')) pos.line X.env=pure false:=by rfl)(hf:X.fn n=true\/X.env.scope.names.lookup n=some .local:=by first|exact .inl rfl|exact .inr rfl):Ef X C (.Assign [.Name n pos'] e pos) (eN i a):=⟨Yb (fQ hnd) hi hx hfx he.u hs hf⟩
def gU(G:Good X C)(hm:X.mg "tuple" = none)(ha:xx X C [e] ea)(hg:Gl X "tuple":=by rfl)(he:BP e X.env:=by rfl):SX X C (.Call (.Name "tuple" p) [e] [] pos) (aB fG ea):=⟨wL (T:="tuple") (r:=Uc C.K) (by rw[<-G.K];exact Ci) Wo hg hm (by decide +kernel) ha.u (by decide) (by decide) he rfl⟩
def yW(G:Good X C)(ha:SX X C x a)(hb:Eg X C y b)(hs:mY y:=by intro _ _;rfl):SX X C (.Subscript x y pos) (az je a b):=⟨afQ G.K ha.u hb.u hs⟩
def ie{op:CmpOp}{g:D->D->Option D}(i:Nat)(o:Cm X C op g)(hb:Eg X C y b)(hN:X.N[i]? = some n:=by rfl)(hv:ym X.env.scope n:=by first|exact Or.inl rfl|exact Or.inr (Or.inl rfl)|exact Or.inr (Or.inr rfl))(hm:behindInMarks op y=false:=by rfl)(hd:jy n:=by decide)(hcd:uq n:=by decide):MK X C (.Compare (.Name n px) [op] [y] pos) (fB (aA g i b)):=⟨by
 obtain⟨r,h1,h2⟩:=o.ex;exact(Ny h1 (jj hN hv hd hcd) hb.u hm).imp λσ H Q h=>vC h2 σ H _ (Tc h)⟩
def lO{tg e:Expr}{a:Ev}{g:GV}(he:SX X C e a)(hg:SXG X C 0 tg g)(hs:swapsWithSole [tg] e pos.line X.env=pure false:=by rfl)(hw:swappedStores [tg] e X.env=pure none:=by rfl)(h1:(assignEach [tg] X.env).map (·.2)=[assign tg X.env]:=by rfl):Ef X C (.Assign [tg] e pos) (bA a g):=⟨(acG he.u hg.u hs hw h1).imp λD σ H h=>aey h⟩
def dq{e:Expr}{a:Ev}(h:SX X C e a):SXP X C (some e) (pR a):=⟨(Yr h.u).imp λσ H Q hq=>by
 obtain⟨Pr,F,env,env',o,r,e,q⟩:=hq;obtain⟨d,aH,e1,e2⟩:=aQ e;refine⟨Pr,F,env,aH,d,r,e1,λv H1 F1 r1 s1 p1=>?_⟩;cases d with
 | int i=>cases e2;exact⟨i,p1,q H1 F1 r1 s1⟩
 | _=>cases e2⟩
def dU{x:Expr}{a:fM}(h:MK X C x a):MK X C (.UnaryOp .Not x pos) (dO a):=⟨(acA h.u).imp λσ H Q hq=>by
 obtain⟨Pr,F,env,env',b,rl,e,q⟩:=hq;obtain⟨c,aH,e1,e2⟩:=aQ e;cases e2;exact⟨Pr,F,env,env',c,rl,e1,λH1 F1 r1 s1=>q H1 F1 r1 s1⟩⟩
def jT{e:Expr}{a:fM}(h:SXW X C e a):MK X C e a:=⟨Ev.PXW.pt h.u⟩
def rJ{tg:Expr}(hm:X.mg "range" = none)(ha:J5 X C [e] ea)(hl:∀env ds env',ea env = .ok ds env'->ds.length=1)(hg:Gl X "range":=by rfl)(hs:starEach [e] X.env=[(false,eval e X.env)]:=by rfl):SXI X C tg (.Call (.Name "range" p) [e] [] pos) (fV ea):=⟨Ld hg hm ha.u hl hs⟩
def iJ{op:CmpOp}{g:D->D->Option D}(i:Nat)(o:Cm X C op g)(hb:Eg X C y b)(hN:X.N[i]? = some n:=by rfl)(hv:ym X.env.scope n:=by first|exact Or.inl rfl|exact Or.inr (Or.inl rfl)|exact Or.inr (Or.inr rfl))(hm:behindInMarks op y=false:=by rfl)(hd:jy n:=by decide)(hcd:uq n:=by decide):SX X C (.Compare (.Name n px) [op] [y] pos) (aA g i b):=⟨by
 obtain⟨r,h1,h2⟩:=o.ex;exact(NQ h1 (jj hN hv hd hcd) hb.u hm).imp (vC h2)⟩
def gM{j:Nat}:SX X C (.Constant .none j pos) (jR .non):=⟨Ev.acq ⟩
def tR{e:Expr}{es:List Expr}{a:Ev}{r:di}(ha:SX X C e a)(hr:xx X C es r)(hs:starEach (e::es) X.env=(false,eval e X.env)::starEach es X.env:=by rfl):xx X C (e::es) (aa a r):=⟨(dJ ha.u hr.u hs).imp λσ H Q h=>by
  obtain⟨Pr,F,env,env',ds,rl,e,q⟩:=h;obtain⟨d1,aH,e1,e2⟩:=aQ e;obtain⟨ds2,dC,e3,e4⟩:=aQ e2;cases e4;refine⟨Pr,F,env,aH,d1,rl,e1,λv H1 F1 r1 s1 p1=>?_⟩;refine⟨Pr,F1,aH,env',ds2,r1,e3,λvs H2 F2 r2 s2 p2=>?_⟩;exact q _ H2 F2 r2 (s1.trans s2) ⟨v,vs,rfl,.inl (Rep.mono s2 d1 v p1),p2⟩⟩
def lz{op:BoolOp}{x:Expr}{a:Ev}(h:SX X C x a):SX X C (.BoolOp op [x] pos) a:=⟨acP h.u⟩
def Fq{apos cpos:Pos}(i:Nat)(G:Good X C)(he:SX X C e a)(hN:X.N[i]? = some n:=by rfl)(hv:ym X.env.scope n:=by first|exact Or.inl rfl|exact Or.inr (Or.inl rfl)|exact Or.inr (Or.inr rfl))(hs:swapsWith (.Call (.Attribute (.Name n px) "append" apos) [e] [] cpos) none pos.line X.env=pure false:=by rfl) (hfew:((backTo cpos (starEach [e] X.env)).all (λx=>!x.1)&&(backToKw cpos (keywordEach [] X.env)).all (λx=>x.1.isSome)
   && decide (([e]:List Expr).length+([]:List Keyword).length+(if ([]:List Keyword).isEmpty then 0 else 1)<30))=true:=by rfl) (hbase:attributeBase (.Name n px) "append" X.env (eval (.Name n px) X.env)=eval (.Name n px) X.env:=by rfl) (hline:(apos.endLine == cpos.line)=true:=by rfl) (hst:BP e X.env:=by rfl) (hplain:(backTo cpos (starEach [] X.env)).any (·.1)=false:=by rfl) (hd:jy n:=by decide) (hcd:uq n:=by decide):Ef X C (.Expr (.Call (.Attribute (.Name n px) "append" apos) [e] [] cpos) pos) (qb i a):=⟨Yd hN hv he.u G.K hs hfew hbase hline hst hplain hd hcd⟩
def jE  : SXP X C none lr:=⟨Ev.Uo ⟩
def ig{x y:Expr}{rest:List Expr}{a b:Ev}(ha:SX X C x a)(hb:SX X C (.BoolOp .And (y::rest) pos) b):SX X C (.BoolOp .And (x::y::rest) pos) (jd a b):=⟨(acV ha.u hb.u).imp λσ H Q hq=>by
  obtain⟨Pr,F,env,env',k,rl,e,q⟩:=hq;obtain⟨c,aH,e1,e2⟩:=aQ e;refine⟨Pr,F,env,aH,c,rl,e1,λv H1 F1 r1 s1 p1=>?_⟩;cases c with
  | bl z=>
   refine⟨z,p1,?_⟩;cases z with
   | true=>exact agm ⟨Pr,F1,aH,env',k,r1,e2,λv2 H2 F2 r2 s2 p2=>q v2 H2 F2 r2 (s1.trans s2) p2⟩
   | false=>cases e2;exact agn (q _ H1 F1 r1 s1 rfl)
  | _=>cases e2⟩
def jN{x y:Expr}{rest:List Expr}{a b:fM}(ha:MK X C x a)(hb:SXW X C (.BoolOp .Or (y::rest) pos) b):SXW X C (.BoolOp .Or (x::y::rest) pos) (j5 a b):=⟨(pw_or ha.u hb.u).imp λσ H Q hq=>by
  obtain⟨Pr,F,env,env',k,rl,e,q⟩:=hq;obtain⟨c,aH,e1,e2⟩:=aQ e;refine⟨Pr,F,env,aH,c,rl,e1,λH1 F1 r1 s1=>?_⟩;split at e2
  ·rename_i hc;rw[if_pos hc];cases e2;exact q H1 F1 r1 s1
  ·rename_i hc;rw[if_neg hc];exact⟨Pr,F1,aH,env',k,r1,e2,λH2 F2 r2 s2=>q H2 F2 r2 (s1.trans s2)⟩⟩
def oJ(G:Good X C)(hm:X.mg "all" = none)(ha:xx X C [e] ea)(hg:Gl X "all":=by rfl)(he:BP e X.env:=by rfl):SX X C (.Call (.Name "all" p) [e] [] pos) (aB rY ea):=⟨lQ (by rw[<-G.K];exact RM G.calm) aet hg hm (by decide +kernel) ha.u (by decide) (by decide) he rfl⟩
def ji{x:Expr}{a:fM}(h:MK X C x a):SXW X C (.BoolOp .Or [x] pos) a:=⟨pw_or1 h.u⟩
def mQ{T:String}{xT:Str}{e:Expr}{a:Ev}{p q pos:Pos}(hg:Gl X "isinstance")(hm:X.mg "isinstance" = none)(Zr:Gl X xT)(hmT:X.mg xT=none)(hvT:bootBuiltins xT=some (.type T))(hk:∀d:D,PySem.W.kitOne X.K (.type (S7 d)) (.type T)=some (qN d T))(hK:X.K=C.K)(ha:SX X C e a)(hn:xT ≠ "__name__":=by decide)(hd:jy xT:=by decide)(he:starEach [e,.Name xT q] X.env=(false,eval e X.env)::starEach [.Name xT q] X.env:=by rfl):SX X C (.Call (.Name "isinstance" p) [e,.Name xT q] [] pos) (dY (vh T) a):=⟨by
 refine(qC (Wt hk) hg hm boot_isinstance (dJ ha.u (dJ (NT (v:=.ty T) Zr hmT hvT rfl hn hd) iU) he) (by decide) (by decide) he rfl).imp λσ H Q h=>?_;obtain⟨Pr,F,env,env',d,rl,e1,qq⟩:=h;obtain⟨d0,aH,e2,e3⟩:=aQ e1;obtain⟨e4,rfl⟩:=cF e3;obtain⟨nc,rfl⟩:=ZC e4;refine⟨Pr,F,env,env',d0,rl,e2,λv H1 F1 r1 s1 p1=>⟨d0,v,rfl,nc,?_,qq _ H1 F1 r1 s1 rfl⟩⟩;rw[hK];exact Rep.mono r1.fr d0 v p1⟩
def iW{X:Cx}{C:Cfg}{c:Expr}{t:fM}(h:MK X C c t):aam X C [c] t:=⟨Yt h.u⟩
def adF{k k':Nat}{m:Nat}{ps:List Str}{g:List D->Option D}(O:Own X.prog X.w X.K X.mg X.base n k ps (spN X.K m g))(G:Good X C)(hr:gq k' X.A)(ha:J5 X C (e::es) ea)(hn:∀env ds env',ea env = .ok ds env'->ds.length=m)(hk:Nat.ble k k'=true:=by rfl)(hg:Gl X n:=by rfl)(hdb:jy n:=by decide)(he:starEach (e::es) X.env=(false,eval e X.env)::starEach es X.env:=by rfl)(hpl:(backTo pos (starEach es X.env)).any (·.1)=false:=by rfl):SXN X C (.Call (.Name n p) (e::es) [] pos) (aB g ea):=⟨by
 obtain⟨f,fd,h1,h2,h3,h4⟩:=O;rw[G.K] at h1;have h1':mJ X.prog X.w X.K X.mg X.base Cu k f fd ps (spN C.K m g):=by rw[G.K];exact h1
 exact Ye h1' (hr.mono (Qjw hk)) hg h2 h3 h4 ha.u hn hdb he hpl⟩
def Uk{x y:Expr}{rest:List Expr}{a b:fM}(ha:MK X C x a)(hb:SXW X C (.BoolOp .And (y::rest) pos) b):SXW X C (.BoolOp .And (x::y::rest) pos) (xn a b):=⟨(pw_and ha.u hb.u).imp λσ H Q hq=>by
  obtain⟨Pr,F,env,env',k,rl,e,q⟩:=hq;obtain⟨c,aH,e1,e2⟩:=aQ e;refine⟨Pr,F,env,aH,c,rl,e1,λH1 F1 r1 s1=>?_⟩;split at e2
  ·rename_i hc;rw[if_pos hc];exact⟨Pr,F1,aH,env',k,r1,e2,λH2 F2 r2 s2=>q H2 F2 r2 (s1.trans s2)⟩
  ·rename_i hc;rw[if_neg hc];cases e2;exact q H1 F1 r1 s1⟩
def nZ{x:Str}{v:V}{u:Value}(d:D)(hg:Gl X x)(hm:X.mg x=some u)(rv:RelV v u)(hr:∀F,Rep C.K F d v)(hd:jy x:=by decide):SX X C (.Name x pos) (jR d):=⟨(NP hg hm rv hd).imp λσ H Q h=>by
  obtain⟨Pr,F,env,env',d,r,e,q⟩:=h;cases e;exact q _ _ F r (aU.refl F) (hr F)⟩
def lu{o:Expr}{apos cpos:Pos}(G:Good X C)(ho:SX X C o a)(he:Eg X C e b)(hbase:attributeBase o "join" X.env (eval o X.env)=eval o X.env:=by rfl)(hs:BP e X.env:=by rfl) (hfew:((backTo cpos (starEach [e] X.env)).all (λx=>!x.1)&&(backToKw cpos (keywordEach [] X.env)).all (λx=>x.1.isSome)
   && decide ([e].length+([]:List Keyword).length+(if ([]:List Keyword).isEmpty then 0 else 1)<30))=true:=by rfl) (hline:(apos.endLine == cpos.line)=true:=by rfl) (hplain:(backTo cpos (starEach [] X.env)).any (·.1)=false:=by rfl):SX X C (.Call (.Attribute o "join" apos) [e] [] cpos) (az jo a b):=⟨Yl G.K ho.u he.u hbase hs hfew hline hplain⟩
def aaD{lo hi:Option Expr}{el eh:W2}{p2:Pos}(G:Good X C)(ha:SX X C x a)(hl:SXP X C lo el)(hh:SXP X C hi eh):SX X C (.Subscript x (.Slice lo hi none p2) pos) (Ce a el eh):=⟨afO G.K ha.u hl.u hh.u⟩
def QC{x:Expr}{a:fM}(h:MK X C x a):SXW X C (.BoolOp .And [x] pos) a:=⟨pw_and1 h.u⟩
def abH(ha:SX X C x a):SX X C (.UnaryOp .USub x pos) (dY ad8 a):=⟨afN abY abZ ha.u⟩
def sV{op:CmpOp}{g:D->D->Option D}(o:Cm X C op g)(ha:SX X C x a)(hb:Eg X C y b)(hm:behindInMarks op y=false:=by rfl):SX X C (.Compare x [op] [y] pos) (az g a b):=⟨let ⟨_,h1,h2⟩:=o.ex;acw h1 h2 ha.u hb.u hm⟩
def nY  : SXL X C [] ak:=⟨Ev.Yg ⟩
def rG{es:List Expr}{a:di}(h:SXL X C es a):SXN X C (.List es pos) (bM a):=⟨Ev.Nx h.u.go⟩
def SM(i:Nat)(G:Good X C)(hb:Eg X C y b)(hN:X.N[i]? = some n:=by rfl)(hv:ym X.env.scope n:=by first|exact Or.inl rfl|exact Or.inr (Or.inl rfl)|exact Or.inr (Or.inr rfl))(hs:aas y:=by intro _ _;rfl)(hd:jy n:=by decide)(hcd:uq n:=by decide):SX X C (.Subscript (.Name n px) y pos) (aA lg i b):=⟨Uu i G.u1 hN hv hb.u hs hd hcd⟩
def abJ{e2:Expr}(G:Good X C)(hm:X.mg "max" = none)(ha:xx X C [e,e2] ea)(hg:Gl X "max":=by rfl)(he:starEach [e,e2] X.env=(false,eval e X.env)::starEach [e2] X.env:=by rfl)(hpl:(backTo pos (starEach [e2] X.env)).any (·.1)=false:=by rfl):SX X C (.Call (.Name "max" p) [e,e2] [] pos) (aB Ru ea):=⟨lQ (RL G.calm) aer hg hm (by decide +kernel) ha.u (by decide) (by decide) he hpl⟩
def Dc  : SXN X C (.Dict [] [] pos) Al:=⟨Ev.Up ⟩
def abI{e2:Expr}(G:Good X C)(hm:X.mg "min" = none)(ha:xx X C [e,e2] ea)(hg:Gl X "min":=by rfl)(he:starEach [e,e2] X.env=(false,eval e X.env)::starEach [e2] X.env:=by rfl)(hpl:(backTo pos (starEach [e2] X.env)).any (·.1)=false:=by rfl):SX X C (.Call (.Name "min" p) [e,e2] [] pos) (aB Rt ea):=⟨lQ (RK G.calm) aeq hg hm (by decide +kernel) ha.u (by decide) (by decide) he hpl⟩
def Cw(G:Good X C)(hm:X.mg "sorted" = none)(ha:xx X C [e] ea)(hg:Gl X "sorted":=by rfl)(he:BP e X.env:=by rfl):SX X C (.Call (.Name "sorted" p) [e] [] pos) (aB iM ea):=⟨QF G.K G.calm hg hm ha.u he rfl⟩
def Ut{x y:Expr}{rest:List Expr}{a b:Ev}(ha:SX X C x a)(hb:SX X C (.BoolOp .Or (y::rest) pos) b):SX X C (.BoolOp .Or (x::y::rest) pos) (Jt a b):=⟨(afU ha.u hb.u).imp λσ H Q hq=>by
  obtain⟨Pr,F,env,env',k,rl,e,q⟩:=hq;obtain⟨c,aH,e1,e2⟩:=aQ e;refine⟨Pr,F,env,aH,c,rl,e1,λv H1 F1 r1 s1 p1=>?_⟩;cases c with
  | bl z=>
   refine⟨z,p1,?_⟩;cases z with
   | true=>cases e2;exact agm (q _ H1 F1 r1 s1 rfl)
   | false=>exact agn ⟨Pr,F1,aH,env',k,r1,e2,λv2 H2 F2 r2 s2 p2=>q v2 H2 F2 r2 (s1.trans s2) p2⟩
  | _=>cases e2⟩
def Zq{tg e2 e3:Expr}(hm:X.mg "range" = none)(ha:J5 X C [e,e2,e3] ea)(hl:∀env ds env',ea env = .ok ds env'->ds.length=3)(hg:Gl X "range":=by rfl)(hs:starEach [e,e2,e3] X.env=[(false,eval e X.env),(false,eval e2 X.env),(false,eval e3 X.env)]:=by rfl)(hs2:starEach [e2,e3] X.env=[(false,eval e2 X.env),(false,eval e3 X.env)]:=by rfl):SXI X C tg (.Call (.Name "range" p) [e,e2,e3] [] pos) (fV ea):=⟨Lb hg hm ha.u hl hs hs2⟩
def Xk(G:Good X C)(hm:X.mg "list" = none)(ha:xx X C [e] ea)(hg:Gl X "list":=by rfl)(he:BP e X.env:=by rfl):SX X C (.Call (.Name "list" p) [e] [] pos) (aB Dv ea):=⟨wL (T:="list") (r:=Uh C.K) (by rw[<-G.K];exact Ms G.calm) Z3 hg hm (by decide +kernel) ha.u (by decide) (by decide) he rfl⟩
def TY{elt tg iter:Expr}{ifs:List Expr}{scope:Scope}(N':List Str){spos py:Pos}{it:di}{g:GV}{cc:fM}{ee:Ev}(lo:Nat)(i:Nat)(ok:mD X scope N')(G:Good X C)(hi:SXI X C tg iter it)(bg:∀X',jx X scope N' X'->SXG X' C lo tg g)(bc:∀X',jx X scope N' X'->aam X' C ifs cc)(be:∀X',jx X scope N' X'->SX X' C elt ee)(hnd:jk X.N=true:=by rfl)(hfx:C.fx i=none:=by rfl)(hy:X.N[i]? = some n:=by rfl)(hx:Loc X.env.scope n:=by first|exact Or.inl rfl|exact Or.inr rfl)(hsw:swapsWith (.ListComp elt [⟨tg,iter,ifs,0⟩] scope pos) (some (.Name n py)) spos.line X.env=pure true:=by rfl)(hf:X.fn n=true\/X.env.scope.names.lookup n=some .local:=by first|exact .inl rfl|exact .inr rfl)(hs:∀x,foldedSetIterable iter X.env x=pure x:=by intro _;rfl):Ef X C (.Assign [.Name n py] (.ListComp elt [⟨tg,iter,ifs,0⟩] scope pos) spos) (eN i (fj lo N'.length it g cc ee)):=⟨Ev.ahT N' lo i ok G hi.u (λX1 h1=>(bg X1 h1).u) (λX1 h1=>(bc X1 h1).u) (λX1 h1=>(be X1 h1).u) hnd hfx hy hx hsw hf hs⟩
def P0{e2:Expr}(G:Good X C)(hm:X.mg "divmod" = none)(ha:xx X C [e,e2] ea)(hg:Gl X "divmod":=by rfl)(he:starEach [e,e2] X.env=(false,eval e X.env)::starEach [e2] X.env:=by rfl)(hpl:(backTo pos (starEach [e2] X.env)).any (·.1)=false:=by rfl):SX X C (.Call (.Name "divmod" p) [e,e2] [] pos) (aB vm ea):=⟨lQ JM RD hg hm (by decide +kernel) ha.u (by decide) (by decide) he hpl⟩
def Ig{e:Expr}{a:Ev}(h:SXN X C e a):Ef X C (.Return (some e) pos) (zb a):=⟨(Uz h.u).imp λD σ H hq=>by
 obtain⟨Pr,F,env,r,f⟩:=hq;obtain⟨d,aH,e1,f1⟩:=cW f;exact⟨Pr,F,env,aH,d,r,e1,λv H1 F1 r1 s1 p1=>f1 v σ H1 F1 r1 s1 p1⟩⟩
def abb{lo:Nat}{ix:Expr}{ev:Ev}(i:Nat)(h:SX X C ix ev)(hN:X.N[i]? = some n:=by rfl)(hv:ym X.env.scope n:=by first|exact Or.inl rfl|exact Or.inr (Or.inl rfl)|exact Or.inr (Or.inr rfl)) (ha:∀v,assign (.Subscript (.Name n px) ix pos) X.env v=(do
   let ov <-holding [v] (eval (.Name n px) X.env)
   let iv <-holding [v,ov] (eval ix X.env)
   standAt pos
   holding [v,ov,iv] (setItem ov iv v)
   release [v,ov,iv] []):=by intro _;rfl) (hd:jy n:=by decide) (hcd:uq n:=by decide):SXG X C lo (.Subscript (.Name n px) ix pos) (VR i ev):=⟨ack hN hv h.u ha hd hcd⟩
def XN{k:Expr}{ek:Ev}{pos':Pos}(i:Nat)(G:Good X C)(hk:SX X C k ek)(he:SX X C e a)(hN:X.N[i]? = some n:=by rfl)(hv:ym X.env.scope n:=by first|exact Or.inl rfl|exact Or.inr (Or.inl rfl)|exact Or.inr (Or.inr rfl))(hs:swapsWith e (some (.Subscript (.Name n px) k pos')) pos.line X.env=pure false:=by rfl)(hd:jy n:=by decide)(hcd:uq n:=by decide):Ef X C (.Assign [.Subscript (.Name n px) k pos'] e pos) (sZ i ek a):=⟨Um G.u1 hN hv hk.u he.u hs hd hcd⟩
def zN(ha:SX X C x a)(hb:Eg X C y b):SXN X C (.BinOp x .Add y pos) (az o9 a b):=⟨(U3 Li ha.u hb.u).imp λσ H Q hq=>by
 obtain⟨Pr,F,env,env',d,rl,e,q⟩:=hq;obtain⟨u,aH,e1,e2⟩:=aQ e;obtain⟨v,dC,e3,e4⟩:=aQ e2;obtain⟨e5,rfl⟩:=cF e4;unfold o9 at e5;split at e5
 ·rename_i l1 l2;split at e5
  ·rename_i hz;cases e5;refine⟨Pr,F,env,aH,_,rl,e1,λvx H1 F1 r1 s1 p1=>⟨Pr,F1,aH,env',_,r1,e3,λvy H2 F2 r2 s2 p2=>?_⟩⟩;obtain⟨z1,a1,vs,rfl,h1,h2⟩:=p1;obtain⟨z2,a2,ws,rfl,h3,h4⟩:=p2.lst r2.fr;refine⟨a1,a2,vs,ws,rfl,rfl,r2.fr _ _ (s2 _ _ h1),h3,by rw[h2.length,h4.length];exact hz,λp hp=>?_⟩;exact q _ _ F2 (r2.fresh hp) (s1.trans s2) (RZ.of r2 hp ⟨by rw[Qqq];exact hz,vs++ws,bu,(cg.mono s2 _ _ h2).append h4⟩)
  ·cases e5
 ·cases e5⟩
def Xi{p:Pos}{e:Expr}{ea:di}(G:Good X C)(hm:X.mg "tuple" = none)(ha:xx X C [e] ea)(hg:Gl X "tuple":=by rfl)(he:BP e X.env:=by rfl):SX X C (.Call (.Name "tuple" p) [e] [] pos) (aB Ov ea):=⟨wL (T:="tuple") (r:=Ud) (RG G.calm) Z1 hg hm (by decide +kernel) ha.u (by decide) (by decide) he rfl⟩
def oH{lo hi:Option Expr}{el eh:W2}{p2:Pos}(G:Good X C)(ha:SX X C x a)(hl:SXP X C lo el)(hh:SXP X C hi eh):SX X C (.Subscript x (.Slice lo hi none p2) pos) (iZ a el eh):=⟨by
 have h:=Ii (pos:=pos) (p2:=p2) (PJ.or (PJ.or Nj K4) (PJ.or (PJ.or K4 Tq) ab6)) ha.u hl.u hh.u;rw[G.K] at h;refine h.imp λσ H Q hq=>?_;obtain⟨Pr,F,env,env',d,r,e,q⟩:=hq;obtain⟨x,aH,e1,e2⟩:=aQ e;obtain⟨l,dC,e3,e4⟩:=aQ e2;obtain⟨u,We,e5,e6⟩:=aQ e4;obtain⟨e7,rfl⟩:=cF e6;refine⟨Pr,F,env,aH,x,r,e1,λv H1 F1 r1 s1 p1=>⟨Pr,F1,aH,dC,l,r1,e3,λH2 F2 r2 s2=>⟨Pr,F2,dC,env',u,r2,e5,λH3 F3 r3 s3=>?_⟩⟩⟩;have p3:=Rep.mono (s2.trans s3) _ _ p1;have q3:∀v H' F',Rel C Pr F' env' σ H'->aU F3 F'->Rep C.K F' d v->Q v H':=λv H' F' r' s' p'=>q v H' F' r' (((s1.trans s2).trans s3).trans s') p';cases x with
 | str z=>
  cases e7;obtain⟨rfl,hz⟩:=p1;exact .inr (.inr ⟨z,rfl,hz,q3 _ H3 F3 r3 (aU.refl _) ⟨rfl,Qqj (Wk _ _ _) hz⟩⟩)
 | tup xs=>
  exact .inr (.inl (ab7 r3 p3 (by rw[V3];exact e7) q3))
 | lst xs=>exact .inl (Tr r3 (.inl p3) e7 q3)
 | arr xs=>exact .inl (Tr r3 (.inl p3) e7 q3)
 | _=>cases e7⟩
def Kl(G:Good X C)(h1:X.mg "sorted" = none)(h2:X.mg "set" = none)(ha:SX X C e a)(g1:Gl X "sorted":=by rfl)(g2:Gl X "set":=by rfl)(he:BP e X.env:=by rfl)(he2:starEach [.Call (.Name "set" p2) [e] [] pos2] X.env=(false,eval (.Call (.Name "set" p2) [e] [] pos2) X.env)::starEach [] X.env:=by rfl):SX X C (.Call (.Name "sorted" p) [.Call (.Name "set" p2) [e] [] pos2] [] pos) (dY qO a):=⟨by
 have i1:PE X (.Call (.Name "set" p2) [e] [] pos2) _:=Df (T:="set") (SX.Wr G.calm) g2 h2 (by decide +kernel) (dJ ha.u iU he) (by decide) (by decide) he rfl;have i2:PE X (.Call (.Name "sorted" p) [.Call (.Name "set" p2) [e] [] pos2] [] pos) _:=qC (SX.Mq G.calm) g1 h1 PyProof.Rows.boot_sorted (dJ i1 iU he2) (by decide) (by decide) he2 rfl;refine i2.imp λσ H Q hq=>?_;obtain⟨Pr,F,env,env',d,r,e0,q⟩:=hq;obtain⟨x,aH,e1,e2⟩:=aQ e0;obtain⟨e3,rfl⟩:=cF e2;refine⟨Pr,F,env,env',x,r,e1,λv H1 F1 r1 s1 p1=>?_⟩;unfold qO at e3;split at e3
 ·obtain⟨zs,e4,e5⟩:=Qxw.mp e3;split at e5
  ·rename_i hz;cases e5;obtain⟨z,b,ws,rfl,k1,k2⟩:=iD.lst (K:=C.K) r1.fr (.inl p1);have e6:=lH e4 k2;subst e6;show SX.afz X [.ref b] H1 λx H2=>SX.Ue X [x] H2 Q;refine⟨b,zs,rfl,by rw[G.K];exact j8.of k1,hz.1,λl hl=>?_⟩;rw[<-SX.CN];have r2:=r1.fresh (o:=SX.WW X.prog X.w l ((SX.xE zs).map strOf)) hl;have hz2:(SX.xE zs).length<64/\∀z∈SX.xE zs,z.length<=sizeLine:=
    ⟨Qx6 (SX.Qc zs) hz.1,λz hm=>hz.2 z ((SX.CK zs [] z).mp hm |>.resolve_left (by simp))⟩
   refine⟨l,SX.xE zs,rfl,bu,hz2.1,λl2 hl2=>?_⟩;obtain⟨F2,r3,s2,p3⟩:=(r2.fresh (o:=.lst ((fD (SX.xE zs)).map λz=>V.str (strOf z))) hl2).keep (RZ.of r2 hl2 (zc r2 hl2 hz2));exact q _ _ F2 r3 (s1.trans s2) p3
  ·cases e5
 ·cases e3⟩
def Le{c x y:Expr}{t:fM}{a b:Ev}(hc:MK X C c t)(ha:SX X C x a)(hb:SX X C y b):SX X C (.IfExp c x y pos) (Mj t a b):=⟨(U4 hc.u ha.u hb.u).imp λσ H Q hq=>by
 obtain⟨Pr,F,env,env',k,rl,e,q⟩:=hq;obtain⟨z,aH,e1,e2⟩:=aQ e;refine⟨Pr,F,env,aH,z,rl,e1,λH1 F1 r1 s1=>?_⟩;split at e2
 ·rename_i hz;rw[if_pos hz];exact⟨Pr,F1,aH,env',k,r1,e2,λv2 H2 F2 r2 s2 p2=>q v2 H2 F2 r2 (s1.trans s2) p2⟩
 ·rename_i hz;rw[if_neg hz];exact⟨Pr,F1,aH,env',k,r1,e2,λv2 H2 F2 r2 s2 p2=>q v2 H2 F2 r2 (s1.trans s2) p2⟩⟩
def Yk{x:Expr}{a:Ev}(ha:SX X C x a):SX X C (.UnaryOp .Not x pos) (abk a):=⟨(acQ ha.u).imp λσ H Q hq=>by
 obtain⟨Pr,F,env,env',k,rl,e,q⟩:=hq;obtain⟨c,aH,e1,e2⟩:=aQ e;refine⟨Pr,F,env,aH,c,rl,e1,λv H1 F1 r1 s1 p1=>?_⟩;cases c with
 | bl z=>cases e2;exact⟨z,p1,q _ H1 F1 r1 s1 rfl⟩
 | _=>cases e2⟩
end
open PySem PySem.W PySem.Calls PyProof.Rows
section
variable{N:Nat}{r:Nat->Nat}
structure KB(N:Nat)(p:Array Nat):Prop where
 pos:1<=N
 perm:p.Perm (List.range N).toArray
end
end Ev
namespace ST
open PySem PyProof.Rows
section
variable{prog:Program}{w:World}{A:Around}{E:Value->Shared->Prop}{s:Shared}{kd:SortKind}{r:Keyed->Nat}{a₀:Array Keyed}
def Cmp(prog:Program)(w:World)(A:Around)(E:Value->Shared->Prop)(s:Shared)(kd:SortKind)(r:Keyed->Nat)(a₀:Array Keyed):Prop:=
 ∀x y,x∈a₀->y∈a₀->∀(st:SortSt) (Q:Option Bool->SortSt->Prop),kindOf st=kd->Q (some (decide (r x<r y))) st->wpS (model prog w) A E s (lt' x y) Q st
def bB(left:Bool)(r:Keyed->Nat)(key x:Keyed):Bool:=if left then decide (r x<r key) else !decide (r key<r x)
section
variable{left:Bool}{key:Keyed}{arr:Array Keyed}{base n:Nat}{st:SortSt}(C:Cmp prog w A E s kd r a₀)(hk:kindOf st=kd)(hkey:key∈a₀)(aiu:∀x∈arr,x∈a₀)(hb:base+n<=arr.size)
 (B:Nat->Bool) (hB:∀i (h:base+i<arr.size),i<n->bB left r key arr[base+i]=B i) (hm:∀i j,i<=j->j<n->B j=true->B i=true)
include C hk hkey aiu hb hB hm
end
end
section
variable{le:Keyed->Keyed->Prop}
structure J(le:Keyed->Keyed->Prop)(X Y out:List Keyed)(i j:Nat):Prop where
 hi:i<=X.length
 hj:j<=Y.length
 perm:out.Perm (X.take i++Y.take j)
 srt:out.Pairwise le
 low:∀x∈out,∀y∈X.drop i++Y.drop j,le x y
def Good(le:Keyed->Keyed->Prop)(X Y R:List Keyed):Prop:=R.Perm (X++Y)/\R.Pairwise le
end
section
variable{prog:Program}{w:World}{A:Around}{E:Value->Shared->Prop}{s:Shared}{kd:SortKind}{r:Keyed->Nat}{a₀:Array Keyed}
abbrev R8(r:Keyed->Nat):Keyed->Keyed->Prop:=λx y=>r x<=r y
section
variable{a b:Array Keyed}{st:SortSt}(C:Cmp prog w A E s kd r a₀)(hk:kindOf st=kd)(ma:∀x∈a,x∈a₀)(mb:∀x∈b,x∈a₀)(hX:a.toList.Pairwise (R8 r))(hY:b.toList.Pairwise (R8 r))
 (hl:∀y∈b.toList,∀h:a.size - 1<a.toList.length,R8 r y a.toList[a.size - 1])
structure JS(r:Keyed->Nat)(a b o:Array Keyed)(i j:Nat):Prop where
 on:J (R8 r) a.toList b.toList o.toList i j
 hi:i+1<a.size
 hj:j<b.size
abbrev GD(r:Keyed->Nat)(a b R:Array Keyed):Prop:=Good (R8 r) a.toList b.toList R.toList
include hX in
include hX in
include hY hl in
include hY in
def P1(r:Keyed->Nat)(a b:Array Keyed)(n:Nat)(c:Option (Array Keyed))(o:Array Keyed)(i j:Nat):Prop:=match c with
 | some R=>GD r a b R
 | none=>JS r a b o i j/\n<=i+j
include C hk ma mb hX hY hl
end
end
section
variable{prog:Program}{w:World}{A:Around}{E:Value->Shared->Prop}{s:Shared}{kd:SortKind}{r:Keyed->Nat}{a₀:Array Keyed}
variable{a b:Array Keyed}{st:SortSt}(C:Cmp prog w A E s kd r a₀)(hk:kindOf st=kd)(ma:∀x∈a,x∈a₀)(mb:∀x∈b,x∈a₀)(hX:a.toList.Pairwise (R8 r))(hY:b.toList.Pairwise (R8 r))
 (hl:∀y∈b.toList,∀h:a.size - 1<a.toList.length,R8 r y a.toList[a.size - 1])
include C hk ma mb hX hY hl
end
abbrev H1:=Option (Array Keyed)×Nat×Nat×Array Keyed×Nat×Nat
abbrev H2:=Option (Array Keyed)×Nat×Nat×Array Keyed×Nat×Nat×Nat
abbrev H0:=Option (Array Keyed)×Nat×Nat×Array Keyed×Nat
abbrev geR(r:Keyed->Nat):Keyed->Keyed->Prop:=λx y=>r y<=r x
section
variable{prog:Program}{w:World}{A:Around}{E:Value->Shared->Prop}{s:Shared}{kd:SortKind}{r:Keyed->Nat}{a₀:Array Keyed}
variable{a b:Array Keyed}{st:SortSt}(C:Cmp prog w A E s kd r a₀)(hk:kindOf st=kd)(ma:∀x∈a,x∈a₀)(mb:∀x∈b,x∈a₀)(hX:a.toList.Pairwise (R8 r))(hY:b.toList.Pairwise (R8 r))
 (hl:∀y∈a.toList,∀h:0<b.toList.length,r b.toList[0]<=r y)
abbrev JH(r:Keyed->Nat)(a b o:Array Keyed)(m n:Nat):Prop:=J (geR r) a.toList.reverse b.toList.reverse o.toList (a.size - m) (b.size - n)
structure KS(r:Keyed->Nat)(a b o:Array Keyed)(m n:Nat):Prop where
 on:JH r a b o m n
 m0:0<m
 ml:m<=a.size
 n1:1<n
 nl:n<=b.size
include hX hY in
include hX hl in
include hX in
def P2(r:Keyed->Nat)(a b:Array Keyed)(k:Nat)(c:Option (Array Keyed))(m n:Nat)(o:Array Keyed):Prop:=match c with
 | some R=>GD r a b R
 | none=>KS r a b o m n/\m+n<=k
include C hk ma mb hX hY hl
end
section
variable{prog:Program}{w:World}{A:Around}{E:Value->Shared->Prop}{s:Shared}{kd:SortKind}{r:Keyed->Nat}{a₀:Array Keyed}
variable{a b:Array Keyed}{st:SortSt}(C:Cmp prog w A E s kd r a₀)(hk:kindOf st=kd)(ma:∀x∈a,x∈a₀)(mb:∀x∈b,x∈a₀)(hX:a.toList.Pairwise (R8 r))(hY:b.toList.Pairwise (R8 r))
 (hl:∀y∈a.toList,∀h:0<b.toList.length,r b.toList[0]<=r y)
include C hk ma mb hX hY hl
end
section
variable{prog:Program}{w:World}{A:Around}{E:Value->Shared->Prop}{s:Shared}{kd:SortKind}{r:Keyed->Nat}{a₀:Array Keyed}
structure Bs(kd:SortKind)(a₀:Array Keyed)(st:SortSt):Prop where
 perm:(arrOf st).Perm a₀
 fail:failedOf st=none
 kind:kindOf st=kd
abbrev A1:=Option (Option Nat)×Nat
abbrev A2:=Option (Option Nat)×Nat×Nat
def part(l:List Keyed)(b n:Nat):List Keyed:=(l.drop b).take n
end
end ST
namespace Ev
open PySem PySem.Spec PySem.W PySem.Calls PyProof.Rows L2
def FA(K:Fg)(x:Str)(st:Stmt):Prop:=∃(f:Addr) (oc kV doc pm cdv ct:Value) (od an:Option Addr) (osl:Array (Option Value)),PySem.W.nsIn K mainGlobals x=some (some (.ref f))/\
 K.lookup f=some ⟨oc,od,.func (PySem.W.fnOf x x (fL st) (cL st) (aO st) .none kV doc pm an cdv ct),osl⟩/\PySem.W.codeIn K cdv x=true/\PySem.W.keepIn K (.ref f)=true
theorem FA.mk{K:Fg}{x:Str}{st:Stmt}{f:Addr}{oc kV doc pm cdv ct:Value}{od an:Option Addr}{osl:Array (Option Value)}(a:PySem.W.nsIn K mainGlobals x=some (some (.ref f)))
  (l:K.lookup f=some ⟨oc,od,.func (PySem.W.fnOf x x (fL st) (cL st) (aO st) .none kV doc pm an cdv ct),osl⟩) (c:PySem.W.codeIn K cdv x=true) (k:PySem.W.keepIn K (.ref f)=true):FA K x st:=
 ⟨f,oc,kV,doc,pm,cdv,ct,od,an,osl,a,l,c,k⟩
theorem FA.at{K:Fg}{h:Heap}{mg:Str->Option Value}{x:Str}{st:Stmt}{ps:List Str}(X:K.In h)(G:h.Ns mainGlobals mg)(F:FA K x st)
  (b:∀{kV doc pm:Value} {an:Option Addr} {cdv ct:Value} (us:List Value),us.length=ps.length->bindArgs (PySem.W.fnOf x x (fL st) (cL st) (aO st) .none kV doc pm an cdv ct) ⟨us,[]⟩=pure (ps.zip us)):cX K mg x st ps:=by
 obtain⟨f,oc,kV,doc,pm,cdv,ct,od,an,osl,a,l,c,k⟩:=F;exact funAt X G a l c k (λ_ _ _ _ _ _ us hl=>b us hl)
theorem FA.law{P:Program}{w:World}{K:Fg}{h:Heap}{mg:Str->Option Value}{fa:Addr}{x y:Str}{st:Stmt}{k:Nat}{g:List D->Option D}(X:K.In h)(G:h.Ns mainGlobals mg)(hfa:mg x=some (.ref fa))(F:FA K x st)
  (b:∀{kV doc pm:Value} {an:Option Addr} {cdv ct:Value} (s:Shared) (v:Value),BindsTo s (PySem.W.fnOf x x (fL st) (cL st) (aO st) .none kV doc pm an cdv ct) ⟨[v],[]⟩ [(y,v)])
  (q:∀{fd:FuncData} (base:Heap),R0 K x x st fa fd->mJ P w K mg base Cu k fa fd [y] (pH K 1 g)) :
  ∃fd:FuncData,(∀(s:Shared) (v:Value),BindsTo s fd ⟨[v],[]⟩ [(y,v)])/\∀base:Heap,K.In base->base.Ns mainGlobals mg->mJ P w K mg base Cu k fa fd [y] (pH K 1 g):=by
 obtain⟨f,oc,kV,doc,pm,cdv,ct,od,an,osl,a,l,c,k⟩:=F;have e:=hfa.symm.trans (Qkk X G a);cases e;exact⟨_,b,λbase _ _=>q base (Gn (st:=st) l c k)⟩
open PySem PySem.Spec PyProof.Rows L2
section
variable{X:Cx}{C:Cfg}{pos apos cpos:Pos}
def Es:cR:=λ_=>.stuck
theorem zx{st:Stmt}:Ef X C st Es:=⟨λpins s σ H D I h=>by
 obtain⟨_,_,_,_,f⟩:=h;exact f.elim⟩
end
open PySem PySem.Spec PyProof.Rows L2 PySem.Builtin
instance (zs:List Int):Decidable (zs.Pairwise (·< ·)):=inferInstance
theorem Rel.grow{C:Cfg}{Pr F:Hp}{env:Env}{σ:L2.St}{H H':Hp}(r:Rel C Pr F env σ H)(s:aU H H'):Rel C Pr F env σ H':=by refine⟨r.pr.trans s,r.fr.trans s,r.len,r.val,λj e he=>?_,r.apart,r.dj,r.fix⟩;obtain⟨a,h1,h2,h3,h4⟩:=r.own j e he;obtain⟨o,ho⟩:=h2.some;exact⟨a,h1,h2.mono (aU.refl F) (by rw[ho,s _ _ ho]),h3,h4⟩
theorem Rel.unset{C:Cfg}{Pr F:Hp}{env:Env}{σ:L2.St}{H:Hp}{i:Nat}{v:V}(r:Rel C Pr F env σ H)(hfx:C.fx i=none):Rel C Pr F (env.set i none) (σ.set i (some v)) H:=by
 have un:∀(j:Nat) (x:Bool×D),(env.set i none)[j]? = some (some x)->j≠i/\env[j]? = some (some x):=λj x he=>by
  have hj:j≠i:=λz=>by
   subst z;have hl:j<env.length:=by
    have:=(Qq5.mp he).1
    rwa [Qw5] at this
   rw[Qwq hl] at he;cases he
  rw[Qq3 (Ne.symm hj)] at he;exact⟨hj,he⟩
 refine⟨r.pr,r.fr,by rw[Qw5,Qw5];exact r.len,λj e he=>?_,λj e he=>?_,λj k e f b hj hk g1 g2=>?_,r.dj,λj a hj=>?_⟩
 ·obtain⟨nj,he⟩:=un j _ he;rw[Qq3 (Ne.symm nj)];exact r.val j e he
 ·obtain⟨nj,he⟩:=un j _ he;rw[Qq3 (Ne.symm nj)];exact r.own j e he
 ·obtain⟨nj,hj⟩:=un j _ hj;obtain⟨nk,hk⟩:=un k _ hk;rw[Qq3 (Ne.symm nj)] at g1;rw[Qq3 (Ne.symm nk)] at g2;exact r.apart j k e f b hj hk g1 g2
 ·have hji:j≠i:=λz=>by rw[z,hfx] at hj;cases hj
  rw[Qq3 (Ne.symm hji)];exact r.fix j a hj
theorem wK{X:Cx}{C:Cfg}{pos:Pos}{e:Expr}{a:Ev}(he:SX X C e a)(hs:swapsWith e none pos.line X.env=pure false:=by rfl):Ef X C (.Expr e pos) (Et a):=⟨(Fx he.u hs).imp λD σ H hq=>by
 obtain⟨Pr,F,env,r,f⟩:=hq;obtain⟨d,aH,e1,f1⟩:=cW f;exact⟨Pr,F,env,aH,d,r,e1,λv H1 F1 r1 s1 p1=>f1 σ H1 F1 r1 s1⟩⟩
end Ev
namespace L2
open PySem PySem.Spec PySem.W PySem.Calls PyProof.Rows
theorem sE:∀(ss:List Str) (n:Nat),Vals (ss.map V.str) (strsFrom n ss)
 | [],_=>.nil
 | s::ss,n=>.cons ⟨n,rfl⟩ (sE ss (n+1))
section
variable{X:Cx}
def acg:V->List V->Hp->VK->Prop:=λx vs H Q=>∃z y,x = .str z/\vs=[.str y]/\(y.length == 0)=false/\z.length<=sizeLine/\(Txt.split z y).length<=sizeLine/\∀l,H l=none->Q (.ref l) (upd H l (.lst ((Txt.split z y).map .str)))
theorem Vn:MtM X "str.split" acg:=by
 intro pins s σ H x vs v us Q I rx rv h;obtain⟨z,y,rfl,rfl,hy,hz,hl,q⟩:=h;obtain⟨t,rfl⟩:=rx;obtain⟨u,rfl,t',rfl⟩:=rv.one;have hn:H s.heap.objs.size=none:=I.hok.fresh (Qq2 _);have one:Txt.split z y=[z]->EP X pins σ Q (.ref s.heap.objs.size) { s with heap:=s.heap.push { cls:=Value.type "list",data:=Data.seq #[Value.str z t] } }:=λe=>by
  have q1:=q _ hn;rw[e] at q1;refine⟨.ref s.heap.objs.size,_,I.laid (λb o e=>Qqz _ e) (Qq2 _) (o:=.lst [.str z]) ⟨by show 1<=sizeLine;decide,[Value.str z t],0,.cons ⟨t,rfl⟩ .nil,?_⟩,rfl,q1⟩;exact Qq6 s.heap rfl
 by_cases c1:(decide (z.length<y.length)||decide (Builtin.Str.strKind z<Builtin.Str.strKind y))=true
 ·refine call_meets F.slot_str_split (Qkv s z t) F.entry_str_split (F.args_str_split_2 _ _) (meets_str_split_cannot_occur z y t t' c1) ?_;exact one (by unfold Txt.split;rw[if_pos c1])
 ·have c1':=Bool.eq_false_iff.mpr c1;by_cases c2:(Builtin.Str.occurrences z y 0 z.length (z.length+1)).isEmpty=true
  ·refine call_meets F.slot_str_split (Qkv s z t) F.entry_str_split (F.args_str_split_2 _ _) (meets_str_split_not_found z y t t' c1' hy c2) ?_;exact one (by unfold Txt.split;rw[if_neg c1,if_pos c2])
  ·have c2':=Bool.eq_false_iff.mpr c2;have e:Txt.split z y=Builtin.Str.partsBetween z (Builtin.Str.occurrences z y 0 z.length (z.length+1)) y.length:=by unfold Txt.split;rw[if_neg c1,if_neg c2]
   rw[e] at hl;refine call_meets F.slot_str_split (Qkv s z t) F.entry_str_split (F.args_str_split_2 _ _) (meets_str_split_sep z y t t' c1' hy c2' hz hl) ?_;have q1:=q _ hn;rw[e] at q1;generalize Builtin.Str.partsBetween z (Builtin.Str.occurrences z y 0 z.length (z.length+1)) y.length=ps at *;refine⟨.ref s.heap.objs.size,_,I.laid (λb o e=>Qqz _ e) (Qq2 _) (o:=.lst (ps.map .str)) ⟨by rw[Qqk];exact hl,strsFrom s.toks ps,0,sE ps _,?_⟩,rfl,q1⟩;exact Qq6 s.heap rfl
def XX:V->List V->Hp->VK->Prop:=λx vs H Q=>∃z y,x = .str z/\vs=[.str y]/\Q (.bl (decide (0+y.length<=z.length)&&Builtin.Str.subAt z y 0)) H
theorem Ra:MtM X "str.startswith" XX:=by intro pins s σ H x vs v us Q I rx rv h;obtain⟨z,y,rfl,rfl,q⟩:=h;obtain⟨t,rfl⟩:=rx;obtain⟨u,rfl,t',rfl⟩:=rv.one;exact call_gives F.slot_str_startswith (Qkv s z t) F.entry_str_startswith (F.args_str_startswith_2 _ _) (gives_str_startswith z y t t') ⟨.bl _,H,I,rfl,q⟩
def afJ:V->List V->Hp->VK->Prop:=λx vs H Q=>∃z y,x = .str z/\vs=[.str y]/\Q (.bl (decide (0+y.length<=z.length)&&Builtin.Str.subAt z y (z.length - y.length))) H
theorem Y8:MtM X "str.endswith" afJ:=by intro pins s σ H x vs v us Q I rx rv h;obtain⟨z,y,rfl,rfl,q⟩:=h;obtain⟨t,rfl⟩:=rx;obtain⟨u,rfl,t',rfl⟩:=rv.one;exact call_gives F.slot_str_endswith (Qkv s z t) F.entry_str_endswith (F.args_str_endswith_2 _ _) (gives_str_endswith z y t t') ⟨.bl _,H,I,rfl,q⟩
end
end L2
namespace Ev
open PySem PySem.Spec PySem.W PySem.Calls PyProof.Rows L2
def qd(x y:List Nat):List (List Nat):=(Txt.split (strOf x) (strOf y)).map λs=>s.cps.toList
def gk:D->D->Option D
 | .str x,.str y=>if y≠[]/\x.length<=sizeLine/\(qd x y).length<=sizeLine/\∀p∈qd x y,p.length<=sizeLine then some (.lst ((qd x y).map .str)) else none
 | _,_=>none
def rK:D->D->Option D
 | .str x,.str y=>some (.bl (decide (0+(strOf y).length<=(strOf x).length)&&Builtin.Str.subAt (strOf x) (strOf y) 0))
 | _,_=>none
def Dw:D->D->Option D
 | .str x,.str y=>some (.bl (decide (0+(strOf y).length<=(strOf x).length)&&Builtin.Str.subAt (strOf x) (strOf y) ((strOf x).length - (strOf y).length)))
 | _,_=>none
theorem xJ{K:Fg}{F:Hp}:∀(ss:List Str),(∀p∈ss.map (λs=>s.cps.toList),p.length<=sizeLine)->cg K F ((ss.map λs=>s.cps.toList).map .str) (ss.map V.str)
 | [],_=>rfl
 | s::ss,h=>⟨V.str s,ss.map V.str,rfl,⟨by rw[rC],h _ (Qqv ..)⟩,xJ ss λp hp=>h p (Qqy _ hp)⟩
section
variable{X:Cx}{C:Cfg}{o e:Expr}{a b:Ev}{apos cpos:Pos}
theorem nR(G:Good X C)(ho:SX X C o a)(he:Eg X C e b)(hbase:attributeBase o "split" X.env (eval o X.env)=eval o X.env:=by rfl)
  (hs:BP e X.env:=by rfl)
  (hfew:((backTo cpos (starEach [e] X.env)).all (λx=>!x.1)&&(backToKw cpos (keywordEach [] X.env)).all (λx=>x.1.isSome)
   && decide ([e].length+([]:List Keyword).length+(if ([]:List Keyword).isEmpty then 0 else 1)<30))=true:=by rfl)
  (hline:(apos.endLine == cpos.line)=true:=by rfl) (hplain:(backTo cpos (starEach [] X.env)).any (·.1)=false:=by rfl) :
  SX X C (.Call (.Attribute o "split" apos) [e] [] cpos) (az gk a b):=⟨by
 refine(xK PySem.F.plainAttrs_str PySem.F.slot_str_split PySem.F.type_str_split Vn ho.u (dJ he.u iU hs) hbase hfew hline hs hplain).imp λσ H Q hq=>?_;obtain⟨Pr,F,env,env',d,r,e0,q⟩:=hq;obtain⟨x,aH,e1,e2⟩:=aQ e0;obtain⟨y,dC,e3,e4⟩:=aQ e2;obtain⟨e5,rfl⟩:=cF e4;unfold gk at e5;split at e5
 ·rename_i z y;split at e5
  ·rename_i hz;obtain⟨g1,g2,g3,g4⟩:=hz;cases e5;refine⟨Pr,F,env,aH,_,r,e1,λvx H1 F1 r1 s1 p1=>?_⟩;obtain⟨rfl,_⟩:=p1;refine⟨rfl,Pr,F1,aH,env',_,r1,e3,λvy H2 F2 r2 s2 p2=>?_⟩;obtain⟨rfl,_⟩:=p2.str;refine⟨strOf z,strOf y,rfl,rfl,?_,by rw[aW];exact g2,by unfold qd at g3;rw[Qqk] at g3;exact g3,λl hl=>?_⟩
   ·rw[aW,Qwx];exact λz=>g1 (List.length_eq_zero_iff.mp z)
   ·obtain⟨F3,r3,s3,p3⟩:=(r2.fresh (o:=.lst ((Txt.split (strOf z) (strOf y)).map .str)) hl).keep (RZ.of r2 hl (show jw C.K F2 (upd H2 l (.lst ((Txt.split (strOf z) (strOf y)).map .str))) (.lst ((qd z y).map .str)) l from⟨by rw[Qqk];exact g3,_,bu,xJ _ g4⟩));exact q _ _ F3 r3 (s1.trans (s2.trans s3)) p3
  ·cases e5
 ·cases e5⟩
theorem PQ(G:Good X C)(ho:SX X C o a)(he:Eg X C e b)(hbase:attributeBase o "startswith" X.env (eval o X.env)=eval o X.env:=by rfl)
  (hs:BP e X.env:=by rfl)
  (hfew:((backTo cpos (starEach [e] X.env)).all (λx=>!x.1)&&(backToKw cpos (keywordEach [] X.env)).all (λx=>x.1.isSome)
   && decide ([e].length+([]:List Keyword).length+(if ([]:List Keyword).isEmpty then 0 else 1)<30))=true:=by rfl)
  (hline:(apos.endLine == cpos.line)=true:=by rfl) (hplain:(backTo cpos (starEach [] X.env)).any (·.1)=false:=by rfl) :
  SX X C (.Call (.Attribute o "startswith" apos) [e] [] cpos) (az rK a b):=⟨by
 refine(xK PySem.F.plainAttrs_str PySem.F.slot_str_startswith PySem.F.type_str_startswith Ra ho.u (dJ he.u iU hs) hbase hfew hline hs hplain).imp λσ H Q hq=>?_;obtain⟨Pr,F,env,env',d,r,e0,q⟩:=hq;obtain⟨x,aH,e1,e2⟩:=aQ e0;obtain⟨y,dC,e3,e4⟩:=aQ e2;obtain⟨e5,rfl⟩:=cF e4;unfold rK at e5;split at e5
 ·rename_i z y;cases e5;refine⟨Pr,F,env,aH,_,r,e1,λvx H1 F1 r1 s1 p1=>?_⟩;obtain⟨rfl,_⟩:=p1;refine⟨rfl,Pr,F1,aH,env',_,r1,e3,λvy H2 F2 r2 s2 p2=>?_⟩;obtain⟨rfl,_⟩:=p2.str;exact⟨strOf z,strOf y,rfl,rfl,q _ H2 F2 r2 (s1.trans s2) rfl⟩
 ·cases e5⟩
theorem Xm(G:Good X C)(ho:SX X C o a)(he:Eg X C e b)(hbase:attributeBase o "endswith" X.env (eval o X.env)=eval o X.env:=by rfl)
  (hs:BP e X.env:=by rfl)
  (hfew:((backTo cpos (starEach [e] X.env)).all (λx=>!x.1)&&(backToKw cpos (keywordEach [] X.env)).all (λx=>x.1.isSome)
   && decide ([e].length+([]:List Keyword).length+(if ([]:List Keyword).isEmpty then 0 else 1)<30))=true:=by rfl)
  (hline:(apos.endLine == cpos.line)=true:=by rfl) (hplain:(backTo cpos (starEach [] X.env)).any (·.1)=false:=by rfl) :
  SX X C (.Call (.Attribute o "endswith" apos) [e] [] cpos) (az Dw a b):=⟨by
 refine(xK PySem.F.plainAttrs_str PySem.F.slot_str_endswith PySem.F.type_str_endswith Y8 ho.u (dJ he.u iU hs) hbase hfew hline hs hplain).imp λσ H Q hq=>?_;obtain⟨Pr,F,env,env',d,r,e0,q⟩:=hq;obtain⟨x,aH,e1,e2⟩:=aQ e0;obtain⟨y,dC,e3,e4⟩:=aQ e2;obtain⟨e5,rfl⟩:=cF e4;unfold Dw at e5;split at e5
 ·rename_i z y;cases e5;refine⟨Pr,F,env,aH,_,r,e1,λvx H1 F1 r1 s1 p1=>?_⟩;obtain⟨rfl,_⟩:=p1;refine⟨rfl,Pr,F1,aH,env',_,r1,e3,λvy H2 F2 r2 s2 p2=>?_⟩;obtain⟨rfl,_⟩:=p2.str;exact⟨strOf z,strOf y,rfl,rfl,q _ H2 F2 r2 (s1.trans s2) rfl⟩
 ·cases e5⟩
end
end Ev
namespace L2
open PySem PySem.Spec PySem.W PySem.Calls PyProof.Rows
theorem Yz{X:Cx}{a b:Expr}{ta tb:TE}{c:Str}{j:Nat}{p1 p2 p3 pos:Pos}(ha:PE X a ta)(hb:PE X b tb) :
  PE X (.JoinedStr [.FormattedValue a (-1) none p1,.Constant (.str c) j p2,.FormattedValue b (-1) none p3] pos)
   (λσ H Q=>ta σ H λx H1=>∃u,x = .str u/\u.length<=sizeLine/\(u++c).length<=sizeLine/\tb σ H1 λy H2=>∃v,y = .str v/\v.length<=sizeLine/\(u++c++v).length<=sizeLine/\Q (.str (u++c++v)) H2):=by
 intro pins s σ H Q I h;refine JoinedStr_many (joinParts_cons (FormattedValue_plain (fK (ha pins s σ H _ I h) λv s1 ⟨x,H1,I1,rx,u,ex,hu,hc,h1⟩=>?_)));subst ex;obtain⟨t,rfl⟩:=rx;have e0:Str.empty++u=u:=by have h:=Ev.gf [] u.cps.toList;rw[Ev.rC,List.nil_append,Ev.rC] at h;exact h
 refine formatField_str (λt' tk=>?_) hu;show(Str.empty++u).length<=sizeLine/\_;rw[e0];refine⟨hu,joinParts_cons (Calls.Constant_str ?_)⟩;refine⟨hc,joinParts_consE (joinParts_cons (FormattedValue_plain (fK (hb pins _ σ H1 _ (I1.tok _) h1) λv2 s2 ⟨y,H2,I2,ry,w,ey,hw,hl,h2⟩=>?_)))⟩;subst ey;obtain⟨t2,rfl⟩:=ry;refine formatField_str (λt' tk=>?_) hw;refine⟨hl,joinParts_nilE (joinParts_nil ?_ hl)⟩;exact⟨.str _,H2,I2.tok _,⟨_,rfl⟩,h2⟩
end L2
namespace Ev
open PySem PySem.Spec PySem.W PySem.Calls PyProof.Rows L2
def Ju(c:List Nat)(a b:Ev):Ev:=λenv=>bindR (a env) λx e1=>bindR (b e1) λy e2=>match x,y with
 | .str u,.str v=>if u.length+c.length+v.length<=sizeLine then .ok (.str (u++c++v)) e2 else .stuck
 | _,_=>.stuck
theorem abQ{X:Cx}{C:Cfg}{a b:Expr}{ea eb:Ev}(c:List Nat){cs:Str}{j:Nat}{p1 p2 p3 pos:Pos}(hc:cs=strOf c)(ha:SX X C a ea)(hb:SX X C b eb) :
  SX X C (.JoinedStr [.FormattedValue a (-1) none p1,.Constant (.str cs) j p2,.FormattedValue b (-1) none p3] pos) (Ju c ea eb):=⟨by
 subst hc;refine(Yz ha.u hb.u).imp λσ H Q hq=>?_;obtain⟨Pr,F,env,env',d,r,e0,q⟩:=hq;obtain⟨x,aH,e1,e2⟩:=aQ e0;obtain⟨y,dC,e3,e4⟩:=aQ e2;split at e4
 ·rename_i u v;split at e4
  ·rename_i hl;cases e4;refine⟨Pr,F,env,aH,_,r,e1,λvx H1 F1 r1 s1 p1=>?_⟩;obtain⟨rfl,g1⟩:=p1;refine⟨strOf u,rfl,by rw[aW];exact g1,by rw[gf,aW,Qqq];omega,Pr,F1,aH,env',_,r1,e3,λvy H2 F2 r2 s2 p2=>?_⟩;obtain⟨rfl,g2⟩:=p2;refine⟨strOf v,rfl,by rw[aW];exact g2,by rw[gf,gf,aW,Qqq,Qqq];omega,?_⟩;rw[gf,gf];exact q _ H2 F2 r2 (s1.trans s2) ⟨rfl,by rw[Qqq,Qqq];omega⟩
  ·cases e4
 ·cases e4⟩
section
variable{X:Cx}
def aci(K:Fg):V->List V->Hp->VK->Prop:=λx vs H Q=>∃sep xs p,x = .str (strOf sep)/\vs=[.ref p]/\pO K H p (xs.map λx=>V.str (strOf x))/\joinFits sep xs=true/\Q (.str (strOf (bF sep xs))) H
theorem Vo:MtR X "str.join" (aci X.K):=by
 intro pins s σ H x vs v us Q I rx rv h;obtain⟨sep,xs,p,rfl,rfl,hq,hf,q⟩:=h;obtain⟨t,rfl⟩:=rx;obtain⟨u,rfl,ru⟩:=vals1 rv;cases ru;obtain⟨its,r,pl,_⟩:=I.tuple hq;have hs:=nT r;refine join_tuple pl (by simpa using hs) ?_ λt' k=>?_
 ·have hf':=Qw3 hf;have e:((xs.map strOf).map (·.length))=xs.map List.length:=by
   rw[Qxv];apply Qz5;intro z _;exact aW z
  rw[e,aW,Qqk];exact hf'
 ·rw[Aa];exact⟨.str _,H,I.tok k,⟨t',rfl⟩,q⟩
def X3(K:Fg):V->List V->Hp->VK->Prop:=λx vs H Q=>∃a zs z j,x = .ref a/\vs=[.str (strOf z)]/\j8 K H a (zs.map λy=>V.str (strOf y))/\iz z zs=some j/\Q (.int j) H
theorem Iw:MtM X "list.index" (X3 X.K):=by
 intro pins s σ H x vs v us Q I rx rv h;obtain⟨a,zs,z,j,rfl,rfl,hq,hp,q⟩:=h;cases rx;obtain⟨u,rfl,ru⟩:=rv.one;obtain⟨t,rfl⟩:=ru;obtain⟨its,r,ht,hz⟩:=I.list hq;obtain⟨hj,h1,h2⟩:=Dd hp;have hlen:its.length=zs.length:=by rw[<-r.length,Qqk]
 have key:∀m (hm:m<zs.length),∃tk,its[m]? = some (.str (strOf zs[m]) tk):=λm hm=>by
  obtain⟨w,e1,e2⟩:=r.get (i:=m) (x:=V.str (strOf zs[m])) (by simp[hm]);obtain⟨tk,rfl⟩:=e2;exact⟨tk,e1⟩
 have at':∀m (hm:m<zs.length) (hm':m<its.toArray.size),∃tk,its.toArray[m] = .str (strOf zs[m]) tk:=λm hm hm'=>by
  obtain⟨tk,e⟩:=key m hm;exact⟨tk,by simpa[Qq5] using (Qq5.mp e).2⟩
 let e:Value->Bool:=λy=>match y with|.str y _=>y == strOf z|_=>false
 obtain⟨o,ho,hc,n,hd⟩:=ht.isList;obtain⟨cls,dd,data,sl⟩:=o;simp only at hc hd;subst hc hd;have hjs:j<its.toArray.size:=by simpa[hlen] using hj
 refine call_meets F.slot_list_index ⟨_,ho,rfl⟩ F.entry_list_index (F.args_list_index_2 _ _) (SeqAt.list_indexAt a its.toArray n dd sl (.str (strOf z) t) e j hjs ?_ ?_ ?_) ⟨ho,λy hy=>?_,?_⟩
 ·have:zs.length<=sizeLine:=by rw[<-hlen,<-r.length] at *;exact hz
  rw[Qkq] at this;omega
 ·obtain⟨tk,e1⟩:=at' j hj hjs;rw[e1,h1];show(strOf z == strOf z)=true;simp
 ·intro m hm hmj;have hm':m<zs.length:=by simpa[hlen] using hm
  obtain⟨tk,e1⟩:=at' m hm' hm;rw[e1];show(strOf zs[m] == strOf z)=false;rw[Qwx];intro e2;refine h2 m hm' hmj ?_;have:=Qz0 (λs:Str=>s.cps.toList) e2
  simpa[strOf] using this
 ·obtain⟨m,hm,rfl⟩:=Array.mem_iff_getElem.mp hy;have hm':m<zs.length:=by simpa[hlen] using hm
  obtain⟨tk,e1⟩:=at' m hm' hm;rw[e1];exact SeqAt.EqAt.str_str _ tk _ t
 ·exact⟨.int j,H,I.tok _,⟨_,rfl⟩,q⟩
end
def uc(x y:D):Option D:=match x,y with
 | .str sep,.tup ds=>(match fP ds with
  | some xs=>if joinFits sep xs=true then some (.str (bF sep xs)) else none
  | none=>none)
 | _,_=>none
def vf:D->D->Option D
 | .lst ds,.str z=>(fP ds).bind λzs=>(iz z zs).map λj=>.int (j:Nat)
 | _,_=>none
section
variable{X:Cx}{C:Cfg}{o e:Expr}{a b:Ev}{apos cpos:Pos}
theorem Hh(G:Good X C)(ho:SX X C o a)(he:Eg X C e b)(hbase:attributeBase o "join" X.env (eval o X.env)=eval o X.env:=by rfl)
  (hs:BP e X.env:=by rfl)
  (hfew:((backTo cpos (starEach [e] X.env)).all (λx=>!x.1)&&(backToKw cpos (keywordEach [] X.env)).all (λx=>x.1.isSome)
   && decide ([e].length+([]:List Keyword).length+(if ([]:List Keyword).isEmpty then 0 else 1)<30))=true:=by rfl)
  (hline:(apos.endLine == cpos.line)=true:=by rfl) (hplain:(backTo cpos (starEach [] X.env)).any (·.1)=false:=by rfl) :
  SX X C (.Call (.Attribute o "join" apos) [e] [] cpos) (az uc a b):=⟨by
 have h:=xK (cpos:=cpos) PySem.F.plainAttrs_str PySem.F.slot_str_join PySem.F.type_str_join Vo ho.u (dJ he.u iU hs) hbase hfew hline hs hplain;rw[G.K] at h;refine h.imp λσ H Q h=>?_;obtain⟨Pr,F,env,env',d,rl,e0,q⟩:=h;obtain⟨x,aH,e1,e2⟩:=aQ e0;obtain⟨y,dC,e3,e4⟩:=aQ e2;obtain⟨e5,rfl⟩:=cF e4;unfold uc at e5;split at e5
 ·rename_i sep ds;split at e5
  ·rename_i xs hxs;split at e5
   ·rename_i hf;cases e5;refine⟨Pr,F,env,aH,_,rl,e1,λvx H1 F1 r1 s1 p1=>?_⟩;obtain⟨rfl,_⟩:=p1;refine⟨rfl,Pr,F1,aH,env',_,r1,e3,λvy H2 F2 r2 s2 p2=>?_⟩;obtain⟨z,l,ws,rfl,h1,_,h2⟩:=p2.tup r2.fr;have e6:=lH hxs h2;subst e6;exact⟨sep,xs,l,rfl,rfl,h1,hf,q _ H2 F2 r2 (s1.trans s2) ⟨rfl,Jg hf⟩⟩
   ·cases e5
  ·cases e5
 ·cases e5⟩
theorem Cy(G:Good X C)(ho:SX X C o a)(he:Eg X C e b)(hbase:attributeBase o "index" X.env (eval o X.env)=eval o X.env:=by rfl)
  (hs:BP e X.env:=by rfl)
  (hfew:((backTo cpos (starEach [e] X.env)).all (λx=>!x.1)&&(backToKw cpos (keywordEach [] X.env)).all (λx=>x.1.isSome)
   && decide ([e].length+([]:List Keyword).length+(if ([]:List Keyword).isEmpty then 0 else 1)<30))=true:=by rfl)
  (hline:(apos.endLine == cpos.line)=true:=by rfl) (hplain:(backTo cpos (starEach [] X.env)).any (·.1)=false:=by rfl) :
  SX X C (.Call (.Attribute o "index" apos) [e] [] cpos) (az vf a b):=⟨by
 have h:=xK (cpos:=cpos) PySem.F.plainAttrs_list PySem.F.slot_list_index PySem.F.type_list_index Iw ho.u (dJ he.u iU hs) hbase hfew hline hs hplain;rw[G.K] at h;refine h.imp λσ H Q hq=>?_;obtain⟨Pr,F,env,env',d,r,e0,q⟩:=hq;obtain⟨x,aH,e1,e2⟩:=aQ e0;obtain⟨y,dC,e3,e4⟩:=aQ e2;obtain⟨e5,rfl⟩:=cF e4;unfold vf at e5;split at e5
 ·rename_i ds z;obtain⟨zs,h1,h2⟩:=Qxw.mp e5;obtain⟨j,h3,rfl⟩:=Qw1.mp h2;refine⟨Pr,F,env,aH,_,r,e1,λvx H1 F1 r1 s1 p1=>?_⟩;obtain⟨hz,p,vs,rfl,h4,h5⟩:=p1;refine⟨.inl ⟨rfl,vs,j8.of (r1.fr _ _ h4)⟩,Pr,F1,aH,env',_,r1,e3,λvy H2 F2 r2 s2 p2=>?_⟩;obtain⟨rfl,_⟩:=p2.str;have e6:=lH h1 h5;subst e6;exact⟨p,zs,z,j,rfl,rfl,j8.of (r2.fr _ _ (s2 _ _ h4)),h3,q _ H2 F2 r2 (s1.trans s2) rfl⟩
 ·cases e5⟩
end
open PySem PySem.Spec PyProof.Rows L2
theorem wU{X:Cx}{C:Cfg}(G:Good X C):Good X.wU C:=⟨G.K,G.calm,G.un⟩
theorem acC{X:Cx}{body:List Stmt}{h₀:ExceptHandler}{hs:List ExceptHandler}{pos:Pos}{tb:TS}(hbd:Bm X.wU body tb):PS X (.Try body (h₀::hs) [] [] pos) tb:=by
 intro pins s σ H D I h;refine wpAny_Try_except (Qxx (hbd pins s σ H D (I.wish _) h) (λf s1 q=>?_) λ_ _ z=>False.elim z);cases f with
 | next=>exact wpAny_execs_nil q.fO
 | brk=>exact q.fO
 | cont=>exact q.fO
 | ret u=>exact q.fO
theorem aca{X:Cx}{C:Cfg}{pos px py pt:Pos}{kt:Nat}{k2:Nat}{pt2:Pos}{x y:Str}{a b:Expr}{r:di}(i j:Nat)(G:Good X C)(hpa:J5 X C [a,b] r)(hnd:jk X.N=true:=by rfl)(hfi:C.fx i=none:=by rfl)(hfj:C.fx j=none:=by rfl)(hi:X.N[i]? = some x:=by rfl)(hj:X.N[j]? = some y:=by rfl)(hij:(i == j)=false:=by rfl)
  (hx:X.env.scope.names.lookup x=some .local:=by rfl) (hy:X.env.scope.names.lookup y=some .local:=by rfl)
  (hw:swappedStores [.Tuple [.Name x px,.Name y py] kt pt] (.Tuple [a,b] k2 pt2) X.env=pure (some [x,y]):=by rfl)
  (hs:swapsWithSole [.Tuple [.Name x px,.Name y py] kt pt] (.Tuple [a,b] k2 pt2) pos.line X.env=pure false:=by rfl) :
  Ef X C (.Assign [.Tuple [.Name x px,.Name y py] kt pt] (.Tuple [a,b] k2 pt2) pos) (bA (cG r) (eY 2 (bG (au i) (bG (au j) (eZ))))):=⟨by
 refine(acD G.calm (fQ hnd) hi hj (by simpa using hij) hx hy hpa.u hw hs).imp λD σ H h=>?_;obtain⟨Pr,F,env,rl,f⟩:=h;obtain⟨d,aH,e1,f1⟩:=cW f;obtain⟨ds,dC,e2,e3⟩:=aQ e1;have hd:d = .tup ds/\dC=aH:=by
  revert e3;show(if ds.length<=sizeLine then R.ok (Ev.D.tup ds) dC else .stuck) = .ok d aH->_;split
  ·intro z;cases z;exact⟨rfl,rfl⟩
  ·intro z;cases z
 obtain⟨rfl,rfl⟩:=hd
 match ds,e2,f1 with
 | [d1,d2],e2,f1=>
  refine⟨Pr,F,env,dC,[d1,d2],rl,e2,λvs H' F' r' s' p'=>?_⟩;obtain⟨v,vs1,rfl,p1,p2⟩:=p';obtain⟨w,vs2,rfl,p3,p4⟩:=p2;cases p4;exact⟨v,w,rfl,f1 _ H' F' ((r'.put hfi p1).put hfj p3) s'⟩
 | [],_,f1=>exact f1.elim
 | [_],_,f1=>exact f1.elim
 | u::v::t::rest,_,f1=>
  have hne:¬(u::v::t::rest).length=2:=by rw[Qq0,Qq0,Qq0];omega
  have z:eY 2 (bG (au i) (bG (au j) eZ)) (Ev.D.tup (u::v::t::rest)) dC=none:=by show(if (u::v::t::rest).length=2 then bG (au i) (bG (au j) eZ) (u::v::t::rest) dC else none)=none;exact if_neg hne
  rw[z] at f1;exact f1.elim⟩
end Ev
namespace XC
open PySem PySem.Spec PyProof.Rows PySem.W
structure Cl(K:Frag)(C:Addr):Prop where
 ga:findIn K (.ref C) "__getattribute__" = some (some (.builtin "BaseException.__getattribute__"))
 gt:findIn K (.ref C) "__getattr__" = some none
 cl:findIn K (.ref C) "__class__" = some (some (.builtin "object.__class__"))
 ob:mroIn K C (.type "object")=some true
 be:mroIn K C (.type "BaseException")=some true
section
variable{prog:Program}{w:World}{A:Around}{E:Value->Shared->Prop}{h:Heap}{g:Array GenState}{d:Drawn}{t:Nat}{os:OsState}{K:Frag}{x C:Addr}{M:Model}{S:Addr}{o:Obj}
def At(x C:Addr)(h:Heap):Prop:=∃o,h.get? x=some o/\o.cls = .ref C
theorem At.type{M:Model}(I:At x C h):Looks M h (typeOf (.ref x)) (.ref C):=by obtain⟨o,h1,h2⟩:=I;exact h2 ▸ (Looks.ld h1).andThen .now
theorem get{tp:Value}{R:Result->Shared->Prop}(X:K.In h)(I:At x C h)(Z:Cl K C)(hq:R (.ok (.ret (.ref C))) ⟨h,g,d,t,os⟩) :
  codeAny (model prog w) A (.call (.builtin "getset_descriptor.__get__") ⟨[.builtin "object.__class__",.ref x,tp],[]⟩) R ⟨h,g,d,t,os⟩:=by
 have L0:=I.type (M:=model prog w);have L1:Looks (model prog w) h (isSubtype (.ref C) (.type (".".intercalate ("object.__class__".cutAt '.').dropLast))) true:=by rw[F.owner_object_class];exact looks_mroIn X Z.ob
 have hT:(⟨h,g,d,t,os⟩:Shared).TypeIs (.builtin "object.__class__") "getset_descriptor":=F.typeOf_object_class;refine codeAny_call_builtin F.slot_gs_get.plain F.entry_gs_get (F.slot_gs_get.check _ _ _ _ _ _ _ _ hT (F.args_gs_get _ _ _) ?_)
 repeat (any_goals (first|assumption|with_reducible refine L0.at ?_|with_reducible refine L1.at ?_|wp_step))
 refine⟨Code.quiet_builtin _ (by decide +kernel),Qj5 F.entry_object_class ?_⟩
 repeat (any_goals (first|assumption|with_reducible refine L0.at ?_|wp_step))
theorem entry{tk:Tok}{Q:PySem.Fin->Shared->Prop}(X:K.In h)(I:At x C h)(Z:Cl K C)(hq:Q (.done (.ret (.ref C))) ⟨h,g,d,t,os⟩) :
  wpAny (model prog w) A (Builtin.«object.__getattribute__» ⟨[.ref x,.str "__class__" tk],[]⟩) Q E ⟨h,g,d,t,os⟩:=by
 have L0:=I.type (M:=model prog w);have L1:=looks_findIn (M:=model prog w) X Z.cl;have hT5:(⟨h,g,d,t,os⟩:Shared).TypeIs (.builtin "object.__class__") "getset_descriptor":=F.typeOf_object_class;have f5:=F.typeOf_object_class;have f6:=F.slot_gs_get.lookup;have f7:=F.slot_gs_set.lookup
 repeat (any_goals (first|assumption|with_reducible refine L0.at ?_|with_reducible refine L1.at ?_|wp_step))
 refine get X I Z ?_
 repeat (any_goals (first|assumption|wp_step))
theorem check{M:Model}{nameV:Value}{Q:Unit->Shared->Prop}(X:K.In h)(I:At x C h)(Z:Cl K C)(hq:Q () ⟨h,g,d,t,os⟩):wpAny M A (checkBuiltinCall "BaseException.__getattribute__" ⟨[.ref x,nameV],[]⟩) Q E ⟨h,g,d,t,os⟩:=by
 have hk:builtinKind "BaseException.__getattribute__" = some .slot:=by decide +kernel
 have hsplit:splitId "BaseException.__getattribute__" = some ("BaseException","__getattribute__"):=by decide +kernel
 have ha:=F.args_bexc_ga (.ref x) nameV;have L0:=I.type (M:=M);have L1:=looks_mroIn (M:=M) X Z.be;simp only[checkBuiltinCall,hk,hsplit];refine Qqx ?_;unfold isInstance
 repeat (any_goals (first|assumption|with_reducible refine L0.at ?_|with_reducible refine L1.at ?_|wp_step))
theorem by_{tk:Tok}{Q:Value->Shared->Prop}(X:K.In h)(I:At x C h)(Z:Cl K C)(hq:Q (.ref C) ⟨h,g,d,t,os⟩):wpAny (model prog w) A (getAttrBy (.ref x) (.str "__class__" tk) false) Q E ⟨h,g,d,t,os⟩:=by
 have L0:=I.type (M:=model prog w);have L1:=looks_findIn (M:=model prog w) X Z.ga;have L2:=looks_findIn (M:=model prog w) X Z.gt;have f3:=F.attr_ValueError.ga.bind (.ref x);have hx2:(Value.builtin "BaseException.__getattribute__" == Value.builtin "object.__getattribute__")=false:=by decide +kernel
 have hx1:(onTheHeap (Value.ref C)&&Value.builtin "BaseException.__getattribute__" == Value.builtin "object.__getattribute__")=false:=by rw[hx2];rfl
 repeat (any_goals (first|assumption|with_reducible refine L0.at ?_|with_reducible refine L1.at ?_|with_reducible refine L2.at ?_|wp_step))
 refine codeAny_call_builtin F.attr_ValueError.ga.plain F.entry_bexc_ga (check X I Z (entry X I Z ?_))
 repeat (any_goals (first|assumption|wp_step))
theorem attr{Q:Option Value->Shared->Prop}(X:K.In h)(I:At x C h)(Z:Cl K C)(hq:Q (some (.ref C)) ⟨h,g,d,t+1,os⟩):wpAny (model prog w) A (getAttr? (.ref x) "__class__") Q E ⟨h,g,d,t,os⟩:=by
 unfold getAttr? getAttrBy?
 repeat (any_goals (first|assumption|with_reducible apply by_ X I Z|wp_step))
theorem Cl.at(Z:Cl K C):∃c' d' cd sl,K.lookup C=some ⟨c',d',.cls cd,sl⟩:=by
 obtain⟨cd,q,_⟩:=Qxw.mp Z.ob;unfold clsIn at q;split at q
 ·rename_i ho;exact⟨_,_,_,_,ho⟩
 ·cases q
theorem ah9(Z:Cl K C):KitX K (.ref x) (.ref C) (At x C) where
 ty:=λ_ _ _ I=>I.type
 it:=λ_ _ X _=>by
  obtain⟨c',d',cd,sl,ho⟩:=Z.at;intro A' Q' E' s' k q;unfold isType loadHead;exact Qqx (wpAny_loadPart (k _ _ (X _ _ ho)) (Qqw q))
 ne:=λh tp dd its n sl X htp=>by
  obtain⟨c',d',cd,sl',ho⟩:=Z.at;refine Bool.eq_false_iff.mpr λq=>?_;have e:C=tp:=Value.ref.inj (beq_iff_eq.mp q);subst e;have z:=X _ _ ho;rw[htp] at z;cases z
 ca:=λ{_ _ _ _ _ s} X I k=>by
  obtain⟨h,g,d,t,os⟩:=s;exact attr X I Z k
theorem isi{s:Shared}{c:Value}{b:Bool}{Q:Value->Shared->Prop}(Z:Cl K C)(X:K.In s.heap)(I:At x C s.heap)(e:kitOne K (.ref C) c=some b)(h:∀tk,Q (.bool b) { s with toks:=tk }) :
  wpAny (model prog w) A (call (.builtin "isinstance") [.ref x,c]) Q E s:=kia_one (ah9 Z) X I e (λz=>nomatch z) h
theorem caught{Q:Bool->Shared->Prop}(X:K.In h)(ho:h.get? x=some o)(hc:o.cls = .ref C)(Z:Cl K S)(ty:typeIn K (.ref S)=some (.type "type"))(sub:mroIn K C (.ref S)=some true)(hq:Q true ⟨h,g,d,t,os⟩) :
  wpAny M A (excMatches (.ref x) (.ref S)) Q E ⟨h,g,d,t,os⟩:=by
 have L1:=looks_mroIn (M:=M) X Z.be;have L2:=looks_mroIn (M:=M) X sub;have L3:=looks_typeIn (M:=M) X ty;obtain⟨c',d',cd,sl,hS⟩:=Z.at;have hS':=X _ _ hS;have f:=tc_notTuple;unfold excMatches
 repeat (any_goals (first|assumption|with_reducible refine L1.at ?_|with_reducible refine L2.at ?_|with_reducible refine L3.at ?_|(with_reducible refine wpAny_loadPart_at ho ?_;rw[hc])|with_reducible refine wpAny_loadPart_at hS' ?_|wp_step))
end
open PySem PySem.Spec PyProof.Rows PySem.W Builtin Builtin.ObjectAttr
abbrev Z7:List Value:=[.type "ValueError",.type "Exception",.type "BaseException",.type "object"]
structure Xd(K:Frag)(C S:Addr)(name:Str):Prop where
 z:Cl K C
 sa:findIn K (.ref C) "__setattr__" = some (some (.builtin "object.__setattr__"))
 no:findIn K (.ref C) name=some none
 cd:∃cd,clsIn K C=some cd/\cd.hasDict=true/\cd.mro = .ref C :: .ref S::Z7
section
variable{prog:Program}{w:World}{A:Around}{E:Value->Shared->Prop}{h:Heap}{g:Array GenState}{d:Drawn}{t:Nat}{os:OsState}{K:Frag}{x C S:Addr}{name:Str}{v:Value}{o:Obj}{vs:Array Value}{dx:Addr}{m:Str->Option Value}{nm q:Str}{N fI:Addr}{bs bm:List Value}{hdct:Bool}{sn:List Str}{sub:List Value}{ab:Bool}{col:Option Bool}{dd:Option Addr}{k0 k1 k2 k3 k5:Option Value}{s:Shared}{env:Env}
theorem Tg{tk:Tok}{Q:PySem.Fin->Shared->Prop}(X:K.In h)(Z:Xd K C S name)(hx:h.get? x=some o)(hc:o.cls = .ref C)(hdn:o.dict=none)(hda:o.data = .fields vs)
  (hq:∀h' tk' dx,(∀b ob,b≠x->h.get? b=some ob->h'.get? b=some ob)->h'.get? x=some { o with dict:=some dx }->h.get? dx=none->dx≠x->h'.Ns1 dx (λy=>if y=name then some v else none)->Q (.done (.ret .none)) ⟨h',g,d,tk',os⟩) :
  wpAny (model prog w) A (Builtin.«object.__setattr__» ⟨[.ref x,.str name tk,v],[]⟩) Q E ⟨h,g,d,t,os⟩:=by
 obtain⟨cd,hcd,hhd,hmro⟩:=Z.cd;have L0:Looks (model prog w) h (typeOf (.ref x)) (.ref C):=At.type ⟨o,hx,hc⟩;have L1:=looks_findIn (M:=model prog w) X Z.no;have L2:Looks (model prog w) h (mroOf (.ref C)) cd.mro:=(looks_clsIn X hcd).andThen .now;have L3:=looks_clsIn (M:=model prog w) X hcd;have hpass:=PySem.F.store_ValueError.passes (.ref x);rw[osa_eq,refuse_eq];refine Qqx (Qqx (L0.at (Qqx (L2.at ?_))));rw[hmro,refuseLoop_ref,refuseLoop_ref,hpass];refine Qqw (Qqx (L0.at (Qqx (L1.at (Qqx (Qqw ?_))))));show wpAny _ _ (storeInOwnDict (.ref x) (.ref C) (.str name tk) name v false) _ _ _;unfold storeInOwnDict ownDictForStores
 repeat (any_goals (first|assumption|with_reducible refine wpAny_loadPart_at hx ?_|wp_step))
 obtain⟨oc,od,oda,osl⟩:=o;simp only at hc hdn hda;subst hc hdn hda;refine Qqx (L3.at ?_);rw[hhd];simp only[Bool.not_true,Bool.false_eq_true,if_false];rw[if_neg (by simp[typeHasDict])];have hx₁:(h.push { cls:=.type "dict",data:=.dict #[] }).get? x=some ⟨.ref C,none,.fields vs,osl⟩:=Qqz _ hx;have hxs:x≠h.objs.size:=Qwv (Qq9 hx);refine Qqx (wpAny_alloc' (Qqx (wpAny_update' hx₁ ?_)));refine Qqw ?_;have hgd:((h.push { cls:=.type "dict",data:=.dict #[] }).update x λo=>{ cls:=o.cls,dict:=some h.objs.size,data:=o.data,slots:=o.slots }).get? h.objs.size=some { cls:=.type "dict",data:=.dict #[] }:=
  (Heap.get?_update_ne _ _ _ _ hxs.symm).trans (Heap.get?_push_at rfl rfl)
 have hnd:((h.push { cls:=.type "dict",data:=.dict #[] }).update x λo=>{ cls:=o.cls,dict:=some h.objs.size,data:=o.data,slots:=o.slots }).Ns h.objs.size (λ_=>none):=
  ⟨_, #[],_,hgd,rfl,λe he=>absurd he (by simp),λ_=>rfl⟩
 show wpAny _ _ (storeInDict h.objs.size (.str name tk) name v) _ _ _;unfold storeInDict newKeyGuard;refine Qqx (Qqw (Qqx (wpAny_nsSet1 (Heap.Ns1.of_empty hnd) λh' hn' hs=>?_)));obtain⟨oD,esD,epD,hoD,hdD,hcD⟩:=hn'.count (Within.cons name v Within.nil);refine Qqx (wpAny_lookBehind hoD (by rw[hdD];exact pastItsLine_dict (Qqj hcD (by rw[Qq0,Qz8,Qkq];omega))) ?_)
 wp_walk
 refine hq h' _ h.objs.size (λb ob hbx hb=>(hs.2 b (Qwv (Qq9 hb))).trans ((Heap.get?_update_ne _ _ _ _ hbx).trans (Qqz _ hb))) ?_ (Heap.get?_none_of_le (Qq2 _)) hxs.symm hn';exact(hs.2 x hxs).trans (Heap.get?_update_self _ hx₁ rfl)
theorem Th{nameV:Value}{M:Model}{Q:Unit->Shared->Prop}(X:K.In h)(Z:Xd K C S name)(hx:h.get? x=some o)(hc:o.cls = .ref C)(hq:Q () ⟨h,g,d,t,os⟩):wpAny M A (checkBuiltinCall "object.__setattr__" ⟨[.ref x,nameV,v],[]⟩) Q E ⟨h,g,d,t,os⟩:=by have L0:Looks M h (typeOf (.ref x)) (.ref C):=At.type ⟨o,hx,hc⟩;have sub:Looks M h (isInstance (.ref x) (.type "object")) true:=L0.andThen (looks_mroIn X Z.z.ob);exact @check_slot M _ _ ⟨h,g,d,t,os⟩ "object.__setattr__" "object" "__setattr__" (.ref x) [nameV,v] [] _ PySem.F.store_ValueError.kind PySem.F.store_ValueError.split sub (PySem.F.store_ValueError.args (.ref x) nameV v) hq
theorem store{Q:Unit->Shared->Prop}(X:K.In h)(Z:Xd K C S name)(hx:h.get? x=some o)(hc:o.cls = .ref C)(hdn:o.dict=none)(hda:o.data = .fields vs)
  (hq:∀h' tk' dx,(∀b ob,b≠x->h.get? b=some ob->h'.get? b=some ob)->h'.get? x=some { o with dict:=some dx }->h.get? dx=none->dx≠x->h'.Ns1 dx (λy=>if y=name then some v else none)->Q () ⟨h',g,d,tk',os⟩) :
  wpAny (model prog w) A (setAttr (.ref x) name v) Q E ⟨h,g,d,t,os⟩:=by
 have L0:Looks (model prog w) h (typeOf (.ref x)) (.ref C):=At.type ⟨o,hx,hc⟩;have L1:=looks_findIn (M:=model prog w) X Z.sa;have f3:=PySem.F.store_ValueError.slot.bind (.ref x);unfold setAttr callSpecial? specialOf
 repeat (any_goals (first|assumption|with_reducible refine L0.at ?_|with_reducible refine L1.at ?_|wp_step))
 refine codeAny_call_builtin PySem.F.store_ValueError.slot.plain PySem.F.store_ValueError.entry (Th X Z hx hc (Tg X Z hx hc hdn hda λh' tk' dx q1 q2 q3 q4 q5=>?_))
 repeat (any_goals (first|assumption|wp_step))
 exact hq h' tk' dx q1 q2 q3 q4 q5
theorem Za{tk:Tok}{Q:PySem.Fin->Shared->Prop}(X:K.In h)(Z:Xd K C S name)(hx:h.get? x=some o)(hc:o.cls = .ref C)(hdn:o.dict=some dx)(hda:o.data = .fields vs)(hn:h.Ns dx m)(hm:m name=some v)(hq:Q (.done (.ret v)) ⟨h,g,d,t,os⟩) :
  wpAny (model prog w) A (Builtin.«object.__getattribute__» ⟨[.ref x,.str name tk],[]⟩) Q E ⟨h,g,d,t,os⟩:=by
 obtain⟨cd,hcd,hhd,hmro⟩:=Z.cd;have L0:Looks (model prog w) h (typeOf (.ref x)) (.ref C):=At.type ⟨o,hx,hc⟩;have L1:=looks_findIn (M:=model prog w) X Z.no;have L3:=looks_clsIn (M:=model prog w) X hcd;unfold Builtin.«object.__getattribute__»
 repeat (any_goals (first|assumption|with_reducible refine L0.at ?_|with_reducible refine L1.at ?_|with_reducible refine L3.at ?_|wp_step))
 obtain⟨oc,od,oda,osl⟩:=o;simp only at hc hdn hda;subst hc hdn hda;show wpAny _ _ (instanceDict x false) _ _ _;unfold instanceDict
 repeat (any_goals (first|assumption|with_reducible refine wpAny_loadPart_at hx ?_|with_reducible refine L3.at ?_|(with_reducible refine wpAny_nsGet hn ?_;rw[hm])|(unfold inDict;with_reducible refine wpAny_nsGet hn ?_;rw[hm])|wp_step))
theorem Zc{tk:Tok}{fill expr:Bool}{Q:Value->Shared->Prop}(X:K.In h)(Z:Xd K C S name)(hx:h.get? x=some o)(hc:o.cls = .ref C)(hdn:o.dict=some dx)(hda:o.data = .fields vs)(hn:h.Ns dx m)(hm:m name=some v)(hh:handedOut v=pure v)(hq:Q v ⟨h,g,d,t,os⟩) :
  wpAny (model prog w) A (getAttrBy (.ref x) (.str name tk) fill expr) Q E ⟨h,g,d,t,os⟩:=by
 have I:At x C h:=⟨o,hx,hc⟩;have L0:=I.type (M:=model prog w);have L1:=looks_findIn (M:=model prog w) X Z.z.ga;have L2:=looks_findIn (M:=model prog w) X Z.z.gt;have f3:=F.attr_ValueError.ga.bind (.ref x);have hx0:(expr&&onTheHeap (Value.builtin "BaseException.__getattribute__"))=false:=by cases expr<;>rfl
 have hx2:(Value.builtin "BaseException.__getattribute__" == Value.builtin "object.__getattribute__")=false:=by decide +kernel
 have hx1:(onTheHeap (Value.ref C)&&Value.builtin "BaseException.__getattribute__" == Value.builtin "object.__getattribute__")=false:=by rw[hx2];rfl
 repeat (any_goals (first|assumption|with_reducible refine L0.at ?_|with_reducible refine L1.at ?_|with_reducible refine L2.at ?_|wp_step))
 refine codeAny_call_builtin F.attr_ValueError.ga.plain F.entry_bexc_ga (check X I Z.z (Za X Z hx hc hdn hda hn hm ?_))
 repeat (any_goals (first|assumption|wp_step))
theorem load{expr:Bool}{Q:Value->Shared->Prop}(X:K.In h)(Z:Xd K C S name)(hx:h.get? x=some o)(hc:o.cls = .ref C)(hdn:o.dict=some dx)(hda:o.data = .fields vs)(hn:h.Ns dx m)(hm:m name=some v)(hh:handedOut v=pure v)(hq:Q v ⟨h,g,d,t+1,os⟩) :
  wpAny (model prog w) A (getAttr (.ref x) name expr) Q E ⟨h,g,d,t,os⟩:=by
 unfold getAttr
 repeat (any_goals (first|assumption|with_reducible apply Zc X Z hx hc hdn hda hn hm hh|wp_step))
theorem made{rest:List Value}{Q:PySem.Fin->Shared->Prop}(X:K.In h)(T:OwnTail h Z7 bm)(hC:h.get? C=some (excClassObj nm q C N bs bm hdct sn sub ab col dd k0 k1 k2 k3 k5 "ValueError.__new__"))(hi:findIn K (.ref C) "__init__" = some (some (.ref fI)))(hf:typeIn K (.ref fI)=some (.type "function"))
  (hq:∀h' e,Heap.MadeExcOf h h' e (.ref C) rest->wpAny (model prog w) A (call (.ref fI) (.ref e::rest)) (λr s'=>r = .none/\Q (.done (.ret (.ref e))) s') E ⟨h',g,d,t,os⟩) (hrest:rest.length<=sizeLine) :
  wpAny (model prog w) A (Builtin.«type.__call__» ⟨.ref C::rest,[]⟩) Q E ⟨h,g,d,t,os⟩:=by
 have F:=PySem.F.excBase_ValueError
 repeat (first|with_reducible refine wpAny_loadPart_at hC ?_|with_reducible refine wpAny_madeBy_exc hC ?_|wp_step)
 refine codeAny_call_builtin_code (Code.quiet_builtin _ F.quiet) (wpAny_check_new_subU F F.hasB T hC ?_);refine codeAny_exc_new_subU F F.hasB F T hC ?_ hrest;show wpAny _ _ _ _ _ _;have hC₁:=Qqz { cls:=.ref C,data:=.fields #[.ref h.objs.size,.none,.none,.none,.bool false,.none] } (Qqz { cls:=.type "tuple",data:=.seq rest.toArray } hC);have X₁:K.In ((h.push { cls:=.type "tuple",data:=.seq rest.toArray }).push { cls:=.ref C,data:=.fields #[.ref h.objs.size,.none,.none,.none,.bool false,.none] }):=X.keeps λb o e=>Qqz _ (Qqz _ e);have hget:((h.push { cls:=.type "tuple",data:=.seq rest.toArray }).push { cls:=.ref C,data:=.fields #[.ref h.objs.size,.none,.none,.none,.bool false,.none] }).get? (h.objs.size+1)=some { cls:=.ref C,data:=.fields #[.ref h.objs.size,.none,.none,.none,.bool false,.none] }:=by heap_get
 have hcC:(Value.ref C::bm).contains (.ref C)=true:=by simp
 unfold isInstance
 repeat (first|with_reducible refine wpAny_loadPart_at hget ?_|(with_reducible refine wpAny_isSubtype_exc hC₁ ?_;rw[hcC])|wp_step)
 show wpAny _ _ (typeLookup (.ref C) _) _ _ _;refine(looks_findIn X₁ hi).at ?_;refine Qzz (Qqx ?_);unfold bindSpecial;refine Qqx ((looks_typeIn X₁ hf).at ?_);rw[if_pos (by decide)];refine Qqw (Qqx (Qxx (hq _ (h.objs.size+1) ⟨λb o hb=>Qqz _ (Qqz _ hb),Heap.get?_none_of_le (Nat.le_succ _),h.objs.size,hget,Heap.get?_none_of_le (Qq2 _),?_⟩) (λr s' hr=>?_) λ_ _ z=>z))
 ·exact Qqz _ (Heap.get?_push_at rfl rfl)
 ·obtain⟨rfl,hQ⟩:=hr
  wp_walk
  exact hQ
theorem make{rest:List Value}{Q:Value->Shared->Prop}(X:K.In h)(T:OwnTail h Z7 bm)(hC:h.get? C=some (excClassObj nm q C N bs bm hdct sn sub ab col dd k0 k1 k2 k3 k5 "ValueError.__new__"))(hi:findIn K (.ref C) "__init__" = some (some (.ref fI)))(hf:typeIn K (.ref fI)=some (.type "function"))
  (hq:∀h' e,Heap.MadeExcOf h h' e (.ref C) rest->wpAny (model prog w) (A.under (.builtin "type.__call__" ⟨.ref C::rest,[]⟩)) (call (.ref fI) (.ref e::rest)) (λr s'=>r = .none/\Q (.ref e) s') E ⟨h',g,d,t,os⟩) (hrest:rest.length<=sizeLine) :
  wpAny (model prog w) A (call (.ref C) rest) Q E ⟨h,g,d,t,os⟩:=by
 have f1:=tc_lookup;have f2:=tc_bind (.ref C);have hT:(⟨h,g,d,t,os⟩:Shared).TypeIs (.ref C) "type":=⟨_,hC,rfl⟩;refine wpAny_call (codeAny_of_tree ?_);show wpAny _ _ (callAny (.ref C) _) _ _ _
 repeat (any_goals (first|assumption|with_reducible refine wpAny_loadPart_at hC ?_|wp_step))
 refine⟨rfl,?_⟩;exact codeAny_call_builtin_at (Code.quiet_builtin _ (by decide +kernel)) entry_typeCall (wpAny_check_type_call_sub hC (made X T hC hi hf (λh' e hm=>hq h' e hm) hrest))
theorem La{M:Model}{x:Sem Value}{Q:Flow->Shared->Prop}(hbase:bm.contains (.type "BaseException")=true)(hh:A.handled=none)
  (h:wpAny M A x (λv s₁=>∃e ob,v = .ref e/\s₁.heap.get? C=some (excClassObj nm q C N bs bm hdct sn sub ab col dd k0 k1 k2 k3 k5 "ValueError.__new__")/\s₁.heap.get? e=some ob/\ob.cls = .ref C/\(∃vs,ob.data = .fields vs/\vs[1]? = some .none)/\E (.ref e) s₁) E s):wpAny M A (raiseStmt env (some x) none) Q E s:=by
 have hcB:(Value.ref C::bm).contains (.type "BaseException")=true:=by rw[List.contains_cons,hbase,Bool.or_true]
 unfold raiseStmt;refine Qqx (Qxx h (λv s₁ h₁=>?_) λ_ _ z=>z);obtain⟨e,ob,rfl,hC,he,hc,⟨vs,hd,h1⟩,hE⟩:=h₁;obtain⟨hp,g,d,tk,os⟩:=s₁;obtain⟨oc,od,oda,osl⟩:=ob;simp only at hc hd;subst hc hd;have aiq:∀(Q':Bool->Shared->Prop),Q' false ⟨hp,g,d,tk,os⟩->wpAny M A (isType (.ref e)) Q' E ⟨hp,g,d,tk,os⟩:=λQ' q=>by
  unfold isType loadHead;refine Qqx (wpAny_loadPart he ?_);exact Qqw q
 repeat (first|with_reducible refine aiq _ ?_|with_reducible refine wpAny_loadPart_at he ?_|with_reducible refine wpAny_loadPart_at hC ?_|(with_reducible refine wpAny_isSubtype_exc hC ?_;rw[hcB])|wp_step)
 rw[h1];refine Qqw ?_;rw[if_neg (by decide)];exact Qqw (wpAny_raiseNew_none hh hE)
theorem raises{x:Str}{np cpos pos:Pos}{args:List Expr}{Q:Flow->Shared->Prop}(hbase:bm.contains (.type "BaseException")=true)(hh:A.handled=none)(hplain:(backTo cpos (starEach args env)).any (·.1)=false)(hi:findIn K (.ref C) "__init__" = some (some (.ref fI)))(hf:typeIn K (.ref fI)=some (.type "function"))
  (h:wpAny (model prog w) A (eval (.Name x np) env) (λf s₁=>f = .ref C/\wpAny (model prog w) A (evalArgs (.ref C) true (backTo cpos (starEach args env)) [])
   (λa s₂=>a.kw=[]/\a.pos.length<=sizeLine/\s₂.heap.get? C=some (excClassObj nm q C N bs bm hdct sn sub ab col dd k0 k1 k2 k3 k5 "ValueError.__new__")/\K.In s₂.heap/\OwnTail s₂.heap Z7 bm/\
    ∀h' e,Heap.MadeExcOf s₂.heap h' e (.ref C) a.pos->wpAny (model prog w) (A.under (.builtin "type.__call__" ⟨.ref C::a.pos,[]⟩)) (call (.ref fI) (.ref e::a.pos))
     (λr s₃=>r = .none/\s₃.heap.get? C=some (excClassObj nm q C N bs bm hdct sn sub ab col dd k0 k1 k2 k3 k5 "ValueError.__new__")/\(∃ob,s₃.heap.get? e=some ob/\ob.cls = .ref C/\∃vs,ob.data = .fields vs/\vs[1]? = some .none)/\E (.ref e) s₃) E { s₂ with heap:=h' }) E s₁) E s) :
  wpAny (model prog w) A (exec (.Raise (some (.Call (.Name x np) args [] cpos)) none pos) env) Q E s:=by
 rw[arm_exec_Raise];refine Qqx (wpAny_standAt (La (C:=C) (nm:=nm) (q:=q) (N:=N) (bs:=bs) (bm:=bm) (hdct:=hdct) (sn:=sn) (sub:=sub) (ab:=ab) (col:=col) (dd:=dd) (k0:=k0) (k1:=k1) (k2:=k2) (k3:=k3) (k5:=k5) hbase hh
  (Qqx (Qxx (wpAny_Call_ofName (Qxx h (λf s₁ h₁=>?_) λ_ _ z=>z)) (λv s₃ h₃=>Qqx (wpAny_standAt (Qqw h₃))) λ_ _ z=>z))))
 obtain⟨rfl,h₁⟩:=h₁;unfold callWith;refine Qqx (Qzz (Qxx h₁ (λa s₂ h₂=>Qqx (wpAny_standAt ?_)) λ_ _ z=>z));obtain⟨apos,akw⟩:=a;obtain⟨hkw,hlen,hC,X,T,h₂⟩:=h₂;obtain rfl:akw=[]:=hkw;obtain⟨hp,g,d,tk,os⟩:=s₂;simp only[hplain];refine Qqx (wpAny_keeperOf_exc hC ?_);refine Qqx (make X T hC hi hf (λh' e hm=>Qxx (h₂ h' e hm) (λr s₃ hr=>⟨hr.1,Qqx (Qzz (wpAny_point (Qqw ?_)))⟩) λ_ _ z=>z) hlen);obtain⟨_,hC3,⟨ob,ho,hoc,hon⟩,hE⟩:=hr;exact⟨e,ob,rfl,hC3,ho,hoc,hon,hE⟩
end
def Hd(h B:Heap)(e:Addr)(fl:Value)(vs:Array Value):Prop:=∃T oT ts,vs[1]? = some (.ref T)/\B.get? T=none/\T≠e/\h.get? T=some oT/\oT.data = .fields ts/\ts[3]? = some fl
structure Fl(B:Heap)(l:List Env)(e:Addr)(cls:Value)(dd:Option Addr)(P:Array Value->Prop)(h:Heap):Prop where
 st:B.StaysIn h
 ne:B.get? e=none
 fr:h.FunFrames B l
 ob:∃oe vs,h.get? e=some oe/\oe.cls=cls/\oe.dict=dd/\oe.data = .fields vs/\P vs
section
variable{M:Model}{A:Around}{E:Value->Shared->Prop}{s:Shared}{B:Heap}{env:Env}{outer l:List Env}{L e:Addr}{cls:Value}{dd:Option Addr}
theorem entry_at{oe:Obj}{vs:Array Value}{head:Value}{hn:Bool}{Q:Unit->Shared->Prop}(hfr:A.frames=some (env::outer))(hl:s.heap.FunFrames B (env::outer))(hf:env.frame=some L)(st:B.StaysIn s.heap)(ne:B.get? e=none)
  (he:s.heap.get? e=some oe) (hc:oe.cls=cls) (hdd:oe.dict=dd) (hd:oe.data = .fields vs) (hz:1<vs.size) (h:∀h',Fl B (env::outer) e cls dd (Hd h' B e (rawInt L)) h'->s.heap.UpToSlots h'->Q () { s with heap:=h' }) :
  wpAny M A (do let a <-frameOf env;let pl <-entryPlaceOf L hn;let b <-EntryCells.newEntry head a .none (rawInt L) .none pl;setField (.ref e) 1 b) Q E s:=by
 have hene:e ∉ (env::outer).filterMap (·.frame):=λhm=>by
  obtain⟨_,o,ho,hnf⟩:=hl.mem hm;rw[he] at ho;cases ho;exact hnf vs hd
 refine Qqx (wpAny_frameOf_fun hfr hl hf λh1 hs=>?_);refine Qqx (wpAny_entryPlaceOf λpl hpl=>?_);unfold EntryCells.newEntry newFields;refine Qqx (Qx3 ?_ (hpl.sizeOk5 _ _ _ _ _));have he1:h1.get? e=some oe:=(hs.2.1 e hene).trans he;have st1:B.StaysIn h1:=λb o q=>(hs.2.1 b λhm=>by rw[(hl.mem hm).1] at q;cases q).trans (st b o q);generalize hN:({ cls:=.type "traceback",dict:=none,data:=.fields ([head,.ref L,.none,rawInt L,.none]++(if pl.isEmpty then List.replicate 6 Value.none else pl)).toArray }:Obj)=N;have hNf:∃ts:Array Value,N.data = .fields ts/\ts[3]? = some (rawInt L)/\N.isFreed=false:=by subst hN;exact⟨_,rfl,by first|(simp;done)|(rcases hpl with rfl|⟨_,_,_,_,_,_,_,rfl⟩<;>simp),rfl⟩
 obtain⟨ts,hts,h3,air⟩:=hNf;have he2:=Qqz N he1;refine wpAny_setField he2 hd hz (h _ ?_ ?_)
 ·have hTe:h1.objs.size≠e:=Nat.ne_of_gt (Qq9 he1);have hd3:=Obj.data_mapFields hd (·.setIfInBounds 1 (Value.ref h1.objs.size));have keep:∀b o,b≠e->h1.get? b=some o->((h1.push N).update e (Obj.mapFields (·.setIfInBounds 1 (Value.ref h1.objs.size)))).get? b=some o:=λb o hb q=>by
   rw[Heap.get?_update_other _ _ (Ne.symm hb)];exact Qqz _ q
  refine⟨λb o q=>keep b o (λz=>by rw[z,ne] at q;cases q) (st1 b o q),ne,hl.of_keeps λb o hb hnf=>?_,_,_,Heap.get?_update_self _ he2 (Obj.isFreed_of_fields hd3),(Obj.cls_mapFields _ _).trans hc,?_,hd3,h1.objs.size,N,ts,by simp[hz],st1.fresh,hTe,?_,hts,h3⟩
  ·obtain⟨sl,q⟩:=hs.2.2 b o hb;exact⟨_,keep b _ (λz=>by rw[z,he] at hb;cases hb;exact hnf vs hd) q,rfl⟩
  ·rw[<-hdd];obtain⟨oc,od,oda,osl⟩:=oe;cases oda<;>rfl
  ·rw[Heap.get?_update_other _ _ (Ne.symm hTe)];exact Qq6 _ air
 ·intro b o hb hnf;obtain⟨sl,q⟩:=hs.2.2 b o hb;refine⟨sl,?_⟩;rw[Heap.get?_update_other _ _ (λz=>by rw[<-z,he] at hb;cases hb;exact hnf vs hd)];exact Qqz _ q
theorem af7{Q:Unit->Shared->Prop}(hfr:A.frames=some (env::outer))(hf:env.frame=some L)(F:Fl B (env::outer) e cls dd (λvs=>vs[1]? = some .none) s.heap)
  (h:∀h',Fl B (env::outer) e cls dd (Hd h' B e (rawInt L)) h'->s.heap.UpToSlots h'->Q () { s with heap:=h' }):wpAny M A (noteFrame (.ref e) env) Q E s:=by
 obtain⟨st,ne,fr,oe,vs,he,hc,hdd,hd,h1⟩:=F;unfold noteFrame;simp only[hf];refine Qqx (wpAny_field he hd h1 ?_);rw[if_neg (by decide)];exact entry_at hfr fr hf st ne he hc hdd hd (Array.getElem?_eq_some_iff.mp h1).1 h
theorem aaW{Q:Unit->Shared->Prop}(hfr:A.frames=some (env::outer))(hf:env.frame=some L)(F:Fl B (env::outer) e cls dd (Hd s.heap B e .none) s.heap)
  (h:∀h',Fl B (env::outer) e cls dd (Hd h' B e (rawInt L)) h'->s.heap.UpToSlots h'->Q () { s with heap:=h' }):wpAny M A (noteFrame (.ref e) env) Q E s:=by
 obtain⟨st,ne,fr,oe,vs,he,hc,hdd,hd,T,oT,ts,h1,hnT,hTe,hT,hdT,h3⟩:=F;unfold noteFrame;simp only[hf];refine Qqx (wpAny_field he hd h1 ?_);rw[if_pos (show(Value.ref T != Value.none)=true from by simp)];refine Qqx (wpAny_field hT hdT h3 ?_);rw[if_neg (show ¬((Value.none == rawInt L)=true) from by simp[rawInt])];refine Qqx (wpAny_setField hT hdT (Array.getElem?_eq_some_iff.mp h3).1 ?_);have oth:∀b,b≠T->(s.heap.update T (Obj.mapFields (·.setIfInBounds 3 Value.none))).get? b=s.heap.get? b:=λb hb=>Heap.get?_update_other _ _ (Ne.symm hb);have nr:∀b o,s.heap.get? b=some o->(∀vs,o.data ≠ .fields vs)->b≠T:=λb o hb hn z=>by rw[z,hT] at hb;cases hb;exact hn ts hdT
 exact entry_at (s:={ s with heap:=_ }) hfr (fr.of_keeps λb o hb hn=>⟨o,(oth b (nr b o hb hn)).trans hb,rfl⟩) hf (λb o q=>(oth b λz=>by rw[z,hnT] at q;cases q).trans (st b o q)) ne ((oth e (Ne.symm hTe)).trans he) hc hdd hd (Array.getElem?_eq_some_iff.mp h1).1
  λh' f u=>h h' f λb o hb hn=>u b o ((oth b (nr b o hb hn)).trans hb) hn
theorem land{fl:Value}{Q:Unit->Shared->Prop}(F:Fl B l e cls dd (Hd s.heap B e fl) s.heap)(h:∀h',Fl B l e cls dd (Hd h' B e .none) h'->s.heap.UpToSlots h'->Q () { s with heap:=h' }):wpAny M A (setFlight (.ref e) none) Q E s:=by
 obtain⟨st,ne,fr,oe,vs,he,hc,hdd,hd,T,oT,ts,h1,hnT,hTe,hT,hdT,h3⟩:=F;have hz:3<ts.size:=(Array.getElem?_eq_some_iff.mp h3).1;have oth:∀b,b≠T->(s.heap.update T (Obj.mapFields (·.setIfInBounds 3 ((none:Option Addr).elim Value.none λf=>rawInt f)))).get? b=s.heap.get? b:=λb hb=>Heap.get?_update_other _ _ (Ne.symm hb);have nr:∀b o,s.heap.get? b=some o->(∀vs,o.data ≠ .fields vs)->b≠T:=λb o hb hn z=>by rw[z,hT] at hb;cases hb;exact hn ts hdT
 unfold setFlight;refine Qqx (wpAny_field he hd h1 ?_);rw[if_pos (show(Value.ref T != Value.none)=true from by simp)];refine wpAny_setField hT hdT hz (h _ ⟨λb o q=>(oth b λz=>by rw[z,hnT] at q;cases q).trans (st b o q),ne,fr.of_keeps λb o hb hn=>⟨o,(oth b (nr b o hb hn)).trans hb,rfl⟩,oe,vs,(oth e (Ne.symm hTe)).trans he,hc,hdd,hd,T,_,_,h1,hnT,hTe,Heap.get?_update_self _ hT (Obj.isFreed_of_fields (Obj.data_mapFields hdT _)),Obj.data_mapFields hdT _,by simp[hz]⟩ λb o hb hn=>⟨o.slots,(oth b (nr b o hb hn)).trans hb⟩)
theorem Fl.out{P:Array Value->Prop}{h:Heap}(F:Fl B (env::outer) e cls dd P h):Fl B outer e cls dd P h:=⟨F.st,F.ne,F.fr.2.2,F.ob⟩
theorem Ze{Q:Unit->Shared->Prop}(hfr:A.frames=some (env::outer))(hf:env.frame=some L)(F:Fl B (env::outer) e cls dd (λvs=>vs[1]? = some .none) s.heap)(h:∀h',Fl B outer e cls dd (Hd h' B e .none) h'->s.heap.UpToSlots h'->Q () { s with heap:=h' }):wpAny M A (leaving env (.ref e)) Q E s:=by unfold leaving;exact Qqx (af7 hfr hf F λh1 f1 u1=>land (s:={ s with heap:=h1 }) f1 λh2 f2 u2=>h h2 f2.out (u1.trans u2))
theorem Zd{Q:Unit->Shared->Prop}(hfr:A.frames=some (env::outer))(hf:env.frame=some L)(F:Fl B (env::outer) e cls dd (Hd s.heap B e .none) s.heap)(h:∀h',Fl B outer e cls dd (Hd h' B e .none) h'->s.heap.UpToSlots h'->Q () { s with heap:=h' }):wpAny M A (leaving env (.ref e)) Q E s:=by unfold leaving;exact Qqx (aaW hfr hf F λh1 f1 u1=>land (s:={ s with heap:=h1 }) f1 λh2 f2 u2=>h h2 f2.out (u1.trans u2))
end
end XC
namespace L2
open PySem PySem.Spec PyProof.Rows
theorem pG.stays{P:Program}{w:World}{H:Hp}{h h':Heap}(x:pG P w H h)(k:∀b u,H b≠none->h.get? b=some u->h'.get? b=some u):pG P w H h':=λa o e=>
 (x a o e).stay (λb u hb q=>k b u (by
  rcases hb with rfl|hb
  ·rw[e];exact λz=>nomatch z
  ·rw[hb];exact λz=>nomatch z) q) (λ_ q=>q) λ_ _ q=>q
theorem fX.obj{P:Program}{w:World}{H:Hp}{h:Heap}{a:Addr}{o:HO}(x:fX P w H h a o):∃u,h.get? a=some u:=by
 cases o with
 | lst xs=>obtain⟨_,_,_,_,e⟩:=x;exact⟨_,e⟩
 | tup xs=>obtain⟨_,_,_,_,e,_⟩:=x;exact⟨_,e⟩
 | dK kvs=>obtain⟨_,_,_,_,_,_,_,e,_⟩:=x;exact⟨_,e⟩
 | dT kvs=>obtain⟨_,_,_,_,_,_,_,e,_⟩:=x;exact⟨_,e⟩
 | dN kvs=>obtain⟨_,_,_,_,_,_,_,e,_⟩:=x;exact⟨_,e⟩
 | set S n=>obtain⟨_,_,_,_,e,_⟩:=x;exact⟨_,e⟩
 | ins C dx fs=>obtain⟨_,_,_,e,_⟩:=x;exact⟨_,e⟩
 | own y=>exact x
 | xd fs=>obtain⟨_,⟨_,_,_,e,_⟩,_⟩:=x;exact⟨_,e⟩
 | rng lo hi=>obtain⟨_,_,_,e⟩:=x;exact⟨_,e⟩
 | qP ob u=>exact⟨_,x.1⟩
 | tbl ps=>exact⟨_,x⟩
 | tab qs=>obtain⟨_,e,_⟩:=x;exact⟨_,e⟩
 | met f y=>exact⟨_,x⟩
 | ext φ=>exact x.2.1
structure vO(P:Program)(w:World)(outer:List Env)(H:Hp)(s:Shared)(C a:Addr)(dd:Option Addr)(H':Hp)(B:Heap)(s':Shared):Prop where
 os:s'.os=s.os
 bare:AllBare s'.gens
 same:aU H H'
 un:Un (frs outer) [] H H' s.heap s'.heap
 hok:pG P w H' B
 fl:XC.Fl B outer a (.ref C) dd (XC.Hd s'.heap B a .none) s'.heap
 old:∀b o,s.heap.get? b=some o->H b=none->b ∉ frs outer->B.get? b=some o
def Xe(P:Program)(w:World):Xf:=λouter H s E e s'=>∃(a C:Addr) (dd:Option Addr) (H':Hp) (B:Heap),e = .ref a/\E (.ref C) dd H'/\vO P w outer H s C a dd H' B s'
structure pU(X:Cx):Prop where
 st:X.stack=X.env::X.outer
 fr:X.env.frame=some X.env.locals
 ex:X.ex=[]
section
variable{X:Cx}{pins:List (Addr×Obj)}{σ:St}{H:Hp}{s s':Shared}{h':Heap}{a C:Addr}{vs:List Value}{E E1:XK}{E':Value->Shared->Prop}
theorem pU.W4(T:pU X)(b:Addr):b ∉ X.ex:=by rw[T.ex];exact λz=>nomatch z
theorem pU.nf(T:pU X)(I:Inv X pins σ H s){b:Addr}{o:Obj}(e:X.s₀.heap.get? b=some o)(hb:b ∉ X.fs):b ∉ frs X.stack:=λhm=>by
 rw[T.st] at hm;unfold frs at hm;rw[Qzv,T.fr] at hm;rcases Qq1.mp hm with rfl|hm
 ·exact absurd (Qwy (Qq9 e) I.ok.above) (Qz1 _)
 ·exact hb hm
theorem pU.sub(T:pU X){b:Addr}(hb:b∈X.fs):b∈frs X.stack:=by rw[T.st];unfold frs;rw[Qzv,T.fr];exact Qqy _ hb
theorem pU.aaX(I:Inv X pins σ H s){b:Addr}{o:Obj}(e:X.s₀.heap.get? b=some o)(hb:b∈X.fs):∀vs,o.data ≠ .fields vs:=by obtain⟨_,o',ho,hd⟩:=I.ok.vp.mem hb;rw[e] at ho;cases ho;exact hd
theorem aaE(I:Inv X pins σ H s)(T:pU X){H':Hp}{B h':Heap}(old:∀b o,X.s₀.heap.get? b=some o->X.H₀ b=none->b ∉ X.fs->B.get? b=some o)(st:B.StaysIn h')
  (slot:∀b o,X.s₀.heap.get? b=some o->X.H₀ b=none->b∈X.fs->∃sl,h'.get? b=some { o with slots:=sl }) (free:∀b o,X.s₀.heap.get? b=some o->X.H₀ b=none->H' b=none)
  (sm:aU X.H₀ H') (hok:pG X.prog X.w H' B):Un X.fs [] X.H₀ H' X.s₀.heap h' where
 keep:=λb o e n hb _=>st b o (old b o e n hb)
 slot:=λb o e n hb _=>slot b o e n hb
 free:=λb o e n _=>free b o e n
 there:=λb o e _=>by
  by_cases n:X.H₀ b=none
  ·by_cases hb:b∈X.fs
   ·obtain⟨sl,q⟩:=slot b o e n hb;exact⟨_,q⟩
   ·exact⟨o,st b o (old b o e n hb)⟩
  ·cases q:X.H₀ b with
   | none=>exact absurd q n
   | some u=>
    obtain⟨v,hv⟩:=(hok b u (sm b u q)).obj;exact⟨v,st b v hv⟩
 tups:=λb xs q=>sm b _ q
 rZ:=λb o u q=>sm b _ q
 vZ:=λb ps q=>⟨#[],by rw[sm b _ q];simp⟩
 tabs:=λb qs q=>sm b _ q
theorem Inv.leave{dd:Option Addr}{oe:Obj}{fs:Array Value}(I:Inv X pins σ H s)(T:pU X)(sm:aU X.H₀ H)(hE:E (.ref C) dd H)(hn:H a=none)(hnew:X.s₀.heap.get? a=none)(he:s.heap.get? a=some oe)(hc:oe.cls = .ref C)(hdd:oe.dict=dd)(hd:oe.data = .fields fs)(h1:fs[1]? = some .none) :
  wpAny (model X.prog X.w) X.A (leaving X.env (.ref a)) (λ_ s''=>Xe X.prog X.w X.outer X.H₀ X.s₀ E (.ref a) s'') E' s:=by
 have nF:a ∉ frs X.stack:=λhm=>by
  obtain⟨_,o,ho,hnf⟩:=I.stack.mem hm;rw[he] at ho;cases ho;exact hnf fs hd
 have old:∀b o,X.s₀.heap.get? b=some o->X.H₀ b=none->b ∉ X.fs->(PySem.W.hideAll s.heap (a::frs X.stack)).get? b=some o:=λb o e n hb=>
  PySem.W.hideAll_get _ (I.base.keep b o e n hb (T.W4 b)) (λz=>by
   rcases Qq1.mp z with z|z
   ·rw[z,hnew] at e;cases e
   ·exact T.nf I e hb z)
 have hok:pG X.prog X.w H (PySem.W.hideAll s.heap (a::frs X.stack)):=pG.stays I.hok λb u n q=>PySem.W.hideAll_get _ q λhm=>by
  rcases Qq1.mp hm with z|z
  ·exact n (z ▸ hn)
  ·exact n (I.Er b z)
 have ff:s.heap.FunFrames (PySem.W.hideAll s.heap (a::frs X.stack)) (X.env::X.outer):=by have:=I.stack;rw[T.st] at this ⊢;exact PySem.W.funFrames_hide this λenv he b hb=>Qqy _ (List.mem_filterMap.mpr ⟨env,he,hb⟩)
 refine XC.Ze (by rw[I.ok.frames,T.st]) T.fr ⟨λb o q=>PySem.W.of_hideAll _ q,PySem.W.hideAll_none _ (Qqv ..),ff,oe,fs,he,hc,hdd,hd,h1⟩ λh' f x4=>⟨a,C,dd,H,_,rfl,hE,I.os,I.bare,sm,?_,hok,f,old⟩;refine aaE I T old f.st (λb o e n hb=>?_) (λb o e n=>I.base.free b o e n (T.W4 b)) sm hok;obtain⟨sl,e1⟩:=I.base.slot b o e n hb (T.W4 b);obtain⟨sl',e2⟩:=x4 b _ e1 (by have z:=pU.aaX I e hb;exact z);exact⟨sl',e2⟩
theorem Inv.Zg{e:Value}(I:Inv X pins σ H s)(T:pU X)(sm:aU X.H₀ H)(hE:∀C dd H',E1 (.ref C) dd H'->E (.ref C) dd H')(hc:Xe X.prog X.w X.stack H s E1 e s') :
  wpAny (model X.prog X.w) X.A (leaving X.env e) (λ_ s''=>Xe X.prog X.w X.outer X.H₀ X.s₀ E e s'') E' s':=by
 obtain⟨a,C,dd,H',B,rfl,h1,f⟩:=hc;have old:∀b o,X.s₀.heap.get? b=some o->X.H₀ b=none->b ∉ X.fs->B.get? b=some o:=λb o e n hb=>
  f.old b o (I.base.keep b o e n hb (T.W4 b)) (I.base.free b o e n (T.W4 b)) (T.nf I e hb)
 have sm':=sm.trans f.same;refine XC.Zd (by rw[I.ok.frames,T.st]) T.fr (by rw[<-T.st];exact f.fl) λh' x1 x2=>⟨a,C,dd,H',B,rfl,hE C dd H' h1,f.os.trans I.os,f.bare,sm',?_,f.hok,x1,old⟩;refine aaE I T old x1.st (λb o e n hb=>?_) (λb o e n=>?_) sm' f.hok
 ·obtain⟨sl,e1⟩:=I.base.slot b o e n hb (T.W4 b);obtain⟨sl',e2⟩:=f.un.slot b _ e1 (I.base.free b o e n (T.W4 b)) (T.sub hb) (λz=>nomatch z);obtain⟨sl3,e3⟩:=x2 b _ e2 (by have z:=pU.aaX I e hb;exact z);exact⟨sl3,e3⟩
 ·obtain⟨o',e1⟩:=I.base.there b o e (T.W4 b);exact f.un.free b o' e1 (I.base.free b o e n (T.W4 b)) (λz=>nomatch z)
theorem Inv.Xp{φ:Heap->Prop}(I:Inv X pins σ H s)(ha:H a=some (.ext φ))(h0:X.H₀ a=none):Inv X pins σ (λb=>if b=a then none else H b) s:=by
 have up:∀{b:Addr} {u:HO},b≠a->H b=some u->(λb=>if b=a then none else H b) b=some u:=λhb q=>by show(if _ then _ else _)=_;rw[if_neg hb];exact q
 have nn:∀{b:Addr},H b=none->(λb=>if b=a then none else H b) b=none:=λq=>by show(if _ then _ else _)=_;split;rfl;exact q
 have z0:∀{b:Addr} {u:HO},X.H₀ b=some u->b≠a:=λq z=>by rw[z,h0] at q;cases q
 refine⟨I.ok,I.os,I.bare,⟨I.base.keep,I.base.slot,λb o e n hx=>nn (I.base.free b o e n hx),I.base.there,λb xs q=>up (z0 q) (I.base.tups b xs q),λb o u q=>up (z0 q) (I.base.rZ b o u q),λb ps q=>?_,λb qs q=>up (z0 q) (I.base.tabs b qs q)⟩,I.loc,I.cell,nn I.free,λx c e=>?_,λp hp=>?_,λb u e=>?_,I.len⟩
 ·obtain⟨more,e⟩:=I.base.vZ b ps q;exact⟨more,up (z0 q) e⟩
 ·rcases I.lq x c e with q|⟨q1,o,u,q2⟩
  ·exact .inl (nn q)
  ·by_cases z:c=a
   ·exact .inl (by show(if _ then _ else _)=_;rw[if_pos z])
   ·exact .inr ⟨q1,o,u,up z q2⟩
 ·obtain⟨e,n,ne,nf,d⟩:=I.pin p hp;exact⟨e,nn n,ne,nf,d⟩
 ·by_cases z:b=a
  ·exfalso;have e':(if b=a then none else H b)=some u:=e;rw[if_pos z] at e';cases e'
  ·have e':(if b=a then none else H b)=some u:=e;rw[if_neg z] at e';refine(I.hok b u e').stay (λ_ _ _ q=>q) (λc q=>up (λy=>by rw[y,ha] at q;cases q) q) (λc xs q=>up (λy=>by rw[y,ha] at q;cases q) q) λc o' u' vs hd q=>up (λy=>by rw[y,ha] at q;cases q) q
abbrev J3(e:Addr)(o:Obj):HO:=.ext λh=>h.get? e=some o
theorem V7{P:Program}{w:World}{H:Hp}{h:Heap}{e:Addr}{o:Obj}(q:h.get? e=some o):fX P w H h e (J3 e o):=⟨q,⟨o,q⟩,λh1 h2 p k=>k o p⟩
theorem Inv.aht{o od:Obj}{dx:Addr}{tk:Nat}(I:Inv X pins σ H s)(he:H a=some (J3 a o))(k:∀b ob,b≠a->s.heap.get? b=some ob->h'.get? b=some ob)(h1:h'.get? a=some { o with dict:=some dx })(h2:s.heap.get? dx=none)(h3:dx≠a)(h4:h'.get? dx=some od) :
  H dx=none/\Inv X pins σ (upd (upd H a (J3 a { o with dict:=some dx })) dx (.qP od (.own dx))) { s with heap:=h',toks:=tk }:=by
 have hdx:H dx=none:=by
  cases q:H dx with
  | none=>rfl
  | some u=>
   obtain⟨v,hv⟩:=(I.hok dx u q).obj;rw[h2] at hv;cases hv
 refine⟨hdx,?_⟩;have up:∀{b:Addr} {u:HO},b≠a->H b=some u->upd (upd H a (J3 a { o with dict:=some dx })) dx (.qP od (.own dx)) b=some u:=λ{b u} z q=>by rw[bI (cZ q hdx),bI z];exact q
 have na:∀{b:Addr},H b=none->b≠a:=λq z=>by rw[z,he] at q;cases q
 refine I.step (g':=s.gens) (d':=s.drawn) (ch:=[]) (λ_ z=>nomatch z) (λb ob _ _ _ e n=>k b ob (na n) e) (λb ob _ _ _ e n=>⟨ob.slots,k b ob (na n) e⟩) (λb ob _ e n=>?_) (λb ob _ e=>?_) (λb xs q=>up (λz=>by rw[z,he] at q;cases q) q) (λb ob u q=>up (λz=>by rw[z,he] at q;cases q) q) (λb ps q=>⟨#[],by rw[up (λz=>by rw[z,he] at q;cases q) q];simp⟩) (λm hn=>?_) (λb u q=>?_) I.bare (λb qs q=>up (λz=>by rw[z,he] at q;cases q) q)
 ·rw[bI (λz=>by rw[z,h2] at e;cases e),bI (na n)];exact n
 ·by_cases z:b=a
  ·exact⟨_,by rw[z];exact h1⟩
  ·exact⟨ob,k b ob z e⟩
 ·obtain⟨oL,es,ep,hoL,r⟩:=hn;exact⟨oL,es,ep,k _ _ (na I.free) hoL,r⟩
 ·by_cases zd:b=dx
  ·subst zd;rw[bu] at q;cases q;exact⟨h4,od,h4⟩
  ·rw[bI zd] at q;by_cases z:b=a
   ·subst z;rw[bu] at q;cases q;exact V7 h1
   ·rw[bI z] at q;refine(I.hok b u q).stay (λc ob hc e=>k c ob (λy=>?_) e) (λc y=>up (λx=>by rw[x,he] at y;cases y) y) (λc xs y=>up (λx=>by rw[x,he] at y;cases y) y) λc _ _ _ _ y=>up (λx=>by rw[x,he] at y;cases y) y;rcases hc with hc|hc
    ·exact z (hc ▸ y)
    ·rw[y,he] at hc;cases hc
theorem Inv.Vb(I:Inv X pins σ H s)(T:pU X)(h:s.heap.get? a=none):X.s₀.heap.get? a=none:=by
 cases q:X.s₀.heap.get? a with
 | none=>rfl
 | some o=>
  obtain⟨o',e⟩:=I.base.there a o q (T.W4 a);rw[h] at e;cases e
theorem Inv.none_of(I:Inv X pins σ H s)(h:s.heap.get? a=none):H a=none:=by
 cases q:H a with
 | none=>rfl
 | some u=>
  obtain⟨v,hv⟩:=(I.hok a u q).obj;rw[h] at hv;cases hv
theorem Inv.laidN{o:HO}{tk:Nat}(I:Inv X pins σ H s)(k:∀b ob,s.heap.get? b=some ob->h'.get? b=some ob)(h2:s.heap.get? a=none)(new:fX X.prog X.w (upd H a o) h' a o):Inv X pins σ (upd H a o) { s with heap:=h',toks:=tk }:=by
 have hn:=I.none_of h2;have up:∀{b:Addr} {u:HO},H b=some u->upd H a o b=some u:=λq=>by rw[bI (cZ q hn)];exact q
 refine I.step (g':=s.gens) (d':=s.drawn) (ch:=[]) (λ_ z=>nomatch z) (λb ob _ _ _ e _=>k b ob e) (λb ob _ _ _ e _=>⟨ob.slots,k b ob e⟩) (λb ob _ e n=>by rw[bI (λz=>by rw[z,h2] at e;cases e)];exact n) (λb ob _ e=>⟨ob,k b ob e⟩) (λb xs q=>up q) (λb ob u q=>up q) (λb ps q=>⟨#[],by rw[up q];simp⟩) (λm hn=>?_) (λb u q=>?_) I.bare (λb qs q=>up q)
 ·obtain⟨oL,es,ep,hoL,r⟩:=hn;exact⟨oL,es,ep,k _ _ hoL,r⟩
 ·by_cases z:b=a
  ·subst z;rw[bu] at q;cases q;exact new
  ·rw[bI z] at q;exact(I.hok b u q).stay (λc ob _ e=>k c ob e) (λc y=>up y) (λc xs y=>up y) λc _ _ _ _ y=>up y
end
end L2
namespace Ev
open PySem PySem.Spec PyProof.Rows L2
def Ad:D->Bool
 | .lst _=>true
 | .dct _=>true
 | .lE _=>true
 | _=>false
theorem ady{K:Fg}{F H:Hp}{d:D}{a:Addr}(h:Ad d=false)(o:jw K F H d a):False:=by cases d<;>first|exact o.elim|cases h
def FX(R:D->Hp->Prop)(C:Cfg)(Pr F:Hp):Out->Prop
 | .rt true d env'=>Ad d=false/\∀σ' H' F',Rel C Pr F' env' σ' H'->aU F F'->R d H'
 | _=>True
theorem FX.mono{R:D->Hp->Prop}{C:Cfg}{Pr F F1:Hp}(s:aU F F1){o:Out}(h:FX R C Pr F o):FX R C Pr F1 o:=by
 unfold FX at h ⊢;split
 ·exact⟨h.1,λσ' H' F' r t=>h.2 σ' H' F' r (s.trans t)⟩
 ·trivial
def tX(R:D->Hp->Prop)(C:Cfg)(ev:cR):TS:=λD σ H=>∃(Pr F:Hp) (env:Env),Rel C Pr F env σ H/\Fin C Pr F D (ev env)/\FX R C Pr F (ev env)
def PR(R:D->Hp->Prop)(X:Cx)(C:Cfg)(st:Stmt)(ev:cR):Prop:=PS X st (tX R C ev)
def PRs(R:D->Hp->Prop)(X:Cx)(C:Cfg)(st:List Stmt)(ev:cR):Prop:=Bm X st (tX R C ev)
section
variable{R:D->Hp->Prop}{X:Cx}{C:Cfg}{pos:Pos}
theorem UG{st:Stmt}{t:TS}(h:PS X.wU st t):PS X st t:=λpins s σ H D I hw=>by
 refine Qxx (h pins s σ H D (I.wish _) hw) (λf s1 q=>?_) λ_ _ z=>False.elim z;cases f with
 | next=>exact let ⟨σ',H',J,z⟩:=q;⟨σ',H',J.fO,z⟩
 | brk=>exact let ⟨σ',H',J,z⟩:=q;⟨σ',H',J.fO,z⟩
 | cont=>exact let ⟨σ',H',J,z⟩:=q;⟨σ',H',J.fO,z⟩
 | ret u=>exact let ⟨v,σ',H',J,z⟩:=q;⟨v,σ',H',J.fO,z⟩
theorem U8{es:List Expr}{t:TA}(h:PA X.wU es t):PA X es t:=λpos pins s σ H Q I hw=>
 Qxx (h pos pins s σ H Q (I.wish _) hw) (λ_ _ ⟨v,H',I',r,q⟩=>⟨v,H',I'.fO,r,q⟩) λ_ _ z=>False.elim z
theorem aaP{st:Stmt}{ev:cR}(h:WX X.wU C st ev):PR R X C st ev:=(UG h).imp λD σ H ⟨Pr,F,env,r,f,_⟩=>⟨Pr,F,env,r,f⟩
theorem zz{st:List Stmt}{ev:cR}(h:Bl X.wU C st ev):PRs R X C st ev:=(Bm.wU h).imp λD σ H ⟨Pr,F,env,r,f,_⟩=>⟨Pr,F,env,r,f⟩
theorem yN{st:Stmt}{a:cR}(h1:PR R X C st a):PRs R X C [st] a:=yM h1
theorem zA{st:Stmt}{rest:List Stmt}{a b:cR}(h1:PR R X C st a)(h2:PRs R X C rest b):PRs R X C (st::rest) (aL a b):=(Ih h1 h2).imp λD σ H h=>by
 obtain⟨Pr,F,env,r,f,x⟩:=h;refine⟨Pr,F,env,r,?_⟩;unfold aL at f x;cases e:a env with
 | nx e1=>rw[e] at f x;exact⟨λσ' H' F' r' s'=>⟨Pr,F',e1,r',f.mono s',x.mono s'⟩,trivial⟩
 | rt o d e1=>rw[e] at f x;cases o<;>exact⟨f,x⟩
 | bk e1=>rw[e] at f x;exact⟨f,x⟩
 | ct e1=>rw[e] at f x;exact⟨f,x⟩
 | stuck=>rw[e] at f;exact f.elim
theorem aaQ{c:Expr}{a b:List Stmt}{t:fM}{ea eb:cR}(hc:PXT X.wU C c t)(ha:PRs R X C a ea)(hb:PRs R X C b eb):PR R X C (.If c a b pos) (gw t ea eb):=(aaN (PT.wU hc) ha hb).imp λD σ H h=>by
 obtain⟨Pr,F,env,r,f,x⟩:=h;obtain⟨k,e1,e2,f1⟩:=cW f;have x1:FX R C Pr F (if k=true then ea e1 else eb e1):=by unfold gw at x;rw[e2] at x;exact x
 refine⟨Pr,F,env,e1,k,r,e2,λH1 F1 r1 s1=>?_⟩;cases k with
 | true=>exact⟨Pr,F1,e1,r1,f1.mono s1,x1.mono s1⟩
 | false=>exact⟨Pr,F1,e1,r1,f1.mono s1,x1.mono s1⟩
end
def exV:D->Option V
 | .non=>some .non
 | .int n=>some (.int n)
 | _=>none
def su(t:Str)(d:D)(dd:Option Addr)(H:Hp):Prop:=match d with
 | .tup [d]=>∃(v:V) (w:Value) (dx:Addr) (od:Obj) (m:Str->Option Value),exV d=some v/\RelV v w/\dd=some dx/\H dx=some (.qP od (.own dx))/\(∀h:Heap,h.get? dx=some od->h.Ns dx m)/\m t=some w
 | _=>dd=none
def G5(H:Hp)(dd:Option Addr):Prop:=∀dx,dd=some dx->H dx=none
abbrev Sq(P:Program)(w:World)(K:Fg)(mg:Str->Option Value)(base:Heap)(N:List Str)(qual:Str)(st:Stmt)(f:Addr)(cdv:Value)(A:Around)(outer:List PySem.Env)(s:Shared)(H:Hp)(E:XK):Cx:=Gs (Xe P w) P w K mg base N qual (aO st) f cdv A outer s H E
def EC(cl:Addr)(t:Str)(d:D)(H0:Hp):XK:=λv dd H=>v = .ref cl/\su t d dd H/\G5 H0 dd
def spX(K:Fg)(n:Nat)(c:List D->Option D)(cl:Addr)(t:Str):Sp:=λvs H _ E=>∃(F:Hp) (ds:List D) (d:D),ds.length=n/\aU F H/\cg K F ds vs/\c ds=some d/\∀dd H',su t d dd H'->G5 H dd->E (.ref cl) dd H'
def Qx(n:Nat)(ev:cR)(ds:List D):Option D:=match ev (envOf n ds) with
 | .rt true d _=>if Ad d=true then none else some d
 | _=>none
def tEX(R:D->Hp->Prop)(C:Cfg)(c:Ev):TE:=λσ H _=>∃(Pr F:Hp) (env env':Env) (d:D),Rel C Pr F env σ H/\c env = .ok d env'/\∀H' F',Rel C Pr F' env' σ H'->aU F F'->R d H'
def PXX(R:D->Hp->Prop)(X:Cx)(C:Cfg)(e:Expr)(c:Ev):Prop:=PE X e (tEX R C c)
def RW(P:Program)(w:World)(K:Fg)(mg:Str->Option Value)(base:Heap)(x:Str)(k:Nat)(ps:List Str)(sp:Sp):Prop:=
 ∃f fd,mJ P w K mg base (Xe P w) k f fd ps sp/\mg x=some (.ref f)/\PySem.W.keepIn K (.ref f)=true/\Binds K fd ps []
abbrev RX(H:Hp)(d:D):D->Hp->Prop:=λd' H'=>d'=d/\aU H H'
section
variable{P:Program}{w:World}{K:Fg}{mg:Str->Option Value}{base:Heap}{x qual t:Str}{st:Stmt}{f:Addr}{fd:FuncData}{N ps:List Str}{k:Nat}{ev:cR}{cdv:Value}{A:Around}{outer:List PySem.Env}{s:Shared}{H:Hp}{E:XK}{cl:Addr}{d:D}{R:D->Hp->Prop}{X:Cx}{C:Cfg}{pos p:Pos}{e:Expr}{es:List Expr}{c:Ev}{n:Nat}
theorem Eh:pU (Sq P w K mg base N qual st f cdv A outer s H E):=⟨rfl,rfl,rfl⟩
theorem Di(F:cX K mg x st ps)(S:bH N ps (aO st))(cl:Addr)(t:Str)
  (hb:∀(f:Addr) (cdv:Value) (A:Around) (outer:List PySem.Env) (s:Shared) (H:Hp) (E:XK) (d:D),gq k (A.deeper (envOfC x (aO st) s.heap.objs.size f cdv))->(∀dd H',su t d dd H'->G5 H dd->E (.ref cl) dd H')->Good (bx P w K mg base N x st f cdv A outer s H E) (C0 K)->
   PRs (RX H d) (Sq P w K mg base N x st f cdv A outer s H E) (C0 K) (cL st) ev) :
  RW P w K mg base x (k+1) ps (spX K ps.length (Qx N.length ev) cl t):=by
 obtain⟨f,fd,h1,h2,h3⟩:=F;have kp:=h1.kp;refine⟨f,fd,?_,h2,kp,h3⟩;obtain⟨oc,od,kV,doc,pm,an,cdv,ct,osl,rfl,lk,hcd⟩:=h1.ex;refine abi lk hcd S (λvs H Q E h=>?_) (λA outer s H vs Q E hr h=>?_)
 ·obtain⟨F0,ds,d,hl,_,p,_⟩:=h;rw[p.length,hl]
 ·obtain⟨F0,ds,d,hl,sF,p,e,q⟩:=h;refine⟨_,hb f cdv A outer s H E d hr q (uZ rfl hr),Dm H F0,F0,envOf N.length ds,wI sF p,?_⟩;unfold Qx at e;split at e
  ·rename_i d' env' h1;rw[h1];split at e
   ·cases e
   ·rename_i ho;cases e;have ho':Ad d=false:=by cases z:Ad d with|false=>rfl|true=>exact absurd z ho
    exact⟨λa σ' H' F' r' s' n'=>(ady ho' n'.own).elim,ho',λσ' H' F' r' s'=>⟨rfl,aU.FQ r'.pr s' r'.fr sF⟩⟩
  ·cases e
theorem Xg(hE:∀dd H',su t d dd H'->G5 H dd->E (.ref cl) dd H')(pins:List (Addr×Obj))(σ:L2.St)(H0 H1:Hp)(s1:Shared)(b:Addr)(d':D)(dd:Option Addr)(oe:Obj)(fs:Array Value)(I:Inv (Sq P w K mg base N qual st f cdv A outer s H E) pins σ H1 s1)(r:RX H d d' H0)(sm:aU H0 H1)
  (v:su t d' dd H1) (nw:G5 H dd) (hn:H1 b=none) (hw:s.heap.get? b=none) (he:s1.heap.get? b=some oe) (hc:oe.cls = .ref cl) (hdd:oe.dict=dd) (hd:oe.data = .fields fs) (h1:fs[1]? = some .none):(Sq P w K mg base N qual st f cdv A outer s H E).xe (.ref b) s1:=
 Inv.leave (E:=E) (E':=λe' s''=>Xe P w outer H s E e' s'') I Eh (r.2.trans sm) (hE _ _ (r.1 ▸ v) nw) hn hw he hc hdd hd h1
theorem ae6(hE:∀dd H',su t d dd H'->G5 H dd->E (.ref cl) dd H')(pins:List (Addr×Obj))(σ:L2.St)(H1:Hp)(s1:Shared)(e:Value)(s':Shared)(d':D)(I:Inv (Sq P w K mg base N qual st f cdv A outer s H E) pins σ H1 s1)(r:RX H d d' H1)
  (m:Xe P w (Sq P w K mg base N qual st f cdv A outer s H E).stack H1 s1 (EC cl t d' H1) e s'):(Sq P w K mg base N qual st f cdv A outer s H E).xe e s':=
 I.Zg Eh r.2 (λC dd H' z=>by obtain⟨z,y,nw⟩:=z;cases z;exact hE _ _ (r.1 ▸ y) λdx e=>r.2.free (nw dx e)) m
def rO(cc:List D->Option D)(a:di):Ev:=λenv=>bindR (a env) λds aH=>match cc ds with
 | some d=>.ok d aH
 | none=>.stuck
theorem Uj{cc:List D->Option D}{cl:Addr}{a:di}{ps:List Str}(G:RW X.prog X.w X.K X.mg X.base x k ps (spX C.K n cc cl t))(hr:gq k X.A)(hg:Gl X x)(ha:PL X.wU C (e::es) a)
  (hn:∀env ds env',a env = .ok ds env'->ds.length=n)
  (hxe:∀(pins:List (Addr×Obj)) (σ:L2.St) (H:Hp) (s:Shared) (e:Value) (s':Shared) (d:D),Inv X pins σ H s->R d H->Xe X.prog X.w X.stack H s (EC cl t d H) e s'->X.xe e s')
  (hdb:jy x:=by decide) (he:starEach (e::es) X.env=(false,eval e X.env)::starEach es X.env:=by rfl) (hpl:(backTo pos (starEach es X.env)).any (·.1)=false:=by rfl) :
  PXX R X C (.Call (.Name x p) (e::es) [] pos) (rO cc a):=by
 intro pins s σ H Q I h;obtain⟨Pr,F,env,env',d,r,e1,q⟩:=h;obtain⟨f,fd,G,hm,hk,hb⟩:=G;obtain⟨ds,aH,e2,e3⟩:=aQ e1;split at e3
 ·rename_i d0 hc;cases e3;refine wpAny_Call_Name_kw (uU I hg hm ?_ hdb);refine PySem.W.callWith_K (h₀:=X.base) I.ok.mod.J2 hk (fK (U8 ha pos pins s σ H (λvs H1=>spX C.K n cc cl t vs H1 Q (EC cl t d H1)/\R d H1) I
   ⟨Pr,F,env,env',ds,r,e2,λvs H' F' r' s' p'=>⟨⟨F',ds,d,hn _ _ _ e2,r'.fr,p',hc,λdd H' z nw=>⟨rfl,z,nw⟩⟩,q H' F' r' s'⟩⟩) λus s1 ⟨vs,H1,I1,rv,q1,hR⟩=>⟨I1.Jd,?_⟩) he hpl
  have hl:us.length=ps.length:=by rw[<-rv.length];exact G.len _ _ _ _ q1
  have hb':=hb s1 us I1.Jd (by rw[Qxj];exact hl);rw[Qxj] at hb';refine wpAny_call (Qkj (G.run X.A X.stack s1 H1 ⟨us,[]⟩ us vs Q (EC cl t d H1) hr I1.env0 hb' rv q1) λr s' hq=>?_);cases r with
  | error e=>exact hxe pins σ H1 s1 e s' d I1 hR hq
  | ok fl=>
   cases fl with
   | ret u=>exact I1.after hq
   | next=>exact False.elim hq
   | brk=>exact False.elim hq
   | cont=>exact False.elim hq
 ·cases e3
def Tj(c:Ev)(ev:cR):cR:=λenv=>match c env with
 | .ok d aH=>.rt true d aH
 | _=>ev env
theorem acH{ev:cR}(h:PXX R X C e c)(hn:WX X.wU C (.Expr e pos) ev)(hs:swapsWith e none pos.line X.env=pure false:=by rfl):PR R X C (.Expr e pos) (Tj c ev):=λpins s σ H D I z=>by
 obtain⟨Pr,F,env,r,f,y⟩:=z;unfold Tj at f y;split at f
 ·rename_i d aH e1;rw[e1] at y;exact Fx h hs pins s σ H D I ⟨Pr,F,env,aH,d,r,e1,λH' F' r' s'=>y.2 σ H' F' r' s'⟩
 ·exact UG hn pins s σ H D I ⟨Pr,F,env,r,f⟩
end
end Ev
namespace L2
open PySem PySem.Spec PyProof.Rows
theorem ahz{P:Program}{w:World}{fs:List Addr}{H H':Hp}{h B h':Heap}(old:∀b o,h.get? b=some o->H b=none->b ∉ fs->B.get? b=some o)(st:B.StaysIn h')
  (slot:∀b o,h.get? b=some o->H b=none->b∈fs->∃sl,h'.get? b=some { o with slots:=sl }) (free:∀b o,h.get? b=some o->H b=none->H' b=none)
  (sm:aU H H') (hok:pG P w H' B):Un fs [] H H' h h' where
 keep:=λb o e n hb _=>st b o (old b o e n hb)
 slot:=λb o e n hb _=>slot b o e n hb
 free:=λb o e n _=>free b o e n
 there:=λb o e _=>by
  cases n:H b with
  | none=>
   by_cases hb:b∈fs
   ·obtain⟨sl,q⟩:=slot b o e n hb;exact⟨_,q⟩
   ·exact⟨o,st b o (old b o e n hb)⟩
  | some u=>
   obtain⟨v,hv⟩:=(hok b u (sm b u n)).obj;exact⟨v,st b v hv⟩
 tups:=λb xs q=>sm b _ q
 rZ:=λb o u q=>sm b _ q
 vZ:=λb ps q=>⟨#[],by rw[sm b _ q];simp⟩
 tabs:=λb qs q=>sm b _ q
section
variable{X:Cx}{pins:List (Addr×Obj)}{σ:St}{H H':Hp}{s s':Shared}{a C:Addr}{t:Option Addr}{B h':Heap}
theorem Inv.caught(I:Inv X pins σ H s)(f:vO X.prog X.w X.stack H s C a t H' B s'){Pv:Array Value->Prop}(fl:XC.Fl B X.stack a (.ref C) t Pv h')(up:s'.heap.UpToSlots h'):Inv X pins σ H' { s' with heap:=h' }:=by refine I.call' (s':={ s' with heap:=h' }) (ch:=[]) f.os (ahz f.old fl.st (λb o e n hb=>?_) (λb o e n=>f.un.free b o e n (λz=>nomatch z)) f.same f.hok) (f.hok.kept fl.st) f.bare (λb z=>nomatch z);obtain⟨sl,e1⟩:=f.un.slot b o e n hb (λz=>nomatch z);obtain⟨_,o',e2,hd⟩:=f.fl.fr.mem hb;rw[e1] at e2;cases e2;obtain⟨sl',e3⟩:=up b _ e1 hd;exact⟨sl',e3⟩
theorem vO.new(f:vO X.prog X.w X.stack H s C a t H' B s'):H' a=none:=by
 cases q:H' a with
 | none=>rfl
 | some u=>
  obtain⟨v,hv⟩:=(f.hok a u q).obj;rw[f.fl.ne] at hv;cases hv
theorem vO.ne(f:vO X.prog X.w X.stack H s C a t H' B s'){b:Addr}{o:Obj}(e:s.heap.get? b=some o)(n:H b=none)(hb:b ∉ frs X.stack):b≠a:=λz=>by
 have:=f.old b o e n hb;rw[z,f.fl.ne] at this;cases this
theorem vO.adx(f:vO X.prog X.w X.stack H s C a t H' B s'):a ∉ frs X.stack:=λhb=>by
 obtain⟨_,o',e2,hd⟩:=f.fl.fr.mem hb;obtain⟨oe,vs,h1,_,_,h3,_⟩:=f.fl.ob;rw[e2] at h1;cases h1;exact hd _ h3
theorem Inv.known{oe:Obj}(T:pU X)(I:Inv X pins σ H s)(f:vO X.prog X.w X.stack H s C a t H' B s')(J:Inv X pins σ H' { s' with heap:=h' })(ho:h'.get? a=some oe) :
  Inv X pins σ (upd H' a (.qP oe (.own a))) { s' with heap:=h' }:=by
 have hn:=f.new;have hnf:=f.adx;have nL:a≠X.env.locals:=λz=>hnf (by rw[T.st];unfold frs;rw[Qzv,T.fr,z];exact Qqv);have up:∀{b:Addr} {u:HO},H' b=some u->upd H' a (.qP oe (.own a)) b=some u:=λ{b u} q=>by rw[bI (cZ q hn)];exact q
 have un:∀{b:Addr},H' b=none->b≠a->upd H' a (.qP oe (.own a)) b=none:=λ{b} q z=>by rw[bI z];exact q
 refine⟨J.ok,J.os,J.bare,⟨J.base.keep,J.base.slot,λb o e n hx=>un (J.base.free b o e n hx) ?_,J.base.there,λb xs q=>up (J.base.tups b xs q),λb o u q=>up (J.base.rZ b o u q),λb ps q=>?_,λb qs q=>up (J.base.tabs b qs q)⟩,J.loc,J.cell,un J.free (Ne.symm nL),λx c e=>?_,λp hp=>?_,λb u e=>?_,J.len⟩
 ·by_cases hb:b∈X.fs
  ·exact λz=>hnf (z ▸ T.sub hb)
  ·exact f.ne (I.base.keep b o e n hb hx) (I.base.free b o e n hx) (T.nf I e hb)
 ·obtain⟨more,e⟩:=J.base.vZ b ps q;exact⟨more,up e⟩
 ·rcases J.lq x c e with q|⟨q1,o,u,q2⟩
  ·refine .inl (un q λz=>?_);obtain⟨v,oc,hc,_⟩:=I.cell x c e;have n1:H c=none:=by
    cases q1:H c with
    | none=>rfl
    | some u=>rw[f.same c u q1] at q;cases q
   exact f.ne hc n1 (z ▸ hnf) z
  ·exact .inr ⟨q1,o,u,up q2⟩
 ·obtain⟨e,n,ne,nf,d⟩:=J.pin p hp;obtain⟨e',n',_,_,_⟩:=I.pin p hp;refine⟨e,un n (f.ne e' n' λhm=>?_),ne,nf,d⟩;rw[T.st] at hm;unfold frs at hm;rw[Qzv,T.fr] at hm;rcases Qq1.mp hm with z|z
  ·exact ne z
  ·exact nf z
 ·by_cases hb:b=a
  ·subst hb;rw[bu] at e;cases e;exact⟨ho,oe,ho⟩
  ·rw[bI hb] at e;exact(J.hok b u e).stay (λ_ _ _ q=>q) (λc q=>up q) (λc xs q=>up q) λc _ _ _ _ q=>up q
theorem Inv.gone{n:Str}{v:Option Value}{m:Str->Option Value}{tk:Nat}(I:Inv X pins σ H s)(hl:∀(i:Nat) (x:Str) (v:V),X.N[i]? = some x->σ[i]? = some (some v)->ym X.env.scope x->∃u,RelV v u/\Look X.env s.heap m x u)
  (hn:h'.Ns X.env.locals (λx=>if x=n then v else m x)) (hs:Heap.SameBut X.env.locals s.heap h') (no:∀(i:Nat) (v:V),X.N[i]? = some n->σ[i]? = some (some v)->False):Inv X pins σ H { s with heap:=h',toks:=tk }:=by
 have nl:∀{b:Addr} {o:Obj},X.s₀.heap.get? b=some o->b≠X.env.locals:=λe=>Qwv (Qwy (Qq9 e) I.ok.above);refine⟨I.ok,I.os,I.bare,⟨λb o e q hb hx=>(hs.2 b (nl e)).trans (I.base.keep b o e q hb hx),λb o e q hb hx=>?_,I.base.free,λb o e hx=>?_,I.base.tups,I.base.rZ,I.base.vZ,I.base.tabs⟩,⟨_,hn,λi x u e1 e2 e3=>?_⟩,λy c e=>?_,I.free,I.lq,λp hp=>?_,?_,I.len⟩
 ·obtain⟨sl,e1⟩:=I.base.slot b o e q hb hx;exact⟨sl,(hs.2 b (nl e)).trans e1⟩
 ·obtain⟨o',e1⟩:=I.base.there b o e hx;exact⟨o',(hs.2 b (nl e)).trans e1⟩
 ·obtain⟨u',r',q⟩:=hl i x u e1 e2 e3;refine⟨u',r',?_⟩;rcases q with ⟨k,e⟩|⟨k,c,e,z⟩
  ·refine .inl ⟨k,?_⟩;have:x≠n:=λz=>no i u (z ▸ e1) e2;simp[this,e]
  ·exact .inr ⟨k,c,e,z.sameBut hs (I.ZW x c e)⟩
 ·obtain⟨w',z⟩:=I.cell y c e;exact⟨w',z.sameBut hs (I.ZW y c e)⟩
 ·obtain⟨e,n,ne,nf,d⟩:=I.pin p hp;exact⟨(hs.2 p.1 ne).trans e,n,ne,nf,d⟩
 ·exact pG.stays I.hok λb u q e=>(hs.2 b λz=>q (z ▸ I.free)).trans e
abbrev Cx.suite(X:Cx)(v:Value):Cx:={ X with A:=X.A.mark (some v),calm:=false,xe:=λ_ _=>False }
theorem Inv.suite(I:Inv X pins σ H s)(v:Value):Inv (X.suite v) pins σ H s:=
 ⟨⟨I.ok.mod,I.ok.kind,I.ok.glob,I.ok.blt,I.ok.above,I.ok.inj,I.ok.has,I.ok.cab,(λz=>nomatch z),I.ok.frames,I.ok.stk,I.ok.exf,I.ok.bs,I.ok.W6,I.ok.Q8,I.ok.Rw,I.ok.vp,I.ok.frf⟩,I.os,I.bare,I.base,I.loc,I.cell,I.free,I.lq,I.pin,I.hok,I.len⟩
theorem Inv.behind{v:Value}(K:X.Ok)(I:Inv (X.suite v) pins σ H s):Inv X pins σ H s:=
 ⟨K,I.os,I.bare,I.base,I.loc,I.cell,I.free,I.lq,I.pin,I.hok,I.len⟩
end
end L2
namespace Ev
open PySem PySem.Spec PyProof.Rows L2
def xcV(n t:Str)(d:D):D:=match d with
 | .tup [d]=>.clo (.Nonlocal [n,t] ⟨0,0,0,0⟩) [d]
 | _=>.clo (.Nonlocal [n] ⟨0,0,0,0⟩) []
theorem Xh{K:Fg}{F:Hp}{n t:Str}{d:D}{a c:Addr}{o:Obj}{u:HO}{fs:Array Value}(hn:PySem.W.nsIn K mainGlobals n=some (some (.ref c)))(ha:F a=some (.qP o u))(hc:o.cls = .ref c)(hd:o.data = .fields fs)(hv:su t d o.dict F):Rep K F (xcV n t d) (.ref a):=by
 by_cases z:∃d0,d = .tup [d0]
 ·obtain⟨d0,rfl⟩:=z;obtain⟨v,w,dx,od,m,h1,h2,h3,h4,h5,h6⟩:=hv;refine⟨a,[v],rfl,.inr (.inr ⟨n,[t],_,o,u,c,fs,rfl,hn,ha,hc,hd,.inr ⟨t,v,w,dx,od,_,m,rfl,rfl,h2,h3,h4,h5,h6⟩⟩),?_⟩;have:Rep K F d0 v:=by
   unfold exV at h1;split at h1<;>cases h1<;>rfl
  exact⟨v,[],rfl,this,rfl⟩
 ·have e:xcV n t d = .clo (.Nonlocal [n] ⟨0,0,0,0⟩) []:=by
   unfold xcV;split
   ·rename_i d0;exact absurd ⟨d0,rfl⟩ z
   ·rfl
  rw[e];exact⟨a,[],rfl,.inr (.inr ⟨n,[],_,o,u,c,fs,rfl,hn,ha,hc,hd,.inl ⟨rfl,rfl⟩⟩),rfl⟩
theorem Rel.drop{C:Cfg}{Pr F:Hp}{env:Env}{σ:L2.St}{H:Hp}{i:Nat}(r:Rel C Pr F env σ H)(hfx:C.fx i=none)(he:∀x,env[i]? ≠ some (some x)):Rel C Pr F env (σ.set i none) H:=by
 have g:∀(j:Nat) (x:Bool×D) (v:Option V),env[j]? = some (some x)->σ[j]? = some v->(σ.set i none)[j]? = some v:=λj x v e q=>by
  rw[Qq3 (λz:i=j=>by subst z;exact he x e)];exact q
 have g':∀(j:Nat) (x:Bool×D) (v:V),env[j]? = some (some x)->(σ.set i none)[j]? = some (some v)->σ[j]? = some (some v):=λj x v e q=>by
  rw[Qq3 (λz:i=j=>by subst z;exact he x e)] at q;exact q
 refine⟨r.pr,r.fr,by rw[Qw5];exact r.len,λj d e=>?_,λj d e=>?_,λj k d e a h1 h2 h3 h4=>r.apart j k d e a h1 h2 (g' _ _ _ h1 h3) (g' _ _ _ h2 h4),r.dj,λj a e=>?_⟩
 ·obtain⟨v,h1,h2⟩:=r.val j d e;exact⟨v,g _ _ _ e h1,h2⟩
 ·obtain⟨a,h1,h2⟩:=r.own j d e;exact⟨a,g _ _ _ e h1,h2⟩
 ·rw[Qq3 (λz:i=j=>by subst z;rw[hfx] at e;cases e)];exact r.fix j a e
theorem Rel.held{C:Cfg}{Pr F:Hp}{env:Env}{σ:L2.St}{H H':Hp}{t:Str}{d:D}{dd:Option Addr}(r:Rel C Pr F env σ H)(s:aU H H')(v:su t d dd H')(nw:G5 H dd):∃F',Rel C Pr F' env σ H'/\aU F F'/\su t d dd F':=by
 by_cases z:∃d0,d = .tup [d0]
 ·obtain⟨d0,rfl⟩:=z;obtain⟨v,w,dx,od,m,h1,h2,h3,h4,h5,h6⟩:=v;have hn:=nw dx h3;obtain⟨r2,s2⟩:=Rel.new (a:=dx) (o:=.qP od (.own dx)) r hn;refine⟨_,r2.grow λb o e=>?_,s2,v,w,dx,od,m,h1,h2,h3,bu,h5,h6⟩;by_cases y:b=dx
  ·subst y;rw[bu] at e;cases e;exact h4
  ·rw[bI y] at e;exact s b o e
 ·refine⟨F,r.grow s,aU.refl F,?_⟩;unfold su at v ⊢;split
  ·rename_i d0;exact absurd ⟨d0,rfl⟩ z
  ·split at v
   ·rename_i h _ _ ;exact absurd ⟨_,rfl⟩ z
   ·exact v
theorem su.mono{t:Str}{d:D}{dd:Option Addr}{F F':Hp}(v:su t d dd F)(s:aU F F'):su t d dd F':=by
 unfold su at v ⊢;split at v
 ·obtain⟨v,w,dx,od,m,h1,h2,h3,h4,h5,h6⟩:=v;exact⟨v,w,dx,od,m,h1,h2,h3,s _ _ h4,h5,h6⟩
 ·exact v
section
variable{X:Cx}{C:Cfg}{pos p:Pos}{x t:Str}{e:Expr}{es:List Expr}{c:Ev}{m k:Nat}{cl:Addr}
def aeE(X:Cx)(C:Cfg)(st:Stmt)(c:Ev)(cl:Addr)(t:Str):Prop:=∀(pins:List (Addr×Obj)) (s:Shared) (σ:L2.St) (H Pr F:Hp) (env env':Env) (d:D) (E':Value->Shared->Prop),Inv X pins σ H s->Rel C Pr F env σ H->c env = .ok d env'->
 (∀(H1 F1:Hp) (s1:Shared) (v:Value) (s':Shared),Inv X pins σ H1 s1->Rel C Pr F1 env' σ H1->aU F F1->Xe X.prog X.w X.stack H1 s1 (EC cl t d H1) v s'->E' v s')->wpAny (model X.prog X.w) X.A (exec st X.env) (λ_ _=>False) E' s
theorem T9{cc:List D->Option D}{a:di}{ps:List Str}(G:RW X.prog X.w X.K X.mg X.base x k ps (spX C.K m cc cl t))(hr:gq k X.A)(hg:Gl X x)(ha:PL X.wU C (e::es) a)
  (hn:∀env ds env',a env = .ok ds env'->ds.length=m) {pins:List (Addr×Obj)} {s:Shared} {σ:L2.St} {H Pr F:Hp} {env env':Env} {d:D} {E':Value->Shared->Prop} (I:Inv X pins σ H s) (r:Rel C Pr F env σ H) (e1:rO cc a env = .ok d env')
  (hxe:∀(H1 F1:Hp) (s1:Shared) (v:Value) (s':Shared),Inv X pins σ H1 s1->Rel C Pr F1 env' σ H1->aU F F1->Xe X.prog X.w X.stack H1 s1 (EC cl t d H1) v s'->E' v s')
  (hdb:jy x:=by decide) (he:starEach (e::es) X.env=(false,eval e X.env)::starEach es X.env:=by rfl) (hpl:(backTo pos (starEach es X.env)).any (·.1)=false:=by rfl) :
  wpAny (model X.prog X.w) X.A (eval (.Call (.Name x p) (e::es) [] pos) X.env) (λ_ _=>False) E' s:=by
 obtain⟨f,fd,G,hm,hk,hb⟩:=G;obtain⟨ds,aH,e2,e3⟩:=aQ e1;split at e3
 ·rename_i d0 hc;cases e3;refine wpAny_Call_Name_kw (uU I hg hm ?_ hdb);refine PySem.W.callWith_K (h₀:=X.base) I.ok.mod.J2 hk (Qxx (ha pos pins s σ H (λvs H1=>∃F1,Rel C Pr F1 env' σ H1/\aU F F1/\spX C.K m cc cl t vs H1 (λ_ _=>False) (EC cl t d H1)) (I.wish _)
   ⟨Pr,F,env,env',ds,r,e2,λvs H' F' r' s' p'=>⟨F',r',s',F',ds,d,hn _ _ _ e2,r'.fr,p',hc,λdd H' z nw=>⟨rfl,z,nw⟩⟩⟩) (λus s1 ⟨vs,H1,I1,rv,F1,r1,sF,q1⟩=>⟨I1.fO.Jd,?_⟩) λ_ _ z=>False.elim z) he hpl
  have I1:=I1.fO;have hl:us.length=ps.length:=by rw[<-rv.length];exact G.len _ _ _ _ q1
  have hb':=hb s1 us I1.Jd (by rw[Qxj];exact hl);rw[Qxj] at hb';refine wpAny_call (Qkj (G.run X.A X.stack s1 H1 ⟨us,[]⟩ us vs _ (EC cl t d H1) hr I1.env0 hb' rv q1) λr s' hq=>?_);cases r with
  | error e=>exact hxe H1 F1 s1 e s' I1 r1 sF hq
  | ok fl=>
   cases fl with
   | ret u=>obtain⟨_,_,_,_,_,_,_,z⟩:=hq;exact z.elim
   | next=>exact False.elim hq
   | brk=>exact False.elim hq
   | cont=>exact False.elim hq
 ·cases e3
theorem T8{cc:List D->Option D}{a:di}{ps:List Str}{spos:Pos}(G:RW X.prog X.w X.K X.mg X.base x k ps (spX C.K m cc cl t))(hr:gq k X.A)(hg:Gl X x)(ha:PL X.wU C (e::es) a)
  (hn:∀env ds env',a env = .ok ds env'->ds.length=m) (hdb:jy x:=by decide) (he:starEach (e::es) X.env=(false,eval e X.env)::starEach es X.env:=by rfl) (hpl:(backTo pos (starEach es X.env)).any (·.1)=false:=by rfl)
  (hs:swapsWith (.Call (.Name x p) (e::es) [] pos) none spos.line X.env=pure false:=by rfl):aeE X C (.Expr (.Call (.Name x p) (e::es) [] pos) spos) (rO cc a) cl t:=
 λ_ _ _ _ _ _ _ _ _ _ I r e1 hxe=>wpAny_Expr_any (fK (T9 G hr hg ha hn I r e1 hxe hdb he hpl) λ_ _ z=>z.elim) I.quiet hs
def Hy(ev:cR)(c:Ev)(iy jn:Nat)(cn t:Str):cR:=λenv=>match c env with
 | .ok d env'=>.nx ((env'.set jn none).set iy (some (false,xcV cn t d)))
 | _=>ev env
structure Below(K:Fg)(mg:Str->Option Value)(S cn:Str)(cl:Addr):Prop where
 at_:∃Sa,mg S=some (.ref Sa)/\XC.Cl K Sa/\PySem.W.typeIn K (.ref Sa)=some (.type "type")/\PySem.W.mroIn K cl (.ref Sa)=some true
 nm:PySem.W.nsIn K mainGlobals cn=some (some (.ref cl))
theorem afp{st:Stmt}{ev:cR}{iy jn:Nat}{S cn n y:Str}{np yp np2 ap hp:Pos}(T:pU X)(hK:X.K=C.K)(W:Below X.K X.mg S cn cl)(hb:Bl X.wU C [st] ev)(hx:aeE X C st c cl t)(hN:X.N.Nodup)(hjn:X.N[jn]? = some n)(hiy:X.N[iy]? = some y)
  (hij:iy≠jn) (hn:X.env.scope.names.lookup n=some .local) (hy:X.env.scope.names.lookup y=some .local) (fjn:C.fx jn=none) (fiy:C.fx iy=none) (gl:Gl X S) (hd:jy S:=by decide) (hd1:jy n:=by decide) (hd2:uq n:=by decide)
  (hsw:swapsWith (.Name n np2) (some (.Name y yp)) ap.line X.env=pure false:=by rfl) :
  WX X C (.Try [st] [.ExceptHandler (some (.Name S np)) (some n) [.Assign [.Name y yp] (.Name n np2) ap] hp] [] [] pos) (Hy ev c iy jn cn t):=by
 intro pins s σ H D I h;obtain⟨Pr,F,env,r,f⟩:=h;unfold Hy at f;split at f
 ·rename_i d env' hc;refine wpAny_Try_except (wpAny_execs_cons (Qxx (hx pins s σ H Pr F env env' d _ I r hc λH1 F1 s1 v s' I1 r1 sF cx=>?_) (λ_ _ z=>z.elim) λ_ _ z=>z));obtain⟨a,Cc,dd,H',B,rfl,hE,fl⟩:=cx;obtain⟨hE,hv,nw⟩:=hE;cases hE;obtain⟨Sa,hS,Z,ty,sub⟩:=W.at_;obtain⟨hp',g',dr',tk',os'⟩:=s';have fl0:=fl.fl;rw[T.st] at fl0;refine XC.aaW (by rw[I.ok.frames,T.st]) T.fr fl0 λh4 held up4=>?_;refine XC.land held λh5 aee up5=>?_;have I5:=I1.caught fl (h':=h5) (by rw[T.st];exact aee) (up4.trans up5);obtain⟨oe,_,hoe,hcls,_⟩:=aee.ob;refine wpAny_handleBy_cons (codeAny_handlers_test (Calls.Name_function_global I5.ok.kind gl (Calls.loadGlobal_global (by rw[I5.ok.glob];exact I5.mod.glob.keeps I5.bk) hS ?_) hd)) (by intro q;cases q);refine XC.caught I5.Jd hoe hcls Z ty sub (codeAny_handlers_suite_as ?_);refine XC.land aee λh6 agG up6=>?_;have I6:=I1.caught fl (h':=h6) (by rw[T.st];exact agG) ((up4.trans up5).trans up6);obtain⟨oe6,vs6,ho6,hc6,ais,hd6,_⟩:=agG.ob;have I7:=Inv.known T I1 fl I6 ho6;refine lK I7 hN hjn (.inl hn) (v:=.ref a) rfl (λs8 I8=>?_) (.inr hn);have hσ:jn<σ.length:=by rw[I.len];exact(Qq5.mp hjn).1
  refine Qxx ((yM (Lg (X:=X.suite (.ref a)) hN hiy (.inl hy) (jj (X:=X.suite (.ref a)) hjn (.inl hn) hd1 hd2) hsw (.inr hy))) pins s8 _ _
   { nx:=λσ' H''=>σ'=(σ.set jn (some (.ref a))).set iy (some (.ref a))/\H''=upd H' a (.qP oe6 (.own a)),rt:=λ_ _=>False } (I8.suite _) ⟨.ref a,Qwq hσ,rfl,rfl⟩) (λf9 s9 q9=>?_) λ_ _ z=>z.elim
  cases f9 with
  | next=>
   obtain⟨σ9,H9,J9,rfl,rfl⟩:=q9;have I9:=J9.behind I.ok;have I9':=I9.weak (σ':=((σ.set jn (some (.ref a))).set iy (some (.ref a))).set jn none) (by rw[Qw5]) (λi v q=>by
    by_cases z:jn=i
    ·subst z;rw[Qwq (by rw[Qw5,Qw5];exact hσ)] at q;cases q
    ·rw[Qq3 z] at q;exact q)
   obtain⟨m9,hm9,hl9⟩:=I9'.loc;refine wpAny_nameGoes_keeps (m:=m9) hn hm9 (by rw[I.ok.kind];rfl) λh10 v10 hNs hsb=>?_;have I10:=I9'.gone (tk:=s9.toks+1) hl9 hNs hsb (λi v q1 q2=>by
    have z:jn=i:=zM hN hjn q1;subst z;rw[Qwq (by rw[Qw5,Qw5];exact hσ)] at q2;cases q2)
   obtain⟨F2,r2,sF1,hv2⟩:=r1.held fl.same hv nw;obtain⟨r2,sF2⟩:=Rel.new (a:=a) (o:=.qP oe6 (.own a)) r2 fl.new;have rp:Rep C.K (upd F2 a (.qP oe6 (.own a))) (xcV cn t d) (.ref a):=Xh (by rw[<-hK];exact W.nm) bu hc6 hd6 (by rw[ais];exact hv2.mono sF2);refine⟨_,_,I10,f _ _ _ ((((r2.unset (i:=jn) (v:=.ref a) fjn).put (i:=iy) fiy rp)).drop fjn λx q=>?_) ((sF.trans sF1).trans sF2)⟩;rw[Qq3 hij,List.getElem?_set] at q;split at q
   ·split at q<;>cases q
   ·rename_i z;exact z rfl
  | brk=>obtain⟨_,_,_,z⟩:=q9;exact z.elim
  | cont=>obtain⟨_,_,_,z⟩:=q9;exact z.elim
  | ret u=>obtain⟨_,_,_,_,_,z⟩:=q9;exact z.elim
 ·exact acC hb pins s σ H D I ⟨Pr,F,env,r,f⟩
end
def vg(T:Str->Option Bool)(d:D):Option D:=match d with
 | .clo (.Nonlocal (n::_) _) _=>(T n).map .bl
 | _=>none
theorem Ox{T:Str->Option Bool}{d e:D}(h:vg T d=some e):∃n r p ds b,d = .clo (.Nonlocal (n::r) p) ds/\T n=some b/\e = .bl b:=by
 unfold vg at h;split at h
 ·obtain⟨b,h1,h2⟩:=Qw1.mp h;exact⟨_,_,_,_,b,rfl,h1,h2.symm⟩
 ·cases h
theorem abB{K:Fg}{F H:Hp}{n:Str}{r:List Str}{p0:Pos}{ds:List D}{v:V}{P:Program}{w:World}{h:Heap}(hr:Rep K F (.clo (.Nonlocal (n::r) p0) ds) v)(s:aU F H)(ok:pG P w H h):∃a c,v = .ref a/\PySem.W.nsIn K mainGlobals n=some (some (.ref c))/\XC.At a c h:=by
 obtain⟨a,vs,rfl,q,_⟩:=hr;rcases q with ⟨_,z⟩|⟨_,_,_,_,_,_,z,_⟩|⟨n',r',p',o,u,c,fs,z,h1,h2,h3,_⟩
 ·cases z
 ·cases z
 ·cases z;exact⟨a,c,rfl,h1,o,(ok a _ (s _ _ h2)).1,h3⟩
section
variable{X:Cx}{C:Cfg}
theorem JL{T:Str->Option Bool}{y:V}{cv:Value}(ry:∀u,RelV y u->u=cv)(hk:∀n b c,T n=some b->PySem.W.nsIn X.K mainGlobals n=some (some (.ref c))->XC.Cl X.K c/\PySem.W.kitOne X.K (.ref c) cv=some b) :
  gQ X (.builtin "isinstance") (λxs H Q=>∃n r p0 ds b x,xs=[x,y]/\T n=some b/\Rep X.K H (.clo (.Nonlocal (n::r) p0) ds) x/\Q (.bl b) H):=by
 intro pins s σ H xs us Q I r h;obtain⟨n,r0,p0,ds,b,x,rfl,hT,hr,q⟩:=h;obtain⟨u,w,rfl,r1,r2⟩:=vals2 r;obtain⟨a,c,rfl,h1,h2⟩:=abB hr (aU.refl H) I.hok;cases r1;rw[ry w r2];obtain⟨Z,e⟩:=hk n b c hT h1;exact XC.isi Z I.Jd h2 e λtk=>⟨.bl _,H,I.tok tk,rfl,q⟩
theorem acu{T:Str->Option Bool}{xT:Str}{e:Expr}{a:Ev}{p q pos:Pos}{cl:Addr}(hg:Gl X "isinstance")(hm:X.mg "isinstance" = none)(Zr:Gl X xT)(hmT:X.mg xT=some (.ref cl))
  (hk:∀n b c,T n=some b->PySem.W.nsIn X.K mainGlobals n=some (some (.ref c))->XC.Cl X.K c/\PySem.W.kitOne X.K (.ref c) (.ref cl)=some b) (hK:X.K=C.K) (ha:PX X C e a) (hd:jy xT:=by decide)
  (he:starEach [e,.Name xT q] X.env=(false,eval e X.env)::starEach [.Name xT q] X.env:=by rfl) :
  PX X C (.Call (.Name "isinstance" p) [e,.Name xT q] [] pos) (dY (vg T) a):=by
 refine(qC (JL (y:=.ref cl) (cv:=.ref cl) (λu r=>r) hk) hg hm boot_isinstance (dJ ha (dJ (NP (v:=.ref cl) Zr hmT rfl hd) iU) he) (by decide) (by decide) he rfl).imp λσ H Q h=>?_;obtain⟨Pr,F,env,env',d,rl,e1,qq⟩:=h;obtain⟨d0,aH,e2,e3⟩:=aQ e1;obtain⟨e4,rfl⟩:=cF e3;obtain⟨n,r0,p0,ds,b,rfl,hT,rfl⟩:=Ox e4;refine⟨Pr,F,env,env',_,rl,e2,λv H1 F1 r1 s1 p1=>⟨n,r0,p0,ds,b,v,rfl,hT,?_,qq _ H1 F1 r1 s1 rfl⟩⟩;rw[hK];exact Rep.mono r1.fr _ v p1
theorem Ym{T:Str->Option Bool}{B:String}{xT:Str}{e:Expr}{a:Ev}{p q pos:Pos}(hg:Gl X "isinstance")(hm:X.mg "isinstance" = none)(Zr:Gl X xT)(hmT:X.mg xT=none)(hvT:bootBuiltins xT=some (.type B))
  (hk:∀n b c,T n=some b->PySem.W.nsIn X.K mainGlobals n=some (some (.ref c))->XC.Cl X.K c/\PySem.W.kitOne X.K (.ref c) (.type B)=some b) (hK:X.K=C.K) (ha:PX X C e a) (hn:xT ≠ "__name__":=by decide) (hd:jy xT:=by decide)
  (he:starEach [e,.Name xT q] X.env=(false,eval e X.env)::starEach [.Name xT q] X.env:=by rfl) :
  PX X C (.Call (.Name "isinstance" p) [e,.Name xT q] [] pos) (dY (vg T) a):=by
 refine(qC (JL (y:=.ty B) (cv:=.type B) (λu r=>r) hk) hg hm boot_isinstance (dJ ha (dJ (NT (v:=.ty B) Zr hmT hvT rfl hn hd) iU) he) (by decide) (by decide) he rfl).imp λσ H Q h=>?_;obtain⟨Pr,F,env,env',d,rl,e1,qq⟩:=h;obtain⟨d0,aH,e2,e3⟩:=aQ e1;obtain⟨e4,rfl⟩:=cF e3;obtain⟨n,r0,p0,ds,b,rfl,hT,rfl⟩:=Ox e4;refine⟨Pr,F,env,env',_,rl,e2,λv H1 F1 r1 s1 p1=>⟨n,r0,p0,ds,b,v,rfl,hT,?_,qq _ H1 F1 r1 s1 rfl⟩⟩;rw[hK];exact Rep.mono r1.fr _ v p1
def Jo(cn t:Str)(d:D):Option D:=match d with
 | .clo (.Nonlocal [n,t'] _) [d0]=>if n=cn/\t'=t then some d0 else none
 | _=>none
theorem V4{cn t:Str}{d e:D}(h:Jo cn t d=some e):∃p,d = .clo (.Nonlocal [cn,t] p) [e]:=by
 unfold Jo at h;split at h
 ·split at h
  ·rename_i z;cases h;obtain⟨rfl,rfl⟩:=z;exact⟨_,rfl⟩
  ·cases h
 ·cases h
def MN(K:Fg)(cn t:Str):Prop:=∀c,PySem.W.nsIn K mainGlobals cn=some (some (.ref c))->∃S,XC.Xd K c S t
theorem acW{v:V}{w:Value}(r:RelV v w):PySem.handedOut w=pure w:=by
 cases v with
 | non=>cases r;rfl
 | bl b=>cases r;rfl
 | int i=>obtain⟨t,rfl⟩:=r;rfl
 | str i=>obtain⟨t,rfl⟩:=r;rfl
 | byt i=>obtain⟨t,rfl⟩:=r;rfl
 | flt i=>obtain⟨t,rfl⟩:=r;rfl
 | ref a=>cases r;rfl
 | ty n=>cases r;rfl
end
def ahJ(cl:Addr)(t:Str):TS:=λD σ H=>∃(e:Addr) (v:V) (o:Obj) (fs:Array Value),σ[0]? = some (some (.ref e))/\σ[1]? = some (some v)/\H e=some (J3 e o)/\o.cls = .ref cl/\o.dict=none/\o.data = .fields fs/\
 ∀(dx:Addr) (od:Obj) (w:Value) (m:Str->Option Value),H dx=none->dx≠e->RelV v w->(∀h:Heap,h.get? dx=some od->h.Ns dx m)->m t=some w->D.nx σ (upd (upd H e (J3 e { o with dict:=some dx })) dx (.qP od (.own dx)))
theorem acE{X:Cx}{cl S:Addr}{a b t:Str}{p1 p2 p3 p4:Pos}(Z:XC.Xd X.K cl S t)(h0:X.N[0]? = some a)(h1:X.N[1]? = some b)(v0:ym X.env.scope a)(v1:ym X.env.scope b)(da:(a == ("__debug__" : Str))=false)(ca:(a == ("__classdict__" : Str))=false)(db:(b == ("__debug__" : Str))=false)(cb:(b == ("__classdict__" : Str))=false)
  (hs:swapsWith (.Name b p3) (some (.Attribute (.Name a p1) t p2)) p4.line X.env=pure false):PS X (.Assign [.Attribute (.Name a p1) t p2] (.Name b p3) p4) (ahJ cl t):=by
 intro pins s σ H D I h;obtain⟨e,v,o,fs,e0,e1,he,hc,hdn,hda,hq⟩:=h;refine plainObj_wpAny_Assign_Attribute (fK (jj h1 v1 db cb pins s σ H (λy H1=>y=v/\H1=H) I ⟨v,e1,rfl,rfl⟩) λu s1 ⟨y,H1,I1,ry,hy,hH⟩=>?_) hs;subst hy hH;refine fK (jj h0 v0 da ca pins s1 σ H1 (λx H2=>x = .ref e/\H2=H1) I1 ⟨.ref e,e0,rfl,rfl⟩) λov s2 ⟨x,H2,I2,rx,hx,hH⟩=>?_;subst hx hH;cases rx;obtain⟨hp,g,dr,tk,os⟩:=s2;refine XC.store I2.Jd Z (I2.hok e _ he).1 hc hdn hda λh' tk' dx q1 q2 q3 q4 q5=>?_;obtain⟨od,es,ep,hod,_⟩:=q5.ns;have J:=I2.aht (s:=⟨hp,g,dr,tk,os⟩) (h':=h') (tk:=tk') he q1 q2 q3 q4 hod;exact⟨σ,_,J.2,hq dx od u _ J.1 q4 ry (λh hh=>q5.ns.at λo ho=>by rw[hod] at ho;cases ho;exact hh) (if_pos rfl)⟩
def spI(cl:Addr)(t:Str):Sp:=λvs H Q _=>∃(e:Addr) (v:V) (o:Obj) (fs:Array Value),vs=[.ref e,v]/\H e=some (J3 e o)/\o.cls = .ref cl/\o.dict=none/\o.data = .fields fs/\
 ∀(dx:Addr) (od:Obj) (w:Value) (m:Str->Option Value),H dx=none->dx≠e->RelV v w->(∀h:Heap,h.get? dx=some od->h.Ns dx m)->m t=some w->Q .non (upd (upd H e (J3 e { o with dict:=some dx })) dx (.qP od (.own dx)))
def PN(P:Program)(w:World)(K:Fg)(mg:Str->Option Value)(base:Heap)(k:Nat)(fI cl:Addr)(t:Str):Prop:=∃fd ps,mJ P w K mg base Cu k fI fd ps (spI cl t)/\Binds K fd ps []
theorem adY{P:Program}{w:World}{K:Fg}{mg:Str->Option Value}{base:Heap}{k:Nat}{fI cl S:Addr}{fd:FuncData}{a b t qual:Str}{st:Stmt}{p1 p2 p3 p4:Pos}(F:R0 K "__init__" qual st fI fd)(hb:Binds K fd [a,b] [])(sc:bH [a,b] [a,b] (aO st))(hbd:cL st=[.Assign [.Attribute (.Name a p1) t p2] (.Name b p3) p4])
  (Z:XC.Xd K cl S t) (da:jy a:=by decide) (ca:uq a:=by decide) (db:jy b:=by decide) (cb:uq b:=by decide)
  (hs:∀env:PySem.Env,swapsWith (.Name b p3) (some (.Attribute (.Name a p1) t p2)) p4.line env=pure false:=by intro _;rfl):PN P w K mg base (k+1) fI cl t:=by
 refine⟨fd,[a,b],R0.ok F sc (λvs H Q E h=>?_) λcdv A outer s H vs Q E hr h=>?_,hb⟩
 ·obtain⟨e,v,o,fs,rfl,_⟩:=h;rfl
 ·obtain⟨e,v,o,fs,rfl,he,hc,hdn,hda,hq⟩:=h;rw[hbd];refine⟨_,yM (acE (X:=(Gs Cu P w K mg base [a,b] qual (aO st) fI cdv A outer s H E).wU) Z rfl rfl ?_ ?_ da ca db cb (hs _)),e,v,o,fs,rfl,rfl,he,hc,hdn,hda,λdx od w m h1 h2 h3 h4 h5=>hq dx od w m h1 h2 h3 h4 h5⟩
  ·exact(sc.par a Qqv).elim .inl λz=>.inr (.inl z)
  ·exact(sc.par b (Qqy _ Qqv)).elim .inl λz=>.inr (.inl z)
def aeL(K:Fg)(c:Addr):Prop:=∀base:Heap,K.In base->∃(nm q:Str) (N:Addr) (bs bm:List Value) (hdct:Bool) (sn:List Str) (sub:List Value) (ab:Bool) (col:Option Bool) (dd:Option Addr) (k0 k1 k2 k3 k5:Option Value),
 base.get? c=some (excClassObj nm q c N bs bm hdct sn sub ab col dd k0 k1 k2 k3 k5 "ValueError.__new__")/\OwnTail base XC.Z7 bm/\bm.contains (.type "BaseException")=true
structure aeM(K:Fg)(mg:Str->Option Value)(x:Str)(c fI:Addr):Prop where
 at_:mg x=some (.ref c)
 ob:aeL K c
 ini:PySem.W.findIn K (.ref c) "__init__" = some (some (.ref fI))
 ty:PySem.W.typeIn K (.ref fI)=some (.type "function")
def p8(a:Ev):cR:=λenv=>jB (a env) λd aH=>match exV d with
 | some _=>.rt true (.tup [d]) aH
 | none=>.stuck
theorem ZD{K:Fg}{F:Hp}{d:D}{v v':V}(h:exV d=some v)(r:Rep K F d v'):v'=v:=by
 unfold exV at h;split at h
 ·cases h;exact r
 ·cases h;exact r
 ·cases h
abbrev exN(c t:Addr)(dd:Option Addr):Obj:={ cls:=.ref c,dict:=dd,data:=.fields #[.ref t,.none,.none,.none,.bool false,.none] }
section
variable{R:D->Hp->Prop}{X:Cx}{C:Cfg}{pos np cpos:Pos}{x t:Str}{e:Expr}{a:Ev}{k:Nat}{c fI:Addr}
theorem QJ(T:pU X)(hx:aeM X.K X.mg x c fI)(G:PN X.prog X.w X.K X.mg X.base k fI c t)(hr:gq (k+1) X.A)(hc:X.calm=true)(hg:Gl X x)(ha:PX X.wU C e a)
  (hR:∀d H,R d H->aU X.H₀ H)
  (hxe:∀(pins:List (Addr×Obj)) (σ:L2.St) (H0 H1:Hp) (s1:Shared) (b:Addr) (d':D) (dd:Option Addr) (oe:Obj) (fs:Array Value),Inv X pins σ H1 s1->R d' H0->aU H0 H1->su t d' dd H1->G5 X.H₀ dd->H1 b=none->X.s₀.heap.get? b=none->s1.heap.get? b=some oe->oe.cls = .ref c->oe.dict=dd->oe.data = .fields fs->fs[1]? = some .none->X.xe (.ref b) s1)
  (hdb:jy x:=by decide) (he:BP e X.env:=by rfl) :
  PR R X C (.Raise (some (.Call (.Name x np) [e] [] cpos)) none pos) (p8 a):=by
 intro pins s σ H D I h;obtain⟨Pr,F,env,r,f,y⟩:=h;obtain⟨d,aH,e1,f1⟩:=cW f;unfold p8 at y;rw[e1] at y;cases ev:exV d with
 | none=>rw[ev] at f1;exact f1.elim
 | some v0=>
  have y1:FX R C Pr F (.rt true (.tup [d]) aH):=by simp only[jB,ev] at y;exact y
  obtain⟨nm,q,N,bs,bm,hdct,sn,sub,ab,col,dd,k0,k1,k2,k3,k5,hC,hT,hB⟩:=hx.ob X.base I.mod.J2;obtain⟨fd,ps,G,hb⟩:=G;refine XC.raises (C:=c) (nm:=nm) (q:=q) (N:=N) (bs:=bs) (bm:=bm) (hdct:=hdct) (sn:=sn) (sub:=sub) (ab:=ab) (col:=col) (dd:=dd) (k0:=k0) (k1:=k1) (k2:=k2) (k3:=k3) (k5:=k5) (K:=X.K) (fI:=fI)
   hB (I.ok.hd hc) (by rw[he];rfl) hx.ini hx.ty (uU I hg hx.at_ ⟨rfl,?_⟩ hdb)
  have hxa:(aa a ak) env = .ok [d] aH:=by unfold aa ak;rw[e1];rfl
  have go:=U8 (zy (C:=C) ha Fw he) cpos pins s σ H (λvs H1=>vs=[v0]/\R (.tup [d]) H1) I ⟨Pr,F,env,aH,[d],r,hxa,λvs H' F' r' s' p'=>by
   obtain⟨v',vs',rfl,z2,z3⟩:=p';cases z3;exact⟨by rw[ZD ev z2],y1.2 σ H' F' r' s'⟩⟩
  rw[he] at go ⊢;refine Calls.evalArgs_plain (Qxx go (λus s2 ⟨vs,H1,I1,rv,hvs,hr1⟩=>?_) λ_ _ z=>z);subst hvs;obtain⟨u0,rfl,rv0⟩:=vals1 rv;refine⟨rfl,by show 1<=sizeLine;rw[Qkq];omega,I1.bk _ _ hC,I1.Jd,hT.keeps I1.bk,λh' b m=>?_⟩;obtain⟨m1,m2,tt,m3,m4,m5⟩:=m;have hnb:=I1.none_of m2;have I2:=I1.laidN (a:=b) (o:=J3 b (exN c tt none)) (tk:=s2.toks) (h':=h') m1 m2 (V7 m3);have rv2:Vals [.ref b,v0] [.ref b,u0]:=.cons rfl (.cons rv0 .nil);have hq:spI c t [.ref b,v0] (upd H1 b (J3 b (exN c tt none))) (λv H'=>v = .non/\∃(dx:Addr) (od:Obj) (w:Value) (m:Str->Option Value),upd H1 b (J3 b (exN c tt none)) dx=none/\dx≠b/\RelV v0 w/\(∀h:Heap,h.get? dx=some od->h.Ns dx m)/\m t=some w/\H'=upd (upd (upd H1 b (J3 b (exN c tt none))) b (J3 b (exN c tt (some dx)))) dx (.qP od (.own dx))) (λ_ _ _=>False):=
   ⟨b,v0,_,_,rfl,bu,rfl,rfl,rfl,λdx od w m h1 h2 h3 h4 h5=>⟨rfl,dx,od,w,m,h1,h2,h3,h4,h5,rfl⟩⟩
  have hb':=hb _ [.ref b,u0] I2.Jd (by rw[Qxj];exact(Vals.length rv2).symm.trans (G.len _ _ _ _ hq));rw[Qxj] at hb';refine wpAny_call (Qkj (G.run _ X.stack _ _ ⟨[.ref b,u0],[]⟩ [.ref b,u0] _ _ _ (hr.make c [u0] []) (I2.env0.make c [u0] []) hb' rv2 hq) λr s3 hq3=>?_);cases r with
  | error e=>exact hq3.elim
  | ok fl=>
   cases fl with
   | next=>exact False.elim hq3
   | brk=>exact False.elim hq3
   | cont=>exact False.elim hq3
   | ret u=>
    obtain⟨v3,H3,I3,rv3,rfl,dx,od,w,m,n1,n2,n3,n4,n5,rfl⟩:=I2.after hq3;cases rv3;have hsm:=hR _ _ hr1;have hb0:X.H₀ b=none:=hsm.free hnb;have hbE:upd (upd (upd H1 b (J3 b (exN c tt none))) b (J3 b (exN c tt (some dx)))) dx (.qP od (.own dx)) b=some (J3 b (exN c tt (some dx))):=by rw[bI (Ne.symm n2),bu]
    have I4:=I3.Xp hbE hb0;have hH1:H1 dx=none:=by rw[bI n2] at n1;exact n1
    have g3:=(I3.hok b _ hbE).1;refine⟨rfl,I3.bk _ _ hC,⟨_,g3,rfl,_,rfl,rfl⟩,hxe pins σ H1 _ s3 b _ (some dx) _ _ I4 hr1 (λb' o' z=>?_) ⟨v0,w,dx,od,m,ev,n3,rfl,?_,n4,n5⟩ (λdx' z=>by cases z;exact hsm.free hH1) (by simp) (I1.Vb T m2) g3 rfl rfl rfl rfl⟩
    ·have z1:b'≠b:=λz2=>by rw[z2,hnb] at z;cases z
     have z2:b'≠dx:=λz2=>by rw[z2,hH1] at z;cases z
     show(if b'=b then none else _)=_;rw[if_neg z1,bI z2,bI z1,bI z1];exact z
    ·show(if dx=b then none else _)=_;rw[if_neg n2,bu]
end
def Sd(cn:Str)(b:Bool):Str->Option Bool:=λn=>if n=cn then some b else none
theorem VJ{cn n:Str}{b b':Bool}(h:Sd cn b n=some b'):n=cn/\b=b':=by
 unfold Sd at h;split at h
 ·rename_i z;cases h;exact⟨z,rfl⟩
 ·cases h
def W5(K:Fg)(x:Str):Addr:=match PySem.W.nsIn K mainGlobals x with
 | some (some (.ref c))=>c
 | _=>0
theorem Wl{K:Fg}{x:Str}{c:Addr}(h:PySem.W.nsIn K mainGlobals x=some (some (.ref c))):W5 K x=c:=by unfold W5;rw[h]
def vN(K:Fg)(mg:Str->Option Value)(cn x:Str)(b:Bool):Prop:=∃cl,mg x=some (.ref cl)/\∀c,PySem.W.nsIn K mainGlobals cn=some (some (.ref c))->XC.Cl K c/\PySem.W.kitOne K (.ref c) (.ref cl)=some b
def aeK(K:Fg)(cn:Str)(B:String)(b:Bool):Prop:=∀c,PySem.W.nsIn K mainGlobals cn=some (some (.ref c))->XC.Cl K c/\PySem.W.kitOne K (.ref c) (.type B)=some b
structure XG(K:Fg)(x t qual:Str)(st:Stmt)(c S fI:Addr):Prop where
 nm:PySem.W.nsIn K mainGlobals x=some (some (.ref c))
 lk:∃(nm q:Str) (N:Addr) (bs:List Value) (sn:List Str) (sub:List Value) (ab:Bool) (col:Option Bool) (dd:Option Addr) (k0 k1 k2 k3 k5:Option Value),K.lookup c=some (excClassObj nm q c N bs (.ref S::XC.Z7) true sn sub ab col dd k0 k1 k2 k3 k5 "ValueError.__new__")
 cl:XC.Cl K c
 sa:PySem.W.findIn K (.ref c) "__setattr__" = some (some (.builtin "object.__setattr__"))
 no:PySem.W.findIn K (.ref c) t=some none
 up:PySem.W.excIn K S XC.Z7 "ValueError.__new__" = true
 ini:PySem.W.findIn K (.ref c) "__init__" = some (some (.ref fI))
 ty:PySem.W.typeIn K (.ref fI)=some (.type "function")
 fn:∃(oc kV doc pm cdv ct:Value) (od an:Option Addr) (osl:Array (Option Value)),K.lookup fI=some ⟨oc,od,.func (PySem.W.fnOf "__init__" qual (fL st) (cL st) (aO st) .none kV doc pm an cdv ct),osl⟩/\PySem.W.codeIn K cdv qual=true
 kp:PySem.W.keepIn K (.ref fI)=true
section
variable{K:Fg}{h:Heap}{mg:Str->Option Value}{x t qual y:Str}{st:Stmt}{c S fI cy:Addr}{b:Bool}{P:Program}{w:World}{base:Heap}{f:Addr}{N:List Str}{k:Nat}{cdv:Value}{A:Around}{outer:List PySem.Env}{s:Shared}{H:Hp}{E:XK}{cl:Addr}{d:D}{pos np cpos:Pos}{e:Expr}{a:Ev}{C:Cfg}{X:Cx}{p q:Pos}{ea:di}
theorem XG.cla(F:XG K x t qual st c S fI):XC.Xd K c S t:=by refine⟨F.cl,F.sa,F.no,?_⟩;obtain⟨nm,q,N,bs,sn,sub,ab,col,dd,k0,k1,k2,k3,k5,lk⟩:=F.lk;unfold PySem.W.clsIn;rw[lk];unfold excClassObj;exact⟨_,rfl,rfl,rfl⟩
theorem XG.exc(F:XG K x t qual st c S fI)(X:K.In h)(G:h.Ns mainGlobals mg):aeM K mg x c fI:=by
 refine⟨Qkk X G F.nm,λbase KB=>?_,F.ini,F.ty⟩;obtain⟨nm,q,N,bs,sn,sub,ab,col,dd,k0,k1,k2,k3,k5,lk⟩:=F.lk;refine⟨nm,q,N,bs,_,true,sn,sub,ab,col,dd,k0,k1,k2,k3,k5,KB _ _ lk,?_,by rfl⟩;have q:=F.up;unfold PySem.W.excIn at q;split at q
 ·rename_i dd cd sl ho;split at q
  ·rename_i C' bm k0 k1 k2 k3 n k5 hm hs;simp only[Qwj,beq_iff_eq,Bool.not_eq_true'] at q;obtain⟨⟨⟨⟨⟨rfl,rfl⟩,hdel⟩,ht⟩,hok⟩,hni⟩:=q;exact .own (KB _ _ ho) (.of_isNs (PySem.W.isNs_of_in KB hok)) (PySem.W.nsMap_none_of_in KB hok hni) .base
  ·cases q
 ·cases q
theorem XG.aif{P:Program}{w:World}{base:Heap}{k:Nat}{a b:Str}{p1 p2 p3 p4:Pos}(F:XG K x t qual st c S fI)
  (hb:∀{kV doc pm:Value} {an:Option Addr} {cdv ct:Value} (us:List Value),us.length=[a,b].length->bindArgs (PySem.W.fnOf "__init__" qual (fL st) (cL st) (aO st) .none kV doc pm an cdv ct) ⟨us,[]⟩=pure ([a,b].zip us))
  (sc:bH [a,b] [a,b] (aO st)) (hbd:cL st=[.Assign [.Attribute (.Name a p1) t p2] (.Name b p3) p4]) (da:jy a:=by decide) (ca:uq a:=by decide) (db:jy b:=by decide) (cb:uq b:=by decide)
  (hs:∀env:PySem.Env,swapsWith (.Name b p3) (some (.Attribute (.Name a p1) t p2)) p4.line env=pure false:=by intro _;rfl):PN P w K mg base (k+1) fI c t:=by
 obtain⟨oc,kV,doc,pm,cdv,ct,od,an,osl,l,cd⟩:=F.fn;exact adY (Gn (st:=st) l cd F.kp) (.all λus hl=>hb us hl) sc hbd F.cla da ca db cb hs
structure XK1(K:Fg)(mg:Str->Option Value)(x t:Str)(cl:Addr):Prop where
 all:∃fI,aeM K mg x cl fI/\∀(P:Program) (w:World) (base:Heap) (k:Nat),PN P w K mg base (k+1) fI cl t
theorem XG.raises{a b:Str}{p1 p2 p3 p4:Pos}(F:XG K x t qual st c S fI)(X:K.In h)(G:h.Ns mainGlobals mg)
  (hb:∀{kV doc pm:Value} {an:Option Addr} {cdv ct:Value} (us:List Value),us.length=[a,b].length->bindArgs (PySem.W.fnOf "__init__" qual (fL st) (cL st) (aO st) .none kV doc pm an cdv ct) ⟨us,[]⟩=pure ([a,b].zip us))
  (sc:bH [a,b] [a,b] (aO st)) (hbd:cL st=[.Assign [.Attribute (.Name a p1) t p2] (.Name b p3) p4]) (da:jy a:=by decide) (ca:uq a:=by decide) (db:jy b:=by decide) (cb:uq b:=by decide)
  (hs:∀env:PySem.Env,swapsWith (.Name b p3) (some (.Attribute (.Name a p1) t p2)) p4.line env=pure false:=by intro _;rfl):XK1 K mg x t (W5 K x):=by
 rw[Wl F.nm];exact⟨fI,F.exc X G,λP w base k=>F.aif hb sc hbd da ca db cb hs⟩
theorem XG.below(F:XG K x t qual st c S fI)(X:K.In h)(G:h.Ns mainGlobals mg)(hS:PySem.W.nsIn K mainGlobals y=some (some (.ref S)))(Z:XC.Cl K S)(ty:PySem.W.typeIn K (.ref S)=some (.type "type"))(sub:PySem.W.mroIn K c (.ref S)=some true):Below K mg y x (W5 K x):=by rw[Wl F.nm];exact⟨⟨S,Qkk X G hS,Z,ty,sub⟩,F.nm⟩
theorem XG.isx(F:XG K x t qual st c S fI)(X:K.In h)(G:h.Ns mainGlobals mg)(hS:PySem.W.nsIn K mainGlobals y=some (some (.ref cy)))(k:PySem.W.kitOne K (.ref c) (.ref cy)=some b):vN K mg x y b:=
 ⟨cy,Qkk X G hS,λc' h'=>by rw[F.nm] at h';cases h';exact⟨F.cl,k⟩⟩
theorem XG.isB{B:String}(F:XG K x t qual st c S fI)(k:PySem.W.kitOne K (.ref c) (.type B)=some b):aeK K x B b:=
 λc' h'=>by rw[F.nm] at h';cases h';exact⟨F.cl,k⟩
theorem XG.part(F:XG K x t qual st c S fI):MN K x t:=λc' h'=>by rw[F.nm] at h';cases h';exact⟨S,F.cla⟩
theorem aaO(Z:XK1 K mg x t cl)(hr:gq (k+2) (A.deeper (envOfC qual (aO st) s.heap.objs.size f cdv)))(hE:∀dd H',su t d dd H'->G5 H dd->E (.ref cl) dd H')(ha:PX (bx P w K mg base N qual st f cdv A outer s H E) C e a)
  (hg:Gl (Sq P w K mg base N qual st f cdv A outer s H E) x:=by rfl) (hdb:jy x:=by decide) (he:starEach [e] (Sq P w K mg base N qual st f cdv A outer s H E).env=(false,eval e (Sq P w K mg base N qual st f cdv A outer s H E).env)::starEach [] (Sq P w K mg base N qual st f cdv A outer s H E).env:=by rfl) :
  PR (RX H d) (Sq P w K mg base N qual st f cdv A outer s H E) C (.Raise (some (.Call (.Name x np) [e] [] cpos)) none pos) (p8 a):=by
 obtain⟨fI,h1,h2⟩:=Z.all;exact QJ Eh h1 (h2 P w base k) hr rfl hg ha (λd' H' r=>r.2) (λpins σ H0 H1 s1 b d' dd oe fs I r sm v nw hn hw e1 e2 e3 e4 e5=>Xg hE pins σ H0 H1 s1 b d' dd oe fs I r sm v nw hn hw e1 e2 e3 e4 e5) hdb he
theorem sU{xT cn:Str}{b:Bool}(G:Good X C)(hm:X.mg "isinstance" = none)(h:vN X.K X.mg cn xT b)(ha:SX X C e a)(hg:Gl X "isinstance":=by rfl)(Zr:Gl X xT:=by rfl)(hd:jy xT:=by decide)
  (he:starEach [e,.Name xT q] X.env=(false,eval e X.env)::starEach [.Name xT q] X.env:=by rfl):SX X C (.Call (.Name "isinstance" p) [e,.Name xT q] [] pos) (dY (vg (Sd cn b)) a):=by
 obtain⟨cl,h1,h2⟩:=h;exact⟨Ev.acu hg hm Zr h1 (λn b' c z k=>by obtain⟨rfl,rfl⟩:=VJ z;exact h2 c k) G.K ha.u hd he⟩
theorem Xl{xT cn:Str}{B:String}{b:Bool}(hv:bootBuiltins xT=some (.type B))(G:Good X C)(hm:X.mg "isinstance" = none)(hmT:X.mg xT=none)(h:aeK X.K cn B b)(ha:SX X C e a)(hg:Gl X "isinstance":=by rfl)(Zr:Gl X xT:=by rfl)(hn:xT ≠ "__name__":=by decide)(hd:jy xT:=by decide)
  (he:starEach [e,.Name xT q] X.env=(false,eval e X.env)::starEach [.Name xT q] X.env:=by rfl):SX X C (.Call (.Name "isinstance" p) [e,.Name xT q] [] pos) (dY (vg (Sd cn b)) a):=
 ⟨Ev.Ym hg hm Zr hmT hv (λn b' c z k=>by obtain⟨rfl,rfl⟩:=VJ z;exact h c k) G.K ha.u hn hd he⟩
theorem M9{cn:Str}(G:Good X C)(h:MN X.K cn t)(ha:SX X C e a)(hb:attributeBase e t X.env (eval e X.env)=eval e X.env:=by rfl):SX X C (.Attribute e t pos) (dY (Jo cn t) a):=⟨by
 intro pins s σ H Q I h;obtain⟨Pr,F,env,env',d,rl,e1,qq⟩:=h;obtain⟨d0,aH,e2,e3⟩:=aQ e1;obtain⟨e4,rfl⟩:=cF e3;obtain⟨p0,rfl⟩:=V4 e4;refine aad hb (fK (ha.u pins s σ H (λv H1=>∃F1,Rel C Pr F1 env' σ H1/\aU F F1/\Rep C.K F1 (.clo (.Nonlocal [cn,t] p0) [d]) v) I ⟨Pr,F,env,env',_,rl,e2,λv H1 F1 r1 s1 p1=>⟨F1,r1,s1,p1⟩⟩) λu s1 ⟨v,H1,I1,rv,F1,r1,sF,hr⟩=>?_);obtain⟨b,vs,rfl,q,hds⟩:=hr;rcases q with ⟨_,z⟩|⟨_,_,_,_,_,_,z,_⟩|⟨n',r',p',o,u',c,fs,z,h1,h2,h3,h4,h5⟩
 ·cases z
 ·cases z
 ·cases z;rcases h5 with ⟨z,_⟩|⟨x,v,w,dx,od,ud,m,hx,rfl,hrv,hdd,hF,hns,hm⟩
  ·cases z
  ·cases hx;cases rv;obtain⟨S,Z⟩:=h c (by rw[G.K];exact h1);obtain⟨hp,g,dr,tk,os⟩:=s1;have g1:=(I1.hok b _ (r1.fr _ _ h2)).1;have g2:=(I1.hok dx _ (r1.fr _ _ hF)).1;refine XC.load (dx:=dx) (m:=m) (v:=w) I1.Jd Z g1 h3 hdd h4 (hns _ g2) hm (acW hrv) ⟨v,H1,I1.tok _,hrv,qq v H1 F1 r1 sF ?_⟩;obtain⟨v',vs',z1,z2,z3⟩:=hds;cases z1;exact z2⟩
theorem XM{st:Stmt}{ev:cR}{c:Ev}(iy jn:Nat){cl:Addr}{S cn n y:Str}{np yp np2 ap hp:Pos}(T:pU X)(G:Good X C)(W:Below X.K X.mg S cn cl)(hb:Good X.wU C->eQ X.wU C [st] ev)(hx:aeE X C st c cl t)(hnd:jk X.N=true:=by rfl)(hjn:X.N[jn]? = some n:=by rfl)(hiy:X.N[iy]? = some y:=by rfl)
  (hij:iy≠jn:=by decide) (hn:X.env.scope.names.lookup n=some .local:=by rfl) (hy:X.env.scope.names.lookup y=some .local:=by rfl) (fjn:C.fx jn=none:=by rfl) (fiy:C.fx iy=none:=by rfl) (gl:Gl X S:=by rfl) (hd:jy S:=by decide) (hd1:jy n:=by decide) (hd2:uq n:=by decide)
  (hsw:swapsWith (.Name n np2) (some (.Name y yp)) ap.line X.env=pure false:=by rfl) :
  Ef X C (.Try [st] [.ExceptHandler (some (.Name S np)) (some n) [.Assign [.Name y yp] (.Name n np2) ap] hp] [] [] pos) (Hy ev c iy jn cn t):=⟨Ev.afp T G.K W (hb (wU G)).u hx (fQ hnd) hjn hiy hij hn hy fjn fiy gl hd hd1 hd2 hsw⟩
end
open PySem PySem.Spec PySem.W PySem.Calls PyProof.Rows L2
def Qm:List Bool->Int
 | []=>0
 | b::r=>(if b=true then 1 else 0)+Qm r
theorem uL(f:Nat->Int):∀n,preSum f (n+1)=f 0+preSum (λi=>f (i+1)) n
 | 0=>by simp[preSum]
 | n+1=>by
  show preSum f (n+1)+f (n+1)=_;rw[uL f n];show _=f 0+(preSum (λi=>f (i+1)) n+f (n+1));omega
theorem zB:∀bs:List Bool,preSum (λi=>if bs.getD i false=true then 1 else 0) bs.length=Qm bs
 | []=>rfl
 | b::r=>by
  rw[Qq0,uL];have:=zB r;simp only[List.getD_cons_zero,List.getD_cons_succ,Qm];rw[this]
def zE(b:Bool):List Bool->Option Nat
 | []=>none
 | c::r=>if c=b then some 0 else (zE b r).map (·+ 1)
theorem De{b:Bool}:∀{bs:List Bool} {j:Nat},zE b bs=some j->∃hj:j<bs.length,bs[j]=b/\∀m (hm:m<bs.length),m<j->bs[m]≠b
 | [],_,h=>by cases h
 | c::r,j,h=>by
  unfold zE at h;split at h
  ·rename_i z;cases h;exact⟨Nat.succ_pos _,z,λm hm hm0=>absurd hm0 (Nat.not_lt_zero _)⟩
  ·rename_i z;obtain⟨k,h1,rfl⟩:=Qw1.mp h;obtain⟨hk,h2,h3⟩:=De h1;refine⟨Nat.succ_lt_succ hk,h2,λm hm hm0=>?_⟩;cases m with
   | zero=>exact z
   | succ m=>exact h3 m (Nat.lt_of_succ_lt_succ hm) (Nat.lt_of_succ_lt_succ hm0)
section
variable{X:Cx}{C:Cfg}{o e:Expr}{a b:Ev}{apos cpos p pos:Pos}{ea:di}
theorem RJ(hc:X.calm=true):gQ X (.builtin "sum") (λxs H Q=>∃(p:Addr) (bs:List Bool),xs=[.ref p]/\j8 X.K H p (bs.map V.bl)/\Q (.int (Qm bs)) H):=by
 intro pins s σ H xs us Q I r h;obtain⟨p,bs,rfl,hq,q⟩:=h;obtain⟨u,rfl,rx⟩:=vals1 r;cases rx;obtain⟨its,rv,pl,_⟩:=I.list hq;have e:=ux rv;subst e;refine call_sum_walkAnyB (wpAny_pyIter_list pl.isList ?_);have hlt:p<s.heap.objs.size:=by obtain⟨o,e,_⟩:=pl.isList;exact Qq9 e
 refine⟨s.heap.objs.size,_,_,_,_,_,_,λi=>if bs.getD i false=true then 1 else 0,rfl,(Walks.list (A:=X.A.in1) (show X.A.in1.handled=none from I.ok.hd hc) s.heap.objs.size p (Qwv hlt) (bs.map Value.bool).toArray).toS,⟨⟨_,Qq6 _ rfl,rfl,rfl⟩,by obtain⟨o,e,rr⟩:=pl.isList;exact⟨o,Qqz _ e,rr⟩⟩,?_,?_,λs' tk hk=>?_⟩
 ·intro b hb;show b<(s.heap.push _).objs.size;rw[Qjz];rcases Qq1.mp hb with rfl|hb
  ·exact Nat.lt_succ_self _
  ·rcases Qq1.mp hb with rfl|hb
   ·exact Qjk hlt
   ·cases hb
 ·intro i v hv;have hv:(bs.map Value.bool).toArray[i]? = some v:=hv;rw[List.getElem?_toArray,Qx2] at hv;cases hb:bs[i]? with
  | none=>rw[hb] at hv;cases hv
  | some b=>
   rw[hb] at hv;cases hv;refine .inr ⟨b,rfl,?_⟩;have this:bs.getD i false=b:=by simp[Qzj,hb]
   simp only[this]
 ·obtain⟨h',g',d',t',os'⟩:=s';obtain⟨k1,k2,k3,k4,k5⟩:=hk;simp only at k1 k2 k3 k4 k5;subst k2 k3 k4;have I1:Inv X pins σ H { s with heap:=h',toks:=t' }:=I.kept λb o e=>k1 b o (by simp;exact Qwv (Qq9 e)) (Qqz _ e);refine⟨.int _,H,I1,⟨tk,rfl⟩,?_⟩;have e2:(bs.map Value.bool).toArray.size=bs.length:=by simp
  rw[e2,zB];exact q
def Ow:List D->Option D
 | [.lst ds]=>(mV ds).map λbs=>.int (Qm bs)
 | _=>none
theorem Z2:CallD C (λxs H Q=>∃(p:Addr) (bs:List Bool),xs=[.ref p]/\j8 C.K H p (bs.map V.bl)/\Q (.int (Qm bs)) H) Ow:=by
 intro Pr F env σ H ds d vs Q r hs h q;unfold Ow at h;split at h
 ·rename_i es;cases e:mV es with
  | none=>rw[e] at h;cases h
  | some bs=>
   rw[e] at h;cases h;obtain⟨v,rfl,hv⟩:=jK hs;obtain⟨z,a,ws,rfl,h1,h2⟩:=hv.lst r.fr;have e2:=uJ e h2;subst e2;exact⟨a,bs,rfl,j8.of h1,q _ H F r (aU.refl F) rfl⟩
 ·cases h
def X4(K:Fg):V->List V->Hp->VK->Prop:=λx vs H Q=>∃a bs b j,x = .ref a/\vs=[.bl b]/\j8 K H a (bs.map V.bl)/\zE b bs=some j/\Q (.int (j:Nat)) H
theorem Gb:MtM X "list.index" (X4 X.K):=by
 intro pins s σ H x vs v us Q I rx rv h;obtain⟨a,bs,b,j,rfl,rfl,hq,hp,q⟩:=h;cases rx;obtain⟨u,rfl,ru⟩:=rv.one;cases ru;obtain⟨its,r,ht,hz⟩:=I.list hq;have e:=ux r;subst e;obtain⟨hj,h1,h2⟩:=De hp
 let e:Value->Bool:=λy=>match y with|.bool y=>y == b|_=>false
 obtain⟨o,ho,hc,n,hd⟩:=ht.isList;obtain⟨cls,dd,data,sl⟩:=o;simp only at hc hd;subst hc hd;have hjs:j<(bs.map Value.bool).toArray.size:=by simpa using hj
 have at':∀m (hm:m<bs.length) (hm':m<(bs.map Value.bool).toArray.size),(bs.map Value.bool).toArray[m] = .bool bs[m]:=λm hm hm'=>by simp
 refine call_meets F.slot_list_index ⟨_,ho,rfl⟩ F.entry_list_index (F.args_list_index_2 _ _) (SeqAt.list_indexAt a (bs.map Value.bool).toArray n dd sl (.bool b) e j hjs ?_ ?_ ?_) ⟨ho,λy hy=>?_,?_⟩
 ·have:bs.length<=sizeLine:=by simpa using hz
  rw[Qkq] at this;omega
 ·rw[at' j hj hjs,h1];show(b == b)=true;simp
 ·intro m hm hmj;have hm':m<bs.length:=by simpa using hm
  rw[at' m hm' hm];show(bs[m] == b)=false;rw[Qwx];exact h2 m hm' hmj
 ·obtain⟨m,hm,rfl⟩:=Array.mem_iff_getElem.mp hy;have hm':m<bs.length:=by simpa using hm
  rw[at' m hm' hm];exact PySem.SeqAt.EqAt.bool_bool _ _
 ·exact⟨.int j,H,I.tok _,⟨_,rfl⟩,q⟩
def Ah:D->D->Option D
 | .lst ds,.bl b=>(mV ds).bind λbs=>(zE b bs).map λj=>.int (j:Nat)
 | _,_=>none
theorem Xj(G:Good X C)(hm:X.mg "sum" = none)(ha:xx X C [e] ea)(hg:Gl X "sum":=by rfl)(he:BP e X.env:=by rfl):SX X C (.Call (.Name "sum" p) [e] [] pos) (aB Ow ea):=⟨lQ (by rw[<-G.K];exact RJ G.calm) Z2 hg hm (by decide +kernel) ha.u (by decide) (by decide) he rfl⟩
theorem Km(G:Good X C)(ho:SX X C o a)(he:Eg X C e b)(hbase:attributeBase o "index" X.env (eval o X.env)=eval o X.env:=by rfl)
  (hs:BP e X.env:=by rfl)
  (hfew:((backTo cpos (starEach [e] X.env)).all (λx=>!x.1)&&(backToKw cpos (keywordEach [] X.env)).all (λx=>x.1.isSome)
   && decide ([e].length+([]:List Keyword).length+(if ([]:List Keyword).isEmpty then 0 else 1)<30))=true:=by rfl)
  (hline:(apos.endLine == cpos.line)=true:=by rfl) (hplain:(backTo cpos (starEach [] X.env)).any (·.1)=false:=by rfl) :
  SX X C (.Call (.Attribute o "index" apos) [e] [] cpos) (az Ah a b):=⟨by
 have h:=xK (cpos:=cpos) PySem.F.plainAttrs_list PySem.F.slot_list_index PySem.F.type_list_index Gb ho.u (dJ he.u iU hs) hbase hfew hline hs hplain;rw[G.K] at h;refine h.imp λσ H Q hq=>?_;obtain⟨Pr,F,env,env',d,r,e0,q⟩:=hq;obtain⟨x,aH,e1,e2⟩:=aQ e0;obtain⟨y,dC,e3,e4⟩:=aQ e2;obtain⟨e5,rfl⟩:=cF e4;unfold Ah at e5;split at e5
 ·rename_i ds z;obtain⟨zs,h1,h2⟩:=Qxw.mp e5;obtain⟨j,h3,rfl⟩:=Qw1.mp h2;refine⟨Pr,F,env,aH,_,r,e1,λvx H1 F1 r1 s1 p1=>?_⟩;obtain⟨hz,p,vs,rfl,h4,h5⟩:=p1;refine⟨.inl ⟨rfl,vs,j8.of (r1.fr _ _ h4)⟩,Pr,F1,aH,env',_,r1,e3,λvy H2 F2 r2 s2 p2=>?_⟩;have hvy:vy = .bl z:=by
   rcases p2 with p2|⟨_,_,p2⟩
   ·exact p2
   ·exact p2.elim
  subst hvy;have e6:=uJ h1 h5;subst e6;exact⟨p,zs,z,j,rfl,rfl,j8.of (r2.fr _ _ (s2 _ _ h4)),h3,q _ H2 F2 r2 (s1.trans s2) rfl⟩
 ·cases e5⟩
end
end Ev
namespace L2
open PySem PySem.Spec PyProof.Rows
theorem Qh{α:Type}{t:Sem α}{Q Q':α->Shared->Prop}{M:Model}{A:Around}{E:Value->Shared->Prop}{s:Shared}(h:wpAny M A t Q E s)(hp:0<s.toks)(k:∀a s',0<s'.toks->Q a s'->Q' a s'):wpAny M A t Q' E s:=
 Qxx (wpAny_toks_of (n:=1) hp h) (λa s' h=>k a s' h.1 h.2) λ_ _ x=>x.2
def MT(X:Cx)(e:Expr)(t:TE):Prop:=
 ∀(pins:List (Addr×Obj)) (s:Shared) (σ:St) (H:Hp) (Q:VK),Inv X pins σ H s->0<s.toks->t σ H Q->wpAny (model X.prog X.w) X.A (eval e X.env) (EP X pins σ Q) X.xe s
def PAp(X:Cx)(es:List Expr)(t:TA):Prop:=
 ∀(pos:Pos) (pins:List (Addr×Obj)) (s:Shared) (σ:St) (H:Hp) (Q:List V->Hp->Prop),Inv X pins σ H s->0<s.toks->t σ H Q->wpAny (model X.prog X.w) X.A (spliced (backTo pos (starEach es X.env))) (AP X pins σ Q) X.xe s
def PSp(X:Cx)(st:Stmt)(t:TS):Prop:=
 ∀(pins:List (Addr×Obj)) (s:Shared) (σ:St) (H:Hp) (D:Ends),Inv X pins σ H s->0<s.toks->t D σ H->wpAny (model X.prog X.w) X.A (exec st X.env) (SP X pins D) X.xe s
def JW(X:Cx)(st:List Stmt)(t:TS):Prop:=
 ∀(pins:List (Addr×Obj)) (s:Shared) (σ:St) (H:Hp) (D:Ends),Inv X pins σ H s->0<s.toks->t D σ H->wpAny (model X.prog X.w) X.A (execs st X.env) (SP X pins D) X.xe s
section
variable{X:Cx}{e o:Expr}{es:List Expr}{te to:TE}{t:TA}{st:Stmt}{sts:List Stmt}{ts tt:TS}{pos apos cpos:Pos}{a b:Expr}{ta tb:TE}
theorem PE.p(h:PE X e te):MT X e te:=λpins s σ H Q I _ q=>h pins s σ H Q I q
theorem PA.p(h:PA X es t):PAp X es t:=λpos pins s σ H Q I _ q=>h pos pins s σ H Q I q
theorem PS.p(h:PS X st ts):PSp X st ts:=λpins s σ H D I _ q=>h pins s σ H D I q
theorem Bm.p(h:Bm X sts ts):JW X sts ts:=λpins s σ H D I _ q=>h pins s σ H D I q
theorem U7(ha:MT X e te)(hr:PAp X es t)(hs:starEach (e::es) X.env=(false,eval e X.env)::starEach es X.env:=by rfl):PAp X (e::es) (aaH te t):=by intro pos pins s σ H Q I hp h;rw[hs];show wpAny _ _ (spliced ((false,eval e X.env)::backTo pos (starEach es X.env))) _ _ s;refine Calls.spliced_cons (Qh (ha pins s σ H _ I hp h) hp λu s1 hp1 ⟨x,H1,I1,r1,q1⟩=>?_);exact fK (hr pos pins s1 σ H1 _ I1 hp1 q1) λus s2 ⟨xs,H2,I2,r2,q2⟩=>⟨x::xs,H2,I2,.cons r1 r2,q2⟩
theorem QH(h1:PSp X st ts)(h2:JW X sts tt):JW X (st::sts) (ab1 ts tt):=by
 intro pins s σ H D I hp h;refine wpAny_execs_cons (Qh (h1 pins s σ H _ I hp h) hp λf s1 hp1 q=>?_);cases f with
 | next=>obtain⟨σ1,H1,I1,q1⟩:=q;exact h2 pins s1 σ1 H1 D I1 hp1 q1
 | ret v=>exact q
 | brk=>exact q
 | cont=>exact q
def afc(a b:Str)(to:TE):TE:=λσ H Q=>to σ H λx H1=>∃w:Str,x = .str w/\w.length+(w.length+1)*b.length<=16777216/\Q (.str (Txt.replace w a b)) H1
theorem U0{a b:Str}{j1 j2:Nat}{p1 p2:Pos}(ho:PE X o to)(hab:(a == b)=false)
  (hbase:attributeBase o "replace" X.env (eval o X.env)=eval o X.env:=by rfl)
  (hfew:((backTo cpos (starEach [.Constant (.str a) j1 p1,.Constant (.str b) j2 p2] X.env)).all (λx=>!x.1)&&(backToKw cpos (keywordEach [] X.env)).all (λx=>x.1.isSome)
   && decide (([.Constant (.str a) j1 p1,.Constant (.str b) j2 p2]:List Expr).length+([]:List Keyword).length+(if ([]:List Keyword).isEmpty then 0 else 1)<30))=true:=by rfl)
  (hline:(apos.endLine == cpos.line)=true:=by rfl) :
  MT X (.Call (.Attribute o "replace" apos) [.Constant (.str a) j1 p1,.Constant (.str b) j2 p2] [] cpos) (afc a b to):=by
 intro pins s σ H Q I hp h;refine wpAny_Call_method_late hbase hfew hline rfl (Qh (ho pins s σ H _ I h) hp λv s1 hp1 ⟨x,H1,I1,r1,w,ew,hf,q1⟩=>?_);subst ew;obtain⟨t,rfl⟩:=r1;refine⟨"str","str.replace",PySem.F.plainAttrs_str,PySem.F.slot_str_replace,PySem.F.type_str_replace,Qkv _ _ _,(λ_ z=>nomatch z),?_⟩;refine Calls.callWith_builtin rfl (Calls.evalArgs_plain ?_);show wpAny _ _ (spliced ((false,eval (.Constant (.str a) j1 p1) X.env)::(false,eval (.Constant (.str b) j2 p2) X.env)::[])) _ _ s1;refine Calls.spliced_cons (Calls.Constant_str (Calls.spliced_cons (Calls.Constant_str (Calls.spliced_nil ?_))));exact SC.replace (Nat.pos_iff_ne_zero.mp hp1) (Nat.succ_ne_zero _) (Qwv (Nat.lt_succ_self _)) hab hf λt' k=>⟨.str _,H1,I1.tok k,⟨t',rfl⟩,q1⟩
theorem MT.imp{t t':TE}(h:MT X e t)(i:∀σ H Q,t' σ H Q->t σ H Q):MT X e t':=λpins s σ H Q I hp q=>h pins s σ H Q I hp (i σ H Q q)
theorem PAp.imp{t t':TA}(h:PAp X es t)(i:∀σ H Q,t' σ H Q->t σ H Q):PAp X es t':=λpos pins s σ H Q I hp q=>h pos pins s σ H Q I hp (i σ H Q q)
theorem PSp.imp{st:Stmt}{t t':TS}(h:PSp X st t)(i:∀D σ H,t' D σ H->t D σ H):PSp X st t':=λpins s σ H D I hp q=>h pins s σ H D I hp (i D σ H q)
theorem JW.imp{st:List Stmt}{t t':TS}(h:JW X st t)(i:∀D σ H,t' D σ H->t D σ H):JW X st t':=λpins s σ H D I hp q=>h pins s σ H D I hp (i D σ H q)
theorem Yy(h:PAp X es t):MT X (.List es pos) (afi t):=by intro pins s σ H Q I hp hq;refine wpAny_List_spliced (fK (h pos pins s σ H _ I hp hq) λus s1 ⟨xs,H1,I1,r,z,q⟩=>⟨by rw[<-r.length];exact z,?_⟩);have hf:H1 s1.heap.objs.size=none:=I1.hok.fresh (Qq2 _);refine⟨.ref s1.heap.objs.size,upd H1 s1.heap.objs.size (.lst xs),I1.laid (t':=s1.toks) (λb u e=>Qqz _ e) (Qq2 _) ?_,rfl,q _ hf⟩;exact⟨z,us,0,r,Qq6 _ rfl⟩
theorem acM{op:Operator}{r:R2}(ho:mG X (binaryOp op) r)(ha:MT X a ta)(hb:MT X b tb):MT X (.BinOp a op b pos) (Xr r ta tb):=by intro pins s σ H Q I hp h;refine wpAny_BinOp (Qh (ha pins s σ H _ I hp h) hp λv s1 hp1 ⟨x,H1,I1,r1,q1⟩=>fK (hb pins s1 σ H1 _ I1 hp1 q1) λu s2 ⟨y,H2,I2,r2,q2⟩=>?_);exact ho pins s2 σ H2 x y v u Q I2 r1 r2 q2
theorem Yp{i:Nat}{x:Str}{pos':Pos}(hN:X.N.Nodup)(hi:X.N[i]? = some x)(hx:Loc X.env.scope x)(he:MT X e te)(hs:swapsWith e (some (.Name x pos')) pos.line X.env=pure false:=by rfl)(hf:X.fn x=true\/X.env.scope.names.lookup x=some .local:=by first|exact .inl rfl|exact .inr rfl|assumption) :
  PSp X (.Assign [.Name x pos'] e pos) (Ql te (Ag i)):=by
 intro pins s σ H D I hp h;refine wpAny_Assign_Name (fK (he pins s σ H _ I hp h) λv s1 ⟨y,H1,I1,r1,q1⟩=>?_) hs;exact lK I1 hN hi hx r1 (λs2 I2=>⟨_,H1,I2,q1⟩) hf
end
end L2
namespace Ev
open PySem PySem.Spec PyProof.Rows L2
def PXp(X:Cx)(C:Cfg)(e:Expr)(ev:Ev):Prop:=MT X e (tE C ev)
def agW(X:Cx)(C:Cfg)(e:Expr)(ev:Ev):Prop:=MT X e (tRd C ev)
def aaq(X:Cx)(C:Cfg)(es:List Expr)(ev:di):Prop:=PAp X es (tA C ev)
def aeF(X:Cx)(C:Cfg)(st:Stmt)(ev:cR):Prop:=PSp X st (tS C ev)
def PK(X:Cx)(C:Cfg)(st:List Stmt)(ev:cR):Prop:=JW X st (tS C ev)
section
variable{X:Cx}{C:Cfg}{pos:Pos}{e:Expr}{es:List Expr}{a:Ev}{r:di}
theorem PXp.b{ev:Ev}(h:PXp X C e ev):agW X C e ev:=MT.imp h λσ H Q hq=>by
 obtain⟨Pr,F,env,env',d,r,e,q⟩:=hq;exact⟨Pr,F,env,env',d,r,e,λv H' F' r' s' p'=>q v H' F' r' s' (.inl p')⟩
theorem Nv(h:aaq X C es r):PXp X C (.List es pos) (bM r):=(Yy h).imp λσ H Q hq=>by
 obtain⟨Pr,F,env,env',d,rl,e,q⟩:=hq;obtain⟨ds,aH,e1,e2⟩:=aQ e;split at e2
 ·rename_i hz;cases e2;refine⟨Pr,F,env,env',ds,rl,e1,λvs H1 F1 r1 s1 p1=>⟨by rw[p1.length];exact hz,λp hp=>?_⟩⟩;obtain⟨r2,s2⟩:=r1.new (o:=.lst vs) hp;exact q _ _ _ r2 (s1.trans s2) ⟨hz,p,vs,rfl,bu,cg.mono s2 _ _ p1⟩
 ·cases e2
theorem iY(ha:PXp X C e a)(hr:aaq X C es r)(hs:starEach (e::es) X.env=(false,eval e X.env)::starEach es X.env:=by rfl):aaq X C (e::es) (aa a r):=(U7 ha hr hs).imp λσ H Q hq=>by
 obtain⟨Pr,F,env,env',ds,rl,e,q⟩:=hq;obtain⟨d,aH,e1,e2⟩:=aQ e;obtain⟨ds2,dC,e3,e4⟩:=aQ e2;cases e4;exact⟨Pr,F,env,aH,d,rl,e1,λv H1 F1 r1 s1 p1=>⟨Pr,F1,aH,env',ds2,r1,e3,λvs H2 F2 r2 s2 p2=>q (v::vs) H2 F2 r2 (s1.trans s2) ⟨v,vs,rfl,Rep.mono s2 _ _ p1,p2⟩⟩⟩
theorem cz{st:Stmt}{rest:List Stmt}{a b:cR}(h1:aeF X C st a)(h2:PK X C rest b):PK X C (st::rest) (aL a b):=(QH h1 h2).imp λD σ H h=>by
 obtain⟨Pr,F,env,r,f⟩:=h;refine⟨Pr,F,env,r,?_⟩;unfold aL at f;cases e:a env with
 | nx e1=>rw[e] at f;exact λσ' H' F' r' s'=>⟨Pr,F',e1,r',f.mono s'⟩
 | rt o d e1=>rw[e] at f;cases o<;>exact f
 | bk e1=>rw[e] at f;exact f
 | ct e1=>rw[e] at f;exact f
 | stuck=>rw[e] at f;exact f
def uK(x a b:List Nat):List Nat:=(Txt.replace (strOf x) (strOf a) (strOf b)).cps.toList
def n6(a b:List Nat):D->Option D
 | .str x=>if x.length+(x.length+1)*b.length<=16777216/\(uK x a b).length<=sizeLine then some (.str (uK x a b)) else none
 | _=>none
theorem qz{o:Expr}{x:Ev}(a b:List Nat){sa sb:Str}{j1 j2:Nat}{p1 p2 apos cpos:Pos}(ho:PX X C o x)(ea:sa=strOf a)(eb:sb=strOf b)(hab:(sa == sb)=false)
  (hbase:attributeBase o "replace" X.env (eval o X.env)=eval o X.env:=by rfl)
  (hfew:((backTo cpos (starEach [.Constant (.str sa) j1 p1,.Constant (.str sb) j2 p2] X.env)).all (λx=>!x.1)&&(backToKw cpos (keywordEach [] X.env)).all (λx=>x.1.isSome)
   && decide (([.Constant (.str sa) j1 p1,.Constant (.str sb) j2 p2]:List Expr).length+([]:List Keyword).length+(if ([]:List Keyword).isEmpty then 0 else 1)<30))=true:=by rfl)
  (hline:(apos.endLine == cpos.line)=true:=by rfl) :
  PXp X C (.Call (.Attribute o "replace" apos) [.Constant (.str sa) j1 p1,.Constant (.str sb) j2 p2] [] cpos) (dY (n6 a b) x):=(U0 (a:=sa) (b:=sb) ho hab hbase hfew hline).imp λσ H Q hq=>by
 obtain⟨Pr,F,env,env',d,rl,e,q⟩:=hq;obtain⟨y,aH,e1,e2⟩:=aQ e;obtain⟨e3,rfl⟩:=cF e2;unfold n6 at e3;split at e3
 ·rename_i z;split at e3
  ·rename_i hz;cases e3;refine⟨Pr,F,env,env',_,rl,e1,λv H1 F1 r1 s1 p1=>⟨strOf z,p1.1,?_,q _ H1 F1 r1 s1 ?_⟩⟩
   ·rw[eb,aW,aW];exact hz.1
   ·have e5:strOf (uK z a b)=Txt.replace (strOf z) sa sb:=by rw[ea,eb];unfold uK strOf;simp
    exact⟨by rw[e5],hz.2⟩
  ·cases e3
 ·cases e3
end
end Ev
namespace L2
open PySem PySem.Spec PyProof.Rows
def PEq(X:Cx)(e:Expr)(t:TE):Prop:=
 ∀(pins:List (Addr×Obj)) (s:Shared) (σ:St) (H:Hp) (Q:VK),Inv X pins σ H s->t σ H Q->wpAny (model X.prog X.w) X.A (eval e X.env) (λv s'=>0<s'.toks/\EP X pins σ Q v s') X.xe s
def PSq(X:Cx)(st:Stmt)(t:TS):Prop:=
 ∀(pins:List (Addr×Obj)) (s:Shared) (σ:St) (H:Hp) (D:Ends),Inv X pins σ H s->t D σ H->wpAny (model X.prog X.w) X.A (exec st X.env) (λf s'=>0<s'.toks/\SP X pins D f s') X.xe s
section
variable{X:Cx}{a b e:Expr}{ta tb te:TE}{pos:Pos}{st:Stmt}{sts:List Stmt}{ts tt:TS}
theorem PEq.imp{t t':TE}(h:PEq X e t)(i:∀σ H Q,t' σ H Q->t σ H Q):PEq X e t':=λpins s σ H Q I q=>h pins s σ H Q I (i σ H Q q)
theorem PSq.imp{t t':TS}(h:PSq X st t)(i:∀D σ H,t' D σ H->t D σ H):PSq X st t':=λpins s σ H D I q=>h pins s σ H D I (i D σ H q)
theorem Yx{i j pos}:PEq X (.Constant (.int i) j pos) (tC (.int i)):=λ_ _ _ H _ I h=>wpAny_Constant_int ⟨Nat.succ_pos _,.int i,H,I.tok _,⟨_,rfl⟩,h⟩
theorem acL{r:R2}(hr:Xb X r)(ha:PE X a ta)(hb:PEq X b tb)(hs:mY b):PEq X (.Subscript a b pos) (Xr r ta tb):=by intro pins s σ H Q I h;refine Subscript_ (fK (ha pins s σ H _ I h) λv s1 ⟨x,H1,I1,r1,q1⟩=>fK (hb pins s1 σ H1 _ I1 q1) λu s2 ⟨hp,y,H2,I2,r2,q2⟩=>?_);exact Qh (hr a b pins s2 σ H2 x y v u Q I2 r1 r2 q2 (hs _ _)) hp λ_ _ p q=>⟨p,q⟩
theorem Yo{i:Nat}{x:Str}{pos':Pos}(hN:X.N.Nodup)(hi:X.N[i]? = some x)(hx:Loc X.env.scope x)(he:PEq X e te)(hs:swapsWith e (some (.Name x pos')) pos.line X.env=pure false:=by rfl)(hf:X.fn x=true\/X.env.scope.names.lookup x=some .local:=by first|exact .inl rfl|exact .inr rfl|assumption) :
  PSq X (.Assign [.Name x pos'] e pos) (Ql te (Ag i)):=by
 intro pins s σ H D I h;refine wpAny_Assign_Name (fK (he pins s σ H _ I h) λv s1 ⟨hp,y,H1,I1,r1,q1⟩=>?_) hs;exact Qh (lK (Q:=λ_ s2=>SP X pins D .next s2) I1 hN hi hx r1 (λs2 I2=>⟨_,H1,I2,q1⟩) hf) hp λ_ _ p q=>⟨p,q⟩
theorem QG(h1:PSq X st ts)(h2:JW X sts tt):Bm X (st::sts) (ab1 ts tt):=by
 intro pins s σ H D I h;refine wpAny_execs_cons (fK (h1 pins s σ H _ I h) λf s1 ⟨hp1,q⟩=>?_);cases f with
 | next=>obtain⟨σ1,H1,I1,q1⟩:=q;exact h2 pins s1 σ1 H1 D I1 hp1 q1
 | ret v=>exact q
 | brk=>exact q
 | cont=>exact q
end
end L2
namespace Ev
open PySem PySem.Spec PyProof.Rows L2
section
variable{X:Cx}{C:Cfg}{pos p:Pos}{x:Expr}{a:Ev}{px:Pos}{e y:Expr}{b:Ev}{n:Str}{es:List Expr}{r:di}
theorem X7{i:Nat}{n:Str}{k:Int}{j:Nat}{pos':Pos}(hK:X.K=C.K)(ha:PX X C x a)(hN:X.N.Nodup)(hi:X.N[i]? = some n)(hx:Loc X.env.scope n)(hfx:C.fx i=none)
  (hpl:mY (.Constant (.int k) j p):=by intro _ _;rfl) (hf:X.fn n=true\/X.env.scope.names.lookup n=some .local:=by first|exact .inl rfl|exact .inr rfl|assumption) {qp:Pos} (hs2:swapsWith (.Subscript x (.Constant (.int k) j p) qp) (some (.Name n pos')) pos.line X.env=pure false:=by rfl) :
  PSq X (.Assign [.Name n pos'] (.Subscript x (.Constant (.int k) j p) qp) pos) (tS C (bA (az je a (jR (.int k))) (au i))):=by
 have hb:PEq X (.Constant (.int k) j p) (tRd C (jR (.int k))):=Yx.imp λσ H Q h=>by
  obtain⟨Pr,F,env,env',d,r,e,q⟩:=h;cases e;exact q _ _ F r (aU.refl F) (.inl rfl)
 have h:=acL (pos:=qp) LQ ha hb hpl;rw[hK] at h;refine(Yo hN hi hx (h.imp (Be Ve)) hs2 hf).imp λD σ H h=>?_;obtain⟨Pr,F,env,r,f⟩:=h;obtain⟨d,aH,e1,f1⟩:=cW f;exact⟨Pr,F,env,aH,d,r,e1,λv H1 F1 r1 s1 p1=>f1 _ H1 F1 (r1.put hfx p1) s1⟩
theorem p_x(h:SX X C e a):PXp X C e a:=PE.p h.u
theorem p_a(h:J5 X C es r):aaq X C es r:=PA.p h.u
theorem Dh{st:Stmt}{ev:cR}(h:Ef X C st ev):aeF X C st ev:=PS.p h.u
theorem ahY{st:List Stmt}{ev:cR}(h:eQ X C st ev):PK X C st ev:=Bm.p h.u
theorem ahW{pos' qp:Pos}{k:Int}{j:Nat}(i:Nat)(G:Good X C)(ha:SX X C x a)(hnd:jk X.N=true:=by rfl)(hfx:C.fx i=none:=by rfl)(hi:X.N[i]? = some n:=by rfl)(hx:Loc X.env.scope n:=by first|exact Or.inl rfl|exact Or.inr rfl)(hpl:mY (.Constant (.int k) j p):=by intro _ _;rfl)(hs:swapsWith (.Subscript x (.Constant (.int k) j p) qp) (some (.Name n pos')) pos.line X.env=pure false:=by rfl)(hf:X.fn n=true\/X.env.scope.names.lookup n=some .local:=by first|exact .inl rfl|exact .inr rfl) :
  PSq X (.Assign [.Name n pos'] (.Subscript x (.Constant (.int k) j p) qp) pos) (tS C (bA (az je a (jR (.int k))) (au i))):=X7 G.K ha.u (fQ hnd) hi hx hfx hpl hf hs
theorem s_q{st:Stmt}{rest:List Stmt}{ea eb:cR}(h1:PSq X st (tS C ea))(h2:PK X C rest eb):eQ X C (st::rest) (aL ea eb):=⟨(QG h1 h2).imp λD σ H h=>by
 obtain⟨Pr,F,env,r,f⟩:=h;refine⟨Pr,F,env,r,?_⟩;unfold aL at f;cases e:ea env with
 | nx e1=>rw[e] at f;exact λσ' H' F' r' s'=>⟨Pr,F',e1,r',f.mono s'⟩
 | rt o d e1=>rw[e] at f;cases o<;>exact f
 | bk e1=>rw[e] at f;exact f
 | ct e1=>rw[e] at f;exact f
 | stuck=>rw[e] at f;exact f⟩
end
def agV(X:Cx)(C:Cfg)(e:Expr)(ev:Ev):Prop:=MT X e (tN C ev)
section
variable{X:Cx}{C:Cfg}{pos:Pos}{x y e:Expr}{a b:Ev}{n:Str}
theorem aaU(ha:SX X C x a)(hb:agW X C y b):agV X C (.BinOp x .Add y pos) (az o9 a b):=(acM Li (PE.p ha.u) hb).imp λσ H Q hq=>by
 obtain⟨Pr,F,env,env',d,rl,e,q⟩:=hq;obtain⟨u,aH,e1,e2⟩:=aQ e;obtain⟨v,dC,e3,e4⟩:=aQ e2;obtain⟨e5,rfl⟩:=cF e4;unfold o9 at e5;split at e5
 ·rename_i l1 l2;split at e5
  ·rename_i hz;cases e5;refine⟨Pr,F,env,aH,_,rl,e1,λvx H1 F1 r1 s1 p1=>⟨Pr,F1,aH,env',_,r1,e3,λvy H2 F2 r2 s2 p2=>?_⟩⟩;obtain⟨z1,a1,vs,rfl,h1,h2⟩:=p1;obtain⟨z2,a2,ws,rfl,h3,h4⟩:=p2.lst r2.fr;refine⟨a1,a2,vs,ws,rfl,rfl,r2.fr _ _ (s2 _ _ h1),h3,by rw[h2.length,h4.length];exact hz,λp hp=>?_⟩;exact q _ _ F2 (r2.fresh hp) (s1.trans s2) (RZ.of r2 hp ⟨by rw[Qqq];exact hz,vs++ws,bu,(cg.mono s2 _ _ h2).append h4⟩)
  ·cases e5
 ·cases e5
theorem aaT{pos':Pos}(i:Nat)(he:agV X C e a)(hnd:jk X.N=true:=by rfl)(hfx:C.fx i=none:=by rfl)(hi:X.N[i]? = some n:=by rfl)(hx:Loc X.env.scope n:=by first|exact Or.inl rfl|exact Or.inr rfl)(hs:swapsWith e (some (.Name n pos')) pos.line X.env=pure false:=by rfl)(hf:X.fn n=true\/X.env.scope.names.lookup n=some .local:=by first|exact .inl rfl|exact .inr rfl) :
  aeF X C (.Assign [.Name n pos'] e pos) (eN i a):=(Yp (fQ hnd) hi hx he hs hf).imp λD σ H h=>by
 obtain⟨Pr,F,env,r,f⟩:=h;obtain⟨d,aH,e1,f1⟩:=cW f;exact⟨Pr,F,env,aH,d,r,e1,λv H1 F1 r1 s1 p1=>f1 _ H1 F1 (r1.Lf hfx p1) s1⟩
end
open PySem PySem.Spec PyProof.Rows L2 PySem.Builtin
def Kq(x:List Nat):List Nat:=(placed (strOf x) λ_ c=>Unicode.upperOf c).toList
section
variable{X:Cx}{C:Cfg}
def rUp:V->List V->Hp->VK->Prop:=λx vs H Q=>∃z:List Nat,x = .str (strOf z)/\vs=[]/\(Kq z).length<=sizeLine/\Q (.str (strOf (Kq z))) H
theorem age:MtR X "str.upper" rUp:=by
 intro pins s σ H x vs v us Q I rx rv h;obtain⟨z,rfl,rfl,hz,q⟩:=h;obtain⟨t,rfl⟩:=rx;cases rv;have e:(⟨placed (strOf z) λ_ c=>Unicode.upperOf c⟩:Str)=strOf (Kq z):=by unfold Kq strOf;simp
 have hs:(placed (strOf z) λ_ c=>Unicode.upperOf c).size<=sizeLine:=by unfold Kq at hz;simpa using hz
 have hf:PySem.Builtin.Str.tooLong (placed (strOf z) λ_ c=>Unicode.upperOf c).size=false:=by unfold PySem.Builtin.Str.tooLong;exact Qw6 (by omega)
 refine call_gives PySem.F.slot_str_upper (Qkv s _ t) PySem.F.entry_str_upper (PySem.F.args_str_upper_1 _) (gives_str_upper _ t hf) ⟨hs,?_⟩;rw[e];exact⟨.str _,H,I.tok _,⟨_,rfl⟩,q⟩
def gUp:D->Option D
 | .str x=>if (Kq x).length<=sizeLine then some (.str (Kq x)) else none
 | _=>none
end
theorem ae8{X:Cx}{C:Cfg}{o:Expr}{a:Ev}{apos cpos:Pos}(ho:SX X C o a)(hbase:attributeBase o "upper" X.env (eval o X.env)=eval o X.env:=by rfl)(hline:(apos.endLine == cpos.line)=true:=by rfl):SX X C (.Call (.Attribute o "upper" apos) [] [] cpos) (dY gUp a):=⟨by
 refine(acU PySem.F.plainAttrs_str PySem.F.slot_str_upper PySem.F.type_str_upper age ho.u hbase hline).imp λσ H Q h=>?_;obtain⟨Pr,F,env,env',d,rl,e0,q⟩:=h;obtain⟨y,aH,e1,e2⟩:=aQ e0;obtain⟨e3,rfl⟩:=cF e2;unfold gUp at e3;split at e3
 ·rename_i z;split at e3
  ·rename_i hz;cases e3;exact⟨Pr,F,env,env',_,rl,e1,λv H1 F1 r1 s1 p1=>by
    obtain⟨rfl,_⟩:=p1;exact⟨rfl,z,rfl,rfl,hz,q _ H1 F1 r1 s1 ⟨rfl,hz⟩⟩⟩
  ·cases e3
 ·cases e3⟩
theorem iC{g:D->D->Option D}{i:Nat}{b:Ev}{env e2:Env}{x y d:D}(h1:env[i]? = some (some (false,x)))(h2:b env = .ok y e2)(h4:e2[i]? = some (some (false,x)))(h3:g x y=some d):aA g i b env = .ok d e2:=jc h1 h2 h4 h3
theorem akA{g:D->D->Option D}{i:Nat}{b:Ev}{env e2:Env}{x y d:D}(h1:env[i]? = some (some (true,x)))(h2:b env = .ok y e2)(h4:e2[i]? = some (some (true,x)))(h3:g x y=some d):aA g i b env = .ok d e2:=jc h1 h2 h4 h3
theorem Ti{i:Nat}{a:Ev}{env e:Env}{d:D}{xs:List D}(h0:env[i]? = some (some (true,.lst xs)))(h1:a env = .ok d e)(h2:e[i]? = some (some (true,.lst xs)))(hz:xs.length<sizeLine):qb i a env = .nx (e.set i (some (true,.lst (xs++[d])))):=by unfold qb;rw[h0];simp only[h1,jB,h2,if_pos hz]
theorem ajs{f:List D->Option (D×D)}{i:Nat}{a:di}{env e1:Env}{ds:List D}{x d x':D}(h0:env[i]? = some (some (true,x)))(h1:a env = .ok ds e1)(h2:e1[i]? = some (some (true,x)))(h3:f (x::ds)=some (d,x')):gB f i a env = .ok d (e1.set i (some (true,x'))):=jq h0 h1 h2 h3
theorem zz1:1<=sizeLine:=by decide
theorem zz2:2<=sizeLine:=by decide
theorem zz3:3<=sizeLine:=by decide
theorem zz4:4<=sizeLine:=by decide
theorem zz5:5<=sizeLine:=by decide
theorem zz6:6<=sizeLine:=by decide
theorem zz7:7<=sizeLine:=by decide
end Ev
abbrev OD:=Option (Bool×Ev.D)
abbrev Zf(d:Ev.D):OD:=some (false,d)
abbrev Zt(d:Ev.D):OD:=some (true,d)
abbrev Zs(w:List Nat):OD:=some (false,.str w)
abbrev Zb(b:Bool):OD:=some (false,.bl b)
abbrev Zl(l:List Ev.D):OD:=some (true,.lst l)
abbrev Zv(i:Nat)(a:Ev.di):Ev.di:=Ev.aa (Ev.aK i) a
abbrev Zi(i:Int):Ev.Ev:=Ev.jR (.int i)
abbrev Zw(w:List Nat):Ev.Ev:=Ev.jR (.str w)
abbrev LD:=List Ev.D->Option Ev.D
abbrev Zn:OD:=none
abbrev MJ:List PySem.Str:=["sounds","thing"]
abbrev WQ:List PySem.Str:=["stock","text"]
abbrev Zq2:List PySem.Str:=["_law_pack_here","_law_sounds_here"]
abbrev Zq3:List PySem.Str:=["_law_pack_here"]
abbrev Zq4:List PySem.Str:=["_law_stock_here"]
abbrev Zq5:List PySem.Str:=["_law_signs_here"]
abbrev Zq6:List PySem.Str:=["_law_sounds_here"]
abbrev Zq7:List PySem.Str:=["_law_pack_here","_law_size"]
abbrev Zq8:List PySem.Str:=["_law_stock_here","_law_text","_law_part"]
abbrev Zq9:List PySem.Str:=["_law_stock_here","_law_rule_here","_law_marks"]
abbrev aeB:List PySem.Str:=["_law_stock_here","_law_rule_here","_law_ahead","_law_behind"]
abbrev aeA:List PySem.Str:=["_law_rule_here","_law_sounds_here"]
abbrev agT:List PySem.Str:=["_law_stock_here","_law_rule_here","_law_ahead","_law_behind","_law_first","_law_second","_law_sides","_law_text","_law_sound","_law_own"]
abbrev agS:List PySem.Str:=["_law_stock_here","_law_rule_here","_law_ahead","_law_behind","_law_first","_law_second","_law_sides","_law_text","_law_sound","_law_own","_law_mark"]
abbrev agR:List PySem.Str:=["_law_script","_law_k","_law_pack_here","_law_stock_here","_law_sounds_here","_law_turn","_law_rule_here","_law_text","_law_found","_law_every","_law_ahead","_law_behind","_law_markss","_law_marks","_law_four"]
namespace mH
open Ev
section
def zY:Ev:=fj 1 2 (fV (aa (az Af (aB gJ (aa (bw 0) ak)) (Zi 1)) ak)) (au 1) cV (az gLt (aA je 0 (bw 1)) (aA je 0 (aA aP 1 (Zi 1))))
def Py:cR:=bW (aB rY (aa (zY) ak))
def rM:LD:=gV 1 Py
def Ea:cR:=bW (jd (dY (vh "tuple") (aK 0)) (az kJ (aB gJ (aa (bw 0) ak)) (Zi 2)))
def rN:LD:=gV 1 Ea
def qI:Ev:=fj 1 3 (dR (aK 0)) (eY 2 (bG (au 1) (bG (au 2) eZ))) cV (aK 1)
def JR:cR:=bW (aB fG (aa (qI) ak))
def mR:LD:=gV 1 JR
def lX:Ev:=fj 4 5 (dR (aK 1)) (au 4) cV (aA Rv 4 (bw 3))
def zX:Ev:=fj 2 4 (dR (aK 0)) (eY 2 (bG (au 2) (bG (au 3) eZ))) (fB (aB rY (aa (lX) ak))) (aK 2)
def JT:cR:=bW (aB fG (aa (zX) ak))
def qQ:LD:=gV 2 JT
def kZ:cR:=aL (gw (dO (fB (aB rN (Zv 1 ak)))) (bW (jR (.bl false))) cP) (aL (bA (aK 1) (eY 2 (bG (au 2) (bG (au 3) eZ)))) (bW (jd (aA Rv 2 (bw 0)) (jd (Jt (aA Rv 3 (bw 0)) (aA kJ 3 (Zw []))) (aA Bp 2 (bw 3))))))
def kW:LD:=gV 4 kZ
def sG:cR:=bW (jd (aB rN (Zv 1 ak)) (jd (az kJ (aA je 1 (Zi 0)) (Zw [])) (az Rv (aA je 1 (Zi 1)) (bw 0))))
def gC:LD:=gV 2 sG
def jH:Ev:=fj 2 3 (dR (aK 1)) (au 2) cV (aB kW (Zv 0 (Zv 2 ak)))
def jG:Ev:=fj 2 4 (dR (aK 1)) (eY 2 (bG (au 2) (bG (au 3) eZ))) cV (aK 2)
def nQ:cR:=aL (gw (j5 (dO (fB (dY (vh "tuple") (aK 1)))) (fB (az kJ (aB gJ (aa (bw 1) ak)) (Zi 0)))) (bW (jR (.bl false))) cP) (aL (gw (xn (fB (az kJ (aB gJ (aa (bw 1) ak)) (Zi 1))) (fB (aB gC (Zv 0 (aa (aA je 1 (Zi 0)) ak))))) (bW (jR (.bl true))) cP) (bW (jd (aB rY (aa (jH) ak)) (aB rM (aa (jG) ak)))))
def nJ:LD:=gV 2 nQ
def qK:Ev:=fj 2 3 (dR (aK 1)) (au 2) cV (Jt (aA kJ 2 (Zw [35])) (aA Rv 2 (bw 0)))
def xX:cR:=aL (gw (fB (aA gIs 1 (jR .non))) (bW (jR (.bl true))) cP) (aL (gw (j5 (dO (fB (dY (vh "tuple") (aK 1)))) (fB (az kJ (aB gJ (aa (bw 1) ak)) (Zi 0)))) (bW (jR (.bl false))) cP) (bW (jd (aB rY (aa (qK) ak)) (aB rM (Zv 1 ak)))))
def mU:LD:=gV 2 xX
def DY:cR:=aL (gw (j5 (dO (fB (dY (vh "tuple") (aK 1)))) (fB (az Bp (aB gJ (aa (bw 1) ak)) (Zi 4)))) (bW (jR (.bl false))) cP) (aL (bA (aK 1) (eY 4 (bG (au 2) (bG (au 3) (bG (au 4) (bG (au 5) eZ)))))) (aL (bA (aB mR (Zv 0 ak)) (au 6)) (bW (jd (aA Rv 2 (jR (.tup [(.str [111,110,99,101]),(.str [97,108,111,110,103])]))) (jd (aB nJ (Zv 6 (Zv 3 ak))) (jd (aB mU (Zv 6 (Zv 4 ak))) (aB mU (Zv 6 (Zv 5 ak)))))))))
def lJ:LD:=gV 7 DY
def JV:cR:=gw (dO (fB (dY (vh "str") (aK 0)))) (Es) cP
def qR:LD:=gV 1 JV
def GJ:cR:=gw (dO (fB (dY (vh "str") (aK 0)))) (p8 (jR .non)) cP
def xA:LD:=Qx 1 GJ
def GK:cR:=bW (Mj (fB (aA kJ 0 (Zw []))) (Zw [48]) (aK 0))
def il:LD:=gV 1 GK
def GP:cR:=bW (Mj (fB (aA gIs 0 (jR .non))) (Zw [42]) (az uc (Zw []) (bw 0)))
def lB:LD:=gV 1 GP
def qJ:Ev:=fj 6 8 (dR (aK 2)) (eY 2 (bG (au 6) (bG (au 7) eZ))) cV (Ju [62] (aB il (Zv 6 ak)) (aB il (Zv 7 ak)))
def xV:cR:=aL (bA (aK 0) (eY 4 (bG (au 1) (bG (au 2) (bG (au 3) (bG (au 4) eZ)))))) (aL (eN 5 (qJ)) (bW (az jo (Zw [32]) (az aP (az aP (bM (Zv 1 ak)) (bw 5)) (bM (aa (Zw [47]) (aa (aB lB (Zv 3 ak)) (aa (Zw [95]) (aa (aB lB (Zv 4 ak)) ak)))))))))
def fZ:LD:=gV 6 xV
def vD:cR:=aL (gw (fB (aA kJ 0 (Zw []))) (bW (jR .non)) cP) (bW (Mj (fB (aA kJ 0 (Zw [48]))) (Zw []) (aK 0)))
def lC:LD:=gV 1 vD
def pB:cR:=aL (gw (fB (aA kJ 1 (Zw [42]))) (bW (jR .non)) cP) (aL (gw (j5 (dO (fB (az rK (aK 1) (Zw [91])))) (dO (fB (az Dw (aK 1) (Zw [93]))))) (bW (aB Ov (aa (bw 1) ak))) cP) (bW (aB qQ (Zv 0 (aa (az gk (iZ (aK 1) (pR (Zi 1)) (pR (dY ad8 (Zi 1)))) (Zw [32])) ak)))))
def ir:LD:=gV 2 pB
def pI:Ev:=fj 8 9 (dR (az gk (aK 7) (Zw [62]))) (au 8) cV (aB lC (Zv 8 ak))
def yD:Ev:=fj 7 8 (dR (iZ (aK 2) (pR (Zi 1)) (pR (aK 3)))) (au 7) cV (aB fG (aa (pI) ak))
def pC:cR:=aL (bA (az gk (aK 1) (Zw [32])) (au 2)) (aL (gw (j5 (fB (az o8 (Zw [47]) (bw 2))) (fB (az o8 (Zw [95]) (bw 2)))) (bW (jR .non)) cP) (aL (bA (az vf (aK 2) (Zw [47])) (au 3)) (aL (bA (az vf (aK 2) (Zw [95])) (au 4)) (aL (bA (aB fG (aa (yD) ak)) (au 5)) (aL (bA (aB ir (Zv 0 (aa (az jo (Zw [32]) (iZ (aK 2) (pR (aA aP 3 (Zi 1))) (pR (aK 4)))) ak))) (au 6)) (bW (cG (aa (aA je 2 (Zi 0)) (Zv 5 (Zv 6 (aa (aB ir (Zv 0 (aa (az jo (Zw [32]) (iZ (aK 2) (pR (aA aP 4 (Zi 1))) lr)) ak))) ak)))))))))))
def gm:LD:=gV 7 pC
def qX:cR:=aL (Et (aB qR (Zv 1 ak))) (aL (bA (aB gm (Zv 0 (Zv 1 ak))) (au 2)) (aL (gw (dO (fB (aB lJ (Zv 0 (Zv 2 ak))))) (Es) cP) (bW (aK 2))))
def eG:LD:=gV 3 qX
def jt:cR:=aL (Tj (rO xA (Zv 1 ak)) (Et (aB qR (Zv 1 ak)))) (aL (bA (aB gm (Zv 0 (Zv 1 ak))) (au 2)) (aL (gw (dO (fB (aB lJ (Zv 0 (Zv 2 ak))))) (p8 (Zi 0)) cP) (bW (aK 2))))
def fY:LD:=Qx 3 jt
def mW:cR:=bW (az Rr (aA n8 0 (Zi 262406895267124108351839057402211873468251940277165213587343)) (az Mh (Zi 10) (Zi 60)))
def gZ:LD:=gV 1 mW
def BZ:cR:=bA (az aP (aA n8 2 (az Mh (Zi 10) (Zi 60))) (aB gZ (aa (az je (az aP (Ce (aK 0) (pR (aK 3)) (pR (aA aP 3 (Zi 1)))) (bM (aa (az aP (az n8 (Zi 7919) (bw 3)) (Zi 61)) ak))) (Zi 0)) ak))) (au 2)
def jL:cR:=aL (bA (Zi 0) (au 2)) (aL (gA (dR (bM (aa (aA aP 1 (Zi 1)) (Zv 1 ak)))) (au 3) (BZ)) (zb (bM (Zv 2 ak))))
def jJ:LD:=runN 4 jL
def mq:cR:=aL (bA (aB vm (aa (aA je 0 (Zi 0)) (aa (bw 1) ak))) (eY 2 (bG (VR 0 (Zi 0)) (bG (au 2) eZ)))) (bW (aK 2))
def bJ:List D->Option (D×D):=mL 3 mq
def pQ:Ev:=fj 4 5 (fV (aa (az aP (Zi 1) (gB bJ 0 (aa (Zi 4) ak))) ak)) (au 4) cV (aA je 1 (az Rr (aA aP 2 (aA n8 3 (bw 4))) (Zi 26)))
def my:cR:=aL (bA (Zw [97,98,99,100,101,102,103,104,105,106,107,108,109,110,111,112,113,114,115,116,117,118,119,120,121,122]) (au 1)) (aL (bA (cG (aa (gB bJ 0 (aa (Zi 26) ak)) (aa (az aP (Zi 1) (gB bJ 0 (aa (Zi 25) ak))) ak))) (eY 2 (bG (au 2) (bG (au 3) eZ)))) (bW (az jo (Zw []) (dY qO (pQ)))))
def iV:List D->Option (D×D):=mL 4 my
def zZ:Ev:=fj 7 8 (fV (aa (Zi 5) ak)) (au 7) (fB (az kJ (az Jp (aA Gi 5 (bw 7)) (Zi 1)) (Zi 1))) (aA je 2 (bw 7))
def qL:cR:=aL (bA (gB bJ 0 (aa (Zi 32) ak)) (au 5)) (aL (bA (aB iM (aa (zZ) ak)) (au 6)) (qb 3 (cG (Zv 4 (aa (aB fG (aa (Ce (aK 6) lr (pR (Zi 4))) ak)) ak)))))
def xW:cR:=aL (bA (gB iV 0 ak) (au 1)) (aL (bA (bM (aa (Zw [115,116,111,112]) (aa (Zw [115,116,111,112,115]) (aa (Zw [115]) (aa (Zw [111,112,101,110]) (aa (Zw [97,98,99,100,101,102,103,104]) ak)))))) (au 2)) (aL (eN 3 (bM ak)) (aL (gA (dR (aK 1)) (au 4) (qL)) (bW (aB fG (aa (bw 3) ak))))))
def qT:List D->Option (D×D):=mL 7 xW
def yE:Ev:=mH.qI
def GQ:cR:=bW (az jo (Zw []) (yE))
def pg:LD:=gV 1 GQ
def z6:Ev:=fj 4 5 (fV (aa (aB gJ (aa (bw 3) ak)) ak)) (au 4) (fB (az kJ (az Jp (aA Gi 2 (bw 4)) (Zi 1)) (Zi 1))) (aA je 3 (bw 4))
def j7:cR:=aL (gw (fB (az kJ (gB bJ 0 (aa (Zi 2) ak)) (Zi 0))) (bW (jR .non)) cP) (aL (bA (az aP (Zi 1) (gB bJ 0 (aa (az Af (az Rq (Zi 2) (aB gJ (aa (bw 1) ak))) (Zi 1)) ak))) (au 2)) (aL (bA (az aP (Zw [35]) (bw 1)) (au 3)) (bW (aB fG (aa (z6) ak)))))
def gb:List D->Option (D×D):=mL 4 j7
def wZ:Ev:=fj 6 7 (dR (az aP (aB Dv (aa (bw 1) ak)) (bM (aa (Zw []) ak)))) (au 6) (fB (aA Bp 6 (bw 4))) (aK 6)
def xf:cR:=aL (bA (aA je 1 (gB bJ 0 (aa (aB gJ (aa (bw 1) ak)) ak))) (au 4)) (aL (eN 5 (wZ)) (sZ 2 (aK 4) (aA je 5 (gB bJ 0 (aa (aB gJ (aa (bw 5) ak)) ak)))))
def wY:Ev:=fj 6 7 (dR (aB iM (aa (bw 2) ak))) (au 6) cV (cG (Zv 6 (aa (aA lg 2 (bw 6)) ak)))
def iI:cR:=aL (gw (fB (az kJ (gB bJ 0 (aa (Zi 5) ak)) (Zi 0))) (bW (cG (aa (cG (aa (Zw []) (aa (aA je 1 (gB bJ 0 (aa (aB gJ (aa (bw 1) ak)) ak))) ak))) ak))) cP) (aL (eN 2 (Al)) (aL (gA (fV (aa (az aP (Zi 1) (gB bJ 0 (aa (Zi 3) ak))) ak)) (au 3) (xf)) (bW (aB fG (aa (wY) ak)))))
def gF:List D->Option (D×D):=mL 6 iI
def Bf:cR:=aL (bA (az je (bM (aa (Zw [111,110,99,101]) (aa (Zw [97,108,111,110,103]) ak))) (gB bJ 0 (aa (Zi 2) ak))) (au 2)) (aL (bA (gB gF 0 (Zv 1 ak)) (au 3)) (bW (cG (Zv 2 (Zv 3 (aa (gB gb 0 (Zv 1 ak)) (aa (gB gb 0 (Zv 1 ak)) ak)))))))
def ug:List D->Option (D×D):=mL 4 Bf
def oE:cR:=aL (gw (fB (aA gIs 0 (jR .non))) (bW (Zw [42])) cP) (bW (az uc (Zw []) (bw 0)))
def dB:LD:=gV 1 oE
def du:cR:=bA (az aP (az aP (az aP (aA aP 5 (Zw [32])) (az je (aA aP 6 (Zw [48])) (Zi 0))) (Zw [62])) (az je (aA aP 7 (Zw [48])) (Zi 0))) (au 5)
def pJ:cR:=aL (bA (aK 0) (eY 4 (bG (au 1) (bG (au 2) (bG (au 3) (bG (au 4) eZ)))))) (aL (bA (aK 1) (au 5)) (aL (gA (dR (aK 2)) (eY 2 (bG (au 6) (bG (au 7) eZ))) (du)) (bW (az aP (az aP (az aP (aA aP 5 (Zw [32,47,32])) (aB dB (Zv 3 ak))) (Zw [32,95,32])) (aB dB (Zv 4 ak))))))
def cU:LD:=gV 8 pJ
def Mw:cR:=aL (bA (bM (aa (dY (vg (Sd "NoText" true)) (aK 0)) (aa (dY (vg (Sd "NoText" false)) (aK 0)) (aa (dY (vg (Sd "NoText" false)) (aK 0)) (aa (dY (vg (Sd "NoText" false)) (aK 0)) ak))))) (au 1)) (aL (bA (aA aP 1 (bM (aa (dY (vg (Sd "NoText" false)) (aK 0)) (aa (dY (vg (Sd "NoText" false)) (aK 0)) (aa (dY (vg (Sd "NoText" false)) (aK 0)) ak))))) (au 1)) (aL (gw (j5 (dO (fB (dY (vg (Sd "NoText" true)) (aK 0)))) (fB (az Bp (aB Ow (aa (bw 1) ak)) (Zi 1)))) (bW (jR .non)) cP) (bW (az Ah (aK 1) (jR (.bl true))))))
def uf:LD:=gV 2 Mw
def nO:cR:=aL (bA (jR .non) (au 3)) (aL (Hy (Et (aB eG (Zv 0 (Zv 1 ak)))) (rO fY (Zv 0 (Zv 1 ak))) 3 4 "NoText" "part") (bW (jd (aA Ai 3 (jR .non)) (jd (az kJ (aB uf (Zv 3 ak)) (Zi 0)) (jd (az kJ (dY (Jo "NoText" "part") (aK 3)) (bw 2)) (abk (dY (vh "bool") (dY (Jo "NoText" "part") (aK 3)))))))))
def cJ:LD:=gV 5 nO
def j0:Ev:=fj 10 11 (dR (aK 2)) (au 10) cV (aA Rv 10 (bw 9))
def jZ:Ev:=fj 8 10 (dR (aK 0)) (eY 2 (bG (au 8) (bG (au 9) eZ))) (fB (aB rY (aa (j0) ak))) (aK 8)
def jY:Ev:=fj 8 9 (dR (iZ (aK 1) (pR (Zi 2)) lr)) (au 8) cV (aB dB (Zv 8 ak))
def gY:cR:=aL (eN 6 (jY)) (aL (bA (aK 4) (VR 6 (aA Af 5 (Zi 2)))) (aL (bA (az aP (az aP (az je (az gk (aB cU (Zv 1 ak)) (Zw [32,47,32])) (Zi 0)) (Zw [32,47,32])) (az jo (Zw [32,95,32]) (bw 6))) (au 7)) (gw (fB (aA kJ 3 (cG ak))) (gw (dO (fB (aB cJ (Zv 0 (Zv 7 (aa (Zi 0) ak)))))) (bW (jR (.bl false))) cP) (gw (fB (az Bp (aB eG (Zv 0 (Zv 7 ak))) (az aP (az aP (iZ (aK 1) lr (pR (aK 5))) (cG (Zv 3 ak))) (iZ (aK 1) (pR (aA aP 5 (Zi 1))) lr)))) (bW (jR (.bl false))) cP))))
def ju:cR:=aL (bA (aB fG (aa (jZ) ak)) (au 3)) (aL (bA (az aP (az aP (Zw [91]) (az jo (Zw [32]) (bw 2))) (Zw [93])) (au 4)) (aL (gA (dR (bM (aa (Zi 2) (aa (Zi 3) ak)))) (au 5) (gY)) (bW (jR (.bl true)))))
def gP:LD:=gV 8 ju
def J1:Ev:=mH.j0
def rT:Ev:=mH.jZ
def rR:Ev:=fj 10 11 (dR (aK 3)) (au 10) cV (aA Rv 10 (bw 9))
def rQ:Ev:=fj 8 10 (dR (aK 0)) (eY 2 (bG (au 8) (bG (au 9) eZ))) (fB (aB rY (aa (rR) ak))) (aK 8)
def jM:cR:=aL (bA (aB fG (aa (rT) ak)) (au 4)) (aL (bA (aB fG (aa (rQ) ak)) (au 5)) (aL (bA (az aP (az aP (az aP (az aP (Zw [91]) (az jo (Zw [32]) (bw 2))) (Zw [93,32,95,32,91])) (az jo (Zw [32]) (bw 3))) (Zw [93])) (au 6)) (aL (bA (az aP (az aP (az je (az gk (aB cU (Zv 1 ak)) (Zw [32,47,32])) (Zi 0)) (Zw [32,47,32])) (bw 6)) (au 7)) (aL (gw (j5 (fB (aA kJ 4 (cG ak))) (fB (aA kJ 5 (cG ak)))) (bW (aB cJ (Zv 0 (Zv 7 (aa (Zi 0) ak))))) cP) (bW (az kJ (aB eG (Zv 0 (Zv 7 ak))) (az aP (iZ (aK 1) lr (pR (Zi 2))) (cG (Zv 4 (Zv 5 ak))))))))))
def fU:LD:=gV 8 jM
def uV:Ev:=fj 1 2 (dR (Zw [113,118,109,101,104,97,98,99,100,102,103])) (au 1) (fB (aA o8 1 (bw 0))) (aK 1)
def RN:cR:=bW (az je (uV) (Zi 0))
def oh:LD:=gV 1 RN
def gj:cR:=qb 6 (aA aP 8 (Zw [32,47,32,42,32,95,32,42]))
def dz:cR:=qb 6 (az aP (az aP (Zw [111,110,99,101,32]) (bw 8)) (Zw [32,47,32,42,32,95,32,42]))
def dw:cR:=eN 6 (az o9 (aK 6) (bM (aa (az aP (az aP (az aP (az aP (Zw [111,110,99,101,32]) (bw 2)) (Zw [62,48,32,47,32])) (bw 8)) (Zw [32,95,32,42])) (aa (az aP (az aP (az aP (Zw [111,110,99,101,32]) (bw 2)) (Zw [62,48,32,47,32,42,32,95,32])) (bw 8)) ak))))
def pK:cR:=aL (bA (cG (aa (aA je 1 (Zi 0)) (aa (aB oh (Zv 1 ak)) ak))) (eY 2 (bG (au 2) (bG (au 3) eZ)))) (aL (bA (aB cU (Zv 0 ak)) (au 4)) (aL (bA (az je (az gk (aK 4) (Zw [32,47,32])) (Zi 0)) (au 5)) (aL (eN 6 (bM (aa (Zw []) (aa (Zw [32]) (Zv 5 (aa (aA aP 5 (Zw [32,47])) (aa (aA aP 5 (Zw [32,47,32,42])) (aa (aA aP 5 (Zw [32,47,32,42,32,95])) (aa (aA aP 5 (Zw [32,47,32,95,32,42])) (aa (aA aP 5 (Zw [32,47,32,42,32,95,32,42,32])) ak)))))))))) (aL (eN 6 (az o9 (aK 6) (bM (aa (aA aP 5 (Zw [32,42,32,95,32,42])) ak)))) (aL (eN 6 (az o9 (aK 6) (bM (aa (az aP (Zw [32]) (bw 4)) (aa (aA aP 4 (Zw [32])) (aa (dY gUp (aK 4)) (aa (dY (n6 [32,47,32] [47]) (aK 4)) (aa (dY (n6 [32,95,32] [95]) (aK 4)) ak)))))))) (aL (eN 6 (az o9 (aK 6) (bM (aa (aA aP 4 (Zw [10])) ak)))) (aL (eN 6 (az o9 (aK 6) (bM (aa (dY (n6 [32,47,32] [32,47,47,32]) (aK 4)) (aa (dY (n6 [32,47,32] [32,32,47,32]) (aK 4)) (aa (dY (n6 [32,95,32] [32,32,95,32]) (aK 4)) ak)))))) (aL (eN 6 (az o9 (aK 6) (bM (aa (az aP (Zw [98,111,116,104]) (iZ (aK 4) (pR (Zi 4)) lr)) ak)))) (aL (bA (bM (aa (Zw [111,110,99,101]) (aa (Zw [111,110,99,101,32]) (aa (az aP (Zw [111,110,99,101,32]) (bw 2)) (aa (az aP (az aP (Zw [111,110,99,101,32]) (bw 2)) (Zw [62])) (aa (az aP (Zw [111,110,99,101,32,62]) (bw 2)) (aa (Zw [111,110,99,101,32,48,62,48]) ak))))))) (au 7)) (aL (bA (aA aP 7 (bM (aa (az aP (az aP (az aP (Zw [111,110,99,101,32]) (bw 2)) (Zw [62])) (bw 2)) ak))) (au 7)) (aL (gA (dR (aK 7)) (au 8) (gj)) (aL (bA (bM (aa (az aP (aA aP 2 (Zw [62])) (bw 3)) (aa (az aP (aA aP 3 (Zw [62])) (bw 2)) (aa (aA aP 2 (Zw [45,62,48])) (aa (aA aP 2 (Zw [62,62,48])) (aa (aA aP 2 (Zw [62,35])) (aa (az aP (Zw [35,62]) (bw 2)) ak))))))) (au 7)) (aL (bA (aA aP 7 (bM (aa (az aP (az aP (aA aP 2 (Zw [62,48,32])) (bw 2)) (Zw [62,48])) ak))) (au 7)) (aL (bA (aA aP 7 (bM (aa (aA aP 2 (Zw [32,62,48])) ak))) (au 7)) (aL (gA (dR (aK 7)) (au 8) (dz)) (aL (bA (bM (aa (az aP (az aP (az aP (az aP (Zw [48,62]) (bw 2)) (Zw [32])) (bw 2)) (Zw [62,48])) (aa (az aP (aA aP 2 (Zw [62,48,32,48,62])) (bw 2)) (aa (aA aP 2 (Zw [62,48,32,32])) (aa (aA aP 2 (Zw [62,48,48])) (aa (az aP (az aP (Zw [48]) (bw 2)) (Zw [62,48])) ak)))))) (au 7)) (aL (bA (aA aP 7 (bM (aa (aA aP 2 (Zw [62,48,44])) ak))) (au 7)) (aL (gA (dR (aK 7)) (au 8) (dz)) (aL (bA (bM (aa (Zw []) (aa (Zw [42,42]) (aa (az aP (Zw [42]) (bw 2)) (aa (aA aP 2 (bw 2)) (aa (aA aP 2 (Zw [35])) (aa (Zw [35,35]) (Zv 3 (aa (Zw [48]) (aa (Zw [91,93]) (aa (Zw [91]) (aa (Zw [93]) (aa (Zw [91,32,93]) (aa (Zw [91,115,116,111,112]) (aa (Zw [115,116,111,112,93]) ak))))))))))))))) (au 7)) (aL (bA (aA aP 7 (bM (aa (Zw [91,83,116,111,112,93]) ak))) (au 7)) (aL (gA (dR (aK 7)) (au 8) (dw)) (aL (bA (bM (aa (az aP (Zw [91,115,116,111,112,93]) (bw 2)) (aa (aA aP 2 (Zw [91,115,116,111,112,93])) (aa (Zw [35,91,115,116,111,112,93]) (aa (Zw [91,115,116,111,112,32,93]) (aa (Zw [91,32,115,116,111,112,93]) (aa (Zw [91,115,116,111,112,32,32,111,112,101,110,93]) (aa (Zw [91,110,111,115,117,99,104,93]) ak)))))))) (au 7)) (aL (bA (aA aP 7 (bM (aa (Zw [91,97,49,93]) (aa (Zw [91,115,116,111,112,44,111,112,101,110,93]) ak)))) (au 7)) (aL (gA (dR (aK 7)) (au 8) (dw)) (bW (aK 6))))))))))))))))))))))))))
def kO:LD:=gV 9 pK
def uX:cR:=gw (dO (fB (aB fU (Zv 3 (Zv 6 (Zv 10 (Zv 11 ak))))))) (bW (jR (.bl false))) cP
def z8:cR:=gw (dO (fB (aB gP (Zv 3 (Zv 6 (Zv 13 ak)))))) (bW (jR (.bl false))) cP
def z7:cR:=aL (bA (gB ug 2 (Zv 4 ak)) (au 6)) (aL (bA (aB cU (Zv 6 ak)) (au 7)) (aL (bA (aB eG (Zv 3 (Zv 7 ak))) (au 8)) (aL (gw (j5 (fB (az Bp (aB fZ (Zv 6 ak)) (bw 7))) (j5 (fB (aA Bp 8 (bw 6))) (dO (fB (dY (vh "tuple") (aK 8)))))) (bW (jR (.bl false))) cP) (aL (gw (fB (az Ai (aB lJ (Zv 3 (Zv 8 ak))) (jR (.bl true)))) (bW (jR (.bl false))) cP) (aL (bA (bM (aa (Zw [115]) (aa (Zw [115,116,111,112]) (aa (Zw [111,112,101,110]) (aa (Zw [115,116,111,112,115]) (aa (Zw [97,98,99,100,101,102,103,104]) ak)))))) (au 9)) (aL (gA (dR (bM (aa (cG (aa (bM (aa (Zw [115,116,111,112]) ak)) (aa (bM (aa (Zw [115]) ak)) ak))) (aa (cG (aa (bM (aa (Zw [111,112,101,110]) ak)) (aa (bM (aa (Zw [115,116,111,112,115]) ak)) ak))) ak)))) (eY 2 (bG (au 10) (bG (au 11) eZ))) (uX)) (aL (bA (bM (aa (bM (aa (Zw [115,116,111,112]) ak)) (aa (bM (aa (Zw [115]) (aa (Zw [115,116,111,112]) ak))) (aa (bM (aa (Zw [111,112,101,110]) ak)) (aa (bM (aa (Zw [115,116,111,112,115]) (aa (Zw [111,112,101,110]) (aa (Zw [115]) ak)))) (aa (bM (aa (Zw [110,111,115,117,99,104]) ak)) ak)))))) (au 12)) (aL (bA (aA aP 12 (bM (aa (bM (aa (Zw [115,116,111,112]) (aa (Zw [115,116,111,112]) ak))) (aa (bM (aa (Zw [97,98,99,100,101,102,103,104]) ak)) (Zv 9 ak))))) (au 12)) (gA (dR (aK 12)) (au 13) (z8))))))))))
def Jc:Ev:=fj 15 16 (dR (aB kO (Zv 6 (Zv 4 ak)))) (au 15) cV (aB cJ (Zv 3 (Zv 15 (aa (Zi 0) ak))))
def uW:cR:=aL (eN 2 (aB jJ (Zv 0 (Zv 1 ak)))) (aL (bA (gB qT 2 ak) (au 3)) (aL (bA (aB pg (Zv 3 ak)) (au 4)) (aL (gA (fV (aa (Zi 3) ak)) (au 5) (z7)) (gw (dO (fB (aB rY (aa (Jc) ak)))) (bW (jR (.bl false))) cP))))
def Jb:Ev:=fj 15 16 (dR (bM (aa (jR .non) (aa (Zi 7) (aa (jR (.bl true)) (aa (cG ak) (aa (bM (aa (Zw [111,110,99,101,32,97,62,48,32,47,32,42,32,95,32,42]) ak)) (aa (Al) ak)))))))) (au 15) cV (aB cJ (aa (cG (aa (cG (aa (Zw [97]) (aa (cG ak) ak))) ak)) (Zv 15 (aa (jR .non) ak))))
def abp:cR:=aL (gA (fV (aa (Zi 0) (aa (aB Ru (aa (Zi 1) (aa (aB Rt (aa (aB gJ (aa (bw 0) ak)) (aa (Zi 16) ak))) ak))) (aa (Zi 2) ak)))) (au 1) (uW)) (aL (bA (cG (aa (cG (aa (Zw [97]) (aa (cG ak) ak))) (aa (cG (aa (Zw [98]) (aa (cG ak) ak))) (aa (cG (aa (Zw [99]) (aa (cG ak) ak))) (aa (cG (aa (Zw [100]) (aa (cG ak) ak))) ak))))) (au 14)) (aL (bA (cG (aa (Zw [97,108,111,110,103]) (aa (cG (aa (cG (aa (Zw [97]) (aa (Zw [98]) ak))) (aa (cG (aa (Zw [98]) (aa (Zw []) ak))) (aa (cG (aa (Zw [99]) (aa (Zw [100]) ak))) (aa (cG (aa (Zw [100]) (aa (Zw [97]) ak))) ak))))) (aa (cG (aa (Zw [35]) (aa (Zw [97]) ak))) (aa (jR .non) ak))))) (au 6)) (aL (gw (j5 (fB (az Bp (aB fZ (Zv 6 ak)) (Zw [97,108,111,110,103,32,97,62,98,32,98,62,48,32,99,62,100,32,100,62,97,32,47,32,35,97,32,95,32,42]))) (fB (az Bp (aB eG (Zv 14 (aa (aB fZ (Zv 6 ak)) ak))) (bw 6)))) (bW (jR (.bl false))) cP) (bW (aB rY (aa (Jb) ak))))))
def O4:LD:=gV 15 abp
end
open PySem PySem.Spec PyProof.Rows L2 Ev
def top(i:Nat):Stmt:=PySem.Challenge.pw_soundrules_k73_rules_written.main.body.getD i (.Pass ⟨0,0,0,0⟩)
abbrev Fp:Stmt:=top 11
abbrev wH:Stmt:=top 12
abbrev qe:Stmt:=top 13
abbrev qg:Stmt:=top 14
abbrev kE:Stmt:=top 17
abbrev nq:Stmt:=top 18
abbrev nC:Stmt:=top 19
abbrev qx:Stmt:=top 20
abbrev wG:Stmt:=top 21
abbrev ql:Stmt:=top 25
abbrev oM:Stmt:=top 26
abbrev oN:Stmt:=top 27
abbrev qi:Stmt:=top 28
abbrev oO:Stmt:=top 29
abbrev oR:Stmt:=top 30
abbrev oU:Stmt:=top 31
abbrev qj:Stmt:=top 32
abbrev qu:Stmt:=top 34
abbrev tM:Stmt:=top 35
abbrev tD:Stmt:=top 36
abbrev iT:Stmt:=top 37
abbrev qm:Stmt:=top 38
abbrev oW:Stmt:=top 39
abbrev qt:Stmt:=top 40
abbrev nA:Stmt:=top 41
abbrev tK:Stmt:=top 42
abbrev jC:Stmt:=top 43
abbrev kj:Stmt:=top 44
abbrev tH:Stmt:=top 45
abbrev nu:Stmt:=top 46
abbrev jg:Stmt:=top 47
abbrev jD:Stmt:=top 48
abbrev wF:Stmt:=top 49
abbrev km:Stmt:=top 50
abbrev T3:Stmt:=top 51
abbrev qw:Stmt:=inClass (top 6) 0
theorem XJ:bH ["self","part"] ["self","part"] (aO qw):=gR
structure Top(K:Fg)(mg:Str->Option Value):Prop where
 BX:mg "ValueError" = none
 oY:mg "all" = none
 Y6:mg "bool" = none
 Q9:mg "divmod" = none
 cu:mg "isinstance" = none
 kI:mg "len" = none
 Y5:mg "list" = none
 adE:mg "max" = none
 adD:mg "min" = none
 lV:mg "range" = none
 adC:mg "set" = none
 wV:mg "sorted" = none
 Vl:mg "str" = none
 adB:mg "sum" = none
 dF:mg "tuple" = none
 qM:∀d:D,PySem.W.kitOne K (.type (S7 d)) (.type "bool")=some (qN d "bool")
 rH:∀d:D,PySem.W.kitOne K (.type (S7 d)) (.type "str")=some (qN d "str")
 ik:∀d:D,PySem.W.kitOne K (.type (S7 d)) (.type "tuple")=some (qN d "tuple")
 Cv:XK1 K mg "NoText" "part" (W5 K "NoText")
 pt:MN K "NoText" "part"
 Cj:Below K mg "SoundError" "NoText" (W5 K "NoText")
 Rm:vN K mg "NoText" "NoCall" false
 Rk:vN K mg "NoText" "NoKept" false
 Jj:vN K mg "NoText" "NoNumber" false
 Rj:vN K mg "NoText" "NoSide" false
 Ji:vN K mg "NoText" "NoSource" false
 Ri:vN K mg "NoText" "NoText" true
 LR:vN K mg "NoText" "TooMany" false
 Ca:aeK K "NoText" "ValueError" true
 eF:Glb K mg "ALL_FITS" (.str [42])
 u5:Glb K mg "EDGE" (.str [35])
 eE:Glb K mg "NO_SOUND" (.str [48])
 lA:Glb K mg "WAYS" (.tup [(.str [111,110,99,101]),(.str [97,108,111,110,103])])
 Xq:cX K mg "rises" Fp ["things"]
 Qk:cX K mg "is_pair" wH ["thing"]
 Hn:cX K mg "sounds_of" qe ["stock"]
 Ho:cX K mg "sounds_by" qg ["stock","marks"]
 yu:cX K mg "changes_sound" kE MJ
 Bq:cX K mg "puts_one_in" nq MJ
 Bu:cX K mg "are_changes" nC MJ
 Hu:cX K mg "are_signs" qx MJ
 Qj:cX K mg "is_rule" wG ["stock","thing"]
 xG:cX K mg "need_text" ql ["thing"]
 Ei:cX K mg "show_sound" oM ["sound"]
 Ej:cX K mg "show_signs" oN ["signs"]
 Hq:cX K mg "show_rule" qi ["rule"]
 Ek:cX K mg "read_sound" oO ["text"]
 El:cX K mg "read_signs" oR WQ
 Em:cX K mg "read_parts" oU WQ
 xF:cX K mg "read_rule" qj WQ
 Ht:cX K mg "_law_mixed" qu ["_law_cell"]
 KJ:cX K mg "_law_pack" tM ["_law_script","_law_k"]
 KC:cX K mg "_law_take" tD Zq7
 sX:cX K mg "_law_drawn_sounds" iT Zq3
 Hr:cX K mg "_law_stock" qm Zq3
 Ep:cX K mg "_law_sounds" oW Zq4
 Hs:cX K mg "_law_signs" qt Zq2
 Bt:cX K mg "_law_changes" nA Zq2
 KH:cX K mg "_law_rule" tK Zq2
 v9:cX K mg "_law_signs_text" jC Zq5
 yr:cX K mg "_law_rule_text" kj ["_law_rule_here"]
 KD:cX K mg "_law_sort" tH ["_law_e"]
 Br:cX K mg "_law_refused" nu Zq8
 uB:cX K mg "_law_marks_right" jg Zq9
 wg:cX K mg "_law_both_right" jD aeB
 Qi:cX K mg "_law_out" wF Zq6
 yt:cX K mg "_law_odd_rules" km aeA
section
variable{P:Program}{w:World}{K:Fg}{mg:Str->Option Value}{base:Heap}(Z:Top K mg)
theorem TX:bH ["things"] ["things"] (aO Fp):=gR
include Z in
theorem NZ:Own P w K mg base "rises" 1 ["things"] (pH K 1 rM):=by exact cC (k:=0) Z.Xq TX (λf cdv A outer s H E hr G=>(eQ.u (aG (aX (oJ G Z.oY (bC (aF (bf (gW ["things","at"] 1 dG G (rJ Z.lV (aj (bj WD (kh G Z.kI (bC (bN 0))) (aF aV)) ao) (bU len0)) (λX1 h1=>by have G:=G.at h1;obtain⟨_,_,_,_,_,rfl⟩:=h1;exact(aZ 1)) (λX1 h1=>by have G:=G.at h1;obtain⟨_,_,_,_,_,rfl⟩:=h1;exact cO) (λX1 h1=>by have G:=G.at h1;obtain⟨_,_,_,_,_,rfl⟩:=h1;exact(sV aiF (jf 0 G (bN 1)) (aF (jf 0 G (aF (bL 1 (aY G) (aF aV))))))))))))))))
theorem K7:bH ["thing"] ["thing"] (aO wH):=gR
include Z in
theorem Dj:Own P w K mg base "is_pair" 1 ["thing"] (pH K 1 rN):=by exact cC (k:=0) Z.Qk K7 (λf cdv A outer s H E hr G=>(eQ.u (aG (aX (ig (mQ (T:="tuple") rfl Z.cu rfl Z.dF (by decide +kernel) Z.ik G.K (aR 0)) (lz (sV (nM G) (kh G Z.kI (bC (bN 0))) (aF aV))))))))
theorem Fb:bH ["stock"] ["stock"] (aO qe):=gR
include Z in
theorem Ik:Own P w K mg base "sounds_of" 1 ["stock"] (pH K 1 mR):=by exact cC (k:=0) Z.Hn Fb (λf cdv A outer s H E hr G=>(eQ.u (aG (aX (gU G Z.dF (bC (aF (bf (gW ["stock","sound","marks"] 1 dG G (cM G (aR 0)) (λX1 h1=>by have G:=G.at h1;obtain⟨_,_,_,_,_,rfl⟩:=h1;exact(iB G (bz (aZ 1) (bz (aZ 2) dh)))) (λX1 h1=>by have G:=G.at h1;obtain⟨_,_,_,_,_,rfl⟩:=h1;exact cO) (λX1 h1=>by have G:=G.at h1;obtain⟨_,_,_,_,_,rfl⟩:=h1;exact(aR 1)))))))))))
theorem Fd:bH ["stock","marks"] ["stock","marks"] (aO qg):=gR
include Z in
theorem Il:Own P w K mg base "sounds_by" 1 ["stock","marks"] (pH K 2 qQ):=by exact cC (k:=0) Z.Ho Fd (λf cdv A outer s H E hr G=>(eQ.u (aG (aX (gU G Z.dF (bC (aF (bf (gW ["stock","marks","sound","own"] 2 dG G (cM G (aR 0)) (λX1 h1=>by have G:=G.at h1;obtain⟨_,_,_,_,_,rfl⟩:=h1;exact(iB G (bz (aZ 2) (bz (aZ 3) dh)))) (λX1 h1=>by have G:=G.at h1;obtain⟨_,_,_,_,_,rfl⟩:=h1;exact(iW (cQ (oJ G Z.oY (bC (aF (bf (gW ["stock","marks","sound","own","mark"] 4 dG G (cM G (aR 1)) (λX1 h1=>by have G:=G.at h1;obtain⟨_,_,_,_,_,rfl⟩:=h1;exact(aZ 4)) (λX1 h1=>by have G:=G.at h1;obtain⟨_,_,_,_,_,rfl⟩:=h1;exact cO) (λX1 h1=>by have G:=G.at h1;obtain⟨_,_,_,_,_,rfl⟩:=h1;exact(iJ 4 (GF G) (bN 3))))))))))) (λX1 h1=>by have G:=G.at h1;obtain⟨_,_,_,_,_,rfl⟩:=h1;exact(aR 2)))))))))))
theorem wD:bH ["sounds","thing","old","new"] MJ (aO kE):=gR
include Z in
theorem yC:Own P w K mg base "changes_sound" 2 MJ (pH K 2 kW):=by
 exact cC (k:=1) Z.yu wD (λf cdv A outer s H E hr G=>(eQ.u (aC (cN (dU (cQ (bY (Dj Z) G hr (eV 1 ao) (bU len0)))) (aG (aX gG)) cj)
   (aC (lO (aR 1) (iB G (bz (aZ 2) (bz (aZ 3) dh))))
   (aG (aX (ig (iJ 2 (GF G) (bN 0)) (ig (Ut (iJ 3 (GF G) (bN 0)) (lz (iJ 3 (nM G) (aF (aq []))))) (lz (iJ 2 (GC G) (bN 3)))))))))))
theorem zm:bH MJ MJ (aO nq):=gR
include Z in
theorem BR:Own P w K mg base "puts_one_in" 2 MJ (pH K 2 gC):=by exact cC (k:=1) Z.Bq zm (λf cdv A outer s H E hr G=>(eQ.u (aG (aX (ig (bY (Dj Z) G hr (eV 1 ao) (bU len0)) (ig (sV (nM G) (jf 1 G (aF aV)) (aF (aq []))) (lz (sV (GF G) (jf 1 G (aF aV)) (bN 0)))))))))
theorem zr:bH MJ MJ (aO nC):=gR
include Z in
theorem BW:Own P w K mg base "are_changes" 3 MJ (pH K 2 nJ):=by
 exact cC (k:=2) Z.Bu zr (λf cdv A outer s H E hr G=>(eQ.u (aC (cN (jT (jN (dU (cQ (mQ (T:="tuple") rfl Z.cu rfl Z.dF (by decide +kernel) Z.ik G.K (aR 1)))) (ji (iw (nM G) (kh G Z.kI (bC (bN 1))) (aF aV))))) (aG (aX gG)) cj)
   (aC (cN (jT (Uk (iw (nM G) (kh G Z.kI (bC (bN 1))) (aF aV)) (QC (cQ (bY (BR Z) G hr (eV 0 (aj (jf 1 G (aF aV)) ao)) (bU (bU len0))))))) (aG (aX gG)) cj)
   (aG (aX (ig (oJ G Z.oY (bC (aF (bf (gW ["sounds","thing","change"] 2 dG G (cM G (aR 1)) (λX1 h1=>by have G:=G.at h1;obtain⟨_,_,_,_,_,rfl⟩:=h1;exact(aZ 2)) (λX1 h1=>by have G:=G.at h1;obtain⟨_,_,_,_,_,rfl⟩:=h1;exact cO) (λX1 h1=>by have G:=G.at h1;obtain⟨_,_,_,_,_,rfl⟩:=h1;exact(bY (yC Z) G hr (eV 0 (eV 2 ao)) (bU (bU len0))))))))) (lz (bY (NZ Z) G hr (aj (bf (gW ["sounds","thing","old","new"] 2 dG G (cM G (aR 1)) (λX1 h1=>by have G:=G.at h1;obtain⟨_,_,_,_,_,rfl⟩:=h1;exact(iB G (bz (aZ 2) (bz (aZ 3) dh)))) (λX1 h1=>by have G:=G.at h1;obtain⟨_,_,_,_,_,rfl⟩:=h1;exact cO) (λX1 h1=>by have G:=G.at h1;obtain⟨_,_,_,_,_,rfl⟩:=h1;exact(aR 2)))) ao) (bU len0))))))))))
theorem Fo:bH MJ MJ (aO qx):=gR
include Z in
theorem xO:Own P w K mg base "are_signs" 2 MJ (pH K 2 mU):=by
 obtain⟨ahx,ahB,u5⟩:=Z.u5;exact cC (k:=1) Z.Hu Fo (λf cdv A outer s H E hr G=>(eQ.u (aC (cN (ie 1 aeu (aF gM)) (aG (aX gG)) cj)
   (aC (cN (jT (jN (dU (cQ (mQ (T:="tuple") rfl Z.cu rfl Z.dF (by decide +kernel) Z.ik G.K (aR 1)))) (ji (iw (nM G) (kh G Z.kI (bC (bN 1))) (aF aV))))) (aG (aX gG)) cj)
   (aG (aX (ig (oJ G Z.oY (bC (aF (bf (gW ["sounds","thing","sign"] 2 dG G (cM G (aR 1)) (λX1 h1=>by have G:=G.at h1;obtain⟨_,_,_,_,_,rfl⟩:=h1;exact(aZ 2)) (λX1 h1=>by have G:=G.at h1;obtain⟨_,_,_,_,_,rfl⟩:=h1;exact cO) (λX1 h1=>by have G:=G.at h1;obtain⟨_,_,_,_,_,rfl⟩:=h1;exact(Ut (iJ 2 (nM G) (aF (nZ (.str [35]) rfl u5.1 u5.2.1 (λF=>u5.2.2 F)))) (lz (iJ 2 (GF G) (bN 0)))))))))) (lz (bY (NZ Z) G hr (eV 1 ao) (bU len0))))))))))
theorem K6:bH ["stock","thing","way","changes","left","right","sounds"] ["stock","thing"] (aO wG):=gR
include Z in
theorem wR:Own P w K mg base "is_rule" 4 ["stock","thing"] (pH K 2 lJ):=by
 obtain⟨ahw,ahA,lA⟩:=Z.lA;exact cC (k:=3) Z.Qj K6 (λf cdv A outer s H E hr G=>(eQ.u (aC (cN (jT (jN (dU (cQ (mQ (T:="tuple") rfl Z.cu rfl Z.dF (by decide +kernel) Z.ik G.K (aR 1)))) (ji (iw (GC G) (kh G Z.kI (bC (bN 1))) (aF aV))))) (aG (aX gG)) cj)
   (aC (lO (aR 1) (iB G (bz (aZ 2) (bz (aZ 3) (bz (aZ 4) (bz (aZ 5) dh))))))
   (aC (bV 6 (bY (Ik Z) G hr (eV 0 ao) (bU len0)))
   (aG (aX (ig (iJ 2 (GF G) (aF (nZ (.tup [(.str [111,110,99,101]),(.str [97,108,111,110,103])]) rfl lA.1 lA.2.1 (λF=>lA.2.2 F)))) (ig (bY (BW Z) G hr (eV 6 (eV 3 ao)) (bU (bU len0))) (ig (bY (xO Z) G hr (eV 6 (eV 4 ao)) (bU (bU len0))) (lz (bY (xO Z) G hr (eV 6 (eV 5 ao)) (bU (bU len0))))))))))))))
theorem uF:bH ["thing"] ["thing"] (aO ql):=gR
include Z in
theorem FJ:RW P w K mg base "need_text" 3 ["thing"] (spX K 1 xA (W5 K "NoText") "part"):=by exact Di (k:=2) Z.xG uF (W5 K "NoText") "part" (λf cdv A outer s H E d hr hE G=>(yN (aaQ (MK.u (dU (cQ (mQ (T:="str") rfl Z.cu rfl Z.Vl (by decide +kernel) Z.rH G.K (aR 0))))) (yN (aaO (k:=0) Z.Cv (hr.mono (by decide)) hE (SX.u gM))) (zz (eQ.u cj)))))
include Z in
theorem xM:Own P w K mg base "need_text" 3 ["thing"] (pH K 1 qR):=by exact cC (k:=2) Z.xG uF (λf cdv A outer s H E hr G=>(eQ.u (aG (cN (dU (cQ (mQ (T:="str") rfl Z.cu rfl Z.Vl (by decide +kernel) Z.rH G.K (aR 0)))) (aG zx) cj))))
theorem Bw:bH ["sound"] ["sound"] (aO oM):=gR
include Z in
theorem uO:Own P w K mg base "show_sound" 1 ["sound"] (pH K 1 il):=by obtain⟨Ko,Kr,eE⟩:=Z.eE;exact cC (k:=0) Z.Ei Bw (λf cdv A outer s H E hr G=>(eQ.u (aG (aX (Le (ie 0 (nM G) (aF (aq []))) (nZ (.str [48]) rfl eE.1 eE.2.1 (λF=>eE.2.2 F)) (aR 0))))))
theorem Bx:bH ["signs"] ["signs"] (aO oN):=gR
include Z in
theorem uP:Own P w K mg base "show_signs" 1 ["signs"] (pH K 1 lB):=by obtain⟨Kp,Ks,eF⟩:=Z.eF;exact cC (k:=0) Z.Ej Bx (λf cdv A outer s H E hr G=>(eQ.u (aG (aX (Le (ie 0 aeu (aF gM)) (nZ (.str [42]) rfl eF.1 eF.2.1 (λF=>eF.2.2 F)) (Hh G (aq []) (bN 0)))))))
theorem Fe:bH ["rule","way","changes","left","right","shown"] ["rule"] (aO qi):=gR
include Z in
theorem qF:Own P w K mg base "show_rule" 2 ["rule"] (pH K 1 fZ):=by
 exact cC (k:=1) Z.Hq Fe (λf cdv A outer s H E hr G=>(eQ.u (aC (lO (aR 0) (iB G (bz (aZ 1) (bz (aZ 2) (bz (aZ 3) (bz (aZ 4) dh))))))
   (aC (TY ["rule","way","changes","left","right","shown","old","new"] 6 5 dG G (cM G (aR 2)) (λX1 h1=>by have G:=G.at h1;obtain⟨_,_,_,_,_,rfl⟩:=h1;exact(iB G (bz (aZ 6) (bz (aZ 7) dh)))) (λX1 h1=>by have G:=G.at h1;obtain⟨_,_,_,_,_,rfl⟩:=h1;exact cO) (λX1 h1=>by have G:=G.at h1;obtain⟨_,_,_,_,_,rfl⟩:=h1;exact(abQ [62] (by decide +kernel) (bY (uO Z) G hr (eV 6 ao) (bU len0)) (bY (uO Z) G hr (eV 7 ao) (bU len0)))))
   (aG (aX (lu G (aq [32]) (aF (bj (aY G) (bj (aY G) (bf (bK (eV 1 ao))) (bN 5)) (aF (bf (bK (aj (aq [47]) (aj (bY (uP Z) G hr (eV 3 ao) (bU len0)) (aj (aq [95]) (aj (bY (uP Z) G hr (eV 4 ao) (bU len0)) ao))))))))))))))))
theorem By:bH ["text"] ["text"] (aO oO):=gR
include Z in
theorem FT:Own P w K mg base "read_sound" 1 ["text"] (pH K 1 lC):=by
 obtain⟨Ko,Kr,eE⟩:=Z.eE;exact cC (k:=0) Z.Ek By (λf cdv A outer s H E hr G=>(eQ.u (aC (cN (ie 0 (nM G) (aF (aq []))) (aG (aX gM)) cj)
   (aG (aX (Le (ie 0 (nM G) (aF (nZ (.str [48]) rfl eE.1 eE.2.1 (λF=>eE.2.2 F)))) (aq []) (aR 0)))))))
theorem BJ:bH WQ WQ (aO oR):=gR
include Z in
theorem uQ:Own P w K mg base "read_signs" 2 WQ (pH K 2 ir):=by
 obtain⟨Kp,Ks,eF⟩:=Z.eF;exact cC (k:=1) Z.El BJ (λf cdv A outer s H E hr G=>(eQ.u (aC (cN (ie 1 (nM G) (aF (nZ (.str [42]) rfl eF.1 eF.2.1 (λF=>eF.2.2 F)))) (aG (aX gM)) cj)
   (aC (cN (jT (jN (dU (cQ (PQ G (aR 1) (aF (aq [91]))))) (ji (dU (cQ (Xm G (aR 1) (aF (aq [93])))))))) (aG (aX (Xi G Z.dF (bC (bN 1))))) cj)
   (aG (aX (bY (Il Z) G hr (eV 0 (aj (nR G (oH G (aR 1) (dq aV) (dq (abH aV))) (aF (aq [32]))) ao)) (bU (bU len0)))))))))
theorem BK:bH ["stock","text","words","slash","line","changes","left"] WQ (aO oU):=gR
include Z in
theorem uR:Own P w K mg base "read_parts" 3 WQ (pH K 2 gm):=by
 exact cC (k:=2) Z.Em BK (λf cdv A outer s H E hr G=>(eQ.u (aC (bV 2 (nR G (aR 1) (aF (aq [32]))))
   (aC (cN (jT (jN (iw (Gz G) (aq [47]) (bN 2)) (ji (iw (Gz G) (aq [95]) (bN 2))))) (aG (aX gM)) cj)
   (aC (bV 3 (Cy G (aR 2) (aF (aq [47]))))
   (aC (bV 4 (Cy G (aR 2) (aF (aq [95]))))
   (aC (bV 5 (gU G Z.dF (bC (aF (bf (gW ["stock","text","words","slash","line","changes","left","word"] 7 dG G (cM G (oH G (aR 2) (dq aV) (dq (aR 3)))) (λX1 h1=>by have G:=G.at h1;obtain⟨_,_,_,_,_,rfl⟩:=h1;exact(aZ 7)) (λX1 h1=>by have G:=G.at h1;obtain⟨_,_,_,_,_,rfl⟩:=h1;exact cO) (λX1 h1=>by have G:=G.at h1;obtain⟨_,_,_,_,_,rfl⟩:=h1;exact(gU G Z.dF (bC (aF (bf (gW ["stock","text","words","slash","line","changes","left","word","side"] 8 dG G (cM G (nR G (aR 7) (aF (aq [62])))) (λX1 h1=>by have G:=G.at h1;obtain⟨_,_,_,_,_,rfl⟩:=h1;exact(aZ 8)) (λX1 h1=>by have G:=G.at h1;obtain⟨_,_,_,_,_,rfl⟩:=h1;exact cO) (λX1 h1=>by have G:=G.at h1;obtain⟨_,_,_,_,_,rfl⟩:=h1;exact(bY (FT Z) G hr (eV 8 ao) (bU len0)))))))))))))))
   (aC (bV 6 (bY (uQ Z) G hr (eV 0 (aj (lu G (aq [32]) (aF (oH G (aR 2) (dq (bL 3 (aY G) (aF aV))) (dq (aR 4))))) ao)) (bU (bU len0))))
   (aG (aX (cA (aj (jf 2 G (aF aV)) (eV 5 (eV 6 (aj (bY (uQ Z) G hr (eV 0 (aj (lu G (aq [32]) (aF (oH G (aR 2) (dq (bL 4 (aY G) (aF aV))) jE))) ao)) (bU (bU len0))) ao)))))))))))))))
theorem uE:bH ["stock","text","rule"] WQ (aO qj):=gR
include Z in
theorem Fz:RW P w K mg base "read_rule" 5 WQ (spX K 2 fY (W5 K "NoText") "part"):=by
 exact Di (k:=4) Z.xF uE (W5 K "NoText") "part" (λf cdv A outer s H E d hr hE G=>(zA (acH (Uj (FJ Z) (hr.mono (by decide)) rfl (J5.u (eV 1 ao)) (bU len0) (ae6 hE)) (Ef.u (wK (bY (xM Z) G hr (eV 1 ao) (bU len0)))))
   (zA (aaP (Ef.u (bV 2 (bY (uR Z) G hr (eV 0 (eV 1 ao)) (bU (bU len0))))))
   (zA (aaQ (MK.u (dU (cQ (bY (wR Z) G hr (eV 0 (eV 2 ao)) (bU (bU len0)))))) (yN (aaO (k:=0) Z.Cv (hr.mono (by decide)) hE (SX.u aV))) (zz (eQ.u cj)))
   (yN (aaP (Ef.u (aX (aR 2)))))))))
include Z in
theorem jX:Own P w K mg base "read_rule" 5 WQ (pH K 2 eG):=by
 exact cC (k:=4) Z.xF uE (λf cdv A outer s H E hr G=>(eQ.u (aC (wK (bY (xM Z) G hr (eV 1 ao) (bU len0)))
   (aC (bV 2 (bY (uR Z) G hr (eV 0 (eV 1 ao)) (bU (bU len0))))
   (aC (cN (dU (cQ (bY (wR Z) G hr (eV 0 (eV 2 ao)) (bU (bU len0))))) (aG zx) cj)
   (aG (aX (aR 2))))))))
theorem Fj:bH ["_law_cell"] ["_law_cell"] (aO qu):=gR
include Z in
theorem Io:Own P w K mg base "_law_mixed" 1 ["_law_cell"] (pH K 1 gZ):=by exact cC (k:=0) Z.Ht Fj (λf cdv A outer s H E hr G=>(eQ.u (aG (aX (bj abo (bL 0 Pz (aF aV)) (aF (bj abn aV (aF aV))))))))
theorem HS:bH ["_law_script","_law_k","_law_found","_law_at"] ["_law_script","_law_k"] (aO tM):=gR
include Z in
theorem Lp:Own P w K mg base "_law_pack" 2 ["_law_script","_law_k"] (spN K 2 jJ):=by
 exact YD (k:=1) Z.KJ HS (λf cdv A outer s H E hr G=>(eQ.u (aC (bV 2 aV)
   (aC (jh G (cM G (bf (bK (aj (bL 1 (aY G) (aF aV)) (eV 1 ao))))) (aZ 3) (aG (bV 2 (bj (aY G) (bL 2 Pz (aF (bj abn aV (aF aV)))) (aF (bY (Io Z) G hr (aj (yW G (bj (aY G) (aaD G (aR 0) (dq (aR 3)) (dq (bL 3 (aY G) (aF aV)))) (aF (bf (bK (aj (bj (aY G) (bj Pz aV (bN 3)) (aF aV)) ao))))) (aF aV)) ao) (bU len0)))))))
   (aG (Ig (bK (eV 2 ao))))))))
theorem HN:bH ["_law_pack_here","_law_size","_law_digit"] Zq7 (aO tD):=gR
include Z in
theorem dM:Own P w K mg base "_law_take" 1 Zq7 (yw K 2 bJ):=by
 exact wO (k:=0) Z.KC HN (λf cdv A outer s H E a hr G=>(eQ.u (aC (lO (P0 G Z.Q9 (tR (jf 0 G (aF aV)) (bC (bN 1)))) (iB G (bz (abb 0 aV) (bz (aZ 2) dh))))
   (aG (aX (aR 2))))))
theorem rP:bH ["_law_pack_here","_law_letters","_law_at","_law_by"] Zq3 (aO iT):=gR
include Z in
theorem tV:Own P w K mg base "_law_drawn_sounds" 2 Zq3 (yw K 1 iV):=by
 exact wO (k:=1) Z.sX rP (λf cdv A outer s H E a hr G=>(eQ.u (aC (bV 1 (aq [97,98,99,100,101,102,103,104,105,106,107,108,109,110,111,112,113,114,115,116,117,118,119,120,121,122]))
   (aC (lO (cA (aj (jz 0 (dM Z) G hr (aj aV ao) (jA (bU len0))) (aj (bj (aY G) aV (aF (jz 0 (dM Z) G hr (aj aV ao) (jA (bU len0))))) ao))) (iB G (bz (aZ 2) (bz (aZ 3) dh))))
   (aG (aX (lu G (aq []) (aF (Kl G Z.wV Z.adC (bf (gW ["_law_pack_here","_law_letters","_law_at","_law_by","_law_k"] 4 dG G (rJ Z.lV (aj (bj (aY G) aV (aF (jz 0 (dM Z) G hr (aj aV ao) (jA (bU len0))))) ao) (bU len0)) (λX1 h1=>by have G:=G.at h1;obtain⟨_,_,_,_,_,rfl⟩:=h1;exact(aZ 4)) (λX1 h1=>by have G:=G.at h1;obtain⟨_,_,_,_,_,rfl⟩:=h1;exact cO) (λX1 h1=>by have G:=G.at h1;obtain⟨_,_,_,_,_,rfl⟩:=h1;exact(jf 1 G (aF (bj abo (bL 2 (aY G) (aF (bL 3 Pz (bN 4)))) (aF aV))))))))))))))))
theorem Ff:bH ["_law_pack_here","_law_sounds_here","_law_known","_law_found","_law_sound","_law_number","_law_marks"] Zq3 (aO qm):=gR
include Z in
theorem Im:Own P w K mg base "_law_stock" 3 Zq3 (yw K 1 qT):=by
 exact wO (k:=2) Z.Hr Ff (λf cdv A outer s H E a hr G=>(eQ.u (aC (bV 1 (jz 0 (tV Z) G hr ao (jA len0)))
   (aC (bV 2 (bf (bK (aj (aq [115,116,111,112]) (aj (aq [115,116,111,112,115]) (aj (aq [115]) (aj (aq [111,112,101,110]) (aj (aq [97,98,99,100,101,102,103,104]) ao))))))))
   (aC (oV 3 (bK ao))
   (aC (jh G (cM G (aR 1)) (aZ 4) (aC (bV 5 (jz 0 (dM Z) G hr (aj aV ao) (jA (bU len0))))
   (aC (bV 6 (Cw G Z.wV (bC (aF (bf (gW ["_law_pack_here","_law_sounds_here","_law_known","_law_found","_law_sound","_law_number","_law_marks","_law_k"] 7 dG G (rJ Z.lV (aj aV ao) (bU len0)) (λX1 h1=>by have G:=G.at h1;obtain⟨_,_,_,_,_,rfl⟩:=h1;exact(aZ 7)) (λX1 h1=>by have G:=G.at h1;obtain⟨_,_,_,_,_,rfl⟩:=h1;exact(iW (iw (nM G) (bj abq (bL 5 abm (bN 7)) (aF aV)) (aF aV)))) (λX1 h1=>by have G:=G.at h1;obtain⟨_,_,_,_,_,rfl⟩:=h1;exact(jf 2 G (bN 7)))))))))
   (aG (Fq 3 G (cA (eV 4 (aj (gU G Z.dF (bC (aF (aaD G (aR 6) jE (dq aV))))) ao))))))))
   (aG (aX (gU G Z.dF (bC (bN 3)))))))))))
theorem BL:bH Zq4 Zq4 (aO oW):=gR
include Z in
theorem FW:Own P w K mg base "_law_sounds" 1 Zq4 (pH K 1 pg):=by exact cC (k:=0) Z.Ep BL (λf cdv A outer s H E hr G=>(eQ.u (aG (aX (lu G (aq []) (aF (bf (gW ["_law_stock_here","_law_sound","_law_marks"] 1 dG G (cM G (aR 0)) (λX1 h1=>by have G:=G.at h1;obtain⟨_,_,_,_,_,rfl⟩:=h1;exact(iB G (bz (aZ 1) (bz (aZ 2) dh)))) (λX1 h1=>by have G:=G.at h1;obtain⟨_,_,_,_,_,rfl⟩:=h1;exact cO) (λX1 h1=>by have G:=G.at h1;obtain⟨_,_,_,_,_,rfl⟩:=h1;exact(aR 1))))))))))
theorem Fi:bH ["_law_pack_here","_law_sounds_here","_law_number","_law_signs_here"] Zq2 (aO qt):=gR
include Z in
theorem xN:Own P w K mg base "_law_signs" 2 Zq2 (yw K 2 gb):=by
 exact wO (k:=1) Z.Hs Fi (λf cdv A outer s H E a hr G=>(eQ.u (aC (cN (iw (nM G) (jz 0 (dM Z) G hr (aj aV ao) (jA (bU len0))) (aF aV)) (aG (aX gM)) cj)
   (aC (bV 2 (bj (aY G) aV (aF (jz 0 (dM Z) G hr (aj (bj WD (bj agQ aV (aF (kh G Z.kI (bC (bN 1))))) (aF aV)) ao) (jA (bU len0))))))
   (aC (bV 3 (bj (aY G) (aq [35]) (bN 1)))
   (aG (aX (gU G Z.dF (bC (aF (bf (gW ["_law_pack_here","_law_sounds_here","_law_number","_law_signs_here","_law_k"] 4 dG G (rJ Z.lV (aj (kh G Z.kI (bC (bN 3))) ao) (bU len0)) (λX1 h1=>by have G:=G.at h1;obtain⟨_,_,_,_,_,rfl⟩:=h1;exact(aZ 4)) (λX1 h1=>by have G:=G.at h1;obtain⟨_,_,_,_,_,rfl⟩:=h1;exact(iW (iw (nM G) (bj abq (bL 2 abm (bN 4)) (aF aV)) (aF aV)))) (λX1 h1=>by have G:=G.at h1;obtain⟨_,_,_,_,_,rfl⟩:=h1;exact(jf 3 G (bN 4)))))))))))))))
theorem zq:bH ["_law_pack_here","_law_sounds_here","_law_found","_law_turn","_law_one","_law_others"] Zq2 (aO nA):=gR
include Z in
theorem BV:Own P w K mg base "_law_changes" 2 Zq2 (yw K 2 gF):=by
 exact wO (k:=1) Z.Bt zq (λf cdv A outer s H E a hr G=>(eQ.u (aC (cN (iw (nM G) (jz 0 (dM Z) G hr (aj aV ao) (jA (bU len0))) (aF aV)) (aG (aX (cA (aj (cA (aj (aq []) (aj (jf 1 G (aF (jz 0 (dM Z) G hr (aj (kh G Z.kI (bC (bN 1))) ao) (jA (bU len0))))) ao))) ao)))) cj)
   (aC (oV 2 Dc)
   (aC (jh G (rJ Z.lV (aj (bj (aY G) aV (aF (jz 0 (dM Z) G hr (aj aV ao) (jA (bU len0))))) ao) (bU len0)) (aZ 3) (aC (bV 4 (jf 1 G (aF (jz 0 (dM Z) G hr (aj (kh G Z.kI (bC (bN 1))) ao) (jA (bU len0))))))
   (aC (TY ["_law_pack_here","_law_sounds_here","_law_found","_law_turn","_law_one","_law_others","_law_sound"] 6 5 dG G (cM G (bj (aY G) (Xk G Z.Y5 (bC (bN 1))) (aF (bf (bK (aj (aq []) ao)))))) (λX1 h1=>by have G:=G.at h1;obtain⟨_,_,_,_,_,rfl⟩:=h1;exact(aZ 6)) (λX1 h1=>by have G:=G.at h1;obtain⟨_,_,_,_,_,rfl⟩:=h1;exact(iW (ie 6 (GC G) (bN 4)))) (λX1 h1=>by have G:=G.at h1;obtain⟨_,_,_,_,_,rfl⟩:=h1;exact(aR 6)))
   (aG (XN 2 G (aR 4) (jf 5 G (aF (jz 0 (dM Z) G hr (aj (kh G Z.kI (bC (bN 5))) ao) (jA (bU len0))))))))))
   (aG (aX (gU G Z.dF (bC (aF (bf (gW ["_law_pack_here","_law_sounds_here","_law_found","_law_turn","%4","_law_others","_law_one"] 6 dG G (cM G (Cw G Z.wV (bC (bN 2)))) (λX1 h1=>by have G:=G.at h1;obtain⟨_,_,_,_,_,rfl⟩:=h1;exact(aZ 6)) (λX1 h1=>by have G:=G.at h1;obtain⟨_,_,_,_,_,rfl⟩:=h1;exact cO) (λX1 h1=>by have G:=G.at h1;obtain⟨_,_,_,_,_,rfl⟩:=h1;exact(cA (eV 6 (aj (SM 2 G (bN 6)) ao))))))))))))))))
theorem HR:bH ["_law_pack_here","_law_sounds_here","_law_how","_law_changes_here"] Zq2 (aO tK):=gR
include Z in
theorem Ln:Own P w K mg base "_law_rule" 3 Zq2 (yw K 2 ug):=by
 exact wO (k:=2) Z.KH HR (λf cdv A outer s H E a hr G=>(eQ.u (aC (bV 2 (yW G (bf (bK (aj (aq [111,110,99,101]) (aj (aq [97,108,111,110,103]) ao)))) (aF (jz 0 (dM Z) G hr (aj aV ao) (jA (bU len0))))))
   (aC (bV 3 (jz 0 (BV Z) G hr (eV 1 ao) (jA (bU len0))))
   (aG (aX (cA (eV 2 (eV 3 (aj (jz 0 (xN Z) G hr (eV 1 ao) (jA (bU len0))) (aj (jz 0 (xN Z) G hr (eV 1 ao) (jA (bU len0))) ao)))))))))))
theorem uG:bH Zq5 Zq5 (aO jC):=gR
include Z in
theorem jF:Own P w K mg base "_law_signs_text" 1 Zq5 (pH K 1 dB):=by
 exact cC (k:=0) Z.v9 uG (λf cdv A outer s H E hr G=>(eQ.u (aC (cN (ie 0 aeu (aF gM)) (aG (aX (aq [42]))) cj)
   (aG (aX (Hh G (aq []) (bN 0)))))))
theorem wB:bH ["_law_rule_here","_law_how","_law_changes_here","_law_first","_law_second","_law_found","_law_one","_law_other"] ["_law_rule_here"] (aO kj):=gR
include Z in
theorem iK:Own P w K mg base "_law_rule_text" 2 ["_law_rule_here"] (pH K 1 cU):=by
 exact cC (k:=1) Z.yr wB (λf cdv A outer s H E hr G=>(eQ.u (aC (lO (aR 0) (iB G (bz (aZ 1) (bz (aZ 2) (bz (aZ 3) (bz (aZ 4) dh))))))
   (aC (bV 5 (aR 1))
   (aC (jh G (cM G (aR 2)) (iB G (bz (aZ 6) (bz (aZ 7) dh))) (aG (bV 5 (bj (aY G) (bj (aY G) (bj (aY G) (bL 5 (aY G) (aF (aq [32]))) (aF (yW G (bL 6 (aY G) (aF (aq [48]))) (aF aV)))) (aF (aq [62]))) (aF (yW G (bL 7 (aY G) (aF (aq [48]))) (aF aV)))))))
   (aG (aX (bj (aY G) (bj (aY G) (bj (aY G) (bL 5 (aY G) (aF (aq [32,47,32]))) (aF (bY (jF Z) G hr (eV 3 ao) (bU len0)))) (aF (aq [32,95,32]))) (aF (bY (jF Z) G hr (eV 4 ao) (bU len0)))))))))))
theorem HQ:bH ["_law_e","_law_sorts"] ["_law_e"] (aO tH):=gR
include Z in
theorem Lk:Own P w K mg base "_law_sort" 1 ["_law_e"] (pH K 1 uf):=by
 exact cC (k:=0) Z.KD HQ (λf cdv A outer s H E hr G=>(eQ.u (aC (bV 1 (bf (bK (aj (sU G Z.cu Z.Ri (aR 0)) (aj (sU G Z.cu Z.LR (aR 0)) (aj (sU G Z.cu Z.Rj (aR 0)) (aj (sU G Z.cu Z.Jj (aR 0)) ao)))))))
   (aC (bV 1 (bL 1 (aY G) (aF (bf (bK (aj (sU G Z.cu Z.Ji (aR 0)) (aj (sU G Z.cu Z.Rm (aR 0)) (aj (sU G Z.cu Z.Rk (aR 0)) ao))))))))
   (aC (cN (jT (jN (dU (cQ (Xl (by decide +kernel) G Z.cu Z.BX Z.Ca (aR 0)))) (ji (iw (GC G) (Xj G Z.adB (bC (bN 1))) (aF aV))))) (aG (aX gM)) cj)
   (aG (aX (Km G (aR 1) (aF gG)))))))))
theorem zp:bH ["_law_stock_here","_law_text","_law_part","_law_caught","_law_e"] Zq8 (aO nu):=gR
include Z in
theorem jP:Own P w K mg base "_law_refused" 6 Zq8 (pH K 3 cJ):=by
 exact cC (k:=5) Z.Br zp (λf cdv A outer s H E hr G=>(eQ.u (aC (bV 3 gM)
   (aC (XM 3 4 ⟨rfl,rfl,rfl⟩ G Z.Cj (λG=>(aG (wK (bY (jX Z) G hr (eV 0 (eV 1 ao)) (bU (bU len0)))))) (T8 (Fz Z) (hr.mono (by decide)) rfl (J5.u (eV 0 (eV 1 ao))) (bU (bU len0))))
   (aG (aX (ig (iJ 3 Pq (aF gM)) (ig (sV (nM G) (bY (Lk Z) G hr (eV 3 ao) (bU len0)) (aF aV)) (ig (sV (nM G) (M9 G Z.pt (aR 3)) (bN 2)) (lz (Yk (mQ (T:="bool") rfl Z.cu rfl Z.Y6 (by decide +kernel) Z.qM G.K (M9 G Z.pt (aR 3))))))))))))))
theorem tu:bH ["_law_stock_here","_law_rule_here","_law_marks","_law_due","_law_told","_law_side","_law_parts","_law_text"] Zq9 (aO jg):=gR
include Z in
theorem uT:Own P w K mg base "_law_marks_right" 7 Zq9 (pH K 3 gP):=by
 exact cC (k:=6) Z.uB tu (λf cdv A outer s H E hr G=>(eQ.u (aC (bV 3 (gU G Z.dF (bC (aF (bf (gW ["_law_stock_here","_law_rule_here","_law_marks","_law_due","_law_told","_law_side","_law_parts","_law_text","_law_sound","_law_own"] 8 dG G (cM G (aR 0)) (λX1 h1=>by have G:=G.at h1;obtain⟨_,_,_,_,_,rfl⟩:=h1;exact(iB G (bz (aZ 8) (bz (aZ 9) dh)))) (λX1 h1=>by have G:=G.at h1;obtain⟨_,_,_,_,_,rfl⟩:=h1;exact(iW (cQ (oJ G Z.oY (bC (aF (bf (gW ["_law_stock_here","_law_rule_here","_law_marks","_law_due","_law_told","_law_side","_law_parts","_law_text","_law_sound","_law_own","_law_mark"] 10 dG G (cM G (aR 2)) (λX1 h1=>by have G:=G.at h1;obtain⟨_,_,_,_,_,rfl⟩:=h1;exact(aZ 10)) (λX1 h1=>by have G:=G.at h1;obtain⟨_,_,_,_,_,rfl⟩:=h1;exact cO) (λX1 h1=>by have G:=G.at h1;obtain⟨_,_,_,_,_,rfl⟩:=h1;exact(iJ 10 (GF G) (bN 9))))))))))) (λX1 h1=>by have G:=G.at h1;obtain⟨_,_,_,_,_,rfl⟩:=h1;exact(aR 8))))))))
   (aC (bV 4 (bj (aY G) (bj (aY G) (aq [91]) (aF (lu G (aq [32]) (bN 2)))) (aF (aq [93]))))
   (aC (jh G (cM G (bf (bK (aj aV (aj aV ao))))) (aZ 5) (aC (TY ["_law_stock_here","_law_rule_here","_law_marks","_law_due","_law_told","_law_side","_law_parts","_law_text","_law_signs_here"] 8 6 dG G (cM G (oH G (aR 1) (dq aV) jE)) (λX1 h1=>by have G:=G.at h1;obtain⟨_,_,_,_,_,rfl⟩:=h1;exact(aZ 8)) (λX1 h1=>by have G:=G.at h1;obtain⟨_,_,_,_,_,rfl⟩:=h1;exact cO) (λX1 h1=>by have G:=G.at h1;obtain⟨_,_,_,_,_,rfl⟩:=h1;exact(bY (jF Z) G hr (eV 8 ao) (bU len0))))
   (aC (lO (aR 4) (abb 6 (bL 5 WD (aF aV))))
   (aC (bV 7 (bj (aY G) (bj (aY G) (yW G (nR G (bY (iK Z) G hr (eV 1 ao) (bU len0)) (aF (aq [32,47,32]))) (aF aV)) (aF (aq [32,47,32]))) (aF (lu G (aq [32,95,32]) (bN 6)))))
   (aG (cN (ie 3 (nM G) (aF (cA ao))) (aG (cN (dU (cQ (bY (jP Z) G hr (eV 0 (eV 7 (aj aV ao))) (bU (bU (bU len0)))))) (aG (aX gG)) cj)) (aG (cN (iw (GC G) (bY (jX Z) G hr (eV 0 (eV 7 ao)) (bU (bU len0))) (aF (bj (aY G) (bj (aY G) (oH G (aR 1) jE (dq (aR 5))) (aF (cA (eV 3 ao)))) (aF (oH G (aR 1) (dq (bL 5 (aY G) (aF aV))) jE))))) (aG (aX gG)) cj))))))))
   (aG (aX gG)))))))
theorem uH:bH ["_law_stock_here","_law_rule_here","_law_ahead","_law_behind","_law_first","_law_second","_law_sides","_law_text"] aeB (aO jD):=gR
include Z in
theorem wQ:Own P w K mg base "_law_both_right" 7 aeB (pH K 4 fU):=by
 exact cC (k:=6) Z.wg uH (λf cdv A outer s H E hr G=>(eQ.u (aC (bV 4 (gU G Z.dF (bC (aF (bf (gW agT 8 dG G (cM G (aR 0)) (λX1 h1=>by have G:=G.at h1;obtain⟨_,_,_,_,_,rfl⟩:=h1;exact(iB G (bz (aZ 8) (bz (aZ 9) dh)))) (λX1 h1=>by have G:=G.at h1;obtain⟨_,_,_,_,_,rfl⟩:=h1;exact(iW (cQ (oJ G Z.oY (bC (aF (bf (gW agS 10 dG G (cM G (aR 2)) (λX1 h1=>by have G:=G.at h1;obtain⟨_,_,_,_,_,rfl⟩:=h1;exact(aZ 10)) (λX1 h1=>by have G:=G.at h1;obtain⟨_,_,_,_,_,rfl⟩:=h1;exact cO) (λX1 h1=>by have G:=G.at h1;obtain⟨_,_,_,_,_,rfl⟩:=h1;exact(iJ 10 (GF G) (bN 9))))))))))) (λX1 h1=>by have G:=G.at h1;obtain⟨_,_,_,_,_,rfl⟩:=h1;exact(aR 8))))))))
   (aC (bV 5 (gU G Z.dF (bC (aF (bf (gW agT 8 dG G (cM G (aR 0)) (λX1 h1=>by have G:=G.at h1;obtain⟨_,_,_,_,_,rfl⟩:=h1;exact(iB G (bz (aZ 8) (bz (aZ 9) dh)))) (λX1 h1=>by have G:=G.at h1;obtain⟨_,_,_,_,_,rfl⟩:=h1;exact(iW (cQ (oJ G Z.oY (bC (aF (bf (gW agS 10 dG G (cM G (aR 3)) (λX1 h1=>by have G:=G.at h1;obtain⟨_,_,_,_,_,rfl⟩:=h1;exact(aZ 10)) (λX1 h1=>by have G:=G.at h1;obtain⟨_,_,_,_,_,rfl⟩:=h1;exact cO) (λX1 h1=>by have G:=G.at h1;obtain⟨_,_,_,_,_,rfl⟩:=h1;exact(iJ 10 (GF G) (bN 9))))))))))) (λX1 h1=>by have G:=G.at h1;obtain⟨_,_,_,_,_,rfl⟩:=h1;exact(aR 8))))))))
   (aC (bV 6 (bj (aY G) (bj (aY G) (bj (aY G) (bj (aY G) (aq [91]) (aF (lu G (aq [32]) (bN 2)))) (aF (aq [93,32,95,32,91]))) (aF (lu G (aq [32]) (bN 3)))) (aF (aq [93]))))
   (aC (bV 7 (bj (aY G) (bj (aY G) (yW G (nR G (bY (iK Z) G hr (eV 1 ao) (bU len0)) (aF (aq [32,47,32]))) (aF aV)) (aF (aq [32,47,32]))) (bN 6)))
   (aC (cN (jT (jN (ie 4 (nM G) (aF (cA ao))) (ji (ie 5 (nM G) (aF (cA ao)))))) (aG (aX (bY (jP Z) G hr (eV 0 (eV 7 (aj aV ao))) (bU (bU (bU len0)))))) cj)
   (aG (aX (sV (nM G) (bY (jX Z) G hr (eV 0 (eV 7 ao)) (bU (bU len0))) (aF (bj (aY G) (oH G (aR 1) jE (dq aV)) (aF (cA (eV 4 (eV 5 ao))))))))))))))))
theorem K5:bH Zq6 Zq6 (aO wF):=gR
include Z in
theorem Q7:Own P w K mg base "_law_out" 1 Zq6 (pH K 1 oh):=by exact cC (k:=0) Z.Qi K5 (λf cdv A outer s H E hr G=>(eQ.u (aG (aX (yW G (bf (gW ["_law_sounds_here","_law_letter"] 1 dG G (cM G (aq [113,118,109,101,104,97,98,99,100,102,103])) (λX1 h1=>by have G:=G.at h1;obtain⟨_,_,_,_,_,rfl⟩:=h1;exact(aZ 1)) (λX1 h1=>by have G:=G.at h1;obtain⟨_,_,_,_,_,rfl⟩:=h1;exact(iW (ie 1 (Gz G) (bN 0)))) (λX1 h1=>by have G:=G.at h1;obtain⟨_,_,_,_,_,rfl⟩:=h1;exact(aR 1)))) (aF aV))))))
theorem wC:bH ["_law_rule_here","_law_sounds_here","_law_one","_law_out_here","_law_text","_law_head","_law_found","_law_odds","_law_odd"] aeA (aO km):=gR
include Z in
theorem yz:Own P w K mg base "_law_odd_rules" 3 aeA (pH K 2 kO):=by
 exact cC (k:=2) Z.yt wC (λf cdv A outer s H E hr G=>(eQ.u (aC (aca 2 3 G (aj (jf 1 G (aF aV)) (aj (bY (Q7 Z) G hr (eV 1 ao) (bU len0)) ao)))
   (aC (bV 4 (bY (iK Z) G hr (eV 0 ao) (bU len0)))
   (s_q (ahW 5 G (nR G (aR 4) (aF (aq [32,47,32])))) (cz (Dh (oV 6 (rG (bh (aq []) (bh (aq [32]) (bh (aR 5) (bh (bL 5 (aY G) (aF (aq [32,47]))) (bh (bL 5 (aY G) (aF (aq [32,47,32,42]))) (bh (bL 5 (aY G) (aF (aq [32,47,32,42,32,95]))) (bh (bL 5 (aY G) (aF (aq [32,47,32,95,32,42]))) (bh (bL 5 (aY G) (aF (aq [32,47,32,42,32,95,32,42,32]))) nY)))))))))))
   (cz (Dh (oV 6 (zN (aR 6) (aF (bf (bK (aj (bL 5 (aY G) (aF (aq [32,42,32,95,32,42]))) ao)))))))
   (cz (aaT 6 (aaU (aR 6) (PXp.b (Nv (iY (p_x (bj (aY G) (aq [32]) (bN 4))) (iY (p_x (bL 4 (aY G) (aF (aq [32])))) (iY (p_x (ae8 (aR 4))) (iY (qz [32,47,32] [47] (SX.u (aR 4)) (by decide +kernel) (by decide +kernel) (by decide +kernel)) (iY (qz [32,95,32] [95] (SX.u (aR 4)) (by decide +kernel) (by decide +kernel) (by decide +kernel)) (p_a ao))))))))))
   (cz (Dh (oV 6 (zN (aR 6) (aF (bf (bK (aj (bL 4 (aY G) (aF (aq [10]))) ao)))))))
   (cz (aaT 6 (aaU (aR 6) (PXp.b (Nv (iY (qz [32,47,32] [32,47,47,32] (SX.u (aR 4)) (by decide +kernel) (by decide +kernel) (by decide +kernel)) (iY (qz [32,47,32] [32,32,47,32] (SX.u (aR 4)) (by decide +kernel) (by decide +kernel) (by decide +kernel)) (iY (qz [32,95,32] [32,32,95,32] (SX.u (aR 4)) (by decide +kernel) (by decide +kernel) (by decide +kernel)) (p_a ao))))))))
   (cz (Dh (oV 6 (zN (aR 6) (aF (bf (bK (aj (bj (aY G) (aq [98,111,116,104]) (aF (oH G (aR 4) (dq aV) jE))) ao)))))))
   (cz (Dh (bV 7 (bf (rG (bh (aq [111,110,99,101]) (bh (aq [111,110,99,101,32]) (bh (bj (aY G) (aq [111,110,99,101,32]) (bN 2)) (bh (bj (aY G) (bj (aY G) (aq [111,110,99,101,32]) (bN 2)) (aF (aq [62]))) (bh (bj (aY G) (aq [111,110,99,101,32,62]) (bN 2)) (bh (aq [111,110,99,101,32,48,62,48]) nY))))))))))
   (cz (Dh (bV 7 (bL 7 (aY G) (aF (bf (bK (aj (bj (aY G) (bj (aY G) (bj (aY G) (aq [111,110,99,101,32]) (bN 2)) (aF (aq [62]))) (bN 2)) ao)))))))
   (cz (Dh (jh G (cM G (aR 7)) (aZ 8) (aG (Fq 6 G (bL 8 (aY G) (aF (aq [32,47,32,42,32,95,32,42])))))))
   (cz (Dh (bV 7 (bf (rG (bh (bj (aY G) (bL 2 (aY G) (aF (aq [62]))) (bN 3)) (bh (bj (aY G) (bL 3 (aY G) (aF (aq [62]))) (bN 2)) (bh (bL 2 (aY G) (aF (aq [45,62,48]))) (bh (bL 2 (aY G) (aF (aq [62,62,48]))) (bh (bL 2 (aY G) (aF (aq [62,35]))) (bh (bj (aY G) (aq [35,62]) (bN 2)) nY))))))))))
   (cz (Dh (bV 7 (bL 7 (aY G) (aF (bf (bK (aj (bj (aY G) (bj (aY G) (bL 2 (aY G) (aF (aq [62,48,32]))) (bN 2)) (aF (aq [62,48]))) ao)))))))
   (cz (Dh (bV 7 (bL 7 (aY G) (aF (bf (bK (aj (bL 2 (aY G) (aF (aq [32,62,48]))) ao)))))))
   (cz (Dh (jh G (cM G (aR 7)) (aZ 8) (aG (Fq 6 G (bj (aY G) (bj (aY G) (aq [111,110,99,101,32]) (bN 8)) (aF (aq [32,47,32,42,32,95,32,42])))))))
   (cz (Dh (bV 7 (bf (bK (aj (bj (aY G) (bj (aY G) (bj (aY G) (bj (aY G) (aq [48,62]) (bN 2)) (aF (aq [32]))) (bN 2)) (aF (aq [62,48]))) (aj (bj (aY G) (bL 2 (aY G) (aF (aq [62,48,32,48,62]))) (bN 2)) (aj (bL 2 (aY G) (aF (aq [62,48,32,32]))) (aj (bL 2 (aY G) (aF (aq [62,48,48]))) (aj (bj (aY G) (bj (aY G) (aq [48]) (bN 2)) (aF (aq [62,48]))) ao)))))))))
   (cz (Dh (bV 7 (bL 7 (aY G) (aF (bf (bK (aj (bL 2 (aY G) (aF (aq [62,48,44]))) ao)))))))
   (cz (Dh (jh G (cM G (aR 7)) (aZ 8) (aG (Fq 6 G (bj (aY G) (bj (aY G) (aq [111,110,99,101,32]) (bN 8)) (aF (aq [32,47,32,42,32,95,32,42])))))))
   (cz (Dh (bV 7 (bf (rG (bh (aq []) (bh (aq [42,42]) (bh (bj (aY G) (aq [42]) (bN 2)) (bh (bL 2 (aY G) (bN 2)) (bh (bL 2 (aY G) (aF (aq [35]))) (bh (aq [35,35]) (bh (aR 3) (bh (aq [48]) (bh (aq [91,93]) (bh (aq [91]) (bh (aq [93]) (bh (aq [91,32,93]) (bh (aq [91,115,116,111,112]) (bh (aq [115,116,111,112,93]) nY))))))))))))))))))
   (cz (Dh (bV 7 (bL 7 (aY G) (aF (bf (bK (aj (aq [91,83,116,111,112,93]) ao)))))))
   (cz (Dh (jh G (cM G (aR 7)) (aZ 8) (aG (oV 6 (zN (aR 6) (aF (bf (bK (aj (bj (aY G) (bj (aY G) (bj (aY G) (bj (aY G) (aq [111,110,99,101,32]) (bN 2)) (aF (aq [62,48,32,47,32]))) (bN 8)) (aF (aq [32,95,32,42]))) (aj (bj (aY G) (bj (aY G) (bj (aY G) (aq [111,110,99,101,32]) (bN 2)) (aF (aq [62,48,32,47,32,42,32,95,32]))) (bN 8)) ao))))))))))
   (cz (Dh (bV 7 (bf (rG (bh (bj (aY G) (aq [91,115,116,111,112,93]) (bN 2)) (bh (bL 2 (aY G) (aF (aq [91,115,116,111,112,93]))) (bh (aq [35,91,115,116,111,112,93]) (bh (aq [91,115,116,111,112,32,93]) (bh (aq [91,32,115,116,111,112,93]) (bh (aq [91,115,116,111,112,32,32,111,112,101,110,93]) (bh (aq [91,110,111,115,117,99,104,93]) nY)))))))))))
   (cz (Dh (bV 7 (bL 7 (aY G) (aF (bf (bK (aj (aq [91,97,49,93]) (aj (aq [91,115,116,111,112,44,111,112,101,110,93]) ao))))))))
   (cz (Dh (jh G (cM G (aR 7)) (aZ 8) (aG (oV 6 (zN (aR 6) (aF (bf (bK (aj (bj (aY G) (bj (aY G) (bj (aY G) (bj (aY G) (aq [111,110,99,101,32]) (bN 2)) (aF (aq [62,48,32,47,32]))) (bN 8)) (aF (aq [32,95,32,42]))) (aj (bj (aY G) (bj (aY G) (bj (aY G) (aq [111,110,99,101,32]) (bN 2)) (aF (aq [62,48,32,47,32,42,32,95,32]))) (bN 8)) ao))))))))))
   (ahY (aG (aX (aR 6)))))))))))))))))))))))))))))))
theorem ab9:bH agR ["_law_script"] (aO T3):=gR
include Z in
theorem aed{f:Addr}{fd:FuncData}(F:R0 K "law" "law" T3 f fd):mJ P w K mg base Cu 8 f fd ["_law_script"] (pH K 1 O4):=by
 exact Jz (k:=7) F ab9 (λcdv A outer s H E hr=>by
  have G:=uZ (P:=P) (w:=w) (K:=K) (mg:=mg) (base:=base) (N:=agR) (outer:=outer) (H:=H) (E:=E) (C:=C0 K) rfl hr;exact(eQ.u (aC (jh G (Zq Z.lV (aj aV (aj (abJ G Z.adE (tR aV (bC (aF (abI G Z.adD (tR (kh G Z.kI (bC (bN 0))) (bC (aF aV)))))))) (aj aV ao))) (bU (bU (bU len0)))) (aZ 1) (aC (oV 2 (adF (Lp Z) G hr (eV 0 (eV 1 ao)) (bU (bU len0))))
   (aC (bV 3 (jz 2 (Im Z) G hr ao (jA len0)))
   (aC (bV 4 (bY (FW Z) G hr (eV 3 ao) (bU len0)))
   (aC (jh G (rJ Z.lV (aj aV ao) (bU len0)) (aZ 5) (aC (bV 6 (jz 2 (Ln Z) G hr (eV 4 ao) (jA (bU len0))))
   (aC (bV 7 (bY (iK Z) G hr (eV 6 ao) (bU len0)))
   (aC (bV 8 (bY (jX Z) G hr (eV 3 (eV 7 ao)) (bU (bU len0))))
   (aC (cN (jT (jN (iw (GC G) (bY (qF Z) G hr (eV 6 ao) (bU len0)) (bN 7)) (jN (ie 8 (GC G) (bN 6)) (ji (dU (cQ (mQ (T:="tuple") rfl Z.cu rfl Z.dF (by decide +kernel) Z.ik G.K (aR 8)))))))) (aG (aX gG)) cj)
   (aC (cN (iw Pq (bY (wR Z) G hr (eV 3 (eV 8 ao)) (bU (bU len0))) (aF gG)) (aG (aX gG)) cj)
   (aC (bV 9 (bf (bK (aj (aq [115]) (aj (aq [115,116,111,112]) (aj (aq [111,112,101,110]) (aj (aq [115,116,111,112,115]) (aj (aq [97,98,99,100,101,102,103,104]) ao))))))))
   (aC (jh G (cM G (bf (bK (aj (cA (aj (bf (bK (aj (aq [115,116,111,112]) ao))) (aj (bf (bK (aj (aq [115]) ao))) ao))) (aj (cA (aj (bf (bK (aj (aq [111,112,101,110]) ao))) (aj (bf (bK (aj (aq [115,116,111,112,115]) ao))) ao))) ao))))) (iB G (bz (aZ 10) (bz (aZ 11) dh))) (aG (cN (dU (cQ (bY (wQ Z) G hr (eV 3 (eV 6 (eV 10 (eV 11 ao)))) (bU (bU (bU (bU len0))))))) (aG (aX gG)) cj)))
   (aC (bV 12 (bf (bK (aj (bf (bK (aj (aq [115,116,111,112]) ao))) (aj (bf (bK (aj (aq [115]) (aj (aq [115,116,111,112]) ao)))) (aj (bf (bK (aj (aq [111,112,101,110]) ao))) (aj (bf (bK (aj (aq [115,116,111,112,115]) (aj (aq [111,112,101,110]) (aj (aq [115]) ao))))) (aj (bf (bK (aj (aq [110,111,115,117,99,104]) ao))) ao))))))))
   (aC (bV 12 (bL 12 (aY G) (aF (bf (bK (aj (bf (bK (aj (aq [115,116,111,112]) (aj (aq [115,116,111,112]) ao)))) (aj (bf (bK (aj (aq [97,98,99,100,101,102,103,104]) ao))) (eV 9 ao))))))))
   (aG (jh G (cM G (aR 12)) (aZ 13) (aG (cN (dU (cQ (bY (uT Z) G hr (eV 3 (eV 6 (eV 13 ao))) (bU (bU (bU len0)))))) (aG (aX gG)) cj))))))))))))))
   (aG (cN (dU (cQ (oJ G Z.oY (bC (aF (bf (gW ["_law_script","_law_k","_law_pack_here","_law_stock_here","_law_sounds_here","_law_turn","_law_rule_here","_law_text","_law_found","_law_every","_law_ahead","_law_behind","_law_markss","_law_marks","_law_four","_law_odd"] 15 dG G (cM G (bY (yz Z) G hr (eV 6 (eV 4 ao)) (bU (bU len0)))) (λX1 h1=>by have G:=G.at h1;obtain⟨_,_,_,_,_,rfl⟩:=h1;exact(aZ 15)) (λX1 h1=>by have G:=G.at h1;obtain⟨_,_,_,_,_,rfl⟩:=h1;exact cO) (λX1 h1=>by have G:=G.at h1;obtain⟨_,_,_,_,_,rfl⟩:=h1;exact(bY (jP Z) G hr (eV 3 (eV 15 (aj aV ao))) (bU (bU (bU len0)))))))))))) (aG (aX gG)) cj)))))))
   (aC (bV 14 (cA (aj (cA (aj (aq [97]) (aj (cA ao) ao))) (aj (cA (aj (aq [98]) (aj (cA ao) ao))) (aj (cA (aj (aq [99]) (aj (cA ao) ao))) (aj (cA (aj (aq [100]) (aj (cA ao) ao))) ao))))))
   (aC (bV 6 (cA (aj (aq [97,108,111,110,103]) (aj (cA (aj (cA (aj (aq [97]) (aj (aq [98]) ao))) (aj (cA (aj (aq [98]) (aj (aq []) ao))) (aj (cA (aj (aq [99]) (aj (aq [100]) ao))) (aj (cA (aj (aq [100]) (aj (aq [97]) ao))) ao))))) (aj (cA (aj (aq [35]) (aj (aq [97]) ao))) (aj gM ao))))))
   (aC (cN (jT (jN (iw (GC G) (bY (qF Z) G hr (eV 6 ao) (bU len0)) (aF (aq [97,108,111,110,103,32,97,62,98,32,98,62,48,32,99,62,100,32,100,62,97,32,47,32,35,97,32,95,32,42]))) (ji (iw (GC G) (bY (jX Z) G hr (eV 14 (aj (bY (qF Z) G hr (eV 6 ao) (bU len0)) ao)) (bU (bU len0))) (bN 6))))) (aG (aX gG)) cj)
   (aG (aX (oJ G Z.oY (bC (aF (bf (gW ["_law_script","_law_k","_law_pack_here","_law_stock_here","_law_sounds_here","_law_turn","_law_rule_here","_law_text","_law_found","_law_every","_law_ahead","_law_behind","_law_markss","_law_marks","_law_four","_law_thing"] 15 dG G (cM G (bf (rG (bh gM (bh aV (bh gG (bh (cA ao) (bh (bf (bK (aj (aq [111,110,99,101,32,97,62,48,32,47,32,42,32,95,32,42]) ao))) (bh (bf Dc) nY))))))))) (λX1 h1=>by have G:=G.at h1;obtain⟨_,_,_,_,_,rfl⟩:=h1;exact(aZ 15)) (λX1 h1=>by have G:=G.at h1;obtain⟨_,_,_,_,_,rfl⟩:=h1;exact cO) (λX1 h1=>by have G:=G.at h1;obtain⟨_,_,_,_,_,rfl⟩:=h1;exact(bY (jP Z) G hr (aj (cA (aj (cA (aj (aq [97]) (aj (cA ao) ao))) ao)) (eV 15 (aj gM ao))) (bU (bU (bU len0))))))))))))))))))
end
end mH
namespace yo
open Ev
def mW:cR:=mH.mW
def gZ:LD:=gV 1 mW
def jL:cR:=aL (bA (Zi 0) (au 2)) (aL (gA (dR (bM (aa (aA aP 1 (Zi 1)) (Zv 1 ak)))) (au 3) (bA (az aP (aA n8 2 (az Mh (Zi 10) (Zi 60))) (aB gZ (aa (az je (az aP (Ce (aK 0) (pR (aK 3)) (pR (aA aP 3 (Zi 1)))) (bM (aa (az aP (az n8 (Zi 7919) (bw 3)) (Zi 61)) ak))) (Zi 0)) ak))) (au 2))) (zb (bM (Zv 2 ak))))
def jJ:LD:=runN 4 jL
def mq:cR:=mH.mq
def bJ:List D->Option (D×D):=mL 3 mq
def j7:cR:=aL (gw (fB (az kJ (gB bJ 0 (aa (Zi 2) ak)) (Zi 0))) (bW (jR .non)) cP) (aL (bA (az aP (Zi 1) (gB bJ 0 (aa (az Af (az Rq (Zi 2) (aB gJ (aa (bw 1) ak))) (Zi 1)) ak))) (au 2)) (aL (bA (az aP (Zw [35]) (bw 1)) (au 3)) (bW (aB fG (aa (fj 4 5 (fV (aa (aB gJ (aa (bw 3) ak)) ak)) (au 4) (fB (az kJ (az Jp (aA Gi 2 (bw 4)) (Zi 1)) (Zi 1))) (aA je 3 (bw 4))) ak)))))
def gb:List D->Option (D×D):=mL 4 j7
def iI:cR:=aL (gw (fB (az kJ (gB bJ 0 (aa (Zi 5) ak)) (Zi 0))) (bW (cG (aa (cG (aa (Zw []) (aa (aA je 1 (gB bJ 0 (aa (aB gJ (aa (bw 1) ak)) ak))) ak))) ak))) cP) (aL (eN 2 (Al)) (aL (gA (fV (aa (az aP (Zi 1) (gB bJ 0 (aa (Zi 3) ak))) ak)) (au 3) (aL (bA (aA je 1 (gB bJ 0 (aa (aB gJ (aa (bw 1) ak)) ak))) (au 4)) (aL (eN 5 (fj 6 7 (dR (az aP (aB Dv (aa (bw 1) ak)) (bM (aa (Zw []) ak)))) (au 6) (fB (aA Bp 6 (bw 4))) (aK 6))) (sZ 2 (aK 4) (aA je 5 (gB bJ 0 (aa (aB gJ (aa (bw 5) ak)) ak))))))) (bW (aB fG (aa (fj 6 7 (dR (aB iM (aa (bw 2) ak))) (au 6) cV (cG (Zv 6 (aa (aA lg 2 (bw 6)) ak)))) ak)))))
def gF:List D->Option (D×D):=mL 6 iI
open Ev PySem L2
theorem lF{i:Int}{b:Nat}(h:i.natAbs<2^b):Builtin.Int.intBits i<=b:=by
 unfold Builtin.Int.intBits;split
 ·exact Qzy _
 ·rename_i h0;have hz:i.natAbs≠0:=λz=>h0 (by rw[Int.natAbs_eq_zero.mp z];rfl);exact(Nat.log2_lt hz).mpr h
theorem lW{i j:Int}{a b:Nat}(h1:Builtin.Int.intBits i<=a)(h2:Builtin.Int.intBits j<=b)(h:a+b<=134217728):jl i j=true:=
 Qw8 (by omega)
def Vq(i:Int):Int:=i*262406895267124108351839057402211873468251940277165213587343 % 10^60
theorem Y9(i:Int):(Vq i).natAbs<2^200:=by
 unfold Vq;have h1:0<=i*262406895267124108351839057402211873468251940277165213587343 % 10^60:=Int.emod_nonneg _ (by decide);have h2:i*262406895267124108351839057402211873468251940277165213587343 % 10^60<10^60:=Int.emod_lt_of_pos _ (by decide);have h3:(10:Int)^60<=2^200:=by decide
 omega
theorem mixed{i:Int}(h:Builtin.Int.intBits i<=2^20):gZ [.int i]=some (.int (Vq i)):=by
 have hm:jl i 262406895267124108351839057402211873468251940277165213587343=true:=lW h (lF (b:=198) (by decide)) (by decide);have e1:aA n8 0 (Zi 262406895267124108351839057402211873468251940277165213587343) [Zf (.int i)] = .ok (.int (i*262406895267124108351839057402211873468251940277165213587343)) [Zf (.int i)]:=by
  show fJ (gI jl (λi j=>D.int (i*j)) (.int i) (.int _)) _=_;unfold gI;simp only;rw[if_pos hm]
  rfl
 show(match bW _ [Zf (.int i)] with|.rt false d _=>some d|.nx _=>some .non|_=>none)=_;rw[cB];unfold az;rw[e1]
 rfl
theorem ZR{α:Type}{xs:List α}{lo hi:Option Int}{x:α}(h:x∈cutD xs lo hi):x∈xs:=List.mem_of_mem_drop (List.mem_of_mem_take h)
theorem WK{α:Type}(x:α)(r:List α):sr (x::r) 0=some x:=lG (j:=0) rfl
def lU:cR:=bA (az aP (aA n8 2 (az Mh (Zi 10) (Zi 60))) (aB gZ (aa (az je (az aP (Ce (aK 0) (pR (aK 3)) (pR (aA aP 3 (Zi 1)))) (bM (aa (az aP (az n8 (Zi 7919) (bw 3)) (Zi 61)) ak))) (Zi 0)) ak))) (au 2)
theorem Dg(ns:List Int)(hl:ns.length<=63)(hb:M6 ns)(k a f:Int)(ha:a.natAbs<2^10)(hf:Builtin.Int.intBits f<=2^20) :
  ∃f':Int,lU [Zf (.arr (ns.map .int)),Zf (.int k),Zf (.int f),Zf (.int a)] = .nx [Zf (.arr (ns.map .int)),Zf (.int k),Zf (.int f'),Zf (.int a)]/\(f=0->f'.natAbs<2^200):=by
 generalize hE:([Zf (.arr (ns.map .int)),Zf (.int k),Zf (.int f),Zf (.int a)]:Ev.Env)=env;have m1:jl 7919 a=true:=lW (a:=20) (lF (by decide)) (lF ha) (by decide);have m2:jl f (10^(60:Int).toNat)=true:=lW (b:=200) hf (lF (by decide)) (by decide);have e1:Ce (aK 0) (pR (aK 3)) (pR (aA aP 3 (Zi 1))) env = .ok (.lst (cutD (ns.map .int) (some a) (some (a+1)))) env:=by rw[<-hE];rfl
 have e2:bM (aa (az aP (az n8 (Zi 7919) (bw 3)) (Zi 61)) ak) env = .ok (.lst [.int (7919*a+61)]) env:=by refine qU (aJ (aM (aM rfl (by rw[<-hE];rfl) (Gk m1)) rfl rfl) bQ) Ev.zz1
 generalize hL:cutD (ns.map D.int) (some a) (some (a+1))=L at e1;have hLl:L.length<=63:=by rw[<-hL];exact Qqj (qW _ _ _) (by rw[Qqk];exact hl)
 have e3:az aP (Ce (aK 0) (pR (aK 3)) (pR (aA aP 3 (Zi 1)))) (bM (aa (az aP (az n8 (Zi 7919) (bw 3)) (Zi 61)) ak)) env = .ok (.lst (L++[.int (7919*a+61)])) env:=by exact aM e1 e2 (vo (by show L.length+1<=sizeLine;exact Qqj (Nat.succ_le_succ hLl) (by decide)))
 obtain⟨c,hc,hcb⟩:∃c:Int,sr (L++[.int (7919*a+61)]) 0=some (.int c)/\Builtin.Int.intBits c<=2^20:=by
  cases hLc:L with
  | nil=>
   refine⟨7919*a+61,rfl,Qqj (lF (b:=30) ?_) (by decide)⟩;omega
  | cons y r=>
   have hy:y∈ns.map D.int:=ZR (by rw[hL,hLc];exact Qqv ..);obtain⟨i,hi,rfl⟩:=Qw0.mp hy;exact⟨i,WK _ _,hb i hi⟩
 have e4:aB gZ (aa (az je (az aP (Ce (aK 0) (pR (aK 3)) (pR (aA aP 3 (Zi 1)))) (bM (aa (az aP (az n8 (Zi 7919) (bw 3)) (Zi 61)) ak))) (Zi 0)) ak) env = .ok (.int (Vq c)) env:=by exact aN (aJ (aM e3 rfl hc) bQ) (mixed hcb)
 refine⟨f*10^(60:Int).toNat+Vq c,?_,λh0=>?_⟩
 ·unfold lU;refine bZ (e:=env) ?_ (by rw[<-hE];rfl);have e5:aA n8 2 (az Mh (Zi 10) (Zi 60)) env = .ok (.int (f*10^(60:Int).toNat)) env:=by
   rw[<-hE];exact jc rfl rfl rfl (Gk m2)
  exact aM e5 e4 rfl
 ·rw[h0,Int.zero_mul,Int.zero_add];exact Y9 c
theorem pack(ns:List Int)(hl:ns.length<=63)(hb:M6 ns)(k:Int)(h0:0<=k)(h1:k<=500):∃p:Int,jJ [.arr (ns.map .int),.int k]=some (.lst [.int p]):=by
 obtain⟨f1,e1,b1⟩:=Dg ns hl hb k (k+1) 0 (by omega) (by decide);obtain⟨f2,e2,_⟩:=Dg ns hl hb k k f1 (by omega) (Qqj (lF (b1 rfl)) (by decide));refine⟨f2,?_⟩;have h:jL [Zf (.arr (ns.map .int)),Zf (.int k),Zn,Zn] = .rt true (.lst [.int f2]) [Zf (.arr (ns.map .int)),Zf (.int k),Zf (.int f2),Zf (.int k)]:=by
  unfold jL;refine(aD rfl).trans ?_;refine(aD (e:=[Zf (.arr (ns.map .int)),Zf (.int k),Zf (.int f2),Zf (.int k)]) ?_).trans rfl;refine(fC rfl).trans ?_;show j4 (au 3) lU [.int (k+1),.int k] _=_;unfold j4;show(match lU [Zf (.arr (ns.map .int)),Zf (.int k),Zf (.int 0),Zf (.int (k+1))] with|.nx e2=>j4 (au 3) lU [.int k] e2|.ct e2=>_|.bk e2=>_|.rt o d e2=>_|.stuck=>_)=_;rw[e1];simp only;unfold j4;show(match lU [Zf (.arr (ns.map .int)),Zf (.int k),Zf (.int f1),Zf (.int k)] with|.nx e2=>j4 (au 3) lU [] e2|.ct e2=>_|.bk e2=>_|.rt o d e2=>_|.stuck=>_)=_;rw[e2]
  rfl
 show(match jL _ with|.rt true d _=>some d|_=>none)=_;have e:envOf 4 [D.arr (ns.map .int),.int k]=[Zf (.arr (ns.map .int)),Zf (.int k),Zn,Zn]:=rfl;rw[e,h]
def known:D:=.lst [.str [115,116,111,112],.str [115,116,111,112,115],.str [115],.str [111,112,101,110],.str [97,98,99,100,101,102,103,104]]
def uC:cR:=bA (aB iM (aa (fj 7 8 (fV (aa (Zi 5) ak)) (au 7) (fB (az kJ (az Jp (aA Gi 5 (bw 7)) (Zi 1)) (Zi 1))) (aA je 2 (bw 7))) ak)) (au 6)
def mk(d:Nat):D:=match uC [Zn,Zn,Zf known,Zn,Zn,Zf (.int d),Zn] with
 | .nx e=>(match e[6]? with|some (some (_,z))=>z|_=>.non)
 | _=>.non
def AllB(P:Nat->Prop):Nat->Prop
 | 0=>True
 | n+1=>AllB P n/\P n
theorem WL{P:Nat->Prop}:∀{n:Nat},AllB P n->∀d,d<n->P d
 | 0,_,d,h=>absurd h (Nat.not_lt_zero d)
 | n+1,⟨a,b⟩,d,h=>by
  by_cases e:d=n
  ·subst e;exact b
  ·exact WL a d (by omega)
theorem marks(d:Nat)(hd:d<32)(a b c e f:OD):uC [a,b,Zf known,c,e,Zf (.int d),f] = .nx [a,b,Zf known,c,e,Zf (.int d),Zf (mk d)]:=by refine WL (P:=λd=>uC [a,b,Zf known,c,e,Zf (.int (d:Nat)),f] = .nx [a,b,Zf known,c,e,Zf (.int (d:Nat)),Zf (mk d)]) ?_ d hd;and_intros<;>first|exact True.intro|kernel_rfl
def agp:D->Bool
 | .lst _=>true
 | _=>false
theorem Vp(d:Nat)(hd:d<32):∃zs,mk d = .lst zs:=by
 have h:((List.range 32).all λd=>agp (mk d))=true:=by decide +kernel
 have h1:=Qq8.mp h d (Qx1.mpr hd);cases e:mk d with
 | lst zs=>exact⟨zs,rfl⟩
 | _=>rw[e] at h1;cases h1
theorem HB{i:Nat}{a:Ev}{env e:Ev.Env}{d:D}{xs x0:List D}(h0:env[i]? = some (Zl x0))(h1:a env = .ok d e)(h2:e[i]? = some (Zl xs))(hz:xs.length<sizeLine):qb i a env = .nx (e.set i (Zl (xs++[d]))):=by unfold qb;rw[h0];show jB (a env) _=_;rw[h1];show(match e[i]? with|some (some (true,.lst xs))=>if xs.length<sizeLine then Out.nx (e.set i (Zl (xs++[d]))) else .stuck|_=>.stuck)=_;rw[h2];show(if xs.length<sizeLine then _ else _)=_;rw[if_pos hz]
def nU:cR:=aL (bA (gB bJ 0 (aa (Zi 32) ak)) (au 5)) (aL uC (qb 3 (cG (Zv 4 (aa (aB fG (aa (Ce (aK 6) lr (pR (Zi 4))) ak)) ak)))))
structure XOk(x:List Nat):Prop where
 len:x.length<=4
 pos:0<x.length
 nd:x.Nodup
 ne:35 ∉ x
inductive XSt
 | mk
def XS:XSt:=.mk
instance:Membership (List Nat) XSt:=⟨λ_ x=>XOk x⟩
theorem yl{x:List Nat}(h:x∈XS):XOk x:=h
theorem WT{x:List Nat}(h:XOk x):x∈XS:=h
theorem qY:∀x∈XS,x.length<=4:=λ_ h=>(yl h).len
theorem WR{x:List Nat}(h:x∈XS):(∃a,x=[a])\/(∃a b,x=[a,b])\/(∃a b c,x=[a,b,c])\/∃a b c d,x=[a,b,c,d]:=by
 have h1:=(yl h).len;have h2:=(yl h).pos
 match x,h1,h2 with
 | [a],_,_=>exact .inl ⟨a,rfl⟩
 | [a,b],_,_=>exact .inr (.inl ⟨a,b,rfl⟩)
 | [a,b,c],_,_=>exact .inr (.inr (.inl ⟨a,b,c,rfl⟩))
 | [a,b,c,d],_,_=>exact .inr (.inr (.inr ⟨a,b,c,d,rfl⟩))
theorem join_eq:∀x∈XS,jo (.str []) (.lst (dI x))=some (.str x):=by intro x hx;rcases WR hx with ⟨a,rfl⟩|⟨a,b,rfl⟩|⟨a,b,c,rfl⟩|⟨a,b,c,d,rfl⟩<;>rfl
theorem ZJ{a:di}{env e:Ev.Env}{ds ys:List D}(h:a env = .ok ds e)(h':qy ds=some ys):fV a env = .ok ys e:=by
 unfold fV;rw[h];show fJ (qy ds) e=_;rw[h']
 rfl
theorem rn(n:Int)(m:Nat)(h0:0<m)(h1:m<1073741824):bJ [.lst [.int n],.int (m:Int)]=some (.int (n % m),.lst [.int (n / m)]):=by
 refine jW (env:=[Zl [.int (n / m)],Zf (.int m),Zf (.int (n % m))]) ?_ rfl;unfold mq;have g:vm [.int n,.int (m:Int)]=some (.tup [.int (n / m),.int (n % m)]):=by show(if 0<(m:Int)/\(m:Int)<1073741824 then _ else _)=_;rw[if_pos (by omega)]
 refine(aD (e:=[Zl [.int (n / m)],Zf (.int m),Zf (.int (n % m))]) ?_).trans rfl;exact bZ (aN (by rfl) g) (by rfl)
def M(x:List Nat):Nat:=2*2^x.length - 1
def TQ:cR:=aL (bA (az aP (Zw [35]) (bw 1)) (au 3)) (bW (aB fG (aa (fj 4 5 (fV (aa (aB gJ (aa (bw 3) ak)) ak)) (au 4) (fB (az kJ (az Jp (aA Gi 2 (bw 4)) (Zi 1)) (Zi 1))) (aA je 3 (bw 4))) ak)))
def bit(d k:Nat):Bool:=Builtin.bitAnd ((1+(d:Int)) / 2^k) 1 == 1
def sgR(x:List Nat)(d:Nat):D:=.tup ((((List.range (x.length+1)).filter (bit d)).map λk=>(35::x).getD k 0).map λc=>.str [c])
def SG(x:List Nat):List D:=.non::(List.range (M x)).map (sgR x)
theorem XH(a:OD):∀x∈XS,∀d,d<M x->∃e3,TQ [a,Zs x,Zf (.int (1+(d:Int))),Zn] = .rt false (sgR x d) [a,Zs x,Zf (.int (1+(d:Int))),e3]:=by
 intro x hx d hd;have hl:=qY x hx;refine⟨Zs (35::x),?_⟩;unfold TQ;refine(aD (bZ (d:=.str (35::x)) (aM rfl rfl ?_) rfl)).trans ?_
 ·unfold aP;exact if_pos (Qqj (show 1+x.length<=5 by omega) (by decide))
 ·have h:fj 4 5 (fV (aa (aB gJ (aa (bw 3) ak)) ak)) (au 4) (fB (az kJ (az Jp (aA Gi 2 (bw 4)) (Zi 1)) (Zi 1))) (aA je 3 (bw 4)) [a,Zs x,Zf (.int (1+(d:Int))),Zs (35::x)] = .ok (.lst (((List.range (x.length+1)).filter (bit d)).map λk=>.str [(35::x).getD k 0])) [a,Zs x,Zf (.int (1+(d:Int))),Zs (35::x)]:=by
   refine Gq (n:=5) (List.range (x.length+1)) (λ(k:Nat)=>.int (k:Int)) (bit d) (λk=>.str [(35::x).getD k 0]) ?_ rfl rfl (λk hk=>?_) (λk hk _=>?_) (by rw[List.length_range];exact Qqj (show x.length+1<=5 by omega) (by decide))
   ·exact ZJ rfl (aft (Qx6 (show(35::x).length<=5 by rw[Qq0];omega) (by decide)))
   ·refine cI (aM (aM (x:=.int ((1+(d:Int)) / 2^k)) ?_ rfl rfl) rfl rfl);refine jc (i:=2) rfl rfl rfl ?_;unfold Gi gI;simp only;rw[if_pos (Qw8 (Int.natCast_nonneg k)),Qjj]
   ·refine jc (i:=3) rfl rfl rfl ?_;show(sr (35::x) (k:Int)).map _=_;have hk':k<(35::x).length:=Qx1.mp hk;rw[lG (v:=(35::x).getD k 0) (by rw[Qzj,Qx5 hk'];rfl)]
    rfl
  refine cB (aN (aJ h bQ) ?_);unfold sgR;rw[Qxv]
  rfl
theorem signs(n:Int)(x:List Nat)(hx:x∈XS):∃r n',gb [.lst [.int n],.str x]=some (r,.lst [.int n'])/\r∈SG x:=by
 obtain⟨d,hd,e⟩:=dig n 2 (by decide);have t:fB (az kJ (gB bJ 0 (aa (Zi 2) ak)) (Zi 0)) [Zl [.int n],Zs x,Zn,Zn] = .ok ((d:Int) == 0) [Zl [.int (n / 2)],Zs x,Zn,Zn]:=by
  rw[<-e]
  rfl
 have hc:d=0\/d=1:=by omega
 rcases hc with rfl|rfl
 ·refine⟨.non,n / 2,jW (env:=[Zl [.int (n / 2)],Zs x,Zn,Zn]) ?_ rfl,Qqv ..⟩;unfold j7;refine(iG ?_).trans rfl;exact(lM t).trans rfl
 ·obtain⟨k,hk,ek⟩:=dig (n / 2) (M x) (by unfold M;have:0<2^x.length:=Nat.two_pow_pos _;omega);obtain⟨e3,h3⟩:=XH (Zl [.int (n / 2 / (M x:Int))]) x hx k hk;refine⟨sgR x k,n / 2 / (M x:Int),jW (env:=[Zl [.int (n / 2 / (M x:Int))],Zs x,Zf (.int (1+(k:Int))),e3]) ?_ rfl,Qqy _ (Qw0.mpr ⟨k,Qx1.mpr hk,rfl⟩)⟩;unfold j7;refine(aD (e:=[Zl [.int (n / 2)],Zs x,Zn,Zn]) ?_).trans ?_
  ·exact(eO t).trans rfl
  ·refine(aD (e:=[Zl [.int (n / 2 / (M x:Int))],Zs x,Zf (.int (1+n / 2 % (M x:Int))),Zn]) ?_).trans ?_
   ·have hM:az Af (az Rq (Zi 2) (aB gJ (aa (bw 1) ak))) (Zi 1) [Zl [.int (n / 2)],Zs x,Zn,Zn] = .ok (.int (M x:Int)) [Zl [.int (n / 2)],Zs x,Zn,Zn]:=by
     have hl:=qY x hx;refine aM (x:=.int (2*2^x.length)) (aM rfl rfl ?_) rfl ?_
     ·unfold Rq gI;simp only;rw[if_pos (Qw8 ⟨Int.natCast_nonneg _,by omega,by decide⟩),Qjj]
     ·show some (D.int (2*2^x.length - 1))=_;have hp:0<2^x.length:=Nat.two_pow_pos _;have e:((M x:Nat):Int)=2*2^x.length - 1:=by
       unfold M;rw[Int.natCast_sub (by omega),Int.natCast_mul,Int.natCast_pow]
       rfl
      rw[e]
    have ht:bJ [.lst [.int (n / 2)],.int (M x:Int)]=some (.int (n / 2 % (M x:Int)),.lst [.int (n / 2 / (M x:Int))]):=by have hl:=qY x hx;have hp:0<2^x.length:=Nat.two_pow_pos _;have hq:2^x.length<=2^4:=Nat.pow_le_pow_right (by decide) hl;exact rn (n / 2) (M x) (by unfold M;omega) (by unfold M;omega)
    refine bZ (aM rfl (jq rfl (aJ hM bQ) rfl ht) rfl) rfl
   ·rw[ek];exact h3
def oth(x:List Nat)(c:Nat):List D:=((x.map (λa=>[a])++[[]]).filter λz=>z != [c]).map .str
def PV(x:List Nat):List (Nat×D):=x.flatMap λc=>(oth x c).map λv=>(c,v)
def one:cR:=bA (aA je 1 (gB bJ 0 (aa (aB gJ (aa (bw 1) ak)) ak))) (au 4)
def others:cR:=eN 5 (fj 6 7 (dR (az aP (aB Dv (aa (bw 1) ak)) (bM (aa (Zw []) ak)))) (au 6) (fB (aA Bp 6 (bw 4))) (aK 6))
def Uw:cR:=sZ 2 (aK 4) (aA je 5 (gB bJ 0 (aa (aB gJ (aa (bw 5) ak)) ak)))
theorem QT(a b v3 v5:OD):∀x∈XS,∀c∈x,others [a,Zs x,b,v3,Zs [c],v5] = .nx [a,Zs x,b,v3,Zs [c],Zl (oth x c)]:=by
 intro x hx c hc;have hl:=qY x hx;unfold others;refine(lL (e:=[a,Zs x,b,v3,Zs [c],v5]) ?_).trans rfl;have h5:(x.map (λa=>[a])++[[]]).length<=5:=by rw[Qqq,Qqk];exact Nat.succ_le_succ hl
 refine Gq (n:=7) (x.map (λa=>[a])++[[]]) D.str (λz=>z != [c]) D.str ?_ rfl rfl (λz hz=>rfl) (λz hz _=>rfl) (Qqj h5 (by decide));refine ph (d:=.lst (((x.map λa=>[a])++[[]]).map D.str)) (aM rfl rfl ?_) rfl;rw[Qxz,Qxv];refine vo (a:=dI x) ?_;unfold dI;rw[Qqk];exact Qqj (Nat.succ_le_succ hl) (by decide)
theorem YF:∀x∈XS,∀c∈x,(oth x c).length=x.length:=by
 intro x hx c hc;have h1:=List.length_erase_of_mem hc;rw[(yl hx).nd.erase_eq_filter] at h1;have e:(λz:List Nat=>z != [c]) ∘ (λa=>[a])=λa=>a != c:=by
  funext a
  by_cases h:a=c
  ·subst h;show([a] != [a])=(a != a);rw[bne_self_eq_false,bne_self_eq_false]
  ·show([a] != [c])=(a != c);rw[bne_iff_ne.mpr h,bne_iff_ne.mpr λq=>h (List.cons.inj q).1]
 unfold oth;rw[Qqk,List.filter_append,List.filter_map,e,Qqq,Qqk,h1];have:=(yl hx).pos;show x.length - 1+1=_;omega
theorem G4:∀x∈XS,0<x.length:=λ_ h=>(yl h).pos
theorem Qp{i:Nat}{k a:Ev}{env e1 e2:Ev.Env}{d kd x0:D}{o:Bool}{q:Key}{kvs:List (D×D)}(h1:a env = .ok d e1)(h2:e1[i]? = some (some (o,x0)))(h3:k e1 = .ok kd e2)(h4:e2[i]? = some (Zt (.dct kvs)))(h5:yF kd=some q)(hz:kvs.length<sizeLine) :
  sZ i k a env = .nx (e2.set i (Zt (.dct (putD kvs kd q d)))):=by
 unfold sZ;rw[h1];simp only[jB];rw[h2];simp only;rw[h3];simp only;rw[h4,h5];simp only;rw[if_pos hz]
def acy(kvs:List (D×D))(p:Nat×D):List (D×D):=putD kvs (.str [p.1]) (.inr (strOf [p.1])) p.2
theorem round(n:Int)(x:List Nat)(hx:x∈XS)(kvs:List (D×D))(hk:kvs.length<=10)(v3 v4 v5:OD):∃p n' v4' v5',p∈PV x/\aL one (aL others Uw) [Zl [.int n],Zs x,Zt (.dct kvs),v3,v4,v5] = .nx [Zl [.int n'],Zs x,Zt (.dct (acy kvs p)),v3,v4',v5']:=by
 have hp:=G4 x hx;have hl4:=qY x hx;obtain⟨d,hd,e⟩:=dig n x.length hp;have hc:x[d]∈x:=List.getElem_mem hd;have hol:=YF x hx x[d] hc;obtain⟨d',hd',e'⟩:=dig (n / (x.length:Int)) x.length hp;have hv:d'<(oth x x[d]).length:=by rw[hol];exact hd'
 refine⟨(x[d],(oth x x[d])[d']),n / (x.length:Int) / (x.length:Int),Zs [x[d]],Zl (oth x x[d]),?_,?_⟩
 ·unfold PV;exact List.mem_flatMap.mpr ⟨x[d],hc,Qw0.mpr ⟨_,List.getElem_mem hv,rfl⟩⟩
 ·refine(aD (e:=[Zl [.int (n / (x.length:Int))],Zs x,Zt (.dct kvs),v3,Zs [x[d]],v5]) ?_).trans ?_
  ·unfold one;refine bZ (e:=[Zl [.int (n / (x.length:Int))],Zs x,Zt (.dct kvs),v3,v4,v5]) ?_ (by rfl);refine jc (y:=.int (n % (x.length:Int))) (by rfl) ?_ (by rfl) ?_
   ·exact jq (e1:=[Zl [.int n],Zs x,Zt (.dct kvs),v3,v4,v5]) (by rfl) (by rfl) (by rfl) (rn n x.length hp (by omega))
   ·show(sr x (n % (x.length:Int))).map _=_;rw[e,Mz hd]
    rfl
  ·refine(aD (QT _ _ _ _ x hx x[d] hc)).trans ?_;unfold Uw;refine(Qp (e1:=[Zl [.int (n / (x.length:Int) / (x.length:Int))],Zs x,Zt (.dct kvs),v3,Zs [x[d]],Zl (oth x x[d])])
    ?_ (by rfl) (by rfl) (by rfl) (by rfl) (Qx6 hk (by decide))).trans rfl
   refine jc (y:=.int (n / (x.length:Int) % (x.length:Int))) (by rfl) ?_ (by rfl) ?_
   ·refine jq (e1:=[Zl [.int (n / (x.length:Int))],Zs x,Zt (.dct kvs),v3,Zs [x[d]],Zl (oth x x[d])]) (by rfl) ?_ (by rfl) (rn _ x.length hp (by omega));refine aJ ?_ bQ;refine aN (by rfl) ?_;show some (D.int ((oth x x[d]).length:Int))=_;rw[hol]
   ·show sr (oth x x[d]) (n / (x.length:Int) % (x.length:Int))=_;rw[e',Mz hv]
def Z0(kvs:List (D×D)):Option D:=match iM [.dct kvs] with
 | some (.lst ks)=>if (ks.all λk=>(lg (.dct kvs) k).isSome) then some (.tup (ks.map λk=>.tup [k,(lg (.dct kvs) k).getD .non])) else none
 | _=>none
def aep:cR:=bW (aB fG (aa (fj 6 7 (dR (aB iM (aa (bw 2) ak))) (au 6) cV (cG (Zv 6 (aa (aA lg 2 (bw 6)) ak)))) ak))
theorem Jm{kvs:List (D×D)}{ks:List D}(h:iM [.dct kvs]=some (.lst ks)):ks.length<=64:=by
 obtain⟨zs,h1,h2⟩:=Qxw.mp h;split at h2
 ·rename_i hz;cases h2;rw[Qqk,(gh zs).length_eq];omega
 ·cases h2
theorem Gw{kvs:List (D×D)}{ch:D}(h:Z0 kvs=some ch)(a b v3 v4 v5:OD):aep [a,b,Zt (.dct kvs),v3,v4,v5] = .rt false ch [a,b,Zt (.dct kvs),v3,v4,v5]:=by
 unfold Z0 at h;split at h
 ·rename_i ks hs;split at h
  ·rename_i hall;cases h;obtain⟨env',h1,v6,rfl⟩:=Oa (g:=au 6) (e:=cG (Zv 6 (aa (aA lg 2 (bw 6)) ak))) (λenv=>∃v6,env=[a,b,Zt (.dct kvs),v3,v4,v5,v6]) (λk=>.tup [k,(lg (.dct kvs) k).getD .non]) ks [a,b,Zt (.dct kvs),v3,v4,v5,Zn] ⟨none,rfl⟩
    (λk hk env ⟨v6,he⟩=>by
     subst he;obtain⟨v,hv⟩:=Qzw.mp (Qq8.mp hall k hk);refine⟨_,[a,b,Zt (.dct kvs),v3,v4,v5,Zf k],rfl,?_,Zf k,rfl⟩;rw[hv];exact ou (aJ (d:=k) (by rfl) (aJ (d:=v) (jc (y:=k) (by rfl) (by rfl) (by rfl) hv) bQ)) Ev.zz2)
   refine cB (aN (ds:=[.lst (ks.map λk=>.tup [k,(lg (.dct kvs) k).getD .non])]) (aJ ?_ bQ) rfl);refine yQ (n:=7) (aH:=[a,b,Zt (.dct kvs),v3,v4,v5]) ?_ (by rfl) h1 ?_
   ·exact ph (aN (by rfl) hs) rfl
   ·rw[Qqk];exact Qqj (Jm hs) (by decide)
  ·cases h
 ·cases h
structure G6(x:List Nat)(kvs:List (D×D))(zs:List Nat):Prop where
 keys:kvs.map (·.1)=zs.map λc=>D.str [c]
 nd:zs.Nodup
 mem:∀c∈zs,c∈x
 vals:∀k v,(k,v)∈kvs->∃c,k = .str [c]/\(c,v)∈PV x
theorem rB{a b:List Nat}(h:strOf a=strOf b):a=b:=by
 have:=Qz0 (λs:Str=>s.cps.toList) h
 simpa[strOf] using this
theorem wA(q:Key)(d:D):∀kvs:List (D×D),(yx kvs q d).map (·.1)=kvs.map (·.1)
 | []=>rfl
 | (k,e)::r=>by
  unfold yx;rw[Qq7,Qq7,wA q d r];split<;>rfl
theorem HF{q:Key}{d:D}:∀{kvs:List (D×D)} {k v:D},(k,v)∈yx kvs q d->(k,v)∈kvs\/(yF k=some q/\v=d)
 | [],_,_,h=>by simp[yx] at h
 | (k',e)::r,k,v,h=>by
  unfold yx at h;rcases Qq1.mp h with h|h
  ·split at h
   ·rename_i hk;cases h;exact .inr ⟨hk,rfl⟩
   ·cases h;exact .inl (Qqv ..)
  ·rcases HF h with h|h
   ·exact .inl (Qqy _ h)
   ·exact .inr h
theorem vW{q:Key}:∀{kvs:List (D×D)},vX kvs q=none->∀k v,(k,v)∈kvs->yF k≠some q
 | [],_,k,v,hm=>by simp at hm
 | (k',e)::r,h,k,v,hm=>by
  unfold vX at h;split at h
  ·cases h
  ·rename_i hk;rcases Qq1.mp hm with hm|hm
   ·cases hm;exact hk
   ·exact vW h k v hm
theorem vV{q:Key}{d:D}:∀{kvs:List (D×D)},vX kvs q=some d->∃k,(k,d)∈kvs/\yF k=some q
 | [],h=>by simp[vX] at h
 | (k',e)::r,h=>by
  unfold vX at h;split at h
  ·rename_i hk;cases h;exact⟨k',Qqv ..,hk⟩
  ·obtain⟨k,h1,h2⟩:=vV h;exact⟨k,Qqy _ h1,h2⟩
theorem G6.put{x:List Nat}{kvs:List (D×D)}{zs:List Nat}(h:G6 x kvs zs){p:Nat×D}(hp:p∈PV x)(hx:p.1∈x):∃zs',G6 x (acy kvs p) zs'/\0<zs'.length/\zs'.length<=zs.length+1:=by
 unfold acy putD;cases e:vX kvs (.inr (strOf [p.1])) with
 | none=>
  simp only[Option.isSome_none,Bool.false_eq_true,if_false];refine⟨zs++[p.1],⟨?_,?_,λc hc=>?_,λk v hm=>?_⟩,by simp,by simp⟩
  ·rw[Qxz,Qxz,h.keys];rfl
  ·refine List.nodup_append.mpr ⟨h.nd,Qj3.mpr ⟨Qwz,.nil⟩,λa ha b hb=>?_⟩;rcases Qww.mp hb with rfl;rintro rfl;have hm:D.str [p.1]∈kvs.map (·.1):=by rw[h.keys];exact Qw0.mpr ⟨p.1,ha,rfl⟩
   obtain⟨⟨k,v⟩,h1,h2⟩:=Qw0.mp hm;have h2':k = .str [p.1]:=h2;subst h2';exact vW e _ _ h1 rfl
  ·rcases Qw4.mp hc with hc|hc
   ·exact h.mem c hc
   ·rw[Qww.mp hc];exact hx
  ·rcases Qw4.mp hm with hm|hm
   ·exact h.vals k v hm
   ·have:=Qww.mp hm;cases this;exact⟨p.1,rfl,hp⟩
 | some w=>
  simp only[Option.isSome_some,if_true];obtain⟨k0,hk0,_⟩:=vV e;have hne:0<zs.length:=by have:=Qz0 List.length h.keys;rw[Qqk,Qqk] at this;rw[<-this];exact List.length_pos_of_mem hk0
  refine⟨zs,⟨by rw[wA];exact h.keys,h.nd,h.mem,λk v hm=>?_⟩,hne,Nat.le_succ _⟩;rcases HF hm with hm|⟨hk,rfl⟩
  ·exact h.vals k v hm
  ·have hin:k∈(yx kvs (.inr (strOf [p.1])) p.2).map (·.1):=Qw0.mpr ⟨_,hm,rfl⟩;rw[wA,h.keys] at hin;obtain⟨c,hc,rfl⟩:=Qw0.mp hin;have:strOf [c]=strOf [p.1]:=by
    have:=Qw9 hk;exact Sum.inr.inj this
   have e2:=rB this;cases e2;exact⟨p.1,rfl,hp⟩
theorem MP{x:List Nat}{p:Nat×D}(h:p∈PV x):p.1∈x:=by unfold PV at h;obtain⟨c,hc,h⟩:=List.mem_flatMap.mp h;obtain⟨v,_,rfl⟩:=Qw0.mp h;exact hc
theorem rA(zs:List (List Nat)):fP (zs.map D.str)=some zs:=by
 induction zs with
 | nil=>rfl
 | cons z r ih=>
  rw[Qq7];unfold fP;rw[ih]
  rfl
theorem Qs{x:List Nat}{kvs:List (D×D)}{zs:List Nat}(h:G6 x kvs zs)(h4:zs.length<=4):iM [.dct kvs]=some (.lst ((fD (zs.map λc=>[c])).map .str)):=by
 have e:kvs.map (·.1)=(zs.map λc=>[c]).map D.str:=by rw[h.keys,Qxv];rfl
 show(fP (kvs.map (·.1))).bind _=_;rw[e,rA];show(if _ then _ else _)=_;rw[if_pos];refine⟨by rw[Qqk];omega,λz hz=>?_⟩;obtain⟨c,_,rfl⟩:=Qw0.mp hz;show 1<=sizeLine
 decide
def prs(kvs:List (D×D))(ks:List D):List D:=ks.map λk=>.tup [k,(lg (.dct kvs) k).getD .non]
theorem Ge{x:List Nat}{kvs:List (D×D)}{zs:List Nat}(h:G6 x kvs zs)(k:D)(hk:k∈(fD (zs.map λc=>[c])).map D.str):∃c v,k = .str [c]/\lg (.dct kvs) k=some v/\(c,v)∈PV x:=by
 obtain⟨z,hz,rfl⟩:=Qw0.mp hk;obtain⟨c,hc,rfl⟩:=Qw0.mp ((gh _).mem_iff.mp hz);have hm:D.str [c]∈kvs.map (·.1):=by rw[h.keys];exact Qw0.mpr ⟨c,hc,rfl⟩
 obtain⟨⟨k,v⟩,h1,h2⟩:=Qw0.mp hm;have h2':k = .str [c]:=h2;subst h2';cases e:vX kvs (.inr (strOf [c])) with
 | none=>exact absurd rfl (vW e _ _ h1)
 | some w=>
  obtain⟨k',h3,h4⟩:=vV e;obtain⟨c',rfl,h5⟩:=h.vals k' w h3;have e2:strOf [c']=strOf [c]:=Sum.inr.inj (Qw9 h4);cases rB e2;exact⟨c,w,rfl,e,h5⟩
theorem Gx{x:List Nat}{kvs:List (D×D)}{zs:List Nat}(h:G6 x kvs zs)(h4:zs.length<=4):Z0 kvs=some (.tup (prs kvs ((fD (zs.map λc=>[c])).map D.str))):=by
 unfold Z0;rw[Qs h h4];simp only;rw[if_pos]
 ·rfl
 ·refine Qq8.mpr λk hk=>?_;obtain⟨c,v,_,e,_⟩:=Ge h k hk;rw[e];rfl
end yo
namespace KX
open Ev PySem L2 PySem.Spec
theorem bT(sep p q:List Nat)(ps:List (List Nat)):bF sep (p::q::ps)=p++sep++bF sep (q::ps):=by
 have h:∀(r:List (List Nat)) (a b:List Nat),r.foldl (λacc y=>acc++sep++y) (a++b)=a++r.foldl (λacc y=>acc++sep++y) b:=by
  intro r
  induction r with
  | nil=>intro a b;rfl
  | cons y r ih=>intro a b;rw[Qx4,Qx4,Qwk,Qwk,ih,<-Qwk b]
 show(q::ps).foldl (λacc y=>acc++sep++y) p=_;rw[Qx4];exact h ps (p++sep) q
open Ev PySem L2
open yo (rA)
structure W0(xs:List (List Nat))(n m:Nat):Prop where
 len:xs.length<=n
 each:∀p∈xs,p.length<=m
theorem yZ{m:Nat}:∀(xs:List (List Nat)),(∀p∈xs,p.length<=m)->(xs.map List.length).sum<=xs.length*m
 | [],_=>by simp
 | p::xs,h=>by
  rw[Qq7,Qjx,Qq0,Nat.succ_mul,Nat.add_comm];exact Nat.add_le_add (yZ xs λq hq=>h q (Qqy _ hq)) (h p (Qqv ..))
theorem W0.sum{xs:List (List Nat)}{n m:Nat}(h:W0 xs n m):(xs.map List.length).sum<=n*m:=
 Qqj (yZ xs h.each) (Nat.mul_le_mul_right _ h.len)
theorem Dq(sep:List Nat):∀xs:List (List Nat),(bF sep xs).length<=(xs.map List.length).sum+xs.length*sep.length
 | []=>Qzy _
 | [p]=>by show p.length<=_;simp
 | p::q::r=>by
  have:=Dq sep (q::r);rw[bT,Qqq,Qqq,Qq7,Qjx,Qq0,Nat.succ_mul];omega
theorem W0.join{xs:List (List Nat)}{n m:Nat}(h:W0 xs n m){sep:List Nat}(hs:sep.length<=2):(bF sep xs).length<=n*m+n*2:=
 Qqj (Dq sep xs) (Nat.add_le_add h.sum (Nat.mul_le_mul h.len hs))
theorem W0.fits{xs:List (List Nat)}{n m:Nat}(h:W0 xs n m){sep:List Nat}(hs:sep.length<=2)(hb:n*m+n*2<=100000):joinFits sep xs=true:=
 Qw8 (Qqj (Qqj (Nat.add_le_add h.sum (Nat.mul_le_mul h.len hs)) hb) (by decide))
theorem t6{xs:List (List Nat)}{n m:Nat}(h:W0 xs n m){sep:List Nat}(hs:sep.length<=2)(hb:n*m+n*2<=100000):jo (.str sep) (.lst (xs.map .str))=some (.str (bF sep xs)):=by show(match fP (xs.map D.str) with|some xs=>if joinFits sep xs=true then some (D.str (bF sep xs)) else none|none=>none)=_;rw[rA];exact if_pos (h.fits hs hb)
theorem adR{xs:List (List Nat)}{n m:Nat}(h:W0 xs n m){sep:List Nat}(hs:sep.length<=2)(hb:n*m+n*2<=100000):uc (.str sep) (.tup (xs.map .str))=some (.str (bF sep xs)):=by show(match fP (xs.map D.str) with|some xs=>if joinFits sep xs=true then some (D.str (bF sep xs)) else none|none=>none)=_;rw[rA];exact if_pos (h.fits hs hb)
theorem wN{z:List Nat}:∀(a b:List (List Nat)),z ∉ a->iz z (a++z::b)=some a.length
 | [],b,_=>by show(if z=z then _ else _)=_;rw[if_pos rfl];rfl
 | y::a,b,h=>by
  show(if y=z then some 0 else (iz z (a++z::b)).map (·+ 1))=_;rw[if_neg λe=>h (by rw[e];exact Qqv ..),wN a b λq=>h (Qqy _ q)]
  rfl
end KX
namespace KP
open Ev PySem L2 PySem.Spec
theorem My(x y:List Nat)(k:Nat):StrLaws.At (strOf x) (strOf y) (strOf x).length k↔k+y.length<=x.length/\(x.drop k).take y.length=y:=by
 show(k+(strOf y).length<=(strOf x).length/\Builtin.Str.subAt (strOf x) (strOf y) k=true)↔_;rw[StrLaws.subAt_eq,aW,aW,beq_iff_eq];have e:∀z:List Nat,(strOf z).cps.toList=z:=λz=>by simp[strOf]
 rw[e,e]
theorem bT(sep p q:List Nat)(ps:List (List Nat)):bF sep (p::q::ps)=p++sep++bF sep (q::ps):=by
 have h:∀(r:List (List Nat)) (a b:List Nat),r.foldl (λacc y=>acc++sep++y) (a++b)=a++r.foldl (λacc y=>acc++sep++y) b:=by
  intro r
  induction r with
  | nil=>intro a b;rfl
  | cons y r ih=>intro a b;rw[Qx4,Qx4,Qwk,Qwk,ih,<-Qwk b]
 show(q::ps).foldl (λacc y=>acc++sep++y) p=_;rw[Qx4];exact h ps (p++sep) q
def Np(sep p:List Nat):Prop:=∀k,k<p.length->((p++sep).drop k).take sep.length≠sep
theorem Np.of{c:Nat}{r p:List Nat}(h:c ∉ p):Np (c::r) p:=λk hk e=>by
 have:=Qz0 List.head? e;rw[Qq0,List.head?_take,if_neg (by omega),List.head?_drop,Qw7 hk] at this;exact h (Qj1 this)
theorem Np.last{sep p pre:List Nat}(h:Np sep p)(hs:0<sep.length){k:Nat}(hk:pre.length<=k):¬StrLaws.At (strOf (pre++p)) (strOf sep) (strOf (pre++p)).length k:=λe=>by
 obtain⟨h1,h2⟩:=(My _ sep k).mp e;obtain⟨j,rfl⟩:=Nat.exists_eq_add_of_le hk;rw[Qqq] at h1;rw[List.drop_append,List.drop_of_length_le (Nat.le_add_right _ _),List.nil_append,Nat.add_sub_cancel_left] at h2;refine h j (by omega) ?_;rw[List.drop_append_of_le_length (by omega),List.take_append_of_le_length (by rw[Qx0];omega)];exact h2
theorem Np.mid{sep p pre rest:List Nat}(h:Np sep p){k:Nat}(hk:pre.length<=k)(hk2:k<pre.length+p.length):¬StrLaws.At (strOf (pre++(p++sep++rest))) (strOf sep) (strOf (pre++(p++sep++rest))).length k:=λe=>by
 obtain⟨h1,h2⟩:=(My _ sep k).mp e;obtain⟨j,rfl⟩:=Nat.exists_eq_add_of_le hk;rw[List.drop_append,List.drop_of_length_le (Nat.le_add_right _ _),List.nil_append,Nat.add_sub_cancel_left] at h2;refine h j (by omega) ?_;rw[List.drop_append_of_le_length (by rw[Qqq];omega),List.take_append_of_le_length (by rw[Qx0,Qqq];omega)] at h2;exact h2
theorem RB{x y:Str}{hi a f:Nat}(h:StrLaws.ChainG x y hi a [] f):f=a:=by unfold StrLaws.ChainG at h;exact h
theorem zG{sep:List Nat}(hs:0<sep.length):∀(ps:List (List Nat)) (p:List Nat) (pre:List Nat) (cuts:List Nat) (f:Nat) (x:List Nat),x=pre++bF sep (p::ps)->(∀q∈p::ps,Np sep q)->
  StrLaws.ChainG (strOf x) (strOf sep) (strOf x).length pre.length cuts f->(∀k,f<=k->¬StrLaws.At (strOf x) (strOf sep) (strOf x).length k)->
  (StrLaws.partsFrom (strOf x) sep.length pre.length cuts).map (λs=>s.cps.toList)=p::ps
 | [],p,pre,cuts,f,x,hx,hp,hc,hf=>by
  have hx':x=pre++p:=hx;cases cuts with
  | nil=>
   show [(Builtin.Str.strSub (strOf x) pre.length (strOf x).length).cps.toList]=[p];rw[StrLaws.strSub_toList,aW];have e:(strOf x).cps.toList=x:=by simp[strOf]
   rw[e,hx',List.drop_left,Qqq,Nat.add_sub_cancel_left,List.take_length]
  | cons i cs=>
   have h:=hc;unfold StrLaws.ChainG at h;have h2:=h.2.1;rw[hx'] at h2;exact absurd h2 ((hp p (Qqv ..)).last hs h.1)
 | q::ps,p,pre,cuts,f,x,hx,hp,hc,hf=>by
  rw[bT] at hx;have hn:∀k,pre.length<=k->k<pre.length+p.length->¬StrLaws.At (strOf x) (strOf sep) (strOf x).length k:=λk hk hk2=>by
   rw[hx];exact(hp p (Qqv ..)).mid hk hk2
  have ha:StrLaws.At (strOf x) (strOf sep) (strOf x).length (pre.length+p.length):=by
   refine(My x sep _).mpr ⟨?_,?_⟩
   ·rw[hx,Qqq,Qqq,Qqq];omega
   ·have e:x=(pre++p)++(sep++bF sep (q::ps)):=by rw[hx];simp
    rw[e,<-Qqq,List.drop_left,List.take_left]
  cases cuts with
  | nil=>
   have h:=RB hc;subst h;exact absurd ha (hf _ (Nat.le_add_right _ _))
  | cons i cs=>
   have h:=hc;unfold StrLaws.ChainG at h;obtain⟨h1,h2,h3,h4⟩:=h;have hi:i=pre.length+p.length:=by
    rcases Nat.lt_trichotomy i (pre.length+p.length) with l|l|l
    ·exact absurd h2 (hn i h1 l)
    ·exact l
    ·exact absurd ha (h3 _ (Nat.le_add_right _ _) l)
   subst hi;show(Builtin.Str.strSub (strOf x) pre.length (pre.length+p.length)).cps.toList::(StrLaws.partsFrom (strOf x) sep.length (pre.length+p.length+sep.length) cs).map (λs=>s.cps.toList)=_;have e0:(strOf x).cps.toList=x:=by simp[strOf]
   have e1:(Builtin.Str.strSub (strOf x) pre.length (pre.length+p.length)).cps.toList=p:=by rw[StrLaws.strSub_toList,e0,hx,List.drop_left,Nat.add_sub_cancel_left,Qwk,List.take_left]
   have e2:pre.length+p.length+sep.length=(pre++p++sep).length:=by rw[Qqq,Qqq]
   have e3:(strOf sep).length=sep.length:=aW _;rw[e3,e2] at h4;rw[e1,e2,zG hs ps q (pre++p++sep) cs f x (by rw[hx];simp) (λz hz=>hp z (Qqy _ hz)) h4 hf]
theorem K3{sep:List Nat}(hs:0<sep.length)(hk:Builtin.Str.strKind (strOf sep)=1)(p:List Nat)(ps:List (List Nat))(hp:∀q∈p::ps,Np sep q):qd (bF sep (p::ps)) sep=p::ps:=by
 have hk:∀z,¬Builtin.Str.strKind z<Builtin.Str.strKind (strOf sep):=λz=>by
  rw[hk];unfold Builtin.Str.strKind;split<;>(try split)<;>(try split)<;>omega
 unfold qd Txt.split;generalize hx:bF sep (p::ps)=x;obtain⟨f,h1,h2⟩:=StrLaws.occ_tight (strOf x) (strOf sep) (by rw[aW];omega);have key:=zG hs ps p [] _ f x (by rw[<-hx];rfl) hp h1 h2;split
 ·rename_i hc;have hl:x.length<sep.length:=by
   rcases Bool.or_eq_true_iff.mp hc with h|h
   ·have:=Qw3 h;rw[aW,aW] at this;exact this
   ·exact absurd (Qw3 h) (hk _)
  cases ps with
  | nil=>
   have:x=p:=hx.symm;show [(strOf x).cps.toList]=[p];rw[this];simp[strOf]
  | cons q ps=>
   rw[bT] at hx;rw[<-hx,Qqq,Qqq] at hl;omega
 ·split
  ·rename_i h0 he;have e:=List.isEmpty_iff.mp he;rw[e] at key;have:[(Builtin.Str.strSub (strOf x) 0 (strOf x).length).cps.toList]=p::ps:=key;rw[<-this,StrLaws.strSub_toList];have e0:(strOf x).cps.toList=x:=by simp[strOf]
   rw[e0,aW];simp[e0]
  ·rw[StrLaws.partsBetween_eq,aW];exact key
theorem strs_map(zs:List (List Nat)):fP (zs.map D.str)=some zs:=by
 induction zs with
 | nil=>rfl
 | cons z r ih=>rw[Qq7];show(fP _).map _=_;rw[ih];rfl
def gK(c:Nat):List Nat->List (List Nat)
 | []=>[[]]
 | a::t=>if a=c then []::gK c t else match gK c t with
  | []=>[[a]]
  | p::ps=>(a::p)::ps
theorem jV(c:Nat):∀t,∃p ps,gK c t=p::ps
 | []=>⟨_,_,rfl⟩
 | a::t=>by
  obtain⟨p,ps,e⟩:=jV c t;unfold gK;rw[e];split
  ·exact⟨_,_,rfl⟩
  ·exact⟨_,_,rfl⟩
theorem jU(c:Nat):∀t,bF [c] (gK c t)=t
 | []=>rfl
 | a::t=>by
  have ih:=jU c t;obtain⟨p,ps,e⟩:=jV c t;unfold gK;rw[e] at ih ⊢;split
  ·rename_i h;rw[bT,ih,h]
   rfl
  ·show bF [c] ((a::p)::ps)=_;cases ps with
   | nil=>rw[<-ih];rfl
   | cons q ps=>rw[bT] at ih ⊢;rw[<-ih];rfl
theorem uD(c:Nat):∀t,∀p∈gK c t,c ∉ p
 | [],p,h=>by rcases Qww.mp h with rfl;exact Qwz
 | a::t,p,h=>by
  obtain⟨q,qs,e⟩:=jV c t;have ih:=uD c t;unfold gK at h;rw[e] at h ih;split at h
  ·rcases Qq1.mp h with rfl|h
   ·exact Qwz
   ·exact ih p h
  ·rename_i n;rcases Qq1.mp h with rfl|h
   ·intro hc;rcases Qq1.mp hc with rfl|hc
    ·exact n rfl
    ·exact ih q (Qqv ..) hc
   ·exact ih p (Qqy _ h)
theorem Eu(c:Nat):∀(ps:List (List Nat)) (p:List Nat),(∀q∈p::ps,c ∉ q)->gK c (bF [c] (p::ps))=p::ps:=by
 have one:∀(p t:List Nat),c ∉ p->gK c (p++c::t)=p::gK c t:=by
  intro p
  induction p with
  | nil=>intro t _;exact if_pos rfl
  | cons a p ih=>
   intro t h;have h2:a≠c:=λe=>h (e ▸ Qqv ..);show(if a=c then []::gK c (p++c::t) else match gK c (p++c::t) with
    | []=>[[a]]
    | p::ps=>(a::p)::ps)=_
   rw[if_neg h2,ih t λhc=>h (Qqy _ hc)]
 have last:∀p:List Nat,c ∉ p->gK c p=[p]:=by
  intro p
  induction p with
  | nil=>intro _;rfl
  | cons a p ih=>
   intro h;have h2:a≠c:=λe=>h (e ▸ Qqv ..);show(if a=c then []::gK c p else match gK c p with
    | []=>[[a]]
    | p::ps=>(a::p)::ps)=_
   rw[if_neg h2,ih λhc=>h (Qqy _ hc)]
 intro ps
 induction ps with
 | nil=>intro p h;exact last p (h p (Qqv ..))
 | cons q ps ih=>
  intro p h;rw[bT,Qwk];show gK c (p++c::bF [c] (q::ps))=_;rw[one p _ (h p (Qqv ..)),ih q λz hz=>h z (Qqy _ hz)]
theorem join_le(sep:List Nat):∀(xs:List (List Nat)),∀q∈xs,q.length<=(bF sep xs).length
 | [],q,h=>nomatch h
 | [p],q,h=>by rcases Qww.mp h with rfl;exact Qq2 _
 | p::r::xs,q,h=>by
  rw[bT,Qqq,Qqq];rcases Qq1.mp h with rfl|h
  ·omega
  ·have:=join_le sep (r::xs) q h;omega
theorem xg{sep:List Nat}(hs:0<sep.length):∀(xs:List (List Nat)),xs.length<=(bF sep xs).length+1
 | []=>Qzy _
 | [p]=>by show 1<=_;omega
 | p::r::xs=>by
  have:=xg hs (r::xs);rw[bT,Qqq,Qqq,Qq0];omega
theorem CT{sep p:List Nat}{ps:List (List Nat)}(hs:0<sep.length)(hk:Builtin.Str.strKind (strOf sep)=1)(hp:∀q∈p::ps,Np sep q)(hl:(bF sep (p::ps)).length<=100000):gk (.str (bF sep (p::ps))) (.str sep)=some (.lst ((p::ps).map .str)):=by
 have e:=K3 hs hk p ps hp;have hz:(100001:Nat)<=sizeLine:=by decide
 have h1:=xg hs (p::ps);show(if _ then some (D.lst ((qd (bF sep (p::ps)) sep).map .str)) else none)=_;rw[e];refine if_pos ⟨λz=>by rw[z] at hs;exact absurd hs (by decide),by omega,by omega,λq hq=>?_⟩;have:=join_le sep (p::ps) q hq;omega
theorem rD{c:Nat}(hk:Builtin.Str.strKind (strOf [c])=1){t:List Nat}(hl:t.length<=100000):gk (.str t) (.str [c])=some (.lst ((gK c t).map .str)):=by
 obtain⟨p,ps,e⟩:=jV c t;have h:=jU c t;have hf:=uD c t;rw[e] at h hf ⊢;have:=CT (sep:=[c]) (p:=p) (ps:=ps) (by show 0<1;omega) hk (λq hq=>Np.of (hf q hq)) (by rw[h];exact hl)
 rwa [h] at this
theorem toL(z:List Nat):(strOf z).cps.toList=z:=by simp[strOf]
theorem Xw(s:Str):strOf s.cps.toList=s:=by cases s;simp[strOf]
theorem HW{a b p:List Nat}{ps:List (List Nat)}(ha:0<a.length)(hp:∀q∈p::ps,Np a q):uK (bF a (p::ps)) a b=bF b (p::ps):=by
 unfold uK Txt.replace;generalize hx:bF a (p::ps)=x;obtain⟨f,h1,h2⟩:=StrLaws.occ_tight (strOf x) (strOf a) (by rw[aW];omega);have key:=zG ha ps p [] _ f x (by rw[<-hx];rfl) hp h1 h2;have hz:((strOf a).length == 0)=false:=by rw[aW];exact beq_false_of_ne (by omega)
 rw[hz,Bool.false_and,Bool.or_false];split
 ·rename_i he;have e:=List.isEmpty_iff.mp he;rw[e] at key;have k:[(Builtin.Str.strSub (strOf x) 0 (strOf x).length).cps.toList]=p::ps:=key;rw[StrLaws.strSub_toList,toL,aW] at k;rw[<-k,toL];show x=(List.take (x.length - 0) (List.drop 0 x));simp
 ·rw[StrLaws.partsBetween_eq,aW];have key:(StrLaws.partsFrom (strOf x) a.length 0 (Builtin.Str.occurrences (strOf x) (strOf a) 0 (strOf x).length ((strOf x).length+1))).map (λs=>s.cps.toList)=p::ps:=key;generalize StrLaws.partsFrom (strOf x) a.length 0 (Builtin.Str.occurrences (strOf x) (strOf a) 0 (strOf x).length ((strOf x).length+1))=Z at key ⊢;have k2:=Aa b (p::ps);rw[<-key,Qxv] at k2;have e3:Z.map (strOf ∘ λs=>s.cps.toList)=Z:=(Qz5 λs _=>Xw s).trans (List.map_id _);rw[e3,key] at k2;have k3:=Qz0 (λs:Str=>s.cps.toList) k2;exact k3.trans (toL _)
end KP
namespace mH
open Ev PySem L2
open KP
def oD:Option (List Nat)->D
 | none=>.non
 | some z=>.str z
def Jh(x:List Nat):Option (List Nat)->Bool
 | some [c]=>x.contains c
 | _=>false
theorem str1(a b:List Nat):bD 59 (.str a) (.str b)=some (a == b):=rfl
theorem aih(x:List Nat)(a:Option (List Nat)):G8 (oD a) (dI x)=some (Jh x a):=by
 induction x with
 | nil=>
  show some false=some (Jh [] a);unfold Jh;split<;>rfl
 | cons c x ih=>
  show(match bD 59 (.str [c]) (oD a),G8 (oD a) (dI x) with|some a,some b=>some (a||b)|_,_=>none)=_;rw[ih];cases a with
  | none=>rfl
  | some z=>
   show(match bD 59 (.str [c]) (.str z),some (Jh x (some z)) with|some a,some b=>some (a||b)|_,_=>none)=_;rw[str1];show some (([c] == z)||Jh x (some z))=_
   congr 1
   match z with
   | []=>rfl
   | [d]=>
    show(([c] == [d])||x.contains d)=(c::x).contains d;rw[List.contains_cons,show([c] == [d])=(d == c) by rw[Bool.beq_comm];simp]
   | d::e::r=>
    show(([c] == d::e::r)||false)=false;rw[Bool.or_false,Qwx];intro h;exact absurd (Qz0 List.length h) (by show 1≠r.length+2;omega)
theorem Oz(x:List Nat)(a:Option (List Nat)):Rv (oD a) (.tup (dI x))=some (.bl (Jh x a)):=by
 show(Mi (oD a) (.tup (dI x))).or _=_;have:Mi (oD a) (.tup (dI x))=some (.bl (Jh x a)):=by
  show(G8 (oD a) (dI x)).map D.bl=_;rw[aih]
  rfl
 rw[this]
 rfl
theorem abf(a b:Option (List Nat)):kJ (oD a) (oD b)=some (.bl (a == b)):=by cases a<;>cases b<;>rfl
theorem agy(a b:Option (List Nat)):Bp (oD a) (oD b)=some (.bl (!(a == b))):=by cases a<;>cases b<;>rfl
def cD(o:List (Option (List Nat))):D:=.tup (o.map oD)
theorem is_pair(o:List (Option (List Nat))):rN [cD o]=some (.bl (o.length == 2)):=by
 match o with
 | []=>rfl
 | [_]=>rfl
 | [_,_]=>rfl
 | a::b::c::r=>
  refine cT (env:=[(Zf (cD (a::b::c::r)))]) ?_;unfold Ea;refine cB ((vq (e:=[(Zf (cD (a::b::c::r)))]) rfl).trans ?_);refine aM (x:=.int ((r.map oD).length+3:Nat)) (y:=.int 2) (e1:=[(Zf (cD (a::b::c::r)))]) rfl rfl ?_;rw[abg];rw[Qwx.mpr (by omega),Qwx.mpr (by rw[Qq0,Qq0,Qq0];omega)]
def Gu(x:List Nat):List (Option (List Nat))->Bool
 | [a,b]=>Jh x a&&((Jh x b||b == some []) && !(a == b))
 | _=>false
theorem j6{a b:Ev}{env:Ev.Env}{p q:Bool}(h1:a env = .ok (.bl p) env)(h2:p=true->b env = .ok (.bl q) env):jd a b env = .ok (.bl (p&&q)) env:=by
 cases p with
 | true=>exact(vq h1).trans (h2 rfl)
 | false=>exact O9 h1
theorem O6{a b:Ev}{env:Ev.Env}{p q:Bool}(h1:a env = .ok (.bl p) env)(h2:p=false->b env = .ok (.bl q) env):Jt a b env = .ok (.bl (p||q)) env:=by
 cases p with
 | true=>exact aeg h1
 | false=>exact(aeh h1).trans (h2 rfl)
theorem changes_sound(x:List Nat)(o:List (Option (List Nat))):kW [.tup (dI x),cD o]=some (.bl (Gu x o)):=by
 have hp:=is_pair o;by_cases h2:o.length=2
 ·match o,h2 with
  | [a,b],_=>
   refine cT (env:=[(Zf (.tup (dI x))),Zf (cD [a,b]),Zf (oD a),Zf (oD b)]) ?_;unfold kZ;refine(aD (e:=[(Zf (.tup (dI x))),Zf (cD [a,b]),Zn,Zn]) ?_).trans ?_
   ·exact(eO (fW (b:=true) (cI (aN (ds:=[cD [a,b]]) rfl hp)))).trans rfl
   refine(aD (e:=[(Zf (.tup (dI x))),Zf (cD [a,b]),Zf (oD a),Zf (oD b)]) ?_).trans ?_
   ·rfl
   refine(cB ?_);refine j6 (iC (x:=oD a) (y:=.tup (dI x)) rfl rfl rfl (Oz x a)) λ_=>?_;refine j6 (O6 (iC (x:=oD b) (y:=.tup (dI x)) rfl rfl rfl (Oz x b)) λ_=>?_) λ_=>?_
   ·exact iC (x:=oD b) (y:=.str []) rfl rfl rfl (abf b (some []))
   ·exact iC (x:=oD a) (y:=oD b) rfl rfl rfl (agy a b)
 ·have e:Gu x o=false:=by
   unfold Gu;split
   ·exact absurd rfl h2
   ·rfl
  rw[e];rw[Qwx.mpr h2] at hp;refine cT (env:=[(Zf (.tup (dI x))),Zf (cD o),Zn,Zn]) ?_;unfold kZ;exact iG ((lM (fW (b:=false) (cI (aN (ds:=[cD o]) rfl hp)))).trans rfl)
def pu(x:List Nat):List (Option (List Nat))->Bool
 | [a,b]=>a == some []&&Jh x b
 | _=>false
theorem puts_one_in(x:List Nat)(o:List (Option (List Nat))):gC [.tup (dI x),cD o]=some (.bl (pu x o)):=by
 have hp:=is_pair o;refine cT (env:=[(Zf (.tup (dI x))),Zf (cD o)]) ?_;unfold sG;refine cB ?_;by_cases h2:o.length=2
 ·match o,h2 with
  | [a,b],_=>
   refine(vq (aN (ds:=[cD [a,b]]) rfl hp)).trans (j6 (aM (x:=oD a) (y:=.str []) (e1:=[(Zf (.tup (dI x))),Zf (cD [a,b])]) rfl rfl (abf a (some []))) λ_=>?_);exact aM (x:=oD b) (y:=.tup (dI x)) (e1:=[(Zf (.tup (dI x))),Zf (cD [a,b])]) rfl rfl (Oz x b)
 ·have e:pu x o=false:=by
   unfold pu;split
   ·exact absurd rfl h2
   ·rfl
  rw[e];rw[Qwx.mpr h2] at hp;exact O9 (aN (ds:=[cD o]) rfl hp)
def oX:List (List Nat)->Bool
 | []=>true
 | [_]=>true
 | x::y::r=>decide (x<y)&&oX (y::r)
theorem Nr:∀zs:List (List Nat),((List.range (zs.length - 1)).all λi=>decide (zs.getD i []<zs.getD (i+1) []))=oX zs
 | []=>rfl
 | [_]=>rfl
 | x::y::r=>by
  have ih:=Nr (y::r);have e:(x::y::r).length - 1=(y::r).length - 1+1:=by simp
  rw[e,List.range_succ_eq_map,List.all_cons,List.all_map];show _=(decide (x<y)&&oX (y::r));rw[<-ih]
  rfl
theorem rises(t:List D->D)(ht:t = .tup\/t = .lst)(zs:List (List Nat))(hz:zs.length<=1000):rM [t (zs.map .str)]=some (.bl (oX zs)):=by
 unfold rM Py zY;have hlen:gJ [t (zs.map .str)]=some (.int zs.length):=by rcases ht with rfl|rfl<;>simp[gJ]
 have hr:qy [.int ((zs.length:Int) - 1)]=some ((List.range (zs.length - 1)).map λ(i:Nat)=>D.int (i:Int)):=by
  cases zs with
  | nil=>rfl
  | cons z r=>
   have e:(((z::r).length:Int) - 1)=((r.length:Nat):Int):=by rw[Qq0];omega
   rw[e,aft (by simp at hz;omega)]
   rfl
 have h4:=kY (lo:=1) (n:=2) (it:=fV (aa (az Af (aB gJ (aa (bw 0) ak)) (Zi 1)) ak)) (e:=az gLt (aA je 0 (bw 1)) (aA je 0 (aA aP 1 (Zi 1)))) (env:=[(Zf (t (zs.map .str)))]) (List.range (zs.length - 1)) (λi=>.int (i:Nat)) (λi=>.bl (decide (zs.getD i []<zs.getD (i+1) []))) (by(simp (maxSteps:=2000000) (disch:=(first|((try simp only[Qq0,Qz8,Qqq,Qqk,List.length_range,sizeLine,Nat.reducePow])<;>omega)|fail)) only[ZG,Jv,O8,Jw,Wa,gt0,rS,aa6,bR,Od,O7,Je,aa5,lR,Vz,Wc,Oe,ad5,hlen,hr]<;>try rfl)) rfl rfl (λi hi=>by
  have hi:=Qx1.mp hi;have g:∀j:Nat,j<zs.length->je (t (zs.map .str)) (.int (j:Int))=some (.str (zs.getD j [])):=λj hj=>by
   rcases ht with rfl|rfl<;>simp[agC,agD,atN,hj]
  have g1:=g i (by omega);have g2:=g (i+1) (by omega);rw[show(((i+1:Nat):Int))=(i:Int)+1 from rfl] at g2
  (simp (maxSteps:=2000000) (disch:=(first|((try simp only[Qq0,Qz8,Qqq,Qqk,List.length_range,sizeLine,Nat.reducePow])<;>omega)|fail)) only[Qjq,List.nil_append,O8,Wd,gt0,rS,Zk,Wa,gtS,aa6,bR,VD,VB,lR,Vz,Wc,aeb,Oe,agz,g,g2]<;>try rfl)) (by rw[List.length_range];exact Qqj (show zs.length - 1<=1000 by omega) (by decide))
 have h5:=Dy (λi=>decide (zs.getD i []<zs.getD (i+1) [])) (List.range (zs.length - 1));rw[Nr] at h5
 (simp (maxSteps:=2000000) (disch:=(first|((try simp only[Qq0,Qz8,Qqq,Qqk,List.length_range,sizeLine,Nat.reducePow])<;>omega)|fail)) only[acd,envOf,Qq7,List.map_nil,Qq0,Qz8,Nat.reduceAdd,Nat.reduceSub,List.replicate_zero,Qjq,List.nil_append,Xx,Jw,Jv,bR,Od,O7,Je,aa5,lR,bO,adQ,dRt,h4,h5]<;>try rfl)
def old:List (Option (List Nat))->List Nat
 | some z::_=>z
 | _=>[]
def G3(x:List Nat)(cs:List (List (Option (List Nat)))):Bool:=!cs.isEmpty&&((cs.length == 1&&cs.all (pu x))||(cs.all (Gu x)&&oX (cs.map old)))
theorem V9{a:Ev}{env:Ev.Env}{ds:List D}(h:a env = .ok (.tup ds) env)(k:Int):az kJ (aB gJ (aa a ak)) (jR (.int k)) env = .ok (.bl (((ds.length:Nat):Int) == k)) env:=
 aM (x:=.int (ds.length:Nat)) (y:=.int k) (e1:=env) (aN (ds:=[.tup ds]) (aJ h bQ) rfl) rfl (abg _ _)
abbrev S3(x:List Nat)(cs:List (List (Option (List Nat)))):Ev.Env:=[(Zf (.tup (dI x))),(Zf (.tup (cs.map cD)))]
theorem all1(x:List Nat)(cs:List (List (Option (List Nat))))(hl:cs.length<=1000):jH (S3 x cs) = .ok (.lst (cs.map λo=>.bl (Gu x o))) (S3 x cs):=
 kY (lo:=2) (n:=3) cs cD (λo=>.bl (Gu x o)) rfl rfl rfl (λo _=>aN (ds:=[.tup (dI x),cD o]) rfl (changes_sound x o)) (Qqj hl (by decide))
theorem ZV{x:List Nat}{o:List (Option (List Nat))}(h:Gu x o=true):∃c b,o=[some [c],b]/\x.contains c=true:=by
 unfold Gu at h;split at h
 ·rename_i a b;rw[Qwj] at h;have h1:=h.1;unfold Jh at h1;split at h1
  ·exact⟨_,_,rfl,h1⟩
  ·cases h1
 ·cases h
theorem all2(x:List Nat)(cs:List (List (Option (List Nat))))(hl:cs.length<=1000)(h:cs.all (Gu x)=true):jG (S3 x cs) = .ok (.lst ((cs.map old).map .str)) (S3 x cs):=by
 have h4:=uh (lo:=2) (n:=4) (it:=dR (aK 1)) (g:=eY 2 (bG (au 2) (bG (au 3) eZ))) (c:=cV) (e:=aK 2) (env:=(S3 x cs)) cs cD (λo=>[Zs (old o),(Zf (oD ((o.drop 1).headD none)))]) (λ_=>true) (λo=>.str (old o)) rfl rfl (λo ho=>by
  obtain⟨c,b,rfl,_⟩:=ZV (Qq8.mp h o ho);refine⟨rfl,λvs hv=>?_,rfl,λ_=>rfl⟩
  match vs,hv with
  | [_,_],_=>rfl) (Qqj hl (by decide))
 rw[List.filter_eq_self.mpr (λ_ _=>rfl)] at h4;rw[Qxv];exact h4
theorem are_changes(x:List Nat)(cs:List (List (Option (List Nat))))(hl:cs.length<=1000):nJ [.tup (dI x),.tup (cs.map cD)]=some (.bl (G3 x cs)):=by
 refine cT (env:=(S3 x cs)) ?_;show nQ (S3 x cs) = .rt false _ (S3 x cs);unfold nQ;have hn:∀k:Int,az kJ (aB gJ (aa (bw 1) ak)) (jR (.int k)) (S3 x cs) = .ok (.bl (((cs.length:Nat):Int) == k)) (S3 x cs):=λk=>by
  have:=V9 (a:=bw 1) (env:=(S3 x cs)) (ds:=cs.map cD) rfl k
  rwa [Qqk] at this
 generalize hE:((S3 x cs):Ev.Env)=env at *;have a1:=all1 x cs hl;have a2:=all2 x cs hl;rw[hE] at a1 a2;have fin:bW (jd (aB rY (aa (jH) ak)) (aB rM (aa (jG) ak))) env = .rt false (.bl (cs.all (Gu x)&&oX (cs.map old))) env:=by refine cB (j6 (aN (aJ a1 bQ) (Dy (Gu x) cs)) λh=>?_);exact aN (aJ (a2 h) bQ) (rises .lst (.inr rfl) _ (by rw[Qqk];exact hl))
 have i1:dO (fB (dY (vh "tuple") (aK 1))) env = .ok false env:=by rw[<-hE];rfl
 match cs with
 | []=>
  refine iG ((lM (e:=env) ((iQ i1).trans (cI (hn 0)))).trans rfl)
 | [o]=>
  refine(aD (e:=env) ?_).trans ?_
  ·exact(eO (e:=env) ((iQ i1).trans (cI (hn 0)))).trans rfl
  have hp:fB (aB gC (Zv 0 (aa (aA je 1 (Zi 0)) ak))) env = .ok (pu x o) env:=cI (aN (ds:=[.tup (dI x),cD o]) (by rw[<-hE];rfl) (puts_one_in x o));have ha:xn (fB (az kJ (aB gJ (aa (bw 1) ak)) (Zi 1))) (fB (aB gC (Zv 0 (aa (aA je 1 (Zi 0)) ak)))) env = .ok (pu x o) env:=by have h1:fB (az kJ (aB gJ (aa (bw 1) ak)) (Zi 1)) env = .ok true env:=cI (hn 1);unfold xn;rw[h1];exact hp
  cases e:pu x o with
  | true=>
   rw[e] at ha;refine iG ((lM ha).trans ?_);have:G3 x [o]=true:=by unfold G3;simp[e]
   rw[this]
   rfl
  | false=>
   rw[e] at ha;refine(aD ((eO ha).trans rfl)).trans (fin.trans ?_);have:G3 x [o]=([o].all (Gu x)&&oX ([o].map old)):=by unfold G3;simp[e]
   rw[this]
 | o::o2::r=>
  have n0:((((o::o2::r).length:Nat):Int) == 0)=false:=Qwx.mpr (by rw[Qq0];omega);have n1:((((o::o2::r).length:Nat):Int) == 1)=false:=Qwx.mpr (by rw[Qq0,Qq0];omega);have h0:=hn 0;have h1:=hn 1;rw[n0] at h0;rw[n1] at h1;refine(aD (e:=env) ?_).trans ?_
  ·exact(eO (e:=env) ((iQ i1).trans (cI h0))).trans rfl
  have ha:xn (fB (az kJ (aB gJ (aa (bw 1) ak)) (Zi 1))) (fB (aB gC (Zv 0 (aa (aA je 1 (Zi 0)) ak)))) env = .ok false env:=by
   unfold xn;rw[cI h1]
   rfl
  refine(aD ((eO ha).trans rfl)).trans (fin.trans ?_);have:G3 x (o::o2::r)=((o::o2::r).all (Gu x)&&oX ((o::o2::r).map old)):=by
   unfold G3;have:((o::o2::r).length == 1)=false:=Qwx.mpr (by rw[Qq0,Qq0];omega);rw[this]
   rfl
  rw[this]
def gD:Option (List Nat)->D
 | none=>.non
 | some z=>.tup (dI z)
def ag(x:List Nat):Option (List Nat)->Bool
 | none=>true
 | some z=>!z.isEmpty&&(z.all (λc=>c == 35||x.contains c)&&oX (z.map λc=>[c]))
abbrev S2(x z:List Nat):Ev.Env:=[(Zf (.tup (dI x))),(Zf (.tup (dI z)))]
theorem are_signs(x:List Nat)(g:Option (List Nat))(hl:∀z,g=some z->z.length<=1000):mU [.tup (dI x),gD g]=some (.bl (ag x g)):=by
 cases g with
 | none=>rfl
 | some z=>
  have hl:=hl z rfl;refine cT (env:=(S2 x z)) ?_;unfold xX;refine(aD (e:=(S2 x z)) ?_).trans ?_
  ·rfl
  have hn:az kJ (aB gJ (aa (bw 1) ak)) (Zi 0) (S2 x z) = .ok (.bl (((z.length:Nat):Int) == 0)) (S2 x z):=by
   have:=V9 (a:=bw 1) (env:=(S2 x z)) (ds:=dI z) rfl 0
   rwa [show(dI z).length=z.length from Qqk ..] at this
  have a1:qK (S2 x z) = .ok (.lst (z.map λc=>.bl (c == 35||x.contains c))) (S2 x z):=
   kY (lo:=2) (n:=3) z (λc=>.str [c]) (λc=>.bl (c == 35||x.contains c)) rfl rfl rfl (λc _=>O6 (iC (x:=.str [c]) (y:=.str [35]) rfl rfl rfl ((abe _ _).trans (by congr 2;simp))) λ_=>iC (x:=.str [c]) (y:=.tup (dI x)) rfl rfl rfl (Oz x (some [c]))) (Qqj hl (by decide))
  have i1:dO (fB (dY (vh "tuple") (aK 1))) (S2 x z) = .ok false (S2 x z):=rfl;cases z with
  | nil=>exact iG ((lM ((iQ i1).trans (cI hn))).trans rfl)
  | cons c z=>
   have n0:((((c::z).length:Nat):Int) == 0)=false:=Qwx.mpr (by rw[Qq0];omega);rw[n0] at hn;refine(aD (e:=[(Zf (.tup (dI x))),(Zf (.tup (dI (c::z))))]) ?_).trans ?_
   ·exact(eO ((iQ i1).trans (cI hn))).trans rfl
   refine cB (j6 (aN (aJ a1 bQ) (Dy _ _)) λ_=>?_);have:=rises .tup (.inl rfl) ((c::z).map λc=>[c]) (by rw[Qqk];exact hl);rw[Qxv] at this;exact aN (ds:=[.tup (dI (c::z))]) rfl this
structure Q where
 w:List Nat
 cs:List (List (Option (List Nat)))
 l:Option (List Nat)
 r:Option (List Nat)
def qD(q:Q):D:=.tup [.str q.w,.tup (q.cs.map cD),gD q.l,gD q.r]
def way(w:List Nat):Bool:=w == [111,110,99,101]||w == [97,108,111,110,103]
def R9(x:List Nat)(q:Q):Bool:=way q.w&&(G3 x q.cs&&(ag x q.l&&ag x q.r))
structure Sm(q:Q):Prop where
 c:q.cs.length<=1000
 l:∀z,q.l=some z->z.length<=1000
 r:∀z,q.r=some z->z.length<=1000
theorem abW(w:List Nat):Rv (.str w) (.tup [(.str [111,110,99,101]),(.str [97,108,111,110,103])])=some (.bl (way w)):=by show some (D.bl (([111,110,99,101] == w)||(([97,108,111,110,103] == w)||false)))=_;unfold way;rw[Bool.or_false,Bool.beq_comm,Bool.beq_comm (a:=[97,108,111,110,103])]
theorem is_rule{T:D}{x:List Nat}(hs:mR [T]=some (.tup (dI x))){q:Q}(h:Sm q):lJ [T,qD q]=some (.bl (R9 x q)):=by
 refine cT (env:=[Zf T,Zf (qD q),Zs q.w,(Zf (.tup (q.cs.map cD))),Zf (gD q.l),Zf (gD q.r),(Zf (.tup (dI x)))]) ?_;unfold DY;refine(aD (e:=[Zf T,Zf (qD q),Zn,Zn,Zn,Zn,Zn]) ?_).trans ?_
 ·rfl
 refine(aD (e:=[Zf T,Zf (qD q),Zs q.w,(Zf (.tup (q.cs.map cD))),Zf (gD q.l),Zf (gD q.r),Zn]) ?_).trans ?_
 ·rfl
 refine(aD (e:=[Zf T,Zf (qD q),Zs q.w,(Zf (.tup (q.cs.map cD))),Zf (gD q.l),Zf (gD q.r),(Zf (.tup (dI x)))]) ?_).trans ?_
 ·exact(bZ (aN (ds:=[T]) rfl hs) rfl)
 refine(cB ?_);refine j6 (iC (x:=.str q.w) rfl rfl rfl (abW q.w)) λ_=>?_;refine j6 (aN (ds:=[.tup (dI x),.tup (q.cs.map cD)]) rfl (are_changes x q.cs h.c)) λ_=>?_;refine j6 (aN (ds:=[.tup (dI x),gD q.l]) rfl (are_signs x q.l h.l)) λ_=>?_;exact aN (ds:=[.tup (dI x),gD q.r]) rfl (are_signs x q.r h.r)
def rs(z:List Nat):Option (List Nat):=if z=[] then none else if z=[48] then some [] else some z
theorem KY{a b:List Nat}(h:a≠b):kJ (.str a) (.str b)=some (.bl false):=by rw[abe,Qwx.mpr h]
theorem read_sound(z:List Nat):lC [.str z]=some (oD (rs z)):=by
 unfold rs;by_cases h:z=[]
 ·subst h;rfl
 ·rw[if_neg h];refine cT (env:=[Zs z]) ?_;unfold vD;refine(aD (e:=[Zs z]) ((eO (cI (iC (x:=.str z) (y:=.str []) rfl rfl rfl (KY h)))).trans rfl)).trans (cB ?_);by_cases h2:z=[48]
  ·subst h2;rfl
  ·rw[if_neg h2];unfold Mj;have hc:fB (aA kJ 0 (Zw [48])) [Zs z] = .ok false [Zs z]:=cI (iC (x:=.str z) (y:=.str [48]) rfl rfl rfl (KY h2));rw[hc]
   rfl
theorem lcE{α:Type}{g:GV}{e:Ev}(P:Ev.Env->Prop)(enc out:α->D):∀(l:List α) (env:Ev.Env),P env->(∀a∈l,∀env,P env->∃e1 e2,g (enc a) env=some e1/\e e1 = .ok (out a) e2/\P e2)->∃env',G7 g cV e (l.map enc) env = .ok (l.map out) env'/\P env'
 | [],env,hp,_=>⟨env,rfl,hp⟩
 | d::ds,env,hp,h=>by
  obtain⟨e1,e2,h1,h2,h3⟩:=h d (Qqv ..) env hp;obtain⟨e3,h4,h5⟩:=lcE P enc out ds e2 h3 λd' hd=>h d' (Qqy _ hd);refine⟨e3,?_,h5⟩;rw[Qq7];unfold G7;rw[h1];show bindR (e e1) _=_;rw[h2];show bindR (G7 g cV e (ds.map enc) e2) _=_;rw[h4]
  rfl
def ch(w:List Nat):List (Option (List Nat)):=(gK 62 w).map rs
theorem yJ(c:Nat)(t:List Nat):(gK c t).length<=t.length+1:=by
 have:=xg (sep:=[c]) (by show 0<1;omega) (gK c t)
 rwa [jU] at this
theorem ab4(c:Nat)(t:List Nat):∀q∈gK c t,q.length<=t.length:=λq hq=>by
 have:=join_le [c] (gK c t) q hq
 rwa [jU] at this
theorem Ie{w:List Nat}(hw:w.length<=1000)(A0 A1 A2 A3 A4 A5 A6:OD):aB fG (aa (pI) ak) [A0,A1,A2,A3,A4,A5,A6,Zs w] = .ok (cD (ch w)) [A0,A1,A2,A3,A4,A5,A6,Zs w]:=by have hs:gk (.str w) (.str [62])=some (.lst ((gK 62 w).map .str)):=rD (by decide +kernel) (by omega);have h:=kY (lo:=8) (n:=9) (it:=dR (az gk (aK 7) (Zw [62]))) (e:=aB lC (Zv 8 ak)) (env:=[A0,A1,A2,A3,A4,A5,A6,Zs w]) (aH:=[A0,A1,A2,A3,A4,A5,A6,Zs w]) (gK 62 w) D.str (λz=>oD (rs z)) (ph (aM (x:=.str w) (y:=.str [62]) (e1:=[A0,A1,A2,A3,A4,A5,A6,Zs w]) rfl rfl hs) rfl) rfl rfl (λz _=>aN (ds:=[.str z]) rfl (read_sound z)) (Qqj (yJ 62 w) (Qqj (Nat.succ_le_succ hw) (by decide)));refine aN (ds:=[.lst ((ch w).map oD)]) (aJ ?_ bQ) rfl;unfold ch;rw[Qxv];exact h
theorem JC{α:Type}(xs:List α)(k:Nat):cutD xs (some (k:Int)) none=xs.drop k:=by
 unfold cutD;rw[HT.yK];show(xs.drop (min k xs.length)).take (xs.length - min k xs.length)=_;by_cases h:k<=xs.length
 ·rw[Nat.min_eq_left h,List.take_of_length_le (by rw[Qx0];omega)]
 ·rw[Nat.min_eq_right (by omega),List.drop_length,List.drop_of_length_le (by omega),List.take_nil]
theorem Pj{α:Type}(xs:List α)(j k:Nat)(hj:j<=xs.length):cutD xs (some (j:Int)) (some (k:Int))=(xs.drop j).take (k - j):=by
 unfold cutD;rw[HT.yK,HT.yK,Nat.min_eq_left hj];by_cases h:k<=xs.length
 ·rw[Nat.min_eq_left h]
 ·rw[Nat.min_eq_right (by omega),List.take_of_length_le (by rw[Qx0];omega),List.take_of_length_le (by rw[Qx0];omega)]
theorem ZS(W:List (List Nat))(lo hi:Option Int):cutD (W.map D.str) lo hi=(cutD W lo hi).map D.str:=by unfold cutD;rw[Qqk,<-List.map_drop,<-List.map_take]
theorem oA{a:Ev}{lo hi:W2}{env e1 e2 e3:Ev.Env}{d v:D}{l u:Option Int}(h1:a env = .ok d e1)(h2:lo e1 = .ok l e2)(h3:hi e2 = .ok u e3)(h:ad7 d l u=some v):iZ a lo hi env = .ok v e3:=by
 unfold iZ;rw[h1];show bindR (lo e1) _=_;rw[h2];show bindR (hi e2) _=_;rw[h3];show fJ (ad7 d l u) e3=_;rw[h]
 rfl
theorem Ae(z:List Nat):∀xs:List (List Nat),G8 (.str z) (xs.map .str)=some (decide (z∈xs))
 | []=>rfl
 | y::ys=>by
  show(match bD 59 (.str y) (.str z),G8 (.str z) (ys.map .str) with|some a,some b=>some (a||b)|_,_=>none)=_;rw[Ae z ys,str1];show some ((y == z)||decide (z∈ys))=_
  congr 1
  rw[Qj6,Qxk,beq_iff_eq,decide_eq_true_eq,decide_eq_true_eq,Qq1];exact or_congr_left eq_comm
theorem yO(z:List Nat)(xs:List (List Nat)):o8 (.str z) (.lst (xs.map .str))=some (.bl (!decide (z∈xs))):=by
 show(vd (.str z) (.lst (xs.map .str))).or _=_;have:vd (.str z) (.lst (xs.map .str))=some (.bl (!decide (z∈xs))):=by
  show(G8 (.str z) (xs.map .str)).map (λb=>D.bl (!b))=_;rw[Ae]
  rfl
 rw[this]
 rfl
theorem Oi{z:List Nat}{xs:List (List Nat)}{j:Nat}(h:iz z xs=some j):vf (.lst (xs.map .str)) (.str z)=some (.int (j:Nat)):=by
 show(fP (xs.map D.str)).bind (λzs=>(iz z zs).map λj=>D.int (j:Nat))=_;rw[strs_map];show(iz z xs).map _=_;rw[h]
 rfl
theorem wM{z:List Nat}:∀{xs:List (List Nat)} {j:Nat},iz z xs=some j->z∈xs/\j<xs.length
 | [],j,h=>by cases h
 | y::ys,j,h=>by
  unfold iz at h;split at h
  ·rename_i e;cases h;exact⟨by rw[show y=z from by simpa using e];exact Qqv ..,Nat.succ_pos _⟩
  ·obtain⟨k,hk,rfl⟩:=Qw1.mp h;have:=wM hk;exact⟨Qqy _ this.1,Nat.succ_lt_succ this.2⟩
theorem yZ{m:Nat}:∀(xs:List (List Nat)),(∀p∈xs,p.length<=m)->(xs.map List.length).sum<=xs.length*m
 | [],_=>Qzy _
 | p::ps,h=>by
  have:=yZ ps λq hq=>h q (Qqy _ hq);have h1:=h p (Qqv ..);rw[Qq7,Qjx,Qq0,Nat.succ_mul];omega
theorem t6{xs:List (List Nat)}(h1:xs.length<=1001)(h2:∀q∈xs,q.length<=1000):jo (.str [32]) (.lst (xs.map .str))=some (.str (bF [32] xs)):=by show(match fP (xs.map D.str) with|some xs=>if joinFits [32] xs=true then some (D.str (bF [32] xs)) else none|none=>none)=_;rw[strs_map];refine if_pos (Qw8 ?_);have:=yZ xs h2;have:xs.length*1000<=1001*1000:=Nat.mul_le_mul_right _ h1;show _+xs.length*1<=_;omega
def wj(t:List Nat):Nat:=(iz [47] (gK 32 t)).getD 0
def wk(t:List Nat):Nat:=(iz [95] (gK 32 t)).getD 0
def lw(t:List Nat):List Nat:=bF [32] (((gK 32 t).drop (wj t+1)).take (wk t - (wj t+1)))
def zu(t:List Nat):List Nat:=bF [32] ((gK 32 t).drop (wk t+1))
def cw(t:List Nat):List (List Nat):=((gK 32 t).drop 1).take (wj t - 1)
def hw(t:List Nat):List Nat:=(gK 32 t).headD []
def both(t:List Nat):Bool:=decide ([47]∈gK 32 t)&&decide ([95]∈gK 32 t)
theorem tU{z:List Nat}:∀{xs:List (List Nat)},z∈xs->∃j,iz z xs=some j
 | [],h=>nomatch h
 | y::ys,h=>by
  unfold iz;split
  ·exact⟨0,rfl⟩
  ·rename_i e;rcases Qq1.mp h with rfl|h
   ·exact absurd (by simp) e
   ·obtain⟨j,hj⟩:=tU h;exact⟨j+1,by rw[hj];rfl⟩
abbrev E7(T:D)(t:List Nat)(W:List (List Nat))(a b c d:OD):Ev.Env:=[Zf T,Zs t,(Zf (.lst (W.map .str))),a,b,c,d]
abbrev G9(T:D)(t:List Nat)(W CW:List (List Nat))(j k:Nat)(d:OD):Ev.Env:=E7 T t W (Zf (.int (j:Nat))) (Zf (.int (k:Nat))) (Zf (.tup (CW.map λw=>cD (ch w)))) d
abbrev M4(T:D)(t:List Nat)(W:List (List Nat)):Ev.Env:=E7 T t W none none none none
theorem Qz(T:D){t:List Nat}(hl:t.length<=1000)(h:both t=false):gm [T,.str t]=some .non:=by
 have hs:gk (.str t) (.str [32])=some (.lst ((gK 32 t).map .str)):=rD (by decide +kernel) (by omega);have n1:=yO [47] (gK 32 t);have n2:=yO [95] (gK 32 t);unfold both at h;generalize gK 32 t=W at *;refine cT (env:=(M4 T t W)) ?_;unfold pC;refine(aD (e:=(M4 T t W)) ?_).trans ?_
 ·exact bZ (e:=[Zf T,Zs t,Zn,Zn,Zn,Zn,Zn]) (aM (x:=.str t) (y:=.str [32]) (e1:=[Zf T,Zs t,Zn,Zn,Zn,Zn,Zn]) rfl rfl hs) rfl
 have g1:=cI (aM (g:=o8) (a:=Zw [47]) (b:=bw 2) (env:=(M4 T t W)) (x:=.str [47]) (y:=.lst (W.map .str)) (e1:=(M4 T t W)) rfl rfl n1);have g2:=cI (aM (g:=o8) (a:=Zw [95]) (b:=bw 2) (env:=(M4 T t W)) (x:=.str [95]) (y:=.lst (W.map .str)) (e1:=(M4 T t W)) rfl rfl n2);refine iG ((lM (e:=(M4 T t W)) ?_).trans rfl);cases e:decide ([47]∈W) with
 | false=>rw[e] at g1;exact Gp g1
 | true=>
  rw[e] at g1 h;rw[Bool.true_and] at h;rw[h] at g2;exact(iQ g1).trans g2
theorem read_parts(T:D){t:List Nat}(hl:t.length<=1000)(h:both t=true){L R:D}(hL:ir [T,.str (lw t)]=some L)(hR:ir [T,.str (zu t)]=some R) :
  gm [T,.str t]=some (.tup [.str (hw t),.tup ((cw t).map λw=>cD (ch w)),L,R]):=by
 have hs:gk (.str t) (.str [32])=some (.lst ((gK 32 t).map .str)):=rD (by decide +kernel) (by omega);unfold both at h;rw[Qwj,decide_eq_true_eq,decide_eq_true_eq] at h;obtain⟨j,hj⟩:=tU h.1;obtain⟨k,hk⟩:=tU h.2;have ej:wj t=j:=by unfold wj;rw[hj];rfl
 have ek:wk t=k:=by unfold wk;rw[hk];rfl
 have c0:je (.lst ((gK 32 t).map .str)) (.int 0)=some (.str (hw t)):=by obtain⟨p,ps,e⟩:=jV 32 t;unfold hw;rw[e];exact lG (j:=0) rfl
 have n1:=yO [47] (gK 32 t);have n2:=yO [95] (gK 32 t);rw[Qw8 h.1] at n1;rw[Qw8 h.2] at n2;have i1:=Oi hj;have i2:=Oi hk;have b1:=(wM hj).2;have b2:=(wM hk).2;have w1:=yJ 32 t;have w2:=ab4 32 t;have c1:cutD (gK 32 t) (some ((1:Nat):Int)) (some ((j:Nat):Int))=cw t:=by unfold cw;rw[ej];exact Pj _ _ _ (by omega)
 have c2:bF [32] (cutD (gK 32 t) (some ((j+1:Nat):Int)) (some ((k:Nat):Int)))=lw t:=by unfold lw;rw[ej,ek,Pj _ _ _ (by omega)]
 have c3:bF [32] (cutD (gK 32 t) (some ((k+1:Nat):Int)) none)=zu t:=by unfold zu;rw[ek,JC]
 have m:∀(lo hi:Option Int),(cutD (gK 32 t) lo hi).length<=1001/\∀q∈cutD (gK 32 t) lo hi,q.length<=1000:=λlo hi=>by
  refine⟨?_,λq hq=>?_⟩
  ·unfold cutD;rw[Qx9,Qx0];omega
  ·have:=w2 q (List.mem_of_mem_drop (List.mem_of_mem_take hq));omega
 have hcw:∀q∈cw t,q.length<=1000:=by rw[<-c1];exact(m _ _).2
 have hcl:(cw t).length<=1001:=by rw[<-c1];exact(m _ _).1
 have j1:=t6 (m (some ((j+1:Nat):Int)) (some ((k:Nat):Int))).1 (m _ _).2;have j2:=t6 (m (some ((k+1:Nat):Int)) none).1 (m _ _).2;rw[c2] at j1;rw[c3] at j2;have cm:=λlo hi=>ZS (gK 32 t) lo hi;generalize hC:cw t=CW at *;clear hC ej ek w1 w2 m h hj hk b1 b2 c2 c3;generalize gK 32 t=W at *;refine cT (env:=(G9 T t W CW j k (Zf L))) ?_;unfold pC;refine(aD (e:=(M4 T t W)) ?_).trans ?_
 ·exact bZ (e:=[Zf T,Zs t,Zn,Zn,Zn,Zn,Zn]) (aM (x:=.str t) (y:=.str [32]) (e1:=[Zf T,Zs t,Zn,Zn,Zn,Zn,Zn]) rfl rfl hs) rfl
 refine(aD (e:=(M4 T t W)) ?_).trans ?_
 ·refine(eO (e:=(M4 T t W)) ?_).trans rfl;refine(iQ (e:=(M4 T t W)) (cI (aM (x:=.str [47]) (y:=.lst (W.map .str)) (e1:=(M4 T t W)) rfl rfl n1))).trans ?_;exact cI (aM (x:=.str [95]) (y:=.lst (W.map .str)) (e1:=(M4 T t W)) rfl rfl n2)
 refine(aD (e:=(E7 T t W (Zf (.int (j:Nat))) none none none)) ?_).trans ?_
 ·exact bZ (e:=(M4 T t W)) (aM (x:=.lst (W.map .str)) (y:=.str [47]) (e1:=(M4 T t W)) rfl rfl i1) rfl
 refine(aD (e:=(E7 T t W (Zf (.int (j:Nat))) (Zf (.int (k:Nat))) none none)) ?_).trans ?_
 ·exact bZ (e:=(E7 T t W (Zf (.int (j:Nat))) none none none)) (aM (x:=.lst (W.map .str)) (y:=.str [95]) (e1:=(E7 T t W (Zf (.int (j:Nat))) none none none)) rfl rfl i2) rfl
 refine(aD (e:=(G9 T t W CW j k none)) ?_).trans ?_
 ·refine bZ (d:=.tup (CW.map λw=>cD (ch w))) (e:=(E7 T t W (Zf (.int (j:Nat))) (Zf (.int (k:Nat))) none none)) (aN (ds:=[.lst (CW.map λw=>cD (ch w))]) (aJ ?_ bQ) rfl) rfl;have s0:iZ (aK 2) (pR (Zi 1)) (pR (aK 3)) (E7 T t W (Zf (.int (j:Nat))) (Zf (.int (k:Nat))) none none) = .ok (.lst (CW.map .str)) (E7 T t W (Zf (.int (j:Nat))) (Zf (.int (k:Nat))) none none):=by
   refine oA (d:=.lst (W.map .str)) (l:=some ((1:Nat):Int)) (u:=some ((j:Nat):Int)) (e1:=(E7 T t W (Zf (.int (j:Nat))) (Zf (.int (k:Nat))) none none)) (e2:=(E7 T t W (Zf (.int (j:Nat))) (Zf (.int (k:Nat))) none none)) rfl rfl rfl ?_;show some (D.lst (cutD (W.map D.str) (some ((1:Nat):Int)) (some ((j:Nat):Int))))=_;rw[cm,c1]
  exact kY (lo:=7) (n:=8) CW D.str (λw=>cD (ch w)) (ph s0 rfl) rfl rfl (λw hw=>Ie (hcw w hw) _ _ _ _ _ _ _) (Qqj hcl (by decide))
 refine(aD (e:=(G9 T t W CW j k (Zf L))) ?_).trans ?_
 ·refine bZ (d:=L) (e:=(G9 T t W CW j k none)) ?_ rfl;have s0:iZ (aK 2) (pR (aA aP 3 (Zi 1))) (pR (aK 4)) (G9 T t W CW j k none) = .ok (.lst ((cutD W (some ((j+1:Nat):Int)) (some ((k:Nat):Int))).map .str)) (G9 T t W CW j k none):=by
   refine oA (d:=.lst (W.map .str)) (l:=some ((j+1:Nat):Int)) (u:=some ((k:Nat):Int)) (e1:=(G9 T t W CW j k none)) (e2:=(G9 T t W CW j k none)) rfl rfl rfl ?_;show some (D.lst (cutD (W.map D.str) _ _))=_;rw[cm]
  exact aN (ds:=[T,.str (lw t)]) (aJ (d:=T) (e1:=(G9 T t W CW j k none)) rfl (aJ (aM (x:=.str [32]) rfl s0 j1) bQ)) hL
 have s0:iZ (aK 2) (pR (aA aP 4 (Zi 1))) lr (G9 T t W CW j k (Zf L)) = .ok (.lst ((cutD W (some ((k+1:Nat):Int)) none).map .str)) (G9 T t W CW j k (Zf L)):=by refine oA (d:=.lst (W.map .str)) (l:=some ((k+1:Nat):Int)) (u:=none) (e1:=(G9 T t W CW j k (Zf L))) (e2:=(G9 T t W CW j k (Zf L))) rfl rfl rfl ?_;show some (D.lst (cutD (W.map D.str) _ _))=_;rw[cm]
 refine cB (ou (aJ (d:=.str (hw t)) (e1:=(G9 T t W CW j k (Zf L))) (iC (x:=.lst (W.map .str)) (y:=.int 0) rfl rfl rfl c0) (aJ (d:=.tup (CW.map λw=>cD (ch w))) (e1:=(G9 T t W CW j k (Zf L))) rfl (aJ (d:=L) (e1:=(G9 T t W CW j k (Zf L))) rfl (aJ (d:=R) (e1:=(G9 T t W CW j k (Zf L))) ?_ bQ)))) Ev.zz4);exact aN (ds:=[T,.str (zu t)]) (aJ (d:=T) (e1:=(G9 T t W CW j k (Zf L))) rfl (aJ (aM (x:=.str [32]) rfl s0 j2) bQ)) hR
abbrev Rn:=Nat×List (List Nat)
def row(r:Rn):D:=.tup [.str [r.1],.tup (r.2.map .str)]
def jr(L:List Rn)(ms:List (List Nat)):List Nat:=(L.filter λr=>ms.all λm=>decide (m∈r.2)).map (·.1)
theorem OJ(m:List Nat)(ws:List (List Nat)):Rv (.str m) (.tup (ws.map .str))=some (.bl (decide (m∈ws))):=by
 show(Mi (.str m) (.tup (ws.map .str))).or _=_;have:Mi (.str m) (.tup (ws.map .str))=some (.bl (decide (m∈ws))):=by
  show(G8 (.str m) (ws.map .str)).map D.bl=_;rw[Ae]
  rfl
 rw[this]
 rfl
theorem sounds_of{L:List Rn}(hl:L.length<=1000):mR [.tup (L.map row)]=some (.tup (dI (L.map (·.1)))):=by
 have h4:=uh (lo:=1) (n:=3) (it:=dR (aK 0)) (g:=eY 2 (bG (au 1) (bG (au 2) eZ))) (c:=cV) (e:=aK 1) (env:=[(Zf (.tup (L.map row)))]) L row (λr=>[Zs [r.1],(Zf (.tup (r.2.map .str)))]) (λ_=>true) (λr=>.str [r.1]) rfl rfl (λd hd=>by
  refine⟨rfl,λvs hv=>?_,rfl,λ_=>rfl⟩
  match vs,hv with
  | [_,_],_=>rfl) (Qqj hl (by decide))
 rw[List.filter_eq_self.mpr (λ_ _=>rfl)] at h4;refine cT (cB (aN (aJ h4 bQ) ?_));unfold dI;rw[Qxv]
 rfl
theorem sounds_by{L:List Rn}{ms:List (List Nat)}(hl:L.length<=1000)(hm:ms.length<=10000):qQ [.tup (L.map row),.lst (ms.map .str)]=some (.tup (dI (jr L ms))):=by
 have h1:∀r:Rn,lX [(Zf (.tup (L.map row))),(Zf (.lst (ms.map .str))),Zs [r.1],(Zf (.tup (r.2.map .str)))] = .ok (.lst (ms.map λm=>.bl (decide (m∈r.2)))) [(Zf (.tup (L.map row))),(Zf (.lst (ms.map .str))),Zs [r.1],(Zf (.tup (r.2.map .str)))]:=λr=>
  kY (lo:=4) (n:=5) ms D.str (λm=>.bl (decide (m∈r.2))) rfl rfl rfl (λm _=>iC (x:=.str m) (y:=.tup (r.2.map .str)) rfl rfl rfl (OJ m r.2)) (Qqj hm (by decide))
 have h4:=uh (lo:=2) (n:=4) (it:=dR (aK 0)) (g:=eY 2 (bG (au 2) (bG (au 3) eZ))) (c:=fB (aB rY (aa (lX) ak))) (e:=aK 2) (env:=[(Zf (.tup (L.map row))),(Zf (.lst (ms.map .str)))]) L row (λr=>[Zs [r.1],(Zf (.tup (r.2.map .str)))]) (λr=>ms.all λm=>decide (m∈r.2)) (λr=>.str [r.1]) rfl rfl (λr hd=>by
  refine⟨rfl,λvs hv=>?_,?_,λ_=>rfl⟩
  ·match vs,hv with
   | [_,_],_=>rfl
  ·exact cI (aN (aJ (h1 r) bQ) (Dy _ ms))) (Qqj hl (by decide))
 refine cT (cB (aN (aJ h4 bQ) ?_));unfold dI jr;rw[Qxv]
 rfl
theorem afn(z:List Nat)(c k:Nat):Builtin.Str.subAt (strOf z) (strOf [c]) k=(((z.drop k).take 1) == [c]):=by
 rw[StrLaws.subAt_eq,toL,toL,aW]
 rfl
theorem starts(z:List Nat)(c:Nat):rK (.str z) (.str [c])=some (.bl (z.head? == some c)):=by
 show some (D.bl (decide (0+(strOf [c]).length<=(strOf z).length)&&Builtin.Str.subAt (strOf z) (strOf [c]) 0))=_;rw[afn,aW,aW];cases z with
 | nil=>rfl
 | cons a t=>
  rw[Qw8 (by show 0+1<=t.length+1;omega),Bool.true_and];show some (D.bl ([a] == [c]))=some (D.bl (some a == some c))
  congr 2
  simp
theorem ends(z:List Nat)(c:Nat):Dw (.str z) (.str [c])=some (.bl (z.getLast? == some c)):=by
 show some (D.bl (decide (0+(strOf [c]).length<=(strOf z).length)&&Builtin.Str.subAt (strOf z) (strOf [c]) ((strOf z).length - (strOf [c]).length)))=_;rw[afn,aW,aW];rcases List.eq_nil_or_concat z with rfl|⟨t,a,rfl⟩
 ·rfl
 ·rw[List.concat_eq_append,List.getLast?_append,Qqq];rw[Qw8 (by show 0+1<=t.length+1;omega),Bool.true_and];show some (D.bl ((((t++[a]).drop (t.length+1 - 1)).take 1) == [c]))=some (D.bl (some a == some c));rw[Nat.add_sub_cancel,List.drop_left]
  congr 2
  simp
def brk(z:List Nat):Bool:=z.head? == some 91&&z.getLast? == some 93
def sg(L:List Rn)(z:List Nat):Option (List Nat):=if z=[42] then none else if brk z=true then some (jr L (gK 32 ((z.drop 1).take (z.length - 2)))) else some z
theorem aen(z:List Nat)(h:2<=z.length):cutD z (some 1) (some (-1))=(z.drop 1).take (z.length - 2):=by
 unfold cutD;have e1:HT.fc z.length 0 (some 1)=1:=by show HT.fc z.length 0 (some ((1:Nat):Int))=1;rw[HT.yK];omega
 have e2:HT.fc z.length z.length (some (-1))=z.length - 1:=by unfold HT.fc;simp;omega
 rw[e1,e2]
 rfl
theorem Z5{z:List Nat}(h:brk z=true):2<=z.length:=by
 unfold brk at h
 match z with
 | []=>simp at h
 | [a]=>
  simp at h;omega
 | _::_::r=>simp
abbrev E2(L:List Rn)(z:List Nat):Ev.Env:=[(Zf (.tup (L.map row))),Zs z]
theorem read_signs{L:List Rn}(hL:L.length<=1000){z:List Nat}(hz:z.length<=9000):ir [.tup (L.map row),.str z]=some (gD (sg L z)):=by
 unfold sg;by_cases h:z=[42]
 ·subst h;rfl
 rw[if_neg h];refine cT (env:=(E2 L z)) ?_;show pB (E2 L z)=_;unfold pB;refine(aD (e:=(E2 L z)) ?_).trans ?_
 ·exact(eO (cI (iC (x:=.str z) (y:=.str [42]) rfl rfl rfl (KY h)))).trans rfl
 have g1:dO (fB (az rK (aK 1) (Zw [91]))) (E2 L z) = .ok (!(z.head? == some 91)) (E2 L z):=fW (cI (aM (x:=.str z) (y:=.str [91]) (e1:=(E2 L z)) rfl rfl (starts z 91)));have g2:dO (fB (az Dw (aK 1) (Zw [93]))) (E2 L z) = .ok (!(z.getLast? == some 93)) (E2 L z):=fW (cI (aM (x:=.str z) (y:=.str [93]) (e1:=(E2 L z)) rfl rfl (ends z 93)));have g:j5 (dO (fB (az rK (aK 1) (Zw [91])))) (dO (fB (az Dw (aK 1) (Zw [93])))) (E2 L z) = .ok (!brk z) (E2 L z):=by
  unfold brk;cases e:(z.head? == some 91) with
  | false=>rw[e] at g1;exact Gp g1
  | true=>rw[e] at g1;exact(iQ g1).trans g2
 cases e:brk z with
 | false=>
  rw[e] at g;rw[if_neg Qxq];exact iG ((lM g).trans rfl)
 | true=>
  rw[e] at g;rw[if_pos rfl];refine(aD (e:=(E2 L z)) ?_).trans ?_
  ·exact(eO g).trans rfl
  have hc:=aen z (Z5 e);have hlm:((z.drop 1).take (z.length - 2)).length<=9000:=by rw[Qx9,Qx0];omega
  have hs:gk (.str ((z.drop 1).take (z.length - 2))) (.str [32])=some (.lst ((gK 32 ((z.drop 1).take (z.length - 2))).map .str)):=rD (by decide +kernel) (by omega);have hsl:=yJ 32 ((z.drop 1).take (z.length - 2));refine cB (aN (ds:=[.tup (L.map row),.lst ((gK 32 ((z.drop 1).take (z.length - 2))).map .str)]) (aJ (e1:=(E2 L z)) rfl (aJ (e1:=(E2 L z)) (aM (x:=.str ((z.drop 1).take (z.length - 2))) (y:=.str [32]) (e1:=(E2 L z)) ?_ rfl hs) bQ)) (sounds_by hL (by omega)));refine oA (d:=.str z) (l:=some 1) (u:=some (-1)) (e1:=(E2 L z)) (e2:=(E2 L z)) rfl rfl rfl ?_;show some (D.str (cutD z (some 1) (some (-1))))=_;rw[hc]
theorem z9:∀(xs:List (List Nat)),(bF [32] xs).length<=(xs.map λq=>q.length+1).sum
 | []=>Qzy _
 | [p]=>by show p.length<=p.length+1+0;omega
 | p::q::xs=>by
  have:=z9 (q::xs);rw[bT,Qqq,Qqq,Qq7,Qjx];show p.length+1+_<=_;omega
theorem p7:∀(p:List Nat) (xs:List (List Nat)),((p::xs).map λq=>q.length+1).sum<=(bF [32] (p::xs)).length+1
 | p,[]=>Qq2 _
 | p,q::xs=>by
  have:=p7 q xs;rw[bT,Qqq,Qqq,Qq7,Qjx];show _<=p.length+1+_+1;omega
theorem Hv(xs:List (List Nat))(k:Nat):((xs.drop k).map λq=>q.length+1).sum<=(xs.map λq=>q.length+1).sum:=by
 induction xs generalizing k with
 | nil=>rw[List.drop_nil];exact Qq2 _
 | cons x xs ih=>
  cases k with
  | zero=>exact Qq2 _
  | succ k=>have:=ih k;rw[List.drop_succ_cons,Qq7,Qjx];omega
theorem Td(xs:List (List Nat))(k:Nat):((xs.take k).map λq=>q.length+1).sum<=(xs.map λq=>q.length+1).sum:=by
 induction xs generalizing k with
 | nil=>rw[List.take_nil];exact Qq2 _
 | cons x xs ih=>
  cases k with
  | zero=>exact Qzy _
  | succ k=>have:=ih k;rw[List.take_succ_cons,Qq7,Qq7,Qjx,Qjx];omega
theorem Nh(t:List Nat):((gK 32 t).map λq=>q.length+1).sum<=t.length+1:=by
 obtain⟨p,ps,e⟩:=jV 32 t;have h:=jU 32 t;rw[e] at h ⊢;have:=p7 p ps
 rwa [h] at this
theorem aa0(t:List Nat):(lw t).length<=t.length+1:=by unfold lw;exact Qqj (z9 _) (Qqj (Td _ _) (Qqj (Hv _ _) (Nh t)))
theorem rw_le(t:List Nat):(zu t).length<=t.length+1:=by unfold zu;exact Qqj (z9 _) (Qqj (Hv _ _) (Nh t))
def rq(L:List Rn)(t:List Nat):Q:=⟨hw t,(cw t).map ch,sg L (lw t),sg L (zu t)⟩
def ok(L:List Rn)(t:List Nat):Bool:=both t&&R9 (L.map (·.1)) (rq L t)
theorem TJ{L:List Rn}(hL:L.length<=1000){z y:List Nat}(hz:z.length<=1000)(h:sg L z=some y):y.length<=1000:=by
 unfold sg at h;split at h
 ·cases h
 ·split at h
  ·cases h;unfold jr;rw[Qqk];exact Qqj (List.length_filter_le _ _) hL
  ·cases h;exact hz
section
variable{L:List Rn}(hL:L.length<=1000){t:List Nat}(ht:t.length<=900)
include hL ht
theorem T5:Sm (rq L t):=by refine⟨?_,λz h=>TJ hL (Qqj (aa0 t) (by omega)) h,λz h=>TJ hL (Qqj (rw_le t) (by omega)) h⟩;show((cw t).map ch).length<=1000;have:=yJ 32 t;rw[Qqk];unfold cw;rw[Qx9,Qx0];omega
theorem parts(h:both t=true):gm [.tup (L.map row),.str t]=some (qD (rq L t)):=by
 have:=read_parts (.tup (L.map row)) (t:=t) (by omega) h (read_signs hL (Qqj (aa0 t) (by omega))) (read_signs hL (Qqj (rw_le t) (by omega)));rw[this];unfold rq qD;rw[Qxv]
 rfl
theorem read_rule(h:ok L t=true):eG [.tup (L.map row),.str t]=some (qD (rq L t)):=by
 unfold ok at h;rw[Qwj] at h;have hi:=is_rule (sounds_of hL) (T5 hL ht);rw[h.2] at hi;refine cT (env:=[(Zf (.tup (L.map row))),Zs t,(Zf (qD (rq L t)))]) ?_;show qX [(Zf (.tup (L.map row))),Zs t,Zn]=_;unfold qX;refine(aD (e:=[(Zf (.tup (L.map row))),Zs t,Zn]) ?_).trans ?_
 ·rfl
 refine(aD (e:=[(Zf (.tup (L.map row))),Zs t,(Zf (qD (rq L t)))]) ?_).trans ?_
 ·exact bZ (aN (ds:=[.tup (L.map row),.str t]) rfl (parts hL ht h.1)) rfl
 refine(aD (e:=[(Zf (.tup (L.map row))),Zs t,(Zf (qD (rq L t)))]) ?_).trans ?_
 ·exact(eO (fW (b:=true) (cI (aN (ds:=[.tup (L.map row),qD (rq L t)]) rfl hi)))).trans rfl
 ·rfl
theorem Vi(h:ok L t=false):fY [.tup (L.map row),.str t]=some (.tup [.int 0]):=by
 have key:∀d:D,gm [.tup (L.map row),.str t]=some d->lJ [.tup (L.map row),d]=some (.bl false)->fY [.tup (L.map row),.str t]=some (.tup [.int 0]):=λd h1 h2=>by
  have k:jt (envOf 3 [.tup (L.map row),.str t]) = .rt true (.tup [.int 0]) [(Zf (.tup (L.map row))),Zs t,Zf d]:=by
   show jt [(Zf (.tup (L.map row))),Zs t,Zn]=_;unfold jt;refine(aD (e:=[(Zf (.tup (L.map row))),Zs t,Zn]) ?_).trans ?_
   ·rfl
   refine(aD (e:=[(Zf (.tup (L.map row))),Zs t,Zf d]) ?_).trans ?_
   ·exact bZ (aN (ds:=[.tup (L.map row),.str t]) rfl h1) rfl
   exact iG ((lM (fW (b:=false) (cI (aN (ds:=[.tup (L.map row),d]) rfl h2)))).trans rfl)
  show Qx 3 jt _=_;unfold Qx;rw[k]
  rfl
 unfold ok at h;cases e:both t with
 | false=>exact key .non (Qz _ (by omega) e) rfl
 | true=>
  rw[e,Bool.true_and] at h;have hi:=is_rule (sounds_of hL) (T5 hL ht);rw[h] at hi;exact key _ (parts hL ht e) hi
end
abbrev xC(d:D):D:=.clo (.Nonlocal ["NoText","part"] ⟨0,0,0,0⟩) [d]
theorem XD(d:D):uf [xC d]=some (.int 0):=by rfl
theorem refused{T t d:D}(h:fY [T,t]=some (.tup [d]))(hd:d = .non\/d = .int 0):cJ [T,t,d]=some (.bl true):=by
 refine cT (env:=[Zf T,Zf t,Zf d,Zf (xC d),Zn]) ?_;show nO [Zf T,Zf t,Zf d,Zn,Zn]=_;unfold nO;refine(aD (e:=[Zf T,Zf t,Zf d,Zf (.non),Zn]) ?_).trans ?_
 ·rfl
 refine(aD (e:=[Zf T,Zf t,Zf d,Zf (xC d),Zn]) ?_).trans ?_
 ·unfold Hy;have e:rO fY (Zv 0 (Zv 1 ak)) [Zf T,Zf t,Zf d,Zf (.non),Zn] = .ok (.tup [d]) [Zf T,Zf t,Zf d,Zf (.non),Zn]:=by
   show(match fY [T,t] with|some d=>R.ok d _|none=>.stuck)=_;rw[h]
  rw[e]
  rfl
 ·refine cB ((vq (e:=[Zf T,Zf t,Zf d,Zf (xC d),Zn]) ?_).trans ?_)
  ·rfl
  refine(vq (e:=[Zf T,Zf t,Zf d,Zf (xC d),Zn]) (aM (x:=.int 0) (y:=.int 0) (aN (ds:=[xC d]) rfl (XD d)) rfl rfl)).trans ?_;rcases hd with rfl|rfl
  ·rfl
  ·rfl
theorem wJ{L:List Rn}(hL:L.length<=1000){t:List Nat}(ht:t.length<=900)(h:ok L t=false):cJ [.tup (L.map row),.str t,.int 0]=some (.bl true):=refused (Vi hL ht h) (.inr rfl)
abbrev Pt:=List Nat×List Nat
def iu(p:Pt):D:=.tup [.str p.1,.str p.2]
open KX (W0)
structure QR where
 w:List Nat
 ps:List Pt
 l:Option (List Nat)
 r:Option (List Nat)
def cY(q:QR):D:=.tup [.str q.w,.tup (q.ps.map iu),gD q.l,gD q.r]
def Ey:List Nat->List Nat
 | []=>[48]
 | c::t=>c::t
def dg:Option (List Nat)->List Nat
 | none=>[42]
 | some z=>z
def mj(p:Pt):List Nat:=Ey p.1++[62]++Ey p.2
def Xn(q:QR):List (List Nat):=(q.w::q.ps.map mj)++[47]::[dg q.l,[95],dg q.r]
def txt(q:QR):List Nat:=bF [32] (Xn q)
def j9(c:Nat):Prop:=97<=c/\c<=122
def Ss(z:List Nat):Prop:=z=[]\/∃c,z=[c]/\j9 c
def Sg(g:Option (List Nat)):Prop:=∀z,g=some z->z≠[]/\z.length<=5/\∀c∈z,c=35\/j9 c
structure W9(q:QR):Prop where
 w:q.w=[111,110,99,101]\/q.w=[97,108,111,110,103]
 n:q.ps.length<=4
 p:∀p∈q.ps,Ss p.1/\Ss p.2
 l:Sg q.l
 r:Sg q.r
theorem Tv{z:List Nat}(h:Ss z):∃a,Ey z=[a]/\(a=48\/j9 a)/\(z=[]↔a=48):=by
 rcases h with rfl|⟨c,rfl,h⟩
 ·exact⟨48,rfl,.inl rfl,by simp⟩
 ·exact⟨c,rfl,.inr h,⟨λe=>absurd e (List.cons_ne_nil _ _),λe=>absurd h.1 (by omega)⟩⟩
theorem Az{p:Pt}(h:Ss p.1/\Ss p.2):∃a b,mj p=[a,62,b]/\Ey p.1=[a]/\Ey p.2=[b]/\(a=48\/j9 a)/\(b=48\/j9 b):=by obtain⟨a,e1,h1,_⟩:=Tv h.1;obtain⟨b,e2,h2,_⟩:=Tv h.2;exact⟨a,b,by unfold mj;rw[e1,e2];rfl,e1,e2,h1,h2⟩
theorem ni{g:Option (List Nat)}(h:Sg g):(dg g).length<=5/\∀c∈dg g,c=42\/c=35\/j9 c:=by
 cases g with
 | none=>exact⟨by decide,λc hc=>.inl (Qww.mp hc)⟩
 | some z=>exact⟨(h z rfl).2.1,λc hc=>.inr ((h z rfl).2.2 c hc)⟩
theorem w_is{w:List Nat}(h:w=[111,110,99,101]\/w=[97,108,111,110,103]):w.length<=5/\∀c∈w,j9 c:=by
 rcases h with rfl|rfl
 ·exact⟨by decide,by unfold j9;decide⟩
 ·exact⟨by decide,by unfold j9;decide⟩
theorem Nb{q:QR}(h:W9 q):W0 (Xn q) 9 5:=by
 have hw:=(w_is h.w).1;have hl:=(ni h.l).1;have hr:=(ni h.r).1;have hn:=h.n;refine⟨?_,λz hz=>?_⟩
 ·unfold Xn;rw[Qqq,Qq0,Qqk];show q.ps.length+1+4<=9;omega
 ·unfold Xn at hz;rcases Qw4.mp hz with hz|hz
  ·rcases Qq1.mp hz with rfl|hz
   ·exact hw
   ·obtain⟨p,hp,rfl⟩:=Qw0.mp hz;obtain⟨a,b,e,_⟩:=Az (h.p p hp);rw[e];exact(by decide:3<=5)
  ·simp only[Qq1,Qwz,Qz4] at hz;rcases hz with rfl|rfl|rfl|rfl
   ·decide
   ·exact hl
   ·decide
   ·exact hr
theorem Ac(sep:List Nat)(P:Nat->Prop)(hs:∀c∈sep,P c):∀xs:List (List Nat),(∀z∈xs,∀c∈z,P c)->∀c∈bF sep xs,P c
 | [],_,c,hc=>by simp[bF] at hc
 | [p],h,c,hc=>h p (Qqv ..) c hc
 | p::q::r,h,c,hc=>by
  rw[KX.bT] at hc;rcases Qw4.mp hc with hc|hc
  ·rcases Qw4.mp hc with hc|hc
   ·exact h p (Qqv ..) c hc
   ·exact hs c hc
  ·exact Ac sep P hs (q::r) (λz hz=>h z (Qqy _ hz)) c hc
theorem rm{q:QR}(h:W9 q):(txt q).length<=63:=Qqj ((Nb h).join (by decide)) (by decide)
theorem Wb{c u v:List Nat}{a b:Ev}{env e1 e2:Ev.Env}(h1:a env = .ok (.str u) e1)(h2:b e1 = .ok (.str v) e2)(hz:u.length+c.length+v.length<=sizeLine):Ju c a b env = .ok (.str (u++c++v)) e2:=by unfold Ju;rw[h1];show bindR (b e1) _=_;rw[h2];show(if u.length+c.length+v.length<=sizeLine then _ else _)=_;rw[if_pos hz]
theorem show_sound(z:List Nat):il [.str z]=some (.str (Ey z)):=by cases z<;>rfl
theorem Ab:∀z:List Nat,bF [] (z.map λc=>[c])=z
 | []=>rfl
 | [c]=>rfl
 | c::d::r=>by
  have:=Ab (d::r);rw[Qq7] at this;rw[Qq7,Qq7,KX.bT,this]
  rfl
theorem Qu{z:List Nat}(h:z.length<=5):W0 (z.map λc=>[c]) 5 1:=
 ⟨by rw[Qqk];exact h,λp hp=>by obtain⟨c,_,rfl⟩:=Qw0.mp hp;exact Qq2 _⟩
theorem Jf{z:List Nat}(h:z.length<=5):uc (.str []) (.tup (dI z))=some (.str z):=by have e:=KX.adR (Qu h) (sep:=[]) (by decide) (by decide);rw[Ab,Qxv] at e;exact e
theorem show_signs{g:Option (List Nat)}(h:Sg g):lB [gD g]=some (.str (dg g)):=by
 cases g with
 | none=>rfl
 | some z=>
  refine cT (env:=[(Zf (.tup (dI z)))]) (cB ?_);show(Mj _ _ _) [(Zf (.tup (dI z)))]=_;unfold Mj;show az uc (Zw []) (bw 0) [(Zf (.tup (dI z)))]=_;exact aM (x:=.str []) (y:=.tup (dI z)) rfl rfl (Jf (h z rfl).2.1)
theorem lY{g:Option (List Nat)}(h:Sg g):dB [gD g]=some (.str (dg g)):=by
 cases g with
 | none=>rfl
 | some z=>
  refine cT (env:=[(Zf (.tup (dI z)))]) ?_;unfold oE;refine(aD (e:=[(Zf (.tup (dI z)))]) rfl).trans (cB ?_);exact aM (x:=.str []) (y:=.tup (dI z)) rfl rfl (Jf (h z rfl).2.1)
theorem Ob{α:Type}{g:GV}{e:Ev}(P:Ev.Env->Prop)(enc out:α->D):∀(l:List α) (env:Ev.Env),P env->(∀a∈l,∀env,P env->∃e1 e2,g (enc a) env=some e1/\e e1 = .ok (out a) e2/\P e2)->∃env',G7 g cV e (l.map enc) env = .ok (l.map out) env'/\P env'
 | [],env,hp,_=>⟨env,rfl,hp⟩
 | a::l,env,hp,h=>by
  obtain⟨e1,e2,h1,h2,h3⟩:=h a (Qqv ..) env hp;obtain⟨env',h4,h5⟩:=Ob P enc out l e2 h3 λb hb=>h b (Qqy _ hb);refine⟨env',?_,h5⟩;rw[Qq7,Qq7];unfold G7;rw[h1];show bindR (e e1) _=_;rw[h2];show bindR (G7 g cV e (l.map enc) e2) _=_;rw[h4]
  rfl
theorem ah4(f:Pt->List Nat)(ps:List Pt):ps.map (λp=>D.str (f p))=(ps.map f).map D.str:=by rw[Qxv];rfl
theorem show_rule{q:QR}(h:W9 q):fZ [cY q]=some (.str (txt q)):=by
 have L:qJ [Zf (cY q),Zs q.w,(Zf (.tup (q.ps.map iu))),Zf (gD q.l),Zf (gD q.r),Zn] = .ok (.lst ((q.ps.map mj).map .str)) [Zf (cY q),Zs q.w,(Zf (.tup (q.ps.map iu))),Zf (gD q.l),Zf (gD q.r),Zn]:=by
  obtain⟨env',h1,v6,v7,rfl⟩:=Ob (g:=eY 2 (bG (au 6) (bG (au 7) eZ))) (e:=Ju [62] (aB il (Zv 6 ak)) (aB il (Zv 7 ak)))
   (λenv=>∃v6 v7,env=[Zf (cY q),Zs q.w,(Zf (.tup (q.ps.map iu))),Zf (gD q.l),Zf (gD q.r),Zn,v6,v7]) iu (λp=>.str (mj p)) q.ps [Zf (cY q),Zs q.w,(Zf (.tup (q.ps.map iu))),Zf (gD q.l),Zf (gD q.r),Zn,Zn,Zn] ⟨none,Zn,rfl⟩
   (λp hp env ⟨v6,v7,he⟩=>by
    subst he;obtain⟨a,b,_,e1,e2,_⟩:=Az (h.p p hp);refine⟨[Zf (cY q),Zs q.w,(Zf (.tup (q.ps.map iu))),Zf (gD q.l),Zf (gD q.r),Zn,Zs p.1,Zs p.2],[Zf (cY q),Zs q.w,(Zf (.tup (q.ps.map iu))),Zf (gD q.l),Zf (gD q.r),Zn,Zs p.1,Zs p.2],rfl,?_,_,_,rfl⟩;refine Wb (aN (ds:=[.str p.1]) rfl (show_sound p.1)) (aN (ds:=[.str p.2]) rfl (show_sound p.2)) ?_;rw[e1,e2];show 3<=sizeLine
    decide)
  rw[ah4] at h1;exact yQ (lo:=6) (n:=8) (ds:=q.ps.map iu) (ys:=(q.ps.map mj).map .str) (aH:=[Zf (cY q),Zs q.w,(Zf (.tup (q.ps.map iu))),Zf (gD q.l),Zf (gD q.r),Zn]) rfl rfl h1 (by rw[Qqk,Qqk];exact Qqj h.n (by decide))
 have h4:=h.n;refine cT (env:=[Zf (cY q),Zs q.w,(Zf (.tup (q.ps.map iu))),Zf (gD q.l),Zf (gD q.r),(Zl ((q.ps.map mj).map .str))]) ?_;unfold xV;refine(aD (e:=[Zf (cY q),Zs q.w,(Zf (.tup (q.ps.map iu))),Zf (gD q.l),Zf (gD q.r),Zn]) rfl).trans ?_;refine(aD (lL L)).trans ?_;refine cB (aM (x:=.str [32]) (y:=.lst ((Xn q).map .str)) (e1:=[Zf (cY q),Zs q.w,(Zf (.tup (q.ps.map iu))),Zf (gD q.l),Zf (gD q.r),(Zl ((q.ps.map mj).map .str))]) rfl ?_ (KX.t6 (Nb h) (by decide) (by decide)));refine aM (x:=.lst ((q.w::q.ps.map mj).map .str)) (y:=.lst ([[47],dg q.l,[95],dg q.r].map .str)) (e1:=[Zf (cY q),Zs q.w,(Zf (.tup (q.ps.map iu))),Zf (gD q.l),Zf (gD q.r),(Zl ((q.ps.map mj).map .str))]) ?_ ?_ ?_
 ·refine aM (x:=.lst [.str q.w]) (y:=.lst ((q.ps.map mj).map .str)) (e1:=[Zf (cY q),Zs q.w,(Zf (.tup (q.ps.map iu))),Zf (gD q.l),Zf (gD q.r),(Zl ((q.ps.map mj).map .str))]) rfl rfl ?_;refine(vo ?_).trans rfl;rw[Qqk,Qqk];show 1+q.ps.length<=sizeLine;exact Qqj (Nat.add_le_add_left h4 1) (by decide)
 ·refine qU (aJ (d:=.str [47]) (e1:=[Zf (cY q),Zs q.w,(Zf (.tup (q.ps.map iu))),Zf (gD q.l),Zf (gD q.r),(Zl ((q.ps.map mj).map .str))]) rfl (aJ (aN (ds:=[gD q.l]) (e:=[Zf (cY q),Zs q.w,(Zf (.tup (q.ps.map iu))),Zf (gD q.l),Zf (gD q.r),(Zl ((q.ps.map mj).map .str))]) rfl (show_signs h.l)) (aJ (d:=.str [95]) (e1:=[Zf (cY q),Zs q.w,(Zf (.tup (q.ps.map iu))),Zf (gD q.l),Zf (gD q.r),(Zl ((q.ps.map mj).map .str))]) rfl (aJ (aN (ds:=[gD q.r]) rfl (show_signs h.r)) bQ)))) Ev.zz4
 ·refine(vo ?_).trans ?_
  ·rw[Qqk,Qq0,Qqk];show q.ps.length+1+4<=sizeLine;exact Qqj (Nat.add_le_add_right (Nat.add_le_add_right h4 1) 4) (by decide)
  ·unfold Xn;rw[Qxz]
theorem Ak(xs ys:List (List Nat))(a:List Nat):bF [32] ((a::xs)++ys)=ys.foldl (λacc y=>acc++[32]++y) (bF [32] (a::xs)):=by
 show(xs++ys).foldl (λacc y=>acc++[32]++y) a=_;rw[List.foldl_append]
 rfl
theorem ix0{z:List Nat}(h:Ss z):je (.str (z++[48])) (.int 0)=some (.str (Ey z)):=by rcases h with rfl|⟨c,rfl,h⟩<;>rfl
theorem nH{a b:List Nat}(h:a.length+b.length<=100000):aP (.str a) (.str b)=some (.str (a++b)):=if_pos (Qqj h (by decide))
theorem Nq(A0 A1 A2 A3 A4:OD):∀(ps:List Pt) (acc:List Nat) (v6 v7:OD),(∀p∈ps,Ss p.1/\Ss p.2)->acc.length+4*ps.length<=1000->
  ∃w6 w7,j4 (eY 2 (bG (au 6) (bG (au 7) eZ))) du (ps.map iu) [A0,A1,A2,A3,A4,Zs acc,v6,v7] = .nx [A0,A1,A2,A3,A4,(Zs ((ps.map mj).foldl (λacc y=>acc++[32]++y) acc)),w6,w7]
 | [],acc,v6,v7,_,_=>⟨v6,v7,rfl⟩
 | p::ps,acc,v6,v7,h,hl=>by
  have hp:=h p (Qqv ..);obtain⟨a,b,e,e1,e2,_⟩:=Az hp;rw[Qq0] at hl;have hb:du [A0,A1,A2,A3,A4,Zs acc,Zs p.1,Zs p.2] = .nx [A0,A1,A2,A3,A4,Zs (acc++[32]++mj p),Zs p.1,Zs p.2]:=by
   generalize hE:([A0,A1,A2,A3,A4,Zs acc,Zs p.1,Zs p.2]:Ev.Env)=env;have l1:p.1.length<=1:=by rcases hp.1 with z|⟨c,z,_⟩<;>rw[z]<;>simp
   have l2:p.2.length<=1:=by rcases hp.2 with z|⟨c,z,_⟩<;>rw[z]<;>simp
   have s1:aA aP 5 (Zw [32]) env = .ok (.str (acc++[32])) env:=iC (x:=.str acc) (by rw[<-hE];rfl) rfl (by rw[<-hE];rfl) (nH (by show acc.length+1<=_;omega));have s2:az je (aA aP 6 (Zw [48])) (Zi 0) env = .ok (.str (Ey p.1)) env:=aM (y:=.int 0) (iC (x:=.str p.1) (by rw[<-hE];rfl) rfl (by rw[<-hE];rfl) (nH (by show p.1.length+1<=_;omega))) rfl (ix0 hp.1);have s3:az je (aA aP 7 (Zw [48])) (Zi 0) env = .ok (.str (Ey p.2)) env:=aM (y:=.int 0) (iC (x:=.str p.2) (by rw[<-hE];rfl) rfl (by rw[<-hE];rfl) (nH (by show p.2.length+1<=_;omega))) rfl (ix0 hp.2);unfold du;refine bZ (d:=.str (acc++[32]++mj p)) (e:=env) ?_ (by rw[<-hE];rfl);refine aM (x:=.str (acc++[32]++Ey p.1++[62])) (aM (x:=.str (acc++[32]++Ey p.1)) (aM s1 s2 (nH ?_)) (y:=.str [62]) rfl (nH ?_)) s3 ?_
   ·rw[e1,Qqq];show acc.length+1+1<=_;omega
   ·rw[e1,Qqq,Qqq];show acc.length+1+1+1<=_;omega
   ·refine(nH ?_).trans ?_
    ·rw[e1,e2,Qqq,Qqq,Qqq];show acc.length+1+1+1+1<=_;omega
    ·unfold mj;simp only[Qwk]
  obtain⟨w6,w7,hf⟩:=Nq A0 A1 A2 A3 A4 ps (acc++[32]++mj p) (Zs p.1) (Zs p.2) (λq hq=>h q (Qqy _ hq)) (by rw[Qqq,Qqq,e];show acc.length+1+3+4*ps.length<=1000;omega);refine⟨w6,w7,?_⟩;rw[Qq7,Qq7,Qx4];unfold j4;show(match du [A0,A1,A2,A3,A4,Zs acc,Zs p.1,Zs p.2] with|.nx e2=>j4 _ du (ps.map iu) e2|.ct e2=>_|.bk e2=>_|.rt o d e2=>_|.stuck=>_)=_;rw[hb];exact hf
theorem nG{q:QR}(h:W9 q):cU [cY q]=some (.str (txt q)):=by
 have hw:=(w_is h.w).1;have hl:=(ni h.l).1;have hr:=(ni h.r).1;have h4:=h.n;obtain⟨w6,w7,hf⟩:=Nq (Zf (cY q)) (Zs q.w) (Zf (.tup (q.ps.map iu))) (Zf (gD q.l)) (Zf (gD q.r)) q.ps q.w none none h.p (by omega);have hj:(q.ps.map mj).foldl (λacc y=>acc++[32]++y) q.w=bF [32] (q.w::q.ps.map mj):=rfl;rw[hj] at hf;have ht:txt q=bF [32] (q.w::q.ps.map mj)++[32,47,32]++dg q.l++[32,95,32]++dg q.r:=by unfold txt Xn;rw[Ak];show bF [32] (q.w::q.ps.map mj)++[32]++[47]++[32]++dg q.l++[32]++[95]++[32]++dg q.r=_;simp
 have hlen:(bF [32] (q.w::q.ps.map mj)).length<=63:=by have:=rm h;rw[ht] at this;simp only[Qqq] at this;omega
 generalize bF [32] (q.w::q.ps.map mj)=J at hf ht hlen;refine cT (env:=[Zf (cY q),Zs q.w,(Zf (.tup (q.ps.map iu))),Zf (gD q.l),Zf (gD q.r),Zs J,w6,w7]) ?_;unfold pJ;refine(aD (e:=[Zf (cY q),Zs q.w,(Zf (.tup (q.ps.map iu))),Zf (gD q.l),Zf (gD q.r),Zn,Zn,Zn]) rfl).trans ?_;refine(aD (e:=[Zf (cY q),Zs q.w,(Zf (.tup (q.ps.map iu))),Zf (gD q.l),Zf (gD q.r),Zs q.w,Zn,Zn]) rfl).trans ?_;refine(aD ((fC (ds:=q.ps.map iu) rfl).trans hf)).trans ?_;generalize hE:([Zf (cY q),Zs q.w,(Zf (.tup (q.ps.map iu))),Zf (gD q.l),Zf (gD q.r),Zs J,w6,w7]:Ev.Env)=env;have s1:aA aP 5 (Zw [32,47,32]) env = .ok (.str (J++[32,47,32])) env:=iC (x:=.str J) (by rw[<-hE];rfl) rfl (by rw[<-hE];rfl) (nH (by show J.length+3<=_;omega));have s2:aB dB (Zv 3 ak) env = .ok (.str (dg q.l)) env:=aN (ds:=[gD q.l]) (by rw[<-hE];rfl) (lY h.l);have s3:aB dB (Zv 4 ak) env = .ok (.str (dg q.r)) env:=aN (ds:=[gD q.r]) (by rw[<-hE];rfl) (lY h.r);rw[ht];refine cB (aM (x:=.str (J++[32,47,32]++dg q.l++[32,95,32])) (aM (x:=.str (J++[32,47,32]++dg q.l)) (aM s1 s2 (nH ?_)) (y:=.str [32,95,32]) rfl (nH ?_)) s3 (nH ?_))
 ·rw[Qqq];show J.length+3+_<=_;omega
 ·rw[Qqq,Qqq];show J.length+3+_+3<=_;omega
 ·rw[Qqq,Qqq,Qqq];show J.length+3+_+3+_<=_;omega
open yo (lW lF XS yl WT qY G4 XOk known nU uC mk Vp marks HB SG sgR rn G6 round PV MP prs Gx Gw Ge)
theorem yP{g:D->Option D}{a:Ev}{env e:Ev.Env}{x d:D}(h:a env = .ok x e)(h':g x=some d):dY g a env = .ok d e:=by
 unfold dY;rw[h];show fJ (g x) e=_;rw[h']
 rfl
theorem aef{a:di}{env e:Ev.Env}{ds ys:List D}(h:a env = .ok ds e)(h':qy ds=some ys):fV a env = .ok ys e:=by
 unfold fV;rw[h];show fJ (qy ds) e=_;rw[h']
 rfl
def ABC:List Nat:=[97,98,99,100,101,102,103,104,105,106,107,108,109,110,111,112,113,114,115,116,117,118,119,120,121,122]
def lt(a b k:Nat):Nat:=97+(a+(1+b)*k) % 26
theorem aez:∀m:Nat,m<26->sr ABC (m:Int)=some (97+m):=by
 have h:((List.range 26).all λ(m:Nat)=>sr ABC (m:Int) == some (97+m))=true:=by decide +kernel
 intro m hm;exact eq_of_beq (Qq8.mp h m (Qx1.mpr hm))
def agH:Ev:=aA je 1 (az Rr (aA aP 2 (aA n8 3 (bw 4))) (Zi 26))
theorem elt(a b k:Nat)(hb:b<25)(hk:k<4)(v:OD):agH [v,Zs ABC,(Zf (.int (a:Int))),(Zf (.int (1+(b:Int)))),(Zf (.int (k:Int)))] = .ok (.str [lt a b k]) [v,Zs ABC,(Zf (.int (a:Int))),(Zf (.int (1+(b:Int)))),(Zf (.int (k:Int)))]:=by
 generalize hE:([v,Zs ABC,(Zf (.int (a:Int))),(Zf (.int (1+(b:Int)))),(Zf (.int (k:Int)))]:Ev.Env)=env;have m1:jl (1+(b:Int)) (k:Int)=true:=lW (a:=8) (b:=8) (lF (by omega)) (lF (by omega)) (by decide);have e1:aA n8 3 (bw 4) env = .ok (.int ((1+(b:Int))*(k:Int))) env:=iC (x:=.int (1+(b:Int))) (by rw[<-hE];rfl) (by rw[<-hE];rfl) (by rw[<-hE];rfl) (Gk m1);have e2:aA aP 2 (aA n8 3 (bw 4)) env = .ok (.int ((a:Int)+(1+(b:Int))*(k:Int))) env:=iC (x:=.int (a:Int)) (by rw[<-hE];rfl) e1 (by rw[<-hE];rfl) rfl;have e3:az Rr (aA aP 2 (aA n8 3 (bw 4))) (Zi 26) env = .ok (.int (((a:Int)+(1+(b:Int))*(k:Int)) % 26)) env:=aM e2 (y:=.int 26) rfl rfl;have e4:((a:Int)+(1+(b:Int))*(k:Int)) % 26=(((a+(1+b)*k) % 26:Nat):Int):=by push_cast;rfl
 rw[e4] at e3;refine iC (x:=.str ABC) (by rw[<-hE];rfl) e3 (by rw[<-hE];rfl) ?_;show(sr ABC _).map _=_;rw[aez _ (Nat.mod_lt _ (by decide))]
 rfl
def Su(a b m:Nat):List (List Nat):=(List.range m).map λk=>[lt a b k]
def yL:List Nat->Bool
 | []=>true
 | [_]=>true
 | x::y::r=>decide (x<y)&&yL (y::r)
def good(x:List Nat):Bool:=decide (1<=x.length)&&decide (x.length<=4)&&x.all (λc=>decide (97<=c)&&decide (c<=122))&&yL x
def chk(a b m:Nat):Bool:=match (qO (.lst ((Su a b m).map .str))) with
 | some l=>(match jo (.str []) l with
  | some (.str x)=>good x
  | _=>false)
 | none=>false
theorem ZZ:((List.range 26).all λa=>(List.range 25).all λb=>(List.range 4).all λm=>chk a b (m+1))=true:=by decide +kernel
theorem aeo{a b m:Nat}(ha:a<26)(hb:b<25)(hm:m<4):∃l x,qO (.lst ((Su a b (m+1)).map .str))=some l/\jo (.str []) l=some (.str x)/\good x=true:=by
 have h:=Qq8.mp (Qq8.mp (Qq8.mp ZZ a (Qx1.mpr ha)) b (Qx1.mpr hb)) m (Qx1.mpr hm);unfold chk at h;split at h
 ·rename_i l e;split at h
  ·rename_i x e2;exact⟨l,x,e,e2,h⟩
  ·cases h
 ·cases h
theorem drawn(n:Int):∃x n',iV [.lst [.int n]]=some (.str x,.lst [.int n'])/\good x=true:=by
 obtain⟨a,ha,ea⟩:=dig n 26 (by decide);obtain⟨b,hb,eb⟩:=dig (n / 26) 25 (by decide);obtain⟨m,hm,em⟩:=dig (n / 26 / 25) 4 (by decide);obtain⟨l,x,h1,h2,h3⟩:=aeo ha hb hm;refine⟨x,n / 26 / 25 / 4,jW (env:=[Zl [.int (n / 26 / 25 / 4)],Zs ABC,(Zf (.int (a:Int))),(Zf (.int (1+(b:Int))))]) ?_ rfl,h3⟩;unfold my;refine(aD (e:=[Zl [.int n],Zs ABC,Zn,Zn]) (by rfl)).trans ?_;refine(aD (e:=[Zl [.int (n / 26 / 25)],Zs ABC,(Zf (.int (n % (26:Nat)))),(Zf (.int (1+n / 26 % (25:Nat))))]) (by rfl)).trans ?_;rw[ea,eb];have hr:fV (aa (az aP (Zi 1) (gB bJ 0 (aa (Zi 4) ak))) ak) [Zl [.int (n / 26 / 25)],Zs ABC,(Zf (.int (a:Int))),(Zf (.int (1+(b:Int))))] = .ok ((List.range (m+1)).map λ(k:Nat)=>D.int (k:Int)) [Zl [.int (n / 26 / 25 / 4)],Zs ABC,(Zf (.int (a:Int))),(Zf (.int (1+(b:Int))))]:=by
  refine aef (ds:=[.int (1+n / 26 / 25 % (4:Nat))]) (by rfl) ?_;rw[em];have hc:m=0\/m=1\/m=2\/m=3:=by omega
  rcases hc with rfl|rfl|rfl|rfl<;>rfl
 obtain⟨e',f1,v4,rfl⟩:=lcE (g:=au 4) (e:=agH) (λenv=>∃v,env=[Zl [.int (n / 26 / 25 / 4)],Zs ABC,(Zf (.int (a:Int))),(Zf (.int (1+(b:Int)))),v]) (λ(k:Nat)=>D.int (k:Int)) (λk=>.str [lt a b k]) (List.range (m+1)) [Zl [.int (n / 26 / 25 / 4)],Zs ABC,(Zf (.int (a:Int))),(Zf (.int (1+(b:Int)))),Zn] ⟨_,rfl⟩
  (λk hk env ⟨v,he⟩=>by
   subst he;exact⟨_,_,rfl,elt a b k hb (by have:=Qx1.mp hk;omega) _,_,rfl⟩)
 have hz:(List.range (m+1)).map (λk=>D.str [lt a b k])=(Su a b (m+1)).map .str:=by unfold Su;rw[Qxv];rfl
 rw[hz] at f1;have hl:=yQ (lo:=4) (n:=5) hr rfl f1 (by unfold Su;rw[Qqk,Qqk,List.length_range];exact Qqj (Nat.succ_le_of_lt hm) (by decide));exact cB (aM (x:=.str []) rfl (yP hl h1) h2)
theorem Nk:∀{y z:List Nat},dI y=dI z->y=z
 | [],[],_=>rfl
 | [],_::_,h=>by cases h
 | _::_,[],h=>by cases h
 | a::y,b::z,h=>by
  have h1:D.str [a]::dI y=D.str [b]::dI z:=h;injection h1 with h2 h3
  injection h2 with h4
  injection h4 with h5
  rw[h5,Nk h3]
theorem Tz(y:List Nat)(a:Nat):dI (y++[a])=dI y++[.str [a]]:=by unfold dI;rw[Qxz];rfl
theorem XF{z:List Nat}{done rest:List D}{d:D}(h:dI z=done++d::rest):∃a,d = .str [a]/\a∈z/\done.length<z.length:=by
 have hm:d∈dI z:=by rw[h];exact Qxy _ (Qqv ..)
 obtain⟨a,ha,rfl⟩:=Qw0.mp hm;have:=Qz0 List.length h;unfold dI at this;rw[Qqk,Qqq,Qq0] at this;exact⟨a,rfl,ha,by omega⟩
def ael:D->Option (List Nat)
 | .str z=>some z
 | _=>none
def ZM:List D->Option (List (List Nat))
 | []=>some []
 | d::r=>match ael d,ZM r with
  | some c,some z=>some (c::z)
  | _,_=>none
def aem:D->Option (List (List Nat))
 | .tup ds=>ZM ds
 | _=>none
theorem ZP{d:D}{z:List Nat}(h:ael d=some z):d = .str z:=by
 unfold ael at h;split at h
 ·cases h;rfl
 ·cases h
theorem Pg:∀{ds:List D} {z:List (List Nat)},ZM ds=some z->ds=z.map .str
 | [],z,h=>by cases h;rfl
 | d::r,z,h=>by
  unfold ZM at h;split at h
  ·rename_i c y h1 h2;cases h;rw[ZP h1,Pg h2]
   rfl
  ·cases h
theorem ZQ{d:D}{z:List (List Nat)}(h:aem d=some z):d = .tup (z.map .str):=by
 unfold aem at h;split at h
 ·rw[Pg h]
 ·cases h
def KN:List (List Nat):=[[115,116,111,112],[115,116,111,112,115],[115],[111,112,101,110],[97,98,99,100,101,102,103,104]]
def mok(ms:List (List Nat)):Bool:=ms.all λz=>KN.contains z
def mT(d:Nat):D:=match mk d with
 | .lst zs=>.tup (cutD zs none (some 4))
 | _=>.non
theorem adG:((List.range 32).all λd=>match aem (mT d) with|some ms=>mok ms|none=>false)=true:=by decide +kernel
theorem agf(d:Nat)(hd:d<32):∃ms,mT d = .tup (ms.map .str)/\mok ms=true:=by
 have h1:=Qq8.mp adG d (Qx1.mpr hd);split at h1
 ·rename_i ms e;exact⟨ms,ZQ e,h1⟩
 ·cases h1
theorem Z6:qL=nU:=rfl
theorem KZ(n:Int)(b v5 v6:OD)(acc:List D)(s:D)(ha:acc.length<=10):∃ms v5' v6',mok ms=true/\nU [Zl [.int n],b,Zf known,Zl acc,Zf s,v5,v6] = .nx [Zl [.int (n / 32)],b,Zf known,Zl (acc++[.tup [s,.tup (ms.map .str)]]),Zf s,v5',v6']:=by
 obtain⟨d,hd,e⟩:=dig n 32 (by decide);obtain⟨zs,hz⟩:=Vp d hd;obtain⟨ms,hms,hmo⟩:=agf d hd;have hmt:D.tup (cutD zs none (some 4)) = .tup (ms.map .str):=by rw[<-hms];unfold mT;rw[hz]
 refine⟨ms,Zf (.int d),Zf (.lst zs),hmo,?_⟩;rw[<-hmt];unfold nU;refine(aD (e:=[Zl [.int (n / 32)],b,Zf known,Zl acc,Zf s,Zf (.int (n % (32:Nat))),v6]) (by rfl)).trans ?_;rw[e];refine(aD (marks d hd _ _ _ _ _)).trans ?_;rw[hz];exact Ev.Ti (xs:=acc) (e:=[Zl [.int (n / 32)],b,Zf known,Zl acc,Zf s,Zf (.int d),Zf (.lst zs)]) rfl rfl rfl (Qx6 ha (by decide))
structure Stk(L:List Rn):Prop where
 HD:good (L.map (·.1))=true
 mks:∀r∈L,mok r.2=true
theorem lZ{x:List Nat}(h:good x=true):1<=x.length/\x.length<=4:=by unfold good at h;simp only[Qwj,decide_eq_true_eq] at h;exact h.1.1
theorem stock(n:Int):∃L n',Stk L/\qT [.lst [.int n]]=some (.tup (L.map row),.lst [.int n']):=by
 obtain⟨x,n1,h1,hx⟩:=drawn n;have hxl:=(lZ hx).2;obtain⟨e',f1,n',rws,v4,v5,v6,rfl,hr,hmo⟩:=Dz (g:=au 4) (b:=nU) (dI x) (λdone env=>∃(n:Int) (rws:List Rn) (v4 v5 v6:OD),env=[Zl [.int n],Zs x,Zf known,Zl (rws.map row),v4,v5,v6]/\dI (rws.map (·.1))=done/\∀r∈rws,mok r.2=true)
  (λdone s rest hall env ⟨n,rws,v4,v5,v6,he,hr,hmo⟩=>by
   subst he;have hd:done.length<=4:=by have:=Qz0 List.length hall;unfold dI at this;rw[Qqk,Qqq,Qq0] at this;omega
   obtain⟨a,rfl,_,_⟩:=XF hall;have hrl:(rws.map row).length<=10:=by have:=Qz0 List.length hr;unfold dI at this;rw[Qqk,Qqk] at this;rw[Qqk];omega
   obtain⟨ms,w5,w6,hm,hb⟩:=KZ n (Zs x) v5 v6 (rws.map row) (.str [a]) hrl;refine⟨_,_,rfl,hb,n / 32,rws++[(a,ms)],_,_,_,by rw[Qxz];rfl,by rw[Qxz,<-hr];exact Tz _ _,λr hr'=>?_⟩;rcases Qw4.mp hr' with h|h
   ·exact hmo r h
   ·rw[Qww.mp h];exact hm)
  [Zl [.int n1],Zs x,Zf known,Zl [],Zn,Zn,Zn] ⟨_,[],_,_,_,rfl,rfl,λr hr=>by simp at hr⟩
 have hrx:=Nk hr;refine⟨rws,n',⟨by rw[hrx];exact hx,hmo⟩,jW (env:=[Zl [.int n'],Zs x,Zf known,Zl (rws.map row),v4,v5,v6]) ?_ rfl⟩;unfold xW;rw[Z6];refine(aD (e:=[Zl [.int n1],Zs x,Zn,Zn,Zn,Zn,Zn]) ?_).trans ?_
 ·exact bZ (jq (e1:=[Zl [.int n],Zn,Zn,Zn,Zn,Zn,Zn]) rfl rfl rfl h1) rfl
 refine(aD (e:=[Zl [.int n1],Zs x,Zf known,Zn,Zn,Zn,Zn]) (by rfl)).trans ?_;refine(aD (e:=[Zl [.int n1],Zs x,Zf known,Zl [],Zn,Zn,Zn]) (by rfl)).trans ?_;refine(aD (e:=[Zl [.int n'],Zs x,Zf known,Zl (rws.map row),v4,v5,v6]) ?_).trans ?_
 ·exact(fC (ds:=dI x) (by rfl)).trans f1
 ·rfl
theorem T6:∀{x:List Nat},yL x=true->x.Pairwise (·< ·)
 | [],_=>.nil
 | [_],_=>by simp
 | a::b::r,h=>by
  unfold yL at h;rw[Qwj,decide_eq_true_eq] at h;have ih:=T6 h.2;refine Qzq.mpr ⟨λc hc=>?_,ih⟩;rcases Qq1.mp hc with rfl|hc
  ·exact h.1
  ·exact Nat.lt_trans h.1 ((Qzq.mp ih).1 c hc)
theorem lt1{a b:Nat}:([a]:List Nat) < [b]↔a<b:=by rw[List.cons_lt_cons_iff];simp
theorem K9:∀{zs:List (List Nat)},zs.Pairwise (·< ·)->oX zs=true
 | [],_=>rfl
 | [_],_=>rfl
 | a::b::r,h=>by
  unfold oX;rw[Qwj,decide_eq_true_eq];exact⟨(Qzq.mp h).1 b (Qqv ..),K9 (Qzq.mp h).2⟩
section
variable{x:List Nat}(h:good x=true)
include h
theorem Ot:x.Pairwise (·< ·):=by unfold good at h;simp only[Qwj] at h;exact T6 h.2
theorem jm{c:Nat}(hc:c∈x):j9 c:=by unfold good at h;simp only[Qwj,Qq8,decide_eq_true_eq] at h;exact h.1.2 c hc
theorem Gg:x∈XS:=WT ⟨(lZ h).2,(lZ h).1,(Ot h).imp (λh=>Qwv h),λhc=>by have:=jm h hc;unfold j9 at this;omega⟩
end
theorem le1{a b:Nat}(h:([a]:List Nat)<=[b]):a<=b:=by apply Nat.le_of_not_lt;intro hl;exact h (lt1.mpr hl)
theorem Tn{zs:List Nat}(hn:zs.Nodup):oX (fD (zs.map λc=>[c]))=true:=by
 have hp:=gh (zs.map λc=>[c]);have hs:=oK (zs.map λc=>[c]);have hnd:(fD (zs.map λc=>[c])).Nodup:=hp.nodup_iff.mpr (List.pairwise_map.mpr (hn.imp λh e=>h (by simpa using e)));refine K9 ?_;have hall:∀z∈fD (zs.map λc=>[c]),∃c,z=[c]:=λz hz=>by
  obtain⟨c,_,e⟩:=Qw0.mp (hp.mem_iff.mp hz);exact⟨c,e.symm⟩
 have:=List.Pairwise.and hs hnd;refine List.Pairwise.imp_of_mem ?_ this;intro a b ha hb h;obtain⟨c,rfl⟩:=hall a ha;obtain⟨d,rfl⟩:=hall b hb;have h1:=le1 h.1;have h2:c≠d:=λe=>h.2 (by rw[e]);exact lt1.mpr (by omega)
open yo (XS yl WT qY G4 SG sgR rn G6 round PV MP prs Gx Gw Ge oth)
theorem Mp:gF=yo.gF:=rfl
theorem Tt:gb=yo.gb:=rfl
def c2(p:Pt):List (Option (List Nat)):=[some p.1,some p.2]
theorem aev(ps:List Pt):ps.map iu=(ps.map c2).map cD:=by rw[Qxv];rfl
theorem acx{x:List Nat}{c:Nat}{v:D}(h:(c,v)∈PV x):c∈x/\∃z,v = .str z/\z≠[c]/\(z=[]\/∃b∈x,z=[b]):=by
 unfold PV at h;obtain⟨c',hc,h2⟩:=List.mem_flatMap.mp h;obtain⟨v',h3,h4⟩:=Qw0.mp h2;cases h4;unfold oth at h3;obtain⟨z,h5,rfl⟩:=Qw0.mp h3;obtain⟨h6,h7⟩:=List.mem_filter.mp h5;refine⟨hc,z,rfl,by simpa using h7,?_⟩;rcases Qw4.mp h6 with h|h
 ·obtain⟨b,hb,rfl⟩:=Qw0.mp h;exact .inr ⟨b,hb,rfl⟩
 ·exact .inl (by simpa using h)
structure Chs(x:List Nat)(ps:List Pt):Prop where
 n:0<ps.length/\ps.length<=4
 s:∀p∈ps,Ss p.1/\Ss p.2
 a:G3 x (ps.map c2)=true
theorem Uv{x:List Nat}{c:Nat}(h:c∈x)(hl:j9 c):Chs x [([],[c])]:=by
 refine⟨⟨Nat.zero_lt_one,by show 1<=4;omega⟩,λp hp=>?_,?_⟩
 ·cases Qww.mp hp;exact⟨.inl rfl,.inr ⟨c,rfl,hl⟩⟩
 ·unfold G3;have:pu x (c2 ([],[c]))=true:=by
   show((some ([]:List Nat) == some [])&&x.contains c)=true;simp[h]
  simp[this]
theorem zz{x:List Nat}{kvs:List (D×D)}:∀(ks:List (List Nat)),(∀k∈ks.map D.str,∃c v,k = .str [c]/\lg (.dct kvs) k=some v/\(c,v)∈PV x)->
  ∃ps:List Pt,D.tup (prs kvs (ks.map .str)) = .tup (ps.map iu)/\ps.map (·.1)=ks/\∀p∈ps,∃c z,p=([c],z)/\c∈x/\z≠[c]/\(z=[]\/∃b∈x,z=[b])
 | [],_=>⟨[],rfl,rfl,λp hp=>nomatch hp⟩
 | k::ks,h=>by
  obtain⟨ps,e1,e2,e3⟩:=zz ks λk' hk=>h k' (Qqy _ hk);obtain⟨c,v,hk,hv,hp⟩:=h (.str k) (Qqv ..);obtain⟨hc,z,rfl,hz,h2⟩:=acx hp;have hk':k=[c]:=by injection hk
  subst hk';refine⟨([c],z)::ps,?_,by rw[Qq7,e2],λp hp=>?_⟩
  ·injection e1 with e1
   show D.tup (.tup [.str [c],(lg (.dct kvs) (.str [c])).getD .non]::prs kvs (ks.map .str))=_;rw[hv,e1]
   rfl
  ·rcases Qq1.mp hp with rfl|hp
   ·exact⟨c,z,rfl,hc,hz,h2⟩
   ·exact e3 p hp
theorem Mm{x zs:List Nat}(hg:good x=true)(hn:zs.Nodup)(h0:0<zs.length)(h3:zs.length<=3){ps:List Pt}(hk:ps.map (·.1)=fD (zs.map λc=>[c]))(hp:∀p∈ps,∃c z,p=([c],z)/\c∈x/\z≠[c]/\(z=[]\/∃b∈x,z=[b])):Chs x ps:=by
 have hl:ps.length=zs.length:=by have:=Qz0 List.length hk;rw[Qqk,(gh _).length_eq,Qqk] at this;exact this
 refine⟨by omega,λp hpp=>?_,?_⟩
 ·obtain⟨c,z,rfl,hc,_,h2⟩:=hp p hpp;refine⟨.inr ⟨c,rfl,jm hg hc⟩,?_⟩;rcases h2 with rfl|⟨b,hb,rfl⟩
  ·exact .inl rfl
  ·exact .inr ⟨b,rfl,jm hg hb⟩
 ·unfold G3;have e1:(ps.map c2).all (Gu x)=true:=by
   rw[List.all_map,Qq8];intro p hpp;obtain⟨c,z,rfl,hc,hz,h2⟩:=hp p hpp;show(x.contains c&&((Jh x (some z)||some z == some []) && !(some [c] == some z)))=true;have e:(some [c] == some z)=false:=by rw[Qwx];intro e;injection e with e;exact hz e.symm
   rw[e,List.contains_iff_mem.mpr hc];rcases h2 with rfl|⟨b,hb,rfl⟩
   ·simp
   ·show(true&&((x.contains b||_)&&true))=true;rw[List.contains_iff_mem.mpr hb]
    rfl
  have e2:(ps.map c2).map old=fD (zs.map λc=>[c]):=by
   rw[<-hk,Qxv]
   rfl
  have e3:(ps.map c2).isEmpty=false:=by
   cases ps with
   | nil=>simp at hl;omega
   | cons _ _=>rfl
  rw[e1,e2,e3,Tn hn];simp
theorem changes(n:Int)(x:List Nat)(hg:good x=true):∃ps n',gF [.lst [.int n],.str x]=some (.tup (ps.map iu),.lst [.int n'])/\Chs x ps:=by
 have hx:=Gg hg;rw[Mp];obtain⟨d,hd,e⟩:=dig n 5 (by decide);have hp:=G4 x hx;have hl4:=qY x hx;have t:fB (az kJ (gB yo.bJ 0 (aa (Zi 5) ak)) (Zi 0)) [Zl [.int n],Zs x,Zn,Zn,Zn,Zn] = .ok ((d:Int) == 0) [Zl [.int (n / 5)],Zs x,Zn,Zn,Zn,Zn]:=by
  rw[<-e]
  rfl
 by_cases h0:d=0
 ·subst h0;obtain⟨j,hj,ej⟩:=dig (n / 5) x.length hp;refine⟨[([],[x[j]])],n / 5 / (x.length:Int),jW (env:=[Zl [.int (n / 5 / (x.length:Int))],Zs x,Zn,Zn,Zn,Zn]) ?_ rfl,Uv (List.getElem_mem hj) (jm hg (List.getElem_mem hj))⟩;unfold yo.iI;refine(iG (d:=.tup [.tup [.str [],.str [x[j]]]]) (o:=false) (e:=[Zl [.int (n / 5 / (x.length:Int))],Zs x,Zn,Zn,Zn,Zn]) ?_).trans rfl;refine(lM t).trans ?_;refine cB (ou (aJ (ou (ds:=[.str [],.str [x[j]]]) (aJ (d:=.str []) (by rfl) (aJ ?_ bQ)) Ev.zz2) bQ) Ev.zz1);refine iC (x:=.str x) (y:=.int (n / 5 % (x.length:Int))) (by rfl) ?_ (by rfl) ?_
  ·exact jq (x:=.lst [.int (n / 5)]) (x0:=.lst [.int (n / 5)]) (ds:=[.int (x.length:Int)]) (e1:=[Zl [.int (n / 5)],Zs x,Zn,Zn,Zn,Zn]) (by rfl) (by rfl) (by rfl) (rn _ x.length hp (by omega))
  ·show(sr x (n / 5 % (x.length:Int))).map _=_;rw[ej,Mz hj]
   rfl
 ·have t0:((d:Int) == 0)=false:=by rw[Qwx];omega
  rw[t0] at t;obtain⟨j,hj,ej⟩:=dig (n / 5) 3 (by decide);obtain⟨ds,hds,hl1,hl2⟩:∃ds,qy [.int (1+(j:Int))]=some ds/\0<ds.length/\ds.length<=3:=by
   have hc:j=0\/j=1\/j=2:=by omega
   rcases hc with rfl|rfl|rfl
   ·exact⟨_,rfl,by decide,by decide⟩
   ·exact⟨_,rfl,by decide,by decide⟩
   ·exact⟨_,rfl,by decide,by decide⟩
  obtain⟨e',f1,n',kvs,zs,v3,v4,v5,rfl,hk,hz1,hz2⟩:=Dz (g:=au 3) (b:=aL yo.one (aL yo.others yo.Uw)) ds
   (λdone env=>∃n kvs zs v3 v4 v5,env=[Zl [.int n],Zs x,Zt (.dct kvs),v3,v4,v5]/\G6 x kvs zs/\zs.length<=done.length/\(0<done.length->0<zs.length))
   (λdone s rest hall env ⟨n,kvs,zs,v3,v4,v5,he,hk,hz1,hz2⟩=>by
    subst he;have hdl:done.length<=3:=by have:=Qz0 List.length hall;rw[Qqq,Qq0] at this;omega
    have hkl:kvs.length=zs.length:=by
     have:=Qz0 List.length hk.keys
     rwa [Qqk,Qqk] at this
    obtain⟨p,n',w4,w5,hpv,hb⟩:=round n x hx kvs (by omega) (Zf s) v4 v5;obtain⟨zs',hk',z1,z2⟩:=hk.put hpv (MP hpv);exact⟨_,_,rfl,hb,n',_,zs',_,_,_,rfl,hk',by rw[Qqq,List.length_singleton];omega,λ_=>z1⟩)
   [Zl [.int (n / 5 / 3)],Zs x,Zt (.dct []),Zn,Zn,Zn] ⟨_,[],[],_,_,_,rfl,⟨rfl,.nil,λc hc=>by simp at hc,λk v h=>by simp at h⟩,Qq2 _,λh=>h⟩
  have hz3:zs.length<=3:=Qqj hz1 hl2;obtain⟨ps,hps,hks,hpp⟩:=zz (x:=x) (kvs:=kvs) (fD (zs.map λc=>[c])) (λk hk'=>Ge hk k hk');refine⟨ps,n',jW (env:=[Zl [.int n'],Zs x,Zt (.dct kvs),v3,v4,v5]) ?_ rfl,Mm hg hk.nd (hz2 hl1) hz3 hks hpp⟩;unfold yo.iI;refine(aD (e:=[Zl [.int (n / 5)],Zs x,Zn,Zn,Zn,Zn]) ((eO t).trans rfl)).trans ?_;refine(aD (e:=[Zl [.int (n / 5)],Zs x,Zt (.dct []),Zn,Zn,Zn]) (by rfl)).trans ?_;refine(aD (e:=[Zl [.int n'],Zs x,Zt (.dct kvs),v3,v4,v5]) ?_).trans ?_
  ·refine(fC (ds:=ds) (e:=[Zl [.int (n / 5 / 3)],Zs x,Zt (.dct []),Zn,Zn,Zn]) ?_).trans f1;have a1:aa (az aP (Zi 1) (gB yo.bJ 0 (aa (Zi 3) ak))) ak [Zl [.int (n / 5)],Zs x,Zt (.dct []),Zn,Zn,Zn] = .ok [.int (1+n / 5 % 3)] [Zl [.int (n / 5 / 3)],Zs x,Zt (.dct []),Zn,Zn,Zn]:=by rfl
   unfold fV;rw[a1];show fJ (qy [.int (1+n / 5 % ((3:Nat):Int))]) _=_;rw[ej,hds]
   rfl
  ·have:=Gw (Gx hk (by omega)) (Zl [.int n']) (Zs x) v3 v4 v5;rw[hps] at this;exact this
def SgX(x:List Nat)(g:Option (List Nat)):Prop:=Sg g/\ag x g=true
theorem Wy:([1,2,3,4].all λl=>(List.range (2*2^l - 1)).all λd=>!((List.range (l+1)).filter (yo.bit d)).isEmpty)=true:=by decide +kernel
theorem Qn(y:List Nat)(p:Nat->Bool):(((List.range y.length).filter p).map λk=>y.getD k 0).Sublist y:=by
 have h:(List.range y.length).map (λk=>y.getD k 0)=y:=by
  refine List.ext_getElem (by rw[Qqk,List.length_range]) λi h1 h2=>?_;rw[List.getElem_map,List.getElem_range,Qzj,Qx5 h2]
  rfl
 have:=(List.filter_sublist (l:=List.range y.length) (p:=p)).map λk=>y.getD k 0
 rwa [h] at this
theorem XQ:∀{z:List Nat},z.Pairwise (·< ·)->oX (z.map λc=>[c])=true:=λh=>K9 (List.pairwise_map.mpr (h.imp λh=>lt1.mpr h))
theorem Hw{x z:List Nat}(hg:good x=true)(h:z.Sublist (35::x))(hz:z≠[]):SgX x (some z):=by
 have hp:(35::x).Pairwise (·< ·):=Qzq.mpr ⟨λc hc=>by have:=jm hg hc;unfold j9 at this;omega,Ot hg⟩;have hm:∀c∈z,c=35\/c∈x:=λc hc=>Qq1.mp (h.subset hc);refine⟨λz' e=>?_,?_⟩
 ·cases e;refine⟨hz,?_,λc hc=>(hm c hc).imp id (jm hg)⟩;have:=h.length_le;have:=(lZ hg).2;simp at *;omega
 ·show(!z.isEmpty&&(z.all (λc=>c == 35||x.contains c)&&oX (z.map λc=>[c])))=true;rw[XQ (hp.sublist h)];have:z.all (λc=>c == 35||x.contains c)=true:=Qq8.mpr λc hc=>by
   rcases hm c hc with rfl|h
   ·rfl
   ·rw[List.contains_iff_mem.mpr h,Bool.or_true]
  rw[this];cases z with
  | nil=>exact absurd rfl hz
  | cons _ _=>rfl
theorem signs(n:Int)(x:List Nat)(hg:good x=true):∃g n',gb [.lst [.int n],.str x]=some (gD g,.lst [.int n'])/\SgX x g:=by
 obtain⟨r,n',h1,h2⟩:=yo.signs n x (Gg hg);rw[Tt];unfold SG at h2;rcases Qq1.mp h2 with rfl|h2
 ·exact⟨none,n',h1,⟨λz e=>(by cases e),rfl⟩⟩
 ·obtain⟨d,hd,rfl⟩:=Qw0.mp h2;refine⟨some (((List.range (x.length+1)).filter (yo.bit d)).map λk=>(35::x).getD k 0),n',h1,Hw hg (Qn (35::x) _) λe=>?_⟩;have hl:=lZ hg;have:=Qq8.mp (Qq8.mp Wy x.length (by
   have:x.length=1\/x.length=2\/x.length=3\/x.length=4:=by omega
   rcases this with h|h|h|h<;>rw[h]<;>decide)) d hd
  rw[List.map_eq_nil_iff.mp e] at this;cases this
def cq(q:QR):Q:=⟨q.w,q.ps.map c2,q.l,q.r⟩
theorem xq(q:QR):cY q=qD (cq q):=by unfold cY qD cq;rw[aev]
structure Rul(x:List Nat)(q:QR):Prop where
 o:W9 q
 i:R9 x (cq q)=true
 n:0<q.ps.length
theorem rule(n:Int)(x:List Nat)(hg:good x=true):∃q n',ug [.lst [.int n],.str x]=some (cY q,.lst [.int n'])/\Rul x q:=by
 obtain⟨d,hd,e⟩:=dig n 2 (by decide);obtain⟨w,hw,h1⟩:∃w,(w=[111,110,99,101]\/w=[97,108,111,110,103])/\je (.lst [.str [111,110,99,101],.str [97,108,111,110,103]]) (.int (d:Int))=some (.str w):=by
  have hc:d=0\/d=1:=by omega
  rcases hc with rfl|rfl
  ·exact⟨_,.inl rfl,rfl⟩
  ·exact⟨_,.inr rfl,rfl⟩
 obtain⟨ps,n1,h2,h3⟩:=changes (n / 2) x hg;obtain⟨l,n2,h5,h6⟩:=signs n1 x hg;obtain⟨r,n3,h7,h8⟩:=signs n2 x hg;have hww:way w=true:=by rcases hw with rfl|rfl<;>rfl
 refine⟨⟨w,ps,l,r⟩,n3,jW (env:=[Zl [.int n3],Zs x,Zs w,Zf (.tup (ps.map iu))]) ?_ rfl,⟨hw,h3.n.2,h3.s,h6.1,h8.1⟩,?_,h3.n.1⟩
 ·unfold Bf;refine(aD (e:=[Zl [.int (n / 2)],Zs x,Zs w,Zn]) ?_).trans ?_
  ·refine bZ (d:=.str w) (e:=[Zl [.int (n / 2)],Zs x,Zn,Zn]) ?_ rfl;refine aM rfl rfl ?_;have e2:n % 2=(d:Int):=e;rw[e2];exact h1
  refine(aD (e:=[Zl [.int n1],Zs x,Zs w,Zf (.tup (ps.map iu))]) ?_).trans ?_
  ·exact bZ (jq (e1:=[Zl [.int (n / 2)],Zs x,Zs w,Zn]) rfl rfl rfl h2) rfl
  ·refine cB (ou (aJ (d:=.str w) rfl (aJ rfl (aJ (d:=gD l) (e1:=[Zl [.int n2],Zs x,Zs w,Zf (.tup (ps.map iu))]) ?_ (aJ (d:=gD r) ?_ bQ)))) Ev.zz4)
   ·exact jq (e1:=[Zl [.int n1],Zs x,Zs w,Zf (.tup (ps.map iu))]) rfl rfl rfl h5
   ·exact jq (e1:=[Zl [.int n2],Zs x,Zs w,Zf (.tup (ps.map iu))]) rfl rfl rfl h7
 ·show(way w&&(G3 x (ps.map c2)&&(ag x l&&ag x r)))=true;rw[hww,h3.a,h6.2,h8.2]
  rfl
theorem shape{t hd:List Nat}{cs l r:List (List Nat)}(hs:gK 32 t=hd::(cs++[47]::(l++[95]::r)))(h1:[47] ∉ hd::cs)(h2:[95] ∉ hd::(cs++[47]::l)) :
  both t=true/\hw t=hd/\cw t=cs/\lw t=bF [32] l/\zu t=bF [32] r:=by
 have ej:wj t=cs.length+1:=by
  unfold wj;rw[hs];have:=KX.wN (hd::cs) (l++[95]::r) h1;rw[Qjq] at this;rw[this]
  rfl
 have ek:wk t=cs.length+2+l.length:=by unfold wk;rw[hs];have:=KX.wN (hd::(cs++[47]::l)) r h2;rw[Qjq,Qwk,Qjq] at this;rw[this];show(cs++[47]::l).length+1=_;rw[Qqq,Qq0];omega
 refine⟨?_,?_,?_,?_,?_⟩
 ·unfold both;rw[hs];simp
 ·unfold hw;rw[hs];rfl
 ·unfold cw;rw[hs,ej];show(cs++_).take (cs.length+1 - 1)=cs;rw[Nat.add_sub_cancel,List.take_left]
 ·unfold lw;rw[hs,ej,ek];have e:hd::(cs++[47]::(l++[95]::r))=(hd::(cs++[[47]]))++(l++[95]::r):=by simp
  rw[e,List.drop_left' (by simp),show cs.length+2+l.length - (cs.length+1+1)=l.length by omega,List.take_left]
 ·unfold zu;rw[hs,ek];have e:hd::(cs++[47]::(l++[95]::r))=(hd::(cs++[47]::(l++[[95]])))++r:=by simp
  rw[e,List.drop_left' (by simp;omega)]
section
variable{L:List Rn}{t:List Nat}
theorem jO(h:both t=false):ok L t=false:=by unfold ok;rw[h];rfl
theorem zJ(h:way (hw t)=false):ok L t=false:=by unfold ok R9 rq;rw[h,Bool.false_and,Bool.and_false]
theorem FP(h:ag (L.map (·.1)) (sg L (lw t))=false):ok L t=false:=by unfold ok R9 rq;rw[h,Bool.false_and,Bool.and_false,Bool.and_false,Bool.and_false]
theorem uN(h:ag (L.map (·.1)) (sg L (zu t))=false):ok L t=false:=by unfold ok R9 rq;rw[h,Bool.and_false,Bool.and_false,Bool.and_false,Bool.and_false]
theorem Vc(h:G3 (L.map (·.1)) ((cw t).map ch)=false):ok L t=false:=by unfold ok R9 rq;rw[h,Bool.false_and,Bool.and_false,Bool.and_false]
end
theorem TF(L:List Rn)(x:List Nat):ag x (sg L [])=false:=rfl
theorem EY{L:List Rn}(hg:good (L.map (·.1))=true){z:List Nat}{c:Nat}(hc:c∈z)(h1:c≠35)(h2:¬j9 c)(h3:z≠[42])(h4:brk z=false):ag (L.map (·.1)) (sg L z)=false:=by
 unfold sg;rw[if_neg h3,if_neg (by rw[h4];exact Qxq)];show(!z.isEmpty&&(z.all (λc=>c == 35||(L.map (·.1)).contains c)&&oX (z.map λc=>[c])))=false;have:z.all (λc=>c == 35||(L.map (·.1)).contains c)=false:=by rw[List.all_eq_false];refine⟨c,hc,?_⟩;rw[Bool.not_eq_true,Bool.or_eq_false_iff];refine⟨Qwx.mpr h1,?_⟩;rw[<-Bool.not_eq_true,List.contains_iff_mem];exact λh=>h2 (jm hg h)
 rw[this,Bool.false_and,Bool.and_false]
theorem Bd{z:List Nat}{c:Nat}(h:c≠93):brk (z++[c])=false:=by
 unfold brk;rw[List.getLast?_append];show(_&&(some c == some 93))=false;have:(some c == some 93)=false:=by rw[Qwx];intro e;injection e with e;exact h e
 rw[this,Bool.and_false]
theorem Wx{z:List Nat}{c:Nat}(h:c≠91):brk (c::z)=false:=by
 unfold brk;show((some c == some 91)&&_)=false;have:(some c == some 91)=false:=by rw[Qwx];intro e;injection e with e;exact h e
 rw[this,Bool.false_and]
theorem qZ{c:Nat}{t:List Nat}(h1:c≠111)(h2:c≠97):way (hw (c::t))=false:=by
 have key:∀z:List Nat,z=[]\/z.head? = some c->way z=false:=λz hz=>by
  unfold way;rw[Bool.or_eq_false_iff,Qwx,Qwx];refine⟨λe=>?_,λe=>?_⟩
  ·rcases hz with hz|hz
   ·rw[hz] at e;cases e
   ·rw[e] at hz;injection hz with hz;exact h1 hz.symm
  ·rcases hz with hz|hz
   ·rw[hz] at e;cases e
   ·rw[e] at hz;injection hz with hz;exact h2 hz.symm
 refine key _ ?_;unfold hw gK;obtain⟨p,ps,e⟩:=jV 32 t;rw[e];split
 ·exact .inl rfl
 ·exact .inr rfl
def Jk(q:QR):List (List Nat):=q.w::q.ps.map mj
def hdT(q:QR):List Nat:=bF [32] (Jk q)
section
variable{q:QR}(h:W9 q)
theorem Cz(ys:List (List Nat)):bF [32] (Jk q++ys)=hdT q++ys.flatMap (λy=>32::y):=by
 unfold Jk;rw[Ak];show _=bF [32] (q.w::q.ps.map mj)++_;generalize bF [32] (q.w::q.ps.map mj)=a
 induction ys generalizing a with
 | nil=>simp
 | cons y ys ih=>rw[Qx4,ih,List.flatMap_cons,<-Qwk];simp
theorem sW:txt q=hdT q++[32,47,32]++(dg q.l++[32,95,32]++dg q.r):=by have:=Cz (q:=q) [[47],dg q.l,[95],dg q.r];unfold txt Xn;rw[show(q.w::q.ps.map mj)=Jk q from rfl,this];simp
include h
theorem Ma:∀z∈Jk q,z≠[]/\∀c∈z,j9 c\/c=62\/c=48:=λz hz=>by
 rcases Qq1.mp hz with rfl|hz
 ·refine⟨?_,λc hc=>.inl ((w_is h.w).2 c hc)⟩;rcases h.w with e|e<;>rw[e]<;>simp
 ·obtain⟨p,hp,rfl⟩:=Qw0.mp hz;obtain⟨a,b,e,_,_,h1,h2⟩:=Az (h.p p hp);rw[e];refine⟨by simp,λc hc=>?_⟩;simp only[Qq1,Qwz,Qz4] at hc;rcases hc with rfl|rfl|rfl
  ·exact h1.elim (λe=>.inr (.inr e)) .inl
  ·exact .inr (.inl rfl)
  ·exact h2.elim (λe=>.inr (.inr e)) .inl
theorem Om{d:Nat}(hd:¬j9 d)(h1:d≠62)(h2:d≠48):∀z∈Jk q,d ∉ z:=λz hz hc=>by
 rcases(Ma h z hz).2 d hc with e|e|e
 ·exact hd e
 ·exact h1 e
 ·exact h2 e
theorem Dt{d:Nat}(hd:¬j9 d)(h1:d≠62)(h2:d≠48):[d] ∉ Jk q:=λhz=>Om h hd h1 h2 _ hz (Qww.mpr rfl)
theorem VP{d:Nat}(hd:¬j9 d)(h1:d≠62)(h2:d≠48)(h3:d≠32):d ∉ hdT q:=λhc=>
 Ac [32] (λc=>c≠d) (by simpa using λe=>h3 e.symm) (Jk q) (λz hz c hc e=>Om h hd h1 h2 z hz (e ▸ hc)) d hc rfl
theorem Oc:∀c∈dg q.l,c=42\/c=35\/j9 c:=(ni h.l).2
theorem Ub:∀c∈dg q.r,c=42\/c=35\/j9 c:=(ni h.r).2
omit h in
theorem Tw{g:Option (List Nat)}(h:Sg g):dg g≠[]:=by
 cases g with
 | none=>simp[dg]
 | some z=>exact(h z rfl).1
theorem words{ys:List (List Nat)}(hy:∀y∈ys,32 ∉ y){t:List Nat}(ht:t=hdT q++ys.flatMap (λy=>32::y)):gK 32 t=q.w::(q.ps.map mj++ys):=by
 rw[ht,<-Cz];have:Jk q++ys=q.w::(q.ps.map mj++ys):=rfl;rw[this];refine Eu 32 _ _ λz hz=>?_;rw[<-this] at hz;rcases Qw4.mp hz with hz|hz
 ·exact Om h (by unfold j9;omega) (by decide) (by decide) z hz
 ·exact hy z hz
theorem Vj:32 ∉ dg q.l:=λhc=>by have:=Oc h 32 hc;unfold j9 at this;omega
theorem aaY:32 ∉ dg q.r:=λhc=>by have:=Ub h 32 hc;unfold j9 at this;omega
theorem Ir:[47] ∉ q.w::q.ps.map mj:=Dt h (by unfold j9;omega) (by decide) (by decide)
theorem Lq(l:List (List Nat))(hl:[95] ∉ l):[95] ∉ q.w::(q.ps.map mj++[47]::l):=λhz=>by
 have:q.w::(q.ps.map mj++[47]::l)=Jk q++[47]::l:=rfl;rw[this] at hz;rcases Qw4.mp hz with hz|hz
 ·exact Dt h (d:=95) (by unfold j9;omega) (by decide) (by decide) hz
 ·rcases Qq1.mp hz with hz|hz
  ·cases hz
  ·exact hl hz
theorem Dk:dg q.l≠[95]:=λe=>by have:=Oc h 95 (by rw[e];exact Qww.mpr rfl);unfold j9 at this;omega
theorem agL{p:Pt}(hp:p∈q.ps):ch (mj p)=c2 p:=by
 obtain⟨a,b,e,e1,e2,h1,h2⟩:=Az (h.p p hp);unfold ch;have hs:gK 62 (mj p)=[Ey p.1,Ey p.2]:=by
  have:=Eu 62 [Ey p.2] (Ey p.1) (λz hz=>by
   unfold j9 at h1 h2;rw[e1,e2] at hz;simp only[Qq1,Qwz,Qz4] at hz;rcases hz with rfl|rfl
   ·intro c;have:=Qww.mp c;omega
   ·intro c;have:=Qww.mp c;omega)
  exact this
 rw[hs];have r1:∀{z:List Nat},Ss z->rs (Ey z)=some z:=λ{z} hz=>by
  rcases hz with rfl|⟨c,rfl,hc⟩
  ·rfl
  ·unfold rs Ey;unfold j9 at hc;rw[if_neg (by simp),if_neg (by simp;omega)]
 show [rs (Ey p.1),rs (Ey p.2)]=[some p.1,some p.2];rw[r1 (h.p p hp).1,r1 (h.p p hp).2]
theorem Wm:(q.ps.map mj).map ch=q.ps.map c2:=by rw[Qxv];exact Qz5 λp hp=>agL h hp
omit h in
theorem wy{g:Option (List Nat)}(h:Sg g)(L:List Rn):sg L (dg g)=g:=by
 cases g with
 | none=>rfl
 | some z=>
  obtain⟨hz,_,hc⟩:=h z rfl;cases z with
  | nil=>exact absurd rfl hz
  | cons c t=>
   have hc:=hc c (Qqv ..);unfold j9 at hc;show(if c::t=[42] then none else if brk (c::t)=true then _ else some (c::t))=_;rw[if_neg (λe=>by have:=(List.cons.inj e).1;omega),Wx (by omega),if_neg Qxq]
theorem sides{l r t:List Nat}(hl:32 ∉ l)(hr:32 ∉ r)(Zu:l≠[95])(ht:t=hdT q++[32,47,32]++(l++[32,95,32]++r))(L:List Rn):both t=true/\rq L t=⟨q.w,q.ps.map c2,sg L l,sg L r⟩:=by
 have hs:=words h (ys:=[[47],l,[95],r]) (λy hy=>by
  simp only[Qq1,Qwz,Qz4] at hy;rcases hy with rfl|rfl|rfl|rfl
  ·decide
  ·exact hl
  ·decide
  ·exact hr) (t:=t) (by rw[ht];simp)
 obtain⟨b,e1,e2,e3,e4⟩:=shape (l:=[l]) (r:=[r]) hs (Ir h) (Lq h [l] λhz=>Zu (Qww.mp hz).symm);refine⟨b,?_⟩;unfold rq;rw[e1,e2,e3,e4,Wm h]
 rfl
theorem S8(L:List Rn):both (txt q)=true/\rq L (txt q)=cq q:=by have:=sides h (Vj h) (aaY h) (Dk h) sW L;rw[wy h.l,wy h.r] at this;exact this
end
def rst(q:QR):List Nat:=dg q.l++[32,95,32]++dg q.r
def zL(q:QR):List (List Nat):=[[],[32],hdT q,hdT q++[32,47],hdT q++[32,47,32,42],hdT q++[32,47,32,42,32,95],hdT q++[32,47,32,95,32,42],hdT q++[32,47,32,42,32,95,32,42,32],
 hdT q++[32,42,32,95,32,42],[32]++txt q,txt q++[32],Kq (txt q),hdT q++[47]++rst q,hdT q++[32,47,32]++dg q.l++[95]++dg q.r,txt q++[10],
 hdT q++[32,47,47,32]++rst q,hdT q++[32,32,47,32]++rst q,hdT q++[32,47,32]++dg q.l++[32,32,95,32]++dg q.r,[98,111,116,104]++(txt q).drop 4]
theorem abX:((List.range 128).all λc=>(Unicode.upperOf c).length == 1)=true:=by decide +kernel
theorem Vr{α β:Type}(g:α->β)(z:List α):z.mapIdx (λ_ c=>g c)=z.map g:=List.ext_getElem (by simp) (by simp)
theorem Nf(z:List Nat):Kq z=z.flatMap Unicode.upperOf:=by unfold Kq placed strOf;rw[Array.toList_flatten];simp[Vr,List.flatMap,Function.comp_def]
theorem Xz{W:List (List Nat)}(h0:W≠[])(h:∀z∈W,32 ∉ z):gK 32 (bF [32] W)=W:=by
 cases W with
 | nil=>exact absurd rfl h0
 | cons p ps=>exact Eu 32 ps p h
theorem S5:∀{z:List Nat},(∀c∈z,c<128)->(Kq z).length=z.length:=λ{z} h=>by
 rw[Nf]
 induction z with
 | nil=>rfl
 | cons c z ih=>
  rw[List.flatMap_cons,Qqq,ih λd hd=>h d (Qqy _ hd)];have:=Qq8.mp abX c (Qx1.mpr (h c (Qqv ..)));rw[eq_of_beq this,Qq0];omega
theorem upo:Unicode.upperOf 111=[79]:=by decide +kernel
theorem upa:Unicode.upperOf 97=[65]:=by decide +kernel
theorem Dp(s:List Nat):∀(init:List (List Nat)) (a y:List Nat),bF s (init++[a])++y=bF s (init++[a++y])
 | [],a,y=>rfl
 | [b],a,y=>by
  show bF s (b::[a])++y=bF s (b::[a++y]);rw[bT,bT,Qwk]
  rfl
 | b::c::init,a,y=>by
  have:=Dp s (c::init) a y;show bF s (b::c::(init++[a]))++y=bF s (b::c::(init++[a++y]));rw[bT,bT,Qwk];exact Qz0 _ this
section
variable{L:List Rn}(hg:good (L.map (·.1))=true){q:QR}(h:W9 q)
theorem aaV{t:List Nat}{p:Q}(e:rq L t=p)(hp:R9 (L.map (·.1)) p=false):ok L t=false:=by unfold ok;rw[e,hp,Bool.and_false]
include h
theorem rF{t:List Nat}{ys:List (List Nat)}(hs:gK 32 t=q.w::(q.ps.map mj++ys))(hy:[47] ∉ ys\/[95] ∉ ys):both t=false:=by
 unfold both;rw[hs,show q.w::(q.ps.map mj++ys)=Jk q++ys from rfl,Bool.and_eq_false_iff,decide_eq_false_iff_not,decide_eq_false_iff_not];refine hy.imp (λhy hz=>?_) λhy hz=>?_
 ·exact(Qw4.mp hz).elim (Dt h (by unfold j9;omega) (by decide) (by decide)) hy
 ·exact(Qw4.mp hz).elim (Dt h (by unfold j9;omega) (by decide) (by decide)) hy
theorem first:∃c t,txt q=c::t/\(c=111\/c=97):=by
 have hx:∀(a:Nat) (w:List Nat) (r:List (List Nat)),∃t,bF [32] ((a::w)::r)=a::t:=λa w r=>by
  cases r with
  | nil=>exact⟨w,rfl⟩
  | cons b r=>exact⟨_,by rw[bT];rfl⟩
 unfold txt Xn;rcases h.w with e|e<;>rw[e]
 ·obtain⟨t,ht⟩:=hx 111 [110,99,101] (q.ps.map mj++[[47],dg q.l,[95],dg q.r]);exact⟨111,t,ht,.inl rfl⟩
 ·obtain⟨t,ht⟩:=hx 97 [108,111,110,103] (q.ps.map mj++[[47],dg q.l,[95],dg q.r]);exact⟨97,t,ht,.inr rfl⟩
theorem adA{d:Nat}(h1:d≠42)(h2:d≠35)(h3:¬j9 d):d ∉ dg q.l:=λhc=>(Oc h d hc).elim h1 λe=>e.elim h2 h3
theorem adz{d:Nat}(h1:d≠42)(h2:d≠35)(h3:¬j9 d):d ∉ dg q.r:=λhc=>(Ub h d hc).elim h1 λe=>e.elim h2 h3
include hg
theorem YS(hn:0<q.ps.length):∀o∈zL q,ok L o=false:=by
 have m1:∀{z d:Nat} {w:List Nat},d ∉ w->w≠[d]:=λ{z d w} hd e=>hd (by rw[e];exact Qww.mpr rfl);have l47:dg q.l≠[47]:=m1 (z:=0) (adA h (by decide) (by decide) (by unfold j9;omega));have r47:dg q.r≠[47]:=m1 (z:=0) (adz h (by decide) (by decide) (by unfold j9;omega));have nl:=Vj h;have nr:=aaY h;have gl:=Tw h.l;have gr:=Tw h.r;intro o ho;unfold zL at ho;simp only[Qq1,Qwz,Qz4] at ho;rcases ho with rfl|rfl|rfl|rfl|rfl|rfl|rfl|rfl|rfl|rfl|rfl|rfl|rfl|rfl|rfl|rfl|rfl|rfl|rfl
 ·exact jO rfl
 ·exact jO rfl
 ·exact jO (rF h (words h (ys:=[]) (by simp) (by simp)) (.inl (by simp)))
 ·exact jO (rF h (words h (ys:=[[47]]) (by simp) (by simp)) (.inr (by simp)))
 ·exact jO (rF h (words h (ys:=[[47],[42]]) (by simp) (by simp)) (.inr (by simp)))
 ·obtain⟨_,_,_,_,e⟩:=shape (l:=[[42]]) (r:=[]) (words h (ys:=[[47],[42],[95]]) (t:=hdT q++[32,47,32,42,32,95]) (by simp) (by simp)) (Ir h) (Lq h _ (by simp));refine uN ?_;rw[e];exact TF _ _
 ·obtain⟨_,_,_,e,_⟩:=shape (l:=[]) (r:=[[42]]) (words h (ys:=[[47],[95],[42]]) (t:=hdT q++[32,47,32,95,32,42]) (by simp) (by simp)) (Ir h) (Lq h _ (by simp));refine FP ?_;rw[e];exact TF _ _
 ·obtain⟨_,_,_,_,e⟩:=shape (l:=[[42]]) (r:=[[42],[]]) (words h (ys:=[[47],[42],[95],[42],[]]) (t:=hdT q++[32,47,32,42,32,95,32,42,32]) (by simp) (by simp)) (Ir h) (Lq h _ (by simp));refine uN ?_;rw[e];exact EY hg (c:=32) (by decide) (by decide) (by unfold j9;omega) (by decide) (by decide)
 ·exact jO (rF h (words h (ys:=[[42],[95],[42]]) (by simp) (by simp)) (.inl (by simp)))
 ·exact zJ (qZ (by decide) (by decide))
 ·obtain⟨_,_,_,_,e⟩:=shape (l:=[dg q.l]) (r:=[dg q.r,[]]) (words h (ys:=[[47],dg q.l,[95],dg q.r,[]]) (t:=txt q++[32]) (by simp[nl,nr]) (by rw[sW];simp)) (Ir h) (Lq h _ λhz=>Dk h (Qww.mp hz).symm);refine uN ?_;rw[e,bT];show ag _ (sg L (dg q.r++[32]++[]))=false;rw[Qxj];exact EY hg (c:=32) (by simp) (by decide) (by unfold j9;omega) (λe=>gr (by cases hr:dg q.r with|nil=>rfl|cons a b=>rw[hr] at e;simp at e)) (Bd (by decide))
 ·obtain⟨c,t,e,hc⟩:=first h
  rw[e,Nf,List.flatMap_cons];rcases hc with rfl|rfl
  ·rw[upo];exact zJ (qZ (by decide) (by decide))
  ·rw[upa];exact zJ (qZ (by decide) (by decide))
 ·obtain⟨init,a,hia⟩:∃init a,Jk q=init++[a]:=by
   rcases List.eq_nil_or_concat (Jk q) with e|⟨i,a,e⟩
   ·exact absurd e (by unfold Jk;simp)
   ·exact⟨i,a,by rw[e,List.concat_eq_append]⟩
  have ha:=Ma h a (by rw[hia];simp);have hw:hdT q++[47]++rst q=bF [32] ((init++[a++47::dg q.l])++[[95],dg q.r]):=by
   have e1:hdT q++(47::dg q.l)=bF [32] (init++[a++47::dg q.l]):=by unfold hdT;rw[hia];exact Dp [32] init a _
   have e2:∀z:List (List Nat),z≠[]->bF [32] (z++[[95],dg q.r])=bF [32] z++[32,95,32]++dg q.r:=λz hz=>by
    cases z with
    | nil=>exact absurd rfl hz
    | cons b z=>
     rw[Ak];show(bF [32] (b::z)++[32]++[95])++[32]++dg q.r=_;simp
   rw[e2 _ (by simp),<-e1];unfold rst;simp
  have hall:∀z∈init++[a],32 ∉ z:=by rw[<-hia];exact Om h (by unfold j9;omega) (by decide) (by decide)
  have hs:gK 32 (hdT q++[47]++rst q)=(init++[a++47::dg q.l])++[[95],dg q.r]:=by
   rw[hw];have hf:∀z∈(init++[a++47::dg q.l])++[[95],dg q.r],32 ∉ z:=λz hz=>by
    simp only[Qw4,Qq1,Qwz,Qz4] at hz;rcases hz with (hz|rfl)|rfl|rfl
    ·exact hall z (List.mem_append_left _ hz)
    ·have:=hall a (by simp);simp[this,nl]
    ·decide
    ·exact nr
   exact Xz (by simp) hf
  refine jO ?_;unfold both;rw[hs,Bool.and_eq_false_iff]
  left
  rw[decide_eq_false_iff_not];intro hz;simp only[Qw4,Qq1,Qwz,Qz4] at hz;rcases hz with (hz|hz)|hz|hz
  ·exact Dt h (d:=47) (by unfold j9;omega) (by decide) (by decide) (by rw[hia];exact List.mem_append_left _ hz)
  ·have:=ha.1;cases a with
   | nil=>exact this rfl
   | cons b a=>simp at hz
  ·cases hz
  ·exact r47 hz.symm
 ·refine jO (rF h (words h (ys:=[[47],dg q.l++[95]++dg q.r]) (by simp[nl,nr]) (by simp)) (.inr ?_));simp only[Qq1,Qwz,Qz4];rintro(e|e)
  ·cases e
  ·cases hl:dg q.l with
   | nil=>exact gl hl
   | cons b a=>rw[hl] at e;simp at e
 ·obtain⟨_,e⟩:=sides h (r:=dg q.r++[10]) nl (by simp[nr]) (Dk h) (t:=txt q++[10]) (by rw[sW];simp) L;refine aaV e ?_;have:ag (L.map (·.1)) (sg L (dg q.r++[10]))=false:=EY hg (c:=10) (by simp) (by decide) (by unfold j9;omega) (λe=>gr (by cases hr:dg q.r with|nil=>rfl|cons a b=>rw[hr] at e;simp at e)) (Bd (by decide));unfold R9;rw[this,Bool.and_false,Bool.and_false,Bool.and_false]
 ·refine jO (rF h (words h (ys:=[[47,47],dg q.l,[95],dg q.r]) (by simp[nl,nr]) (by unfold rst;simp)) (.inl ?_));simp only[Qq1,Qwz,Qz4];rintro(e|e|e|e)
  ·cases e
  ·exact l47 e.symm
  ·cases e
  ·exact r47 e.symm
 ·obtain⟨_,_,e,_,_⟩:=shape (hd:=q.w) (cs:=q.ps.map mj++[[]]) (l:=[dg q.l]) (r:=[dg q.r]) ((words h (ys:=[[],[47],dg q.l,[95],dg q.r]) (t:=hdT q++[32,32,47,32]++rst q) (by simp[nl,nr]) (by unfold rst;simp)).trans (by simp))
   (λhz=>by
    rw[<-Qjq] at hz;exact(Qw4.mp hz).elim (Ir h) (by simp))
   (λhz=>by
    have e:q.w::(q.ps.map mj++[[]]++[47]::[dg q.l])=Jk q++[[],[47],dg q.l]:=by unfold Jk;simp
    rw[e] at hz;refine(Qw4.mp hz).elim (Dt h (d:=95) (by unfold j9;omega) (by decide) (by decide)) λhz=>?_;simp only[Qq1,Qwz,Qz4] at hz;rcases hz with hz|hz|hz
    ·cases hz
    ·cases hz
    ·exact Dk h hz.symm)
  refine Vc ?_;rw[e];unfold G3;have e1:((q.ps.map mj++[[]]).map ch).all (Gu (L.map λr:Rn=>r.1))=false:=by rw[Qxz,List.all_append];have key:∀X,(([[]]:List (List Nat)).map ch).all (Gu X)=false:=λ_=>rfl;rw[key,Bool.and_false]
  have e2:(((q.ps.map mj++[[]]).map ch).length == 1)=false:=by rw[Qwx,Qqk,Qqq,Qqk];show q.ps.length+1≠1;omega
  rw[e1,e2];simp
 ·obtain⟨_,_,_,e,_⟩:=shape (hd:=q.w) (cs:=q.ps.map mj) (l:=[dg q.l,[]]) (r:=[dg q.r]) (words h (ys:=[[47],dg q.l,[],[95],dg q.r]) (t:=hdT q++[32,47,32]++dg q.l++[32,32,95,32]++dg q.r) (by simp[nl,nr]) (by simp)) (Ir h) (Lq h _ (by
   simp only[Qq1,Qwz,Qz4];rintro(e|e)
   ·exact Dk h e.symm
   ·cases e))
  refine FP ?_;rw[e,bT];show ag _ (sg L (dg q.l++[32]++[]))=false;rw[Qxj];exact EY hg (c:=32) (by simp) (by decide) (by unfold j9;omega) (λe=>gl (by cases hr:dg q.l with|nil=>rfl|cons a b=>rw[hr] at e;simp at e)) (Bd (by decide))
 ·exact zJ (qZ (by decide) (by decide))
end
open yo (HB)
theorem jQ{g:GV}{b:cR}{d:D}{ds:List D}{env e1 e2:Ev.Env}(h1:g d env=some e1)(h2:b e1 = .nx e2):j4 g b (d::ds) env=j4 g b ds e2:=by show(match g d env with|none=>_|some e1=>_)=_;rw[h1];show(match b e1 with|.nx e2=>_|.ct e2=>_|.bk e2=>_|.rt o d e2=>_|.stuck=>_)=_;rw[h2]
def adg:cR:=aL (bA (bM (aa (Zw [111,110,99,101]) (aa (Zw [111,110,99,101,32]) (aa (az aP (Zw [111,110,99,101,32]) (bw 2)) (aa (az aP (az aP (Zw [111,110,99,101,32]) (bw 2)) (Zw [62])) (aa (az aP (Zw [111,110,99,101,32,62]) (bw 2)) (aa (Zw [111,110,99,101,32,48,62,48]) ak))))))) (au 7)) (aL (bA (aA aP 7 (bM (aa (az aP (az aP (az aP (Zw [111,110,99,101,32]) (bw 2)) (Zw [62])) (bw 2)) ak))) (au 7)) (aL (gA (dR (aK 7)) (au 8) (gj)) (aL (bA (bM (aa (az aP (aA aP 2 (Zw [62])) (bw 3)) (aa (az aP (aA aP 3 (Zw [62])) (bw 2)) (aa (aA aP 2 (Zw [45,62,48])) (aa (aA aP 2 (Zw [62,62,48])) (aa (aA aP 2 (Zw [62,35])) (aa (az aP (Zw [35,62]) (bw 2)) ak))))))) (au 7)) (aL (bA (aA aP 7 (bM (aa (az aP (az aP (aA aP 2 (Zw [62,48,32])) (bw 2)) (Zw [62,48])) ak))) (au 7)) (aL (bA (aA aP 7 (bM (aa (aA aP 2 (Zw [32,62,48])) ak))) (au 7)) (aL (gA (dR (aK 7)) (au 8) (dz)) (aL (bA (bM (aa (az aP (az aP (az aP (az aP (Zw [48,62]) (bw 2)) (Zw [32])) (bw 2)) (Zw [62,48])) (aa (az aP (aA aP 2 (Zw [62,48,32,48,62])) (bw 2)) (aa (aA aP 2 (Zw [62,48,32,32])) (aa (aA aP 2 (Zw [62,48,48])) (aa (az aP (az aP (Zw [48]) (bw 2)) (Zw [62,48])) ak)))))) (au 7)) (aL (bA (aA aP 7 (bM (aa (aA aP 2 (Zw [62,48,44])) ak))) (au 7)) (aL (gA (dR (aK 7)) (au 8) (dz)) (aL (bA (bM (aa (Zw []) (aa (Zw [42,42]) (aa (az aP (Zw [42]) (bw 2)) (aa (aA aP 2 (bw 2)) (aa (aA aP 2 (Zw [35])) (aa (Zw [35,35]) (Zv 3 (aa (Zw [48]) (aa (Zw [91,93]) (aa (Zw [91]) (aa (Zw [93]) (aa (Zw [91,32,93]) (aa (Zw [91,115,116,111,112]) (aa (Zw [115,116,111,112,93]) ak))))))))))))))) (au 7)) (aL (bA (aA aP 7 (bM (aa (Zw [91,83,116,111,112,93]) ak))) (au 7)) (aL (gA (dR (aK 7)) (au 8) (dw)) (aL (bA (bM (aa (az aP (Zw [91,115,116,111,112,93]) (bw 2)) (aa (aA aP 2 (Zw [91,115,116,111,112,93])) (aa (Zw [35,91,115,116,111,112,93]) (aa (Zw [91,115,116,111,112,32,93]) (aa (Zw [91,32,115,116,111,112,93]) (aa (Zw [91,115,116,111,112,32,32,111,112,101,110,93]) (aa (Zw [91,110,111,115,117,99,104,93]) ak)))))))) (au 7)) (aL (bA (aA aP 7 (bM (aa (Zw [91,97,49,93]) (aa (Zw [91,115,116,111,112,44,111,112,101,110,93]) ak)))) (au 7)) (aL (gA (dR (aK 7)) (au 8) (dw)) (bW (aK 6)))))))))))))))))
theorem adf:pK=aL (bA (cG (aa (aA je 1 (Zi 0)) (aa (aB oh (Zv 1 ak)) ak))) (eY 2 (bG (au 2) (bG (au 3) eZ)))) (aL (bA (aB cU (Zv 0 ak)) (au 4)) (aL (bA (az je (az gk (aK 4) (Zw [32,47,32])) (Zi 0)) (au 5)) (aL (eN 6 (bM (aa (Zw []) (aa (Zw [32]) (Zv 5 (aa (aA aP 5 (Zw [32,47])) (aa (aA aP 5 (Zw [32,47,32,42])) (aa (aA aP 5 (Zw [32,47,32,42,32,95])) (aa (aA aP 5 (Zw [32,47,32,95,32,42])) (aa (aA aP 5 (Zw [32,47,32,42,32,95,32,42,32])) ak)))))))))) (aL (eN 6 (az o9 (aK 6) (bM (aa (aA aP 5 (Zw [32,42,32,95,32,42])) ak)))) (aL (eN 6 (az o9 (aK 6) (bM (aa (az aP (Zw [32]) (bw 4)) (aa (aA aP 4 (Zw [32])) (aa (dY gUp (aK 4)) (aa (dY (n6 [32,47,32] [47]) (aK 4)) (aa (dY (n6 [32,95,32] [95]) (aK 4)) ak)))))))) (aL (eN 6 (az o9 (aK 6) (bM (aa (aA aP 4 (Zw [10])) ak)))) (aL (eN 6 (az o9 (aK 6) (bM (aa (dY (n6 [32,47,32] [32,47,47,32]) (aK 4)) (aa (dY (n6 [32,47,32] [32,32,47,32]) (aK 4)) (aa (dY (n6 [32,95,32] [32,32,95,32]) (aK 4)) ak)))))) (aL (eN 6 (az o9 (aK 6) (bM (aa (az aP (Zw [98,111,116,104]) (iZ (aK 4) (pR (Zi 4)) lr)) ak)))) (adg))))))))):=rfl
abbrev tl:List Nat:=[32,47,32,42,32,95,32,42]
abbrev on:List Nat:=[111,110,99,101,32]
def o1(a:Nat):List (List Nat):=[[111,110,99,101],on,on++[a],on++[a]++[62],[111,110,99,101,32,62]++[a],[111,110,99,101,32,48,62,48]]++[on++[a]++[62]++[a]]
def o2(a o:Nat):List (List Nat):=[[a]++[62]++[o],[o]++[62]++[a],[a]++[45,62,48],[a]++[62,62,48],[a]++[62,35],[35,62]++[a]]++[[a]++[62,48,32]++[a]++[62,48]]++[[a]++[32,62,48]]
def o3(a:Nat):List (List Nat):=[[48,62]++[a]++[32]++[a]++[62,48],[a]++[62,48,32,48,62]++[a],[a]++[62,48,32,32],[a]++[62,48,48],[48]++[a]++[62,48]]++[[a]++[62,48,44]]
def o4(a o:Nat):List (List Nat):=[[],[42,42],[42]++[a],[a]++[a],[a]++[35],[35,35],[o],[48],[91,93],[91],[93],[91,32,93],[91,115,116,111,112],[115,116,111,112,93]]++[[91,83,116,111,112,93]]
def o5(a:Nat):List (List Nat):=[[91,115,116,111,112,93]++[a],[a]++[91,115,116,111,112,93],[35,91,115,116,111,112,93],[91,115,116,111,112,32,93],[91,32,115,116,111,112,93],[91,115,116,111,112,32,32,111,112,101,110,93],[91,110,111,115,117,99,104,93]]++[[91,97,49,93],[91,115,116,111,112,44,111,112,101,110,93]]
def f1(z:List Nat):List Nat:=z++tl
def f2(z:List Nat):List Nat:=on++z++tl
def f3(a:Nat)(z:List Nat):List (List Nat):=[on++[a]++[62,48,32,47,32]++z++[32,95,32,42],on++[a]++[62,48,32,47,32,42,32,95,32]++z]
def zK(a o:Nat):List (List Nat):=(((((o1 a).map f1)++(o2 a o).map f2)++(o3 a).map f2)++(o4 a o).flatMap (f3 a))++(o5 a).flatMap (f3 a)
abbrev Eo(A0 A1:OD)(a o:Nat)(A4 A5:OD)(F:List D)(v7 v8:OD):Ev.Env:=[A0,A1,Zs [a],Zs [o],A4,A5,Zl F,v7,v8]
section
variable{A0 A1 A4 A5 v7:OD}{a o:Nat}
theorem aa1:∀(zs:List (List Nat)) (F:List D) (v8:OD),F.length+zs.length<=1000->(∀z∈zs,z.length<=100)->∃w8,j4 (au 8) gj (zs.map .str) (Eo A0 A1 a o A4 A5 F v7 v8) = .nx (Eo A0 A1 a o A4 A5 (F++(zs.map f1).map .str) v7 w8)
 | [],F,v8,_,_=>⟨v8,(show Out.nx _=Out.nx _ from(by rw[show F++(([]:List (List Nat)).map f1).map D.str=F from Qxj F]))⟩
 | z::zs,F,v8,hl,hz=>by
  rw[Qq0] at hl;have h1:gj (Eo A0 A1 a o A4 A5 F v7 (Zs z)) = .nx (Eo A0 A1 a o A4 A5 (F++[.str (f1 z)]) v7 (Zs z)):=by have hz1:=hz z (Qqv ..);exact Ev.Ti (xs:=F) (e:=Eo A0 A1 a o A4 A5 F v7 (Zs z)) rfl (iC (x:=.str z) (y:=.str tl) rfl rfl rfl (dX (Qqj (Nat.add_le_add_right hz1 _) (by decide)))) rfl (Qx6 (show F.length<=1000 by omega) (by decide))
  obtain⟨w8,e⟩:=aa1 zs (F++[.str (f1 z)]) (Zs z) (by rw[Qqq,List.length_singleton];omega) λy hy=>hz y (Qqy _ hy);refine⟨w8,?_⟩;rw[Qwk] at e;exact(jQ (e1:=Eo A0 A1 a o A4 A5 F v7 (Zs z)) rfl h1).trans e
theorem Vt:∀(zs:List (List Nat)) (F:List D) (v8:OD),F.length+zs.length<=1000->(∀z∈zs,z.length<=100)->∃w8,j4 (au 8) dz (zs.map .str) (Eo A0 A1 a o A4 A5 F v7 v8) = .nx (Eo A0 A1 a o A4 A5 (F++(zs.map f2).map .str) v7 w8)
 | [],F,v8,_,_=>⟨v8,(show Out.nx _=Out.nx _ from(by rw[show F++(([]:List (List Nat)).map f2).map D.str=F from Qxj F]))⟩
 | z::zs,F,v8,hl,hz=>by
  rw[Qq0] at hl;have h1:dz (Eo A0 A1 a o A4 A5 F v7 (Zs z)) = .nx (Eo A0 A1 a o A4 A5 (F++[.str (f2 z)]) v7 (Zs z)):=by have hz1:=hz z (Qqv ..);have s1:aP (.str on) (.str z)=some (.str (on++z)):=dX (Qqj (Nat.add_le_add_left hz1 _) (by decide));have s2:aP (.str (on++z)) (.str tl)=some (.str (on++z++tl)):=dX (by rw[Qqq];exact Qqj (Nat.add_le_add_right (Nat.add_le_add_left hz1 _) _) (by decide));exact Ev.Ti (xs:=F) (e:=Eo A0 A1 a o A4 A5 F v7 (Zs z)) rfl (aM (x:=.str (on++z)) (y:=.str tl) (e1:=Eo A0 A1 a o A4 A5 F v7 (Zs z)) (aM (x:=.str on) (y:=.str z) (e1:=Eo A0 A1 a o A4 A5 F v7 (Zs z)) rfl rfl s1) rfl s2) rfl (Qx6 (show F.length<=1000 by omega) (by decide))
  obtain⟨w8,e⟩:=Vt zs (F++[.str (f2 z)]) (Zs z) (by rw[Qqq,List.length_singleton];omega) λy hy=>hz y (Qqy _ hy);refine⟨w8,?_⟩;rw[Qwk] at e;exact(jQ (e1:=Eo A0 A1 a o A4 A5 F v7 (Zs z)) rfl h1).trans e
theorem Vs:∀(zs:List (List Nat)) (F:List D) (v8:OD),F.length+2*zs.length<=1000->(∀z∈zs,z.length<=100)->∃w8,j4 (au 8) dw (zs.map .str) (Eo A0 A1 a o A4 A5 F v7 v8) = .nx (Eo A0 A1 a o A4 A5 (F++(zs.flatMap (f3 a)).map .str) v7 w8)
 | [],F,v8,_,_=>⟨v8,(show Out.nx _=Out.nx _ from(by rw[show F++(([]:List (List Nat)).flatMap (f3 a)).map D.str=F from Qxj F]))⟩
 | z::zs,F,v8,hl,hz=>by
  rw[Qq0] at hl;have h1:dw (Eo A0 A1 a o A4 A5 F v7 (Zs z)) = .nx (Eo A0 A1 a o A4 A5 (F++(f3 a z).map .str) v7 (Zs z)):=by
   have hz1:=hz z (Qqv ..);generalize hE:([A0,A1,Zs [a],Zs [o],A4,A5,Zf (.lst F),v7,Zs z]:Ev.Env)=env;have s1:aP (.str (on++[a]++[62,48,32,47,32])) (.str z)=some (.str (on++[a]++[62,48,32,47,32]++z)):=dX (Qqj (Nat.add_le_add_left hz1 _) (by show 11+100<=sizeLine;decide));have s2:aP (.str (on++[a]++[62,48,32,47,32]++z)) (.str [32,95,32,42])=some (.str (on++[a]++[62,48,32,47,32]++z++[32,95,32,42])):=dX (by rw[Qqq];exact Qqj (Nat.add_le_add_right (Nat.add_le_add_left hz1 _) _) (by show 11+100+4<=sizeLine;decide));have s3:aP (.str (on++[a]++[62,48,32,47,32,42,32,95,32])) (.str z)=some (.str (on++[a]++[62,48,32,47,32,42,32,95,32]++z)):=dX (Qqj (Nat.add_le_add_left hz1 _) (by show 15+100<=sizeLine;decide));have v6:aK 6 (Eo A0 A1 a o A4 A5 F v7 (Zs z)) = .ok (.lst F) env:=by rw[<-hE];rfl
   have g2:bw 8 env = .ok (.str z) env:=by rw[<-hE];rfl
   have k1:az aP (az aP (Zw [111,110,99,101,32]) (bw 2)) (Zw [62,48,32,47,32]) env = .ok (.str (on++[a]++[62,48,32,47,32])) env:=by rw[<-hE];rfl
   have k2:az aP (az aP (Zw [111,110,99,101,32]) (bw 2)) (Zw [62,48,32,47,32,42,32,95,32]) env = .ok (.str (on++[a]++[62,48,32,47,32,42,32,95,32])) env:=by rw[<-hE];rfl
   have:=lL (i:=6) (aM (g:=o9) v6 (qU (aJ (aM (aM k1 g2 s1) (Wc (.str [32,95,32,42]) env) s2) (aJ (aM k2 g2 s3) bQ)) Ev.zz2) (O1 (show F.length+2<=sizeLine from Qqj (show F.length+2<=1000 by omega) (by decide))));rw[<-hE] at this;exact this
  obtain⟨w8,e⟩:=Vs zs (F++(f3 a z).map .str) (Zs z) (by rw[Qqq,Qqk];show F.length+2+2*zs.length<=1000;omega) λy hy=>hz y (Qqy _ hy);refine⟨w8,?_⟩;rw[Qwk,<-Qxz] at e;exact(jQ (e1:=Eo A0 A1 a o A4 A5 F v7 (Zs z)) rfl h1).trans e
end
theorem YT(A0 A1 A4 A5:OD)(a o:Nat)(F:List D)(hF:F.length<=100):∃e,adg (Eo A0 A1 a o A4 A5 F none none) = .rt false (.lst (F++(zK a o).map .str)) e:=by
 obtain⟨w1,e1⟩:=aa1 (A0:=A0) (A1:=A1) (A4:=A4) (A5:=A5) (a:=a) (o:=o) (v7:=Zf (.lst ((o1 a).map .str))) (o1 a) F none (by show F.length+7<=1000;omega) (by unfold o1;simp);obtain⟨w2,e2⟩:=Vt (A0:=A0) (A1:=A1) (A4:=A4) (A5:=A5) (a:=a) (o:=o) (v7:=Zf (.lst ((o2 a o).map .str))) (o2 a o) (F++((o1 a).map f1).map .str) w1 (by rw[Qqq];show F.length+7+8<=1000;omega) (by unfold o2;simp);obtain⟨w3,e3⟩:=Vt (A0:=A0) (A1:=A1) (A4:=A4) (A5:=A5) (a:=a) (o:=o) (v7:=Zf (.lst ((o3 a).map .str))) (o3 a) (F++((o1 a).map f1).map .str++((o2 a o).map f2).map .str) w2 (by rw[Qqq,Qqq];show F.length+7+8+6<=1000;omega) (by unfold o3;simp);obtain⟨w4,e4⟩:=Vs (A0:=A0) (A1:=A1) (A4:=A4) (A5:=A5) (a:=a) (o:=o) (v7:=Zf (.lst ((o4 a o).map .str))) (o4 a o) (F++((o1 a).map f1).map .str++((o2 a o).map f2).map .str++((o3 a).map f2).map .str) w3 (by rw[Qqq,Qqq,Qqq];show F.length+7+8+6+2*15<=1000;omega) (by unfold o4;simp);obtain⟨w5,e5⟩:=Vs (A0:=A0) (A1:=A1) (A4:=A4) (A5:=A5) (a:=a) (o:=o) (v7:=Zf (.lst ((o5 a).map .str))) (o5 a) (F++((o1 a).map f1).map .str++((o2 a o).map f2).map .str++((o3 a).map f2).map .str++((o4 a o).flatMap (f3 a)).map .str) w4 (by rw[Qqq,Qqq,Qqq,Qqq];show F.length+7+8+6+30+2*9<=1000;omega) (by unfold o5;simp);refine⟨[A0,A1,Zs [a],Zs [o],A4,A5,Zf (.lst (F++((o1 a).map f1).map .str++((o2 a o).map f2).map .str++((o3 a).map f2).map .str++((o4 a o).flatMap (f3 a)).map .str++((o5 a).flatMap (f3 a)).map .str)),Zf (.lst ((o5 a).map .str)),w5],?_⟩;unfold adg;refine(aD (e:=Eo A0 A1 a o A4 A5 (F) (Zf (.lst (((o1 a).take 6).map .str))) none) ?_).trans ?_
 ·rfl
 refine(aD (e:=Eo A0 A1 a o A4 A5 (F) (Zf (.lst ((o1 a).map .str))) none) ?_).trans ?_
 ·rfl
 refine(aD (e:=Eo A0 A1 a o A4 A5 (F++((o1 a).map f1).map .str) (Zf (.lst ((o1 a).map .str))) w1) ?_).trans ?_
 ·exact(fC (ds:=(o1 a).map .str) rfl).trans e1
 refine(aD (e:=Eo A0 A1 a o A4 A5 (F++((o1 a).map f1).map .str) (Zf (.lst (((o2 a o).take 6).map .str))) w1) ?_).trans ?_
 ·rfl
 refine(aD (e:=Eo A0 A1 a o A4 A5 (F++((o1 a).map f1).map .str) (Zf (.lst (((o2 a o).take 7).map .str))) w1) ?_).trans ?_
 ·rfl
 refine(aD (e:=Eo A0 A1 a o A4 A5 (F++((o1 a).map f1).map .str) (Zf (.lst ((o2 a o).map .str))) w1) ?_).trans ?_
 ·rfl
 refine(aD (e:=Eo A0 A1 a o A4 A5 (F++((o1 a).map f1).map .str++((o2 a o).map f2).map .str) (Zf (.lst ((o2 a o).map .str))) w2) ?_).trans ?_
 ·exact(fC (ds:=(o2 a o).map .str) rfl).trans e2
 refine(aD (e:=Eo A0 A1 a o A4 A5 (F++((o1 a).map f1).map .str++((o2 a o).map f2).map .str) (Zf (.lst (((o3 a).take 5).map .str))) w2) ?_).trans ?_
 ·rfl
 refine(aD (e:=Eo A0 A1 a o A4 A5 (F++((o1 a).map f1).map .str++((o2 a o).map f2).map .str) (Zf (.lst ((o3 a).map .str))) w2) ?_).trans ?_
 ·rfl
 refine(aD (e:=Eo A0 A1 a o A4 A5 (F++((o1 a).map f1).map .str++((o2 a o).map f2).map .str++((o3 a).map f2).map .str) (Zf (.lst ((o3 a).map .str))) w3) ?_).trans ?_
 ·exact(fC (ds:=(o3 a).map .str) rfl).trans e3
 refine(aD (e:=Eo A0 A1 a o A4 A5 (F++((o1 a).map f1).map .str++((o2 a o).map f2).map .str++((o3 a).map f2).map .str) (Zf (.lst (((o4 a o).take 14).map .str))) w3) ?_).trans ?_
 ·rfl
 refine(aD (e:=Eo A0 A1 a o A4 A5 (F++((o1 a).map f1).map .str++((o2 a o).map f2).map .str++((o3 a).map f2).map .str) (Zf (.lst ((o4 a o).map .str))) w3) ?_).trans ?_
 ·rfl
 refine(aD (e:=Eo A0 A1 a o A4 A5 (F++((o1 a).map f1).map .str++((o2 a o).map f2).map .str++((o3 a).map f2).map .str++((o4 a o).flatMap (f3 a)).map .str) (Zf (.lst ((o4 a o).map .str))) w4) ?_).trans ?_
 ·exact(fC (ds:=(o4 a o).map .str) rfl).trans e4
 refine(aD (e:=Eo A0 A1 a o A4 A5 (F++((o1 a).map f1).map .str++((o2 a o).map f2).map .str++((o3 a).map f2).map .str++((o4 a o).flatMap (f3 a)).map .str) (Zf (.lst (((o5 a).take 7).map .str))) w4) ?_).trans ?_
 ·rfl
 refine(aD (e:=Eo A0 A1 a o A4 A5 (F++((o1 a).map f1).map .str++((o2 a o).map f2).map .str++((o3 a).map f2).map .str++((o4 a o).flatMap (f3 a)).map .str) (Zf (.lst ((o5 a).map .str))) w4) ?_).trans ?_
 ·rfl
 refine(aD (e:=Eo A0 A1 a o A4 A5 (F++((o1 a).map f1).map .str++((o2 a o).map f2).map .str++((o3 a).map f2).map .str++((o4 a o).flatMap (f3 a)).map .str++((o5 a).flatMap (f3 a)).map .str) (Zf (.lst ((o5 a).map .str))) w5) ?_).trans ?_
 ·exact(fC (ds:=(o5 a).map .str) rfl).trans e5
 have:F++(zK a o).map .str=F++((o1 a).map f1).map .str++((o2 a o).map f2).map .str++((o3 a).map f2).map .str++((o4 a o).flatMap (f3 a)).map .str++((o5 a).flatMap (f3 a)).map .str:=by unfold zK;rw[Qxz,Qxz,Qxz,Qxz,<-Qwk,<-Qwk,<-Qwk,<-Qwk]
 rw[this]
 rfl
def ltr(c:Nat):Bool:=decide (97<=c)&&decide (c<=122)
def Mv(o:Nat):Option (List Nat)->Bool
 | some [c]=>!ltr c||c == o
 | _=>true
def agO(o:Nat):List (Option (List Nat))->Bool
 | [p,r]=>!(p == some [])||Mv o r
 | _=>true
def agP(o:Nat):List (Option (List Nat))->Bool
 | [p,r]=>Mv o p||(Mv o r && !(r == some []))||p == r
 | _=>true
def aex(o:Nat)(cs:List (List (Option (List Nat)))):Bool:=cs.isEmpty||((!(cs.length == 1)||cs.any (agO o))&&(cs.any (agP o) || !oX (cs.map old)))
def Z9(o:Nat)(z:List Nat):Bool:=!(z == [42])&&(if brk z=true then (gK 32 ((z.drop 1).take (z.length - 2))).any (λm=>!KN.contains m) else z.isEmpty||(z.any (λc=>!(c == 35)&&(!ltr c||c == o)) || !oX (z.map λc=>[c])))
def sb(o:Nat)(t:List Nat):Bool:=!both t||(!way (hw t)||(aex o ((cw t).map ch)||(Z9 o (lw t)||Z9 o (zu t))))
theorem nt{b:Bool}(h:(!b)=true):b=false:=by cases b;rfl;cases h
section
variable{L:List Rn}(h:Stk L){o:Nat}(ho:o ∉ L.map (·.1))
include h ho
theorem yU{r:Option (List Nat)}(hr:Mv o r=true):Jh (L.map (·.1)) r=false:=by
 match r,hr with
 | none,_=>rfl
 | some [],_=>rfl
 | some (_::_::_),_=>rfl
 | some [c],hr=>
  have hr:(!ltr c||c == o)=true:=hr;show(L.map (·.1)).contains c=false;rw[<-Bool.not_eq_true,List.contains_iff_mem];intro hc;have hl:=jm h.HD hc;unfold j9 at hl;rw[Qxk] at hr;rcases hr with hr|hr
  ·unfold ltr at hr;rw[Qw8 hl.1,Qw8 hl.2] at hr;cases hr
  ·rw[eq_of_beq hr] at hc;exact ho hc
theorem aaa{c:List (Option (List Nat))}(hc:agO o c=true):pu (L.map (·.1)) c=false:=by
 match c,hc with
 | [],_=>rfl
 | [_],_=>rfl
 | _::_::_::_,_=>rfl
 | [p,r],hc=>
  have hc:(!(p == some [])||Mv o r)=true:=hc;show(p == some []&&Jh (L.map (·.1)) r)=false;rw[Qxk] at hc;rcases hc with hc|hc
  ·rw[Bool.not_eq_true'] at hc;rw[hc,Bool.false_and]
  ·rw[yU h ho hc,Bool.and_false]
theorem aac{c:List (Option (List Nat))}(hc:agP o c=true):Gu (L.map (·.1)) c=false:=by
 match c,hc with
 | [],_=>rfl
 | [_],_=>rfl
 | _::_::_::_,_=>rfl
 | [p,r],hc=>
  have hc:(Mv o p||(Mv o r && !(r == some []))||p == r)=true:=hc;show(Jh (L.map (·.1)) p&&((Jh (L.map (·.1)) r||r == some []) && !(p == r)))=false;rw[Qxk,Qxk,Qwj] at hc;rcases hc with (hc|hc)|hc
  ·rw[yU h ho hc,Bool.false_and]
  ·rw[yU h ho hc.1,nt hc.2,Bool.false_or,Bool.false_and,Bool.and_false]
  ·rw[hc,Bool.not_true,Bool.and_false,Bool.and_false]
theorem aab{cs:List (List (Option (List Nat)))}(hc:aex o cs=true):G3 (L.map (·.1)) cs=false:=by
 unfold aex at hc;unfold G3;cases he:cs.isEmpty with
 | true=>rfl
 | false=>
  rw[he,Bool.false_or,Qwj,Qxk,Qxk] at hc;have a1:(cs.length == 1&&cs.all (pu (L.map λr:Rn=>r.1)))=false:=by
   rcases hc.1 with e|e
   ·rw[nt e,Bool.false_and]
   ·obtain⟨c,hm,hb⟩:=List.any_eq_true.mp e;have:cs.all (pu (L.map λr:Rn=>r.1))=false:=List.all_eq_false.mpr ⟨c,hm,by rw[aaa h ho hb];exact Qxq⟩;rw[this,Bool.and_false]
  have a2:(cs.all (Gu (L.map λr:Rn=>r.1))&&oX (cs.map old))=false:=by
   rcases hc.2 with e|e
   ·obtain⟨c,hm,hb⟩:=List.any_eq_true.mp e;have:cs.all (Gu (L.map λr:Rn=>r.1))=false:=List.all_eq_false.mpr ⟨c,hm,by rw[aac h ho hb];exact Qxq⟩;rw[this,Bool.false_and]
   ·rw[nt e,Bool.and_false]
  rw[a1,a2]
  rfl
theorem Px{z:List Nat}(hz:Z9 o z=true):ag (L.map (·.1)) (sg L z)=false:=by
 unfold Z9 at hz;rw[Qwj,Bool.not_eq_true',Qwx] at hz;obtain⟨h1,h2⟩:=hz;unfold sg;rw[if_neg h1];split at h2
 ·rename_i hb;rw[if_pos hb];obtain⟨m,hm,hk⟩:=List.any_eq_true.mp h2;have:jr L (gK 32 ((z.drop 1).take (z.length - 2)))=[]:=by
   unfold jr;rw[List.map_eq_nil_iff,List.filter_eq_nil_iff];intro r hr hall;have hmem:=Qw3 (Qq8.mp hall m hm);have:=Qq8.mp (h.mks r hr) m hmem;rw[this] at hk;cases hk
  rw[this]
  rfl
 ·rename_i hb;rw[if_neg hb];show(!z.isEmpty&&(z.all (λc=>c == 35||(L.map (·.1)).contains c)&&oX (z.map λc=>[c])))=false;rw[Qxk,Qxk] at h2;rcases h2 with e|e|e
  ·rw[e];rfl
  ·obtain⟨c,hm,hc⟩:=List.any_eq_true.mp e;have:z.all (λc=>c == 35||(L.map λr:Rn=>r.1).contains c)=false:=by
    refine List.all_eq_false.mpr ⟨c,hm,?_⟩;rw[Qwj,Bool.not_eq_true'] at hc;have h3:=yU h ho (r:=some [c]) hc.2;rw[hc.1,Bool.false_or];show ¬Jh _ (some [c])=true;rw[h3];exact Qxq
   rw[this,Bool.false_and,Bool.and_false]
  ·rw[nt e,Bool.and_false,Bool.and_false]
theorem afo{t:List Nat}(ht:sb o t=true):ok L t=false:=by
 unfold sb at ht;rw[Qxk,Qxk,Qxk,Qxk] at ht;rcases ht with e|e|e|e|e
 ·exact jO (nt e)
 ·exact zJ (nt e)
 ·exact Vc (aab h ho e)
 ·exact FP (Px h ho e)
 ·exact uN (Px h ho e)
end
def OUT:List Nat:=[113,118,109,101,104,97,98,99,100,102,103]
theorem YM:((List.range 26).all λa=>OUT.all λo=>(zK (97+a) o).all λt=>sb o t&&decide (t.length<=200))=true:=by decide +kernel
theorem YQ{L:List Rn}(h:Stk L){a o:Nat}(ha:a∈L.map (·.1))(ho:o ∉ L.map (·.1))(hO:o∈OUT):∀t∈zK a o,ok L t=false/\t.length<=200:=λt ht=>by
 have hl:=jm h.HD ha;unfold j9 at hl;have:=Qq8.mp (Qq8.mp YM (a - 97) (Qx1.mpr (by omega))) o hO;rw[show 97+(a - 97)=a by omega] at this;have:=Qq8.mp this t ht;rw[Qwj,decide_eq_true_eq] at this;exact⟨afo h ho this.1,this.2⟩
theorem other:∀(x S:List Nat),S.Nodup->x.length<S.length->∃o∈S,o ∉ x
 | [],S,_,hl=>by
  cases S with
  | nil=>exact absurd hl (by decide)
  | cons o S=>exact⟨o,Qqv ..,Qwz⟩
 | a::x,S,hn,hl=>by
  rw[Qq0] at hl;obtain⟨o,h1,h2⟩:=other x (S.erase a) (hn.erase a) (by rw[List.length_erase];split<;>omega);rw[hn.mem_erase_iff] at h1;refine⟨o,h1.2,λh=>?_⟩;rcases Qq1.mp h with e|h
  ·exact h1.1 e
  ·exact h2 h
theorem Y0(c:Nat)(z:List Nat):o8 (.str [c]) (.str z)=some (.bl (!decide (c∈z))):=rfl
theorem Zj{x:List Nat}(hl:x.length<=4):∃o,oh [.str x]=some (.str [o])/\o∈OUT/\o ∉ x:=by
 obtain⟨o',h1,h2⟩:=other x OUT (by decide) (Qx6 hl (by decide));have hl1:uV [Zs x] = .ok (.lst ((OUT.filter λc=>!decide (c∈x)).map λc=>.str [c])) [Zs x]:=
  Gq (lo:=1) (n:=2) OUT (λc=>.str [c]) (λc=>!decide (c∈x)) (λc=>.str [c]) rfl rfl rfl (λc _=>cI (iC (x:=.str [c]) (y:=.str x) rfl rfl rfl (Y0 c x))) (λc _ _=>rfl) (by decide)
 have hm:o'∈OUT.filter λc=>!decide (c∈x):=List.mem_filter.mpr ⟨h1,by rw[Qw6 h2];rfl⟩;cases hf:OUT.filter λc=>!decide (c∈x) with
 | nil=>rw[hf] at hm;cases hm
 | cons o r=>
  have ho:o∈OUT.filter λc=>!decide (c∈x):=by rw[hf];exact Qqv ..
  obtain⟨h3,h4⟩:=List.mem_filter.mp ho;rw[hf] at hl1;refine⟨o,cT (cB (aM (y:=.int 0) hl1 rfl (lG (j:=0) rfl))),h3,of_decide_eq_false (nt h4)⟩
abbrev En(fl:Bool)(q:QR)(x:List Nat)(a o:Nat)(T H:List Nat)(F:List (List Nat)):Ev.Env:=[Zf (cY q),Zs x,Zs [a],Zs [o],Zs T,Zs H,some (fl,.lst (F.map .str)),Zn,Zn]
section
variable{q:QR}{x T H:List Nat}{a o:Nat}{F:List (List Nat)}
theorem Wq{l:di}{ys:List (List Nat)}(hF:F.length<=100)(hy:ys.length<=10)(hl:l (En false q x a o T H F) = .ok (ys.map .str) (En false q x a o T H F)):eN 6 (az o9 (aK 6) (bM l)) (En true q x a o T H F) = .nx (En true q x a o T H (F++ys)):=by have:=lL (i:=6) (aM (g:=o9) (a:=aK 6) (env:=En true q x a o T H F) (x:=.lst (F.map .str)) (e1:=En false q x a o T H F) rfl (qU hl (by rw[Qqk];exact Qqj hy (by decide))) (O1 (by rw[Qqk,Qqk];exact Qqj (Nat.add_le_add hF hy) (by decide))));rw[<-Qxz] at this;exact this
theorem eH(hH:H.length<=100)(z:List Nat)(hz:z.length<=100:=by decide):aA aP 5 (jR (.str z)) (En false q x a o T H F) = .ok (.str (H++z)) (En false q x a o T H F):=
 iC (x:=.str H) (y:=.str z) rfl rfl rfl (dX (Qqj (Nat.add_le_add hH hz) (by decide)))
theorem eT(hT:T.length<=100)(z:List Nat)(hz:z.length<=100:=by decide):aA aP 4 (jR (.str z)) (En false q x a o T H F) = .ok (.str (T++z)) (En false q x a o T H F):=
 iC (x:=.str T) (y:=.str z) rfl rfl rfl (dX (Qqj (Nat.add_le_add hT hz) (by decide)))
theorem eU(hT:(Kq T).length<=100):dY gUp (aK 4) (En false q x a o T H F) = .ok (.str (Kq T)) (En false q x a o T H F):=
 yP (x:=.str T) rfl (if_pos (Qqj hT (by decide)))
theorem eR{u v z:List Nat}(hT:T.length<=100)(hv:v.length<=10)(hz:uK T u v=z)(hl:z.length<=200):dY (n6 u v) (aK 4) (En false q x a o T H F) = .ok (.str z) (En false q x a o T H F):=by subst hz;refine yP (x:=.str T) rfl (if_pos ⟨?_,Qqj hl (by decide)⟩);have:(T.length+1)*v.length<=101*10:=Nat.mul_le_mul (by omega) hv;omega
end
theorem FZ{a b c:Nat}{p:List Nat}(h:b ∉ p)(hab:a≠b):Np [a,b,c] p:=λk hk e=>by
 have e1:=Qz0 (λl:List Nat=>l[1]?) e;have e2:((p++[a,b,c]).drop k)[1]? = some b:=by
  have:(List.take 3 ((p++[a,b,c]).drop k))[1]? = some b:=e1
  rwa [List.getElem?_take,if_pos (by decide)] at this
 rw[List.getElem?_drop] at e2;by_cases hk1:k+1<p.length
 ·rw[Qw7 hk1] at e2;exact h (Qj1 e2)
 ·have:k+1=p.length:=by omega
  rw[this,Qx7 (Qq2 _),Nat.sub_self] at e2;injection e2 with e2
  exact hab e2
section
variable{q:QR}(h:W9 q)
include h
theorem Oq:(hdT q).length<=63:=by have:=rm h;rw[sW,Qqq,Qqq] at this;omega
theorem T4:47 ∉ rst q:=by unfold rst;have h1:=adA h (d:=47) (by decide) (by decide) (by unfold j9;omega);have h2:=adz h (d:=47) (by decide) (by decide) (by unfold j9;omega);simp[h1,h2]
theorem UJ:95 ∉ hdT q++[32,47,32]++dg q.l:=by have h1:=adA h (d:=95) (by decide) (by decide) (by unfold j9;omega);have h2:=VP h (d:=95) (by unfold j9;omega) (by decide) (by decide) (by decide);simp[h1,h2]
theorem vY:txt q=bF [32,47,32] [hdT q,rst q]:=by
 rw[bT,sW]
 rfl
theorem Hl:txt q=bF [32,95,32] [hdT q++[32,47,32]++dg q.l,dg q.r]:=by rw[bT,sW];show _=hdT q++[32,47,32]++dg q.l++[32,95,32]++dg q.r;simp
theorem Ip:∀p ∈ [hdT q,rst q],Np [32,47,32] p:=λp hp=>by
 simp only[Qq1,Qwz,Qz4] at hp;rcases hp with rfl|rfl
 ·exact FZ (VP h (by unfold j9;omega) (by decide) (by decide) (by decide)) (by decide)
 ·exact FZ (T4 h) (by decide)
theorem YZ:∀p ∈ [hdT q++[32,47,32]++dg q.l,dg q.r],Np [32,95,32] p:=λp hp=>by
 simp only[Qq1,Qwz,Qz4] at hp;rcases hp with rfl|rfl
 ·exact FZ (UJ h) (by decide)
 ·exact FZ (adz h (by decide) (by decide) (by unfold j9;omega)) (by decide)
theorem xH:gk (.str (txt q)) (.str [32,47,32])=some (.lst ([hdT q,rst q].map .str)):=by have hl:=rm h;rw[vY h] at hl ⊢;exact CT (by decide) (by decide +kernel) (Ip h) (by omega)
theorem tQ(v:List Nat):uK (txt q) [32,47,32] v=hdT q++v++rst q:=by
 rw[vY h,HW (by decide) (Ip h),bT]
 rfl
theorem CZ(v:List Nat):uK (txt q) [32,95,32] v=hdT q++[32,47,32]++dg q.l++v++dg q.r:=by
 rw[Hl h,HW (by decide) (YZ h),bT]
 rfl
theorem CP:∀c∈txt q,c<128:=λc hc=>by
 rw[sW] at hc;have hh:∀c∈hdT q,c<128:=λc hc=>Ac [32] (λc=>c<128) (by decide) (Jk q) (λz hz c hc=>by have:=(Ma h z hz).2 c hc;unfold j9 at this;omega) c hc;simp only[Qw4,Qq1,Qwz,Qz4] at hc;rcases hc with (hc|hc)|(hc|hc)|hc
 ·exact hh c hc
 ·omega
 ·have:=Oc h c hc;unfold j9 at this;omega
 ·omega
 ·have:=Ub h c hc;unfold j9 at this;omega
abbrev N9(q:QR)(a:Nat)(x:List Nat)(a2 a3 a4 a5:OD):Ev.Env:=[Zf (cY q),Zs (a::x),a2,a3,a4,a5,Zn,Zn,Zn]
theorem Q4{x':List Nat}{a o:Nat}(ho:oh [.str (a::x')]=some (.str [o])):kO [cY q,.str (a::x')]=some (.lst ((zL q++zK a o).map .str)):=by
 have hT:=rm h;have hH:=Oq h;have hU:=S5 (CP h);have hrl:(hdT q).length+3+(rst q).length<=63:=by rw[vY h,bT,Qqq,Qqq] at hT;exact hT
 have hrr:(hdT q++[32,47,32]++dg q.l).length+3+(dg q.r).length<=63:=by rw[Hl h,bT,Qqq,Qqq] at hT;exact hT
 have s3:=xH h;have r1:=tQ h [47];have r2:=CZ h [95];have r3:=tQ h [32,47,47,32];have r4:=tQ h [32,32,47,32];have r5:=CZ h [32,32,95,32];have l1:(hdT q++[47]++rst q).length<=200:=by rw[Qqq,Qqq];show _+1+_<=200;omega
 have l2:(hdT q++[32,47,32]++dg q.l++[95]++dg q.r).length<=200:=by rw[Qqq,Qqq];show _+1+_<=200;omega
 have l3:(hdT q++[32,47,47,32]++rst q).length<=200:=by rw[Qqq,Qqq];show _+4+_<=200;omega
 have l4:(hdT q++[32,32,47,32]++rst q).length<=200:=by rw[Qqq,Qqq];show _+4+_<=200;omega
 have l5:(hdT q++[32,47,32]++dg q.l++[32,32,95,32]++dg q.r).length<=200:=by rw[Qqq,Qqq];show _+4+_<=200;omega
 have ht:=nG h;have hoA:zL q=((((([[],[32],hdT q,hdT q++[32,47],hdT q++[32,47,32,42],hdT q++[32,47,32,42,32,95],hdT q++[32,47,32,95,32,42],hdT q++[32,47,32,42,32,95,32,42,32]]++[hdT q++[32,42,32,95,32,42]])++[[32]++txt q,txt q++[32],Kq (txt q),hdT q++[47]++rst q,hdT q++[32,47,32]++dg q.l++[95]++dg q.r])++[txt q++[10]])++[hdT q++[32,47,47,32]++rst q,hdT q++[32,32,47,32]++rst q,hdT q++[32,47,32]++dg q.l++[32,32,95,32]++dg q.r])++[[98,111,116,104]++(txt q).drop 4]):=rfl;generalize hdT q++[47]++rst q=R1 at *;generalize hdT q++[32,47,32]++dg q.l++[95]++dg q.r=R2 at *;generalize hdT q++[32,47,47,32]++rst q=R3 at *;generalize hdT q++[32,32,47,32]++rst q=R4 at *;generalize hdT q++[32,47,32]++dg q.l++[32,32,95,32]++dg q.r=R5 at *;generalize hdT q=H at *;generalize txt q=T at *;obtain⟨e',hfin⟩:=YT (Zf (cY q)) (Zs (a::x')) (Zs T) (Zs H) a o ((zL q).map .str) (by rw[hoA];show 19<=100;decide);refine cT (env:=e') ?_;rw[adf];show aL _ _ (N9 q a x' none none none none)=_;refine(aD (e:=(N9 q a x' (Zs [a]) (Zs [o]) none none)) ?_).trans ?_
 ·exact bZ (e:=(N9 q a x' none none none none)) (ou (aJ (d:=.str [a]) (e1:=(N9 q a x' none none none none)) (iC (x:=.str (a::x')) (y:=.int 0) rfl rfl rfl (by show(sr (a::x') ((0:Nat):Int)).map _=_;rw[lG (j:=0) (v:=a) rfl];rfl)) (aJ (aN (ds:=[.str (a::x')]) rfl ho) bQ)) Ev.zz2) rfl
 refine(aD (e:=(N9 q a x' (Zs [a]) (Zs [o]) (Zs T) none)) ?_).trans ?_
 ·exact bZ (aN (ds:=[cY q]) rfl ht) rfl
 refine(aD (e:=(N9 q a x' (Zs [a]) (Zs [o]) (Zs T) (Zs H))) ?_).trans ?_
 ·exact bZ (aM (y:=.int 0) (aM (x:=.str T) (y:=.str [32,47,32]) (e1:=(N9 q a x' (Zs [a]) (Zs [o]) (Zs T) none)) rfl rfl s3) rfl (lG (j:=0) rfl)) rfl
 have gH:∀(z:List Nat),z.length<=100->aA aP 5 (jR (.str z)) (N9 q a x' (Zs [a]) (Zs [o]) (Zs T) (Zs H)) = .ok (.str (H++z)) (N9 q a x' (Zs [a]) (Zs [o]) (Zs T) (Zs H)):=λz hz=>
  iC (x:=.str H) (y:=.str z) rfl rfl rfl (dX (Qqj (Nat.add_le_add (show H.length<=100 by omega) hz) (by decide)))
 refine(aD (e:=En true q (a::x') a o T H [[],[32],H,H++[32,47],H++[32,47,32,42],H++[32,47,32,42,32,95],H++[32,47,32,95,32,42],H++[32,47,32,42,32,95,32,42,32]]) ?_).trans ?_
 ·exact lL (i:=6) (qU (aJ (d:=.str []) rfl (aJ (d:=.str [32]) rfl (aJ (d:=.str H) rfl (aJ (gH _ (by decide)) (aJ (gH _ (by decide)) (aJ (gH _ (by decide)) (aJ (gH _ (by decide)) (aJ (gH _ (by decide)) bQ)))))))) (Qqj (show 8<=100 by decide) (by decide)))
 have hH':H.length<=100:=by omega
 have hT':T.length<=100:=by omega
 refine(aD (Wq (ys:=[H++[32,42,32,95,32,42]]) (by show 8<=100;decide) (by show 1<=10;decide) (aJ (eH hH' _) bQ))).trans ?_;refine(aD (Wq (ys:=[[32]++T,T++[32],Kq T,R1,R2]) (by show 9<=100;decide) (by show 5<=10;decide) (aJ (aM (x:=.str [32]) (y:=.str T) rfl rfl (dX (show 1+T.length<=sizeLine from Qqj (show 1+T.length<=101 by omega) (by decide)))) (aJ (eT hT' _) (aJ (eU (by omega)) (aJ (eR hT' (by decide) r1 l1) (aJ (eR hT' (by decide) r2 l2) bQ))))))).trans ?_;refine(aD (Wq (ys:=[T++[10]]) (by show 14<=100;decide) (by show 1<=10;decide) (aJ (eT hT' _) bQ))).trans ?_;refine(aD (Wq (ys:=[R3,R4,R5]) (by show 15<=100;decide) (by show 3<=10;decide) (aJ (eR hT' (by decide) r3 l3) (aJ (eR hT' (by decide) r4 l4) (aJ (eR hT' (by decide) r5 l5) bQ))))).trans ?_;refine(aD (Wq (ys:=[[98,111,116,104]++T.drop 4]) (by show 18<=100;decide) (by show 1<=10;decide) (aJ (aM (x:=.str [98,111,116,104]) (y:=.str (T.drop 4)) rfl (oA (d:=.str T) (l:=some ((4:Nat):Int)) (u:=none) rfl rfl rfl (by show some (D.str (cutD T (some ((4:Nat):Int)) none))=_;rw[JC])) (dX (by rw[Qx0];exact Qqj (show 4+(T.length - 4)<=104 by omega) (by decide)))) bQ))).trans ?_;rw[Qxz];rw[hoA] at hfin ⊢;exact hfin
end
theorem DG:∀(ps:List (List Nat)) (p:List Nat),(p::ps).flatMap (λy=>32::y)=32::bF [32] (p::ps)
 | [],p=>by simp[bF]
 | q::ps,p=>by
  rw[List.flatMap_cons,DG ps q,bT];simp
theorem Js(l:List Nat):(gK 32 l).flatMap (λy=>32::y)=32::l:=by obtain⟨p,ps,e⟩:=jV 32 l;have:=jU 32 l;rw[e] at this ⊢;rw[DG,this]
theorem Tu{q:QR}(h:W9 q){l r t:List Nat}(Zu:[95] ∉ gK 32 l)(ht:t=hdT q++[32,47,32]++(l++[32,95,32]++r))(L:List Rn):both t=true/\rq L t=⟨q.w,q.ps.map c2,sg L l,sg L r⟩:=by
 have hs:=words h (ys:=[47]::(gK 32 l++[95]::gK 32 r)) (λy hy=>by
  rcases Qq1.mp hy with rfl|hy
  ·decide
  ·rcases Qw4.mp hy with hy|hy
   ·exact uD 32 l y hy
   ·rcases Qq1.mp hy with rfl|hy
    ·decide
    ·exact uD 32 r y hy) (t:=t) (by
  rw[ht,List.flatMap_cons,List.flatMap_append,List.flatMap_cons,Js,Js];simp)
 obtain⟨b,e1,e2,e3,e4⟩:=shape hs (Ir h) (Lq h _ Zu);refine⟨b,?_⟩;unfold rq;rw[e1,e2,e3,e4,Wm h,jU,jU]
def told(ms:List (List Nat)):List Nat:=[91]++bF [32] ms++[93]
def mOk(ms:List (List Nat)):Bool:=brk (told ms)&&(gK 32 (((told ms).drop 1).take ((told ms).length - 2)) == ms) && !decide ([95]∈gK 32 (told ms)) && !(told ms == [42])&&decide (ms.length<=10)&&ms.all (λm=>decide (m.length<=10))&&decide ((told ms).length<=60)
section
variable{ms:List (List Nat)}(hm:mOk ms=true)
include hm
theorem wX:brk (told ms)=true/\gK 32 (((told ms).drop 1).take ((told ms).length - 2))=ms/\[95] ∉ gK 32 (told ms)/\told ms≠[42]/\ms.length<=10/\(∀m∈ms,m.length<=10)/\(told ms).length<=60:=by unfold mOk at hm;simp only[Qwj,Bool.not_eq_true',beq_iff_eq,decide_eq_false_iff_not,decide_eq_true_eq,Qwx,Qq8] at hm;obtain⟨⟨⟨⟨⟨⟨h1,h2⟩,h3⟩,h4⟩,h5⟩,h6⟩,h7⟩:=hm;exact⟨h1,h2,h3,h4,h5,h6,h7⟩
theorem Ez(L:List Rn):sg L (told ms)=some (jr L ms):=by obtain⟨h1,h2,_,h4,_⟩:=wX hm;unfold sg;rw[if_neg h4,if_pos h1,h2]
theorem agx{env:Ev.Env}{b:Ev}(hb:b env = .ok (.lst (ms.map .str)) env):az aP (az aP (Zw [91]) (az jo (Zw [32]) b)) (Zw [93]) env = .ok (.str (told ms)) env:=by
 obtain⟨_,_,_,_,h5,h6,h7⟩:=wX hm;unfold told at h7;rw[Qqq,Qqq] at h7;have h7:1+(bF [32] ms).length+1<=60:=h7;refine aM (x:=.str ([91]++bF [32] ms)) (y:=.str [93]) (e1:=env) (aM (x:=.str [91]) (y:=.str (bF [32] ms)) (e1:=env) rfl (aM (x:=.str [32]) (e1:=env) rfl hb (t6 (by omega) λm hm=>Qqj (h6 m hm) (by decide))) (dX ?_)) rfl (dX ?_)
 ·exact Qqj (show 1+(bF [32] ms).length<=60 by omega) (by decide)
 ·rw[Qqq];exact Qqj h7 (by decide)
end
section
variable{L:List Rn}(hL:Stk L)
theorem zV(h:Stk L):L.length<=4:=by have:=(lZ h.HD).2;rwa [Qqk] at this
include hL
theorem Ar{ms:List (List Nat)}(h0:jr L ms≠[]):ag (L.map (·.1)) (some (jr L ms))=true:=by refine(Hw hL.HD ?_ h0).2;refine List.Sublist.cons _ ?_;unfold jr;exact List.filter_sublist.map _
omit hL in
theorem yS{ms:List (List Nat)}(h0:jr L ms=[])(x:List Nat):ag x (some (jr L ms))=false:=by rw[h0];rfl
theorem lcM{env:Ev.Env}{c:Ev}{ms:List (List Nat)}(hlen:env.length=8)(hv:aK 0 env = .ok (.tup (L.map row)) env)(hc:∀r∈L,c (env++[Zs [r.1],(Zf (.tup (r.2.map .str)))]) = .ok (.lst (ms.map λm=>.bl (decide (m∈r.2)))) (env++[Zs [r.1],(Zf (.tup (r.2.map .str)))])) :
  aB fG (aa (fj 8 10 (dR (aK 0)) (eY 2 (bG (au 8) (bG (au 9) eZ))) (fB (aB rY (aa c ak))) (aK 8)) ak) env = .ok (.tup (dI (jr L ms))) env:=by
 have h4:=uh (lo:=8) (n:=10) (it:=dR (aK 0)) (g:=eY 2 (bG (au 8) (bG (au 9) eZ))) (c:=fB (aB rY (aa c ak))) (e:=aK 8) (env:=env) (aH:=env) L row (λr=>[Zs [r.1],(Zf (.tup (r.2.map .str)))]) (λr=>ms.all λm=>decide (m∈r.2)) (λr=>.str [r.1]) (ph hv rfl) hlen (λr hr=>by
  match env,hlen with
  | [a0,a1,a2,a3,a4,a5,a6,a7],_=>
   refine⟨rfl,λvs hv=>?_,?_,λ_=>rfl⟩
   ·match vs,hv with
    | [_,_],_=>rfl
   ·exact cI (aN (aJ (hc r hr) bQ) (Dy _ ms))) (Qqj (zV hL) (by decide))
 refine aN (aJ h4 bQ) ?_;unfold dI jr;rw[Qxv]
 rfl
end
theorem okG(g:Option (List Nat)):okN 59 (gD g)=true:=by
 cases g with
 | none=>rfl
 | some z=>
  show(dI z).all (okN 58)=true;refine Qq8.mpr λd hd=>?_;obtain⟨c,_,rfl⟩:=Qw0.mp hd
  rfl
theorem okQ(q:Q):okN 60 (qD q)=true:=by
 have h1:okN 59 (.tup (q.cs.map cD))=true:=by show(q.cs.map cD).all (okN 58)=true;refine Qq8.mpr λd hd=>?_;obtain⟨c,_,rfl⟩:=Qw0.mp hd;show(c.map oD).all (okN 57)=true;refine Qq8.mpr λd hd=>?_;obtain⟨o,_,rfl⟩:=Qw0.mp hd;cases o<;>rfl
 show [D.str q.w,.tup (q.cs.map cD),gD q.l,gD q.r].all (okN 59)=true;rw[List.all_cons,List.all_cons,List.all_cons,List.all_cons,h1,okG,okG]
 rfl
theorem V5(q:Q):Bp (qD q) (qD q)=some (.bl false):=by
 unfold Bp;rw[vz 60 _ (okQ q)]
 rfl
theorem agE(q:Q):kJ (qD q) (qD q)=some (.bl true):=by
 unfold kJ;rw[vz 60 _ (okQ q)]
 rfl
theorem Ds{x:List Nat}{q:Q}(h:R9 x q=true):way q.w=true/\G3 x q.cs=true/\ag x q.l=true/\ag x q.r=true:=by unfold R9 at h;simp only[Qwj] at h;exact⟨h.1,h.2.1,h.2.2.1,h.2.2.2⟩
abbrev E8(L:List Rn)(q:QR)(A2:OD)(ms:List (List Nat))(k:Int)(a b:OD):Ev.Env:=[(Zf (.tup (L.map row))),Zf (cY q),A2,(Zf (.tup (dI (jr L ms)))),Zs (told ms),Zf (.int k),a,b]
abbrev E8m(L:List Rn)(q:QR)(ms:List (List Nat))(a b c d e:OD):Ev.Env:=[(Zf (.tup (L.map row))),Zf (cY q),(Zf (.lst (ms.map .str))),a,b,c,d,e]
abbrev R6(L:List Rn)(q:QR)(ma mb:List (List Nat))(a b c d:OD):Ev.Env:=[(Zf (.tup (L.map row))),Zf (cY q),(Zf (.lst (ma.map .str))),(Zf (.lst (mb.map .str))),a,b,c,d]
def tx(q:QR)(A B:List Nat):List Nat:=hdT q++[32,47,32]++(A++[32,95,32]++B)
abbrev E8x(L:List Rn)(q:QR)(A2:OD)(ms:List (List Nat))(k:Int)(A B:List Nat):Ev.Env:=E8 L q A2 ms k (Zl [.str A,.str B]) (Zs (tx q A B))
section
variable{L:List Rn}(hL:Stk L){q:QR}(hR:Rul (L.map λr:Rn=>r.1) q)
theorem Xy{g:Option (List Nat)}(h:32 ∉ dg g):gK 32 (dg g)=[dg g]:=Eu 32 [] (dg g) λz hz=>by rw[Qww.mp hz];exact h
include hR in
theorem Kv{A B:List Nat}(hA:A.length<=100)(hB:B.length<=100):(tx q A B).length<=300:=by have:=Oq hR.o;unfold tx;rw[Qqq,Qqq,Qqq,Qqq];show _+3+(_+3+_)<=300;omega
include hL hR
theorem Ku{A B:List Nat}(hA:A.length<=100)(hB:B.length<=100)(Zu:[95] ∉ gK 32 A)(hl:ag (L.map λr:Rn=>r.1) (sg L A)=true)(hr:ag (L.map λr:Rn=>r.1) (sg L B)=true) :
  eG [.tup (L.map row),.str (tx q A B)]=some (qD ⟨q.w,q.ps.map c2,sg L A,sg L B⟩):=by
 obtain⟨b,e⟩:=Tu hR.o (l:=A) (r:=B) (t:=tx q A B) Zu rfl L;obtain⟨p1,p2,_,_⟩:=Ds hR.i;have:ok L (tx q A B)=true:=by
  unfold ok;rw[b,e];show(true&&(way q.w&&(G3 _ (q.ps.map c2)&&(ag _ (sg L A)&&ag _ (sg L B)))))=true;have p1:way q.w=true:=p1;have p2:G3 (L.map λr:Rn=>r.1) (q.ps.map c2)=true:=p2;rw[p1,p2,hl,hr]
  rfl
 have:=read_rule (Qqj (zV hL) (by decide)) (Qqj (Kv hR hA hB) (by decide)) this
 rwa [e] at this
theorem aaF{A B:List Nat}(hA:A.length<=100)(hB:B.length<=100)(Zu:[95] ∉ gK 32 A)(hn:ag (L.map λr:Rn=>r.1) (sg L A)=false\/ag (L.map λr:Rn=>r.1) (sg L B)=false) :
  cJ [.tup (L.map row),.str (tx q A B),.int 0]=some (.bl true):=by
 obtain⟨b,e⟩:=Tu hR.o (l:=A) (r:=B) (t:=tx q A B) Zu rfl L;refine wJ (Qqj (zV hL) (by decide)) (Qqj (Kv hR hA hB) (by decide)) (aaV e ?_);unfold R9;rcases hn with hn|hn
 ·rw[hn,Bool.false_and,Bool.and_false,Bool.and_false]
 ·rw[hn,Bool.and_false,Bool.and_false,Bool.and_false]
end
theorem agl{A B:List Nat}(hA:A.length<=100)(hB:B.length<=100):jo (.str [32,95,32]) (.lst [.str A,.str B])=some (.str (A++[32,95,32]++B)):=by
 show(match fP [.str A,.str B] with|some xs=>if joinFits [32,95,32] xs=true then some (D.str (bF [32,95,32] xs)) else none|none=>none)=_;show(if joinFits [32,95,32] [A,B]=true then some (D.str (bF [32,95,32] [A,B])) else none)=_;rw[if_pos,bT]
 ·rfl
 ·refine Qw8 ?_;show A.length+(B.length+0)+2*3<=_;omega
theorem Gm(z:List Nat):kJ (.tup (dI z)) (.tup [])=some (.bl z.isEmpty):=by cases z<;>rfl
section
variable{L:List Rn}(hL:Stk L){q:QR}(hR:Rul (L.map λr:Rn=>r.1) q)
include hR
theorem ZF{env:Ev.Env}(he:aK 1 env = .ok (cY q) env):az je (az gk (aB cU (Zv 1 ak)) (Zw [32,47,32])) (Zi 0) env = .ok (.str (hdT q)) env:=
 aM (y:=.int 0) (e1:=env) (aM (x:=.str (txt q)) (y:=.str [32,47,32]) (e1:=env) (aN (aJ he bQ) (nG hR.o)) rfl (xH hR.o)) rfl (lG (j:=0) rfl)
theorem O5{env:Ev.Env}{b:Ev}{A B:List Nat}(he:aK 1 env = .ok (cY q) env)(hb:b env = .ok (.str (A++[32,95,32]++B)) env)(hA:A.length<=100)(hB:B.length<=100) :
  az aP (az aP (az je (az gk (aB cU (Zv 1 ak)) (Zw [32,47,32])) (Zi 0)) (Zw [32,47,32])) b env = .ok (.str (tx q A B)) env:=by
 have hH:=Oq hR.o;refine aM (x:=.str (hdT q++[32,47,32])) (e1:=env) (aM (x:=.str (hdT q)) (y:=.str [32,47,32]) (e1:=env) (ZF hR he) rfl (dX ?_)) hb (dX ?_)
 ·exact Qqj (Nat.add_le_add_right hH _) (by decide)
 ·have:=Kv hR hA hB;unfold tx at this;rw[Qqq] at this;exact Qqj this (by decide)
theorem V8(A0 A2 A3 A4 A5 A6 A7:OD):jY [A0,Zf (cY q),A2,A3,A4,A5,A6,A7] = .ok (.lst [.str (dg q.l),.str (dg q.r)]) [A0,Zf (cY q),A2,A3,A4,A5,A6,A7]:=by
 refine kY (lo:=8) (n:=9) (aH:=[A0,Zf (cY q),A2,A3,A4,A5,A6,A7]) [q.l,q.r] gD (λg=>.str (dg g)) ?_ rfl rfl (λg hg=>?_) Ev.zz2
 ·exact ph (oA (d:=cY q) (l:=some 2) (u:=none) (e1:=[A0,Zf (cY q),A2,A3,A4,A5,A6,A7]) (e2:=[A0,Zf (cY q),A2,A3,A4,A5,A6,A7]) rfl rfl rfl rfl) rfl
 ·have:Sg g:=by
   simp only[Qq1,Qwz,Qz4] at hg;rcases hg with rfl|rfl
   ·exact hR.o.l
   ·exact hR.o.r
  exact aN (ds:=[gD g]) rfl (lY this)
include hL
theorem zT{ms:List (List Nat)}(hm:mOk ms=true)(A2 v6 v7:OD)(k:Int)(hk:k=2\/k=3):∃w6 w7,gY (E8 L q A2 ms k v6 v7) = .nx (E8 L q A2 ms k w6 w7):=by
 obtain⟨_,_,Zu,_,_,_,htl⟩:=wX hm;have hsg:=Ez hm L;obtain⟨_,_,p3,p4⟩:=Ds hR.i;have hl5:=(ni hR.o.l).1;have hr5:=(ni hR.o.r).1;have n95:[95] ∉ gK 32 (dg q.l):=by rw[Xy (Vj hR.o)];exact λhz=>Dk hR.o (Qww.mp hz).symm
 obtain⟨A,B,hAB,hA,hB,ad4⟩:∃A B,((k=2/\A=told ms/\B=dg q.r)\/(k=3/\A=dg q.l/\B=told ms))/\A.length<=100/\B.length<=100/\[95] ∉ gK 32 A:=by
  rcases hk with rfl|rfl
  ·exact⟨told ms,dg q.r,.inl ⟨rfl,rfl,rfl⟩,by omega,by omega,Zu⟩
  ·exact⟨dg q.l,told ms,.inr ⟨rfl,rfl,rfl⟩,by omega,by omega,n95⟩
 refine⟨(Zl [.str A,.str B]),Zs (tx q A B),?_⟩;unfold gY;refine(aD (e:=(E8 L q A2 ms k (Zl [.str (dg q.l),.str (dg q.r)]) v7)) ?_).trans ?_
 ·exact lL (i:=6) (V8 hR _ _ _ _ _ _ _)
 refine(aD (e:=(E8 L q A2 ms k (Zl [.str A,.str B]) v7)) ?_).trans ?_
 ·rcases hAB with ⟨rfl,rfl,rfl⟩|⟨rfl,rfl,rfl⟩<;>rfl
 refine(aD (e:=(E8x L q A2 ms k A B)) ?_).trans ?_
 ·exact bZ (e:=(E8 L q A2 ms k (Zl [.str A,.str B]) v7)) (O5 hR rfl (aM (x:=.str [32,95,32]) (y:=.lst [.str A,.str B]) (e1:=(E8 L q A2 ms k (Zl [.str A,.str B]) v7)) rfl rfl (agl hA hB)) hA hB) rfl
 have hc:=cI (iC (g:=kJ) (i:=3) (b:=cG ak) (env:=(E8x L q A2 ms k A B)) (x:=.tup (dI (jr L ms))) (y:=.tup []) rfl rfl rfl (Gm (jr L ms)));by_cases h0:jr L ms=[]
 ·have hr:cJ [.tup (L.map row),.str (tx q A B),.int 0]=some (.bl true):=by
   refine aaF hL hR hA hB ad4 ?_;rcases hAB with ⟨_,rfl,rfl⟩|⟨_,rfl,rfl⟩
   ·left;rw[hsg];exact yS h0 _
   ·right;rw[hsg];exact yS h0 _
  rw[show(jr L ms).isEmpty=true by rw[h0];rfl] at hc;refine(lM hc).trans ?_;exact(eO (fW (b:=true) (cI (aN (ds:=[.tup (L.map row),.str (tx q A B),.int 0]) rfl hr)))).trans rfl
 ·have hd:=Ar hL h0;rw[show(jr L ms).isEmpty=false by cases hb:jr L ms with|nil=>exact absurd hb h0|cons _ _=>rfl] at hc;refine(eO hc).trans ?_;have key:∀(p:Q),eG [.tup (L.map row),.str (tx q A B)]=some (qD p)->az aP (az aP (iZ (aK 1) lr (pR (aK 5))) (cG (Zv 3 ak))) (iZ (aK 1) (pR (aA aP 5 (Zi 1))) lr) (E8x L q A2 ms k A B) = .ok (qD p) (E8x L q A2 ms k A B)->gw (fB (az Bp (aB eG (Zv 0 (Zv 7 ak))) (az aP (az aP (iZ (aK 1) lr (pR (aK 5))) (cG (Zv 3 ak))) (iZ (aK 1) (pR (aA aP 5 (Zi 1))) lr)))) (bW (jR (.bl false))) cP (E8x L q A2 ms k A B) = .nx (E8x L q A2 ms k A B):=λp h1 h2=>by
   refine(eO (cI (aM (x:=qD p) (y:=qD p) (aN (ds:=[.tup (L.map row),.str (tx q A B)]) ?_ h1) h2 (V5 p)))).trans ?_
   ·rfl
   ·rfl
  rcases hAB with ⟨rfl,rfl,rfl⟩|⟨rfl,rfl,rfl⟩
  ·have h1:=Ku hL hR hA hB ad4 (by rw[hsg];exact hd) (by rw[wy hR.o.r];exact p4);rw[hsg,wy hR.o.r] at h1;refine key _ h1 ?_;unfold E8x E8;rw[xq q]
   rfl
  ·have h1:=Ku hL hR hA hB ad4 (by rw[wy hR.o.l];exact p3) (by rw[hsg];exact hd);rw[hsg,wy hR.o.l] at h1;refine key _ h1 ?_;unfold E8x E8;rw[xq q]
   rfl
theorem Ja{ms:List (List Nat)}(hm:mOk ms=true):gP [.tup (L.map row),cY q,.lst (ms.map .str)]=some (.bl true):=by
 obtain⟨_,_,_,_,hml,_,_⟩:=wX hm;obtain⟨w6,w7,e1⟩:=zT hL hR hm (Zf (.lst (ms.map .str))) none none 2 (.inl rfl);obtain⟨u6,u7,e2⟩:=zT hL hR hm (Zf (.lst (ms.map .str))) w6 w7 3 (.inr rfl);refine cT (env:=(E8m L q ms (Zf (.tup (dI (jr L ms)))) (Zs (told ms)) (Zf (.int 3)) u6 u7)) ?_;show ju (E8m L q ms none none none none none)=_;unfold ju;refine(aD (e:=(E8m L q ms (Zf (.tup (dI (jr L ms)))) none none none none)) ?_).trans ?_
 ·refine bZ (e:=(E8m L q ms none none none none none)) (lcM hL (ms:=ms) rfl rfl λr _=>?_) rfl;exact kY (lo:=10) (n:=11) ms D.str (λm=>.bl (decide (m∈r.2))) rfl rfl rfl (λm _=>iC (x:=.str m) (y:=.tup (r.2.map .str)) rfl rfl rfl (OJ m r.2)) (Qqj hml (by decide))
 refine(aD (e:=(E8m L q ms (Zf (.tup (dI (jr L ms)))) (Zs (told ms)) none none none)) ?_).trans ?_
 ·exact bZ (agx hm (b:=bw 2) (env:=(E8m L q ms (Zf (.tup (dI (jr L ms)))) none none none none)) rfl) rfl
 refine(aD (e:=(E8m L q ms (Zf (.tup (dI (jr L ms)))) (Zs (told ms)) (Zf (.int 3)) u6 u7)) ?_).trans ?_
 ·exact(fC (ds:=[.int 2,.int 3]) rfl).trans ((jQ rfl e1).trans ((jQ rfl e2).trans rfl))
 ·rfl
theorem Mu{ma mb:List (List Nat)}(ha:mOk ma=true)(hb:mOk mb=true):fU [.tup (L.map row),cY q,.lst (ma.map .str),.lst (mb.map .str)]=some (.bl true):=by
 obtain⟨_,_,a95,_,hal,ha6,ad1⟩:=wX ha;obtain⟨_,_,_,_,hbl,hb6,ad0⟩:=wX hb;have sga:=Ez ha L;have sgb:=Ez hb L;have hA:(told ma).length<=100:=by omega
 have hB:(told mb).length<=100:=by omega
 have la:1+(bF [32] ma).length+1<=60:=by unfold told at ad1;rw[Qqq,Qqq] at ad1;exact ad1
 have lb:1+(bF [32] mb).length+1<=60:=by unfold told at ad0;rw[Qqq,Qqq] at ad0;exact ad0
 have hsd:told ma++[32,95,32]++told mb=[91]++bF [32] ma++[93,32,95,32,91]++bF [32] mb++[93]:=by unfold told;simp
 refine cT (env:=(R6 L q ma mb (Zf (.tup (dI (jr L ma)))) (Zf (.tup (dI (jr L mb)))) (Zs (told ma++[32,95,32]++told mb)) (Zs (tx q (told ma) (told mb))))) ?_;show jM (R6 L q ma mb none none none none)=_;unfold jM;refine(aD (e:=(R6 L q ma mb (Zf (.tup (dI (jr L ma)))) none none none)) ?_).trans ?_
 ·refine bZ (e:=(R6 L q ma mb none none none none)) (lcM hL (ms:=ma) rfl rfl λr _=>?_) rfl;exact kY (lo:=10) (n:=11) ma D.str (λm=>.bl (decide (m∈r.2))) rfl rfl rfl (λm _=>iC (x:=.str m) (y:=.tup (r.2.map .str)) rfl rfl rfl (OJ m r.2)) (Qqj hal (by decide))
 refine(aD (e:=(R6 L q ma mb (Zf (.tup (dI (jr L ma)))) (Zf (.tup (dI (jr L mb)))) none none)) ?_).trans ?_
 ·refine bZ (e:=(R6 L q ma mb (Zf (.tup (dI (jr L ma)))) none none none)) (lcM hL (ms:=mb) rfl rfl λr _=>?_) rfl;exact kY (lo:=10) (n:=11) mb D.str (λm=>.bl (decide (m∈r.2))) rfl rfl rfl (λm _=>iC (x:=.str m) (y:=.tup (r.2.map .str)) rfl rfl rfl (OJ m r.2)) (Qqj hbl (by decide))
 refine(aD (e:=(R6 L q ma mb (Zf (.tup (dI (jr L ma)))) (Zf (.tup (dI (jr L mb)))) (Zs (told ma++[32,95,32]++told mb)) none)) ?_).trans ?_
 ·have ja:=t6 (xs:=ma) (by omega) λm hm=>Qqj (ha6 m hm) (by decide);have jb:=t6 (xs:=mb) (by omega) λm hm=>Qqj (hb6 m hm) (by decide);refine bZ (e:=(R6 L q ma mb (Zf (.tup (dI (jr L ma)))) (Zf (.tup (dI (jr L mb)))) none none)) ?_ rfl;rw[hsd];generalize bF [32] ma=JA at *;generalize bF [32] mb=JB at *;have z1:aP (.str [91]) (.str JA)=some (.str ([91]++JA)):=dX (Qqj (show 1+JA.length<=60 by omega) (by decide));have z2:aP (.str ([91]++JA)) (.str [93,32,95,32,91])=some (.str ([91]++JA++[93,32,95,32,91])):=dX (by rw[Qqq];exact Qqj (show 1+JA.length+5<=100 by omega) (by decide));have z3:aP (.str ([91]++JA++[93,32,95,32,91])) (.str JB)=some (.str ([91]++JA++[93,32,95,32,91]++JB)):=dX (by rw[Qqq,Qqq];exact Qqj (show 1+JA.length+5+JB.length<=200 by omega) (by decide));have z4:aP (.str ([91]++JA++[93,32,95,32,91]++JB)) (.str [93])=some (.str ([91]++JA++[93,32,95,32,91]++JB++[93])):=dX (by rw[Qqq,Qqq,Qqq];exact Qqj (show 1+JA.length+5+JB.length+1<=200 by omega) (by decide));generalize hE:((R6 L q ma mb (Zf (.tup (dI (jr L ma)))) (Zf (.tup (dI (jr L mb)))) none none):Ev.Env)=env;have v2:bw 2 env = .ok (.lst (ma.map .str)) env:=by rw[<-hE];rfl
  have v3:bw 3 env = .ok (.lst (mb.map .str)) env:=by rw[<-hE];rfl
  exact aM (e1:=env) (aM (e1:=env) (aM (e1:=env) (aM (x:=.str [91]) (e1:=env) rfl (aM (x:=.str [32]) (e1:=env) rfl v2 ja) z1) rfl z2) (aM (x:=.str [32]) (e1:=env) rfl v3 jb) z3) rfl z4
 refine(aD (e:=(R6 L q ma mb (Zf (.tup (dI (jr L ma)))) (Zf (.tup (dI (jr L mb)))) (Zs (told ma++[32,95,32]++told mb)) (Zs (tx q (told ma) (told mb))))) ?_).trans ?_
 ·exact bZ (e:=(R6 L q ma mb (Zf (.tup (dI (jr L ma)))) (Zf (.tup (dI (jr L mb)))) (Zs (told ma++[32,95,32]++told mb)) none)) (O5 hR rfl rfl hA hB) rfl
 generalize hE:((R6 L q ma mb (Zf (.tup (dI (jr L ma)))) (Zf (.tup (dI (jr L mb)))) (Zs (told ma++[32,95,32]++told mb)) (Zs (tx q (told ma) (told mb)))):Ev.Env)=env;have c1:fB (aA kJ 4 (cG ak)) env = .ok (jr L ma).isEmpty env:=cI (iC (x:=.tup (dI (jr L ma))) (y:=.tup []) (by rw[<-hE];rfl) rfl (by rw[<-hE];rfl) (Gm (jr L ma)));have c2':fB (aA kJ 5 (cG ak)) env = .ok (jr L mb).isEmpty env:=cI (iC (x:=.tup (dI (jr L mb))) (y:=.tup []) (by rw[<-hE];rfl) rfl (by rw[<-hE];rfl) (Gm (jr L mb)));have hc:j5 (fB (aA kJ 4 (cG ak))) (fB (aA kJ 5 (cG ak))) env = .ok ((jr L ma).isEmpty||(jr L mb).isEmpty) env:=by
  cases e:(jr L ma).isEmpty with
  | true=>rw[e] at c1;exact Gp c1
  | false=>rw[e] at c1;exact(iQ c1).trans c2'
 cases hcc:((jr L ma).isEmpty||(jr L mb).isEmpty) with
 | true=>
  rw[hcc] at hc;have hr:cJ [.tup (L.map row),.str (tx q (told ma) (told mb)),.int 0]=some (.bl true):=by
   refine aaF hL hR hA hB a95 ?_;rw[Qxk,List.isEmpty_iff,List.isEmpty_iff] at hcc;rcases hcc with h0|h0
   ·left;rw[sga];exact yS h0 _
   ·right;rw[sgb];exact yS h0 _
  refine iG ((lM hc).trans (cB (aN (ds:=[.tup (L.map row),.str (tx q (told ma) (told mb)),.int 0]) ?_ hr)));rw[<-hE]
  rfl
 | false=>
  rw[hcc] at hc;rw[Bool.or_eq_false_iff] at hcc;have da:=Ar hL (ms:=ma) λe=>by rw[e] at hcc;cases hcc.1
  have db:=Ar hL (ms:=mb) λe=>by rw[e] at hcc;cases hcc.2
  have h1:=Ku hL hR hA hB a95 (by rw[sga];exact da) (by rw[sgb];exact db);rw[sga,sgb] at h1;refine(aD (e:=env) ?_).trans ?_
  ·exact(eO hc).trans rfl
  refine cB (aM (x:=qD ⟨q.w,q.ps.map c2,some (jr L ma),some (jr L mb)⟩) (y:=qD ⟨q.w,q.ps.map c2,some (jr L ma),some (jr L mb)⟩) (e1:=env) (aN (ds:=[.tup (L.map row),.str (tx q (told ma) (told mb))]) (by rw[<-hE];rfl) h1) ?_ (agE _));rw[<-hE];unfold R6;rw[xq q]
  rfl
end
theorem YC:jJ=yo.jJ:=rfl
theorem afs{i j c:Int}(h:c≠0/\c.natAbs<1073741824/\Builtin.Range.small i j c=true):qy [.int i,.int j,.int c]=some (iR i c (Builtin.Range.rangeSize i j c).toNat):=by unfold qy;simp only;rw[if_pos h]
theorem ace{j:Nat}(h:j<17):∃ds,qy [.int 0,.int (j:Int),.int 2]=some ds/\∀d∈ds,∃k:Int,d = .int k/\0<=k/\k<=400:=by
 have hall:((List.range 17).all λj=>Builtin.Range.small 0 (j:Int) 2&&decide ((Builtin.Range.rangeSize 0 (j:Int) 2).toNat<=20))=true:=by decide +kernel
 have hj:=Qq8.mp hall j (Qx1.mpr h);rw[Qwj] at hj;have hsz:=Qw3 hj.2;refine⟨iR 0 2 (Builtin.Range.rangeSize 0 (j:Int) 2).toNat,afs ⟨by decide,by decide,hj.1⟩,λd hd=>?_⟩;unfold iR at hd;obtain⟨i,hi,rfl⟩:=Qw0.mp hd;have:=Qx1.mp hi;exact⟨0+(i:Int)*2,rfl,by omega,by omega⟩
abbrev EL(S:D)(a1 a2 a3 a4 a5 a6 a7 a8 a9 a10 a11 a12 a13 a14:OD):Ev.Env:=[Zf S,a1,a2,a3,a4,a5,a6,a7,a8,a9,a10,a11,a12,a13,a14]
abbrev tL(L:List Rn):OD:=(Zf (.tup (L.map row)))
abbrev xL(L:List Rn):OD:=(Zs (L.map λr:Rn=>r.1))
abbrev EQ(S:D)(a1:OD)(n:Int)(T:D)(x:List Nat)(a5:OD)(Q:D)(a7 a8 a9 a10 a11 a12 a13 a14:OD):Ev.Env:=EL S a1 (Zl [.int n]) (Zf T) (Zs x) a5 (Zf Q) a7 a8 a9 a10 a11 a12 a13 a14
abbrev JZ(S:D)(a1:OD)(n:Int)(T:D)(x:List Nat)(a5:OD)(Q:D)(t:List Nat)(a9 a10 a11 a12 a13 a14:OD):Ev.Env:=EQ S a1 n T x a5 Q (Zs t) (Zf Q) a9 a10 a11 a12 a13 a14
def EV:List (List Nat):=[[115],[115,116,111,112],[111,112,101,110],[115,116,111,112,115],[97,98,99,100,101,102,103,104]]
def MS5:List (List (List Nat)):=[[[115,116,111,112]],[[115],[115,116,111,112]],[[111,112,101,110]],[[115,116,111,112,115],[111,112,101,110],[115]],[[110,111,115,117,99,104]]]
def MS:List (List (List Nat)):=MS5++[[[115,116,111,112],[115,116,111,112]],[[97,98,99,100,101,102,103,104]],EV]
def lD(ms:List (List Nat)):D:=.lst (ms.map .str)
abbrev EQ3(S:D)(a1:OD)(n:Int)(T:D)(x:List Nat)(a5:OD)(Q:D)(t:List Nat)(a12 a13 a14:OD):Ev.Env:=JZ S a1 n T x a5 Q t (Zf (lD EV)) (Zf (lD [[111,112,101,110]])) (Zf (lD [[115,116,111,112,115]])) a12 a13 a14
theorem agg:(MS.all mOk&&[[[115,116,111,112]],[[115]],[[111,112,101,110]],[[115,116,111,112,115]]].all mOk)=true:=by decide +kernel
section
variable{L:List Rn}(hL:Stk L){S:D}{a1:OD}
include hL
theorem turn(n:Int)(a5 a6 a7 a8 a9 a10 a11 a12 a13 a14:OD):∃q n' b7 b8 b9 b10 W8 W7 Mx,Rul (L.map λr:Rn=>r.1) q/\z7 (EL S a1 (Zl [.int n]) (tL L) (xL L) a5 a6 a7 a8 a9 a10 a11 a12 a13 a14) = .nx (EL S a1 (Zl [.int n']) (tL L) (xL L) a5 (Zf (cY q)) b7 b8 b9 b10 W8 W7 Mx a14):=by
 obtain⟨q,n',h1,hR⟩:=rule n _ hL.HD;have hl4:L.length<=1000:=Qqj (zV hL) (by decide);have ht:=nG hR.o;have hsh:=show_rule hR.o;have htl:=rm hR.o;obtain⟨hb,hq⟩:=S8 hR.o L;have hok:ok L (txt q)=true:=by unfold ok;rw[hb,hq];exact hR.i
 have hrd:=read_rule hl4 (show(txt q).length<=900 by omega) hok;have hir:=is_rule (sounds_of hl4) (T5 hl4 (t:=txt q) (by omega));rw[hq] at hrd hir;rw[hR.i] at hir;rw[<-xq] at hrd hir;have hne:=V5 (cq q);rw[<-xq] at hne;have mo:=agg;rw[Qwj] at mo;have hbr:∀ma ∈ [[[115,116,111,112]],[[115]],[[111,112,101,110]],[[115,116,111,112,115]]],∀mb ∈ [[[115,116,111,112]],[[115]],[[111,112,101,110]],[[115,116,111,112,115]]],fU [.tup (L.map row),cY q,lD ma,lD mb]=some (.bl true):=λma ha mb hb=>Mu hL hR (Qq8.mp mo.2 ma ha) (Qq8.mp mo.2 mb hb);have hmr:∀ms∈MS,gP [.tup (L.map row),cY q,lD ms]=some (.bl true):=λms h=>Ja hL hR (Qq8.mp mo.1 ms h);have hit:itD (cY q)=itD (cY q):=rfl;have hgt:vh "tuple" (cY q)=some (.bl true):=rfl;unfold tL xL;generalize hT:D.tup (L.map row)=T at *;generalize hX:(L.map λr:Rn=>r.1)=x at *;generalize hQ:cY q=Q at *;have l1:∀(a10 a11:OD),j4 (eY 2 (bG (au 10) (bG (au 11) eZ))) uX [.tup [lD [[115,116,111,112]],lD [[115]]],.tup [lD [[111,112,101,110]],lD [[115,116,111,112,115]]]] (JZ S a1 n' T x a5 Q (txt q) (Zf (lD EV)) a10 a11 a12 a13 a14) = .nx (EQ3 S a1 n' T x a5 Q (txt q) a12 a13 a14):=λa10 a11=>by
  have lb:∀ma mb,fU [T,Q,lD ma,lD mb]=some (.bl true)->uX (JZ S a1 n' T x a5 Q (txt q) (Zf (lD EV)) (Zf (lD ma)) (Zf (lD mb)) a12 a13 a14) = .nx (JZ S a1 n' T x a5 Q (txt q) (Zf (lD EV)) (Zf (lD ma)) (Zf (lD mb)) a12 a13 a14):=λma mb h=>by
   unfold uX;exact(eO (fW (b:=true) (cI (aN (ds:=[T,Q,lD ma,lD mb]) rfl h)))).trans rfl
  refine(jQ (e1:=JZ S a1 n' T x a5 Q (txt q) (Zf (lD EV)) (Zf (lD [[115,116,111,112]])) (Zf (lD [[115]])) a12 a13 a14) rfl (lb _ _ (hbr _ (by decide) _ (by decide)))).trans ?_;exact(jQ (e1:=EQ3 S a1 n' T x a5 Q (txt q) a12 a13 a14) rfl (lb _ _ (hbr _ (by decide) _ (by decide)))).trans rfl
 obtain⟨e',l2,Mx,he'⟩:=Aj (g:=au 13) (b:=z8) (λenv=>∃Mx,env=EQ3 S a1 n' T x a5 Q (txt q) (Zf (.lst (MS.map lD))) Mx a14) (MS.map lD)
  (λd hd env ⟨Mx,he⟩=>by
   subst he;obtain⟨ms,hms,rfl⟩:=Qw0.mp hd;refine⟨EQ3 S a1 n' T x a5 Q (txt q) (Zf (.lst (MS.map lD))) (Zf (lD ms)) a14,EQ3 S a1 n' T x a5 Q (txt q) (Zf (.lst (MS.map lD))) (Zf (lD ms)) a14,rfl,?_,_,rfl⟩;unfold z8;exact(eO (fW (b:=true) (cI (aN (ds:=[T,Q,lD ms]) rfl (hmr ms hms))))).trans rfl)
  (EQ3 S a1 n' T x a5 Q (txt q) (Zf (.lst (MS.map lD))) a13 a14) ⟨_,rfl⟩
 subst he';refine⟨q,n',Zs (txt q),Zf Q,Zf (lD EV),Zf (lD [[111,112,101,110]]),Zf (lD [[115,116,111,112,115]]),(Zf (.lst (MS.map lD))),Mx,hR,?_⟩;rw[hQ];unfold z7;refine(aD (e:=EQ S a1 n' T x a5 Q a7 a8 a9 a10 a11 a12 a13 a14) ?_).trans ?_
 ·exact bZ (jq (e1:=EL S a1 (Zl [.int n]) (Zf T) (Zs x) a5 a6 a7 a8 a9 a10 a11 a12 a13 a14) rfl rfl rfl h1) rfl
 refine(aD (e:=EQ S a1 n' T x a5 Q (Zs (txt q)) a8 a9 a10 a11 a12 a13 a14) ?_).trans ?_
 ·exact bZ (e:=EQ S a1 n' T x a5 Q a7 a8 a9 a10 a11 a12 a13 a14) (aN (ds:=[Q]) rfl ht) rfl
 refine(aD (e:=JZ S a1 n' T x a5 Q (txt q) a9 a10 a11 a12 a13 a14) ?_).trans ?_
 ·exact bZ (e:=EQ S a1 n' T x a5 Q (Zs (txt q)) a8 a9 a10 a11 a12 a13 a14) (aN (ds:=[T,.str (txt q)]) rfl hrd) rfl
 refine(aD (e:=JZ S a1 n' T x a5 Q (txt q) a9 a10 a11 a12 a13 a14) ?_).trans ?_
 ·refine(eO (e:=JZ S a1 n' T x a5 Q (txt q) a9 a10 a11 a12 a13 a14) ?_).trans rfl;have c1:fB (az Bp (aB fZ (Zv 6 ak)) (bw 7)) (JZ S a1 n' T x a5 Q (txt q) a9 a10 a11 a12 a13 a14) = .ok false (JZ S a1 n' T x a5 Q (txt q) a9 a10 a11 a12 a13 a14):=cI (aM (x:=.str (txt q)) (y:=.str (txt q)) (e1:=JZ S a1 n' T x a5 Q (txt q) a9 a10 a11 a12 a13 a14) (aN (ds:=[Q]) rfl hsh) rfl (by rw[abd,beq_self_eq_true];rfl));have c2:fB (aA Bp 8 (bw 6)) (JZ S a1 n' T x a5 Q (txt q) a9 a10 a11 a12 a13 a14) = .ok false (JZ S a1 n' T x a5 Q (txt q) a9 a10 a11 a12 a13 a14):=cI (iC (x:=Q) (y:=Q) rfl rfl rfl hne);refine(iQ c1).trans ((iQ c2).trans ?_);exact fW (b:=true) (cI (yP (x:=Q) rfl hgt))
 refine(aD (e:=JZ S a1 n' T x a5 Q (txt q) a9 a10 a11 a12 a13 a14) ?_).trans ?_
 ·exact(eO (e:=JZ S a1 n' T x a5 Q (txt q) a9 a10 a11 a12 a13 a14) (cI (aM (x:=.bl true) (y:=.bl true) (e1:=JZ S a1 n' T x a5 Q (txt q) a9 a10 a11 a12 a13 a14) (aN (ds:=[T,Q]) rfl hir) rfl rfl))).trans rfl
 refine(aD (e:=JZ S a1 n' T x a5 Q (txt q) (Zf (lD EV)) a10 a11 a12 a13 a14) ?_).trans ?_
 ·rfl
 refine(aD (e:=EQ3 S a1 n' T x a5 Q (txt q) a12 a13 a14) ?_).trans ?_
 ·exact(fC (ds:=[.tup [lD [[115,116,111,112]],lD [[115]]],.tup [lD [[111,112,101,110]],lD [[115,116,111,112,115]]]]) rfl).trans (l1 a10 a11)
 refine(aD (e:=EQ3 S a1 n' T x a5 Q (txt q) (Zf (.lst (MS5.map lD))) a13 a14) ?_).trans ?_
 ·rfl
 refine(aD (e:=EQ3 S a1 n' T x a5 Q (txt q) (Zf (.lst (MS.map lD))) a13 a14) ?_).trans ?_
 ·rfl
 exact(fC (ds:=MS.map lD) rfl).trans l2
end
theorem HY{L:List Rn}(hL:Stk L){q:QR}(hR:Rul (L.map λr:Rn=>r.1) q){a o:Nat}(ha:a∈L.map λr:Rn=>r.1)(ho:o ∉ L.map λr:Rn=>r.1)(hO:o∈OUT):∀t∈zL q++zK a o,cJ [.tup (L.map row),.str t,.int 0]=some (.bl true):=λt ht=>by
 have hl4:L.length<=1000:=Qqj (zV hL) (by decide);rcases Qw4.mp ht with h|h
 ·refine wJ hl4 ?_ (YS hL.HD hR.o hR.n t h);have hT:=rm hR.o;have hH:=Oq hR.o;have hU:=S5 (CP hR.o);have hr:=(ni hR.o.r).1;have hl:=(ni hR.o.l).1;have hrs:(rst q).length<=13:=by unfold rst;rw[Qqq,Qqq];show _+3+_<=13;omega
  unfold zL at h;simp only[Qq1,Qwz,Qz4] at h;rcases h with rfl|rfl|rfl|rfl|rfl|rfl|rfl|rfl|rfl|rfl|rfl|rfl|rfl|rfl|rfl|rfl|rfl|rfl|rfl<;>(try simp only[Qqq,Qq0,Qz8,Qx0])<;>omega
 ·have:=YQ hL ha ho hO t h;exact wJ hl4 (by omega) this.1
theorem Vw(ns:List Int)(hl:ns.length<=63)(hb:M6 ns)(k:Int)(h0:0<=k)(h1:k<=400)(b2 b3 b4 b5 b6 b7 b8 b9 b10 W8 W7 Mx RP:OD) :
  ∃c2 c3 c4 c5 c6 c7 c8 c9 Ww Wv c12 Wu,uW (EL (.arr (ns.map .int)) (Zf (.int k)) b2 b3 b4 b5 b6 b7 b8 b9 b10 W8 W7 Mx RP) = .nx (EL (.arr (ns.map .int)) (Zf (.int k)) c2 c3 c4 c5 c6 c7 c8 c9 Ww Wv c12 Wu RP):=by
 obtain⟨p,hp⟩:=yo.pack ns hl hb k h0 (by omega);obtain⟨L,n,hS,hst⟩:=stock p;have ail:pg [.tup (L.map row)]=some (.str (L.map λr:Rn=>r.1)):=by
  have h4:=uh (lo:=1) (n:=3) (it:=dR (aK 0)) (g:=eY 2 (bG (au 1) (bG (au 2) eZ))) (c:=cV) (e:=aK 1) (env:=[(Zf (.tup (L.map row)))]) L row (λr=>[Zs [r.1],(Zf (.tup (r.2.map .str)))]) (λ_=>true) (λr=>.str [r.1]) rfl rfl (λd hd=>by
   refine⟨rfl,λvs hv=>?_,rfl,λ_=>rfl⟩
   match vs,hv with
   | [_,_],_=>rfl) (Qqj (zV hS) (by decide))
  rw[List.filter_eq_self.mpr (λ_ _=>rfl)] at h4;have hj:=yo.join_eq (L.map λr:Rn=>r.1) (Gg hS.HD);unfold dI at hj;rw[Qxv] at hj;exact cT (cB (aM (x:=.str []) rfl h4 hj))
 obtain⟨a,x',hx⟩:∃a x',(L.map λr:Rn=>r.1)=a::x':=by
  have:=(lZ hS.HD).1;cases h:(L.map λr:Rn=>r.1) with
  | nil=>rw[h] at this;exact absurd this (by decide)
  | cons a x'=>exact⟨a,x',rfl⟩
 obtain⟨o,ho,hO,hon⟩:=Zj (x:=L.map λr:Rn=>r.1) (by rw[Qqk];exact zV hS);generalize hS0:D.arr (ns.map .int)=S at hp;obtain⟨q1,n1,d7,d8,d9,d10,d11,d12,d13,_,t1⟩:=turn hS (S:=S) (a1:=(Zf (.int k))) n (Zf (.int 0)) b6 b7 b8 b9 b10 W8 W7 Mx RP;obtain⟨q2,n2,f7,f8,f9,f10,f11,f12,f13,_,t2⟩:=turn hS (S:=S) (a1:=(Zf (.int k))) n1 (Zf (.int 1)) (Zf (cY q1)) d7 d8 d9 d10 d11 d12 d13 RP;obtain⟨q,n3,g7,g8,g9,g10,g11,g12,g13,hR,t3⟩:=turn hS (S:=S) (a1:=(Zf (.int k))) n2 (Zf (.int 2)) (Zf (cY q2)) f7 f8 f9 f10 f11 f12 f13 RP;rw[hx] at ho;have hod:=Q4 hR.o ho;rw[<-hx] at hod;have hall:=HY hS hR (a:=a) (o:=o) (by rw[hx];exact Qqv ..) hon hO;have aim:(zL q++zK a o).length=88:=rfl;refine⟨(Zl [.int n3]),(Zf (.tup (L.map row))),Zs (L.map λr:Rn=>r.1),Zf (.int 2),Zf (cY q),g7,g8,g9,g10,g11,g12,g13,?_⟩;unfold uW;refine(aD (e:=EL S (Zf (.int k)) (Zl [.int p]) b3 b4 b5 b6 b7 b8 b9 b10 W8 W7 Mx RP) ?_).trans ?_
 ·exact lL (i:=2) (aN (ds:=[S,.int k]) (e:=EL S (Zf (.int k)) b2 b3 b4 b5 b6 b7 b8 b9 b10 W8 W7 Mx RP) rfl (by rw[YC];exact hp))
 refine(aD (e:=EL S (Zf (.int k)) (Zl [.int n]) (Zf (.tup (L.map row))) b4 b5 b6 b7 b8 b9 b10 W8 W7 Mx RP) ?_).trans ?_
 ·exact bZ (jq (e1:=EL S (Zf (.int k)) (Zl [.int p]) b3 b4 b5 b6 b7 b8 b9 b10 W8 W7 Mx RP) rfl rfl rfl hst) rfl
 refine(aD (e:=EL S (Zf (.int k)) (Zl [.int n]) (tL L) (xL L) b5 b6 b7 b8 b9 b10 W8 W7 Mx RP) ?_).trans ?_
 ·exact bZ (e:=EL S (Zf (.int k)) (Zl [.int n]) (Zf (.tup (L.map row))) b4 b5 b6 b7 b8 b9 b10 W8 W7 Mx RP) (aN (ds:=[.tup (L.map row)]) rfl ail) rfl
 refine(aD (e:=EL S (Zf (.int k)) (Zl [.int n3]) (tL L) (xL L) (Zf (.int 2)) (Zf (cY q)) g7 g8 g9 g10 g11 g12 g13 RP) ?_).trans ?_
 ·exact(fC (ds:=[.int 0,.int 1,.int 2]) rfl).trans ((jQ rfl t1).trans ((jQ rfl t2).trans ((jQ rfl t3).trans rfl)))
 generalize hE:EL S (Zf (.int k)) (Zl [.int n3]) (tL L) (xL L) (Zf (.int 2)) (Zf (cY q)) g7 g8 g9 g10 g11 g12 g13 RP=env;have hlc:Jc env = .ok (.lst ((zL q++zK a o).map λt=>.bl true)) env:=by refine kY (lo:=15) (n:=16) (aH:=env) (zL q++zK a o) D.str (λt=>.bl true) (ph (aN (ds:=[cY q,.str (L.map λr:Rn=>r.1)]) (by rw[<-hE];rfl) hod) rfl) (by rw[<-hE];rfl) rfl (λt ht=>?_) (by rw[aim];decide);exact aN (ds:=[.tup (L.map row),.str t,.int 0]) (by rw[<-hE];rfl) (hall t ht)
 have hga:=Dy (λ_=>true) (zL q++zK a o);rw[Qq8.mpr (λ_ _=>rfl)] at hga;exact(eO (fW (b:=true) (cI (aN (aJ hlc bQ) hga)))).trans rfl
def q4:QR:=⟨[97,108,111,110,103],[([97],[98]),([98],[]),([99],[100]),([100],[97])],some [35,97],none⟩
def L4:List Rn:=[(97,[]),(98,[]),(99,[]),(100,[])]
theorem aaM:W9 q4:=by
 refine⟨.inr rfl,by decide,λp hp=>?_,λz e=>?_,λz e=>by cases e⟩
 ·have:p=([97],[98])\/p=([98],[])\/p=([99],[100])\/p=([100],[97]):=by simpa[q4] using hp
  have l:∀c,97<=c->c<=122->Ss [c]:=λc h1 h2=>.inr ⟨c,rfl,h1,h2⟩;rcases this with rfl|rfl|rfl|rfl
  ·exact⟨l _ (by decide) (by decide),l _ (by decide) (by decide)⟩
  ·exact⟨l _ (by decide) (by decide),.inl rfl⟩
  ·exact⟨l _ (by decide) (by decide),l _ (by decide) (by decide)⟩
  ·exact⟨l _ (by decide) (by decide),l _ (by decide) (by decide)⟩
 ·cases e;refine⟨by decide,by decide,λc hc=>?_⟩;have:c=35\/c=97:=by simpa using hc
  rcases this with rfl|rfl
  ·exact .inl rfl
  ·exact .inr ⟨by decide,by decide⟩
theorem t4:txt q4=[97,108,111,110,103,32,97,62,98,32,98,62,48,32,99,62,100,32,100,62,97,32,47,32,35,97,32,95,32,42]:=by decide +kernel
theorem ok4:ok L4 (txt q4)=true:=by decide +kernel
theorem T7(T d:D)(h:d ∈ [.non,.int 7,.bl true,.tup [],.lst [.str [111,110,99,101,32,97,62,48,32,47,32,42,32,95,32,42]],.dct []]):fY [T,d]=some (.tup [.non]):=by simp only[Qq1,Qwz,Qz4] at h;rcases h with rfl|rfl|rfl|rfl|rfl|rfl<;>rfl
theorem ZK{a:di}{env e:Ev.Env}{ds ys:List D}(h:a env = .ok ds e)(h':qy ds=some ys):fV a env = .ok ys e:=by
 unfold fV;rw[h];show fJ (qy ds) e=_;rw[h']
 rfl
theorem S9(ns:List Int)(hl:ns.length<=63)(hb:M6 ns):O4 [.arr (ns.map .int)]=some (.bl true):=by
 have hlen:aB gJ (aa (bw 0) ak) (EL (.arr (ns.map .int)) none none none none none none none none none none none none none none) = .ok (.int (ns.length:Int)) (EL (.arr (ns.map .int)) none none none none none none none none none none none none none none):=by show R.ok (D.int ((ns.map D.int).length:Int)) _=_;rw[Qqk]
 obtain⟨ds,hds,hk⟩:∃ds,fV (aa (Zi 0) (aa (aB Ru (aa (Zi 1) (aa (aB Rt (aa (aB gJ (aa (bw 0) ak)) (aa (Zi 16) ak))) ak))) (aa (Zi 2) ak))) (EL (.arr (ns.map .int)) none none none none none none none none none none none none none none) = .ok ds (EL (.arr (ns.map .int)) none none none none none none none none none none none none none none)/\∀d∈ds,∃k:Int,d = .int k/\0<=k/\k<=400:=by
  generalize hE:EL (.arr (ns.map .int)) none none none none none none none none none none none none none none=env at hlen ⊢;have a1:aa (Zi 0) (aa (aB Ru (aa (Zi 1) (aa (aB Rt (aa (aB gJ (aa (bw 0) ak)) (aa (Zi 16) ak))) ak))) (aa (Zi 2) ak)) env = .ok [.int 0,.int (if (if (16:Int)<ns.length then 16 else (ns.length:Int)) > 1 then (if (16:Int)<ns.length then 16 else (ns.length:Int)) else 1),.int 2] env:=
   aJ (d:=.int 0) (by rfl) (aJ (aN (ds:=[.int 1,.int (if (16:Int)<ns.length then 16 else (ns.length:Int))]) (aJ (d:=.int 1) (by rfl) (aJ (aN (ds:=[.int (ns.length:Int),.int 16]) (aJ hlen (by rfl)) (by rfl)) bQ)) (by rfl)) (by rfl))
  generalize hm:(if (if (16:Int)<ns.length then 16 else (ns.length:Int)) > 1 then (if (16:Int)<ns.length then 16 else (ns.length:Int)) else 1)=m at a1;have hm1:1<=m/\m<=16:=by rw[<-hm];split<;>split<;>omega
  obtain⟨j,rfl⟩:∃j:Nat,m=(j:Int):=⟨m.toNat,by omega⟩;obtain⟨ds,h1,h2⟩:=ace (j:=j) (by omega);exact⟨ds,ZK a1 h1,h2⟩
 obtain⟨e',f1,c1,c2,c3,c4,c5,c6,c7,c8,c9,Ww,Wv,c12,Wu,rfl⟩:=Aj (g:=au 1) (b:=uW) (λenv=>∃c1 c2 c3 c4 c5 c6 c7 c8 c9 Ww Wv c12 Wu,env=EL (.arr (ns.map .int)) c1 c2 c3 c4 c5 c6 c7 c8 c9 Ww Wv c12 Wu none) ds
  (λd hd env ⟨c1,c2,c3,c4,c5,c6,c7,c8,c9,Ww,Wv,c12,Wu,he⟩=>by
   subst he;obtain⟨k,rfl,h0,h1⟩:=hk d hd;obtain⟨x2,x3,x4,x5,x6,x7,x8,x9,x10,x11,x12,x13,hb⟩:=Vw ns hl hb k h0 h1 c2 c3 c4 c5 c6 c7 c8 c9 Ww Wv c12 Wu none;exact⟨_,_,rfl,hb,_,_,_,_,_,_,_,_,_,_,_,_,_,rfl⟩)
  (EL (.arr (ns.map .int)) none none none none none none none none none none none none none none) ⟨_,_,_,_,_,_,_,_,_,_,_,_,_,rfl⟩
 generalize D.arr (ns.map .int)=S at hds f1 ⊢;have hsh:=show_rule aaM;have hrd:=read_rule (L:=L4) (by decide) (t:=txt q4) (by rw[t4];decide) ok4;rw[(S8 aaM L4).2] at hrd;have hne:=V5 (cq q4);have hrn:∀d ∈ [D.non,.int 7,.bl true,.tup [],.lst [.str [111,110,99,101,32,97,62,48,32,47,32,42,32,95,32,42]],.dct []],cJ [.tup [.tup [.str [97],.tup []]],d,.non]=some (.bl true):=λd hd=>refused (T7 _ d hd) (.inl rfl);refine cT (env:=EL S c1 c2 c3 c4 c5 (Zf (cY q4)) c7 c8 c9 Ww Wv c12 Wu (Zf (.tup (L4.map row)))) ?_;unfold abp;refine(aD (e:=EL S c1 c2 c3 c4 c5 c6 c7 c8 c9 Ww Wv c12 Wu none) ((fC hds).trans f1)).trans ?_;refine(aD (e:=EL S c1 c2 c3 c4 c5 c6 c7 c8 c9 Ww Wv c12 Wu (Zf (.tup (L4.map row)))) ?_).trans ?_
 ·rfl
 refine(aD (e:=EL S c1 c2 c3 c4 c5 (Zf (cY q4)) c7 c8 c9 Ww Wv c12 Wu (Zf (.tup (L4.map row)))) ?_).trans ?_
 ·rfl
 generalize hE:EL S c1 c2 c3 c4 c5 (Zf (cY q4)) c7 c8 c9 Ww Wv c12 Wu (Zf (.tup (L4.map row)))=env;have s1:aB fZ (Zv 6 ak) env = .ok (.str (txt q4)) env:=aN (ds:=[cY q4]) (by rw[<-hE];rfl) hsh;refine(aD (e:=env) ?_).trans ?_
 ·refine(eO (e:=env) ?_).trans rfl;have g1:fB (az Bp (aB fZ (Zv 6 ak)) (Zw [97,108,111,110,103,32,97,62,98,32,98,62,48,32,99,62,100,32,100,62,97,32,47,32,35,97,32,95,32,42])) env = .ok false env:=by
   refine cI (aM (e1:=env) s1 rfl ?_);rw[abd,t4,beq_self_eq_true]
   rfl
  refine(iQ g1).trans (cI (aM (x:=qD (cq q4)) (y:=qD (cq q4)) (e1:=env) (aN (ds:=[.tup (L4.map row),.str (txt q4)]) (aJ (d:=.tup (L4.map row)) (e1:=env) (by rw[<-hE];rfl) (aJ s1 bQ)) hrd) ?_ hne));rw[<-hE,<-xq]
  rfl
 have hlc:Jb env = .ok (.lst ([D.non,.int 7,.bl true,.tup [],.lst [.str [111,110,99,101,32,97,62,48,32,47,32,42,32,95,32,42]],.dct []].map λ_=>.bl true)) env:=by refine kY (lo:=15) (n:=16) (aH:=env) [D.non,.int 7,.bl true,.tup [],.lst [.str [111,110,99,101,32,97,62,48,32,47,32,42,32,95,32,42]],.dct []] id (λ_=>.bl true) (by rw[List.map_id];rfl) (by rw[<-hE];rfl) rfl (λd hd=>?_) (by decide);refine aN (ds:=[.tup [.tup [.str [97],.tup []]],d,.non]) ?_ (hrn d hd);simp only[Qq1,Qwz,Qz4] at hd;rw[<-hE];rcases hd with rfl|rfl|rfl|rfl|rfl|rfl<;>rfl
 exact cB (aN (aJ hlc bQ) rfl)
open PySem PySem.Spec PyProof.Rows L2 Ev
theorem p6{K:Fg}{cH dD xi:Addr}{abG x_q:Str}{x_N:Addr}{abT Sx:List Value}{abC:List Str}{abV:Bool}{SN:Option Bool}{abR:Option Addr}{abP abO abN abM abL:Option Value}{abF abK SJ abD Hi abS:Value}{abE abU:Option Addr}{Sy:Array (Option Value)}(dW:PySem.W.nsIn K mainGlobals "NoText" = some (some (.ref cH)))(xo:K.lookup cH=some (excClassObj abG x_q cH x_N abT (.ref dD::XC.Z7) true abC Sx abV SN abR abP abO abN abM abL "ValueError.__new__"))(Kc:PySem.W.findIn K (.ref cH) "__setattr__" = some (some (.builtin "object.__setattr__")))(Kd:PySem.W.findIn K (.ref cH) "part" = some none)(xu:PySem.W.excIn K dD [.type "ValueError",.type "Exception",.type "BaseException",.type "object"] "ValueError.__new__" = true)(Kf:PySem.W.findIn K (.ref cH) "__init__" = some (some (.ref xi)))(Ka:PySem.W.typeIn K (.ref xi)=some (.type "function"))(Kg:K.lookup xi=some ⟨abF,abE,.func (PySem.W.fnOf "__init__" "NoText.__init__" (fL qw) (cL qw) (aO qw) .none abK SJ abD abU Hi abS),Sy⟩)(Kh:PySem.W.codeIn K Hi "NoText.__init__" = true)(Ke:PySem.W.keepIn K (.ref xi)=true)(dm:XC.Cl K cH):XG K "NoText" "part" "NoText.__init__" qw cH dD xi:=
 ⟨dW,⟨_,_,_,_,_,_,_,_,_,_,_,_,_,_,xo⟩,dm,Kc,Kd,xu,Kf,Ka,⟨_,_,_,_,_,_,_,_,_,Kg,Kh⟩,Ke⟩
theorem all_mk{P:Program}{w:World}{K:Fg}{h:Heap}{mg:Str->Option Value}{fa:Addr}(X:K.In h)(G:h.Ns mainGlobals mg)(hfa:mg "law" = some (.ref fa))
  {JQ JP Bc JN Bb cH dD DP:Addr} {xi:Addr} {abG x_q:Str} {x_N:Addr} {abT Sx:List Value} {abC:List Str} {abV:Bool} {SN:Option Bool} {abR:Option Addr} {abP abO abN abM abL:Option Value} {abF abK SJ abD Hi abS:Value} {abE abU:Option Addr} {Sy:Array (Option Value)} {KR:Tok} {ab0:Tok} {KQ:Tok} {Ou:Addr} {Zy:Nat} {V1:Array (Option Value)} {V0 VV:Tok}
  (uv:PySem.W.nsIn K mainGlobals "ValueError" = some none) (aaC:PySem.W.nsIn K mainGlobals "all" = some none) (Sw:PySem.W.nsIn K mainGlobals "bool" = some none) (Hf:PySem.W.nsIn K mainGlobals "divmod" = some none) (ur:PySem.W.nsIn K mainGlobals "isinstance" = some none) (aaB:PySem.W.nsIn K mainGlobals "len" = some none) (Sv:PySem.W.nsIn K mainGlobals "list" = some none) (aaA:PySem.W.nsIn K mainGlobals "max" = some none) (aaz:PySem.W.nsIn K mainGlobals "min" = some none) (M8:PySem.W.nsIn K mainGlobals "range" = some none) (aay:PySem.W.nsIn K mainGlobals "set" = some none) (Hc:PySem.W.nsIn K mainGlobals "sorted" = some none) (aax:PySem.W.nsIn K mainGlobals "str" = some none) (aaw:PySem.W.nsIn K mainGlobals "sum" = some none) (M7:PySem.W.nsIn K mainGlobals "tuple" = some none) (qM:∀d:D,PySem.W.kitOne K (.type (S7 d)) (.type "bool")=some (qN d "bool")) (rH:∀d:D,PySem.W.kitOne K (.type (S7 d)) (.type "str")=some (qN d "str")) (ik:∀d:D,PySem.W.kitOne K (.type (S7 d)) (.type "tuple")=some (qN d "tuple")) (zQ:PySem.W.nsIn K mainGlobals "NoCall" = some (some (.ref JQ))) (zP:PySem.W.nsIn K mainGlobals "NoKept" = some (some (.ref JP))) (tZ:PySem.W.nsIn K mainGlobals "NoNumber" = some (some (.ref Bc))) (zO:PySem.W.nsIn K mainGlobals "NoSide" = some (some (.ref JN))) (tY:PySem.W.nsIn K mainGlobals "NoSource" = some (some (.ref Bb))) (dW:PySem.W.nsIn K mainGlobals "NoText" = some (some (.ref cH))) (oZ:PySem.W.nsIn K mainGlobals "SoundError" = some (some (.ref dD))) (wW:PySem.W.nsIn K mainGlobals "TooMany" = some (some (.ref DP))) (xo:K.lookup cH=some (excClassObj abG x_q cH x_N abT (.ref dD::XC.Z7) true abC Sx abV SN abR abP abO abN abM abL "ValueError.__new__")) (Kc:PySem.W.findIn K (.ref cH) "__setattr__" = some (some (.builtin "object.__setattr__"))) (Kd:PySem.W.findIn K (.ref cH) "part" = some none) (xu:PySem.W.excIn K dD [.type "ValueError",.type "Exception",.type "BaseException",.type "object"] "ValueError.__new__" = true) (Kf:PySem.W.findIn K (.ref cH) "__init__" = some (some (.ref xi))) (Ka:PySem.W.typeIn K (.ref xi)=some (.type "function")) (Kg:K.lookup xi=some ⟨abF,abE,.func (PySem.W.fnOf "__init__" "NoText.__init__" (fL qw) (cL qw) (aO qw) .none abK SJ abD abU Hi abS),Sy⟩) (Kh:PySem.W.codeIn K Hi "NoText.__init__" = true) (Ke:PySem.W.keepIn K (.ref xi)=true) (dm:XC.Cl K cH) (m7:XC.Cl K dD) (mZ:PySem.W.typeIn K (.ref dD)=some (.type "type")) (m6:PySem.W.mroIn K cH (.ref dD)=some true) (vU:PySem.W.kitOne K (.ref cH) (.ref JQ)=some false) (vR:PySem.W.kitOne K (.ref cH) (.ref JP)=some false) (pZ:PySem.W.kitOne K (.ref cH) (.ref Bc)=some false) (vQ:PySem.W.kitOne K (.ref cH) (.ref JN)=some false) (pY:PySem.W.kitOne K (.ref cH) (.ref Bb)=some false) (vP:PySem.W.kitOne K (.ref cH) (.ref cH)=some true) (sS:PySem.W.kitOne K (.ref cH) (.ref DP)=some false) (m8:PySem.W.kitOne K (.ref cH) (.type "ValueError")=some true) (t8:PySem.W.nsIn K mainGlobals "ALL_FITS" = some (some (.str "*" KR))) (Mg:PySem.W.nsIn K mainGlobals "EDGE" = some (some (.str "#" ab0))) (t7:PySem.W.nsIn K mainGlobals "NO_SOUND" = some (some (.str "0" KQ))) (Mf:PySem.W.nsIn K mainGlobals "WAYS" = some (some (.ref Ou))) (lA:K.lookup Ou=some ⟨.type "tuple",none,.seq #[.str "once" V0,.str "along" VV] Zy,V1⟩) (PB:FA K "rises" Fp) (Ed:FA K "is_pair" wH) (xY:FA K "sounds_of" qe) (xZ:FA K "sounds_by" qg) (pN:FA K "changes_sound" kE) (sH:FA K "puts_one_in" nq) (sO:FA K "are_changes" nC) (yj:FA K "are_signs" qx) (Ec:FA K "is_rule" wG) (ye:FA K "need_text" ql) (vH:FA K "show_sound" oM) (vI:FA K "show_signs" oN) (yc:FA K "show_rule" qi) (vJ:FA K "read_sound" oO) (vK:FA K "read_signs" oR) (vL:FA K "read_parts" oU) (yd:FA K "read_rule" qj) (yh:FA K "_law_mixed" qu) (Bk:FA K "_law_pack" tM) (Bg:FA K "_law_take" tD) (mz:FA K "_law_drawn_sounds" iT) (yf:FA K "_law_stock" qm) (vM:FA K "_law_sounds" oW) (yg:FA K "_law_signs" qt) (sJ:FA K "_law_changes" nA) (Bj:FA K "_law_rule" tK) (oF:FA K "_law_signs_text" jC) (pL:FA K "_law_rule_text" kj) (Bh:FA K "_law_sort" tH) (sI:FA K "_law_refused" nu) (mX:FA K "_law_marks_right" jg) (oG:FA K "_law_both_right" jD) (Eb:FA K "_law_out" wF) (pM:FA K "_law_odd_rules" km) (abr:FA K "law" T3) :
  ∃fd:FuncData,(∀(s:Shared) (v:Value),BindsTo s fd ⟨[v],[]⟩ [("_law_script",v)])/\∀base:Heap,K.In base->base.Ns mainGlobals mg->mJ P w K mg base Cu 8 fa fd ["_law_script"] (pH K 1 O4):=
 abr.law X G hfa (λs v=>.of_eq rfl) λbase F=>aed ⟨tW X G uv,
  tW X G aaC,
  tW X G Sw,
  tW X G Hf,
  tW X G ur,
  tW X G aaB,
  tW X G Sv,
  tW X G aaA,
  tW X G aaz,
  tW X G M8,
  tW X G aay,
  tW X G Hc,
  tW X G aax,
  tW X G aaw,
  tW X G M7,
  qM,
  rH,
  ik,
  XG.raises (p6 dW xo Kc Kd xu Kf Ka Kg Kh Ke dm) X G (fun|[_,_],_=>rfl) XJ rfl,
  XG.part (p6 dW xo Kc Kd xu Kf Ka Kg Kh Ke dm),
  XG.below (p6 dW xo Kc Kd xu Kf Ka Kg Kh Ke dm) X G oZ m7 mZ m6,
  XG.isx (p6 dW xo Kc Kd xu Kf Ka Kg Kh Ke dm) X G zQ vU,
  XG.isx (p6 dW xo Kc Kd xu Kf Ka Kg Kh Ke dm) X G zP vR,
  XG.isx (p6 dW xo Kc Kd xu Kf Ka Kg Kh Ke dm) X G tZ pZ,
  XG.isx (p6 dW xo Kc Kd xu Kf Ka Kg Kh Ke dm) X G zO vQ,
  XG.isx (p6 dW xo Kc Kd xu Kf Ka Kg Kh Ke dm) X G tY pY,
  XG.isx (p6 dW xo Kc Kd xu Kf Ka Kg Kh Ke dm) X G dW vP,
  XG.isx (p6 dW xo Kc Kd xu Kf Ka Kg Kh Ke dm) X G wW sS,
  XG.isB (p6 dW xo Kc Kd xu Kf Ka Kg Kh Ke dm) m8,
  Gh X G t8 (by decide +kernel) (by decide),
  Gh X G Mg (by decide +kernel) (by decide),
  Gh X G t7 (by decide +kernel) (by decide),
  V2 X G Mf lA (.str (by decide +kernel) (by decide)) (.str (by decide +kernel) (by decide)),
  PB.at X G (fun|[_],_=>rfl),
  Ed.at X G (fun|[_],_=>rfl),
  xY.at X G (fun|[_],_=>rfl),
  xZ.at X G (fun|[_,_],_=>rfl),
  pN.at X G (fun|[_,_],_=>rfl),
  sH.at X G (fun|[_,_],_=>rfl),
  sO.at X G (fun|[_,_],_=>rfl),
  yj.at X G (fun|[_,_],_=>rfl),
  Ec.at X G (fun|[_,_],_=>rfl),
  ye.at X G (fun|[_],_=>rfl),
  vH.at X G (fun|[_],_=>rfl),
  vI.at X G (fun|[_],_=>rfl),
  yc.at X G (fun|[_],_=>rfl),
  vJ.at X G (fun|[_],_=>rfl),
  vK.at X G (fun|[_,_],_=>rfl),
  vL.at X G (fun|[_,_],_=>rfl),
  yd.at X G (fun|[_,_],_=>rfl),
  yh.at X G (fun|[_],_=>rfl),
  Bk.at X G (fun|[_,_],_=>rfl),
  Bg.at X G (fun|[_,_],_=>rfl),
  mz.at X G (fun|[_],_=>rfl),
  yf.at X G (fun|[_],_=>rfl),
  vM.at X G (fun|[_],_=>rfl),
  yg.at X G (fun|[_,_],_=>rfl),
  sJ.at X G (fun|[_,_],_=>rfl),
  Bj.at X G (fun|[_,_],_=>rfl),
  oF.at X G (fun|[_],_=>rfl),
  pL.at X G (fun|[_],_=>rfl),
  Bh.at X G (fun|[_],_=>rfl),
  sI.at X G (fun|[_,_,_],_=>rfl),
  mX.at X G (fun|[_,_,_],_=>rfl),
  oG.at X G (fun|[_,_,_,_],_=>rfl),
  Eb.at X G (fun|[_],_=>rfl),
  pM.at X G (fun|[_,_],_=>rfl)⟩ F
end mH
theorem PySem.W.Fast.tw11059602761891096599:True:=trivial
theorem PySem.W.Fast.tw11529575283521789337:True:=trivial
theorem PySem.W.Fast.tw1923982672166453138:True:=trivial
theorem PySem.W.Fast.tw17665043864324747744:True:=trivial
theorem PySem.W.Fast.tw2282277471720266562:True:=trivial
theorem PySem.W.Fast.tw5728745576205519175:True:=trivial
theorem PySem.W.Fast.tw10961146979007034928:True:=trivial
theorem PySem.W.Fast.tw9483165037189559465:True:=trivial
theorem PySem.W.Fast.tw4091993036146062504:True:=trivial
theorem PySem.W.Fast.tw9394408430321523553:True:=trivial
theorem PySem.W.Fast.tw12223209116878581090:True:=trivial
theorem PySem.W.Fast.tw9939182966704332298:True:=trivial
theorem PySem.W.Fast.tw12941251950676565285:True:=trivial
theorem PySem.W.Fast.tw4420966623777371586:True:=trivial
theorem PySem.W.Fast.tw11737869480118922295:True:=trivial
theorem PySem.W.Fast.tw18261279734160924325:True:=trivial
theorem PySem.W.Fast.tw13172134483797032939:True:=trivial
theorem PySem.W.Fast.tw15329236107908524830:True:=trivial
theorem PySem.W.Fast.tw8031493596532270914:True:=trivial
theorem PySem.W.Fast.tw3359083299016512190:True:=trivial
theorem PySem.W.Fast.tw7787416691333096718:True:=trivial
theorem PySem.W.Fast.tw351502684079844498:True:=trivial
theorem PySem.W.Fast.tw10332921965063811344:True:=trivial
theorem PySem.W.Fast.tw10677288757323256988:True:=trivial
theorem PySem.W.Fast.tw18014453723604741495:True:=trivial
theorem PySem.W.Fast.tw17394255343029216339:True:=trivial
theorem PySem.W.Fast.tw6659582955030960593:True:=trivial
theorem PySem.W.Fast.tw10915531332332055147:True:=trivial
theorem PySem.W.Fast.tw1782404287963931331:True:=trivial
theorem PySem.W.Fast.tw9968902380590658695:True:=trivial
theorem PySem.W.Fast.tw2158799918170891697:True:=trivial
theorem PySem.W.Fast.tw14594833698502875114:True:=trivial
theorem PySem.W.Fast.tw11131808678143933855:True:=trivial
theorem PySem.W.Fast.tw6071330813507400439:True:=trivial
theorem PySem.W.Fast.tw15680651143890576184:True:=trivial
theorem PySem.W.Fast.tw208144217014784328:True:=trivial
theorem PySem.W.Fast.tw7632118616799208158:True:=trivial
theorem PySem.W.Fast.tw14702079148517958579:True:=trivial
theorem PySem.W.Fast.tw12204139492885305594:True:=trivial
theorem PySem.W.Fast.tw9538758654194272251:True:=trivial
theorem PySem.W.Fast.tw919657462156385331:True:=trivial
theorem PySem.W.Fast.tw7506114717721030241:True:=trivial
theorem PySem.W.Fast.tw15503739738460122540:True:=trivial
theorem PySem.W.Fast.tw2981178477923925779:True:=trivial
theorem PySem.W.Fast.tw11305575694420410930:True:=trivial
theorem PySem.W.Fast.tw18246883704004992816:True:=trivial
theorem PySem.W.Fast.tw9389031777936699196:True:=trivial
theorem PySem.W.Fast.tw624689080991697935:True:=trivial
theorem PySem.W.Fast.tw9682918889868028887:True:=trivial
theorem PySem.W.Fast.tw11756554153026974324:True:=trivial
theorem PySem.W.Fast.tw3926821039407863810:True:=trivial
open PySem PySem.W PyProof.Rows
set_option maxRecDepth 100000 in
set_option maxHeartbeats 0 in
theorem PySem.Challenge.cw_soundrules_k73_rules_written_holds : PySem.Challenge.rw_soundrules_k73_rules_written.Holds := by
 w_on;o_law;k_head;(case hw=>w_witness2)
 k_fill
 refine Ev.ae9 (l:=PySem.Challenge.rw_soundrules_k73_rules_written) (k:=8) (x:="_law_script") (f:=mH.O4) rfl (by decide) rfl ⟨rfl,by decide,by decide⟩ (λw h Y=>PySem.W.kIn_of Y) mH.S9 ?F
 case F=>
  intro w mg fa h KX G hmg
  refine' mH.all_mk KX G hmg ?uv ?aaC ?Sw ?Hf ?ur ?aaB ?Sv ?aaA ?aaz ?M8 ?aay ?Hc ?aax ?aaw ?M7 ?qM ?rH ?ik ?zQ ?zP ?tZ ?zO ?tY ?dW ?oZ ?wW ?xo ?Kc ?Kd ?xu ?Kf ?Ka ?Kg ?Kh ?Ke ?dm ?m7 ?mZ ?m6 ?vU ?vR ?pZ ?vQ ?pY ?vP ?sS ?m8 ?t8 ?Mg ?t7 ?Mf ?lA ?PB ?Ed ?xY ?xZ ?pN ?sH ?sO ?yj ?Ec ?ye ?vH ?vI ?yc ?vJ ?vK ?vL ?yd ?yh ?Bk ?Bg ?mz ?yf ?vM ?yg ?sJ ?Bj ?oF ?pL ?Bh ?sI ?mX ?oG ?Eb ?pM ?abr
  (case qM=>(intro d;cases d with|clo=>(show PySem.W.kitOne _ (.type "NoneType") (.type "bool")=some false;kit_is)|non=>(show PySem.W.kitOne _ (.type "NoneType") (.type "bool")=some false;kit_is)|bl=>(show PySem.W.kitOne _ (.type "bool") (.type "bool")=some true;kit_is)|int=>(show PySem.W.kitOne _ (.type "int") (.type "bool")=some false;kit_is)|str=>(show PySem.W.kitOne _ (.type "str") (.type "bool")=some false;kit_is)|tup=>(show PySem.W.kitOne _ (.type "tuple") (.type "bool")=some false;kit_is)|lst=>(show PySem.W.kitOne _ (.type "list") (.type "bool")=some false;kit_is)|arr=>(show PySem.W.kitOne _ (.type "list") (.type "bool")=some false;kit_is)|dct=>(show PySem.W.kitOne _ (.type "dict") (.type "bool")=some false;kit_is)|lE=>(show PySem.W.kitOne _ (.type "dict") (.type "bool")=some false;kit_is)))
  (case rH=>(intro d;cases d with|clo=>(show PySem.W.kitOne _ (.type "NoneType") (.type "str")=some false;kit_is)|non=>(show PySem.W.kitOne _ (.type "NoneType") (.type "str")=some false;kit_is)|bl=>(show PySem.W.kitOne _ (.type "bool") (.type "str")=some false;kit_is)|int=>(show PySem.W.kitOne _ (.type "int") (.type "str")=some false;kit_is)|str=>(show PySem.W.kitOne _ (.type "str") (.type "str")=some true;kit_is)|tup=>(show PySem.W.kitOne _ (.type "tuple") (.type "str")=some false;kit_is)|lst=>(show PySem.W.kitOne _ (.type "list") (.type "str")=some false;kit_is)|arr=>(show PySem.W.kitOne _ (.type "list") (.type "str")=some false;kit_is)|dct=>(show PySem.W.kitOne _ (.type "dict") (.type "str")=some false;kit_is)|lE=>(show PySem.W.kitOne _ (.type "dict") (.type "str")=some false;kit_is)))
  (case ik=>(intro d;cases d with|clo=>(show PySem.W.kitOne _ (.type "NoneType") (.type "tuple")=some false;kit_is)|non=>(show PySem.W.kitOne _ (.type "NoneType") (.type "tuple")=some false;kit_is)|bl=>(show PySem.W.kitOne _ (.type "bool") (.type "tuple")=some false;kit_is)|int=>(show PySem.W.kitOne _ (.type "int") (.type "tuple")=some false;kit_is)|str=>(show PySem.W.kitOne _ (.type "str") (.type "tuple")=some false;kit_is)|tup=>(show PySem.W.kitOne _ (.type "tuple") (.type "tuple")=some true;kit_is)|lst=>(show PySem.W.kitOne _ (.type "list") (.type "tuple")=some false;kit_is)|arr=>(show PySem.W.kitOne _ (.type "list") (.type "tuple")=some false;kit_is)|dct=>(show PySem.W.kitOne _ (.type "dict") (.type "tuple")=some false;kit_is)|lE=>(show PySem.W.kitOne _ (.type "dict") (.type "tuple")=some false;kit_is)))
  (case zQ=>k_is)
  (case zP=>k_is)
  (case tZ=>k_is)
  (case zO=>k_is)
  (case tY=>k_is)
  (case dW=>k_is)
  (case oZ=>k_is)
  (case wW=>k_is)
  (case xo=>k_is)
  (case Kc=>k_is)
  (case Kd=>k_is)
  (case xu=>k_exc)
  (case Kf=>k_is)
  (case Ka=>k_is)
  (case Kg=>k_is)
  (case Kh=>k_is)
  (case Ke=>k_is)
  (case dm=>(refine' XC.Cl.mk ?agv ?agu ?agK ?af4 ?agN<;>k_is))
  (case m7=>(refine' XC.Cl.mk ?Zz ?Zx ?ZX ?YX ?Z8<;>k_is))
  (case mZ=>k_is)
  (case m6=>k_is)
  (case vU=>kit_is)
  (case vR=>kit_is)
  (case pZ=>kit_is)
  (case vQ=>kit_is)
  (case pY=>kit_is)
  (case vP=>kit_is)
  (case sS=>kit_is)
  (case m8=>kit_is)
  (case t8=>k_is)
  (case Mg=>k_is)
  (case t7=>k_is)
  (case Mf=>k_is)
  (case lA=>k_is)
  all_goals first|k_is|(refine' Ev.FA.mk ?a ?l ?c ?k;(case a=>k_is);(case l=>k_is);(case c=>k_is);(case k=>k_is))|(refine' Ev.FC.mk ?a ?l ?c ?k ?lc ?v;(case a=>k_is);(case l=>k_is);(case c=>k_is);(case k=>k_is);(case lc=>k_is);(case v=>exact rfl))
