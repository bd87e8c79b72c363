import PyProof.Rows.All
import Wide.All
import OpenK.AllK
import Wide.FinOn
import Lean
import PyProof.EqAt
import PyProof.EqKinds
import PyProof.TupleCall
import PyProof.TupleKey
import PyProof.DictRoadsH
import PyProof.FactsAll.bool_1
import PyProof.AttrMissHeap
import KE.KDictOf
import PyProof.ListMulRoad
import PyProof.FactsAll.tuple_2
import KE.KSortTup
import PyProof.TupleOfSeq
import PyProof.Rows.SortRuns
import PyProof.ListRange
import PyProof.DictTable
import PyProof.Rows.TupTab
import PyProof.FactsAll.range_1
import KE.KDictList
import PyProof.SetRoads
import PyProof.DictTruth
import PyProof.RulesTry
import KE.KIsAll
import KE.KTryDeep
import PyProof.ExcArgsOwn
import PyProof.ExcAttrAll.ValueError
import PyProof.InstStoreFacts
import PyProof.ExcInit
import PyProof.SumAnyB
import PyProof.ToksMono
import PyProof.StrReplace2
import PySem.Challenge.RW_soundrules_k75_whole_texts_of_rules
noncomputable section
set_option Elab.async false
set_option linter.all false
set_option maxRecDepth 100000
set_option maxHeartbeats 4000000
theorem Qqq:type_of% @PySem.wpAny_bind:=@PySem.wpAny_bind
theorem Qqx:type_of% @PySem.Heap.get?_push_of_some:=@PySem.Heap.get?_push_of_some
def Qqz:type_of% @List.length_append:=@List.length_append
def Qqj:type_of% @List.length_map:=@List.length_map
def Qqk:type_of% @List.mem_cons_self:=@List.mem_cons_self
theorem Qqv:type_of% @PySem.wpAny_pure:=@PySem.wpAny_pure
def Qqw:type_of% @List.mem_cons_of_mem:=@List.mem_cons_of_mem
def Qqy:type_of% @Nat.le_refl:=@Nat.le_refl
def Qq0:type_of% @Nat.le_trans:=@Nat.le_trans
def Qq1:type_of% @List.length_cons:=@List.length_cons
def Qq2:type_of% @Bool.and_eq_true:=@Bool.and_eq_true
def Qq3:type_of% @List.mem_cons:=@List.mem_cons
theorem Qq4:type_of% @PySem.Heap.get?_push_size:=@PySem.Heap.get?_push_size
def Qq5:type_of% @List.all_eq_true:=@List.all_eq_true
def Qq6:type_of% @List.getElem?_set_ne:=@List.getElem?_set_ne
def Qq7:type_of% @List.map_cons:=@List.map_cons
def Qq8:type_of% @List.size_toArray:=@List.size_toArray
theorem Qq9:type_of% @PySem.Heap.lt_size:=@PySem.Heap.lt_size
def Qwq:type_of% @List.getElem?_eq_some_iff:=@List.getElem?_eq_some_iff
def Qwx:type_of% @List.mem_singleton:=@List.mem_singleton
def Qwz:type_of% @List.getElem?_set_self:=@List.getElem?_set_self
def Qwj:type_of% @Nat.ne_of_lt:=@Nat.ne_of_lt
def Qwk:type_of% @List.mem_map:=@List.mem_map
def Qwv:type_of% @beq_eq_false_iff_ne:=@beq_eq_false_iff_ne
def Qww:type_of% @of_decide_eq_true:=@of_decide_eq_true
def Qwy:type_of% @List.append_assoc:=@List.append_assoc
def Qw0:type_of% @Nat.lt_of_lt_of_le:=@Nat.lt_of_lt_of_le
def Qw1:type_of% @List.pairwise_cons:=@List.pairwise_cons
def Qw2:type_of% @decide_eq_true:=@decide_eq_true
def Qw3:type_of% @Bool.false_ne_true:=@Bool.false_ne_true
def Qw4:type_of% @Option.some.injEq:=@Option.some.injEq
def Qw5:type_of% @decide_eq_false:=@decide_eq_false
def Qw6:type_of% @List.map_map:=@List.map_map
def Qw7:type_of% @Option.map_eq_some_iff:=@Option.map_eq_some_iff
def Qw8:type_of% @Option.some.inj:=@Option.some.inj
def Qw9:type_of% @List.getElem?_append_left:=@List.getElem?_append_left
def Qxq:type_of% @List.mem_append_right:=@List.mem_append_right
def Qxx:type_of% @List.not_mem_nil:=@List.not_mem_nil
def Qxz:type_of% @List.length_drop:=@List.length_drop
theorem Qxj:type_of% @PySem.wpAny_newObj_type:=@PySem.wpAny_newObj_type
theorem Qxk:type_of% @PySem.wpAny_mono:=@PySem.wpAny_mono
def Qxv:type_of% @List.mem_append:=@List.mem_append
def Qxw:type_of% @List.length_set:=@List.length_set
def Qxy:type_of% @List.foldl_cons:=@List.foldl_cons
def Qx0:type_of% @List.length_take:=@List.length_take
def Qx1:type_of% @List.getElem?_append_right:=@List.getElem?_append_right
def Qx2:type_of% @Option.bind_eq_some_iff:=@Option.bind_eq_some_iff
def Qx3:type_of% @List.getElem?_map:=@List.getElem?_map
def Qx4:type_of% @List.append_nil:=@List.append_nil
theorem Qx5:type_of% @PySem.wpAny_holding:=@PySem.wpAny_holding
def Qx6:type_of% @List.mem_range:=@List.mem_range
def Qx7:type_of% @List.getD_eq_getElem?_getD:=@List.getD_eq_getElem?_getD
def Qx8:type_of% @Bool.or_eq_true:=@Bool.or_eq_true
def Qx9:type_of% @List.map_congr_left:=@List.map_congr_left
def Qzq:type_of% @List.getElem?_eq_getElem:=@List.getElem?_eq_getElem
def Qzx:type_of% @Array.getElem?_toList:=@Array.getElem?_toList
def Qzz:type_of% @Nat.zero_le:=@Nat.zero_le
def Qzj:type_of% @Array.length_toList:=@Array.length_toList
def Qzk:type_of% @List.lookup_cons:=@List.lookup_cons
def Qzv:type_of% @Bool.eq_iff_iff:=@Bool.eq_iff_iff
def Qzw:type_of% @Nat.lt_succ_of_lt:=@Nat.lt_succ_of_lt
theorem Qzy:type_of% @PySem.Around.under_plainId:=@PySem.Around.under_plainId
def Qz0:type_of% @Nat.lt_of_le_of_lt:=@Nat.lt_of_le_of_lt
def Qz1:type_of% @Nat.lt_irrefl:=@Nat.lt_irrefl
def Qz2:type_of% @List.map_append:=@List.map_append
def Qz3:type_of% @List.length_nil:=@List.length_nil
def Qz4:type_of% @List.length_replicate:=@List.length_replicate
def Qz5:type_of% @List.filterMap_cons:=@List.filterMap_cons
theorem Qz6:type_of% @PySem.wpAny_call_entry:=@PySem.wpAny_call_entry
def Qz7:type_of% @Nat.le_of_lt:=@Nat.le_of_lt
def Qz8:type_of% @List.take_of_length_le:=@List.take_of_length_le
theorem Qz9:type_of% @PySem.codeAny_builtin:=@PySem.codeAny_builtin
def Qjq:type_of% @congrArg:=@congrArg
def Qjx:type_of% @List.eq_nil_of_length_eq_zero:=@List.eq_nil_of_length_eq_zero
def Qjz:type_of% @Option.isSome_iff_exists:=@Option.isSome_iff_exists
def Qjj:type_of% @List.getElem?_take_of_lt:=@List.getElem?_take_of_lt
theorem Qjk:type_of% @PySem.Heap.size_push:=@PySem.Heap.size_push
def Qjv:type_of% @List.getElem?_replicate:=@List.getElem?_replicate
def Qjw:type_of% @PyProof.Rows.slot_tuple_getitem:=@PyProof.Rows.slot_tuple_getitem
def Qjy:type_of% @List.mem_of_getElem?:=@List.mem_of_getElem?
def Qj0:type_of% @List.sum_cons:=@List.sum_cons
def Qj1:type_of% @Int.toNat_natCast:=@Int.toNat_natCast
def Qj2:type_of% @Nat.le_of_succ_le:=@Nat.le_of_succ_le
def Qj3:type_of% @Array.getD_eq_getD_getElem?:=@Array.getD_eq_getD_getElem?
def Qj4:type_of% @List.cons_append:=@List.cons_append
theorem Qj5:type_of% @PySem.wpAny_setField_rec:=@PySem.wpAny_setField_rec
def Qj6:type_of% @Nat.le_of_ble_eq_true:=@Nat.le_of_ble_eq_true
def Qj7:type_of% @List.getElem?_eq_none:=@List.getElem?_eq_none
theorem Qj8:type_of% @PySem.codeAny_mono:=@PySem.codeAny_mono
theorem Qj9:type_of% @PySem.plainId_quiet:=@PySem.plainId_quiet
def Qkq:type_of% @Nat.le_succ:=@Nat.le_succ
def Qkx:type_of% @List.mem_append_left:=@List.mem_append_left
def Qkz:type_of% @Bool.and_eq_true_iff:=@Bool.and_eq_true_iff
def Qkj:type_of% @List.nodup_cons:=@List.nodup_cons
theorem Qkk:type_of% @PySem.wpAny_specialOf:=@PySem.wpAny_specialOf
def Qkv:type_of% @Option.map_some:=@Option.map_some
def Qkw:type_of% @Nat.ne_of_gt:=@Nat.ne_of_gt
theorem Qky:type_of% @PySem.mem_of_lookup:=@PySem.mem_of_lookup
def Qk0:type_of% @List.filter_eq_self:=@List.filter_eq_self
def Qk1:type_of% @List.getElem_mem:=@List.getElem_mem
def Qk2:type_of% @or_false:=@or_false
def Qk3:type_of% @List.find?_cons:=@List.find?_cons
def Qk4:type_of% @Nat.not_lt_zero:=@Nat.not_lt_zero
theorem Qk5:type_of% @PySem.sizeLine_eq:=@PySem.sizeLine_eq
def Qk6:type_of% @List.nil_append:=@List.nil_append
theorem Qk7:type_of% @PySem.typeIs_str:=@PySem.typeIs_str
def Qk8:type_of% @List.map_nil:=@List.map_nil
abbrev lr(x:PySem.Str):Prop:=(x == ("__debug__" : PySem.Str))=false
abbrev uz(x:PySem.Str):Prop:=(x == ("__classdict__" : PySem.Str))=false
open PySem PySem.Spec PyProof.Rows in
abbrev Bg(e:Expr)(E:PySem.Env):Prop:=starEach [e] E=(false,eval e E)::starEach [] E
namespace L2
open PySem PySem.Spec PyProof.Rows
inductive NK where
 | num (i:Int)
 | txt (x:Str)
 | tup (xs:List NK)
noncomputable instance:DecidableEq NK:=λ_ _=>Classical.propDecidable _
mutual
def Jx(h:Heap):NK->Value->Prop
 | .num i,v=>(∃t,v = .int i t)\/∃b:Bool,v = .bool b/\i=if b then 1 else 0
 | .txt x,v=>∃t,v = .str x t
 | .tup ks,v=>∃a o items n,v = .ref a/\h.get? a=some o/\o.cls = .type "tuple"/\o.data = .seq items n/\qR h ks items.toList
def qR(h:Heap):List NK->List Value->Prop
 | [],vs=>vs=[]
 | k::ks,vs=>∃v r,vs=v::r/\Jx h k v/\qR h ks r
end
mutual
def NK.dep:NK->Nat
 | .num _=>0
 | .txt _=>0
 | .tup ks=>1+NK.Am ks
def NK.Am:List NK->Nat
 | []=>0
 | k::ks=>max (NK.dep k) (NK.Am ks)
end
mutual
def NK.draws:NK->Nat
 | .num _=>1
 | .txt _=>1
 | .tup ks=>NK.qy ks+1
def NK.qy:List NK->Nat
 | []=>0
 | k::ks=>NK.draws k+NK.qy ks
end
section
variable(P:Program)(w:World)
mutual
def NK.hash:NK->Int
 | .num i=>hashInt i
 | .txt x=>(strKind P w).hash x
 | .tup ks=>reduceHash (Builtin.Tuple.tupleHashOf (NK.hashes ks))
def NK.hashes:List NK->List Int
 | []=>[]
 | k::ks=>NK.hash k::NK.hashes ks
end
end
theorem qR.length:∀{ks} {vs},qR h ks vs->vs.length=ks.length
 | [],_,e=>by cases e;rfl
 | k::ks,_,e=>by obtain⟨v,r,rfl,_,q⟩:=e;rw[Qq1,Qq1,q.length]
theorem qR.get:∀{ks} {vs} {j:Nat} {v},qR h ks vs->vs[j]? = some v->∃k,ks[j]? = some k/\Jx h k v
 | [],_,_,_,e,g=>by cases e;simp at g
 | k::ks,_,j,v,e,g=>by
  obtain⟨u,r,rfl,h1,h2⟩:=e;cases j with
  | zero=>simp at g;subst g;exact⟨k,rfl,h1⟩
  | succ j=>obtain⟨k',e1,e2⟩:=qR.get h2 (j:=j) (by simpa using g);exact⟨k',by simpa using e1,e2⟩
theorem NK.Al:∀{ks} {j:Nat} {k},ks[j]? = some k->k.dep<=NK.Am ks
 | [],_,_,e=>by simp at e
 | c::ks,j,k,e=>by
  unfold NK.Am;cases j with
  | zero=>simp at e;subst e;exact Nat.le_max_left _ _
  | succ j=>exact Qq0 (NK.Al (j:=j) (by simpa using e)) (Nat.le_max_right _ _)
mutual
theorem Jx.inj{h:Heap}:∀{x y:NK} {v:Value},Jx h x v->Jx h y v->x=y
 | .num i,.num j,v,a,b=>by
  rcases a with ⟨t,rfl⟩|⟨c,rfl,rfl⟩
  ·rcases b with ⟨t',e⟩|⟨c,e,_⟩
   ·cases e;rfl
   ·cases e
  ·rcases b with ⟨t',e⟩|⟨c,e,rfl⟩
   ·cases e
   ·cases e;rfl
 | .num i,.txt x,v,a,b=>by obtain⟨t,rfl⟩:=b;rcases a with ⟨t',e⟩|⟨c,e,_⟩<;>cases e
 | .num i,.tup ks,v,a,b=>by obtain⟨_,_,_,_,rfl,_⟩:=b;rcases a with ⟨t',e⟩|⟨c,e,_⟩<;>cases e
 | .txt x,.num i,v,a,b=>by obtain⟨t,rfl⟩:=a;rcases b with ⟨t',e⟩|⟨c,e,_⟩<;>cases e
 | .txt x,.txt y,v,a,b=>by obtain⟨t,rfl⟩:=a;obtain⟨t',e⟩:=b;cases e;rfl
 | .txt x,.tup ks,v,a,b=>by obtain⟨t,rfl⟩:=a;obtain⟨_,_,_,_,e,_⟩:=b;cases e
 | .tup ks,.num i,v,a,b=>by obtain⟨_,_,_,_,rfl,_⟩:=a;rcases b with ⟨t',e⟩|⟨c,e,_⟩<;>cases e
 | .tup ks,.txt y,v,a,b=>by obtain⟨_,_,_,_,rfl,_⟩:=a;obtain⟨t',e⟩:=b;cases e
 | .tup ks,.tup ls,v,a,b=>by
  obtain⟨p,o,items,n,rfl,h1,_,h3,h4⟩:=a;obtain⟨p',o',items',n',e,h1',_,h3',h4'⟩:=b;cases e;rw[h1] at h1';cases h1';rw[h3] at h3';cases h3';rw[qR.inj h4 h4']
theorem qR.inj{h:Heap}:∀{x y:List NK} {v:List Value},qR h x v->qR h y v->x=y
 | [],[],_,_,_=>rfl
 | [],k::ks,_,a,b=>by cases a;obtain⟨_,_,e,_⟩:=b;cases e
 | k::ks,[],_,a,b=>by cases b;obtain⟨_,_,e,_⟩:=a;cases e
 | k::ks,l::ls,_,a,b=>by
  obtain⟨v,r,rfl,h1,h2⟩:=a;obtain⟨v',r',e,h1',h2'⟩:=b;cases e;rw[Jx.inj h1 h1',qR.inj h2 h2']
end
mutual
theorem Jx.keeps{h h':Heap}{d:Addr}{o:Obj}{es ep}(ho:h.get? d=some o)(hd:o.data = .dict es ep)(hs:Heap.SameBut d h h'):∀{k:NK} {v:Value},Jx h k v->Jx h' k v
 | .num _,_,e=>e
 | .txt _,_,e=>e
 | .tup ks,_,e=>by
  obtain⟨a,o',items,n,rfl,h1,h2,h3,h4⟩:=e;have hne:a≠d:=by rintro rfl;rw[h1] at ho;cases ho;rw[h3] at hd;cases hd
  exact⟨a,o',items,n,rfl,(hs.2 a hne).trans h1,h2,h3,qR.keeps ho hd hs h4⟩
theorem qR.keeps{h h':Heap}{d:Addr}{o:Obj}{es ep}(ho:h.get? d=some o)(hd:o.data = .dict es ep)(hs:Heap.SameBut d h h'):∀{ks:List NK} {vs:List Value},qR h ks vs->qR h' ks vs
 | [],_,e=>e
 | k::ks,_,e=>by obtain⟨v,r,rfl,h1,h2⟩:=e;exact⟨v,r,rfl,Jx.keeps ho hd hs h1,qR.keeps ho hd hs h2⟩
end
section
variable{P:Program}{w:World}
def Qp(h:Q (hashInt (if b then 1 else 0)) { s with toks:=s.toks+1 }):wpAny (model P w) A (pyHash (.bool b)) Q E s:=by
 have hT:s.TypeIs (.bool b) "bool":=rfl;have hr:=rawHash_range (if b then 1 else 0);unfold pyHash;have hv:[Value.bool b].any Value.onHeap=false:=rfl;refine Qqq ?_;rw[cRoomFor,if_neg (by rw[hv];exact Qw3)];refine Qqv ?_;refine Qqq (Qkk hT F.slot_bool_hash.lookup ?_);show wpAny _ _ (if (some (Value.builtin "int.__hash__") == some Value.none)=true then _ else _) Q E s;rw[if_neg (by rw[beq_builtin_none];exact Qw3)];refine Qqq (Qkk hT F.slot_bool_hash.lookup ?_);show wpAny _ _ (callSpecialIfBoundUnlessNone? (.bool b) "__hash__" _ >>= _) Q E s;refine Qqq (wpAny_callSpecialIfBoundUnlessNone?_slot hT F.slot_bool_hash
  (Qz6 F.slot_bool_hash hT entry_int_hash
   (show wpAny _ _ (do ret (<-mkInt (rawHash (if b then 1 else 0)))) _ _ s from wpAny_ret_mkInt ?_) (args_int_hash _)))
 show wpAny _ _ (if (decide (-(2:Int)^63<=rawHash (if b then 1 else 0))&&decide (rawHash (if b then 1 else 0)<2^63))=true then _ else _) Q E _;rw[if_pos (by rw[Qw2 hr.1,Qw2 hr.2];rfl)];exact Qqv h
mutual
theorem Ug:∀(k:NK) (v:Value) (A:Around) (E:Value->Shared->Prop) (s:Shared) (Q:Int->Shared->Prop),A.units+k.dep<cLine->Jx s.heap k v->Q (k.hash P w) { s with toks:=s.toks+k.draws }->wpAny (model P w) A (pyHash v) Q E s
 | .num i,v,A,E,s,Q,hu,e,h=>by
  rcases e with ⟨t,rfl⟩|⟨b,rfl,rfl⟩
  ·exact wpAny_pyHash_int h
  ·exact Qp h
 | .txt x,v,A,E,s,Q,hu,e,h=>by
  obtain⟨t,rfl⟩:=e;exact wpAny_pyHash_str h
 | .tup ks,v,A,E,s,Q,hu,e,h=>by
  obtain⟨a,o,items,n,rfl,ho,hc,hd,hi⟩:=e;have hT:s.TypeIs (.ref a) "tuple":=⟨o,ho,hc⟩;have acU:(NK.tup ks).dep=1+NK.Am ks:=by rw[NK.dep]
  rw[acU] at hu;have hu0:A.units<cLine:=by omega
  have hin:A.in1.units+NK.Am ks<cLine:=by show A.units+1+NK.Am ks<cLine;omega
  unfold pyHash
  first|unfold pyHashByItsType|skip
  first|refine Qqq (wpAny_cRoomFor_or (.inr hu0) ?_)|skip
  refine Qqq (Qkk hT F.slot_tuple_hash.lookup ?_);show wpAny _ _ (if (some (Value.builtin "tuple.__hash__") == some Value.none)=true then _ else _) Q E s;rw[if_neg (by rw[beq_builtin_none];exact Qw3)];refine Qqq (Qkk hT F.slot_tuple_hash.lookup ?_);show wpAny _ _ (callSpecialIfBoundUnlessNone? (.ref a) "__hash__" _ >>= _) Q E s;refine Qqq (wpAny_callSpecialIfBoundUnlessNone?_slot hT F.slot_tuple_hash (Qz6 F.slot_tuple_hash hT F.entry_tuple_hash ?_ (F.args_tuple_hash_1 _)));show wpAny _ _ (Builtin.Tuple.tupleItemsOf (.ref a) >>= _) _ _ s;refine Qqq (wpAny_tupleItemsOf ho hd ?_);refine Qqq ?_;rw[<-Array.forIn_toList];refine HX ks items.toList A.in1 _ s _ _ #[] hin hi (λx b s' R q=>?_) ?_
  ·first
    | exact Qqq (Qxk q (λz s2 hz=>Qqv hz) λ_ _ z=>z)
    | exact Qqq (Qxk q (λz s2 hz=>Qqq (Qqv (Qqv hz))) λ_ _ z=>z)
  ·show wpAny _ _ (retInt (Builtin.Tuple.tupleHashOf ((#[]:Array Int).toList++NK.hashes P w ks))) _ _ _;have hh:(NK.tup ks).hash P w=reduceHash (Builtin.Tuple.tupleHashOf (NK.hashes P w ks)):=by rw[NK.hash]
   have hdr:(NK.tup ks).draws=NK.qy ks+1:=by rw[NK.draws]
   rw[hh,hdr] at h;rw[show(#[]:Array Int).toList++NK.hashes P w ks=NK.hashes P w ks from rfl];refine wpAny_ret_mkInt ?_;show wpAny _ _ (if (decide (-(2:Int)^63<=Builtin.Tuple.tupleHashOf (NK.hashes P w ks))&&decide (Builtin.Tuple.tupleHashOf (NK.hashes P w ks)<2^63))=true then _ else _) Q E _;unfold reduceHash at h;by_cases hr:(decide (-(2:Int)^63<=Builtin.Tuple.tupleHashOf (NK.hashes P w ks))&&decide (Builtin.Tuple.tupleHashOf (NK.hashes P w ks)<2^63))=true
   ·rw[if_pos hr];rw[if_pos hr] at h;exact Qqv (by simpa[Nat.add_assoc] using h)
   ·rw[if_neg hr];rw[if_neg hr] at h;exact Qqq (wpAny_rule (Qqv (by simpa[Nat.add_assoc] using h)))
theorem HX:∀(ks:List NK) (vs:List Value) (A:Around) (E:Value->Shared->Prop) (s:Shared) (body:Value->Array Int->Sem (ForInStep (Array Int))) (Q:Array Int->Shared->Prop) (acc:Array Int),A.units+NK.Am ks<cLine->qR s.heap ks vs->
  (∀x b s' (R:ForInStep (Array Int)->Shared->Prop),wpAny (model P w) A (pyHash x) (λz s2=>R (.yield (b.push z)) s2) E s'->wpAny (model P w) A (body x b) R E s')->
  Q (acc.toList++NK.hashes P w ks).toArray { s with toks:=s.toks+NK.qy ks }->wpAny (model P w) A (forIn vs acc body) Q E s
 | [],vs,A,E,s,body,Q,acc,hu,e,hb,q=>by
  cases e;rw[List.forIn_nil];refine Qqv ?_;have:(acc.toList++NK.hashes P w []).toArray=acc:=by rw[NK.hashes];simp
  rw[this] at q;have e0:NK.qy []=0:=by rw[NK.qy]
  rw[e0] at q;exact q
 | k::ks,vs,A,E,s,body,Q,acc,hu,e,hb,q=>by
  obtain⟨v,r,rfl,h1,h2⟩:=e;have acU:NK.Am (k::ks)=max k.dep (NK.Am ks):=by rw[NK.Am]
  rw[acU] at hu;rw[List.forIn_cons];refine Qqq (hb v acc s _ (Ug k v A E s _ (by omega) h1 ?_));refine HX ks r A E { s with toks:=s.toks+k.draws } body Q (acc.push (k.hash P w)) (by omega) h2 hb ?_;have e1:NK.hashes P w (k::ks)=k.hash P w::NK.hashes P w ks:=by rw[NK.hashes]
  have e2:NK.qy (k::ks)=k.draws+NK.qy ks:=by rw[NK.qy]
  rw[e1,e2] at q
  simpa[Nat.add_assoc] using q
end
theorem ae8:∀n x y u v A s,x.dep<=n->A.units+n+1<cLine->Jx s.heap x u->Jx s.heap y v->SeqAt.EqAt A s u v (decide (x=y))
 | n,.num i,.num j,u,v,A,s,hn,hu,hx,hy=>by
  have e:decide (NK.num i=NK.num j)=(i == j):=by rw[Qzv];simp
  rw[e];rcases hx with ⟨t,rfl⟩|⟨b,rfl,rfl⟩
  ·rcases hy with ⟨t',rfl⟩|⟨c,rfl,rfl⟩
   ·exact SeqAt.EqAt.int_int i t j t'
   ·exact SeqAt.EqAt.int_bool i t c
  ·rcases hy with ⟨t',rfl⟩|⟨c,rfl,rfl⟩
   ·exact SeqAt.EqAt.bool_int b j t'
   ·have:((if b then (1:Int) else 0) == (if c then 1 else 0))=(b == c):=by cases b<;>cases c<;>rfl
    rw[this];exact SeqAt.EqAt.bool_bool b c
 | n,.num i,.txt z,u,v,A,s,hn,hu,hx,hy=>by
  rw[Qw5 (λe=>by cases e)];obtain⟨t,rfl⟩:=hy;rcases hx with ⟨t',rfl⟩|⟨b,rfl,rfl⟩
  ·exact SeqAt.EqAt.int_str i t' _ t
  ·exact SeqAt.EqAt.bool_str b _ t
 | n,.num i,.tup ks,u,v,A,s,hn,hu,hx,hy=>by
  rw[Qw5 (λe=>by cases e)];obtain⟨a,o,items,m,rfl,h1,h2,h3,_⟩:=hy;have p:s.heap.IsTuple a items:=⟨o,h1,h2,m,h3⟩;rcases hx with ⟨t',rfl⟩|⟨b,rfl,rfl⟩
  ·exact SeqAt.EqAt.int_tuple i t' p (by omega)
  ·exact SeqAt.EqAt.bool_tuple b p (by omega)
 | n,.txt z,.num i,u,v,A,s,hn,hu,hx,hy=>by
  rw[Qw5 (λe=>by cases e)];obtain⟨t,rfl⟩:=hx;rcases hy with ⟨t',rfl⟩|⟨b,rfl,rfl⟩
  ·exact SeqAt.EqAt.str_int _ t i t'
  ·exact SeqAt.EqAt.str_bool _ t b
 | n,.txt z,.txt z',u,v,A,s,hn,hu,hx,hy=>by
  have e:decide (NK.txt z=NK.txt z')=(z == z'):=by rw[Qzv];simp
  rw[e];obtain⟨t,rfl⟩:=hx;obtain⟨t',rfl⟩:=hy;exact SeqAt.EqAt.str_str _ t _ t'
 | n,.txt z,.tup ks,u,v,A,s,hn,hu,hx,hy=>by
  rw[Qw5 (λe=>by cases e)];obtain⟨t,rfl⟩:=hx;obtain⟨a,o,items,m,rfl,h1,h2,h3,_⟩:=hy;have p:s.heap.IsTuple a items:=⟨o,h1,h2,m,h3⟩;exact SeqAt.EqAt.str_tuple _ t p (by omega)
 | n,.tup ks,.num i,u,v,A,s,hn,hu,hx,hy=>by
  rw[Qw5 (λe=>by cases e)];obtain⟨a,o,items,m,rfl,h1,h2,h3,_⟩:=hx;have p:s.heap.IsTuple a items:=⟨o,h1,h2,m,h3⟩;rcases hy with ⟨t',rfl⟩|⟨b,rfl,rfl⟩
  ·exact SeqAt.EqAt.tuple_int i t' p (by omega)
  ·exact SeqAt.EqAt.tuple_bool b p (by omega)
 | n,.tup ks,.txt z,u,v,A,s,hn,hu,hx,hy=>by
  rw[Qw5 (λe=>by cases e)];obtain⟨a,o,items,m,rfl,h1,h2,h3,_⟩:=hx;have p:s.heap.IsTuple a items:=⟨o,h1,h2,m,h3⟩;obtain⟨t,rfl⟩:=hy;exact SeqAt.EqAt.tuple_str _ t p (by omega)
 | 0,.tup ks,.tup ls,u,v,A,s,hn,hu,hx,hy=>by
  rw[NK.dep] at hn;omega
 | n+1,.tup ks,.tup ls,u,v,A,s,hn,hu,hx,hy=>by
  have hx0:=hx;have hy0:=hy;obtain⟨a,o,items,m,rfl,h1,h2,h3,h4⟩:=hx;obtain⟨a',o',items',m',rfl,h1',h2',h3',h4'⟩:=hy;have p:s.heap.IsTuple a items:=⟨o,h1,h2,m,h3⟩;have p':s.heap.IsTuple a' items':=⟨o',h1',h2',m',h3'⟩;rw[NK.dep] at hn;by_cases haa:a=a'
  ·subst haa;rw[Qw2 (Jx.inj hx0 hy0)];exact SeqAt.EqAt.same _
  ·refine SeqAt.EqAt.of_refs haa ?_;have l1:=h4.length;have l2:=h4'.length;rw[Qzj] at l1 l2;have hu0:A.units<cLine:=by omega
   have:=SeqAt.RcAt.tuples (e:=λj=>decide (ks[j]? = ls[j]?)) p p' hu0 λj q1 q2=>?_
   ·have e:((List.range (min items.size items'.size)).all (λj=>decide (ks[j]? = ls[j]?))&&items.size == items'.size)=decide (NK.tup ks=NK.tup ls):=by
     rw[Qzv];simp only[Qq2,Qq5,Qx6,decide_eq_true_eq,beq_iff_eq,NK.tup.injEq];constructor
     ·rintro⟨g1,g2⟩;apply List.ext_getElem?;intro j;by_cases hj:j<min items.size items'.size
      ·exact g1 j hj
      ·rw[Qj7 (by omega),Qj7 (by omega)]
     ·rintro rfl;exact⟨λ_ _=>rfl,by omega⟩
    rw[<-e];exact this
   ·have g1:items.toList[j]? = some items[j]:=by simp
    have g2:items'.toList[j]? = some items'[j]:=by simp
    obtain⟨k,r1,r2⟩:=h4.get g1;obtain⟨l,r3,r4⟩:=h4'.get g2;have e:decide (ks[j]? = ls[j]?)=decide (k=l):=by rw[r1,r3];simp
    rw[e];exact ae8 n k l _ _ A.in1 s (Qq0 (NK.Al r1) (by omega)) (by show A.units+1+n+1<cLine;omega) r2 r4
theorem M5:∀n k v A E s Q,k.dep<=n->Jx s.heap k v->Q true s->wpAny (model P w) A (eqIsQuiet n v) Q E s
 | n,.num i,v,A,E,s,Q,hn,e,h=>by
  rcases e with ⟨t,rfl⟩|⟨b,rfl,rfl⟩
  ·rw[eqIsQuiet_byValue n rfl];exact Qqv h
  ·rw[eqIsQuiet_byValue n rfl];exact Qqv h
 | n,.txt x,v,A,E,s,Q,hn,e,h=>by
  obtain⟨t,rfl⟩:=e;rw[eqIsQuiet_byValue n rfl];exact Qqv h
 | 0,.tup ks,v,A,E,s,Q,hn,e,h=>by
  rw[NK.dep] at hn;omega
 | n+1,.tup ks,v,A,E,s,Q,hn,e,h=>by
  obtain⟨a,o,items,m,rfl,ho,hc,hd,hi⟩:=e;rw[NK.dep] at hn;have hT:s.TypeIs (.ref a) "tuple":=⟨o,ho,hc⟩;unfold eqIsQuiet;refine Qqq (Qkk hT F.slot_tuple_eq.lookup ?_);show wpAny _ _ (isInstance (.ref a) (.type "tuple") >>= _) _ _ s;refine Qqq (wpAny_isInstance hT isSubtype_tuple_tuple ?_);simp only[Bool.not_true,Bool.false_eq_true,if_false];refine Qqq (wpAny_seqItems ho hd ?_);refine Qqq ?_;show wpAny _ _ (forIn items _ _) _ _ s;rw[<-Array.forIn_toList];refine wpAny_forIn_list _ (λrest r s'=>r.1=none/\s'=s/\∀v∈rest,∃k:NK,k.dep<=n/\Jx s.heap k v) _ ?_ ?_ _ _ ⟨rfl,rfl,λv hv=>?_⟩
  ·rintro v rest r s' ⟨hr,rfl,hall⟩;obtain⟨k,hk1,hk2⟩:=hall v Qqk;refine Qqq (M5 n k v A E _ _ hk1 hk2 ?_);simp only[Bool.not_true,Bool.false_eq_true,if_false];exact Qqv ⟨rfl,rfl,λu hu'=>hall u (Qqw _ hu')⟩
  ·rintro⟨r1,r2⟩ s' ⟨hr,rfl,_⟩;simp only at hr;subst hr;exact Qqv h
  ·obtain⟨j,hj,rfl⟩:=List.mem_iff_getElem.mp hv;obtain⟨k,r1,r2⟩:=hi.get (Qzq hj);exact⟨k,Qq0 (NK.Al r1) (by omega),r2⟩
noncomputable def Uc(P:Program)(w:World):HeapKind P w NK where
 is:=λh k a=>Jx h k (.ref a)/\k.dep<=8
 hash:=NK.hash P w
 draws:=NK.draws
 room:=λA=>A.units+10<cLine
 inj:=λhx hy=>hx.1.inj hy.1
 keeps:=λx ho hd hs=>⟨x.1.keeps ho hd hs,x.2⟩
 pyHash:=λhu hk h=>Ug _ _ _ _ _ _ (by have:=hk.2;omega) hk.1 h
 eqBool:=λhu hx hy h=>ae8 8 _ _ _ _ _ _ hx.2 (by omega) hx.1 hy.1 P w _ _ h
 quiet:=λhk h=>M5 8 _ _ _ _ _ _ hk.2 hk.1 h
end
abbrev Key:=Sum Int Str
def De:Key->Value->Bool
 | .inl k,v=>Value.isInt k v
 | .inr x,v=>Value.isStrOf x v
def ag1(w:World):Key->Int
 | .inl k=>hashInt k
 | .inr x=>hashStr w x
theorem d9:∀{k} {v},De k v=true->(∃i t,k=Sum.inl i/\v=Value.int i t)\/(∃x t,k=Sum.inr x/\v=Value.str x t)
 | .inl i,v,h=>by
  obtain⟨t,e⟩:=Value.isInt_shape (k:=i) (v:=v) h;exact .inl ⟨i,t,rfl,e⟩
 | .inr x,v,h=>by
  obtain⟨t,e⟩:=Value.isStrOf_shape (x:=x) (v:=v) h;exact .inr ⟨x,t,rfl,e⟩
def Qj(i)(t):De (.inl i) (.int i t)=true:=by simp[De,Value.isInt]
def Qi(x)(t):De (.inr x) (.str x t)=true:=by simp[De,Value.isStrOf]
def acI(a b):decide ((Sum.inl a:Key)=Sum.inl b)=(a == b):=by
 by_cases e:a=b
 ·subst e;simp
 ·have h:¬(Sum.inl a:Key)=Sum.inl b:=λq=>e (Sum.inl.inj q);rw[Qw5 h];exact(Qwv.mpr e).symm
def acF(a b):decide ((Sum.inr a:Key)=Sum.inr b)=decide (a=b):=by
 by_cases e:a=b
 ·subst e;simp
 ·have h:¬(Sum.inr a:Key)=Sum.inr b:=λq=>e<|Sum.inr.inj q;rw[Qw5 h,Qw5 e]
def acH(a)(b):decide ((Sum.inl a:Key)=Sum.inr b)=false:=Qw5<|λq=>nomatch q
def acG(a)(b):decide ((Sum.inr a:Key)=Sum.inl b)=false:=Qw5<|λq=>nomatch q
def iC(prog:Program)(w:World):PySem.KeyKind prog w Key where
 is:=De
 hash:=ag1 w
 inj:=λv a b ha hb=>by
  rcases d9 ha with ⟨i,t,rfl,rfl⟩|⟨x,t,rfl,rfl⟩
  ·rcases d9 hb with ⟨j,u,rfl,e⟩|⟨y,u,rfl,e⟩
   ·injection e with e1 _;rw[e1]
   ·exact nomatch e
  ·rcases d9 hb with ⟨j,u,rfl,e⟩|⟨y,u,rfl,e⟩
   ·exact nomatch e
   ·injection e with e1 _;rw[e1]
 byValue:=λk v h=>by
  rcases d9 h with ⟨i,t,rfl,rfl⟩|⟨x,t,rfl,rfl⟩<;>rfl
 pyHash:=λhv h=>by
  rcases d9 hv with ⟨i,t,rfl,rfl⟩|⟨x,t,rfl,rfl⟩
  ·exact wpAny_pyHash_int h
  ·exact wpAny_pyHash_str h
 eqBool:=λhu hv h=>by
  rcases d9 hu with ⟨i,t,rfl,rfl⟩|⟨x,t,rfl,rfl⟩
  ·rcases d9 hv with ⟨j,u,rfl,rfl⟩|⟨y,u,rfl,rfl⟩
   ·rw[acI] at h;exact wpAny_eqBool_int h
   ·rw[acH] at h;exact SeqAt.EqAt.int_str i t y u _ _ _ _ h
  ·rcases d9 hv with ⟨j,u,rfl,rfl⟩|⟨y,u,rfl,rfl⟩
   ·rw[acG] at h;exact SeqAt.EqAt.str_int x t j u _ _ _ _ h
   ·rw[acF] at h;exact wpAny_eqBool_str h
 «strs»:=λk x t v h=>by
  rcases d9 h with ⟨i,u,rfl,e⟩|⟨y,u,rfl,e⟩
  ·exact nomatch e
  ·injection e with e1 _
   subst e1;cases v<;>rfl
def Ii(prog)(w)(i)(t):(iC prog w).is (.inl i) (.int i t)=true:=Qj i t
def Ih(prog)(w)(x)(t):(iC prog w).is (.inr x) (.str x t)=true:=Qi x t
inductive V where
 | non|bl (b:Bool)|int (i:Int)|str (x:Str)|byt (b:Array UInt8)|flt (b:UInt64)|ref (a:Addr)|ty (n:String)
 deriving DecidableEq
def RelV:V->Value->Prop
 | .non,u=>u=Value.none
 | .bl b,u=>u=Value.bool b
 | .int i,u=>∃t,u=Value.int i t
 | .str x,u=>∃t,u=Value.str x t
 | .byt b,u=>∃t,u=Value.bytes b t
 | .flt b,u=>∃t,u=Value.float b t
 | .ref a,u=>u=Value.ref a
 | .ty n,u=>u=Value.type n
abbrev Vals:List V->List Value->Prop:=Paired RelV
def Vals.length(r:Vals xs us):xs.length=us.length:=Paired.length r
theorem Vals.get:∀{xs} {us} {i:Nat} {x},Vals xs us->xs[i]? = some x->∃u,us[i]? = some u/\RelV x u
 | _,_,_,_,.nil,e=>by simp at e
 | _,_,0,_,.cons r _,e=>by simp at e;subst e;exact⟨_,rfl,r⟩
 | _,_,i+1,x,.cons _ t,e=>by
  obtain⟨u,h1,h2⟩:=Vals.get t (by simpa using e);exact⟨u,by simpa using h1,h2⟩
theorem Vals.set(r:RelV x u):∀{xs} {us} i,Vals xs us->Vals (xs.set i x) (us.set i u)
 | _,_,_,.nil=>.nil
 | _,_,0,.cons _ t=>.cons r t
 | _,_,i+1,.cons q t=>.cons q<|Vals.set r i t
theorem Vals.append:∀{xs ys} {us ws},Vals xs us->Vals ys ws->Vals (xs++ys) (us++ws)
 | _,_,_,_,.nil,s=>s
 | _,_,_,_,.cons r t,s=>.cons r<|Vals.append t s
theorem Vals.take:∀{xs} {us} n,Vals xs us->Vals (xs.take n) (us.take n)
 | _,_,0,_=>.nil
 | _,_,_+1,.nil=>.nil
 | _,_,n+1,.cons r t=>.cons r<|Vals.take n t
theorem Vals.drop:∀{xs} {us} n,Vals xs us->Vals (xs.drop n) (us.drop n)
 | _,_,0,r=>r
 | _,_,_+1,.nil=>.nil
 | _,_,n+1,.cons _ t=>Vals.drop n t
def Ck:Option V->Option Value->Prop
 | some v,some u=>RelV v u
 | none,none=>True
 | _,_=>False
def KV{κ:Type}:List (κ×V)->List (κ×Value)->Prop:=Paired λ(p:κ×V) (q:κ×Value)=>p.1=q.1/\RelV p.2 q.2
def kV:Key->V
 | .inl i=>.int i
 | .inr x=>.str x
inductive HO where
 /-- a list -/
 | lst (xs:List V)
 /-- a tuple (never changes) -/
 | tup (xs:List V)
 /-- a dict whose keys are ints and texts;one whose keys are tuples of ints and texts (the empty one is both) -/
 | dK (kvs:List (Key×V))|dT (kvs:List (List Key×V))|dN (kvs:List (NK×V×V))
 /-- a set of ints: its members,its size -/
 | set (S:Int->Bool) (n:Nat)
 /-- an instance of the class at C,its dict at dx,its attributes -/
 | ins (C dx:Addr) (fs:List (Str×V))
 /-- the dict of the instance at x -/
 | own (x:Addr)
 /-- the dict of an exception -/
 | xd (fs:List (Str×V))
 /-- a bound method,f of x -/
 | met (f x:Addr)
 /-- a range object lo,lo+1,.. below hi -/
 | rng (lo hi:Int)
 /-- a thing that is known to the object (the script;a dict while a loop walks it): read,never written while it is so -/
 | tu (o:Obj) (u:HO)
 /-- a code object's table -/
 | ZD (ps:Array Value)
 /-- a code object's table: whatever it holds,the codes made at these places are known and bear these names -/
 | tab (qs:List (Pos×Str))
 /-- any other thing,by what is true of its one object (a def of one's own: Cj a S n:=HO.ext λh=>..) -/
 | ext (φ:Heap->Prop)
abbrev Hp:=Addr->Option HO
def upd(H:Hp)(a:Addr)(o:HO):Hp:=λb=>if b=a then some o else H b
def aY:upd H a o a=some o:=by unfold upd;rw[if_pos rfl]
def bC(h:b≠a):upd H a o b=H b:=by unfold upd;rw[if_neg h]
def Wj:upd (upd H a o) a u=upd H a u:=by funext b;unfold upd;split<;>rfl
def ae4{H:Hp}(h:H a=some o)(h':H b=some u)(d:o≠u):a≠b:=by intro e;subst e;rw[h] at h';exact d<|Qw8 h'
def cV{H:Hp}(h:H a=some o)(h':H b=none):a≠b:=by intro e;subst e;rw[h] at h';cases h'
def Ci(h:Heap)(a:Addr)(items:Array Value):Prop:=∃o,h.get? a=some o/\o.cls = .type "tuple"/\(∃n,o.data = .seq items n)/\o.dict=none
def Ci.is(x:Ci h a items):IsTup h a items:=let ⟨o,h1,h2,h3,_⟩:=x;⟨o,h1,h2,h3⟩
def Ci.new(h:Heap)(items):Ci (h.push { cls:=.type "tuple",data:=.seq items }) h.objs.size items:=⟨_,Qq4 _ rfl,rfl,⟨_,rfl⟩,rfl⟩
section
variable(P:Program)(w:World)
def gf(H:Hp)(h:Heap)(a:Addr):HO->Prop
 | .lst xs=>xs.length<=sizeLine/\∃(its:List Value) (n:Nat),Vals xs its/\h.get? a=some { cls:=.type "list",data:=.seq its.toArray n }
 | .tup xs=>xs.length<=sizeLine/\∃its:List Value,Vals xs its/\Ci h a its.toArray
 | .dK kvs=>kvs.length<=sizeLine/\(a == sysModules)=false/\∃vs,KV kvs vs/\h.DictOf (iC P w) a vs
 | .dT kvs=>kvs.length<=sizeLine/\(a == sysModules)=false/\∃xs:List (List Key×Addr×Value),
   Paired (λ(p:List Key×V) (q:List Key×Addr×Value)=>p.1=q.1/\H q.2.1=some (.tup (p.1.map kV))/\RelV p.2 q.2.2) kvs xs/\
   ∃o es ep,h.get? a=some o/\o.ExactDict/\o.data = .dict es ep/\es.toList=xs.map (entryOfKey (tupleKind (iC P w)))/\(xs.map (·.1)).Nodup
 | .dN kvs=>kvs.length<=sizeLine/\(a == sysModules)=false/\∃xs:List (NK×Addr×Value),
   Paired (λ(p:NK×V×V) (q:NK×Addr×Value)=>p.1=q.1/\p.2.1 = .ref q.2.1/\RelV p.2.2 q.2.2) kvs xs/\
   ∃o es ep,h.get? a=some o/\o.ExactDict/\o.data = .dict es ep/\es.toList=xs.map (entryOfKey (Uc P w))/\(xs.map (·.1)).Nodup
 | .set S n=>h.SetOf (intKind P w) a S n
 | .ins C dx fs=>H dx=some (.own a)/\fs.length<=1000/\dx≠a/\h.get? a=some (PySem.W.instObj C dx)/\
   ∃mA,h.Ns1 dx mA/\(∀f,Ck (fs.lookup f) (mA f))/\PySem.Within mA (fs.map (·.1))
 | .own _=>∃o,h.get? a=some o
 | .xd fs=>∃mA,h.Ns1 a mA/\∀f,Ck (fs.lookup f) (mA f)
 | .rng lo hi=>∃t u v,h.get? a=some { cls:=.type "range",data:=.fields #[.int lo t,.int hi u,.int 1 v] }
 | .tu o u=>h.get? a=some o/\gf H h a u
 | .ZD ps=>h.get? a=some { cls:=.none,data:=.fields ps }
 | .tab qs=>∃ps:Array Value,h.get? a=some { cls:=.none,data:=.fields ps }/\TriplesOk ps.toList/\∀q∈qs,codeAmong q.1 ps.toList=none\/∃(c:Addr) (o:Obj) (u:HO) (vs:Array Value) (t:Tok),codeAmong q.1 ps.toList=some (.ref c)/\H c=some (.tu o u)/\o.data = .fields vs/\vs[1]? = some (.str q.2 t)
 | .met f x=>h.get? a=some (PySem.W.methodObj (.ref f) (.ref x))
 | .ext φ=>φ h/\(∃o,h.get? a=some o)/\∀h1 h2:Heap,φ h1->(∀o,h1.get? a=some o->h2.get? a=some o)->φ h2
def qO(H:Hp)(h:Heap):Prop:=∀a o,H a=some o->gf P w H h a o
end
section
variable{P:Program}{w:World}{H H':Hp}{h h':Heap}{a:Addr}{o:HO}
def gf.lt(x:gf P w H h a o):a<h.objs.size:=by
 cases o with
 | lst xs=>obtain⟨_,_,_,_,e⟩:=x;exact Qq9 e
 | tup xs=>obtain⟨_,_,_,p⟩:=x;exact p.is.lt
 | dK kvs=>obtain⟨_,_,_,_,o,_,_,e,_⟩:=x;exact Qq9 e
 | dT kvs=>obtain⟨_,_,_,_,o,_,_,e,_⟩:=x;exact Qq9 e
 | dN kvs=>obtain⟨_,_,_,_,o,_,_,e,_⟩:=x;exact Qq9 e
 | set S n=>obtain⟨o,_,_,_,e,_⟩:=x;exact Qq9 e
 | ins C dx fs=>obtain⟨_,_,_,e,_⟩:=x;exact Qq9 e
 | own y=>obtain⟨_,e⟩:=x;exact Qq9 e
 | xd fs=>obtain⟨_,⟨_,_,_,e,_⟩,_⟩:=x;exact Qq9 e
 | rng lo hi=>obtain⟨_,_,_,e⟩:=x;exact Qq9 e
 | tu ob u=>obtain⟨e,_⟩:=x;exact Qq9 e
 | ZD ps=>exact Qq9<|show h.get? a=some _ from x
 | tab qs=>obtain⟨_,e,_⟩:=x;exact Qq9 e
 | met f y=>exact Qq9<|show h.get? a=some _ from x
 | ext φ=>obtain⟨_,⟨_,e⟩,_⟩:=x;exact Qq9 e
theorem Paired.acA{α β:Type}{F G:α->β->Prop}:∀{l₁} {l₂},Paired F l₁ l₂->(∀a b,F a b->G a b)->Paired G l₁ l₂
 | _,_,.nil,_=>.nil
 | _,_,.cons r t,f=>.cons (f _ _ r)<|Paired.acA t f
def gf.stay(x:gf P w H h a o)(k:∀b u,(b=a\/H b=some (.own a))->h.get? b=some u->h'.get? b=some u)
  (ho:∀b,H b=some (.own a)->H' b=some (.own a)) (ht:∀b xs,H b=some (.tup xs)->H' b=some (.tup xs))
  (hz:∀b o u vs,o.data = .fields vs->H b=some (.tu o u)->H' b=some (.tu o u):=by intro _ _ _ _ _ q;exact q):gf P w H' h' a o:=by
 induction o with
 | lst xs=>obtain⟨z,its,n,r,e⟩:=x;exact⟨z,its,n,r,k _ _ (.inl rfl) e⟩
 | tup xs=>obtain⟨z,its,r,ob,e,c⟩:=x;exact⟨z,its,r,ob,k _ _ (.inl rfl) e,c⟩
 | dK kvs=>obtain⟨z,y,vs,r,ob,es,ep,e,c⟩:=x;exact⟨z,y,vs,r,ob,es,ep,k _ _ (.inl rfl) e,c⟩
 | dT kvs=>
  obtain⟨z,y,xs,r,ob,es,ep,e,c⟩:=x;exact⟨z,y,xs,Paired.acA r λp q z=>⟨z.1,ht _ _ z.2.1,z.2.2⟩,ob,es,ep,k _ _ (.inl rfl) e,c⟩
 | dN kvs=>obtain⟨z,y,xs,r,ob,es,ep,e,c⟩:=x;exact⟨z,y,xs,r,ob,es,ep,k _ _ (.inl rfl) e,c⟩
 | set S n=>obtain⟨ob,es,ep,t,e,c⟩:=x;exact⟨ob,es,ep,t,k _ _ (.inl rfl) e,c⟩
 | ins C dx fs=>
  obtain⟨d,z,ne,e,mA,⟨od,es,ep,e2,c⟩,r⟩:=x;exact⟨ho _ d,z,ne,k _ _ (.inl rfl) e,mA,⟨od,es,ep,k _ _ (.inr d) e2,c⟩,r⟩
 | own y=>obtain⟨ob,e⟩:=x;exact⟨ob,k _ _ (.inl rfl) e⟩
 | xd fs=>obtain⟨mA,⟨od,es,ep,e,c⟩,r⟩:=x;exact⟨mA,⟨od,es,ep,k _ _ (.inl rfl) e,c⟩,r⟩
 | rng lo hi=>obtain⟨t,u,v,e⟩:=x;exact⟨t,u,v,k _ _ (.inl rfl) e⟩
 | tu ob u ih=>obtain⟨e,q⟩:=x;exact⟨k _ _ (.inl rfl) e,ih q⟩
 | ZD ps=>
  have e:=x;exact k a _ (.inl rfl) e
 | tab qs=>
  obtain⟨ps,e,t,r⟩:=x;refine⟨ps,k a _ (.inl rfl) e,t,λq hq=>?_⟩;rcases r q hq with z|⟨c,o,u,vs,t,h1,h2,h3,h4⟩
  ·exact .inl z
  ·exact .inr ⟨c,o,u,vs,t,h1,hz c o u vs h3 h2,h3,h4⟩
 | met f y=>
  have e:=x;show h'.get? a=some (PySem.W.methodObj (.ref f)<|.ref y);exact k a _ (.inl rfl) e
 | ext φ=>obtain⟨p,⟨o,e⟩,st⟩:=x;exact⟨st _ _ p λo q=>k _ _ (.inl rfl) q,⟨o,k _ _ (.inl rfl) e⟩,st⟩
def qO.lt(x:qO P w H h)(e:H a=some o):a<h.objs.size:=(x a o e).lt
def qO.fresh(x:qO P w H h)(e:h.objs.size<=a):H a=none:=by
 cases q:H a with
 | none=>rfl
 | some u=>exact absurd (Qw0 (x.lt q) e)<|Qz1 _
def qO.kept(x:qO P w H h)(k:∀b u,h.get? b=some u->h'.get? b=some u):qO P w H h':=λa o e=>
 (x a o e).stay (λb u _ q=>k b u q) (λ_ q=>q) λ_ _ q=>q
def qO.laid(x:qO P w H h)(k:∀b u,h.get? b=some u->h'.get? b=some u)(hp:h.objs.size<=a)(new:gf P w (upd H a o) h' a o):qO P w (upd H a o) h':=λb u e=>by
 have hn:=x.fresh hp;by_cases hb:b=a
 ·subst hb;rw[aY] at e;cases e;exact new
 ·rw[bC hb] at e;exact(x b u e).stay (λc v _ q=>k c v q) (λc q=>by rw[bC (cV q hn)];exact q) (λc xs q=>by rw[bC (cV q hn)];exact q) λc _ _ _ _ q=>by rw[bC (cV q hn)];exact q
end
def Rd(H:Hp)(a:Addr)(u:HO):Prop:=H a=some u\/∃o,H a=some (.tu o u)
def Rd.ok(r:Rd H a u)(x:qO P w H h):gf P w H h a u:=by
 rcases r with r|⟨o,r⟩
 ·exact x a u r
 ·obtain⟨_,q⟩:=x a _ r;exact q
def Mut:Option HO->Prop
 | some (.lst _)=>True
 | some (.dK _)=>True
 | some (.dT _)=>True
 | some (.dN _)=>True
 | some (.set _ _)=>True
 | some (.ins _ _ _)=>True
 | some (.ext _)=>True
 | _=>False
section
variable{P:Program}{w:World}{H:Hp}{h h':Heap}{x e:Addr}{o':HO}
def qO.write(ok:qO P w H h)(mu:Mut (H x))(he:e=x\/H e=some (.own x))(k:∀b u,b≠e->h.get? b=some u->h'.get? b=some u)(heo:∃u,h'.get? e=some u)
  (new:gf P w (upd H x o') h' x o'):qO P w (upd H x o') h':=λb u q=>by
 have aeV:∀c y,H c=some (.own y)->c≠x:=λc y r z=>by subst z;rw[r] at mu;exact mu
 have agV:∀c xs,H c=some (.tup xs)->c≠x:=λc xs r z=>by subst z;rw[r] at mu;exact mu
 by_cases hb:b=x
 ·subst hb;rw[aY] at q;cases q;exact new
 ·rw[bC hb] at q;by_cases hbe:b=e
  ·have q':H b=some (.own x):=by
    rcases he with z|z
    ·exact absurd (hbe.trans z) hb
    ·rw[hbe];exact z
   rw[q] at q';cases q';obtain⟨v,hv⟩:=heo;exact⟨v,by rw[hbe];exact hv⟩
  ·refine(ok b u q).stay (λc v hc r=>k c v ?_ r) (λc r=>by rw[bC (aeV c b r)];exact r) (λc xs r=>by rw[bC (agV c xs r)];exact r) λc _ _ _ _ r=>by rw[bC (λz=>by subst z;rw[r] at mu;exact mu)];exact r
   rcases hc with rfl|hc
   ·exact hbe
   ·rintro rfl;rcases he with z|z
    ·exact aeV c b hc z
    ·rw[hc] at z;cases z;exact hb rfl
end
structure Un(fs ex:List Addr)(H H':Hp)(h h':Heap):Prop where
 keep:∀b o,h.get? b=some o->H b=none->b ∉ fs->b ∉ ex->h'.get? b=some o
 slot:∀b o,h.get? b=some o->H b=none->b∈fs->b ∉ ex->∃sl,h'.get? b=some { o with slots:=sl }
 free:∀b o,h.get? b=some o->H b=none->b ∉ ex->H' b=none
 there:∀b o,h.get? b=some o->b ∉ ex->∃o',h'.get? b=some o'
 tups:∀b xs,H b=some (.tup xs)->H' b=some (.tup xs)
 tM:∀b o u,H b=some (.tu o u)->H' b=some (.tu o u)
 wG:∀b ps,H b=some (.ZD ps)->∃more,H' b=some (.ZD (ps++more))
 tabs:∀b qs,H b=some (.tab qs)->H' b=some (.tab qs)
section
variable{fs fs' ex ex':List Addr}{H H1 H2:Hp}{h h1 h2 h':Heap}{a x e:Addr}{o:HO}
def Un.any(u:Un fs ex H H1 h h1)(q:h.get? b=some ob)(n:H b=none)(hx:b ∉ ex):∃sl,h1.get? b=some { ob with slots:=sl }:=by
 by_cases hb:b∈fs
 ·exact u.slot b ob q n hb hx
 ·exact⟨ob.slots,u.keep b ob q n hb hx⟩
def Un.kept(k:∀b u,h.get? b=some u->h'.get? b=some u):Un fs ex H H h h':=
 ⟨λb ob q _ _ _=>k b ob q,λb ob q _ _ _=>⟨ob.slots,k b ob q⟩,λ_ _ _ n _=>n,λb ob q _=>⟨ob,k b ob q⟩,λ_ _ q=>q,λ_ _ _ q=>q,λ_ ps q=>⟨#[],by rw[q];simp⟩,λ_ _ q=>q⟩
def Un.refl:Un fs ex H H h h:=Un.kept λ_ _ q=>q
def Un.laid(k:∀b u,h.get? b=some u->h'.get? b=some u)(hp:h.objs.size<=a)(hn:H a=none):Un fs ex H (upd H a o) h h' where
 keep:=λb u q _ _ _=>k b u q
 slot:=λb u q _ _ _=>⟨u.slots,k b u q⟩
 free:=λb u q n _=>by rw[bC (Qwj<|Qw0 (Qq9 q) hp)];exact n
 there:=λb u q _=>⟨u,k b u q⟩
 tups:=λb xs q=>by rw[bC (cV q hn)];exact q
 tM:=λb u xs q=>by rw[bC (cV q hn)];exact q
 wG:=λb ps q=>⟨#[],by rw[bC (cV q hn),q];simp⟩
 tabs:=λb qs q=>by rw[bC (cV q hn)];exact q
def Un.write(mu:Mut (H x))(he:e=x\/H e=some (.own x))(k:∀b u,b≠e->h.get? b=some u->h'.get? b=some u)(heo:∃u,h'.get? e=some u):Un fs ex H (upd H x o) h h':=by
 have hx:∀b,H b=none->b≠x:=λb n z=>by subst z;rw[n] at mu;exact mu
 have hb:∀b,H b=none->b≠e:=λb n z=>by
  subst z;rcases he with r|r
  ·exact hx b n r
  ·rw[n] at r;cases r
 have hm:∀b u,H b=some u->¬Mut (some u)->b≠x:=λb u q nm z=>by subst z;rw[q] at mu;exact nm mu
 refine⟨λb u q n _ _=>k b u (hb b n) q,λb u q n _ _=>⟨u.slots,k b u (hb b n) q⟩,λb u q n _=>by rw[bC (hx b n)];exact n,λb u q _=>?_,
  λb xs q=>by rw[bC (hm b _ q λz=>z)];exact q,λb u xs q=>by rw[bC (hm b _ q λz=>z)];exact q,λb ps q=>⟨#[],by rw[bC (hm b _ q λz=>z),q];simp⟩,λb qs q=>by rw[bC (hm b _ q λz=>z)];exact q⟩
 by_cases hbe:b=e
 ·subst hbe;exact heo
 ·exact⟨u,k b u hbe q⟩
end
def trk(h:Heap)(H:Hp):List Addr:=(List.range h.objs.size).filter λa=>(H a).isSome
def Fi(h:Heap)(H:Hp):Heap:=PySem.W.hideAll h (trk h H)
theorem Qn(h)(H):(Fi h H).objs.size=h.objs.size:=PySem.W.hideAll_size _ _
def UG(e:h.get? b=some o)(n:H b=none):(Fi h H).get? b=some o:=
 PySem.W.hideAll_get _ e λhm=>by
  have q:=(List.mem_filter.mp hm).2;rw[n] at q;simp at q
def XD(e:(Fi h H).get? b=some o):h.get? b=some o/\H b=none:=by
 have e':=PySem.W.of_hideAll (trk h H) e;refine⟨e',?_⟩;cases q:H b with
 | none=>rfl
 | some x=>
  have hm:b∈trk h H:=List.mem_filter.mpr ⟨Qx6.mpr<|Qq9 e',by simp[q]⟩;have z:(Fi h H).get? b=none:=PySem.W.hideAll_none (trk h H) hm;rw[z] at e;cases e
def YS(g h:Heap)(L:Addr):List (Addr×Obj):=(List.range h.objs.size).filterMap λa=>if a=L\/(g.get? a).isSome=true then none else (h.get? a).map λo=>(a,o)
def rest(g h:Heap)(L d:Addr):List (Addr×Obj):=(YS g h L).filter λp=>decide (p.1≠d)
structure Mod(K:PySem.W.Frag)(mg:Str->Option Value)(base:Heap):Prop where
 Jz:K.In base
 glob:base.Ns mainGlobals mg
 blt:∃mb,base.Ns builtinsNs mb/\∀x:Str,x ≠ "__name__"->mb x=bootBuiltins x
 nolimit:base.NoLimit
structure Cx where
 prog:Program
 w:World
 K:PySem.W.Frag
 mg:Str->Option Value
 base:Heap
 A:Around
 N:List Str
 s₀:Shared
 H₀:Hp
 env:Env
 outer:List Env
 stack:List Env
 ex:List Addr
 fn:Str->Bool
 calm:Bool
 pn:List (Addr×Obj)
 xe:Value->Shared->Prop
def frs(l:List Env):List Addr:=l.filterMap (·.frame)
abbrev Cx.fs(X:Cx):List Addr:=frs X.outer
def wg(sc:Scope)(x:Str):Prop:=sc.names.lookup x=some .local\/sc.names.lookup x=some .cell\/sc.names.lookup x=some .free
def Loc(sc:Scope)(x:Str):Prop:=sc.names.lookup x=some .local\/sc.names.lookup x=some .cell
def Look(env:Env)(h:Heap)(m:Str->Option Value)(x:Str)(u:Value):Prop:=
 (env.kindOf x=some .local/\m x=some u)\/((env.kindOf x=some .cell\/env.kindOf x=some .free)/\∃c,env.cells.lookup x=some c/\h.IsCell c (some u))
structure Cx.Ok(X:Cx):Prop where
 mod:Mod X.K X.mg X.base
 kind:X.env.scope.kind = .function
 glob:X.env.globals=mainGlobals
 blt:X.env.builtins=builtinsNs
 above:X.s₀.heap.objs.size<=X.env.locals
 inj:∀x y c,X.env.cells.lookup x=some c->X.env.cells.lookup y=some c->x=y
 has:∀x,(X.env.kindOf x=some .cell\/X.env.kindOf x=some .free)->∃c,X.env.cells.lookup x=some c
 cab:∀x c,X.fn x=true->X.env.cells.lookup x=some c->X.s₀.heap.objs.size<=c
 hd:X.calm=true->X.A.handled=none
 frames:X.A.frames=some X.stack
 stk:X.stack=X.outer\/(X.stack=X.env::X.outer/\X.env.frame=some X.env.locals)
 exf:∀b∈X.ex,b≠X.env.locals/\∀x c,X.env.cells.lookup x=some c->c≠b
 bs:∀b o,X.base.get? b=some o->X.s₀.heap.get? b=some o/\X.H₀ b=none
 V4:X.base.objs.size<=X.s₀.heap.objs.size
 Qf:∀b o,X.base.get? b=some o->b ∉ X.ex
 Qv:∀b∈X.ex,b ∉ X.fs
 vK:X.s₀.heap.FunFrames X.base X.outer
 frf:∀b∈X.fs,X.H₀ b=none
structure Inv(X:Cx)(pins:List (Addr×Obj))(σ:List (Option V))(H:Hp)(s:Shared):Prop where
 ok:X.Ok
 os:s.os=X.s₀.os
 bare:AllBare s.gens
 base:Un X.fs X.ex X.H₀ H X.s₀.heap s.heap
 loc:∃m,s.heap.Ns X.env.locals m/\∀(i:Nat) (x:Str) (v:V),X.N[i]? = some x->σ[i]? = some (some v)->wg X.env.scope x->∃u,RelV v u/\Look X.env s.heap m x u
 cell:∀x c,X.env.cells.lookup x=some c->∃v,s.heap.IsCell c v
 free:H X.env.locals=none
 mD:∀x c,X.env.cells.lookup x=some c->H c=none\/(X.fn x=false/\∃o u,H c=some (.tu o u))
 pin:∀p∈X.pn++pins,s.heap.get? p.1=some p.2/\H p.1=none/\p.1≠X.env.locals/\p.1 ∉ X.fs/\∀v,p.2.data ≠ .cell v
 hok:qO X.prog X.w H s.heap
 len:σ.length=X.N.length
section
variable{X:Cx}{pins:List (Addr×Obj)}{σ:List (Option V)}{H H':Hp}{s:Shared}{h':Heap}
def Cx.Ok.acr(ok:X.Ok)(e:X.base.get? b=some o):b ∉ X.fs:=λhb=>by
 have:=(ok.vK.mem hb).1;rw[e] at this;cases this
def Inv.bs(I:Inv X pins σ H s):∀b o,X.base.get? b=some o->s.heap.get? b=some o/\H b=none:=λb o e=>
 ⟨I.base.keep b o (I.ok.bs b o e).1 (I.ok.bs b o e).2 (I.ok.acr e)<|I.ok.Qf b o e,I.base.free b o (I.ok.bs b o e).1 (I.ok.bs b o e).2<|I.ok.Qf b o e⟩
def Inv.bk(I:Inv X pins σ H s):∀b o,X.base.get? b=some o->s.heap.get? b=some o:=λb o e=>(I.bs b o e).1
def Inv.mod(I:Inv X pins σ H s):Mod X.K X.mg X.base:=I.ok.mod
def Inv.JB(I:Inv X pins σ H s):X.K.In s.heap:=I.ok.mod.Jz.keeps I.bk
def Inv.lt(I:Inv X pins σ H s):X.env.locals<s.heap.objs.size:=let ⟨_,hn,_⟩:=I.loc;hn.lt
def Inv.sz(I:Inv X pins σ H s):X.s₀.heap.objs.size<=s.heap.objs.size:=Qq0 I.ok.above<|Qz7 I.lt
def Inv.agW(I:Inv X pins σ H s){a:Addr}(h:s.heap.objs.size<=a):a ∉ X.fs:=λhb=>by
 obtain⟨_,o,ho,_⟩:=I.ok.vK.mem hb;exact absurd (Qw0 (Qq9 ho)<|Qq0 I.sz h)<|Qz1 _
def Inv.Yv(I:Inv X pins σ H s):∀x c,X.env.cells.lookup x=some c->c≠X.env.locals:=λx c e z=>by
 obtain⟨v,o,ho,hd⟩:=I.cell x c e;obtain⟨m,⟨o',es,ep,ho',hd',_⟩,_⟩:=I.loc;rw[z,ho'] at ho;cases ho;rw[hd'] at hd;cases hd
def Inv.vK(I:Inv X pins σ H s):s.heap.FunFrames X.base X.outer:=by
 have all:∀l,(∀b∈frs l,b∈X.fs)->X.s₀.heap.FunFrames X.base l->s.heap.FunFrames X.base l:=by
  intro l
  induction l with
  | nil=>intro _ _;trivial
  | cons env r ih=>
   intro hs hl;obtain⟨hk,⟨L,o,hf,hn,ho,hd⟩,hr⟩:=hl;have hL:=hs L (by unfold frs;rw[Qz5,hf];exact Qqk);obtain⟨sl,e⟩:=I.base.slot L o ho (I.ok.frf L hL) hL λz=>I.ok.Qv L z hL;exact⟨hk,⟨L,_,hf,hn,e,hd⟩,ih (λb hb=>hs b (by unfold frs;rw[Qz5,hf];exact Qqw _ hb)) hr⟩
 exact all X.outer (λ_ hb=>hb) I.ok.vK
def Inv.stack(I:Inv X pins σ H s):s.heap.FunFrames X.base X.stack:=by
 rcases I.ok.stk with e|⟨e,hf⟩
 ·rw[e];exact I.vK
 ·rw[e];obtain⟨m,hn,_⟩:=I.loc;refine .cons (by rw[I.ok.kind];decide) hf hn ?_ I.vK;exact Heap.get?_none_of_le<|Qq0 I.ok.V4 I.ok.above
def Inv.J6(I:Inv X pins σ H s):∀b∈frs X.stack,b∈X.env.locals::X.fs:=λb hb=>by
 rcases I.ok.stk with e|⟨e,hf⟩
 ·rw[e] at hb;exact Qqw _ hb
 ·rw[e] at hb;unfold frs at hb;rw[Qz5,hf] at hb;exact hb
def Inv.DR(I:Inv X pins σ H s):∀b∈frs X.stack,H b=none:=λb hb=>by
 rcases Qq3.mp (I.J6 b hb) with e|hb
 ·rw[e];exact I.free
 ·obtain⟨_,o,ho,_⟩:=I.ok.vK.mem hb;exact I.base.free b o ho (I.ok.frf b hb) λz=>I.ok.Qv b z hb
def Inv.step{ch:List Addr}(I:Inv X pins σ H s)
  (hch:∀b∈ch,(b∈X.ex\/X.s₀.heap.objs.size<=b)/\b≠X.env.locals/\(∀x c,X.env.cells.lookup x=some c->c≠b)/\∀p∈X.pn++pins,p.1≠b)
  (keep:∀b o,b≠X.env.locals->b ∉ X.fs->b ∉ ch->s.heap.get? b=some o->H b=none->h'.get? b=some o)
  (slot:∀b o,b≠X.env.locals->b∈X.fs->b ∉ ch->s.heap.get? b=some o->H b=none->∃sl,h'.get? b=some { o with slots:=sl }) (free:∀b o,b ∉ ch->s.heap.get? b=some o->H b=none->H' b=none)
  (there:∀b o,b ∉ ch->s.heap.get? b=some o->∃o',h'.get? b=some o')
  (tups:∀b xs,H b=some (.tup xs)->H' b=some (.tup xs)) (tM:∀b o u,H b=some (.tu o u)->H' b=some (.tu o u)) (wG:∀b ps,H b=some (.ZD ps)->∃more,H' b=some (.ZD (ps++more)))
  (ns:∀m,s.heap.Ns X.env.locals m->h'.Ns X.env.locals m) (hok:qO X.prog X.w H' h') (hg:AllBare g')
  (tabs:∀b qs,H b=some (.tab qs)->H' b=some (.tab qs):=by intro _ _ q;exact q) :
  Inv X pins σ H' { s with heap:=h',gens:=g',drawn:=d',toks:=t' }:=by
 have neL:∀b o,X.s₀.heap.get? b=some o->b≠X.env.locals:=λb o e=>Qwj<|Qw0 (Qq9 e) I.ok.above;have neC:∀b o,X.s₀.heap.get? b=some o->b ∉ X.ex->b ∉ ch:=λb o e hx hb=>by
  rcases(hch b hb).1 with z|z
  ·exact hx z
  ·exact absurd (Qw0 (Qq9 e) z)<|Qz1 _
 have cellK:∀x c,X.env.cells.lookup x=some c->∀v,s.heap.IsCell c v->h'.IsCell c v:=λx c e v ⟨o,ho,hd⟩=>by
  have nch:=λz=>(hch c z).2.2.1 x c e rfl;rcases I.mD x c e with hn|⟨_,fo,fu,hz⟩
  ·by_cases hc:c∈X.fs
   ·obtain⟨sl,q⟩:=slot c o (I.Yv x c e) hc nch ho hn;exact⟨_,q,hd⟩
   ·exact⟨o,keep c o (I.Yv x c e) hc nch ho hn,hd⟩
  ·have e1:=(I.hok c _ hz).1;rw[ho] at e1;cases e1;exact⟨o,(hok c _<|tM c o fu hz).1,hd⟩
 refine⟨I.ok,I.os,hg,⟨λb o e n hb hx=>?_,λb o e n hb hx=>?_,λb o e n hx=>?_,λb o e hx=>?_,λb xs e=>tups b xs<|I.base.tups b xs e,λb o xs e=>tM b o xs<|I.base.tM b o xs e,λb ps e=>?_,λb qs e=>tabs b qs<|I.base.tabs b qs e⟩,?_,λx c e=>?_,?_,λx c e=>?_,λp hp=>?_,hok,I.len⟩
 ·exact keep b o (neL b o e) hb (neC b o e hx) (I.base.keep b o e n hb hx)<|I.base.free b o e n hx
 ·obtain⟨sl,e1⟩:=I.base.slot b o e n hb hx;obtain⟨sl',e2⟩:=slot b _ (neL b o e) hb (neC b o e hx) e1<|I.base.free b o e n hx;exact⟨sl',e2⟩
 ·obtain⟨o',e1⟩:=I.base.there b o e hx;exact free b o' (neC b o e hx) e1<|I.base.free b o e n hx
 ·obtain⟨o',e1⟩:=I.base.there b o e hx;exact there b o' (neC b o e hx) e1
 ·obtain⟨m1,e1⟩:=I.base.wG b ps e;obtain⟨m2,e2⟩:=wG b _ e1;exact⟨m1++m2,by rw[e2,Array.append_assoc]⟩
 ·obtain⟨m,hn,hl⟩:=I.loc;refine⟨m,ns m hn,λi x v e1 e2 e3=>?_⟩;obtain⟨u,r,l⟩:=hl i x v e1 e2 e3;refine⟨u,r,?_⟩;rcases l with l|⟨k,c,e,z⟩
  ·exact .inl l
  ·exact .inr ⟨k,c,e,cellK x c e _ z⟩
 ·obtain⟨v,z⟩:=I.cell x c e;exact⟨v,cellK x c e v z⟩
 ·obtain⟨m,⟨o,_,_,ho,_⟩,_⟩:=I.loc;exact free _ o (λz=>(hch _ z).2.1 rfl) ho I.free
 ·rcases I.mD x c e with hn|⟨h1,fo,fu,hz⟩
  ·obtain⟨v,o,ho,hd⟩:=I.cell x c e;exact .inl<|free c o (λz=>(hch c z).2.2.1 x c e rfl) ho hn
  ·exact .inr ⟨h1,fo,fu,tM c fo fu hz⟩
 ·obtain⟨e,n,ne,nf,d⟩:=I.pin p hp;have nch:=λz=>(hch p.1 z).2.2.2 p hp rfl;exact⟨keep p.1 p.2 ne nf nch e n,free p.1 p.2 nch e n,ne,nf,d⟩
def Inv.un(I:Inv X pins σ H s)(u:Un X.fs [] H H' s.heap h')(hok:qO X.prog X.w H' h'):Inv X pins σ H' { s with heap:=h',toks:=t' }:=by
 obtain⟨m,⟨o,es,ep,ho,r⟩,_⟩:=id I.loc;obtain⟨sl,hL⟩:=u.any ho I.free (by simp);exact I.step (ch:=[]) (λ_ z=>nomatch z) (λb o _ hb _ e n=>u.keep b o e n hb (by simp)) (λb o _ hb _ e n=>u.slot b o e n hb (by simp)) (λb o _ e n=>u.free b o e n (by simp)) (λb o _ e=>u.there b o e (by simp)) u.tups u.tM u.wG (λm' hm=>by
  obtain⟨o',es',ep',ho',r'⟩:=hm;rw[ho] at ho';cases ho';exact⟨_,es',ep',hL,r'⟩) hok I.bare u.tabs
def Inv.call(I:Inv X pins σ H s)(u:Un (frs X.stack) ch H H' s.heap h')(hok:qO X.prog X.w H' h')(hg:AllBare g')
  (hch:∀b∈ch,(b∈X.ex\/X.s₀.heap.objs.size<=b)/\b≠X.env.locals/\(∀x c,X.env.cells.lookup x=some c->c≠b)/\∀p∈X.pn++pins,p.1≠b) :
  Inv X pins σ H' { s with heap:=h',gens:=g',drawn:=d',toks:=t' }:=by
 obtain⟨m,⟨o,es,ep,ho,r⟩,_⟩:=id I.loc;obtain⟨sl,hL⟩:=u.any ho I.free λz=>(hch _ z).2.1 rfl;exact I.step hch (λb o hL hb hc e n=>u.keep b o e n (λz=>(Qq3.mp<|I.J6 b z).elim hL hb) hc) (λb o _ _ hc e n=>u.any e n hc) (λb o hc e n=>u.free b o e n hc) (λb o hc e=>u.there b o e hc) u.tups u.tM u.wG (λm' hm=>by
  obtain⟨o',es',ep',ho',r'⟩:=hm;rw[ho] at ho';cases ho';exact⟨_,es',ep',hL,r'⟩) hok hg u.tabs
def Inv.turned(I:Inv X pins σ H s)(k:∀b o,b≠it->s.heap.get? b=some o->h'.get? b=some o)(hn:H it=none)(hL:it≠X.env.locals)
  (h1:it∈X.ex\/X.s₀.heap.objs.size<=it) (h2:∀x c,X.env.cells.lookup x=some c->c≠it) (h3:∀p∈X.pn++pins,p.1≠it):Inv X pins σ H { s with heap:=h',toks:=t' }:=by
 have nit:∀b u,H b=some u->b≠it:=λb u e z=>by rw[z,hn] at e;cases e
 refine I.step (ch:=[it]) (λb hb=>?_) (λb o _ _ hc e _=>k b o (λz=>hc (by simp[z])) e) (λb o _ _ hc e _=>⟨o.slots,k b o (λz=>hc (by simp[z])) e⟩) (λ_ _ _ _ n=>n)
  (λb o hc e=>⟨o,k b o (λz=>hc (by simp[z])) e⟩) (λ_ _ e=>e) (λ_ _ _ e=>e) (λb ps e=>⟨#[],by rw[e];simp⟩) (λm hm=>?_) (λb u e=>?_) I.bare
 ·have e:b=it:=by simpa using hb
  subst e;exact⟨h1,hL,h2,h3⟩
 ·obtain⟨o,es,ep,ho,r⟩:=hm;exact⟨o,es,ep,k _ o (Ne.symm hL) ho,r⟩
 ·refine(I.hok b u e).stay (λc v hc q=>k c v ?_ q) (λ_ q=>q) λ_ _ q=>q;rcases hc with z|z
  ·rw[z];exact nit b u e
  ·exact nit c _ z
def Inv.tok(I:Inv X pins σ H s)(t):Inv X pins σ H { s with toks:=t }:=I.un Un.refl I.hok
def Inv.kept(I:Inv X pins σ H s)(k:∀b u,s.heap.get? b=some u->h'.get? b=some u):Inv X pins σ H { s with heap:=h',toks:=t' }:=I.un (Un.kept k)<|I.hok.kept k
def Inv.laid{a:Addr}(I:Inv X pins σ H s)(k:∀b u,s.heap.get? b=some u->h'.get? b=some u)(hp:s.heap.objs.size<=a)(new:gf X.prog X.w (upd H a o) h' a o) :
  Inv X pins σ (upd H a o) { s with heap:=h',toks:=t' }:=I.un (Un.laid k hp<|I.hok.fresh hp)<|I.hok.laid k hp new
def Inv.write(I:Inv X pins σ H s)(mu:Mut (H x))(he:e=x\/H e=some (.own x))(k:∀b u,b≠e->s.heap.get? b=some u->h'.get? b=some u)(heo:∃u,h'.get? e=some u)
  (new:gf X.prog X.w (upd H x o) h' x o):Inv X pins σ (upd H x o) { s with heap:=h',toks:=t' }:=I.un (Un.write mu he k heo)<|I.hok.write mu he k heo new
def Inv.weak(I:Inv X pins σ H s)(hl:σ'.length=σ.length)(w:∀(i:Nat) v,σ'[i]? = some (some v)->σ[i]? = some (some v)):Inv X pins σ' H s:=
 ⟨I.ok,I.os,I.bare,I.base,let ⟨m,hn,hl'⟩:=I.loc;⟨m,hn,λi x v e1 e2 e3=>hl' i x v e1 (w i v e2) e3⟩,I.cell,I.free,I.mD,I.pin,I.hok,hl.trans I.len⟩
def Inv.My(I:Inv X pins σ H s)(h:∀p∈ZW,s.heap.get? p.1=some p.2/\H p.1=none/\p.1≠X.env.locals/\p.1 ∉ X.fs/\∀v,p.2.data ≠ .cell v):Inv X ZW σ H s:=
 ⟨I.ok,I.os,I.bare,I.base,I.loc,I.cell,I.free,I.mD,λp hp=>(Qxv.mp hp).elim (λz=>I.pin p<|Qkx _ z)<|h p,I.hok,I.len⟩
def zQ{N:List Str}(hN:N.Nodup){i j:Nat}(a:N[i]? = some x)(b:N[j]? = some x):i=j:=by obtain⟨h1,e1⟩:=Qwq.mp a;obtain⟨h2,e2⟩:=Qwq.mp b;exact(List.getElem_inj hN).mp<|e1.trans e2.symm
def CG(I:Inv X pins σ H s)(hN:X.N.Nodup)(hi:X.N[i]? = some x)(hx:Loc X.env.scope x)(r:RelV v u)
  (h:∀s',Inv X pins (σ.set i (some v)) H s'->(∃a,Heap.SameBut a s.heap s'.heap/\(a=X.env.locals\/X.env.cells.lookup x=some a))->Q () s') (hf:X.fn x=true\/X.env.scope.names.lookup x=some .local:=by first|exact .inl rfl|exact .inr rfl|assumption):wpAny M A (storeName X.env x u) Q E s:=by
 obtain⟨m,hn,hl⟩:=id I.loc;have hcls:(X.env.scope.kind == .class||(X.env.scope.kind == .module&&X.env.locals != X.env.globals))=false:=by rw[I.ok.kind];rfl
 have hiσ:i<σ.length:=by rw[I.len];exact(Qwq.mp hi).1
 have Yv:=I.Yv;have tracked:∀{a} {h'},(∃o,s.heap.get? a=some o/\H a=none)->Heap.SameBut a s.heap h'->qO X.prog X.w H h':=λ{a h'} ha hs b ob e=>by
  obtain⟨_,_,hfree⟩:=ha;refine(I.hok b ob e).stay (λc w' hc q=>(hs.2 c ?_).trans q) (λ_ q=>q) λ_ _ q=>q;rintro rfl;rcases hc with rfl|hc
  ·rw[hfree] at e;cases e
  ·rw[hfree] at hc;cases hc
 rcases hx with hk|hk
 ·refine wpAny_storeName_local hk hn (λh' hn' hs=>?_) hcls;obtain⟨oL,_,_,hoL,_⟩:=id hn;refine h _ ⟨I.ok,I.os,I.bare,⟨λb o e n hb hx=>?_,λb o e n hb hx=>?_,I.base.free,λb o e hx=>?_,I.base.tups,I.base.tM,I.base.wG,I.base.tabs⟩,⟨_,hn',λj y v' e1 e2 e3=>?_⟩,λy c e=>?_,I.free,I.mD,λp hp=>?_,tracked ⟨oL,hoL,I.free⟩ hs,by simpa using I.len⟩ ⟨_,hs,.inl rfl⟩
  ·exact(hs.2 b<|Qwj<|Qw0 (Qq9 e) I.ok.above).trans<|I.base.keep b o e n hb hx
  ·obtain⟨sl,e1⟩:=I.base.slot b o e n hb hx;exact⟨sl,(hs.2 b<|Qwj<|Qw0 (Qq9 e) I.ok.above).trans e1⟩
  ·obtain⟨o',e1⟩:=I.base.there b o e hx;exact⟨o',(hs.2 b<|Qwj<|Qw0 (Qq9 e) I.ok.above).trans e1⟩
  ·by_cases hj:j=i
   ·subst hj;rw[hi] at e1;cases e1;rw[Qwz hiσ] at e2;cases e2;exact⟨u,r,.inl ⟨hk,by simp⟩⟩
   ·rw[Qq6 (Ne.symm hj)] at e2;obtain⟨u',r',q⟩:=hl j y v' e1 e2 e3;refine⟨u',r',?_⟩;rcases q with ⟨k,e⟩|⟨k,c,e,z⟩
    ·refine .inl ⟨k,?_⟩;have:y≠x:=λe=>hj<|zQ hN e1<|e ▸ hi;simp[this,e]
    ·exact .inr ⟨k,c,e,z.sameBut hs<|Yv y c e⟩
  ·obtain⟨w',z⟩:=I.cell y c e;exact⟨w',z.sameBut hs<|Yv y c e⟩
  ·obtain⟨e,n,ne,nf,d⟩:=I.pin p hp;exact⟨(hs.2 p.1 ne).trans e,n,ne,nf,d⟩
 ·have hfn:X.fn x=true:=by
   rcases hf with z|z
   ·exact z
   ·rw[z] at hk;cases hk
  obtain⟨c,hc⟩:=I.ok.has x<|.inl hk;obtain⟨w',z⟩:=I.cell x c hc;refine wpAny_storeName_cell I.ok.kind hk hc z<|λh' hc' hs=>?_;obtain⟨oc,hoc,ahd⟩:=id z;refine h { s with heap:=h' } ⟨I.ok,I.os,I.bare,⟨λb o e n hb hx=>?_,λb o e n hb hx=>?_,I.base.free,λb o e hx=>?_,I.base.tups,I.base.tM,I.base.wG,I.base.tabs⟩,⟨m,hn.sameBut hs<|Ne.symm<|Yv x c hc,λj y v' e1 e2 e3=>?_⟩,λy c' e=>?_,I.free,I.mD,λp hp=>?_,tracked ⟨oc,hoc,(I.mD x c hc).resolve_right λz=>by rw[hfn] at z;cases z.1⟩ hs,by simpa using I.len⟩ ⟨c,hs,.inr hc⟩
  ·exact(hs.2 b<|Qwj<|Qw0 (Qq9 e)<|I.ok.cab x c hfn hc).trans<|I.base.keep b o e n hb hx
  ·obtain⟨sl,e1⟩:=I.base.slot b o e n hb hx;exact⟨sl,(hs.2 b<|Qwj<|Qw0 (Qq9 e)<|I.ok.cab x c hfn hc).trans e1⟩
  ·obtain⟨o',e1⟩:=I.base.there b o e hx;exact⟨o',(hs.2 b<|Qwj<|Qw0 (Qq9 e)<|I.ok.cab x c hfn hc).trans e1⟩
  ·by_cases hj:j=i
   ·subst hj;rw[hi] at e1;cases e1;rw[Qwz hiσ] at e2;cases e2;exact⟨u,r,.inr ⟨.inl hk,c,hc,hc'⟩⟩
   ·rw[Qq6 (Ne.symm hj)] at e2;obtain⟨u',r',q⟩:=hl j y v' e1 e2 e3;refine⟨u',r',?_⟩;rcases q with q|⟨k,c',e,z'⟩
    ·exact .inl q
    ·refine .inr ⟨k,c',e,z'.sameBut hs ?_⟩;rintro rfl;exact hj<|zQ hN e1<|I.ok.inj _ _ _ e hc ▸ hi
  ·by_cases hcc:c'=c
   ·subst hcc;exact⟨_,hc'⟩
   ·obtain⟨w2,z2⟩:=I.cell y c' e;exact⟨w2,z2.sameBut hs hcc⟩
  ·obtain⟨e,n,ne,nf,d⟩:=I.pin p hp;refine⟨(hs.2 p.1 ?_).trans e,n,ne,nf,d⟩;intro q;rw[q,hoc] at e;have q':=Qw8 e;exact d w' (by rw[<-q'];exact ahd)
def yW(I:Inv X pins σ H s)(hN:X.N.Nodup)(hi:X.N[i]? = some x)(hx:Loc X.env.scope x)(r:RelV v u)
  (h:∀s',Inv X pins (σ.set i (some v)) H s'->Q () s') (hf:X.fn x=true\/X.env.scope.names.lookup x=some .local:=by first|exact .inl rfl|exact .inr rfl|assumption):wpAny M A (storeName X.env x u) Q E s:=
 CG I hN hi hx r (λs' I' _=>h s' I') hf
def Inv.call'(I:Inv X pins σ H s)(ho:s'.os=s.os)(u:Un (frs X.stack) ch H H' s.heap s'.heap)(hok:qO X.prog X.w H' s'.heap)(hg:AllBare s'.gens)
  (hch:∀b∈ch,(b∈X.ex\/X.s₀.heap.objs.size<=b)/\b≠X.env.locals/\(∀x c,X.env.cells.lookup x=some c->c≠b)/\∀p∈X.pn++pins,p.1≠b):Inv X pins σ H' s':=by
 obtain⟨h',g',d',t',o'⟩:=s';have e:=ho;subst e;exact I.call u hok hg hch
end
abbrev XK:=Value->Option Addr->Hp->Prop
abbrev St:=List (Option V)
abbrev VK:=V->Hp->Prop
abbrev TE:=St->Hp->VK->Prop
abbrev TT:=St->Hp->(Bool->Hp->Prop)->Prop
abbrev TA:=St->Hp->(List V->Hp->Prop)->Prop
structure Ends where
 nx:St->Hp->Prop
 rt:VK
 bk:St->Hp->Prop:=λ_ _=>False
 ct:St->Hp->Prop:=λ_ _=>False
abbrev TS:=Ends->St->Hp->Prop
def EP(X:Cx)(pins:List (Addr×Obj))(σ:St)(Q:VK)(u:Value)(s':Shared):Prop:=∃v H',Inv X pins σ H' s'/\RelV v u/\Q v H'
def TP(X:Cx)(pins:List (Addr×Obj))(σ:St)(Q:Bool->Hp->Prop)(b:Bool)(s':Shared):Prop:=∃H',Inv X pins σ H' s'/\Q b H'
def AP(X:Cx)(pins:List (Addr×Obj))(σ:St)(Q:List V->Hp->Prop)(us:List Value)(s':Shared):Prop:=∃vs H',Inv X pins σ H' s'/\Vals vs us/\Q vs H'
def SP(X:Cx)(pins:List (Addr×Obj))(D:Ends)(f:Flow)(s':Shared):Prop:=
 match f with
 | .next=>∃σ' H',Inv X pins σ' H' s'/\D.nx σ' H'
 | .brk=>∃σ' H',Inv X pins σ' H' s'/\D.bk σ' H'
 | .cont=>∃σ' H',Inv X pins σ' H' s'/\D.ct σ' H'
 | .ret u=>∃v σ' H',Inv X pins σ' H' s'/\RelV v u/\D.rt v H'
def PE(X:Cx)(e:Expr)(t:TE):Prop:=
 ∀(pins:List (Addr×Obj)) (s:Shared) (σ:St) (H:Hp) (Q:VK),Inv X pins σ H s->t σ H Q->wpAny (model X.prog X.w) X.A (eval e X.env) (EP X pins σ Q) X.xe s
def PT(X:Cx)(e:Expr)(t:TT):Prop:=
 ∀(pins:List (Addr×Obj)) (s:Shared) (σ:St) (H:Hp) (Q:Bool->Hp->Prop),Inv X pins σ H s->t σ H Q->wpAny (model X.prog X.w) X.A (isTrue e X.env (eval e X.env)) (TP X pins σ Q) X.xe s
def PW(X:Cx)(e:Expr)(t:TT):Prop:=
 ∀(whole:Sem Value) (pins:List (Addr×Obj)) (s:Shared) (σ:St) (H:Hp) (Q:Bool->Hp->Prop),Inv X pins σ H s->t σ H Q->wpAny (model X.prog X.w) X.A (isTrue e X.env whole) (TP X pins σ Q) X.xe s
def PW.pt(h:PW X e t):PT X e t:=h _
def PA(X:Cx)(es:List Expr)(t:TA):Prop:=
 ∀(pos:Pos) (pins:List (Addr×Obj)) (s:Shared) (σ:St) (H:Hp) (Q:List V->Hp->Prop),Inv X pins σ H s->t σ H Q->wpAny (model X.prog X.w) X.A (spliced (backTo pos (starEach es X.env))) (AP X pins σ Q) X.xe s
def PS(X:Cx)(st:Stmt)(t:TS):Prop:=
 ∀(pins:List (Addr×Obj)) (s:Shared) (σ:St) (H:Hp) (D:Ends),Inv X pins σ H s->t D σ H->wpAny (model X.prog X.w) X.A (exec st X.env) (SP X pins D) X.xe s
def Gm(X:Cx)(st:List Stmt)(t:TS):Prop:=
 ∀(pins:List (Addr×Obj)) (s:Shared) (σ:St) (H:Hp) (D:Ends),Inv X pins σ H s->t D σ H->wpAny (model X.prog X.w) X.A (execs st X.env) (SP X pins D) X.xe s
def g8{α:Type}{t:Sem α}{Q Q':α->Shared->Prop}(h:wpAny M A t Q E s)(hQ:∀a s,Q a s->Q' a s):wpAny M A t Q' E s:=Qxk h hQ λ_ _ x=>x
section
variable{X:Cx}
def adZ(i:Nat):TE:=λσ H Q=>∃v,σ[i]? = some (some v)/\Q v H
def tC(v:V):TE:=λ_ H Q=>Q v H
def j0{pos:Pos}(hN:X.N[i]? = some x)(hv:wg X.env.scope x)(hd:lr x:=by decide)(hcd:uz x:=by decide):PE X (.Name x pos) (adZ i):=by
 intro pins s σ H Q I h;obtain⟨v,e,h⟩:=h;obtain⟨m,hn,hl⟩:=I.loc;obtain⟨u,r,l⟩:=hl i x v hN e hv;have fin:EP X pins σ Q u s:=⟨v,H,I,r,h⟩;rcases l with ⟨hk,hm⟩|⟨hk,c,hc,hcell⟩
 ·exact wpAny_Name (wpAny_loadName_local I.ok.kind hk hn hm fin) hd
 ·rcases hk with hk|hk
  ·exact wpAny_Name (wpAny_loadName_cell I.ok.kind hk hc hcell fin) hd
  ·exact wpAny_Name (wpAny_loadName_free I.ok.kind hk hc hcell fin hcd) hd
def abR{i j pos}:PE X (.Constant (.int i) j pos) (tC (.int i)):=λ_ _ _ H _ I h=>wpAny_Constant_int ⟨.int i,H,I.tok _,⟨_,rfl⟩,h⟩
def aeK{b j pos}:PE X (.Constant (.bool b) j pos) (tC (.bl b)):=λ_ _ _ H _ I h=>Constant_bool ⟨.bl b,H,I,rfl,h⟩
def abP{j pos}:PE X (.Constant .none j pos) (tC .non):=λ_ _ _ H _ I h=>Constant_none ⟨.non,H,I,rfl,h⟩
def abN{x j pos}:PE X (.Constant (.str x) j pos) (tC (.str x)):=λ_ _ _ H _ I h=>Calls.Constant_str ⟨.str x,H,I.tok _,⟨_,rfl⟩,h⟩
def Gl(X:Cx)(x:Str):Prop:=X.env.kindOf x=some .globalImplicit
def vh{σ:St}(I:Inv X pins σ H s)(hg:Gl X x)(hm:X.mg x=some u)(h:Q u s)
  (hd:lr x:=by decide):wpAny (model X.prog X.w) X.A (eval (.Name x pos) X.env) Q E s:=
 Calls.Name_function_global I.ok.kind hg (Calls.loadGlobal_global (by rw[I.ok.glob];exact I.mod.glob.keeps I.bk) hm h) hd
def zV{E:Value->Shared->Prop}{σ:St}{pos:Pos}(I:Inv X pins σ H s)(hg:Gl X x)(hm:X.mg x=none)(hv:bootBuiltins x=some u)(h:Q u s)
  (hn:x ≠ "__name__":=by decide) (hd:lr x:=by decide):wpAny (model X.prog X.w) X.A (eval (.Name x pos) X.env) Q E s:=by
 obtain⟨mb,h1,h2⟩:=I.mod.blt;exact Calls.Name_function_global I.ok.kind hg (Calls.loadGlobal_builtin (by rw[I.ok.glob];exact I.mod.glob.keeps I.bk) hm (by rw[I.ok.blt];exact h1.keeps I.bk) ((h2 x hn).trans hv) h) hd
def Xm(hg:Gl X x)(hm:X.mg x=some u)(r:RelV v u)(hd:lr x:=by decide):PE X (.Name x pos) (tC v):=
 λ_ _ _ H _ I h=>vh I hg hm ⟨v,H,I,r,h⟩ hd
def Xp{pos:Pos}(hg:Gl X x)(hm:X.mg x=none)(hv:bootBuiltins x=some u)(r:RelV v u)(hn:x ≠ "__name__":=by decide)(hd:lr x:=by decide):PE X (.Name x pos) (tC v):=
 λ_ _ _ H _ I h=>zV I hg hm hv ⟨v,H,I,r,h⟩ hn hd
variable{a b:Expr}{ta tb:TE}{pos:Pos}
def tB(t:TE):TT:=λσ H Q=>t σ H λx H1=>∃c,x = .bl c/\Q c H1
def abB(h:PE X e t)(he:∀whole,isTrue e X.env whole=(do let v <-whole;standAt e.pos;holding [v] (truthy v)):=by intro _;rfl):PT X e (tB t):=by intro pins s σ H Q I hw;refine isTrue_plain (g8 (h pins s σ H _ I hw) λv s1 ⟨x,H1,I1,r1,q1⟩=>?_)<|he _;obtain⟨d,rfl,q⟩:=q1;cases r1;exact wpAny_truthy_bool ⟨H1,I1,q⟩
variable{tA tB':TT}{rest:List Expr}
def agN(t u:TT):TT:=λσ H Q=>t σ H λc H1=>if c=true then u σ H1 Q else Q false H1
def tOr(t u:TT):TT:=λσ H Q=>t σ H λc H1=>if c=true then Q true H1 else u σ H1 Q
def agF(t:TT):TT:=λσ H Q=>t σ H λc H1=>Q (!c) H1
def pw_and1(ha:PT X a tA):PW X (.BoolOp .And [a] pos) tA:=by
 intro wh pins s σ H Q I h;refine isTrue_and<|g8 (ha pins s σ H Q I h) λc s1 e=>?_;cases c with
 | true=>exact isTrue_and_nil e
 | false=>exact e
def pw_or1(ha:PT X a tA):PW X (.BoolOp .Or [a] pos) tA:=by
 intro wh pins s σ H Q I h;refine isTrue_or<|g8 (ha pins s σ H Q I h) λc s1 e=>?_;cases c with
 | false=>exact isTrue_or_nil e
 | true=>exact e
def pw_and(ha:PT X a tA)(hb:PW X (.BoolOp .And (b::rest) pos) tB'):PW X (.BoolOp .And (a::b::rest) pos) (agN tA tB'):=by
 intro wh pins s σ H Q I h;refine isTrue_and<|g8 (ha pins s σ H _ I h) λc s1 ⟨H1,I1,q1⟩=>?_;cases c with
 | true=>exact hb wh pins s1 σ H1 Q I1 q1
 | false=>exact⟨H1,I1,q1⟩
def pw_or(ha:PT X a tA)(hb:PW X (.BoolOp .Or (b::rest) pos) tB'):PW X (.BoolOp .Or (a::b::rest) pos) (tOr tA tB'):=by
 intro wh pins s σ H Q I h;refine isTrue_or<|g8 (ha pins s σ H _ I h) λc s1 ⟨H1,I1,q1⟩=>?_;cases c with
 | true=>exact⟨H1,I1,q1⟩
 | false=>exact hb wh pins s1 σ H1 Q I1 q1
def abC(ha:PT X a tA):PT X (.UnaryOp .Not a pos) (agF tA):=by intro pins s σ H Q I h;exact isTrue_not<|ha pins s σ H (λc H1=>Q (!c) H1) I h
def ad9(ta tb:TE):TE:=λσ H Q=>ta σ H λx H1=>∃c,x = .bl c/\if c=true then tb σ H1 Q else Q (.bl false) H1
def agE(ta tb:TE):TE:=λσ H Q=>ta σ H λx H1=>∃c,x = .bl c/\if c=true then Q (.bl true) H1 else tb σ H1 Q
def abO{op}(h:PE X a t):PE X (.BoolOp op [a] pos) t:=λpins s σ H Q I hw=>BoolOp_one<|h pins s σ H Q I hw
def abS(ha:PE X a ta)(hb:PE X (.BoolOp .And (b::rest) pos) tb):PE X (.BoolOp .And (a::b::rest) pos) (ad9 ta tb):=by
 intro pins s σ H Q I h;refine BoolOp_and<|g8 (ha pins s σ H _ I h) λv s1 ⟨x,H1,I1,r1,q1⟩=>?_;obtain⟨c,rfl,q1⟩:=q1;cases r1;refine wpAny_truthy_bool ?_;cases c with
 | true=>exact hb pins s1 σ H1 Q I1 q1
 | false=>exact⟨.bl false,H1,I1,rfl,q1⟩
def aeI(ha:PE X a ta)(hb:PE X (.BoolOp .Or (b::rest) pos) tb):PE X (.BoolOp .Or (a::b::rest) pos) (agE ta tb):=by
 intro pins s σ H Q I h;refine BoolOp_or<|g8 (ha pins s σ H _ I h) λv s1 ⟨x,H1,I1,r1,q1⟩=>?_;obtain⟨c,rfl,q1⟩:=q1;cases r1;refine wpAny_truthy_bool ?_;cases c with
 | false=>exact hb pins s1 σ H1 Q I1 q1
 | true=>exact⟨.bl true,H1,I1,rfl,q1⟩
def tIf(t:TT)(ta tb:TE):TE:=λσ H Q=>t σ H λc H1=>if c=true then ta σ H1 Q else tb σ H1 Q
def Tw(hc:PT X c tA)(ha:PE X a ta)(hb:PE X b tb):PE X (.IfExp c a b pos) (tIf tA ta tb):=by
 intro pins s σ H Q I h;refine wpAny_IfExp<|g8 (hc pins s σ H _ I h) λd s1 ⟨H1,I1,q1⟩=>?_;cases d with
 | true=>exact ha pins s1 σ H1 Q I1 q1
 | false=>exact hb pins s1 σ H1 Q I1 q1
end
def mR(K:PySem.W.Frag)(H:Hp)(a:Addr)(xs:List V):Prop:=
 Rd H a (.lst xs)\/
  ∃(o:Obj) (its:Array Value) (n:Nat),K.lookup a=some o/\o.cls = .type "list"/\o.dict=none/\o.data = .seq its n/\its.size<=sizeLine/\Vals xs its.toList
def qM(K:PySem.W.Frag)(H:Hp)(a:Addr)(xs:List V):Prop:=
 Rd H a (.tup xs)\/
  ∃(o:Obj) (its:Array Value) (n:Nat),K.lookup a=some o/\o.cls = .type "tuple"/\o.dict=none/\o.data = .seq its n/\its.size<=sizeLine/\Vals xs its.toList
def ahv:Value->Option V
 | .none=>some .non
 | .bool b=>some (.bl b)
 | .int i _=>some (.int i)
 | .str x _=>some (.str x)
 | .bytes b _=>some (.byt b)
 | .float b _=>some (.flt b)
 | .ref a=>some (.ref a)
 | .type n=>some (.ty n)
 | _=>none
def RelV.abs(r:RelV x u):ahv u=some x:=by
 cases x with
 | non=>cases r;rfl
 | bl _=>cases r;rfl
 | int _=>obtain⟨t,rfl⟩:=r;rfl
 | str _=>obtain⟨t,rfl⟩:=r;rfl
 | byt _=>obtain⟨t,rfl⟩:=r;rfl
 | flt _=>obtain⟨t,rfl⟩:=r;rfl
 | ref _=>cases r;rfl
 | ty _=>cases r;rfl
def RelV.inj(r:RelV x u)(q:RelV y u):x=y:=Qw8<|r.abs.symm.trans q.abs
theorem Vals.inj:∀{xs ys} {us},Vals xs us->Vals ys us->xs=ys
 | _,_,_,.nil,.nil=>rfl
 | _,_,_,.cons r t,.cons r' t'=>by rw[r.inj r',Vals.inj t t']
section
variable{X:Cx}{pins:List (Addr×Obj)}{σ:St}{H:Hp}{s:Shared}{a:Addr}{xs ys:List V}
theorem mR.of{K:PySem.W.Frag}(h:H a=some (.lst xs)):mR K H a xs:=.inl<|.inl h
theorem qM.of{K:PySem.W.Frag}(h:H a=some (.tup xs)):qM K H a xs:=.inl<|.inl h
def Inv.list(I:Inv X pins σ H s)(h:mR X.K H a xs):∃its,Vals xs its/\PlainL s.heap a its.toArray/\xs.length<=sizeLine:=by
 rcases h with h|⟨o,its,n,hk,hc,hd,hs,hz,r⟩
 ·obtain⟨z,its,n,r,e⟩:=h.ok I.hok;exact⟨its,r,⟨_,n,e,rfl,rfl,rfl⟩,z⟩
 ·refine⟨its.toList,r,⟨o,n,I.JB a o hk,hc,hd,by simpa using hs⟩,?_⟩;have e:=r.length;simp[Qzj] at e;omega
def Inv.tuple(I:Inv X pins σ H s)(h:qM X.K H a xs):∃its,Vals xs its/\IsTup s.heap a its.toArray/\xs.length<=sizeLine:=by
 rcases h with h|⟨o,its,n,hk,hc,hdn,hs,hz,r⟩
 ·obtain⟨z,its,r,p⟩:=h.ok I.hok;exact⟨its,r,p.is,z⟩
 ·refine⟨its.toList,r,⟨o,I.JB a o hk,hc,n,by simpa using hs⟩,?_⟩;have e:=r.length;simp[Qzj] at e;omega
def Inv.Uo(I:Inv X pins σ H s)(h:mR X.K H a xs)(h':mR X.K H a ys):xs=ys:=by
 obtain⟨its,r,⟨o,n,e,_,_,d⟩,_⟩:=I.list h;obtain⟨its',r',⟨o',n',e',_,_,d'⟩,_⟩:=I.list h';rw[e] at e';cases e';rw[d] at d';injection d' with d1 _
 have:its=its':=by simpa using Qjq Array.toList d1
 subst this;exact r.inj r'
def Inv.OJ(I:Inv X pins σ H s)(h:qM X.K H a xs)(h':qM X.K H a ys):xs=ys:=by
 obtain⟨its,r,⟨o,e,_,n,d⟩,_⟩:=I.tuple h;obtain⟨its',r',⟨o',e',_,n',d'⟩,_⟩:=I.tuple h';rw[e] at e';cases e';rw[d] at d';injection d' with d1 _
 have:its=its':=by simpa using Qjq Array.toList d1
 subst this;exact r.inj r'
end
abbrev Cx.wish(X:Cx)(E:Value->Shared->Prop):Cx:={ X with xe:=E }
abbrev Cx.xn(X:Cx):Cx:=X.wish λ_ _=>False
def Cx.Ok.wish{X:Cx}(ok:X.Ok)(E):(X.wish E).Ok:=
 ⟨ok.mod,ok.kind,ok.glob,ok.blt,ok.above,ok.inj,ok.has,ok.cab,ok.hd,ok.frames,ok.stk,ok.exf,ok.bs,ok.V4,ok.Qf,ok.Qv,ok.vK,ok.frf⟩
def Cx.Ok.gr{X:Cx}(ok:(X.wish E).Ok):X.Ok:=
 ⟨ok.mod,ok.kind,ok.glob,ok.blt,ok.above,ok.inj,ok.has,ok.cab,ok.hd,ok.frames,ok.stk,ok.exf,ok.bs,ok.V4,ok.Qf,ok.Qv,ok.vK,ok.frf⟩
section
variable{X:Cx}{pins:List (Addr×Obj)}{σ:St}{H:Hp}{s:Shared}{E:Value->Shared->Prop}
def Inv.wish(I:Inv X pins σ H s)(E):Inv (X.wish E) pins σ H s:=⟨I.ok.wish E,I.os,I.bare,I.base,I.loc,I.cell,I.free,I.mD,I.pin,I.hok,I.len⟩
def Inv.gr(I:Inv (X.wish E) pins σ H s):Inv X pins σ H s:=⟨I.ok.gr,I.os,I.bare,I.base,I.loc,I.cell,I.free,I.mD,I.pin,I.hok,I.len⟩
def SP.gr(h:SP (X.wish E) pins D f s'):SP X pins D f s':=by
 cases f with
 | next=>obtain⟨σ',H',I,q⟩:=h;exact⟨σ',H',I.gr,q⟩
 | brk=>obtain⟨σ',H',I,q⟩:=h;exact⟨σ',H',I.gr,q⟩
 | cont=>obtain⟨σ',H',I,q⟩:=h;exact⟨σ',H',I.gr,q⟩
 | ret u=>obtain⟨v,σ',H',I,r,q⟩:=h;exact⟨v,σ',H',I.gr,r,q⟩
def PT.xn(h:PT X.xn e t):PT X e t:=λpins s σ H Q I hw=>
 Qxk (h pins s σ H Q (I.wish _) hw) (λ_ _ ⟨H',I',q⟩=>⟨H',I'.gr,q⟩) λ_ _ z=>False.elim z
def Gm.xn{st:List Stmt}(h:Gm X.xn st t):Gm X st t:=λpins s σ H D I hw=>
 Qxk (h pins s σ H D (I.wish _) hw) (λ_ _ q=>q.gr) λ_ _ z=>False.elim z
end
section
variable{X:Cx}{st:Stmt}{rest:List Stmt}{t u:TS}{e:Expr}{te:TE}{pos:Pos}
def ad3:TS:=λD σ H=>D.nx σ H
def agC(t u:TS):TS:=λD σ H=>t { D with nx:=u D } σ H
def Xd:Gm X [] ad3:=λ_ _ σ H _ I h=>wpAny_execs_nil ⟨σ,H,I,h⟩
def HB(h1:PS X st t)(h2:Gm X rest u):Gm X (st::rest) (agC t u):=by
 intro pins s σ H D I h;refine wpAny_execs_cons<|g8 (h1 pins s σ H { D with nx:=u D } I h) λf s1 q=>?_;cases f with
 | next=>
  obtain⟨σ',H',I',q⟩:=q;exact h2 pins s1 σ' H' D I' q
 | ret v=>exact q
 | brk=>exact q
 | cont=>exact q
def Eo(h1:PS X st t):Gm X [st] t:=by
 intro pins s σ H D I h;refine wpAny_execs_cons<|g8 (h1 pins s σ H D I h) λf s1 q=>?_;cases f with
 | next=>exact wpAny_execs_nil q
 | ret v=>exact q
 | brk=>exact q
 | cont=>exact q
def Inv.quiet{σ:St}(I:Inv X pins σ H s):interactive X.env=false:=by simp[interactive,I.ok.kind]
def ad4(te:TE):TS:=λD σ H=>te σ H λ_ H1=>D.nx σ H1
def Ep(he:PE X e te)(hs:swapsWith e none pos.line X.env=pure false:=by rfl):PS X (.Expr e pos) (ad4 te):=by intro pins s σ H D I h;exact wpAny_Expr_any (g8 (he pins s σ H _ I h) λv s1 ⟨x,H1,I1,r1,q1⟩=>⟨σ,H1,I1,q1⟩) I.quiet hs
def agD(te:TE):TS:=λD σ H=>te σ H D.rt
def Tp(he:PE X e te):PS X (.Return (some e) pos) (agD te):=by intro pins s σ H D I h;exact wpAny_Return_some<|g8 (he pins s σ H _ I h) λv s1 ⟨x,H1,I1,r1,q1⟩=>⟨x,σ,H1,I1,r1,q1⟩
def agK(c:TT)(t u:TS):TS:=λD σ H=>c σ H λb H1=>if b=true then t D σ H1 else u D σ H1
def ZQ(hc:PT X c tc)(ha:Gm X a t)(hb:Gm X b u):PS X (.If c a b pos) (agK tc t u):=by
 intro pins s σ H D I h;refine wpAny_If<|g8 (hc pins s σ H _ I h) λd s1 ⟨H1,I1,q1⟩=>?_;cases d with
 | true=>exact ha pins s1 σ H1 D I1 q1
 | false=>exact hb pins s1 σ H1 D I1 q1
end
abbrev TG:=V->St->Hp->(St->Hp->Prop)->Prop
abbrev Y4:=List V->St->Hp->(St->Hp->Prop)->Prop
def PG(X:Cx)(target:Expr)(t:TG):Prop:=
 ∀(pins:List (Addr×Obj)) (s:Shared) (σ:St) (H:Hp) (v:V) (u:Value) (Q:St->Hp->Prop),Inv X pins σ H s->RelV v u->t v σ H Q->
  wpAny (model X.prog X.w) X.A (assign target X.env u) (λ_ s'=>∃σ' H',Inv X pins σ' H' s'/\Q σ' H') X.xe s
def PGs(X:Cx)(ts:List Expr)(t:Y4):Prop:=
 ∀(pins:List (Addr×Obj)) (s:Shared) (σ:St) (H:Hp) (vs:List V) (us:List Value) (Q:St->Hp->Prop),Inv X pins σ H s->Vals vs us->t vs σ H Q->
  wpAny (model X.prog X.w) X.A (assignInOrder ((assignEach ts X.env).map (·.2)) us) (λ_ s'=>∃σ' H',Inv X pins σ' H' s'/\Q σ' H') X.xe s
abbrev iW:=V->V->V->Hp->(Hp->Prop)->Prop
def afU(X:Cx)(t:iW):Prop:=
 ∀(pins:List (Addr×Obj)) (s:Shared) (σ:St) (H:Hp) (o i v:V) (ov iv u:Value) (Q:Hp->Prop),Inv X pins σ H s->RelV o ov->RelV i iv->RelV v u->t o i v H Q->
  wpAny (model X.prog X.w) X.A (setItem ov iv u) (λ_ s'=>∃H',Inv X pins σ H' s'/\Q H') X.xe s
section
variable{X:Cx}{pos:Pos}
def Ja(i:Nat):TG:=λv σ H Q=>Q (σ.set i (some v)) H
def Xk(hN:X.N.Nodup)(hi:X.N[i]? = some x)(hx:Loc X.env.scope x)(hf:X.fn x=true\/X.env.scope.names.lookup x=some .local:=by first|exact .inl rfl|exact .inr rfl|assumption):PG X (.Name x pos) (Ja i):=by intro pins s σ H v u Q I r h;exact wpAny_assign_Name<|yW I hN hi hx r (λs' I'=>⟨_,H,I',h⟩) hf
def aho:Y4:=λvs σ H Q=>vs=[]/\Q σ H
def afD(t:TG)(u:Y4):Y4:=λvs σ H Q=>∃v r,vs=v::r/\t v σ H λσ' H'=>u r σ' H' Q
def Xj:PGs X [] aho:=by intro pins s σ H vs us Q I r h;obtain⟨e,h⟩:=h;subst e;cases r;exact assignInOrder_nil ⟨σ,H,I,h⟩
def Tu(h1:PG X e t)(h2:PGs X es u)
  (hs:(assignEach (e::es) X.env).map (·.2)=assign e X.env::(assignEach es X.env).map (·.2):=by rfl):PGs X (e::es) (afD t u):=by
 intro pins s σ H vs us Q I r h;obtain⟨v,vr,e1,h⟩:=h;subst e1;cases r with
 | cons r rr=>
  rw[hs];refine assignInOrder_cons<|g8 (h1 pins s σ H _ _ _ I r h) λ_ s1 ⟨σ1,H1,I1,q1⟩=>?_;exact h2 pins s1 σ1 H1 _ _ Q I1 rr q1
def ahm(K:PySem.W.Frag)(n:Nat)(t:Y4):TG:=λv σ H Q=>∃a xs,v = .ref a/\qM K H a xs/\xs.length=n/\t xs σ H Q
def abJ{k:Nat}(hc:X.calm=true)(h:PGs X es t)
  (hn:(assignEach es X.env).length=n:=by rfl) (hst:(assignEach es X.env).findIdx? (·.1)=none:=by rfl):PG X (.Tuple es k pos) (ahm X.K n t):=by
 intro pins s σ H v u Q I r hw;obtain⟨a,xs,e1,hq,hl,hw⟩:=hw;subst e1;cases r;obtain⟨its,rv,ht,hz⟩:=I.tuple hq;refine assign_Tuple_tuple (I.ok.hd hc) ht (by simp[hn,<-hl,rv.length]) hst λh' hx=>?_;have I1:Inv X pins σ H { s with heap:=h' }:=I.kept λb o e=>hx b o (Qwj<|Qq9 e) e;exact h pins _ σ H xs _ Q I1 (by simpa using rv) hw
def BV(to ti:TE)(t:iW):TG:=λv σ H Q=>to σ H λo H1=>ti σ H1 λi H2=>t o i v H2 λH3=>Q σ H3
def abK(ho:PE X o to)(hi:PE X i ti)(hs:afU X t)
  (ha:∀v,assign (.Subscript o i pos) X.env v=(do
   let ov <-holding [v] (eval o X.env)
   let iv <-holding [v,ov] (eval i X.env)
   standAt pos
   holding [v,ov,iv] (setItem ov iv v)
   release [v,ov,iv] []):=by intro _;rfl):PG X (.Subscript o i pos) (BV to ti t):=by
 intro pins s σ H v u Q I r h;rw[ha];refine Qqq<|Qx5<|g8 (ho pins s σ H _ I h) λov s1 ⟨x,H1,I1,r1,q1⟩=>?_;refine Qqq<|Qx5<|g8 (hi pins s1 σ H1 _ I1 q1) λiv s2 ⟨y,H2,I2,r2,q2⟩=>?_;refine Qqq<|wpAny_standAt<|Qqq<|Qx5<|g8 (hs pins s2 σ H2 x y v ov iv u _ I2 r1 r2 r q2) λ_ s3 ⟨H3,I3,q3⟩=>?_;exact wpAny_release ⟨σ,H3,I3,q3⟩
def Wr(te:TE)(g:TG):TS:=λD σ H=>te σ H λx H1=>g x σ H1 D.nx
def abG(he:PE X e te)(hg:PG X tg g)(hs:swapsWithSole [tg] e pos.line X.env=pure false:=by rfl)(hw:swappedStores [tg] e X.env=pure none:=by rfl)
  (h1:(assignEach [tg] X.env).map (·.2)=[assign tg X.env]:=by rfl):PS X (.Assign [tg] e pos) (Wr te g):=by
 intro pins s σ H D I h;refine wpAny_Assign_stores (g8 (he pins s σ H _ I h) λv s1 ⟨x,H1,I1,r1,q1⟩=>?_) hs hw;rw[h1];exact g8 (hg pins s1 σ H1 x v _ I1 r1 q1) λ_ s2 q=>q
def Tn(hN:X.N.Nodup)(hi:X.N[i]? = some x)(hx:Loc X.env.scope x)(he:PE X e te)(hs:swapsWith e (some (.Name x pos')) pos.line X.env=pure false:=by rfl)(hf:X.fn x=true\/X.env.scope.names.lookup x=some .local:=by first|exact .inl rfl|exact .inr rfl|assumption) :
  PS X (.Assign [.Name x pos'] e pos) (Wr te (Ja i)):=by
 intro pins s σ H D I h;refine wpAny_Assign_Name (g8 (he pins s σ H _ I h) λv s1 ⟨y,H1,I1,r1,q1⟩=>?_) hs;exact yW I1 hN hi hx r1 (λs2 I2=>⟨_,H1,I2,q1⟩) hf
end
structure It where
 go:Nat->Hp->Prop
 yld:Nat->Hp->V->Hp->Prop
 stop:Nat->Hp->Prop
def Bf(X:Cx)(pins:List (Addr×Obj))(H:Hp)(b:Addr):Prop:=
 H b=none/\b≠X.env.locals/\b ∉ X.fs/\(b∈X.ex\/X.s₀.heap.objs.size<=b)/\(∀x c,X.env.cells.lookup x=some c->c≠b)/\∀p∈X.pn++pins,p.1≠b
def Inv.ac3{σ:St}{b:Addr}(I:Inv X pins σ H s)(hb:s.heap.objs.size<=b)(hn:H' b=none):Bf X pins H' b:=by
 refine⟨hn,Qkw<|Qw0 I.lt hb,I.agW hb,.inr<|Qq0 I.sz hb,λx c e z=>?_,λp hp z=>?_⟩
 ·obtain⟨v,q⟩:=I.cell x c e;exact absurd (Qw0 q.lt (by rw[z];exact hb))<|Qz1 _
 ·exact absurd (Qw0 (Qq9 (I.pin p hp).1) (by rw[z];exact hb))<|Qz1 _
structure Turn(P:Program)(w:World)(K:PySem.W.Frag)(tg:Expr)(J:It)(fp:List Addr)(it:Addr)(tn:Nat->Heap->Prop):Prop where
 mem:it∈fp
 obj:∀i h,tn i h->∀b∈fp,∃o,h.get? b=some o/\∀v,o.data ≠ .cell v
 keep:∀i h h',tn i h->(∀b∈fp,∀o,h.get? b=some o->h'.get? b=some o)->tn i h'
 item:∀(X:Cx),X.prog=P->X.w=w->X.K=K->X.calm=true->∀(i:Nat) (pins:List (Addr×Obj)) (s:Shared) (σ:St) (H:Hp) (E:Value->Shared->Prop),Inv X pins σ H s->(∀b∈fp,Bf X pins H b)->tn i s.heap->J.go i H->
  wpAny (model P w) X.A (pyNext (.ref it)) (λr s1=>∃u,r=some u/\
   wpAny (model P w) X.A (letOwnedTupleGo tg (.ref it) u) (λ_ s2=>∃x H',Inv X pins σ H' s2/\RelV x u/\J.yld i H x H'/\tn (i+1) s2.heap/\∀b∈fp,H' b=none) E s1) E s
 done:∀(X:Cx),X.prog=P->X.w=w->X.K=K->X.calm=true->∀(i:Nat) (pins:List (Addr×Obj)) (s:Shared) (σ:St) (H:Hp) (E:Value->Shared->Prop),Inv X pins σ H s->(∀b∈fp,Bf X pins H b)->tn i s.heap->J.stop i H->
  wpAny (model P w) X.A (pyNext (.ref it)) (λr s1=>r=none/\Inv X pins σ H s1) E s
 self:∀(A:Around) (i:Nat) (s:Shared) (Q:Value->Shared->Prop) (E:Value->Shared->Prop),tn i s.heap->Q (.ref it) s->wpAny (model P w) A (pyIter (.ref it)) Q E s
abbrev TI:=St->Hp->(It->Hp->Prop)->Prop
def PIE(X:Cx)(pins:List (Addr×Obj))(σ:St)(tg:Expr)(R:It->Hp->Prop)(itv:Value)(s2:Shared):Prop:=
 ∃(it:Addr) (fp:List Addr) (tn:Nat->Heap->Prop) (J:It) (H':Hp),itv = .ref it/\Inv X pins σ H' s2/\Turn X.prog X.w X.K tg J fp it tn/\tn 0 s2.heap/\(∀b∈fp,Bf X pins H' b)/\R J H'
def PI(X:Cx)(tg iter:Expr)(wi:TI):Prop:=
 ∀(pins:List (Addr×Obj)) (s:Shared) (σ:St) (H:Hp) (R:It->Hp->Prop),Inv X pins σ H s->wi σ H R->
  wpAny (model X.prog X.w) X.A (eval iter X.env) (λv s1=>wpAny (model X.prog X.w) X.A (pyIter v) (PIE X pins σ tg R) X.xe s1) X.xe s
def Di(ho : s.heap.get? it = some o)(hc : o.cls = .type n)(hd : o.data = .fields vs)
    (hn : ["enumerate", "zip", "dict_itemiterator", "dict_reverseitemiterator", "odict_iterator", "itertools.zip_longest", "itertools.pairwise"].contains n = false) (hQ : Q () s) : wpAny M A (letOwnedTupleGo tg (.ref it) u) Q E s := by
  unfold letOwnedTupleGo;cases tg <;> first
    | exact Qqv hQ
    | (cases u <;> first
        | exact Qqv hQ
        | (refine Qqq<|wpAny_load ho ?_
           rw [hc, hd];show wpAny M A (if (["enumerate", "zip", "dict_itemiterator", "dict_reverseitemiterator", "odict_iterator", "itertools.zip_longest", "itertools.pairwise"].contains n && vs[0]? == some (rawInt _)) = true then _ else _) Q E s;rw [if_neg (by intro h; rw [hn, Bool.false_and] at h; cases h)];exact Qqv hQ))
def Itl(K:PySem.W.Frag)(a:Addr):It:=
 ⟨λi H=>∃xs x,mR K H a xs/\xs[i]? = some x,λi H x H'=>H'=H/\∀xs,mR K H a xs->xs[i]? = some x,λi H=>∃xs,mR K H a xs/\xs.length<=i⟩
def Itt(K:PySem.W.Frag)(a:Addr):It:=
 ⟨λi H=>∃xs x,qM K H a xs/\xs[i]? = some x,λi H x H'=>H'=H/\∀xs,qM K H a xs->xs[i]? = some x,λi H=>∃xs,qM K H a xs/\xs.length<=i⟩
def Itr(lo:Int)(n:Nat):It:=⟨λi _=>i<n,λi H x H'=>H'=H/\x = .int (lo+i),λi _=>n<=i⟩
theorem Oz{P:Program}{w:World}{K:PySem.W.Frag}{tg:Expr}(a it:Addr):Turn P w K tg (Itl K a) [it] it (λi h=>h.IsListIter it a i) where
 mem:=by simp
 obj:=λi h st b hb=>by
  have e:b=it:=by simpa using hb
  subst e;obtain⟨o,e,c,d⟩:=st;exact⟨o,e,λv z=>by rw[d] at z;cases z⟩
 keep:=λi h h' st k=>st.at λo e=>k it (by simp) o e
 item:=by intro X hP hw hK hc i pins s σ H E I hf st hg;subst hP hw hK;obtain⟨xs,x,hq,hx⟩:=hg;obtain⟨its,rv,p,hz⟩:=I.list hq;obtain⟨u,hu,ru⟩:=rv.get hx;obtain⟨f0,f1,f2,f3,f4,f5⟩:=hf it (by simp);refine wpAny_pyNext_list_item st p.isList (by simpa using hu) λh' st' sb=>?_;have I1:Inv X pins σ H { s with heap:=h' }:=I.turned (λb o hb e=>(sb.2 b hb).trans e) f0 f1 f3 f4 f5;obtain⟨o,e,c,d⟩:=id st';exact⟨u,rfl,Di e c d (by decide) ⟨x,H,I1,ru,⟨rfl,λys hy=>by rw[I.Uo hy hq];exact hx⟩,st',λb hb=>(hf b hb).1⟩⟩
 done:=by intro X hP hw hK hc i pins s σ H E I hf st hg;subst hP hw hK;obtain⟨xs,hq,hx⟩:=hg;obtain⟨its,rv,p,hz⟩:=I.list hq;obtain⟨f0,f1,f2,f3,f4,f5⟩:=hf it (by simp);have hl:=rv.length;exact wpAny_pyNext_list_end (I.ok.hd hc) st p.isList (by simp;omega) λh' eb=>⟨rfl,I.turned (λb o hb e=>eb b o hb e) f0 f1 f3 f4 f5⟩
 self:=λ_ _ _ _ _ st h=>wpAny_pyIter_listiter st h
theorem JV{P:Program}{w:World}{K:PySem.W.Frag}{tg:Expr}(a it:Addr):Turn P w K tg (Itt K a) [it] it (λi h=>h.IsTupleIter it a i) where
 mem:=by simp
 obj:=λi h st b hb=>by
  have e:b=it:=by simpa using hb
  subst e;obtain⟨o,e,c,d⟩:=st;exact⟨o,e,λv z=>by rw[d] at z;cases z⟩
 keep:=λi h h' st k=>st.at λo e=>k it (by simp) o e
 item:=by intro X hP hw hK hc i pins s σ H E I hf st hg;subst hP hw hK;obtain⟨xs,x,hq,hx⟩:=hg;obtain⟨its,rv,p,hz⟩:=I.tuple hq;obtain⟨u,hu,ru⟩:=rv.get hx;obtain⟨f0,f1,f2,f3,f4,f5⟩:=hf it (by simp);refine wpAny_pyNext_tuple_item st p (by simpa using hu) λh' st' sb=>?_;have I1:Inv X pins σ H { s with heap:=h' }:=I.turned (λb o hb e=>(sb.2 b hb).trans e) f0 f1 f3 f4 f5;obtain⟨o,e,c,d⟩:=id st';exact⟨u,rfl,Di e c d (by decide) ⟨x,H,I1,ru,⟨rfl,λys hy=>by rw[I.OJ hy hq];exact hx⟩,st',λb hb=>(hf b hb).1⟩⟩
 done:=by intro X hP hw hK hc i pins s σ H E I hf st hg;subst hP hw hK;obtain⟨xs,hq,hx⟩:=hg;obtain⟨its,rv,p,hz⟩:=I.tuple hq;obtain⟨f0,f1,f2,f3,f4,f5⟩:=hf it (by simp);have hl:=rv.length;exact wpAny_pyNext_tuple_end (I.ok.hd hc) st p (by simp;omega) λh' eb=>⟨rfl,I.turned (λb o hb e=>eb b o hb e) f0 f1 f3 f4 f5⟩
 self:=λ_ _ _ _ _ st h=>wpAny_pyIter_tupleiter st h
theorem JW{P:Program}{w:World}{K:PySem.W.Frag}{tg:Expr}(it:Addr)(lo:Int)(n:Nat):Turn P w K tg (Itr lo n) [it] it (λi h=>IsRangeIter h it (lo+(i:Nat)*1) ((n:Int) - (i:Nat)) 1) where
 mem:=by simp
 obj:=λi h st b hb=>by
  have e:b=it:=by simpa using hb
  subst e;exact⟨_,st,λv z=>by
   have z':=z;cases z'⟩
 keep:=λi h h' st k=>k it (by simp) _ st
 item:=by intro X hP hw hK hc i pins s σ H E I hf st hg;subst hP hw hK;obtain⟨f0,f1,f2,f3,f4,f5⟩:=hf it (by simp);have W:=Walks.range (prog:=X.prog) (w:=X.w) (I.ok.hd hc) it lo 1 n;refine W.item i s _ _ hg st λv h' tk hv st' kk=>?_;obtain⟨t,rfl⟩:=hv;have I1:Inv X pins σ H { s with heap:=h',toks:=tk }:=I.turned (λb o hb e=>kk b o (by simpa using hb) e) f0 f1 f3 f4 f5;refine⟨_,rfl,Di st' rfl rfl (by decide) ⟨.int<|lo+i,H,I1,⟨t,?_⟩,⟨rfl,rfl⟩,st',λb hb=>(hf b hb).1⟩⟩;rw[Int.mul_one]
 done:=by intro X hP hw hK hc i pins s σ H E I hf st hg;subst hP hw hK;obtain⟨f0,f1,f2,f3,f4,f5⟩:=hf it (by simp);exact wpAny_pyNext_range_end (I.ok.hd hc) st (by have:n<=i:=hg;omega) λh' eb=>⟨rfl,I.turned (λb o hb e=>eb b o hb e) f0 f1 f3 f4 f5⟩
 self:=λ_ _ _ _ _ st h=>wpAny_pyIter_rangeiter st h
section
variable{X:Cx}{tg:Expr}
def R7{σ:St}{lo hi:Int}(I:Inv X pins σ H s)(h1 : -(2^62)<=lo)(h2:lo<2^62)(h3 : -(2^62)<=hi)(h4:hi<2^62)
  (q:R (Itr lo (hi - lo).toNat) H):wpAny (model X.prog X.w) X.A (pyIter (.ref s.heap.objs.size)) (PIE X pins σ tg R) E { s with heap:=s.heap.push { cls:=.type "range",data:=.fields #[.int lo t,.int hi u,.int 1 v] },toks:=tk }:=by
 refine wpAny_pyIter_range (IsRange.new ..) (small_one h1 h2 h3 h4) ?_;have I1:Inv X pins σ H { s with heap:=s.heap.push { cls:=.type "range",data:=.fields #[.int lo t,.int hi u,.int 1 v] },toks:=tk }:=I.kept λb o e=>Qqx _ e;refine⟨(s.heap.push { cls:=.type "range",data:=.fields #[.int lo t,.int hi u,.int 1 v] }).objs.size,[(s.heap.push { cls:=.type "range",data:=.fields #[.int lo t,.int hi u,.int 1 v] }).objs.size],_,_,H,rfl,
  I1.kept λb o e=>Qqx _ e,JW _ lo (hi - lo).toNat,?_,λb hb=>?_,q⟩
 ·have e1:lo+(0:Nat)*1=lo:=by simp
  have e2:((hi - lo).toNat) - (0:Nat)=Builtin.Range.rangeSize lo hi 1:=by rw[rangeSize_one];split<;>omega
  show IsRangeIter _ _ (lo+(0:Nat)*1) (((hi - lo).toNat) - (0:Nat)) 1;rw[e1,e2];exact Qq4 _ rfl
 ·have e:b=(s.heap.push { cls:=.type "range",data:=.fields #[.int lo t,.int hi u,.int 1 v] }).objs.size:=by simpa using hb
  subst e;exact I1.ac3 (Qqy _)<|I1.hok.fresh<|Qqy _
def afm(ta:TA):TI:=λσ H R=>ta σ H λvs H1=>∃j:Int,vs=[.int j]/\-(2^62)<=j/\j<2^62/\R (Itr 0 j.toNat) H1
def PB(hg:Gl X "range")(hm:X.mg "range" = none)(ha:PA X [a] ta)(hs:starEach [a] X.env=[(false,eval a X.env)]:=by rfl):PI X tg (.Call (.Name "range" p) [a] [] pos) (afm ta):=by
 intro pins s σ H R I h;refine Call_<|zV I hg hm boot_range<|PyProof.Rows.callWith_type1 (g8 (ha pos pins s σ H _ I h) λus s1 ⟨vs,H1,I1,r1,q1⟩=>?_) hs rfl;obtain⟨j,e,q1,q2,q⟩:=q1;subst e;cases r1 with
 | cons r rr=>
  cases rr;obtain⟨t,rfl⟩:=r;exact call_range_1<|R7 I1 (by omega) (by omega) q1 q2 (by simpa using q)
def agL(wi:TI)(g:TG)(tb:TS):TS:=λD σ H=>wi σ H λJ H1=>∃W:Nat->Nat->St->Hp->Prop,(∃m,W 0 m σ H1)/\∀i m σ H,W i m σ H->
 (J.stop i H/\D.nx σ H)\/(J.go i H/\∃N:St->Hp->Prop,(∀σ' H',N σ' H'->∃m',m'<m/\W (i+1) m' σ' H')/\∀x H',J.yld i H x H'->g x σ H' λσ2 H2=>tb { D with nx:=N,ct:=N,bk:=D.nx } σ2 H2)
def zJ(fp:List Addr)(h:Heap):List (Addr×Obj):=fp.filterMap λb=>(h.get? b).map λo=>(b,o)
def qi(hb:b∈fp)(e:h.get? b=some o):(b,o)∈zJ fp h:=List.mem_filterMap.mpr ⟨b,hb,by rw[e];rfl⟩
def Qa(hp:p∈zJ fp h):p.1∈fp/\h.get? p.1=some p.2:=by
 obtain⟨b,hb,e⟩:=List.mem_filterMap.mp hp;cases q:h.get? b with
 | none=>rw[q] at e;cases e
 | some o=>
  rw[q] at e;have e':=Qw8 e;subst e';exact⟨hb,q⟩
def Inv.pinned{σ:St}(I:Inv X pins σ H s)(hf:∀b∈fp,Bf X pins H b)(ho:∀b∈fp,∃o,s.heap.get? b=some o/\∀v,o.data ≠ .cell v):Inv X (pins++zJ fp s.heap) σ H s:=
 I.My λp hp=>(Qxv.mp hp).elim (λz=>I.pin p<|Qxq _ z) λz=>by
  obtain⟨hb,e⟩:=Qa z;obtain⟨f0,f1,f2,_⟩:=hf p.1 hb;obtain⟨o,e',d⟩:=ho p.1 hb;rw[e] at e';cases e';exact⟨e,f0,f1,f2,d⟩
def Inv.uP{σ:St}(I:Inv X (pins++pl) σ H s):Inv X pins σ H s:=I.My λp hp=>I.pin p<|Qxq _<|Qkx _ hp
def abF(hp:PassesOwn (model X.prog X.w) X.A X.env X.xe)(hc:X.calm=true)(hi:PI X tg iter wi)(hg:PG X tg g)(hb:Gm X body tb)
  (hs:∀x,foldedSetIterable iter X.env x=pure x:=by intro _;rfl):PS X (.For tg iter body [] pos) (agL wi g tb):=by
 intro pins s σ H D I h;refine wpAny_For (g8 (hi pins s σ H _ I h) λv s1 h1=>g8 h1 λitv s2 h2=>?_) hs;obtain⟨it,fp,tn,J,H2,e,I2,T,st2,f2,W,⟨m0,w0⟩,turn⟩:=h2;subst e
 -- what stays true of the iterator's objects through the loop
 have stat:∀{H'},(∀b∈fp,H' b=none)->∀b∈fp,Bf X pins H' b:=λhn b hb=>⟨hn b hb,(f2 b hb).2⟩;refine codeAny_forLoop_any (λn s'=>∃i σ' H',Inv X pins σ' H' s'/\tn i s'.heap/\(∀b∈fp,H' b=none)/\W i n σ' H') ?_ m0 ⟨0,σ,H2,I2,st2,λb hb=>(f2 b hb).1,w0⟩;rintro n s3 ⟨i,σ3,H3,I3,st3,fr3,w3⟩;rcases turn i n σ3 H3 w3 with ⟨stop,qn⟩|⟨go,N,hN,step⟩
 ·refine wpAny_passesOwn hp<|g8 (T.done X rfl rfl rfl hc i pins s3 σ3 H3 X.xe I3 (stat fr3) st3 stop) λr s4 ⟨hr,I4⟩=>?_;subst hr;exact wpAny_execs_nil ⟨σ3,H3,I4,qn⟩
 ·refine wpAny_passesOwn hp<|g8 (T.item X rfl rfl rfl hc i pins s3 σ3 H3 X.xe I3 (stat fr3) st3 go) λr s4 ⟨u,hr,h4⟩=>?_;subst hr;refine wpAny_passesOwn hp<|g8 h4 λ_ s5 ⟨x,H5,I5,r5,y5,st5,fr5⟩=>?_;have I5':=I5.pinned (stat fr5)<|T.obj _ _ st5;refine wpAny_passesOwn hp<|g8 (hg _ s5 σ3 H5 x u _ I5' r5<|step x H5 y5) λ_ s6 ⟨σ6,H6,I6,q6⟩=>?_;refine wpAny_passesOwn hp<|g8 (hb _ s6 σ6 H6 _ I6 q6) λf s7 q7=>?_;have again:∀{σ7} {H7},Inv X (pins++zJ fp s5.heap) σ7 H7 s7->N σ7 H7->∃m,m<n/\∃i σ' H',Inv X pins σ' H' s7/\tn i s7.heap/\(∀b∈fp,H' b=none)/\W i m σ' H':=λ{σ7 H7} I7 n7=>by
   obtain⟨m',hm,w7⟩:=hN σ7 H7 n7;refine⟨m',hm,i+1,σ7,H7,I7.uP,T.keep _ _ _ st5 λb hb o e=>(I7.pin (b,o)<|Qxq _<|Qxq _<|qi hb e).1,λb hb=>?_,w7⟩;obtain⟨o,e,d⟩:=T.obj _ _ st5 b hb;exact(I7.pin (b,o)<|Qxq _<|Qxq _<|qi hb e).2.1
  cases f with
  | next=>obtain⟨σ7,H7,I7,n7⟩:=q7;exact again I7 n7
  | cont=>obtain⟨σ7,H7,I7,n7⟩:=q7;exact again I7 n7
  | brk=>obtain⟨σ7,H7,I7,q7⟩:=q7;exact⟨σ7,H7,I7.uP,q7⟩
  | ret v=>obtain⟨x7,σ7,H7,I7,r7,q7⟩:=q7;exact⟨x7,σ7,H7,I7.uP,r7,q7⟩
end
abbrev R2:=V->V->Hp->VK->Prop
def nZ(X:Cx)(f:Value->Value->Sem Value)(r:R2):Prop:=
 ∀(pins:List (Addr×Obj)) (s:Shared) (σ:St) (H:Hp) (x y:V) (v u:Value) (Q:VK),Inv X pins σ H s->RelV x v->RelV y u->r x y H Q->
  wpAny (model X.prog X.w) X.A (f v u) (EP X pins σ Q) X.xe s
def UnR(X:Cx)(f:Value->Sem Value)(r:V->Hp->VK->Prop):Prop:=
 ∀(pins:List (Addr×Obj)) (s:Shared) (σ:St) (H:Hp) (x:V) (v:Value) (Q:VK),Inv X pins σ H s->RelV x v->r x H Q->
  wpAny (model X.prog X.w) X.A (f v) (EP X pins σ Q) X.xe s
def ik(X:Cx)(f:Value)(r:List V->Hp->VK->Prop):Prop:=
 ∀(pins:List (Addr×Obj)) (s:Shared) (σ:St) (H:Hp) (xs:List V) (us:List Value) (Q:VK),Inv X pins σ H s->Vals xs us->r xs H Q->
  wpAny (model X.prog X.w) X.A (call f us) (EP X pins σ Q) X.xe s
def ZG(r:R2)(ta tb:TE):TE:=λσ H Q=>ta σ H λx H1=>tb σ H1 λy H2=>r x y H2 Q
def tUn(r:V->Hp->VK->Prop)(ta:TE):TE:=λσ H Q=>ta σ H λx H1=>r x H1 Q
def rI(C:Int->Int->Prop)(g:Int->Int->V):R2:=λx y H Q=>∃i j,x = .int i/\y = .int j/\C i j/\Q (g i j) H
def Mv(g:Int->Int->V):R2:=λx y H Q=>∃i j,x = .int i/\y = .int j/\Q (g i j) H
def rU(g:Int->V):V->Hp->VK->Prop:=λx H Q=>∃i,x = .int i/\Q (g i) H
section
variable{X:Cx}{a b c:Expr}{ta tb tc:TE}{pos:Pos}
def adu(ha:PE X a ta)(hb:PE X b tb){σ:St}{R:V->V->Hp->Prop}(I:Inv X pins σ H s)
  (h:ta σ H λx H1=>tb σ H1 λy H2=>R x y H2) {f:Value->Value->Sem Value}
  (hf:∀v u s2 x y H2,Inv X pins σ H2 s2->RelV x v->RelV y u->R x y H2->wpAny (model X.prog X.w) X.A (f v u) Q X.xe s2) :
  wpAny (model X.prog X.w) X.A (eval a X.env) (λv s₁=>wpAny (model X.prog X.w) X.A (eval b X.env) (λu s₂=>wpAny (model X.prog X.w) X.A (f v u) Q X.xe s₂) X.xe s₁) X.xe s:=by
 refine g8 (ha pins s σ H _ I h) λv s1 ⟨x,H1,I1,r1,q1⟩=>?_;refine g8 (hb pins s1 σ H1 _ I1 q1) λu s2 ⟨y,H2,I2,r2,q2⟩=>?_;exact hf v u s2 x y H2 I2 r1 r2 q2
def ZX(ho:nZ X (binaryOp op) r)(ha:PE X a ta)(hb:PE X b tb):PE X (.BinOp a op b pos) (ZG r ta tb):=by intro pins s σ H Q I h;exact wpAny_BinOp<|adu ha hb I h λv u s2 x y H2 I2 rx ry q=>ho pins s2 σ H2 x y v u Q I2 rx ry q
def aeH(ho:UnR X (unaryOp op) r)(ha:PE X a ta):PE X (.UnaryOp op a pos) (tUn r ta):=by intro pins s σ H Q I h;exact UnaryOp_<|g8 (ha pins s σ H _ I h) λv s1 ⟨x,H1,I1,r1,q1⟩=>ho pins s1 σ H1 x v Q I1 r1 q1
def opI{g:Int->Int->Int}
  (rule:∀i j t u s Q E,C i j->Q (.int (g i j) s.toks) { s with toks:=s.toks+1 }->wpAny (model X.prog X.w) X.A (f (.int i t) (.int j u)) Q E s) :
  nZ X f (rI C λi j=>.int (g i j)):=by
 intro pins s σ H x y v u Q I rx ry h;obtain⟨i,j,rfl,rfl,hc,q⟩:=h;obtain⟨t,rfl⟩:=rx;obtain⟨t',rfl⟩:=ry;exact rule i j t t' s _ _ hc ⟨.int<|g i j,H,I.tok _,⟨_,rfl⟩,q⟩
def ab9{g:Int->Int->Int}
  (rule:∀i j t u s Q E,Q (.int (g i j) s.toks) { s with toks:=s.toks+1 }->wpAny (model X.prog X.w) X.A (f (.int i t) (.int j u)) Q E s) :
  nZ X f (Mv λi j=>.int (g i j)):=by
 intro pins s σ H x y v u Q I rx ry h;obtain⟨i,j,rfl,rfl,q⟩:=h;obtain⟨t,rfl⟩:=rx;obtain⟨t',rfl⟩:=ry;exact rule i j t t' s _ _ ⟨.int<|g i j,H,I.tok _,⟨_,rfl⟩,q⟩
def aeO{g:Int->Int->Bool}
  (rule:∀i j t u s Q E,Q (.bool (g i j)) s->wpAny (model X.prog X.w) X.A (f (.int i t) (.int j u)) Q E s) :
  nZ X f (Mv λi j=>.bl (g i j)):=by
 intro pins s σ H x y v u Q I rx ry h;obtain⟨i,j,rfl,rfl,q⟩:=h;obtain⟨t,rfl⟩:=rx;obtain⟨t',rfl⟩:=ry;exact rule i j t t' s _ _ ⟨.bl<|g i j,H,I,rfl,q⟩
def afY(i j:Int):Prop:=0<j/\j<1073741824
def Ze(i j:Int):Prop:=0<=j/\j<=1000000/\i.natAbs<2^64
def JT(k):(0:Int)<=2^k:=by rw[two_pow_cast];exact Int.natCast_nonneg _
def ab8:nZ X (binaryOp .Add) (Mv λi j=>.int (i+j)):=ab9 λ_ _ _ _ _ _ _ q=>add_int q
def abV:nZ X (binaryOp .Sub) (Mv λi j=>.int (i - j)):=ab9 λ_ _ _ _ _ _ _ q=>sub_int q
def abZ:nZ X (binaryOp .Mod) (rI (λ_ j=>0<j) λi j=>.int (i % j)):=opI λi j _ _ _ _ _ hc q=>by
 have h1:=hc;exact mod_int' (by omega) (by rw[Int.fmod_eq_emod_of_nonneg i (by omega)];exact q)
def abY:nZ X (binaryOp .Pow) (rI Ze λi j=>.int (i^j.toNat)):=opI λ_ _ _ _ _ _ _ hc q=>pow_int_small hc.1 hc.2.1 hc.2.2 q
def abX:nZ X (binaryOp .LShift) (rI Ze λi j=>.int (i*2^j.toNat)):=opI λ_ _ _ _ _ _ _ hc q=>lshift_int_small hc.1 hc.2.1 hc.2.2 q
def abW:nZ X (binaryOp .RShift) (rI (λ_ j=>0<=j) λi j=>.int (i / 2^j.toNat)):=opI λi j _ _ _ _ _ hc q=>
 rshift_int hc (by rw[Int.fdiv_eq_ediv_of_nonneg i (JT _)];exact q)
def ab7:nZ X (binaryOp .BitAnd) (Mv λi j=>.int (Builtin.bitAnd i j)):=ab9 λ_ _ _ _ _ _ _ q=>and_int q
def unI{g:Int->Int}
  (rule:∀i t s Q E,Q (.int (g i) s.toks) { s with toks:=s.toks+1 }->wpAny (model X.prog X.w) X.A (f (.int i t)) Q E s) :
  UnR X f (rU λi=>.int (g i)):=by
 intro pins s σ H x v Q I rx h;obtain⟨i,rfl,q⟩:=h;obtain⟨t,rfl⟩:=rx;exact rule i t s _ _ ⟨.int<|g i,H,I.tok _,⟨_,rfl⟩,q⟩
def aa0:UnR X (unaryOp .USub) (rU λi=>.int (-i)):=unI λ_ _ _ _ _ q=>neg_int q
end
def ade:decide (V.bl i=V.bl j)=(i == j):=by rw[Qzv];simp
section
variable{X:Cx}{a b c:Expr}{ta tb tc:TE}{pos:Pos}
def uE{σ:St}(I:Inv X pins σ H s)(q:Q (.bl k) H)(e:k=k'):EP X pins σ Q (.bool k') s:=by subst e;exact⟨.bl k,H,I,rfl,q⟩
def aeL:nZ X (compareOp .Lt) (Mv λi j=>.bl (decide (i<j))):=aeO λ_ _ _ _ _ _ _ q=>lt_int q
def aeM:nZ X (compareOp .Gt) (Mv λi j=>.bl (decide (j<i))):=aeO λ_ _ _ _ _ _ _ q=>gt_int q
def PN:nZ X (compareOp .Lt) (λx y H Q=>∃i j,x = .str i/\y = .str j/\Q (.bl (decide (i.cps.toList<j.cps.toList))) H):=by intro pins s σ H x y v u Q I rx ry h;obtain⟨i,j,rfl,rfl,q⟩:=h;obtain⟨t,rfl⟩:=rx;obtain⟨t',rfl⟩:=ry;exact lt_str<|uE I q rfl
def P0:nZ X (compareOp .In) (λx y H Q=>∃i j,x = .str i/\y = .str j/\Q (.bl (!(Builtin.Str.occurrences j i 0 j.length 1).isEmpty)) H):=by intro pins s σ H x y v u Q I rx ry h;obtain⟨i,j,rfl,rfl,q⟩:=h;obtain⟨t,rfl⟩:=rx;obtain⟨t',rfl⟩:=ry;exact in_str<|uE I q rfl
def ab1:nZ X (compareOp .Is) (λx y H Q=>y = .non/\Q (.bl (decide (x = .non))) H):=by
 intro pins s σ H x y v u Q I rx ry h;obtain⟨rfl,q⟩:=h;cases ry;refine is_none_gen<|uE I q ?_;cases x<;>first
  | (cases rx;rfl)
  | (obtain⟨t,rfl⟩:=rx;rfl)
def Xw:nZ X (compareOp .IsNot) (λx y H Q=>y = .non/\Q (.bl (!decide (x = .non))) H):=by
 intro pins s σ H x y v u Q I rx ry h;obtain⟨rfl,q⟩:=h;cases ry;refine isnot_none_gen<|uE I q ?_;cases x<;>first
  | (cases rx;rfl)
  | (obtain⟨t,rfl⟩:=rx;rfl)
def Eu:nZ X (compareOp .NotIn) (λx y H Q=>∃i j,x = .str i/\y = .str j/\Q (.bl (!(!(Builtin.Str.occurrences j i 0 j.length 1).isEmpty))) H):=by intro pins s σ H x y v u Q I rx ry h;obtain⟨i,j,rfl,rfl,q⟩:=h;obtain⟨t,rfl⟩:=rx;obtain⟨t',rfl⟩:=ry;exact notIn_str<|uE I q rfl
def nZ.or(h:nZ X f r)(h':nZ X f r'):nZ X f (λx y H Q=>r x y H Q\/r' x y H Q):=by
 intro pins s σ H x y v u Q I rx ry q;rcases q with q|q
 ·exact h pins s σ H x y v u Q I rx ry q
 ·exact h' pins s σ H x y v u Q I rx ry q
def MJ(ho:nZ X (compareOp op) r)(ha:PE X a ta)(hb:PE X b tb)(hm:behindInMarks op b=false):PE X (.Compare a [op] [b] pos) (ZG r ta tb):=by intro pins s σ H Q I h;exact wpAny_Compare1 (adu ha hb I h λv u s2 x y H2 I2 rx ry q=>ho pins s2 σ H2 x y v u Q I2 rx ry q) hm
def ad0(t:TE):TT:=λσ H Q=>t σ H λx H'=>∃k,x = .bl k/\Q k H'
def Mx(ho:nZ X (compareOp op) r)(ha:PE X a ta)(hb:PE X b tb)(hm:behindInMarks op b=false):PT X (.Compare a [op] [b] pos) (ad0 (ZG r ta tb)):=by
 intro pins s σ H Q I h;refine wpAny_isTrue_Compare1 (g8 (ha pins s σ H _ I h) λv s1 ⟨x,H1,I1,r1,q1⟩=>g8 (hb pins s1 σ H1 _ I1 q1) λu s2 ⟨y,H2,I2,r2,q2⟩=>
  g8 (ho pins s2 σ H2 x y v u _ I2 r1 r2 q2) λc s3 ⟨z,H3,I3,r3,k,e,q3⟩=>?_) hm
 subst e;cases r3;exact wpAny_truthy_bool ⟨H3,I3,q3⟩
def acR{κ:Type}{kvs:List (κ×V)}{vs:List (κ×Value)}(r:KV kvs vs):(!vs.isEmpty) = !kvs.isEmpty:=by cases r<;>rfl
def acQ(r:Vals xs its):(!its.toArray.isEmpty) = !xs.isEmpty:=by cases r<;>simp
def zU:sizeLine<2^63:=by rw[Qk5];decide
def Kq:nZ X (binaryOp .Add) (λx y H Q=>∃i j,x = .str i/\y = .str j/\i.length+j.length<=sizeLine/\Q (.str (i++j)) H):=by intro pins s σ H x y v u Q I rx ry h;obtain⟨i,j,rfl,rfl,hz,q⟩:=h;obtain⟨t,rfl⟩:=rx;obtain⟨t',rfl⟩:=ry;exact add_str (λt' tk=>⟨.str<|i++j,H,I.tok _,⟨_,rfl⟩,q⟩) hz
def vals1(r:Vals [x] us):∃u,us=[u]/\RelV x u:=by
 cases r with
 | cons r1 r2=>cases r2;exact⟨_,rfl,r1⟩
def vals2(r:Vals [x,y] us):∃u w',us=[u,w']/\RelV x u/\RelV y w':=by
 cases r with
 | cons r1 r2=>
  cases r2 with
  | cons r3 r4=>cases r4;exact⟨_,_,rfl,r1,r3⟩
def QH(hc:X.calm=true):ik X (.builtin "max") (λxs H Q=>∃i j,xs=[.int i,.int j]/\Q (.int (if j > i then j else i)) H):=by
 intro pins s σ H xs us Q I r h;obtain⟨i,j,rfl,q⟩:=h;obtain⟨u,w',rfl,⟨t,rfl⟩,⟨t',rfl⟩⟩:=vals2 r;refine max_two_ints (I.ok.hd hc) λh' tk k=>⟨_,H,I.kept k,?_,q⟩;by_cases hj:j > i
 ·rw[if_pos hj,if_pos hj];exact⟨_,rfl⟩
 ·rw[if_neg hj,if_neg hj];exact⟨_,rfl⟩
def QG(hc:X.calm=true):ik X (.builtin "min") (λxs H Q=>∃i j,xs=[.int i,.int j]/\Q (.int (if j<i then j else i)) H):=by
 intro pins s σ H xs us Q I r h;obtain⟨i,j,rfl,q⟩:=h;obtain⟨u,w',rfl,⟨t,rfl⟩,⟨t',rfl⟩⟩:=vals2 r;refine min_two_ints (I.ok.hd hc) λh' tk k=>⟨_,H,I.kept k,?_,q⟩;by_cases hj:j<i
 ·rw[if_pos hj,if_pos hj];exact⟨_,rfl⟩
 ·rw[if_neg hj,if_neg hj];exact⟨_,rfl⟩
def afW(K:PySem.W.Frag)(x:V)(H:Hp)(n:Nat):Prop:=
 match x with
 | .str y=>y.length<=sizeLine/\n=y.length
 | .byt y=>y.size<=sizeLine/\n=y.size
 | .ref p=>(∃xs,mR K H p xs/\n=xs.length)\/∃xs,qM K H p xs/\n=xs.length
 | _=>False
def Vv:ik X (.builtin "len") (λxs H Q=>∃x n,xs=[x]/\afW X.K x H n/\Q (.int n) H):=by
 intro pins s σ H xs us Q I r h;obtain⟨x,n,rfl,e,q⟩:=h;obtain⟨u,rfl,rx⟩:=vals1 r;have hl:=zU;have hs:=Qk5;cases x with
 | str y=>
  obtain⟨t,rfl⟩:=rx;obtain⟨hy,e'⟩:y.length<=sizeLine/\n=y.length:=e;subst e';exact len_str (by omega) ⟨.int _,H,I.tok _,⟨_,rfl⟩,q⟩
 | byt y=>
  obtain⟨t,rfl⟩:=rx;obtain⟨hy,e'⟩:y.size<=sizeLine/\n=y.size:=e;subst e';exact PySem.W.len_bytes (by omega) ⟨.int _,H,I.tok _,⟨_,rfl⟩,q⟩
 | ref p=>
  cases rx;have e':=e;rcases e' with ⟨xs,hx,e'⟩|⟨xs,hx,e'⟩
  ·subst e';obtain⟨its,r',pl,hz⟩:=I.list hx;have hlen:=r'.length;exact Calls.call_len_list pl.isList (by simp[Qq8];omega) ⟨.int xs.length,H,I.tok _,⟨_,by simp only[Qq8];rw[hlen]⟩,q⟩
  ·subst e';obtain⟨its,r',pl,hz⟩:=I.tuple hx;have hlen:=r'.length;exact len_tuple pl (by simp[Qq8];omega) ⟨.int xs.length,H,I.tok _,⟨_,by simp only[Qq8];rw[hlen]⟩,q⟩
 | _=>exact e.elim
def Jv:ik X (.builtin "divmod") (λxs H Q=>∃i j,xs=[.int i,.int j]/\afY i j/\∀p,H p=none->Q (.ref p) (upd H p (.tup [.int (i / j),.int (i % j)]))):=by intro pins s σ H xs us Q I r h;obtain⟨i,j,rfl,⟨h1,h2⟩,q⟩:=h;obtain⟨u,w',rfl,⟨t,rfl⟩,⟨t',rfl⟩⟩:=vals2 r;refine divmod_int (by omega) ?_<|.inl<|PyProof.noPylong_small (by omega);rw[Int.fdiv_eq_ediv_of_nonneg i (by omega),Int.fmod_eq_emod_of_nonneg i (by omega)];have hn:=I.hok.fresh<|Qqy _;refine⟨.ref s.heap.objs.size,_,?_,rfl,q _ hn⟩;refine I.laid (λb o e=>Qqx _ e) (Qqy _) ⟨by simp[Qq1,Qz3];rw[Qk5];decide,[.int (i / j) s.toks,.int (i % j)<|s.toks+1],.cons ⟨_,rfl⟩<|.cons ⟨_,rfl⟩ .nil,?_⟩;exact⟨_,Qq4 s.heap rfl,rfl,⟨0,rfl⟩,rfl⟩
end
def Ck.some_of(r:Ck (some v) o):∃u,o=some u/\RelV v u:=by
 cases o with
 | none=>exact r.elim
 | some u=>exact⟨u,rfl,r⟩
section
variable{X:Cx}{pins:List (Addr×Obj)}{σ:St}{H:Hp}{s:Shared}{a C dx:Addr}{fs:List (Str×V)}{f:Str}{v:V}{A:Around}{E:Value->Shared->Prop}
def YL(hb:attributeBase e f env (eval e env)=eval e env)
  (h:wpAny (model prog w) A (eval e env) (λo s₁=>wpAny (model prog w) A (getAttr o f true) Q E s₁) E s):wpAny (model prog w) A (eval (.Attribute e f pos) env) Q E s:=
 Attribute_any_ h (by rw[arm_eval_Attribute,hb])
end
structure gY(k:Nat)(A:Around):Prop where
 hd:A.handled=none
 dp:A.depth+3*k+5<recursionLimit
 un:A.units+16*k+200<cLine
def gY.mono(r:gY k A)(h:j<=k):gY j A:=⟨r.hd,by have:=r.dp;omega,by have:=r.un;omega⟩
def gY.deeper(r:gY (k+1) A)(env):gY k (A.deeper env):=
 ⟨r.hd,by have:=r.dp;show A.depth+1+3*k+5<_;omega,by have:=r.un;show A.units+3+16*k+200<_;omega⟩
def KC{A:Around}:(A.under (.builtin "type.__call__" ⟨.ref C::us,kw⟩)).depth=A.depth+1:=by first|rfl|simp[Around.under,Code.weight,Code.isCreation,Code.isGuard,Code.isCaller,Code.frames,Code.isFrame,guardIds]
def Kz{A:Around}:(A.under (.builtin "type.__call__" ⟨.ref C::us,kw⟩)).units=A.units+1:=by first|rfl|simp[Around.under,Code.cUnits,Code.frames,Code.isFrame]
def gY.make(r:gY (k+1) A)(C)(us)(kw):gY k (A.under (.builtin "type.__call__" ⟨.ref C::us,kw⟩)):=
 ⟨r.hd,by have:=r.dp;rw[KC];omega,by have:=r.un;rw[Kz];omega⟩
def gY.depth(r:gY k A):A.depth<recursionLimit:=by have:=r.dp;omega
def gY.units(r:gY k A):A.units+64<cLine:=by have:=r.un;omega
def agG:TA:=λ_ H Q=>Q [] H
def ad6(ta:TE)(tr:TA):TA:=λσ H Q=>ta σ H λx H1=>tr σ H1 λxs H2=>Q (x::xs) H2
section
variable{X:Cx}{e:Expr}{es:List Expr}{te:TE}{t:TA}{pos:Pos}
def jM:PA X [] agG:=λ_ _ _ _ H Q I h=>Calls.spliced_nil ⟨[],H,I,.nil,h⟩
def fD(ha:PE X e te)(hr:PA X es t)(hs:starEach (e::es) X.env=(false,eval e X.env)::starEach es X.env:=by rfl):PA X (e::es) (ad6 te t):=by intro pos pins s σ H Q I h;rw[hs];show wpAny _ _ (spliced ((false,eval e X.env)::backTo pos (starEach es X.env))) _ _ s;refine Calls.spliced_cons<|g8 (ha pins s σ H _ I h) λu s1 ⟨x,H1,I1,r1,q1⟩=>?_;exact g8 (hr pos pins s1 σ H1 _ I1 q1) λus s2 ⟨xs,H2,I2,r2,q2⟩=>⟨x::xs,H2,I2,.cons r1 r2,q2⟩
def agB(t:TA):TE:=λσ H Q=>t σ H λxs H1=>xs.length<=sizeLine/\∀p,H1 p=none->Q (.ref p) (upd H1 p (.tup xs))
def agH(t:TA):TE:=λσ H Q=>t σ H λxs H1=>xs.length<=sizeLine/\∀p,H1 p=none->Q (.ref p) (upd H1 p (.lst xs))
def abM{x1}(h:PA X es t):PE X (.Tuple es x1 pos) (agB t):=by intro pins s σ H Q I hq;refine wpAny_Tuple_spliced<|g8 (h pos pins s σ H _ I hq) λus s1 ⟨xs,H1,I1,r,z,q⟩=>⟨by rw[<-r.length];exact z,?_⟩;have hf:=I1.hok.fresh<|Qqy _;refine⟨.ref s1.heap.objs.size,upd H1 s1.heap.objs.size<|.tup xs,I1.laid (λb u e=>Qqx _ e) (Qqy _) ?_,rfl,q _ hf⟩;exact⟨z,us,r,Ci.new _ _⟩
def abQ(h:PA X es t):PE X (.List es pos) (agH t):=by intro pins s σ H Q I hq;refine wpAny_List_spliced<|g8 (h pos pins s σ H _ I hq) λus s1 ⟨xs,H1,I1,r,z,q⟩=>⟨by rw[<-r.length];exact z,?_⟩;have hf:=I1.hok.fresh<|Qqy _;refine⟨.ref s1.heap.objs.size,upd H1 s1.heap.objs.size<|.lst xs,I1.laid (λb u e=>Qqx _ e) (Qqy _) ?_,rfl,q _ hf⟩;exact⟨z,us,0,r,Qq4 _ rfl⟩
end
abbrev Sp:=List V->Hp->VK->XK->Prop
abbrev Wc:=List Env->Hp->Shared->XK->Value->Shared->Prop
structure Ls(P:Program)(w:World)(K:PySem.W.Frag)(mg:Str->Option Value)(base:Heap)(A:Around)(outer:List Env)(s:Shared)(H:Hp):Prop where
 frames:A.frames=some outer
 mod:Mod K mg base
 bs:∀b o,base.get? b=some o->s.heap.get? b=some o/\H b=none
 V4:base.objs.size<=s.heap.objs.size
 vK:s.heap.FunFrames base outer
 frf:∀b∈frs outer,H b=none
 hok:qO P w H s.heap
 bare:AllBare s.gens
def CE(outer:List Env)(P:Program)(w:World)(H:Hp)(s:Shared)(Q:VK)(u:Value)(s':Shared):Prop:=
 ∃v H',s'.os=s.os/\AllBare s'.gens/\Un (frs outer) [] H H' s.heap s'.heap/\qO P w H' s'.heap/\RelV v u/\Q v H'
def CR(CX:Wc)(outer:List Env)(P:Program)(w:World)(H:Hp)(s:Shared)(Q:VK)(E:XK)(r:Result)(s':Shared):Prop:=
 match r with
 | .ok (.ret u)=>CE outer P w H s Q u s'
 | .ok _=>False
 | .error e=>CX outer H s E e s'
structure n6(P:Program)(w:World)(K:PySem.W.Frag)(mg:Str->Option Value)(base:Heap)(CX:Wc)(k:Nat)(f:Addr)(fd:FuncData)(ps:List Str)(sp:Sp):Prop where
 len:∀vs H Q E,sp vs H Q E->vs.length=ps.length
 run:∀(A:Around) (outer:List Env) (s:Shared) (H:Hp) (args:Args) (us:List Value) (vs:List V) (Q:VK) (E:XK),gY k A->Ls P w K mg base A outer s H->BindsTo s fd args (ps.zip us)->Vals vs us->sp vs H Q E->
  codeAny (model P w) A (.call (.ref f) args) (CR CX outer P w H s Q E) s
theorem Ls.make{K:PySem.W.Frag}(e:Ls P w K mg base A outer s H)(C)(us)(kw) :
  Ls P w K mg base (A.under (.builtin "type.__call__" ⟨.ref C::us,kw⟩)) outer s H:=⟨by first|exact e.frames|(simpa[Around.under,Code.envs,Code.isFrame,pushEnvs] using e.frames),e.mod,e.bs,e.V4,e.vK,e.frf,e.hok,e.bare⟩
section
variable{X:Cx}{pins:List (Addr×Obj)}{σ:St}{H:Hp}{s s':Shared}
def Inv.env0(I:Inv X pins σ H s):Ls X.prog X.w X.K X.mg X.base X.A X.stack s H:=
 ⟨I.ok.frames,I.ok.mod,I.bs,Qq0 I.ok.V4 I.sz,I.stack,I.DR,I.hok,I.bare⟩
def Inv.after(I:Inv X pins σ H s)(h:CE X.stack X.prog X.w H s Q u s'):EP X pins σ Q u s':=by obtain⟨v,H',os,bare,un,hok,r,q⟩:=h;obtain⟨hh,g,d,t,os'⟩:=s';obtain rfl:os'=s.os:=os;exact⟨v,H',I.call un hok bare<|λb z=>absurd z (by simp),r,q⟩
end
def ad7(sp:Sp)(dvs:List V)(E:XK)(t:TA):TE:=λσ H Q=>t σ H λvs H1=>sp (vs++dvs) H1 Q E
def Binds(K:PySem.W.Frag)(fd:FuncData)(ps:List Str)(ds:List Value):Prop:=
 ∀(s:Shared) (us:List Value),K.In s.heap->(us++ds).length=ps.length->BindsTo s fd ⟨us,[]⟩ (ps.zip (us++ds))
theorem Binds.all{K:PySem.W.Frag}(h:∀us,us.length=ps.length->bindArgs fd ⟨us,[]⟩=pure (ps.zip us)):Binds K fd ps []:=λs us _ hl=>by
 rw[Qx4] at hl ⊢;exact .of_eq<|h us hl
def Passes(CX:Wc)(X:Cx)(E:XK):Prop:=∀(pins:List (Addr×Obj)) (σ:St) (H:Hp) (s:Shared) (e:Value) (s':Shared),Inv X pins σ H s->CX X.stack H s E e s'->X.xe e s'
section
variable{X:Cx}{CX:Wc}{k:Nat}{f C:Addr}{fd:FuncData}{ps:List Str}{sp:Sp}{dvs:List V}{ds:List Value}{E:XK}{x m:Str}{p pos apos:Pos}{e o:Expr}{es:List Expr}{ta:TE}{t:TA}
def abh{σ:St}(F:n6 X.prog X.w X.K X.mg X.base CX k f fd ps sp)(hr:gY k X.A)(hb:Binds X.K fd ps ds)(hd:Vals dvs ds)(hx:Passes CX X E)
  (I:Inv X pins σ H s) (r:Vals vs us) (h:sp (vs++dvs) H Q E):wpAny (model X.prog X.w) X.A (call (.ref f) us) (EP X pins σ Q) X.xe s:=by
 have r2:=r.append hd;have hl:(us++ds).length=ps.length:=by rw[<-r2.length];exact F.len _ _ _ _ h
 refine wpAny_call<|Qj8 (F.run X.A X.stack s H ⟨us,[]⟩ (us++ds) (vs++dvs) Q E hr I.env0 (hb s us I.JB hl) r2 h) λr s' hq=>?_;cases r with
 | error e=>exact hx pins σ H s e s' I hq
 | ok fl=>
  cases fl with
  | ret u=>exact I.after hq
  | next=>exact False.elim hq
  | brk=>exact False.elim hq
  | cont=>exact False.elim hq
def Er(F:n6 X.prog X.w X.K X.mg X.base CX k f fd ps sp)(hr:gY k X.A)(hg:Gl X x)(hm:X.mg x=some (.ref f))(hk:PySem.W.keepIn X.K (.ref f)=true)(hb:Binds X.K fd ps ds)(hd:Vals dvs ds)(hx:Passes CX X E)
  (ha:PA X (e::es) t) (hdb:lr x:=by decide) (he:starEach (e::es) X.env=(false,eval e X.env)::starEach es X.env:=by rfl) (hpl:(backTo pos (starEach es X.env)).any (·.1)=false:=by rfl) :
  PE X (.Call (.Name x p) (e::es) [] pos) (ad7 sp dvs E t):=by
 intro pins s σ H Q I h;refine wpAny_Call_Name_kw<|vh I hg hm ?_ hdb;refine PySem.W.callWith_K I.ok.mod.Jz hk (g8 (ha pos pins s σ H _ I h) λus s1 ⟨vs,H1,I1,r,q⟩=>⟨I1.JB,?_⟩) he hpl;exact abh F hr hb hd hx I1 r q
end
structure bA(N P:List Str)(sc:Scope):Prop where
 kind:sc.kind = .function
 co:sc.isCoroutine=false
 gen:sc.isGenerator=false
 nd:N.Nodup
 pre:N.take P.length=P
 par:∀x∈P,sc.names.lookup x=some .local\/sc.names.lookup x=some .cell
 acq:∀y∈sc.names,y.2 ≠ .free
theorem Dq{kindOf:Str->Option NameKind}:∀{binds} {m},(∀v,(x,v) ∉ binds)->bindL kindOf binds m x=m x
 | [],_,_=>rfl
 | (n,v)::r,m,h=>by
  unfold bindL;rw[Dq λw hw=>h w<|Qqw _ hw];split
  ·have:x≠n:=by rintro rfl;exact h v Qqk
   simp[this]
  ·rfl
theorem Ds{kindOf:Str->Option NameKind}:∀{binds} {m},(∀v,(x,v) ∉ binds)->bindC kindOf binds m x=m x
 | [],_,_=>rfl
 | (n,v)::r,m,h=>by
  unfold bindC;rw[Ds λw hw=>h w<|Qqw _ hw];split
  ·rfl
  ·have:x≠n:=by rintro rfl;exact h v Qqk
   simp[this]
theorem Dr{kindOf:Str->Option NameKind}:∀{P:List Str} {vs} {i:Nat} {m},P.Nodup->P[i]? = some x->vs[i]? = some v->kindOf x=some .local->
  bindL kindOf (P.zip vs) m x=some v
 | [],_,_,_,_,h,_,_=>by simp at h
 | _::_,[],_,_,_,_,h,_=>by simp at h
 | p::P,w::vs,0,m,nd,h1,h2,hk=>by
  simp at h1 h2;subst h1;subst h2;show bindL kindOf ((p,w)::P.zip vs) m p=_;unfold bindL;rw[Dq λv hv=>(Qkj.mp nd).1 (List.of_mem_zip hv).1,if_pos hk];simp
 | p::P,w::vs,i+1,m,nd,h1,h2,hk=>by
  show bindL kindOf ((p,w)::P.zip vs) m x=_;unfold bindL;exact Dr (Qkj.mp nd).2 (by simpa using h1) (by simpa using h2) hk
theorem Dt{kindOf:Str->Option NameKind}:∀{P:List Str} {vs} {i:Nat} {m},P.Nodup->P[i]? = some x->vs[i]? = some v->kindOf x≠some .local->
  bindC kindOf (P.zip vs) m x=some v
 | [],_,_,_,_,h,_,_=>by simp at h
 | _::_,[],_,_,_,_,h,_=>by simp at h
 | p::P,w::vs,0,m,nd,h1,h2,hk=>by
  simp at h1 h2;subst h1;subst h2;show bindC kindOf ((p,w)::P.zip vs) m p=_;unfold bindC;rw[Ds λv hv=>(Qkj.mp nd).1 (List.of_mem_zip hv).1,if_neg hk];simp
 | p::P,w::vs,i+1,m,nd,h1,h2,hk=>by
  show bindC kindOf ((p,w)::P.zip vs) m x=_;unfold bindC;exact Dt (Qkj.mp nd).2 (by simpa using h1) (by simpa using h2) hk
def start(N:List Str)(vs:List V):St:=vs.map some++List.replicate (N.length - vs.length) none
def FN(CX:Wc)(P:Program)(w:World)(K:PySem.W.Frag)(mg:Str->Option Value)(base:Heap)(N:List Str)(qual:Str)(scope:Scope)(f:Addr)(cd:Value)(A:Around)(outer:List Env)(s:Shared)(H:Hp)(E:XK):Cx where
 prog:=P
 w:=w
 K:=K
 mg:=mg
 base:=base
 A:=A.deeper (envOfC qual scope s.heap.objs.size f cd)
 N:=N
 s₀:=s
 H₀:=H
 env:=envOfC qual scope s.heap.objs.size f cd
 outer:=outer
 stack:=envOfC qual scope s.heap.objs.size f cd::outer
 ex:=[]
 calm:=true
 fn:=λ_=>true
 pn:=[]
 xe:=λe s'=>wpAny (model P w) (A.deeper (envOfC qual scope s.heap.objs.size f cd)) (leaving (envOfC qual scope s.heap.objs.size f cd) e) (λ_ s''=>CX outer H s E e s'') (λe' s''=>CX outer H s E e' s'') s'
def Ar{sc:Scope}(h:sc.names.lookup x=some .cell):∃c,(cellsFrom n sc.names []).lookup x=some c:=by have q:=PySem.W.cellsFrom_some sc.names n []<|.inl h;exact Qjz.mp q
theorem Ql{K:PySem.W.Frag}
  (S:bA N ps scope) (hd:A.handled=none) (e0:Ls P w K mg base A outer s H) (hl:vs.length=ps.length) (r:Vals vs us)
  (x:InCallC s s.heap.objs.size (bindL (envOfC qual scope s.heap.objs.size f cd).kindOf (ps.zip us) λ_=>none) (cellsFrom (s.heap.objs.size+1) scope.names []) (bindC (envOfC qual scope s.heap.objs.size f cd).kindOf (ps.zip us) λ_=>none) s1) :
  Inv (FN CX P w K mg base N qual scope f cd A outer s H E) [] (start N vs) H s1:=by
 have hpl:ps.length<=N.length:=by have:=Qjq List.length S.pre;rw[Qx0] at this;omega
 obtain⟨h1,tk,rfl,hk⟩:=x.done;have noA:∀b,b ∉ (FN CX P w K mg base N qual scope f cd A outer s H E).ex:=λb z=>absurd (show b∈[] from z) (by simp);refine⟨⟨e0.mod,S.kind,rfl,rfl,Qqy _,λy z c h1 h2=>?_,λy hy=>?_,λy c _ h=>?_,λ_=>hd,Around.frames_deeper e0.frames,.inr ⟨rfl,rfl⟩,λb z=>absurd z<|noA b,e0.bs,e0.V4,λb _ _=>noA b,λb z=>absurd z<|noA b,e0.vK,e0.frf⟩,
  rfl,e0.bare,Un.kept hk,⟨_,x.toInCall.ns,λi y v h1 h2 h3=>?_⟩,λy c h=>⟨_,x.cell y c h⟩,e0.hok.fresh<|Qqy _,λy c h=>?_,λp hp=>absurd (show p∈[] from hp) (by simp),e0.hok.kept hk,?_⟩
 ·exact name_of_addr x.apart (Qky h1)<|Qky h2
 ·have hy:=hy;rcases hy with hy|hy
  ·exact Ar hy
  ·exact absurd rfl (S.acq _<|Qky hy)
 ·exact Qz7<|x.above y c<|Qky h
 ·have hi:i<vs.length:=by
   unfold start at h2;by_cases hi:i<vs.length
   ·exact hi
   ·rw[Qx1 (by simpa using hi)] at h2;rw[Qjv] at h2;split at h2<;>cases h2
  have ha:vs[i]? = some v:=by
   unfold start at h2;rw[Qw9 (by simpa using hi),Qx3] at h2;cases e:vs[i]? with
   | none=>rw[e] at h2;cases h2
   | some a=>rw[e] at h2;cases h2;rfl
  obtain⟨u,hu,rv⟩:=r.get ha;have hp:ps[i]? = some y:=by rw[<-S.pre,Qjj (by omega)];exact h1
  have ndP:ps.Nodup:=by rw[<-S.pre];exact S.nd.sublist<|List.take_sublist _ _
  refine⟨u,rv,?_⟩;rcases S.par y (Qjy hp) with k|k
  ·exact .inl ⟨k,Dr ndP hp hu k⟩
  ·obtain⟨c,e⟩:=Ar k;refine .inr ⟨.inl k,c,e,?_⟩;have q:=x.cell y c e;rw[Dt ndP hp hu (by show scope.names.lookup y≠_;rw[k];decide)] at q;exact q
 ·exact .inl<|e0.hok.fresh<|Qz7<|x.above y c<|Qky h
 ·unfold start;show _=N.length;rw[Qqz,Qqj,Qz4];omega
theorem aaj{K:PySem.W.Frag}{dV kV doc pm cdv ct oc:Value}
  (lk:K.lookup f=some ⟨oc,od,.func (PySem.W.fnOf name qual params body scope dV kV doc pm an cdv ct),osl⟩) (hcd:PySem.W.codeIn K cdv qual=true) (S:bA N ps scope)
  (len:∀vs H Q E,sp vs H Q E->vs.length=ps.length)
  (hbody:∀A outer s H vs Q E,gY k (A.deeper (envOfC qual scope s.heap.objs.size f cdv))->sp vs H Q E->
   ∃t,Gm (FN CX P w K mg base N qual scope f cdv A outer s H E) body t/\t { nx:=λ_ H'=>Q .non H',rt:=Q } (start N vs) H) :
  n6 P w K mg base CX (k+1) f (PySem.W.fnOf name qual params body scope dV kV doc pm an cdv ct) ps sp:=by
 refine⟨len,λA outer s H args us vs Q E hr e0 hb r hsp=>?_⟩;have hl:=len _ _ _ _ hsp;have KX:=e0.mod.Jz.keeps λb o e=>(e0.bs b o e).1;have lim:=e0.mod.nolimit.keeps λb o e=>(e0.bs b o e).1;have hkind:∀y∈ps.zip us,scope.names.lookup y.1=some .local\/(scope.names.lookup y.1=some .cell/\((cellsFrom (s.heap.objs.size+1) scope.names []).lookup y.1).isSome=true):=λ⟨n,v⟩ hy=>by
  rcases S.par n (List.of_mem_zip hy).1 with q|q
  ·exact .inl q
  ·exact .inr ⟨q,PySem.W.cellsFrom_some _ _ _<|.inl q⟩
 refine codeAny_call_function hr.depth (KX _ _ lk) rfl S.co S.gen rfl (PySem.W.codeRec_of KX hcd) (hb _ _ _ _ ?_);refine wpAny_newFunctionEnv_cells S.kind hkind λenv he s1 x=>?_;subst he;refine⟨lim.keeps x.toInCall.keep,codeAny_func ?_⟩;obtain⟨t,ht,hq⟩:=hbody A outer s H vs Q E (hr.deeper _) hsp;have I:Inv (FN CX P w K mg base N qual scope f cdv A outer s H E) [] (start N vs) H s1:=Ql S hr.hd e0 hl r x;refine Qxk (ht [] s1 (start N vs) H _ I hq) (λfl s' hs=>?_) λe s' hs=>hs;have fin:∀{σ'} {H'} {v} {u},Inv (FN CX P w K mg base N qual scope f cdv A outer s H E) [] σ' H' s'->RelV v u->Q v H'->CE outer P w H s Q u s':=
  λ{σ' H' v u} J rv q=>⟨v,H',J.os,J.bare,J.base,J.hok,rv,q⟩
 cases fl with
 | ret u=>
  obtain⟨v,σ',H',J,rv,q⟩:=hs;exact fin J rv q
 | next=>
  obtain⟨σ',H',J,q⟩:=hs;exact fin (v:=V.non) J rfl q
 | brk=>
  obtain⟨_,_,_,q⟩:=hs;exact False.elim q
 | cont=>
  obtain⟨_,_,_,q⟩:=hs;exact False.elim q
section
variable{X:Cx}{x:Str}{p pos:Pos}{e:Expr}{es:List Expr}{t:TA}{id T:String}{r:List V->Hp->VK->Prop}
def tCB(r:List V->Hp->VK->Prop)(t:TA):TE:=λσ H Q=>t σ H λvs H1=>r vs H1 Q
def uZ(hc:ik X (.builtin id) r)(hg:Gl X x)(hm:X.mg x=none)(hv:bootBuiltins x=some (.builtin id))(ha:PA X (e::es) t)(hn:x ≠ "__name__":=by decide)(hdb:lr x:=by decide)
  (he:starEach (e::es) X.env=(false,eval e X.env)::starEach es X.env:=by rfl) (hpl:(backTo pos (starEach es X.env)).any (·.1)=false:=by rfl):PE X (.Call (.Name x p) (e::es) [] pos) (tCB r t):=by
 intro pins s σ H Q I h;refine wpAny_Call_Name_kw<|zV I hg hm hv ?_ hn hdb;exact PyProof.Rows.callWith_builtin1 (g8 (ha pos pins s σ H _ I h) λus s1 ⟨vs,H1,I1,r1,q1⟩=>hc pins s1 σ H1 vs us Q I1 r1 q1) he hpl
def xg(hc:ik X (.type T) r)(hg:Gl X x)(hm:X.mg x=none)(hv:bootBuiltins x=some (.type T))(ha:PA X (e::es) t)(hn:x ≠ "__name__":=by decide)(hdb:lr x:=by decide)
  (he:starEach (e::es) X.env=(false,eval e X.env)::starEach es X.env:=by rfl) (hpl:(backTo pos (starEach es X.env)).any (·.1)=false:=by rfl):PE X (.Call (.Name x p) (e::es) [] pos) (tCB r t):=by
 intro pins s σ H Q I h;refine wpAny_Call_Name_kw<|zV I hg hm hv ?_ hn hdb;exact PyProof.Rows.callWith_type1 (g8 (ha pos pins s σ H _ I h) λus s1 ⟨vs,H1,I1,r1,q1⟩=>hc pins s1 σ H1 vs us Q I1 r1 q1) he hpl
end
end L2
namespace HT
open PySem PyProof.Rows
section
variable{prog:Program}{w:World}{A:Around}{E:Value->Shared->Prop}{s:Shared}
def YD(ht:IsTup s.heap t vs.toArray)(hb:IsTup s.heap b ws.toArray)(hv:vs≠[])
  (h1:ws=[]->Q (.ref t) s) (h2:ws≠[]->Q (.ref s.heap.objs.size) { s with heap:=s.heap.push { cls:=.type "tuple",data:=.seq (vs++ws).toArray } })
  (hsz:vs.length+ws.length<=sizeLine):wpAny (model prog w) A (binaryOp .Add (.ref t) (.ref b)) Q E s:=by
 obtain⟨⟨cls,dd,data,sl⟩,ho,hc,n,hd⟩:=id ht;obtain⟨⟨cls2,dd2,data2,sl2⟩,ho2,hc2,n2,hd2⟩:=id hb;simp at hc hd hc2 hd2;subst hc hd hc2 hd2;have e:vs.toArray++ws.toArray=(vs++ws).toArray:=by simp
 by_cases hw:ws=[]
 ·exact concat_meets ⟨_,ho,rfl⟩ ⟨_,ho2,rfl⟩ noFill_tuple_add seq_tuple_add PySem.F.slot_tuple_add PySem.F.entry_tuple_add (PySem.F.args_tuple_add_2 _ _)
   (tuple_addW1 t b vs.toArray ws.toArray n n2 dd dd2 sl sl2 (by simpa using hv) (by simp[hw])) ⟨ho,ho2,h1 hw⟩
 ·refine concat_meets ⟨_,ho,rfl⟩ ⟨_,ho2,rfl⟩ noFill_tuple_add seq_tuple_add PySem.F.slot_tuple_add PySem.F.entry_tuple_add (PySem.F.args_tuple_add_2 _ _)
   (tuple_addW2 t b vs.toArray ws.toArray n n2 dd dd2 sl sl2 (by simpa using hv) (by simpa using hw) (by rw[Qq8,Qq8];exact hsz)) ⟨ho,ho2,?_⟩
  rw[e];exact h2 hw
def fK(n d:Nat):Option Int->Nat
 | none=>d
 | some v=>if v<0 then (v+(n:Int)).toNat else min v.toNat n
def sI(n d k:Nat):fK n d (some k)=min k n:=by show(if k<0 then (k+(n:Int)).toNat else min (k:Int).toNat n)=min k n;rw[if_neg (by omega),Qj1]
def El(n d)(hd:d<=n)(o):fK n d o<=n:=by
 cases o with
 | none=>exact hd
 | some v=>
  show(if v<0 then (v+n).toNat else min v.toNat n)<=n;by_cases hv:v<0
  ·rw[if_pos hv];omega
  ·rw[if_neg hv];exact Nat.min_le_right _ _
def Ob(v)(n d:Nat):(if v<0 then max (v+(n:Int)) 0 else min v n)=(fK n d (some v)):=by
 show(if v<0 then max (v+n) 0 else min v n)=(if v<0 then (v+n).toNat else min v.toNat n);by_cases hv:v<0
 ·simp only[if_pos hv];omega
 ·simp[if_neg hv];omega
def Lj(lo hi)(n:Nat):Builtin.Slice.sliceAdjust lo hi 1 n=(((fK n 0 lo):Int),((fK n n hi):Int)):=by
 have h1:¬(1<0):=by omega
 unfold Builtin.Slice.sliceAdjust;simp only[h1,if_false];refine Prod.ext ?_ ?_
 ·cases lo with
  | none=>rfl
  | some v=>exact Ob v n 0
 ·cases hi with
  | none=>rfl
  | some v=>exact Ob v n n
def Kp(i j:Nat):Builtin.Slice.slicePlaces i j 1=j - i:=by
 unfold Builtin.Slice.slicePlaces;have h1:1 > 0:=by omega
 simp[h1,if_true,Int.ediv_one];split<;>omega
def zj(p:IsPart v o)(h:Q o s):wpAny (model prog w) A (Builtin.Slice.slicePartIndex v) Q E s:=by
 cases p with
 | none=>exact slicePart_none h
 | int i t=>exact slicePart_int h
def pq{lo hi:Option Int}{Q:Int×Int×Nat->Shared->Prop}(hs:s.heap.IsSliceOf sl vl vu .none)(pl:IsPart vl lo)(pu:IsPart vu hi)
  (h:Q ((fK n 0 lo),1,fK n n hi - fK n 0 lo) s):wpAny (model prog w) A (Builtin.Slice.sliceApplied (.ref sl) (pure n)) Q E s:=by
 obtain⟨os,hos,hcs,hds⟩:=id hs;unfold Builtin.Slice.sliceApplied Builtin.Slice.sliceFields;refine Qqq<|Qqq<|wpAny_field hos hds rfl (Qqq<|wpAny_field hos hds rfl (Qqq<|wpAny_field hos hds rfl (Qqv ?_)));refine Qqq<|slicePart_none ?_;show wpAny _ _ (if (1 == 0)=true then _ else _) _ _ s;rw[if_neg (by decide)];refine Qqq<|zj pl<|Qqq<|zj pu<|Qqq<|Qqv ?_;show wpAny _ _ (match Builtin.Slice.sliceAdjust lo hi 1 n with|(lo,hi)=>pure (lo,(1:Int),Builtin.Slice.slicePlaces lo hi 1)) _ _ s;rw[Lj lo hi n];show wpAny _ _ (pure (((fK n 0 lo):Int),1,Builtin.Slice.slicePlaces (fK n 0 lo) (fK n n hi) 1)) _ _ s;rw[Kp];exact Qqv h
def Tt(xs:Array Value)(i k:Nat):((List.range k).filterMap λ(m:Nat)=>xs[(i+(m:Int)*1).toNat]?).toArray=((xs.toList.drop i).take k).toArray:=by
 have e:(λ(m:Nat)=>xs[(i+(m:Int)*1).toNat]?)=λm=>xs[i+m]?:=by
  funext m
  have:(i+(m:Int)*1).toNat=i+m:=by omega
  rw[this]
 rw[e];have:=pick_run xs i k;rw[List.filterMap_map] at this;have e2:((λx=>xs[x]?) ∘ λx=>i+x)=λm=>xs[i+m]?:=rfl;rw[e2] at this;rw[this]
def vG{lo hi:Option Int}(ht:IsTup s.heap t items)(hs:s.heap.IsSliceOf sl vl vu .none)(pl:IsPart vl lo)(pu:IsPart vu hi)
  (hw:¬(fK items.size 0 lo=0/\fK items.size items.size hi=items.size))
  (h:Q (.ref s.heap.objs.size) { s with heap:=s.heap.push { cls:=.type "tuple",data:=.seq ((items.toList.drop (fK items.size 0 lo)).take (fK items.size items.size hi - fK items.size 0 lo)).toArray } })
  (hsz:items.size<=sizeLine):wpAny (model prog w) A (getItem (.ref t) (.ref sl)) Q E s:=by
 have Nj:sizeOk (.seq ((items.toList.drop<|fK items.size 0 lo).take<|fK items.size items.size hi - fK items.size 0 lo).toArray):=by show((items.toList.drop<|fK items.size 0 lo).take<|fK items.size items.size hi - fK items.size 0 lo).toArray.size<=sizeLine;rw[Qq8,Qx0,Qxz,Qzj];omega
 have hj:fK items.size items.size hi<=items.size:=El _ _ (Qqy _) hi;obtain⟨os,hos,hcs,hds⟩:=id hs;have hTs:s.TypeIs (.ref sl) "slice":=⟨os,hos,hcs⟩;unfold getItem
 try with_reducible refine Qx5 ?_
 first|refine Qqq (Qqv ?_)|skip
 refine Qqq<|wpAny_sequenceKey ht.typeIs (by decide) ?_;refine Qqq (wpAny_callSpecial?_slot ht.typeIs Qjw
  (Qz6 Qjw ht.typeIs entry_tuple_getitem ?_<|args_tuple_getitem _ _))
 show wpAny _ _ (Builtin.Tuple.tupleItemsOf (.ref t) >>= _) _ _ s;refine Qqq<|tupleItemsOf_ ht ?_;refine Qqq<|wpAny_typeOf hTs ?_;rw[if_pos (by decide)];refine Qqq<|pq hs pl pu ?_;have hno:¬((((fK items.size 0 lo):Int) == 0&&(1:Int) == 1&&(fK items.size items.size hi - fK items.size 0 lo) == items.size)=true):=by intro q;rw[Qq2,Qq2] at q;have q1:=eq_of_beq q.1.1;have q2:=eq_of_beq q.2;exact hw ⟨by omega,by omega⟩
 show wpAny _ _ (if (((fK items.size 0 lo):Int) == 0&&1 == 1&&(fK items.size items.size hi - fK items.size 0 lo) == items.size)=true then _ else _) _ _ s;rw[if_neg hno,Tt]
 first
  | exact Qqq<|Qxj (Qqv ⟨_,rfl,Qqv h⟩) Nj
  | exact Qqq<|Qxj (Qqq<|Qqv<|Qqv ⟨_,rfl,Qqv h⟩) Nj
  | exact Qqq<|Qqq<|Qxj (Qqv<|Qqv ⟨_,rfl,Qqv h⟩) Nj
  | exact Qqq<|Qqq<|Qxj (Qqv ⟨_,rfl,Qqv h⟩) Nj
end
end HT
namespace L2
open PySem PySem.Spec PyProof.Rows
abbrev TO:=St->Hp->(Option Int->Hp->Prop)->Prop
def PO(X:Cx)(e:Option Expr)(t:TO):Prop:=
 ∀(pins:List (Addr×Obj)) (s:Shared) (σ:St) (H:Hp) (Q:Option Int->Hp->Prop),Inv X pins σ H s->t σ H Q->
  wpAny (model X.prog X.w) X.A (evalPart e X.env) (λu s'=>∃o H',Inv X pins σ H' s'/\IsPart u o/\Q o H') X.xe s
def Wq:TO:=λ_ H Q=>Q none H
def ad2(t:TE):TO:=λσ H Q=>t σ H λx H1=>∃i,x = .int i/\Q (some i) H1
def intsAre_of:∀{us},Vals (ns.map V.int) us->IntsAre us ns:=by
 induction ns with
 | nil=>intro us r;rw[Qk8] at r;cases r;exact .nil
 | cons n ns ih=>
  intro us r;rw[Qq7] at r;cases r with
  | cons r1 r2=>
   obtain⟨t,e⟩:=r1;subst e;exact .cons n t<|ih r2
section
variable{X:Cx}{e:Expr}{te:TE}{lo hi:Option Expr}{tl th:TO}{pos p2:Pos}
def Xg:PO X none Wq:=by intro pins s σ H Q I h;rw[evalPart_none];exact Qqv ⟨none,H,I,.none,h⟩
def Xf(h:PE X e te):PO X (some e) (ad2 te):=by intro pins s σ H Q I hw;rw[evalPart_some];refine g8 (h pins s σ H _ I hw) λu s1 ⟨x,H1,I1,r1,q1⟩=>?_;obtain⟨i,rfl,q⟩:=q1;obtain⟨t,rfl⟩:=r1;exact⟨some i,H1,I1,.int i t,q⟩
def Oj(X:Cx)(r:V->Option Int->Option Int->Hp->VK->Prop):Prop:=
 ∀(pins:List (Addr×Obj)) (s:Shared) (σ:St) (H:Hp) (x:V) (v vl vu:Value) (lo hi:Option Int) (sl:Addr) (Q:VK),Inv X pins σ H s->RelV x v->s.heap.IsSliceOf sl vl vu .none->IsPart vl lo->IsPart vu hi->r x lo hi H Q->
  ∃T id,typeLookup (.type T) "__getitem__" = pure (some (.builtin id))/\s.TypeIs v T/\wpAny (model X.prog X.w) X.A (getItem v (.ref sl)) (EP X pins σ Q) X.xe s
def Oj.or(h:Oj X r)(h':Oj X r'):Oj X (λx lo hi H Q=>r x lo hi H Q\/r' x lo hi H Q):=by
 intro pins s σ H x v vl vu lo hi sl Q I rx hs pl pu q;rcases q with q|q
 ·exact h pins s σ H x v vl vu lo hi sl Q I rx hs pl pu q
 ·exact h' pins s σ H x v vl vu lo hi sl Q I rx hs pl pu q
def tSl(r:V->Option Int->Option Int->Hp->VK->Prop)(te:TE)(tl th:TO):TE:=λσ H Q=>te σ H λx H1=>tl σ H1 λl H2=>th σ H2 λu H3=>r x l u H3 Q
def HD(hr:Oj X r)(he:PE X e te)(hl:PO X lo tl)(hu:PO X hi th):PE X (.Subscript e (.Slice lo hi none p2) pos) (tSl r te tl th):=by intro pins s σ H Q I h;refine Subscript_<|g8 (he pins s σ H _ I h) λv s1 ⟨x,H1,I1,r1,q1⟩=>?_;refine wpAny_Slice<|g8 (hl pins s1 σ H1 _ I1 q1) λvl s2 ⟨l,H2,I2,pl,q2⟩=>g8 (hu pins s2 σ H2 _ I2 q2) λvu s3 ⟨u,H3,I3,pu,q3⟩=>?_;rw[evalPart_none];refine Qqv ?_;have I4:Inv X pins σ H3 { s3 with heap:=s3.heap.push { cls:=.type "slice",data:=.fields #[vl,vu,.none] } }:=I3.kept λb ob q=>Qqx _ q;obtain⟨T,id,hT,ht,hg⟩:=hr pins { s3 with heap:=s3.heap.push { cls:=.type "slice",data:=.fields #[vl,vu,.none] } } σ H3 x v vl vu l u s3.heap.objs.size Q I4 r1 (Heap.IsSliceOf.new ..) pl pu q3;show wpAny (model X.prog X.w) X.A (subscriptTail e (.Slice lo hi none p2) v<|.ref s3.heap.objs.size) (EP X pins σ Q) X.xe { s3 with heap:=s3.heap.push { cls:=.type "slice",data:=.fields #[vl,vu,.none] } };exact tail_any ht hT hg (by with_unfolding_all rfl)
def yF(xs:List V)(lo hi:Option Int):List V:=(xs.drop (HT.fK xs.length 0 lo)).take (HT.fK xs.length xs.length hi - HT.fK xs.length 0 lo)
def yc(xs)(lo hi):(yF xs lo hi).length<=xs.length:=by unfold yF;rw[Qx0,Qxz];omega
def abo(K:PySem.W.Frag):V->Option Int->Option Int->Hp->VK->Prop:=λx lo hi H Q=>∃a xs,x = .ref a/\qM K H a xs/\
 ¬(HT.fK xs.length 0 lo=0/\HT.fK xs.length xs.length hi=xs.length)/\∀p,H p=none->Q (.ref p) (upd H p (.tup (yF xs lo hi)))
def J8:Oj X (abo X.K):=by
 intro pins s σ H x v vl vu lo hi sl Q I rx hs pl pu h;obtain⟨a,xs,rfl,hx,hw,q⟩:=h;cases rx;obtain⟨its,r,ht,hz⟩:=I.tuple hx;have hlen:its.toArray.size=xs.length:=by rw[Qq8];exact r.length.symm
 refine⟨"tuple",_,PyProof.Rows.slot_tuple_getitem.lookup,ht.typeIs,?_⟩;refine HT.vG ht hs pl pu (by rw[hlen];exact hw) ?_ (by rw[hlen];exact hz);rw[hlen];refine⟨.ref s.heap.objs.size,_,I.laid (λb ob q=>Qqx _ q) (Qqy _) ?_,rfl,q _<|I.hok.fresh<|Qqy _⟩;exact⟨Qq0 (yc xs lo hi) hz,_,(r.drop<|HT.fK xs.length 0 lo).take<|HT.fK xs.length xs.length hi - HT.fK xs.length 0 lo,Ci.new _ _⟩
def ZP(K:PySem.W.Frag):R2:=λx y H Q=>∃a b xs ys,x = .ref a/\y = .ref b/\qM K H a xs/\qM K H b ys/\xs≠[]/\xs.length+ys.length<=sizeLine/\
 (ys=[]->Q (.ref a) H)/\(ys≠[]->∀p,H p=none->Q (.ref p) (upd H p (.tup (xs++ys))))
def Vals.Ey(r:Vals xs us):us=[]↔xs=[]:=by
 cases r with
 | nil=>simp
 | cons _ _=>simp
def Xy:nZ X (binaryOp .Add) (ZP X.K):=by intro pins s σ H x y v u Q I rx ry h;obtain⟨a,b,xs,ys,rfl,rfl,ha,hb,hx,hz,q1,q2⟩:=h;cases rx;cases ry;obtain⟨its,r1,p1,_⟩:=I.tuple ha;obtain⟨its2,r2,p2,_⟩:=I.tuple hb;refine HT.YD p1 p2 (λz=>hx<|r1.Ey.mp z) (λz=>⟨.ref a,H,I,rfl,q1<|r2.Ey.mp z⟩) (λz=>?_) (by rw[<-r1.length,<-r2.length];exact hz);refine⟨.ref s.heap.objs.size,_,I.laid (λb ob q=>Qqx _ q) (Qqy _) ?_,rfl,q2 (λw=>z<|r2.Ey.mpr w) _<|I.hok.fresh<|Qqy _⟩;exact⟨by rw[Qqz];exact hz,_,r1.append r2,Ci.new _ _⟩
end
def V1(n:Nat)(i:Int):Option Nat:=if 0<=i then (if i<n then some i.toNat else none) else if -(n:Int)<=i then some (i+n).toNat else none
def qU{α:Type}(xs:List α)(i:Int):Option α:=(V1 xs.length i).bind λj=>xs[j]?
def Nf(h:V1 n i=some j):seqIndex? i n=some j/\j<n/\-n<=i/\i<n:=by
 unfold V1 at h;by_cases h0:0<=i
 ·rw[if_pos h0] at h;by_cases h1:i<n
  ·rw[if_pos h1] at h;have e:=Qw8 h;exact⟨by rw[seqIndex_of h0 h1,e],by omega,by omega,h1⟩
  ·rw[if_neg h1] at h;cases h
 ·rw[if_neg h0] at h;by_cases h1 : -n<=i
  ·rw[if_pos h1] at h;have e:=Qw8 h;exact⟨by rw[seqIndex_neg (by omega) h1,e],by omega,h1,by omega⟩
  ·rw[if_neg h1] at h;cases h
def Gf{α:Type}{xs:List α}{v:α}(h:qU xs i=some v):∃j,seqIndex? i xs.length=some j/\xs[j]? = some v/\j<xs.length/\-xs.length<=i/\i<xs.length:=by
 unfold qU at h;cases e:V1 xs.length i with
 | none=>rw[e] at h;cases h
 | some j=>
  rw[e] at h;obtain⟨h1,h2,h3,h4⟩:=Nf e;exact⟨j,h1,h,h2,h3,h4⟩
def qF{α:Type}{xs:List α}{j:Nat}{v:α}(h:xs[j]? = some v):qU xs j=some v:=by
 have hj:=(Qwq.mp h).1;have e:V1 xs.length j=some j:=by unfold V1;rw[if_pos (by omega),if_pos (by omega)];simp
 unfold qU;rw[e];exact h
def qH(b:Expr):Prop:=∀o i,subscripted b false o i=operate [o,i] (getItem o i)
def V8(X:Cx)(r:R2):Prop:=
 ∀(value slice:Expr) (pins:List (Addr×Obj)) (s:Shared) (σ:St) (H:Hp) (x y:V) (v u:Value) (Q:VK),Inv X pins σ H s->RelV x v->RelV y u->r x y H Q->
  subscripted slice false v u=operate [v,u] (getItem v u)->wpAny (model X.prog X.w) X.A (subscriptTail value slice v u) (EP X pins σ Q) X.xe s
def MtR(X:Cx)(id:String)(r:V->List V->Hp->VK->Prop):Prop:=
 ∀(pins:List (Addr×Obj)) (s:Shared) (σ:St) (H:Hp) (x:V) (xs:List V) (v:Value) (us:List Value) (Q:VK),Inv X pins σ H s->RelV x v->Vals xs us->r x xs H Q->
  wpAny (model X.prog X.w) X.A (call (.builtin id) (v::us)) (EP X pins σ Q) X.xe s
section
variable{X:Cx}{a b:Expr}{ta tb:TE}{pos:Pos}
def V8.or(h:V8 X r)(h':V8 X r'):V8 X (λx y H Q=>r x y H Q\/r' x y H Q):=by
 intro value slice pins s σ H x y v u Q I rx ry q hs;rcases q with q|q
 ·exact h value slice pins s σ H x y v u Q I rx ry q hs
 ·exact h' value slice pins s σ H x y v u Q I rx ry q hs
def ZZ(hr:V8 X r)(ha:PE X a ta)(hb:PE X b tb)(hs:qH b):PE X (.Subscript a b pos) (ZG r ta tb):=by intro pins s σ H Q I h;exact Subscript_<|adu ha hb I h λv u s2 x y H2 I2 rx ry q=>hr a b pins s2 σ H2 x y v u Q I2 rx ry q<|hs _ _
def aes(K:PySem.W.Frag):R2:=λx y H Q=>∃p xs i v,x = .ref p/\y = .int i/\mR K H p xs/\qU xs i=some v/\Q v H
def aeq(K:PySem.W.Frag):R2:=λx y H Q=>∃p xs i v,x = .ref p/\y = .int i/\qM K H p xs/\qU xs i=some v/\Q v H
def aer:R2:=λx y H Q=>∃z i c,x = .str z/\y = .int i/\z.length<=sizeLine/\qU z.cps.toList i=some c/\Q (.str ⟨#[c]⟩) H
def X8:V8 X (aes X.K):=by
 intro value slice pins s σ H x y v u Q I rx ry h hs;obtain⟨p,xs,i,z,rfl,rfl,hq,he,q⟩:=h;cases rx;obtain⟨t,rfl⟩:=ry;obtain⟨its,r,pl,hz⟩:=I.list hq;obtain⟨j,h1,h2,h3,h4,h5⟩:=Gf he;obtain⟨w,ew,uq⟩:=r.get h2;have hl:=r.length;have hn:=zU;have fin:EP X pins σ Q w s:=⟨z,H,I,uq,q⟩;by_cases h0:0<=i
 ·have hj:i.toNat=j:=by
   rw[seqIndex_of h0 h5] at h1;exact Qw8 h1
  exact item_listR pl.isList h0 (by omega) (by rw[hj];simpa using ew) fin hs
 ·have hj:(i+its.toArray.size).toNat=j:=by
   rw[seqIndex_neg (by omega) h4] at h1;rw[Qq8,<-hl];exact Qw8 h1
  exact subscriptTail_builtinR pl.isList.typeIs slot_list_getitem.lookup
   (wpAny_getItem_list_neg pl.isList (by omega) (by rw[Qq8]<;>omega) (by omega) (by rw[hj];simpa using ew) ⟨rfl,fin⟩) hs
def acN:V8 X (aeq X.K):=by
 intro value slice pins s σ H x y v u Q I rx ry h hs;obtain⟨p,xs,i,z,rfl,rfl,hq,he,q⟩:=h;cases rx;obtain⟨t,rfl⟩:=ry;obtain⟨its,r,pl,hz⟩:=I.tuple hq;obtain⟨j,h1,h2,h3,h4,h5⟩:=Gf he;obtain⟨w,ew,uq⟩:=r.get h2;have hl:=r.length;have hn:=zU;have fin:EP X pins σ Q w s:=⟨z,H,I,uq,q⟩;exact subscriptTail_builtinR pl.typeIs slot_tuple_getitem.lookup
  (getItem_tuple pl (by omega) (by omega) (by rw[Qq8,<-hl];exact h1) (by simpa using ew) ⟨rfl,fin⟩) hs
def acO:V8 X aer:=by
 intro value slice pins s σ H x y v u Q I rx ry h hs;obtain⟨z,i,c,rfl,rfl,hz,he,q⟩:=h;obtain⟨t,rfl⟩:=rx;obtain⟨t',rfl⟩:=ry;obtain⟨j,h1,h2,h3,h4,h5⟩:=Gf he;have hl:z.cps.toList.length=z.length:=by simp[Str.length]
 rw[hl] at h1 h4 h5;have hn:=zU;exact tail_any (Qk7 s z t) slot_str_getitem.lookup (getItem_str (by
  have e1:decide (i < -(2^63))=false:=Qw5 (by omega);have e2:decide (i ≥ 2^63)=false:=Qw5 (by omega);rw[e1,e2,Bool.or_false]) (by rw[h1];simpa using h2) ⟨.str ⟨#[c]⟩,H,I.tok _,⟨_,rfl⟩,q⟩) hs
def rIx(K:PySem.W.Frag):R2:=λx y H Q=>aes K x y H Q\/aeq K x y H Q\/aer x y H Q
def KR:V8 X (rIx X.K):=X8.or<|acN.or acO
def Ky(its:List Value)(n j)(u):Obj.mapSeq (·.setIfInBounds j u) { cls:=.type "list",data:=.seq its.toArray n } = { cls:=.type "list",data:=.seq (its.set j u).toArray n }:=by simp[Obj.mapSeq]
def Inv.lst{σ:St}(I:Inv X pins σ H s)(h:H p=some (.lst xs)) :
  ∃its n,Vals xs its/\s.heap.get? p=some { cls:=.type "list",data:=.seq its.toArray n }/\xs.length<=sizeLine:=by
 obtain⟨z,its,n,r,e⟩:=I.hok p _ h;exact⟨its,n,r,e,z⟩
def Inv.acC{σ:St}{its its':List Value}(I:Inv X pins σ H s)(h:H p=some (.lst xs))
  (ho:s.heap.get? p=some { cls:=.type "list",data:=.seq its.toArray n }) (hf:f { cls:=.type "list",data:=.seq its.toArray n } = { cls:=.type "list",data:=.seq its'.toArray n' }) (r:Vals ys its') (hz:ys.length<=sizeLine) (t) :
  Inv X pins σ (upd H p (.lst ys)) { s with heap:=s.heap.update p f,toks:=t }:=by
 have e:(s.heap.update p f).get? p=some { cls:=.type "list",data:=.seq its'.toArray n' }:=by rw[Heap.get?_update_self f ho (by rw[hf]<;>rfl),hf]
 refine I.write (by rw[h];trivial) (.inl rfl) (λb u hb q=>(Heap.get?_update_other _ _<|Ne.symm hb).trans q) ⟨_,e⟩ ?_;exact⟨hz,its',n',r,e⟩
def Ms:V->V->V->Hp->(Hp->Prop)->Prop:=λo i v H Q=>∃p xs k j,o = .ref p/\i = .int k/\H p=some (.lst xs)/\V1 xs.length k=some j/\Q (upd H p (.lst (xs.set j v)))
def set_list:afU X Ms:=by
 intro pins s σ H o i v ov iv u Q I ro ri rv h;obtain⟨p,xs,k,j,rfl,rfl,hp,hj,q⟩:=h;cases ro;obtain⟨t,rfl⟩:=ri;obtain⟨its,n,r,ho,hz⟩:=I.lst hp;obtain⟨h1,h2,h3,h4⟩:=Nf hj;have hl:=r.length;have hn:=zU;have I':=
  I.acC hp ho (Ky its n j u) (r.set rv j) (by rw[Qxw];exact hz) s.toks
 by_cases h0:0<=k
 ·have hk:k.toNat=j:=by
   rw[seqIndex_of h0 h4] at h1;exact Qw8 h1
  exact PySem.W.ki_setAt ho h0 (by omega) (by rw[Qq8,<-hl];exact h4) (by rw[hk];exact⟨_,I',q⟩)
 ·have hk:(k+its.toArray.size).toNat=j:=by
   rw[seqIndex_neg (by omega) h3] at h1;rw[Qq8,<-hl];exact Qw8 h1
  exact PySem.W.ki_setBack ho (by omega) (by rw[Qq8,<-hl];exact h3) (by omega) (by rw[hk];exact⟨_,I',q⟩)
def Ea(lo hi)(n):(sliceBounds lo hi none n).1=(HT.fK n 0 lo)/\(sliceBounds lo hi none n).2.1=(HT.fK n n hi)/\(sliceBounds lo hi none n).2.2=1:=by
 refine⟨?_,?_,rfl⟩
 ·cases lo with
  | none=>simp[sliceBounds,HT.fK]
  | some i=>
   simp[sliceBounds,HT.fK,Option.getD_none,show(1:Int) > 0 by decide,if_true];by_cases h:i<0
   ·simp[h,if_true]<;>omega
   ·simp[h,if_false]<;>omega
 ·cases hi with
  | none=>simp[sliceBounds,HT.fK]
  | some i=>
   simp[sliceBounds,HT.fK,Option.getD_none,show(1:Int) > 0 by decide,if_true];by_cases h:i<0
   ·simp[h,if_true]<;>omega
   ·simp[h,if_false]<;>omega
def Bo(its:List Value)(lo hi):slicePick its.toArray lo hi none=((its.drop (HT.fK its.length 0 lo)).take (HT.fK its.length its.length hi - HT.fK its.length 0 lo)).toArray:=by obtain⟨h1,h2,h3⟩:=Ea lo hi its.toArray.size;unfold slicePick;rw[h1,h2,h3];simp only[sliceRange_one,pick_run,Qq8]<;>rfl
def aem(K:PySem.W.Frag):V->Option Int->Option Int->Hp->VK->Prop:=λx lo hi H Q=>∃a xs,x = .ref a/\mR K H a xs/\∀p,H p=none->Q (.ref p) (upd H p (.lst (yF xs lo hi)))
def Mj:Oj X (aem X.K):=by intro pins s σ H x v vl vu lo hi sl Q I rx hs pl pu h;obtain⟨a,xs,rfl,hx,q⟩:=h;cases rx;obtain⟨its,r,ht,hz⟩:=I.list hx;have hlen:=r.length;refine⟨"list",_,slot_list_getitem.lookup,ht.isList.typeIs,?_⟩;refine wpAny_getItem_list_slice ht.isList hs pl pu .none (by simp) ?_ (by rw[Qq8]<;>omega);rw[Bo,<-hlen];refine⟨.ref s.heap.objs.size,_,I.laid (λb ob q=>Qqx _ q) (Qqy _) ?_,rfl,q _<|I.hok.fresh<|Qqy _⟩;exact⟨Qq0 (yc xs lo hi) hz,_,0,(r.drop<|HT.fK xs.length 0 lo).take<|HT.fK xs.length xs.length hi - HT.fK xs.length 0 lo,Qq4 _ rfl⟩
def ik.or(h:ik X f r)(h':ik X f r'):ik X f (λxs H Q=>r xs H Q\/r' xs H Q):=by
 intro pins s σ H xs us Q I rs q;rcases q with q|q
 ·exact h pins s σ H xs us Q I rs q
 ·exact h' pins s σ H xs us Q I rs q
def FW:ik X (.type "list") (λxs H Q=>∃p ys,xs=[.ref p]/\(mR X.K H p ys\/qM X.K H p ys)/\∀l,H l=none->Q (.ref l) (upd H l (.lst ys))):=by
 intro pins s σ H xs us Q I r h;obtain⟨p,ys,rfl,hq,q⟩:=h;obtain⟨u,rfl,rx⟩:=vals1 r;cases rx;have fin:∀its,Vals ys its->ys.length<=sizeLine->∀h' c',(∀b o',s.heap.get? b=some o'->h'.get? b=some o')->
   h'.get? s.heap.objs.size=some { cls:=.type "list",dict:=none,data:=.seq its.toArray c',slots:=#[] }->EP X pins σ Q (.ref s.heap.objs.size) { s with heap:=h' }:=λits r' hz h' c' kp e=>
  ⟨.ref s.heap.objs.size,_,I.laid kp (Qqy _)<|show gf X.prog X.w _ h' _ (.lst ys) from⟨hz,its,c',r',e⟩,rfl,q _<|I.hok.fresh<|Qqy _⟩
 rcases hq with hq|hq
 ·obtain⟨its,r',pl,hz⟩:=I.list hq;have hlen:=r'.length;obtain⟨o,ho,hc,n,hd⟩:=pl.isList;exact call_list_seq p (.inl rfl) ho hc hd (λh' c' kp e=>fin its r' hz h' c' kp e) (by simp[Qq8]<;>omega)
 ·obtain⟨its,r',pl,hz⟩:=I.tuple hq;have hlen:=r'.length;obtain⟨o,ho,hc,n,hd⟩:=pl;exact call_list_seq p (.inr rfl) ho hc hd (λh' c' kp e=>fin its r' hz h' c' kp e) (by simp[Qq8]<;>omega)
def BZ:ik X (.type "tuple") (λxs H Q=>∃p ys,xs=[.ref p]/\((mR X.K H p ys/\∀l,H l=none->Q (.ref l) (upd H l (.tup ys)))\/(qM X.K H p ys/\Q (.ref p) H))):=by
 intro pins s σ H xs us Q I r h;obtain⟨p,ys,rfl,h⟩:=h;obtain⟨u,rfl,rx⟩:=vals1 r;cases rx;rcases h with ⟨hq,q⟩|⟨hq,q⟩
 ·obtain⟨its,r',pl,hz⟩:=I.list hq;have hlen:=r'.length;refine call_tuple_list pl.isList (λh' kp=>?_) (by simp[Qq8]<;>omega);have I1:Inv X pins σ H { s with heap:=h' }:=I.kept kp;have I2:Inv X pins σ (upd H h'.objs.size<|.tup ys) { s with heap:=h'.push { cls:=.type "tuple",data:=.seq its.toArray } }:=
   I1.laid (λb o e=>Qqx _ e) (Qqy _) (show gf X.prog X.w _ _ _ (.tup ys) from⟨hz,its,r',Ci.new _ _⟩)
  exact⟨.ref h'.objs.size,_,I2,rfl,q _<|I1.hok.fresh<|Qqy _⟩
 ·obtain⟨its,r',pl,hz⟩:=I.tuple hq;exact call_tuple_same pl ⟨.ref p,H,I,rfl,q⟩
def tyV(K:PySem.W.Frag)(T:String)(x:V)(H:Hp):Prop:=match x with
 | .str _=>T = "str"
 | .int _=>T = "int"
 | .ref p=>(T = "list"/\∃xs,mR K H p xs)\/(T = "tuple"/\∃o,K.lookup p=some o/\o.cls = .type "tuple"/\o.dict=none)\/
   (T = "dict"/\((∃kvs,H p=some (.dK kvs))\/∃kvs,H p=some (.dT kvs)))\/(T = "set"/\∃S n,H p=some (.set S n))
 | _=>False
def Ri{σ:St}(I:Inv X pins σ H s)(r:RelV x v)(ty:tyV X.K T x H) :
  s.TypeIs v T/\∀a,v = .ref a->∃ob,s.heap.get? a=some ob/\ob.dict=none:=by
 cases x with
 | str z=>
  obtain⟨t,rfl⟩:=r;cases ty;exact⟨Qk7 s z t,λ_ e=>nomatch e⟩
 | int i=>
  obtain⟨t,rfl⟩:=r;cases ty;exact⟨typeIs_int s i t,λ_ e=>nomatch e⟩
 | ref p=>
  cases r;rcases ty with ⟨rfl,xs,hq⟩|⟨rfl,o,hk,hc,hd⟩|⟨rfl,hk⟩|⟨rfl,S,n,hk⟩
  ·obtain⟨its,_,pl,_⟩:=I.list hq;refine⟨pl.isList.typeIs,λa e=>?_⟩;cases e;obtain⟨o,n,e,c,hd,_⟩:=pl;exact⟨o,e,hd⟩
  ·refine⟨⟨o,I.JB p o hk,hc⟩,λa e=>?_⟩;cases e;exact⟨o,I.JB _ o hk,hd⟩
  ·have z:∃o,s.heap.get? p=some o/\o.ExactDict:=by
    rcases hk with ⟨kvs,hk⟩|⟨kvs,hk⟩
    ·obtain⟨_,_,_,_,o,_,_,e,ex,_⟩:=I.hok p _ hk;exact⟨o,e,ex⟩
    ·obtain⟨_,_,_,_,o,_,_,e,ex,_⟩:=I.hok p _ hk;exact⟨o,e,ex⟩
   obtain⟨o,e,ex⟩:=z;refine⟨⟨o,e,ex.1⟩,λa e2=>?_⟩;cases e2;exact⟨o,e,ex.2.1⟩
  ·obtain⟨o,_,_,_,e,ex,_⟩:=I.hok p _ hk;refine⟨⟨o,e,ex.1⟩,λa e2=>?_⟩;cases e2;exact⟨o,e,ex.2.1⟩
 | _=>exact False.elim ty
def ad8(K:PySem.W.Frag)(T:String)(r:V->List V->Hp->VK->Prop)(to:TE):TE:=λσ H Q=>to σ H λx H1=>tyV K T x H1/\r x [] H1 Q
def tBM(K:PySem.W.Frag)(T:String)(r:V->List V->Hp->VK->Prop)(to:TE)(t:TA):TE:=λσ H Q=>to σ H λx H1=>tyV K T x H1/\t σ H1 λxs H2=>r x xs H2 Q
variable{o e:Expr}{es:List Expr}{to:TE}{t:TA}{name:Str}{apos cpos:Pos}{T id:String}{r:V->List V->Hp->VK->Prop}
def TF(pa:PlainAttrs T)(slot:Slot T name id)(hty:typeOf (.builtin id)=pure (.type "method_descriptor"))(hm:MtR X id r)(ho:PE X o to)
  (hbase:attributeBase o name X.env (eval o X.env)=eval o X.env:=by rfl) (hline:(apos.endLine == cpos.line)=true:=by rfl):PE X (.Call (.Attribute o name apos) [] [] cpos) (ad8 X.K T r to):=by
 intro pins s σ H Q I h;refine wpAny_Call_method0_late hbase hline<|g8 (ho pins s σ H _ I h) λv s1 ⟨x,H1,I1,r1,ty,q1⟩=>?_;obtain⟨h1,h2⟩:=Ri I1 r1 ty;exact⟨T,id,pa,slot,hty,h1,h2,Calls.callWith_builtin rfl (PySem.evalArgs_none<|hm pins s1 σ H1 x [] v [] Q I1 r1 .nil q1)⟩
def xU(pa:PlainAttrs T)(slot:Slot T name id)(hty:typeOf (.builtin id)=pure (.type "method_descriptor"))(hm:MtR X id r)(ho:PE X o to)(ha:PA X (e::es) t)
  (hbase:attributeBase o name X.env (eval o X.env)=eval o X.env:=by rfl)
  (hfew:((backTo cpos (starEach (e::es) X.env)).all (λx=>!x.1)&&(backToKw cpos (keywordEach [] X.env)).all (λx=>x.1.isSome)
   && decide ((e::es).length+([]:List Keyword).length+(if ([]:List Keyword).isEmpty then 0 else 1)<30))=true:=by rfl)
  (hline:(apos.endLine == cpos.line)=true:=by rfl) (hs:starEach (e::es) X.env=(false,eval e X.env)::starEach es X.env:=by rfl) (hplain:(backTo cpos (starEach es X.env)).any (·.1)=false:=by rfl) :
  PE X (.Call (.Attribute o name apos) (e::es) [] cpos) (tBM X.K T r to t):=by
 intro pins s σ H Q I h;refine wpAny_Call_method_late hbase hfew hline rfl (g8 (ho pins s σ H _ I h) λv s1 ⟨x,H1,I1,r1,ty,q1⟩=>?_);obtain⟨h1,h2⟩:=Ri I1 r1 ty;refine⟨T,id,pa,slot,hty,h1,h2,?_⟩;have hA:=ha cpos pins s1 σ H1 _ I1 q1;rw[hs] at hA ⊢;refine Calls.callWith_builtin (by show(false||(backTo cpos<|starEach es X.env).any (·.1))=false;rw[hplain]<;>rfl)<|Calls.evalArgs_plain ?_;exact g8 hA λus s2 ⟨vs,H2,I2,r2,q2⟩=>hm pins s2 σ H2 x vs v us Q I2 r1 r2 q2
end
def MtM(X:Cx)(id:String)(r:V->List V->Hp->VK->Prop):Prop:=
 ∀(pins:List (Addr×Obj)) (s:Shared) (σ:St) (H:Hp) (x:V) (xs:List V) (v:Value) (us:List Value) (Q:VK),Inv X pins σ H s->RelV x v->Vals xs us->r x xs H Q->
  wpAny (model X.prog X.w) X.A (call (.builtin id) (v::us)) (EP X pins σ Q) X.xe s
theorem Vals.one:∀{x} {us},Vals [x] us->∃u,us=[u]/\RelV x u
 | _,_,.cons r .nil=>⟨_,rfl,r⟩
section
variable{X:Cx}{pins:List (Addr×Obj)}{σ:St}{H:Hp}{s:Shared}{l b:Addr}{xs ys zs:List V}
def Inv.ag0{its its':List Value}(I:Inv X pins σ H s)(hH:H l=some (.lst xs))
  (e:s.heap.get? l=some { cls:=.type "list",data:=.seq its.toArray n }) (hf:f its.toArray=its'.toArray) (hv:Vals ys its') (hz:ys.length<=sizeLine) :
  Inv X pins σ (upd H l (.lst ys)) { s with heap:=s.heap.update l (Obj.mapSeq f),toks:=t' }:=by
 have q:=PySem.IsL.update e f;rw[hf] at q;refine I.write (by rw[hH];exact trivial) (.inl rfl) (λb' u hb hu=>(Heap.get?_update_other s.heap (Obj.mapSeq f)<|Ne.symm hb).trans hu) ⟨_,q⟩ ?_;exact⟨hz,its',_,hv,q⟩
def Inv.afb(I:Inv X pins σ H s)(hv:Vals ys its)(hz:ys.length<=sizeLine) :
  Inv X pins σ (upd H s.heap.objs.size (.lst ys)) { s with heap:=s.heap.push { cls:=.type "list",data:=.seq its.toArray },toks:=t' }:=
 I.laid (λ_ _ q=>Qqx _ q) (Qqy _) ⟨hz,its,0,hv,Qq4 _ rfl⟩
def Inv.fresh(I:Inv X pins σ H s):H s.heap.objs.size=none:=I.hok.fresh<|Qqy _
def Inv.acD(I:Inv X pins σ H s)(hH:H l=some (.lst xs)):xs.length<=sizeLine/\∃its n,Vals xs its/\xs.length=its.length/\s.heap.get? l=some { cls:=.type "list",data:=.seq its.toArray n }:=by obtain⟨z,its,n,r,e⟩:=I.hok l _ hH;exact⟨z,its,n,r,r.length,e⟩
def aeX(h:n<=sizeLine):Builtin.List.listTooLong n=false:=by unfold Builtin.List.listTooLong;exact Qw5 (by omega)
end
section
variable{X:Cx}{prog:Program}{w:World}{A:Around}{E:Value->Shared->Prop}{s:Shared}
def WY:V->List V->Hp->VK->Prop:=λx vs H Q=>∃l xs y,x = .ref l/\vs=[y]/\H l=some (.lst xs)/\xs.length<sizeLine/\Q .non (upd H l (.lst (xs++[y])))
def Dc:MtM X "list.append" WY:=by intro pins s σ H x vs v us Q I rx rv h;obtain⟨l,xs,y,rfl,rfl,hH,hz,q⟩:=h;cases rx;obtain⟨u,rfl,ru⟩:=rv.one;obtain⟨z,its,n,r,hl,e⟩:=I.acD hH;refine call_meets F.slot_list_append ⟨_,e,rfl⟩ F.entry_list_append (F.args_list_append_2 _ _) (PySem.list_append l its.toArray n u (by rw[Qq8];omega)) ⟨e,?_⟩;refine⟨.non,_,I.ag0 hH e (by simp) (r.append<|.cons ru .nil) ?_,rfl,q⟩;rw[Qqz,List.length_singleton];omega
def aex:R2:=λx y H Q=>∃l b xs zs,x = .ref l/\y = .ref b/\H l=some (.lst xs)/\H b=some (.lst zs)/\xs.length+zs.length<=sizeLine/\∀p,H p=none->Q (.ref p) (upd H p (.lst (xs++zs)))
def ab6:nZ X (binaryOp .Add) aex:=by
 intro pins s σ H x y v u Q I rx ry h;obtain⟨l,b,xs,zs,rfl,rfl,hH,hB,hz,q⟩:=h;cases rx;cases ry;obtain⟨z,its,n,r,hl,e⟩:=I.acD hH;obtain⟨z2,its2,n2,r2,hl2,e2⟩:=I.acD hB;refine PySem.P.add_list e e2 ?_ (by rw[Qq8,Qq8];omega);have ea:its.toArray++its2.toArray=(its++its2).toArray:=by simp
 rw[ea];exact⟨.ref _,_,I.afb (r.append r2) (by rw[Qqz];omega),rfl,q _ I.fresh⟩
set_option maxRecDepth 100000 in
end
end L2
namespace Att
open PySem PySem.W PySem.Calls PyProof.Rows
def yE:∀ns vs,WellAll P h vs (ns.map WData.int)->IntsAre vs ns:=by
 intro ns
 induction ns with
 | nil=>
  intro vs w;rw[Qk8] at w;cases w;exact .nil
 | cons n ns ih=>
  intro vs w;rw[Qq7] at w;cases w with
  | cons a b=>
   cases a;exact .cons _ _<|ih _ b
def Pg{l:OpenLaw}(hn:l.most=some n)
  (hpre:l.row.toRowW.claim.pre args=true) (hwl:WellAll P h vals args) :
  ∃a vs ns,vals=[Value.ref a]/\args=[WData.list (ns.map WData.int)]/\h.get? a=some { cls:=.type "list",data:=.seq vs.toArray }/\IntsAre vs ns/\ns.length<=n:=by
 have hsh:=(pre_splitW hpre).1;have hc:l.pre.holds [] { args:=args }=true:=(pre_splitW hpre).2;obtain⟨d,r,rfl,h1,h2⟩:=hasAllW_cons hsh;obtain rfl:=hasAllW_nil h2;obtain⟨xs,rfl,h3⟩:=hasW_list h1;obtain⟨ns,rfl⟩:=items_int h3;have hlen:ns.length<=n:=by
  unfold OpenLaw.pre at hc;have h4:(WTm.not<|.lt (.lit<|.int n)<|.len<|.arg 0).holds [] { args:=[.list (ns.map .int)] }=true:=by have h4:=(holds_andW hc).1;rw[hn] at h4;exact h4
  have h5:=condW_of h4<|w_not<|w_lt w_lit<|w_len_list<|w_arg rfl;rw[Qqj] at h5;refine Nat.le_of_not_lt λq=>?_;have q':n<ns.length:=by omega
  first
   | (rw[Qw2 q'] at h5;exact absurd h5 (by decide))
   | (simp at h5;omega)
 cases hwl with
 | cons w1 w2=>
  cases w2;cases w1 with
  | list ho hall=>exact⟨_,_,ns,rfl,rfl,ho,yE ns _ hall,hlen⟩
def Py(l:OpenLaw)(args):l.row.toRowW.claim.post args (.bool true) args=true:=
 postW_of
  (show WShape.has [] (.bool true) .bool=true by first|rfl|decide|simp[WShape.has,WShape.arms,WShape.armsAll])
  (show(WTm.eq .res<|.lit<|.bool true).value [] { args:=args,res:=some<|.bool true,after:=args }=some (.bool<|true == true) from w_eq_bool (w_res rfl) w_lit) rfl
end Att
namespace L2
open PySem PySem.Spec PyProof.Rows
theorem wB:∀{vs} {ns},IntsAre vs ns->Vals (ns.map V.int) vs
 | _,_,.nil=>.nil
 | _,_,.cons n t h=>.cons ⟨t,rfl⟩<|wB h
def Only(H:Hp):Prop:=∀b,H b=none\/∃o xs,H b=some (.tu o (.lst xs))
theorem Up{K:PySem.W.Frag}
  (KX:K.In s₁.heap) (hns:s₁.heap.Ns mainGlobals mg) (hb:s₁.heap.Ns builtinsNs mb) (hbb:∀x:Str,x ≠ "__name__"->mb x=bootBuiltins x) (hlim:s₁.heap.NoLimit) (hg:s₁.gens = #[])
  (ha:s₁.heap.get? a=some { cls:=.type "list",data:=.seq vs.toArray }) (hi:IntsAre vs ns) (hl:ns.length<=sizeLine) (hr:gY k callerA)
  (F:∀base,K.In base->base.Ns mainGlobals mg->n6 P w K mg base CX k fa fd [x] sp) (hbind:∀s u,BindsTo s fd ⟨[u],[]⟩ [(x,u)])
  (hsp:∀H,Only H->mR K H a (ns.map V.int)->sp [.ref a] H (λv _=>v = .bl true) λ_ _ _=>False)
  (hCX:∀H e s',CX [] H s₁ (λ_ _ _=>False) e s'->False) :
  codeAny (model P w) callerA (.call (.ref fa) ⟨[.ref a],[]⟩) (λr s'=>r = .ok (.ret (.bool true))/\OldK s₁.heap s'.heap/\s'.os=s₁.os/\AllBare s'.gens) s₁:=by
 have rv:=wB hi;have lenV:=hi.length
 -- from an abstract heap in which nothing but the script may be tracked
 have core:∀H,Only H->mR K H a (ns.map V.int)->qO P w H s₁.heap->(∀b,H b≠none->b=a)->(H a≠none->K.lookup a=none)->
   codeAny (model P w) callerA (.call (.ref fa) ⟨[.ref a],[]⟩) (λr s'=>r = .ok (.ret<|.bool true)/\OldK s₁.heap s'.heap/\s'.os=s₁.os/\AllBare s'.gens) s₁:=by
  intro H hO hS hok hA hK;have Oe:∀{b} {o},s₁.heap.get? b=some o->H b=none->(Fi s₁.heap H).get? b=some o:=λe n=>UG e n;have noA:∀{b} {o} {es} {ep},s₁.heap.get? b=some o->o.data = .dict es ep->H b=none:=λ{b o es ep} e d=>by
   cases q:H b with
   | none=>rfl
   | some u=>
    have e':=hA b (by rw[q];simp);subst e';rw[ha] at e;cases e;have d':=d;cases d'
  have nsK:∀{b} {m},s₁.heap.Ns b m->(Fi s₁.heap H).Ns b m:=λ{b m} ⟨o,es,ep,e,d,r⟩=>⟨o,es,ep,Oe e<|noA e d,d,r⟩;have hKb:=λb o e=>Oe (KX b o e) (by
   cases q:H b with
   | none=>rfl
   | some u=>
    have e':=hA b (by rw[q];simp);subst e';rw[hK (by rw[q];simp)] at e;cases e)
  have hM:Mod K mg (Fi s₁.heap H):=⟨hKb,nsK hns,⟨mb,nsK hb,hbb⟩,let ⟨mc,h1,h2⟩:=hlim;⟨mc,nsK h1,h2⟩⟩;have e0:Ls P w K mg (Fi s₁.heap H) callerA [] s₁ H:=⟨rfl,hM,λb o e=>XD e,Nat.le_of_eq<|Qn _ _,trivial,λb hb=>absurd (show b∈([]:List Addr) from hb) (by simp),hok,.of_eq hg⟩;refine Qj8 ((F _ hKb<|nsK hns).run callerA [] s₁ H ⟨[.ref a],[]⟩ [.ref a] [.ref a] _ _ hr e0 (hbind s₁<|.ref a) (.cons rfl .nil)<|hsp H hO hS) λr s' h=>?_;cases r with
  | error e=>exact(hCX H e s' h).elim
  | ok fl=>
   cases fl with
   | next=>exact False.elim h
   | brk=>exact False.elim h
   | cont=>exact False.elim h
   | ret u=>
    obtain⟨v,H',os,bare,un,hok',r',q⟩:=h;have q':v = .bl true:=q;subst q';obtain rfl:u=Value.bool true:=r';refine⟨rfl,OldK.of_keep λb o e=>?_,os,bare⟩;cases q:H b with
    | none=>exact un.keep b o e q (by intro z;exact absurd (show b∈([]:List Addr) from z) (by simp)) (by simp)
    | some u=>
     rcases hO b with z|⟨ob,xs,z⟩
     ·rw[q] at z;cases z
     ·have z2:=un.tM b ob _ z;obtain⟨e1,_⟩:=hok b _ z;obtain⟨e2,_⟩:=hok' b _ z2;rw[e] at e1;cases e1;exact e2
 cases hk:K.lookup a with
 | some o=>
  -- the script is one of the module's own objects
  have e:=KX a o hk;rw[ha] at e;cases e;refine core (λ_=>none) (λ_=>.inl rfl) (.inr ⟨_,vs.toArray,_,hk,rfl,rfl,rfl,by rw[Qq8,lenV];exact hl,by simpa using rv⟩) (λb u z=>by have z':(none:Option HO)=some u:=z;cases z') (λb z=>absurd rfl z) λz=>absurd rfl z
 | none=>
  refine core (λb=>if b=a then some (.tu { cls:=.type "list",data:=.seq vs.toArray } (.lst<|ns.map V.int)) else none) (λb=>?_) (.inl<|.inr ⟨{ cls:=.type "list",data:=.seq vs.toArray },if_pos rfl⟩) (λb u z=>?_) (λb z=>?_) λ_=>hk
  ·by_cases hb:b=a
   ·exact .inr ⟨_,_,if_pos hb⟩
   ·exact .inl<|if_neg hb
  ·by_cases hb:b=a
   ·have z':=(if_pos hb).symm.trans z;cases z';subst hb;exact⟨ha,by rw[Qqj];exact hl,vs,_,rv,ha⟩
   ·have z':=(if_neg hb).symm.trans z;cases z'
  ·by_cases hb:b=a
   ·exact hb
   ·exact absurd (if_neg hb) z
def inClass(s:Stmt)(j:Nat):Stmt:=match s with
 | .ClassDef _ _ _ body _ _ _ _ _ _ _=>body.getD j (.Pass ⟨0,0,0,0⟩)
 | _=>.Pass ⟨0,0,0,0⟩
def gm(s:Stmt):Arguments:=match s with
 | .FunctionDef _ a _ _ _ _ _ _ _ _=>a
 | _=>{ posonlyargs:=[],args:=[],vararg:=none,kwonlyargs:=[],kw_defaults:=[],kwarg:=none,defaults:=[] }
def cH(s:Stmt):List Stmt:=match s with
 | .FunctionDef _ _ b _ _ _ _ _ _ _=>b
 | _=>[]
def aG(s:Stmt):Scope:=match s with
 | .FunctionDef _ _ _ _ _ _ sc _ _ _=>sc
 | _=>{ kind:=.function,names:=[],isGenerator:=false,isCoroutine:=false }
abbrev Cp:Wc:=λ_ _ _ _ _ _=>False
abbrev E0:XK:=λ_ _ _=>False
def TJ:Passes Cp X E0:=λ_ _ _ _ _ _ _ h=>h.elim
structure QW(K:PySem.W.Frag)(x qual:Str)(st:Stmt)(f:Addr)(fd:FuncData):Prop where
 ex:∃(oc:Value) (od:Option Addr) (kV doc pm:Value) (an:Option Addr) (cdv ct:Value) (osl:Array (Option Value)),
  fd=PySem.W.fnOf x qual (gm st) (cH st) (aG st) .none kV doc pm an cdv ct/\K.lookup f=some ⟨oc,od,.func fd,osl⟩/\PySem.W.codeIn K cdv qual=true
 kp:PySem.W.keepIn K (.ref f)=true
section
variable{P:Program}{w:World}{K:PySem.W.Frag}{mg:Str->Option Value}{base:Heap}
def QW.ok{st:Stmt}(F:QW K x qual st f fd)(S:bA N ps (aG st))(len:∀vs H Q E,sp vs H Q E->vs.length=ps.length)
  (hbody:∀cdv A outer s H vs Q E,gY k (A.deeper (envOfC qual (aG st) s.heap.objs.size f cdv))->sp vs H Q E->
   ∃t,Gm (FN Cp P w K mg base N qual (aG st) f cdv A outer s H E).xn (cH st) t/\t { nx:=λ_ H'=>Q .non H',rt:=Q } (start N vs) H):n6 P w K mg base Cp (k+1) f fd ps sp:=by
 obtain⟨oc,od,kV,doc,pm,an,cdv,ct,osl,rfl,lk,hcd⟩:=F.ex;refine aaj lk hcd S len λA outer s H vs Q E hr hsp=>?_;obtain⟨t,h,q⟩:=hbody cdv A outer s H vs Q E hr hsp;exact⟨t,h.xn,q⟩
def QW.binds{st:Stmt}(F:QW K x qual st f fd)
  (h:∀kV doc pm an cdv ct us,us.length=ps.length->bindArgs (PySem.W.fnOf x qual (gm st) (cH st) (aG st) .none kV doc pm an cdv ct) ⟨us,[]⟩=pure (ps.zip us)):Binds K fd ps []:=by
 obtain⟨oc,od,kV,doc,pm,an,cdv,ct,osl,rfl,lk,hcd⟩:=F.ex;exact .all<|h kV doc pm an cdv ct
def Fw{st:Stmt}{kV doc pm cdv ct:Value}(l:K.lookup f=some ⟨oc,od,.func (PySem.W.fnOf x qual (gm st) (cH st) (aG st) .none kV doc pm an cdv ct),osl⟩)
  (c:PySem.W.codeIn K cdv qual=true) (k:PySem.W.keepIn K (.ref f)=true):QW K x qual st f (PySem.W.fnOf x qual (gm st) (cH st) (aG st) .none kV doc pm an cdv ct):=⟨⟨oc,od,kV,doc,pm,an,cdv,ct,osl,rfl,l,c⟩,k⟩
end
def afj{A B:Prop}(h:B):if false=true then A else B:=by rw[if_neg Qw3];exact h
def afi{A B:Prop}(h:A):if true=true then A else B:=by rw[if_pos rfl];exact h
def aQ(H H':Hp):Prop:=∀b o,H b=some o->H' b=some o
def aQ.refl(H):aQ H H:=λ_ _ h=>h
def aQ.trans(a:aQ H H1)(b:aQ H1 H2):aQ H H2:=λc o h=>b c o<|a c o h
def aQ.free(e:aQ H H')(h:H' l=Option.none):H l=Option.none:=by
 cases q:H l with
 | none=>rfl
 | some o=>
  rw[e l o q] at h;cases h
theorem aQ.seq{K:PySem.W.Frag}(e:aQ H H')(h:mR K H a xs):mR K H' a xs:=by
 rcases h with (h|⟨o,h⟩)|h
 ·exact .inl<|.inl<|e _ _ h
 ·exact .inl<|.inr ⟨o,e _ _ h⟩
 ·exact .inr h
section
variable{κ:Type}[DecidableEq κ]
def yr(kvs:List (κ×V))(k:κ):Option V:=(kvs.find? λkv=>decide (kv.1=k)).map (·.2)
def putK(kvs:List (κ×V))(k:κ)(v:V):List (κ×V):=
 if (kvs.any λkv=>decide (kv.1=k))=true then kvs.map (λkv=>if kv.1=k then (kv.1,v) else kv) else kvs++[(k,v)]
def uN{k:κ}(e:p.1=k):yr (p::r) k=some p.2:=by simp[yr,Qk3,e]
def uO{k:κ}(e:¬p.1=k):yr (p::r) k=yr r k:=by simp[yr,Qk3,e]
theorem yU(k):∀kvs:List (κ×V),(kvs.any λkv=>decide (kv.1=k))=(yr kvs k).isSome
 | []=>rfl
 | p::r=>by
  rw[List.any_cons];by_cases e:p.1=k
  ·simp[uN e,Qw2 e,Bool.true_or,Option.isSome_some]
  ·rw[uO e,Qw5 e,Bool.false_or];exact yU k r
def xY(kvs)(k:κ)(v):(putK kvs k v).length<=kvs.length+1:=by
 unfold putK;split
 ·rw[Qqj];omega
 ·rw[Qqz,Qq1,Qz3];omega
def Ck.Qk(r:Ck o u):o.isSome=u.isSome:=by
 cases o with
 | none=>cases u with
  | none=>rfl
  | some _=>exact r.elim
 | some _=>cases u with
  | none=>exact r.elim
  | some _=>rfl
def KV.val(r:KV kvs vs)(k:κ):Ck (yr kvs k) (valueAt vs k):=by
 unfold KV at r
 induction r with
 | nil=>exact True.intro
 | @cons p q ps qs h t ih=>
  obtain⟨h1,h2⟩:=h;by_cases e:p.1=k
  ·have e':=h1.symm.trans e;have b:valueAt (q::qs) k=some q.2:=by simp[valueAt,Qk3,e']
   rw[uN e,b];exact h2
  ·have e':¬q.1=k:=λz=>e<|h1.trans z;have b:valueAt (q::qs) k=valueAt qs k:=by simp[valueAt,Qk3,e']
   rw[uO e,b];exact ih
def KV.any(r:KV kvs vs)(k:κ):(kvs.any λkv=>decide (kv.1=k))=vs.any λkv=>decide (kv.1=k):=by
 unfold KV at r
 induction r with
 | nil=>rfl
 | cons h t ih=>rw[List.any_cons,List.any_cons,ih,h.1]
def KV.repl(r:KV kvs vs)(k:κ)(ry:RelV y u) :
  KV (kvs.map λkv=>if kv.1=k then (kv.1,y) else kv) (vs.map λkv=>if kv.1=k then (kv.1,u) else kv):=by
 unfold KV at r ⊢
 induction r with
 | nil=>exact .nil
 | @cons p q ps qs h t ih=>
  rw[Qq7,Qq7];refine .cons ?_ ih;obtain⟨h1,h2⟩:=h;by_cases e:p.1=k
  ·rw[if_pos e,if_pos<|h1.symm.trans e];exact⟨h1,ry⟩
  ·rw[if_neg e,if_neg<|λz=>e<|h1.trans z];exact⟨h1,h2⟩
def KV.put(r:KV kvs vs)(k:κ)(ry:RelV y u):KV (putK kvs k y) (stored vs k u):=by
 unfold putK stored;rw[r.any k];by_cases e:(vs.any λkv=>decide (kv.1=k))=true
 ·rw[if_pos e,if_pos e];exact r.repl k ry
 ·rw[if_neg e,if_neg e];exact Paired.snoc r ⟨rfl,ry⟩
def KV.keys{vs:List (κ×Value)}(r:KV kvs vs):kvs.map (·.1)=vs.map (·.1):=by
 unfold KV at r
 induction r with
 | nil=>rfl
 | cons h t ih=>rw[Qq7,Qq7,ih,h.1]
def KV.length{vs:List (κ×Value)}(r:KV kvs vs):kvs.length=vs.length:=Paired.length r
end
def Ur(r:RelV (kV k) u):(iC P w).is k u=true:=by
 cases k with
 | inl i=>obtain⟨t,e⟩:=(show ∃t,u=Value.int i t from r);subst e;exact Ii P w i t
 | inr x=>obtain⟨t,e⟩:=(show ∃t,u=Value.str x t from r);subst e;exact Ih P w x t
theorem Dg:∀{ks} {us},Vals (ks.map kV) us->ItemsAre (iC P w) ks us
 | [],_,r=>by rw[Qk8] at r;cases r;exact .nil
 | k::ks,_,r=>by
  rw[Qq7] at r;cases r with
  | cons h t=>exact .cons (Ur h)<|Dg t
abbrev KT(H:Hp):List (List Key×V)->List (List Key×Addr×Value)->Prop:=Paired λp q=>p.1=q.1/\H q.2.1=some (.tup (p.1.map kV))/\RelV p.2 q.2.2
def KT.val(r:KT H kvs xs)(k):Ck (yr kvs k) ((atKey xs k).map (·.2)):=by
 induction r with
 | nil=>exact True.intro
 | @cons p q ps qs h t ih=>
  obtain⟨h1,_,h2⟩:=h;by_cases e:p.1=k
  ·have e':=h1.symm.trans e;have b:atKey (q::qs) k=some q.2:=by simp[atKey,Qk3,e']
   rw[uN e,b];exact h2
  ·have e':¬q.1=k:=λz=>e<|h1.trans z;have b:atKey (q::qs) k=atKey qs k:=by simp[atKey,Qk3,e']
   rw[uO e,b];exact ih
def KT.repl(r:KT H kvs xs)(k)(ry:RelV y u) :
  KT H (kvs.map λkv=>if kv.1=k then (kv.1,y) else kv) (xs.map (putAt k u)):=by
 induction r with
 | nil=>exact .nil
 | @cons p q ps qs h t ih=>
  rw[Qq7,Qq7];refine .cons ?_ ih;obtain⟨h1,h2,h3⟩:=h;unfold putAt;by_cases e:p.1=k
  ·rw[if_pos e,if_pos<|h1.symm.trans e];exact⟨h1,h2,ry⟩
  ·rw[if_neg e,if_neg<|λz=>e<|h1.trans z];exact⟨h1,h2,h3⟩
def KT.put(r:KT H kvs xs)(k)(hb:H b=some (.tup (k.map kV)))(ry:RelV y u) :
  KT H (putK kvs k y) (storedH xs k b u):=by
 have e:(kvs.any λkv=>decide (kv.1=k))=(atKey xs k).isSome:=by rw[yU,(r.val k).Qk,Option.isSome_map]
 unfold putK storedH;rw[e];by_cases q:(atKey xs k).isSome=true
 ·rw[if_pos q,if_pos q];exact r.repl k ry
 ·rw[if_neg q,if_neg q];exact Paired.snoc r ⟨rfl,hb,ry⟩
def KT.keeps(r:KT H kvs xs)(ht:∀b ys,H b=some (.tup ys)->H' b=some (.tup ys)):KT H' kvs xs:=
 Paired.acA r λ_ _ z=>⟨z.1,ht _ _ z.2.1,z.2.2⟩
section
variable{P:Program}{w:World}{H:Hp}{h:Heap}{a:Addr}
def ZL(ok:qO P w H h)(e:Rd H a u):gf P w H h a u:=e.ok ok
def N5(ok:qO P w H h)(e:Rd H a (.dK kvs)):kvs.length<=sizeLine/\(a == sysModules)=false/\∃vs,KV kvs vs/\h.DictOf (iC P w) a vs:=
 show gf P w H h a (.dK kvs) from ZL ok e
def afI(ok:qO P w H h)(e:H a=some (.dK kvs)):kvs.length<=sizeLine/\(a == sysModules)=false/\∃vs,KV kvs vs/\h.DictOf (iC P w) a vs:=N5 ok<|.inl e
def KD(ok:qO P w H h)(e:H a=some (.tup (ks.map kV))):(tupleKind (iC P w)).is h ks a:=by obtain⟨_,its,r,o,h1,h2,⟨n,h3⟩,_⟩:=(show gf P w H h a (.tup<|ks.map kV) from ok a _ e);exact⟨o,its.toArray,n,h1,h2,h3,by simpa using Dg r⟩
def Vj(ok:qO P w H h)(e:Rd H a (.dT kvs)):kvs.length<=sizeLine/\(a == sysModules)=false/\
  ∃xs,KT H kvs xs/\h.DictOfH (tupleKind (iC P w)) a xs:=by
 obtain⟨z,y,xs,r,o,es,ep,h1,h2,h3,h4,h5⟩:=(show gf P w H h a (.dT kvs) from ZL ok e);refine⟨z,y,xs,r,o,es,ep,h1,h2,h3,h4,λx hx=>?_,h5⟩;have all:∀{l} {m},KT H l m->∀x∈m,(tupleKind<|iC P w).is h x.1 x.2.1:=by
  intro l m q
  induction q with
  | nil=>intro x hx;exact nomatch hx
  | @cons p q ps qs hq t ih=>
   intro x hx;rcases Qq3.mp hx with e|hx
   ·subst e;exact KD ok (by rw[<-hq.1];exact hq.2.1)
   ·exact ih x hx
 exact all r x hx
def afH(ok:qO P w H h)(e:H a=some (.dT kvs)):kvs.length<=sizeLine/\(a == sysModules)=false/\
  ∃xs,KT H kvs xs/\h.DictOfH (tupleKind (iC P w)) a xs:=Vj ok<|.inl e
end
def Zd(H:Hp)(a:Addr)(y:V)(r:Option V):Prop:=
 (∃kvs k,Rd H a (.dK kvs)/\y=kV k/\r=yr kvs k)\/∃kvs k b,Rd H a (.dT kvs)/\y = .ref b/\H b=some (.tup (k.map kV))/\r=yr kvs k
def VV(H:Hp)(a:Addr)(y v:V)(H':Hp):Prop:=
 (∃kvs k,H a=some (.dK kvs)/\y=kV k/\kvs.length<sizeLine/\H'=upd H a (.dK (putK kvs k v)))\/
 ∃kvs k b,H a=some (.dT kvs)/\y = .ref b/\H b=some (.tup (k.map kV))/\kvs.length<sizeLine/\H'=upd H a (.dT (putK kvs k v))
theorem VV.k{k:Key}(e:H a=some (.dK kvs))(hl:kvs.length<sizeLine):VV H a (kV k) v (upd H a (.dK (putK kvs k v))):=.inl ⟨kvs,k,e,rfl,hl,rfl⟩
section
variable{X:Cx}{pins:List (Addr×Obj)}{σ:St}{H:Hp}{s:Shared}{a:Addr}{y v:V}{u r:Value}{o:Option V}{A:Around}{E:Value->Shared->Prop}
def Inv.big(I:Inv X pins σ H s):sysModules<s.heap.objs.size:=by have h:=(I.mod.glob.keeps I.bk).lt;exact Nat.lt_trans (by decide) h
def Qy(hu:A.units+1<cLine)(I:Inv X pins σ H s)(g:Zd H a y (some v))(ry:RelV y u)(h:∀w' s',Inv X pins σ H s'->RelV v w'->Q w' s') :
  wpAny (model X.prog X.w) A (getItem (.ref a) u) Q E s:=by
 rcases g with ⟨kvs,k,e,ey,l⟩|⟨kvs,k,b,e,ey,eb,l⟩
 ·subst ey;obtain⟨z,hd,vs,rel,dd⟩:=N5 I.hok e;obtain⟨w',hw,uq⟩:=Ck.some_of (by rw[l];exact rel.val k);exact wpAny_getItem_of (Ur ry) dd.mapOf hw<|h w' _ (I.tok _) uq
 ·subst ey;cases ry;obtain⟨z,hd,xs,rel,dd⟩:=Vj I.hok e;obtain⟨w',hw,uq⟩:=Ck.some_of (by rw[l];exact rel.val k);obtain⟨p,hp,hp2⟩:=Qw7.mp hw;refine wpAny_getItem_heap (tupleKind_room_in1 hu) (KD I.hok eb) dd hp ?_;rw[hp2];exact h w' _ (I.tok _) uq
def N7(I:Inv X pins σ H s)(mu:Mut (H a))(hs:Heap.SameBut a s.heap h')(he:∃q,h'.get? a=some q)(new:gf X.prog X.w (upd H a ob) h' a ob) :
  Inv X pins σ (upd H a ob) { s with heap:=h',toks:=t' }:=
 I.write mu (.inl rfl) (λb q hb z=>(hs.2 b hb).trans z) he new
def ada(z:kvs.length<=sizeLine)(hd:(a == sysModules)=false)(rel:KV kvs vs)(dd:h'.DictOf (iC P w) a vs) :
  gf P w H' h' a (.dK kvs):=⟨z,hd,vs,rel,dd⟩
def Qx(hu:A.units+1<cLine)(I:Inv X pins σ H s)(g:VV H a y v H')(ry:RelV y u)(rv:RelV v r)(h:∀s',Inv X pins σ H' s'->Q () s') :
  wpAny (model X.prog X.w) A (setItem (.ref a) u r) Q E s:=by
 rcases g with ⟨kvs,k,e,ey,l,eH⟩|⟨kvs,k,b,e,ey,eb,l,eH⟩
 ·subst ey eH;obtain⟨z,hd,vs,rel,dd⟩:=afI I.hok e;have hz:vs.length<=sizeLine:=by rw[<-rel.length];exact z
  have hl:(putK kvs k v).length<=sizeLine:=by have:=xY kvs k v;omega
  refine wpAny_setItem_pairs (Ur ry) dd λh' dd' hs=>h _ ?_;have he:∃q,h'.get? a=some q:=let ⟨q,_,_,hq,_⟩:=dd';⟨q,hq⟩
  exact N7 I (by rw[e];exact True.intro) hs he<|ada hl hd (rel.put k rv) dd'
 ·subst ey eH;cases ry;obtain⟨z,hd,xs,rel,dd⟩:=afH I.hok e;have hz:xs.length<=sizeLine:=by rw[<-Paired.length rel];exact z
  have hl:(putK kvs k v).length<=sizeLine:=by have:=xY kvs k v;omega
  refine wpAny_setItem_heap (tupleKind_room_in1 hu) (KD I.hok eb) dd λh' dd' hs=>h _ ?_;obtain⟨q,es,ep,hq,h2,h3,h4,_,h5⟩:=dd';refine N7 I (by rw[e];exact True.intro) hs ⟨q,hq⟩ ⟨hl,hd,_,(rel.put k eb rv).keeps λc ys ec=>?_,q,es,ep,hq,h2,h3,h4,h5⟩;rw[bC (ae4 ec e<|λz=>nomatch z)];exact ec
end
def Zc(i:Expr):Prop:=∀ov iv,subscripted i false ov iv=operate [ov,iv] (getItem ov iv)
def Ws{T id:String}
  (hl:typeLookup (.type T) "__getitem__" = pure (some (.builtin id))) (hs:Zc slice)
  (h:wpAny (model prog w) A (eval value env) (λo s₁=>wpAny (model prog w) A (eval slice env) (λi s₂=>s₂.TypeIs o T/\wpAny (model prog w) A (getItem o i) Q E s₂) E s₁) E s) :
  wpAny (model prog w) A (eval (.Subscript value slice pos) env) Q E s:=by
 refine Subscript_<|Qxk h (λo s₁ h₁=>Qxk h₁ (λi s₂ h₂=>?_) λ_ _ x=>x) λ_ _ x=>x;obtain⟨hT,h₂⟩:=h₂;unfold subscriptTail;refine Qqq ?_;rw[getitemInPython_of_ne hT.not_modules];refine Qqq<|Qkk hT hl ?_;have fin:wpAny (model prog w) A (subscripted slice false o i) (λr s₃=>wpAny (model prog w) A (letTemporaryGo value o r >>= λ_=>pure r) Q E s₃) E s₂:=by rw[hs o i];exact wpAny_operating<|Qxk h₂ (λr s₃ h₃=>Qqq<|wpAny_letTemporaryGo<|Qqv h₃) λ_ _ x=>x
 first
  | exact Qqv<|Qqq fin
  | exact Qqq<|Qqv<|Qqq fin
  | exact Qqq fin
def Jq{σ:St}(I:Inv X pins σ H s)(g:Zd H a y o):s.TypeIs (.ref a) "dict":=by
 rcases g with ⟨kvs,k,e,_,_⟩|⟨kvs,k,b,e,_,_,_⟩
 ·obtain⟨_,_,vs,_,dd⟩:=N5 I.hok e;exact dd.typeIs
 ·obtain⟨_,_,xs,_,dd⟩:=Vj I.hok e;exact dd.typeIs
def ad5(td ty:TE):TE:=λσ H Q=>td σ H λx H1=>ty σ H1 λy H2=>∃a v,x = .ref a/\Zd H2 a y (some v)/\Q v H2
def aee(td ty tv:TE):TS:=λD σ H=>tv σ H λv H1=>td σ H1 λx H2=>ty σ H2 λy H3=>∃a H4,x = .ref a/\VV H3 a y v H4/\D.nx σ H4
section
variable{X:Cx}{o i e value:Expr}{pos pos' tpos:Pos}{td ty tv:TE}
def Xo(hu:X.A.units+1<cLine)(ho:PE X o td)(hi:PE X i ty)(hs:Zc i):PE X (.Subscript o i pos) (ad5 td ty):=by intro pins s σ H Q I h;refine Ws PySem.F.slot_dict_getitem.lookup hs<|g8 (ho pins s σ H _ I h) λu s1 ⟨x,H1,I1,rx,q1⟩=>g8 (hi pins s1 σ H1 _ I1 q1) λiv s2 ⟨y,H2,I2,ry,a,v,ex,g,q2⟩=>?_;subst ex;obtain rfl:u=Value.ref a:=rx;exact⟨Jq I2 g,Qy hu I2 g ry λw' s3 I3 uq=>⟨v,H2,I3,uq,q2⟩⟩
def Xe(hu:X.A.units+1<cLine)(ho:PE X o td)(hi:PE X i ty)(hv:PE X value tv)(hs:swapsWith value (some (.Subscript o i pos')) pos.line X.env=pure false) :
  PS X (.Assign [.Subscript o i pos'] value pos) (aee td ty tv):=by
 intro pins s σ H D I h;refine wpAny_Assign_Subscript (g8 (hv pins s σ H _ I h) λr s1 ⟨v,H1,I1,rv,q1⟩=>g8 (ho pins s1 σ H1 _ I1 q1) λu s2 ⟨x,H2,I2,rx,q2⟩=>g8 (hi pins s2 σ H2 _ I2 q2) λiv s3 ⟨y,H3,I3,ry,a,H4,ex,g,q3⟩=>?_) hs;subst ex;obtain rfl:u=Value.ref a:=rx;exact Qx hu I3 g ry rv λs4 I4=>⟨σ,H4,I4,q3⟩
end
def Vk(h:Heap)(hb:sysModules<h.objs.size):gf P w H (h.push { cls:=.type "dict",data:=.dict #[] }) h.objs.size (.dK []):=
 ⟨Qzz _,Qwv.mpr<|Ne.symm<|Qwj hb,[],.nil,Heap.DictOf.new h⟩
def aa3:TE:=λ_ H Q=>∀p,H p=none->Q (.ref p) (upd H p (.dK []))
section
variable{X:Cx}{pos:Pos}
def Tz:PE X (.Dict [] [] pos) aa3:=λpins s σ H Q I h=>
 wpAny_Dict_empty ⟨.ref s.heap.objs.size,_,I.laid (λ_ _ q=>Qqx _ q) (Qqy _)<|Vk s.heap I.big,rfl,h _<|I.hok.fresh<|Qqy _⟩
end
def nW(env:Env):List (Str×NameKind)->List (Str×Addr)->List (Str×Addr)
 | [],acc=>acc
 | (n,k)::r,acc=>if k == .free then nW env r ((n,(env.cells.lookup n).getD 0)::acc) else nW env r acc
theorem An(f)
  (hf:∀n k cs,f (n,k) cs=if k == .free then (do let a <-cellOf env n;pure (.yield ((n,a)::cs))) else pure (.yield cs)) :
  ∀names acc,(∀n,(n,NameKind.free)∈names->∃c,env.cells.lookup n=some c)->forIn names acc f=pure (nW env names acc)
 | [],acc,_=>by rw[List.forIn_nil];rfl
 | (n,k)::r,acc,h=>by
  have ih:=An f hf r;have hr:=λm hm=>h m<|Qqw _ hm;rw[List.forIn_cons,hf];cases hk:k == NameKind.free with
  | true=>
   have hk':k = .free:=by simpa using hk
   obtain⟨c,hc⟩:=h n (by rw[hk'];exact Qqk);rw[if_pos rfl];unfold cellOf;rw[hc];simp[pure_bind];rw[ih _ hr]
   conv=>rhs;unfold nW
   rw[if_pos hk,hc]
   rfl
  | false=>
   rw[if_neg (by simp)];simp[pure_bind];rw[ih _ hr]
   conv=>rhs;unfold nW
   rw[if_neg (by simp[hk])]
def Ao(h:∀n,(n,NameKind.free)∈scope.names->∃c,env.cells.lookup n=some c):closureFor scope env=pure (nW env scope.names []):=by
 simp only[closureFor];rw[An _ (λn k cs=>by cases hk:k == NameKind.free<;>simp[hk]) _ _ h]
 rfl
theorem vP:∀names acc x c,(∀n,(n,NameKind.free)∈names->∃c,env.cells.lookup n=some c)->
  (∀y d,acc.lookup y=some d->env.cells.lookup y=some d)->(nW env names acc).lookup x=some c->env.cells.lookup x=some c
 | [],acc,x,c,_,ha,h=>ha x c h
 | (n,k)::r,acc,x,c,hn,ha,h=>by
  have hr:=λm hm=>hn m<|Qqw _ hm;unfold nW at h;split at h
  ·rename_i hk;have hk':k = .free:=by simpa using hk
   obtain⟨d,hd⟩:=hn n (by rw[hk'];exact Qqk);refine vP r _ x c hr (λy e he=>?_) h;rw[Qzk] at he;cases hy:y == n with
   | true=>
    rw[hy] at he;have e1:y=n:=by simpa using hy
    rw[e1,hd];rw[hd] at he;exact he
   | false=>
    rw[hy] at he;exact ha y e he
  ·exact vP r acc x c hr ha h
theorem xE:∀names acc x,(acc.lookup x).isSome=true->((nW env names acc).lookup x).isSome=true
 | [],acc,x,h=>h
 | (n,k)::r,acc,x,h=>by
  unfold nW;split
  ·refine xE r _ x ?_;rw[Qzk];split
   ·rfl
   ·exact h
  ·exact xE r acc x h
theorem vO:∀names acc x,(x,NameKind.free)∈names->((nW env names acc).lookup x).isSome=true
 | [],acc,x,h=>nomatch h
 | (n,k)::r,acc,x,h=>by
  unfold nW;rcases Qq3.mp h with e|h
  ·obtain⟨e1,e2⟩:=Prod.mk.inj e;subst e1 e2;rw[if_pos (by rfl)];refine xE r _ x ?_;rw[Qzk];simp
  ·split
   ·exact vO r _ x h
   ·exact vO r acc x h
theorem fZ:∀names n acc,cellsFrom n names acc=cellsFrom n names []++acc
 | [],n,acc=>rfl
 | (x,k)::r,n,acc=>by
  unfold cellsFrom;split
  ·rw[fZ r (n+1) ((x,n)::acc),fZ r (n+1) [(x,n)],Qwy]
   rfl
  ·exact fZ r n acc
theorem o4:∀names n x c,(x,c)∈cellsFrom n names []->(x,NameKind.cell)∈names
 | [],n,x,c,h=>nomatch h
 | (y,k)::r,n,x,c,h=>by
  unfold cellsFrom at h;split at h
  ·rename_i hk;have hk':k = .cell:=by simpa using hk
   rw[fZ] at h;rcases Qxv.mp h with h|h
   ·exact Qqw _<|o4 r _ x c h
   ·have e:=Qwx.mp h;cases e;rw[hk'];exact Qqk
  ·exact Qqw _<|o4 r _ x c h
theorem qj{α:Type}:∀(l m:List (Str×α)) x,(l++m).lookup x=match l.lookup x with|some v=>some v|none=>m.lookup x
 | [],m,x=>rfl
 | (k,v)::r,m,x=>by
  rw[Qj4,Qzk,Qzk];cases h:x == k with
  | true=>rfl
  | false=>exact qj r m x
theorem rO{α:Type}:∀(l:List (Str×α)) x,(∀v,(x,v) ∉ l)->l.lookup x=none
 | [],x,_=>rfl
 | (k,v)::r,x,h=>by
  rw[Qzk];cases e:x == k with
  | true=>
   have e':x=k:=by simpa using e
   exact absurd (by rw[e'];exact Qqk)<|h v
  | false=>exact rO r x λw hw=>h w<|Qqw _ hw
theorem lookup_mem{α:Type}:∀(l:List (Str×α)) x v,l.lookup x=some v->(x,v)∈l
 | [],x,v,h=>nomatch h
 | (k,w)::r,x,v,h=>by
  rw[Qzk] at h;cases e:x == k with
  | true=>
   rw[e] at h;cases h;have e':x=k:=by simpa using e
   rw[e'];exact Qqk
  | false=>
   rw[e] at h;exact Qqw _<|lookup_mem r x v h
theorem jm{α:Type}:∀(l:List (Str×α)) x v,(l.map (·.1)).Nodup->(x,v)∈l->l.lookup x=some v
 | [],x,v,_,h=>nomatch h
 | (k,w)::r,x,v,nd,h=>by
  rw[Qzk];have nd':=Qkj.mp nd;rcases Qq3.mp h with e|h
  ·cases e;simp
  ·have hne:¬x=k:=λe=>nd'.1 (by rw[<-e];exact Qwk.mpr ⟨(x,v),h,rfl⟩);have hb:(x == k)=false:=by simpa using hne
   rw[hb];exact jm r x v nd'.2 h
def HW
  (hQ:∀h',h'.Ns s.heap.objs.size (λ_=>none)->(∀b o,s.heap.get? b=some o->h'.get? b=some o)->CellsOk h' (s.heap.objs.size+1) (cellsFrom (s.heap.objs.size+1) scope.names [])->
   Q { scope,locals:=s.heap.objs.size,globals,cells:=cellsFrom (s.heap.objs.size+1) scope.names cl,qual,func:=none,code:=outer.code,frame:=outer.frame,builtins:=outer.builtins } { s with heap:=h' }) :
  wpAny M A (newFunctionEnv scope globals cl [] qual none .none (some outer)) Q E s:=by
 simp only[newFunctionEnv,Option.isSome_some,if_true];refine Qqq<|wpAny_alloc ?_;refine Qqq<|wpAny_layCells _ (λname kind cells=>by cases hkc:kind == NameKind.cell<;>simp[hkc]) _ _ _ _ ?_;have ok:=cellsFrom_ok scope.names (s.heap.push { cls:=.type "dict",data:=.dict #[] }) (s.heap.objs.size+1) [] ⟨λ_ _ hm=>(nomatch hm),List.Pairwise.nil⟩ (by rw[Qjk];exact Qqy _);rw[Qjk] at ok;rw[show({ s with heap:=s.heap.push { cls:=.type "dict",data:=.dict #[] } }:Shared).heap.objs.size=s.heap.objs.size+1 from Qjk ..];refine Qqq ?_;rw[List.forIn_nil];refine Qqv<|Qqv<|hQ _ ?_ ?_ ?_
 ·exact(Heap.Ns.new s.heap<|.type "dict").keeps<|pushCells_keeps _ _
 ·exact λb o e=>pushCells_keeps _ _ b o<|Qqx _ e
 ·exact ok
def cxC(X:Cx)(scope:Scope)(N':List Str)(cells:List (Str×Addr))(C:Addr)(s0:Shared)(H0:Hp)(fp:List Addr):Cx:=
 { X with N:=N',s₀:=s0,H₀:=H0,env:=compEnvC scope cells C X.env,outer:=X.stack,stack:=X.stack,ex:=fp,fn:=λx=>decide (scope.names.lookup x=some .cell),pn:=[],xe:=λ_ _=>False }
theorem rN{env:Env}:∀(names:List (Str×NameKind)) x,
  (names.map λ(n,k)=>if (k == NameKind.free&&env.scope.kind == .function&&env.kindOf n == some .cell) then (n,NameKind.cell) else (n,k)).lookup x =
   (names.lookup x).map λk=>if (k == NameKind.free&&env.scope.kind == .function&&env.kindOf x == some .cell) then NameKind.cell else k
 | [],x=>rfl
 | (n,k)::r,x=>by
  show List.lookup x ((if (k == NameKind.free&&env.scope.kind == .function&&env.kindOf n == some .cell)=true then (n,NameKind.cell) else (n,k))::_)=_;cases hx:x == n with
  | true=>
   have e:x=n:=by simpa using hx
   subst e;simp[Qzk,hx,Qkv];split<;>simp[Qzk]
  | false=>
   simp only[Qzk,hx];rw[<-rN r x];split<;>simp[Qzk,hx]
def Vp(names:List (Str×NameKind)):List Str->List Str->Bool
 | _,[]=>true
 | [],_::_=>false
 | x'::N',x::N=>((names.lookup x').isNone||(x' == x&&names.lookup x' == some .free))&&Vp names N' N
theorem Jt:∀{N' N},Vp names N' N=true->∀i x,i<N.length->N'[i]? = some x->(names.lookup x).isSome=true->N[i]? = some x/\names.lookup x=some .free
 | _,[],_,i,x,h,_,_=>absurd h<|Qk4 _
 | [],_::_,h,_,_,_,_,_=>by cases h
 | x'::N',y::N,h,i,x,hi,e,hs=>by
  unfold Vp at h;have h1:=(Qkz.mp h).1;have h2:=(Qkz.mp h).2;cases i with
  | zero=>
   have e':x'=x:=by simpa using e
   subst e';rcases Bool.or_eq_true_iff.mp h1 with q|q
   ·cases z:names.lookup x' with
    | none=>rw[z] at hs;cases hs
    | some k=>rw[z] at q;cases q
   ·have q1:=(Qkz.mp q).1;have q2:=(Qkz.mp q).2;have e1:x'=y:=by simpa using q1
    have e2:names.lookup x'=some .free:=by simpa using q2
    exact⟨by rw[e1];rfl,e2⟩
  | succ i=>exact Jt h2 i x (by simpa using hi) (by simpa using e) hs
structure nU(X:Cx)(scope:Scope)(N':List Str):Prop where
 kind:scope.kind = .function
 nd:(scope.names.map (·.1)).Nodup
 free:∀x∈scope.names,x.2 = .free->X.env.kindOf x.1=some .cell\/X.env.kindOf x.1=some .free
 chk:Vp scope.names N' X.N=true
 len:X.N.length<=N'.length
def PIf(X:Cx)(ifs:List Expr)(t:TT):Prop:=
 ∀(pins:List (Addr×Obj)) (s:Shared) (σ:St) (H:Hp) (Q:Bool->Hp->Prop),Inv X pins σ H s->t σ H Q->
  wpAny (model X.prog X.w) X.A (forIn ifs true λc r=>if r=true then do let ok <-isTrue c X.env (eval c X.env);pure (ForInStep.yield ok) else pure (ForInStep.yield r)) (TP X pins σ Q) X.xe s
def Xi:PIf X [] (λ_ H Q=>Q true H):=λpins s σ H Q I h=>by
 rw[List.forIn_nil];exact Qqv ⟨H,I,h⟩
def Xh(h:PT X c t):PIf X [c] t:=λpins s σ H Q I hw=>by
 rw[List.forIn_cons,if_pos rfl];refine Qqq<|Qqq<|g8 (h pins s σ H Q I hw) λb s' q=>?_;refine Qqv ?_;show wpAny _ _ (forIn [] b _) _ _ _;rw[List.forIn_nil];exact Qqv q
def u5(n:Nat)(σ:St):St:=σ++List.replicate n none
def tLC(n:Nat)(wi:TI)(g:TG)(tc:TT)(te:TE):TE:=λσ H Q=>wi σ H λJ H1=>∀d,H1 d=none->∃W:Nat->Nat->St->Hp->Prop,(∃m,W 0 m (u5 (n - σ.length) σ) (upd H1 d (.lst [])))/\∀i m σ' H',W i m σ' H'->
 (J.stop i H'/\Q (.ref d) H')\/(J.go i H'/\∃N:St->Hp->Prop,(∀σ2 H2,N σ2 H2->∃m',m'<m/\W (i+1) m' σ2 H2)/\∀x H2,J.yld i H' x H2->g x σ' H2 λσ3 H3=>tc σ3 H3 λb H4=>
  if b=true then te σ3 H4 λy H5=>∃ys,H5 d=some (.lst ys)/\ys.length<sizeLine/\N σ3 (upd H5 d (.lst (ys++[y]))) else N σ3 H4)
section
variable{prog:Program}{w:World}{A:Around}{R:Result->Shared->Prop}{s:Shared}
def FP(I:Nat->Shared->Prop)
  (turn:∀n s,I n s->wpAny (model prog w) A (pyNext it) (λr s₁=>match r with
   | none=>R (.ok .next) s₁
   | some v=>wpAny (model prog w) A (letOwnedTupleGo target it v) (λ_ s₁'=>wpAny (model prog w) A (assign target env v) (λ_ s₂=>
     wpAny (model prog w) A (forIn ifs true λc r=>if r=true then do let ok <-isTrue c env (eval c env);pure (ForInStep.yield ok) else pure (ForInStep.yield r)) (λok s₃=>
      if ok=true then wpAny (model prog w) A (eval elt env) (λx s₄=>
       wpAny (model prog w) A (call (.builtin "list.append") [acc,x]) (λ_ s₅=>∃m,m<n/\I m s₅) (λ_ _=>False) s₄) (λ_ _=>False) s₃
      else ∃m,m<n/\I m s₃) (λ_ _=>False) s₂) (λ_ _=>False) s₁') (λ_ _=>False) s₁) (λ_ _=>False) s)
  (n) (h:I n s) :
  codeAny (model prog w) A (.compLoop (.ListComp elt [⟨target,iter,ifs,0⟩] scope pos) 0 it acc env) R s:=by
 refine codeAny_loop rfl I (λn s hI=>?_) n h;show wpAny _ A ((compTurn (.ListComp elt [⟨target,iter,ifs,0⟩] scope pos) 0 it acc env).onRaise<|λx=>do noteFrame x env;theTreesLotGoes x) _ _ s;refine wpAny_noted ?_;rw[compTurn_list];refine Qqq<|wpAny_standAt<|Qqq<|Qxk (turn n s hI) (λr s₁ h₁=>?_) λ_ _ h'=>h'.elim;cases r with
 | none=>exact Qqv h₁
 | some v=>
  refine Qqq<|Qxk h₁ (λ_ s₁' h₁'=>?_) λ_ _ h'=>h'.elim;refine Qqq<|Qxk h₁' (λ_ s₂ h₂=>Qqq<|Qxk h₂ (λok s₃ h₃=>?_) λ_ _ h'=>h'.elim) λ_ _ h'=>h'.elim;cases ok with
  | false=>exact Qqv ⟨rfl,h₃⟩
  | true=>
   exact Qqq<|Qqq<|Qxk h₃ (λx s₄ h₄=>Qqq<|Qxk h₄ (λ_ s₅ h₅=>Qqv<|Qqv ⟨rfl,h₅⟩) λ_ _ h'=>h'.elim) λ_ _ h'=>h'.elim
end
def Ux{σ:St}{fp:List Addr}(ok:nU X scope N')(I:Inv X pins σ H s)(hf:∀b∈fp,Bf X pins H b)(hlt:∀b∈fp,b<s.heap.objs.size)
  (hn:h'.Ns s.heap.objs.size (λ_=>none)) (hk:∀b o,s.heap.get? b=some o->h'.get? b=some o) (co:CellsOk h' (s.heap.objs.size+1) (cellsFrom (s.heap.objs.size+1) scope.names [])) :
  Inv (cxC X scope N' (cellsFrom (s.heap.objs.size+1) scope.names (nW X.env scope.names [])) s.heap.objs.size s H fp) [] (u5 (N'.length - σ.length) σ) H { s with heap:=h' }:=by
 have hfree:∀n,(n,NameKind.free)∈scope.names->∃c,X.env.cells.lookup n=some c:=λn hm=>I.ok.has n<|ok.free _ hm rfl
 -- the cells by name
 have qz:∀x c,(cellsFrom (s.heap.objs.size+1) scope.names<|nW X.env scope.names []).lookup x=some c->
   ((x,c)∈cellsFrom (s.heap.objs.size+1) scope.names []/\(cellsFrom (s.heap.objs.size+1) scope.names []).lookup x=some c)\/((cellsFrom (s.heap.objs.size+1) scope.names []).lookup x=none/\X.env.cells.lookup x=some c):=λx c e=>by
  rw[fZ,qj] at e;cases q:(cellsFrom (s.heap.objs.size+1) scope.names []).lookup x with
  | some d=>rw[q] at e;cases e;exact .inl ⟨lookup_mem _ _ _ q,rfl⟩
  | none=>rw[q] at e;exact .inr ⟨rfl,vP _ _ x c hfree (λy d h=>by simp at h) e⟩
 have zN:=λx c h=>(co.empty x c h).2;have TX:=λx c h=>let ⟨v,q⟩:=I.cell x c h;q.lt
 have EY:∀x,(relabel scope X.env).names.lookup x=(scope.names.lookup x).map λk=>if (k == NameKind.free&&X.env.scope.kind == .function&&X.env.kindOf x == some .cell) then NameKind.cell else k:=λx=>rN _ _
 have Ir:∀x,(x,NameKind.cell)∈scope.names->∃c,(cellsFrom (s.heap.objs.size+1) scope.names []).lookup x=some c:=λx hx=>by
  have q:=PySem.W.cellsFrom_some scope.names (s.heap.objs.size+1) []<|.inl<|jm _ _ _ ok.nd hx;exact Qjz.mp q
 have fpC:∀b∈fp,∀x c,(cellsFrom (s.heap.objs.size+1) scope.names<|nW X.env scope.names []).lookup x=some c->c≠b:=λb hb x c e=>by
  rcases qz x c e with ⟨h1,_⟩|⟨_,h2⟩
  ·have h3:=zN x c h1;have h4:=hlt b hb;rintro rfl;exact absurd (Qw0 h4<|Qj2 h3)<|Qz1 _
  ·exact(hf b hb).2.2.2.2.1 x c h2
 refine⟨⟨I.ok.mod,ok.kind,I.ok.glob,I.ok.blt,Qqy _,λx y c h1 h2=>?_,λx hx=>?_,λx c hx e=>?_,I.ok.hd,I.ok.frames,.inl rfl,λb hb=>⟨Qwj<|hlt b hb,λx c e=>fpC b hb x c e⟩,I.bs,Qq0 I.ok.V4 I.sz,λb o e hb=>?_,λb hb=>?_,I.stack,I.DR⟩,
  rfl,I.bare,Un.kept hk,⟨_,hn,λi x v e1 e2 e3=>?_⟩,λx c e=>?_,I.hok.fresh<|Qqy _,λx c e=>?_,λp hp=>absurd (show p∈([]:List (Addr×Obj)) from hp) (by simp),I.hok.kept hk,?_⟩
 ·-- one name a cell
  rcases qz x c h1 with ⟨p1,_⟩|⟨_,p2⟩
  ·rcases qz y c h2 with ⟨q1,_⟩|⟨_,q2⟩
   ·exact name_of_addr co.apart p1 q1
   ·exact absurd (Qw0 (TX y c q2)<|Qj2<|zN x c p1)<|Qz1 _
  ·rcases qz y c h2 with ⟨q1,_⟩|⟨_,q2⟩
   ·exact absurd (Qw0 (TX x c p2)<|Qj2<|zN y c q1)<|Qz1 _
   ·exact I.ok.inj x y c p2 q2
 ·-- each cell name has one
  show ∃c,(cellsFrom (s.heap.objs.size+1) scope.names<|nW X.env scope.names []).lookup x=some c;have hx:(relabel scope X.env).names.lookup x=some .cell\/(relabel scope X.env).names.lookup x=some .free:=hx;rw[EY] at hx;cases q:scope.names.lookup x with
  | none=>rw[q] at hx;rcases hx with hx|hx<;>cases hx
  | some k=>
   rw[q] at hx;rw[fZ,qj];cases z:(cellsFrom (s.heap.objs.size+1) scope.names []).lookup x with
   | some d=>exact⟨d,rfl⟩
   | none=>
    have hkf:k = .free:=by
     cases k with
     | free=>rfl
     | cell=>obtain⟨c,hc⟩:=Ir x<|lookup_mem _ _ _ q;rw[hc] at z;cases z
     | _=>rcases hx with hx|hx<;>simp at hx
    subst hkf;exact Qjz.mp<|vO _ _ x<|lookup_mem _ _ _ q
 ·-- its own cells are new
  have hx':scope.names.lookup x=some .cell:=Qww hx;rcases qz x c e with ⟨p1,_⟩|⟨p1,_⟩
  ·exact Qj2<|zN x c p1
  ·obtain⟨d,hd⟩:=Ir x<|lookup_mem _ _ _ hx';rw[hd] at p1;cases p1
 ·rcases(hf b hb).2.2.2.1 with z|z
  ·exact I.ok.Qf b o e z
  ·have h1:=Qq9 e;have h2:=I.ok.V4;exact absurd (Qw0 h1<|Qq0 h2 z)<|Qz1 _
 ·intro hm;rcases Qq3.mp (I.J6 b hm) with z|z
  ·exact(hf b hb).2.1 z
  ·exact(hf b hb).2.2.1 z
 ·-- the names
  have hiσ:i<σ.length:=by
   by_cases hi:i<σ.length
   ·exact hi
   ·unfold u5 at e2;rw[Qx1 (by omega),Qjv] at e2;split at e2<;>cases e2
  have e2':σ[i]? = some (some v):=by
   unfold u5 at e2
   rwa [Qw9 hiσ] at e2
  have vis:(scope.names.lookup x).isSome=true:=by
   have e3:(relabel scope X.env).names.lookup x=some .local\/(relabel scope X.env).names.lookup x=some .cell\/(relabel scope X.env).names.lookup x=some .free:=e3;rw[EY] at e3;cases q:scope.names.lookup x with
   | none=>rw[q] at e3;rcases e3 with z|z|z<;>cases z
   | some k=>rfl
  obtain⟨hN,hfr⟩:=Jt ok.chk i x (by rw[<-I.len];exact hiσ) e1 vis;have hm:=lookup_mem _ _ _ hfr;have hkk:=ok.free _ hm rfl;obtain⟨m,hns,hl⟩:=I.loc;obtain⟨u,ru,lk⟩:=hl i x v hN e2'<|hkk.elim (λz=>.inr<|.inl z) λz=>.inr<|.inr z;refine⟨u,ru,.inr ⟨?_,?_⟩⟩
  ·show(relabel scope X.env).names.lookup x=some .cell\/(relabel scope X.env).names.lookup x=some .free;rw[EY,hfr];by_cases hc:(NameKind.free == NameKind.free&&X.env.scope.kind == .function&&X.env.kindOf x == some .cell)=true
   ·left;rw[Qkv,if_pos hc]
   ·right;rw[Qkv,if_neg hc]
  ·rcases lk with ⟨hl1,_⟩|⟨_,c,hc,hcell⟩
   ·rcases hkk with z|z<;>(rw[z] at hl1;cases hl1)
   ·refine⟨c,?_,hcell.keeps hk⟩;show(cellsFrom (s.heap.objs.size+1) scope.names<|nW X.env scope.names []).lookup x=some c;rw[fZ,qj];have hno:(cellsFrom (s.heap.objs.size+1) scope.names []).lookup x=none:=rO _ _ λd hd=>by
     have h1:=jm _ _ _ ok.nd<|o4 _ _ _ _ hd;rw[hfr] at h1;cases h1
    rw[hno];obtain⟨d,hd⟩:=Qjz.mp<|vO scope.names [] x hm;have h2:=vP _ _ x d hfree (λy d h=>by simp at h) hd;rw[hc] at h2;show(nW X.env scope.names []).lookup x=some c;rw[hd,h2]
 ·rcases qz x c e with ⟨p1,_⟩|⟨_,p2⟩
  ·exact⟨_,(co.empty x c p1).1⟩
  ·obtain⟨v,q⟩:=I.cell x c p2;exact⟨v,q.keeps hk⟩
 ·rcases qz x c e with ⟨p1,_⟩|⟨p0,p2⟩
  ·exact .inl<|I.hok.fresh<|Qj2<|zN x c p1
  ·rcases I.mD x c p2 with z|⟨_,z⟩
   ·exact .inl z
   ·refine .inr ⟨?_,z⟩;show decide (scope.names.lookup x=some .cell)=false;refine Qw5 λq=>?_;obtain⟨d,hd⟩:=Ar q;rw[p0] at hd;cases hd
 ·show(u5 (N'.length - σ.length) σ).length=N'.length;unfold u5;rw[Qqz,Qz4];have h1:=ok.len;have h2:=I.len;omega
abbrev km(X:Cx)(scope:Scope)(N':List Str)(X':Cx):Prop:=
 ∃(cells:List (Str×Addr)) (C:Addr) (s0:Shared) (H0:{ H:Hp // ∀b qs,X.H₀ b=some (.tab qs)->H b=some (.tab qs) }) (fp:List Addr),X'=cxC X scope N' cells C s0 H0.1 fp
def Dp
  (ok:nU X scope N') (hc:X.calm=true)
  (bg:∀X',km X scope N' X'->PG X' tg g) (bc:∀X',km X scope N' X'->PIf X' ifs tc) (be:∀X',km X scope N' X'->PE X' elt te)
  {σ:St} {Q:VK} (I2:Inv X pins σ H2 s2) (T:Turn X.prog X.w X.K tg J fp it tn) (st2:tn 0 s2.heap) (f2:∀b∈fp,Bf X pins H2 b)
  (q:∀d,H2 d=none->∃W:Nat->Nat->St->Hp->Prop,(∃m,W 0 m (u5 (N'.length - σ.length) σ) (upd H2 d (.lst [])))/\∀i m σ' H',W i m σ' H'->
   (J.stop i H'/\Q (.ref d) H')\/(J.go i H'/\∃N:St->Hp->Prop,(∀σ2 H2,N σ2 H2->∃m',m'<m/\W (i+1) m' σ2 H2)/\∀x H2,J.yld i H' x H2->g x σ' H2 λσ3 H3=>tc σ3 H3 λb H4=>
    if b=true then te σ3 H4 λy H5=>∃ys,H5 d=some (.lst ys)/\ys.length<sizeLine/\N σ3 (upd H5 d (.lst (ys++[y]))) else N σ3 H4))
  (fin:∀d C m s' H',Inv X pins σ H' s'->Q (.ref d) H'->s'.heap.Ns C m->H' C=none->C≠X.env.locals->X.s₀.heap.objs.size<=C->(∀x c,X.env.cells.lookup x=some c->c≠C)->(∀p∈X.pn++pins,p.1≠C)->
   compPost (model X.prog X.w) X.A X.xe use QQ (.ref d) C (.ok .next) s') :
  wpAny (model X.prog X.w) X.A (newList []) (λacc s₃=>wpAny (model X.prog X.w) X.A (newFunctionEnv scope X.env.globals (nW X.env scope.names []) [] X.env.qual none .none (some X.env)) (λcenv s₄=>
   codeAny (model X.prog X.w) X.A (.compStart (.ListComp elt [⟨tg,iter,ifs,0⟩] scope pos) 0 (.ref it) acc { cenv with scope:=relabel scope X.env }) (compPost (model X.prog X.w) X.A X.xe use QQ acc cenv.locals) s₄) X.xe s₃) X.xe s2:=by
 have hd2:H2 s2.heap.objs.size=none:=I2.fresh;refine Qxj<|HW λh' hns hkeep hco=>?_
 -- the state behind the list
 obtain⟨W,⟨m0,w0⟩,turn⟩:=q s2.heap.objs.size hd2;have I3:Inv X pins σ (upd H2 s2.heap.objs.size<|.lst []) { s2 with heap:=s2.heap.push { cls:=.type "list",data:=.seq ([]:List Value).toArray } }:=I2.afb .nil<|Qzz _;have lt2:∀b∈fp,b<s2.heap.objs.size:=λb hb=>by
  obtain⟨o,e,_⟩:=T.obj _ _ st2 b hb;exact Qq9 e
 have f3:∀b∈fp,Bf X pins (upd H2 s2.heap.objs.size<|.lst []) b:=λb hb=>by
  refine⟨?_,(f2 b hb).2⟩;rw[bC (Qwj<|lt2 b hb)];exact(f2 b hb).1
 have lt3:∀b∈fp,b<({ s2 with heap:=s2.heap.push { cls:=.type "list",data:=.seq ([]:List Value).toArray } }:Shared).heap.objs.size:=λb hb=>by
  show b<(s2.heap.push _).objs.size;rw[Qjk];exact Qzw<|lt2 b hb
 have st3:tn 0 h':=T.keep _ _ _ st2 λb hb o e=>hkeep b o<|Qqx _ e;have I4:=Ux ok I3 f3 lt3 hns hkeep hco;generalize hs3:({ s2 with heap:=s2.heap.push { cls:=.type "list",data:=.seq ([]:List Value).toArray } }:Shared)=s3 at *;have sz3:s3.heap.objs.size=s2.heap.objs.size+1:=by rw[<-hs3];exact Qjk ..
 generalize hX':cxC X scope N' (cellsFrom (s3.heap.objs.size+1) scope.names<|nW X.env scope.names []) s3.heap.objs.size s3 (upd H2 s2.heap.objs.size<|.lst []) fp=X' at I4;have at':km X scope N' X':=⟨_,_,_,⟨_,I3.base.tabs⟩,_,hX'.symm⟩;have hg:=bg X' at';have hif:=bc X' at';have he:=be X' at';have eP:X'.prog=X.prog:=by rw[<-hX'];rfl
 have eW:X'.w=X.w:=by rw[<-hX'];rfl
 have eK:X'.K=X.K:=by rw[<-hX'];rfl
 have eA:X'.A=X.A:=by rw[<-hX'];rfl
 have eC:X'.calm=true:=by rw[<-hX'];exact hc
 have eX:X'.xe=λ_ _=>False:=by rw[<-hX'];rfl
 have ePn:X'.pn=[]:=by rw[<-hX'];rfl
 have eEx:X'.ex=fp:=by rw[<-hX'];rfl
 have eL:X'.env.locals=s3.heap.objs.size:=by rw[<-hX'];rfl
 have eFs:X'.fs=frs X.stack:=by rw[<-hX'];rfl
 have ahq:compEnvC scope (cellsFrom (s3.heap.objs.size+1) scope.names<|nW X.env scope.names []) s3.heap.objs.size X.env=X'.env:=by rw[<-hX'];rfl
 have eS0:X'.s₀=s3:=by rw[<-hX'];rfl
 have eH0:X'.H₀=upd H2 s2.heap.objs.size (.lst []):=by rw[<-hX'];rfl
 -- what is true of the iterator's objects in the block
 have stat:∀{H'},(∀b∈fp,H' b=none)->∀b∈fp,Bf X' [] H' b:=λ{H'} hn b hb=>by
  refine⟨hn b hb,?_,?_,.inl (by rw[eEx];exact hb),λx c e=>?_,λp hp=>?_⟩
  ·rw[eL];exact Qwj<|lt3 b hb
  ·have:=I4.ok.Qv b (by rw[eEx];exact hb);exact this
  ·exact(I4.ok.exf b (by rw[eEx];exact hb)).2 x c e
  ·rw[ePn] at hp;exact absurd hp (by simp)
 -- the outer context again
 have back:∀σ' H' s',Inv X' [] σ' H' s'->Inv X pins σ H' s':=λσ' H' s' J'=>by
  have hb:=J'.base;rw[eFs,eEx,eS0,eH0] at hb;have hos:=J'.os;rw[eS0] at hos;have hok:=J'.hok;rw[eP,eW] at hok;exact I3.call' hos hb hok J'.bare λb hbm=>⟨(f3 b hbm).2.2.2.1,(f3 b hbm).2.1,(f3 b hbm).2.2.2.2.1,(f3 b hbm).2.2.2.2.2⟩
 have loop:∀s4,s4 = { s3 with heap:=h' }->codeAny (model X.prog X.w) X.A (.compLoop (.ListComp elt [⟨tg,iter,ifs,0⟩] scope pos) 0 (.ref it) (.ref s2.heap.objs.size) X'.env) (compPost (model X.prog X.w) X.A X.xe use QQ (.ref s2.heap.objs.size) s3.heap.objs.size) s4:=by
  rintro s4 rfl;refine FP (λn s'=>∃i σ' H',Inv X' [] σ' H' s'/\tn i s'.heap/\(∀b∈fp,H' b=none)/\W i n σ' H') ?_ m0 ⟨0,_,_,I4,st3,λb hb=>(f3 b hb).1,w0⟩;rintro n s5 ⟨i,σ5,H5,I5,st5,fr5,w5⟩;rcases turn i n σ5 H5 w5 with ⟨stop,qn⟩|⟨go,N,hN,step⟩
  ·have td:=T.done X' eP eW eK eC i [] s5 σ5 H5 (λ_ _=>False) I5 (stat fr5) st5 stop;rw[eA] at td;refine g8 td λr s6 ⟨hr,I6⟩=>?_;subst hr;obtain⟨mC,hnC,_⟩:=id I6.loc;rw[eL] at hnC;have lc:X.env.locals<s3.heap.objs.size:=by
    have:=I3.lt;exact this
   refine fin _ _ mC s6 H5 (back _ _ _ I6) qn hnC ?_ (Qkw lc) I3.sz (λx c e=>?_)<|λp hp=>?_
   ·have:=I6.free;rw[eL] at this;exact this
   ·obtain⟨v,z⟩:=I3.cell x c e;exact Qwj z.lt
   ·exact Qwj<|Qq9 (I3.pin p hp).1
  ·have ti:=T.item X' eP eW eK eC i [] s5 σ5 H5 (λ_ _=>False) I5 (stat fr5) st5 go;rw[eA] at ti;refine g8 ti λr s6 ⟨u,hr,h6⟩=>?_;subst hr;refine g8 h6 λ_ s7 ⟨x,H7,I7,r7,y7,st7,fr7⟩=>?_;have I7':=I7.pinned (stat fr7)<|T.obj _ _ st7;have hg':=hg _ s7 σ5 H7 x u _ I7' r7<|step x H7 y7;rw[eP,eW,eA,eX] at hg';refine g8 hg' λ_ s8 ⟨σ8,H8,I8,q8⟩=>?_;have afq:=hif _ s8 σ8 H8 _ I8 q8;rw[eP,eW,eA,eX] at afq;refine g8 afq λb s9 ⟨H9,I9,q9⟩=>?_;have again:∀{σz} {Hz} {sz},Inv X' ([]++zJ fp s7.heap) σz Hz sz->N σz Hz->∃m,m<n/\∃i σ' H',Inv X' [] σ' H' sz/\tn i sz.heap/\(∀b∈fp,H' b=none)/\W i m σ' H':=λ{σz Hz sz} Iz nz=>by
    obtain⟨m',hm,wz⟩:=hN σz Hz nz;refine⟨m',hm,i+1,σz,Hz,Iz.uP,T.keep _ _ _ st7 λb hb o e=>(Iz.pin (b,o)<|Qxq _<|Qxq _<|qi hb e).1,λb hb=>?_,wz⟩;obtain⟨o,e,d⟩:=T.obj _ _ st7 b hb;exact(Iz.pin (b,o)<|Qxq _<|Qxq _<|qi hb e).2.1
   cases b with
   | false=>
    rw[if_neg Qw3] at q9 ⊢;exact again I9 q9
   | true=>
    rw[if_pos rfl] at q9 ⊢;have he':=he _ s9 σ8 H9 _ I9 q9;rw[eP,eW,eA,eX] at he';refine g8 he' λy sa ⟨yv,Ha,Ia,ra,ys,hys,hlen,qa⟩=>?_;have ap:=Dc _ sa σ8 Ha (.ref s2.heap.objs.size) [yv] (.ref s2.heap.objs.size) [y] (λv H'=>v = .non/\N σ8 H') Ia rfl (.cons ra .nil) ⟨_,ys,yv,rfl,rfl,hys,hlen,rfl,qa⟩;rw[eP,eW,eA,eX] at ap;refine g8 ap λ_ sb ⟨vb,Hb,Ib,rb,_,nb⟩=>?_;exact again Ib nb
 show codeAny _ _ (.compStart _ 0 (.ref it) (.ref s2.heap.objs.size)<|compEnvC scope (cellsFrom (s3.heap.objs.size+1) scope.names<|nW X.env scope.names []) s3.heap.objs.size X.env) (compPost (model X.prog X.w) X.A X.xe use QQ (.ref s2.heap.objs.size) s3.heap.objs.size) _;rw[ahq];exact codeAny_compStart_list (loop _ rfl)<|T.self X.A 0 _ _ _ st3<|loop _ rfl
def aeJ
  (ok:nU X scope N') (hc:X.calm=true) (hi:PI X tg iter wi)
  (bg:∀X',km X scope N' X'->PG X' tg g) (bc:∀X',km X scope N' X'->PIf X' ifs tc) (be:∀X',km X scope N' X'->PE X' elt te)
  (hs:∀x,foldedSetIterable iter X.env x=pure x:=by intro _;rfl) :
  PE X (.ListComp elt [⟨tg,iter,ifs,0⟩] scope pos) (tLC N'.length wi g tc te):=by
 intro pins s σ H Q I h;rw[eval_ListComp];have hfree:∀n,(n,NameKind.free)∈scope.names->∃c,X.env.cells.lookup n=some c:=λn hm=>I.ok.has n<|ok.free _ hm rfl;refine wpAny_comprehension_free rfl hs (Ao hfree) ok.kind (λx hx hl=>jm _ _ _ ok.nd (by rw[<-hl];exact hx)) ?_;refine g8 (hi pins s σ H _ I h) λv s1 h1=>g8 h1 λitv s2 h2=>?_;obtain⟨it,fp,tn,J,H2,e,I2,T,st2,f2,q⟩:=h2;subst e;refine Dp ok hc bg bc be I2 T st2 f2 q λd C m s' H' I' hq hn hC hL h0 hcell hpin=>?_;refine⟨m,hn,λh' hs'=>?_⟩;have I'':Inv X pins σ H' { s' with heap:=h',toks:=s'.toks }:=I'.turned (λb o hb e=>(hs'.2 b hb).trans e) hC hL (.inr h0) hcell hpin;exact⟨.ref d,H',I'',rfl,hq⟩
def Tj{pos spos py:Pos}
  (ok:nU X scope N') (hc:X.calm=true) (hi:PI X tg iter wi)
  (bg:∀X',km X scope N' X'->PG X' tg g) (bc:∀X',km X scope N' X'->PIf X' ifs tc) (be:∀X',km X scope N' X'->PE X' elt te)
  (hN:X.N.Nodup) (hy:X.N[i]? = some y) (hx:Loc X.env.scope y)
  (hsw:swapsWith (.ListComp elt [⟨tg,iter,ifs,0⟩] scope pos) (some (.Name y py)) spos.line X.env=pure true)
  (hf:X.fn y=true\/X.env.scope.names.lookup y=some .local:=by first|exact .inl rfl|exact .inr rfl|assumption)
  (hs:∀x,foldedSetIterable iter X.env x=pure x:=by intro _;rfl) :
  PS X (.Assign [.Name y py] (.ListComp elt [⟨tg,iter,ifs,0⟩] scope pos) spos) (Wr (tLC N'.length wi g tc te) (Ja i)):=by
 intro pins s σ H D I h;rw[exec_Assign_Name_used _ _ _ _ hsw];refine Qqq<|wpAny_standAt<|Qqq ?_;have hfree:∀n,(n,NameKind.free)∈scope.names->∃c,X.env.cells.lookup n=some c:=λn hm=>I.ok.has n<|ok.free _ hm rfl;show wpAny _ X.A (do let _ <-comprehension (.ListComp elt [⟨tg,iter,ifs,0⟩] scope pos) scope X.env _ (newList []) false (eval iter X.env) (some<|assign (.Name y py) X.env)) _ _ s;refine Qqq<|Qxk (wpAny_comprehension_free rfl hs (Ao hfree) ok.kind (λx hx hl=>jm _ _ _ ok.nd (by rw[<-hl];exact hx)) ?_) (λ_ s' hq=>Qqv<|Qqv hq) λ_ _ e=>e;refine g8 (hi pins s σ H _ I h) λv s1 h1=>g8 h1 λitv s2 h2=>?_;obtain⟨it,fp,tn,J,H2,e,I2,T,st2,f2,q⟩:=h2;subst e;refine Dp (Q:=λx H1=>Ja i x σ H1 D.nx) ok hc bg bc be I2 T st2 f2 q λd C m s' H' I' hq hn hC hL h0 hcell hpin=>?_;refine wpAny_assign_Name<|CG (v:=.ref d) I' hN hy hx rfl (λs'' I'' sb=>?_) hf;obtain⟨a,hsb,ha⟩:=sb;have haC:C≠a:=by
  rcases ha with z|z
  ·rw[z];exact hL
  ·exact(hcell y a z).symm
 refine⟨m,hn.sameBut hsb haC,λh' hs'=>?_⟩;have I3:Inv X pins (σ.set i<|some<|.ref d) H' { s'' with heap:=h',toks:=s''.toks }:=I''.turned (λb o hb e=>(hs'.2 b hb).trans e) hC hL (.inr h0) hcell hpin;exact⟨_,H',I3,hq⟩
end L2
namespace Ev
open PySem PySem.Spec PyProof.Rows L2
inductive D where
 | non
 | bl (b:Bool)
 | int (i:Int)
 | str (x:List Nat)
 | tup (xs:List D)
 | lst (xs:List D)
 | arr (xs:List D)
 | dct (kvs:List (D×D))
 | mZ (kvs:List (D×D))
 | clo (st:Stmt) (ds:List D)
 deriving Inhabited
abbrev Fg:=PySem.W.Frag
def strOf(x:List Nat):Str:=⟨x.toArray⟩
def yD:D->Option Key
 | .int i=>some (.inl i)
 | .str x=>some (.inr (strOf x))
 | _=>none
mutual
def nkD:D->Option NK
 | .int i=>some (.num i)
 | .bl b=>some (.num (if b then 1 else 0))
 | .str x=>some (.txt (strOf x))
 | .tup xs=>(ae3 xs).map .tup
 | _=>none
def ae3:List D->Option (List NK)
 | []=>some []
 | d::ds=>match nkD d,ae3 ds with
  | some k,some ks=>some (k::ks)
  | _,_=>none
end
def defName(s:Stmt):Str:=match s with
 | .FunctionDef n _ _ _ _ _ _ _ _ _=>n
 | _=>""
def freeOf(s:Stmt):List Str:=(((aG s).names.filter (·.2 == .free)).map (·.1)).reverse
def adG(F:Hp)(c:Addr)(v:V):Prop:=∃(o:Obj) (u:HO) (w:Value),F c=some (.tu o u)/\o.data = .cell (some w)/\RelV v w
def yQ(F:Hp):List (Str×Addr)->List V->Prop
 | [],vs=>vs=[]
 | (_,c)::r,vs=>∃v vs',vs=v::vs'/\adG F c v/\yQ F r vs'
def adF(F:Hp)(c:Addr)(q:Str):Prop:=∃(o:Obj) (u:HO) (vs:Array Value) (t:Tok),F c=some (.tu o u)/\o.data = .fields vs/\vs[1]? = some (.str q t)
def ahC(F:Hp)(st:Stmt)(a:Addr)(vs:List V):Prop:=∃(u:HO) (q:Str) (cl:List (Str×Addr)) (doc pm ctv:Value) (c:Addr),
 F a=some (.tu (PySem.W.fnMade (defName st) q (gm st) (cH st) (aG st) cl doc pm c ctv) u)/\adF F c q/\cl.map (·.1)=freeOf st/\(cl.map (·.2)).Nodup/\yQ F cl vs
theorem aQ.cells(e:aQ F F'):∀{cl} {vs},yQ F cl vs->yQ F' cl vs
 | [],_,h=>h
 | (_,c)::r,_,⟨v,vs',h0,⟨o,u,w,h1,h2⟩,h3⟩=>⟨v,vs',h0,⟨o,u,w,e _ _ h1,h2⟩,aQ.cells e h3⟩
def Mark(K:Fg)(st:Stmt)(a:Addr):Prop:=∃(n:Str) (p:Pos) (oc:Value) (od:Option Addr) (fd:FuncData) (sl:Array (Option Value)),st = .Global [n] p/\PySem.W.nsIn K mainGlobals n=some (some (.ref a))/\K.lookup a=some ⟨oc,od,.func fd,sl⟩
def ExcAt(K:Fg)(F:Hp)(st:Stmt)(a:Addr)(vs:List V):Prop:=∃(n:Str) (r:List Str) (p:Pos) (o:Obj) (u:HO) (c:Addr) (fs:Array Value),st = .Nonlocal (n::r) p/\PySem.W.nsIn K mainGlobals n=some (some (.ref c))/\F a=some (.tu o u)/\o.cls = .ref c/\o.data = .fields fs/\
 (r=[]/\vs=[]\/∃(x:Str) (v:V) (w:Value) (dx:Addr) (od:Obj) (ud:HO) (m:Str->Option Value),r=[x]/\vs=[v]/\RelV v w/\o.dict=some dx/\F dx=some (.tu od ud)/\(∀h:Heap,h.get? dx=some od->h.Ns dx m)/\m x=some w)
def aQ.excAt{K:Fg}{st:Stmt}(e:aQ F F')(h:ExcAt K F st a vs):ExcAt K F' st a vs:=by
 obtain⟨n,r,p,o,u,c,fs,h1,h2,h3,h4,h5,h6⟩:=h;refine⟨n,r,p,o,u,c,fs,h1,h2,e _ _ h3,h4,h5,?_⟩;rcases h6 with h6|⟨x,v,w,dx,od,ud,m,q1,q2,q3,q4,q5,q6⟩
 ·exact .inl h6
 ·exact .inr ⟨x,v,w,dx,od,ud,m,q1,q2,q3,q4,e _ _ q5,q6⟩
def ag4(st:Stmt):Bool:=match st with
 | .Global _ _=>true
 | .Nonlocal _ _=>true
 | _=>false
def Clo(K:Fg)(F:Hp)(st:Stmt)(a:Addr)(vs:List V):Prop:=ahC F st a vs/\ag4 st=false\/Mark K st a\/ExcAt K F st a vs
def aQ.clo{K:Fg}{st:Stmt}(e:aQ F F')(h:Clo K F st a vs):Clo K F' st a vs:=by
 rcases h with ⟨h,hg⟩|h|h
 rotate_left
 ·exact .inr<|.inl h
 ·exact .inr<|.inr<|aQ.excAt e h
 refine .inl ⟨?_,hg⟩;obtain⟨u,q,cl,doc,pm,ctv,c,h1,⟨o,u2,ws,t,h2,h3⟩,h4,h5,h6⟩:=h;exact⟨u,q,cl,doc,pm,ctv,c,e _ _ h1,⟨o,u2,ws,t,e _ _ h2,h3⟩,h4,h5,aQ.cells e h6⟩
mutual
def Rep(K:Fg)(F:Hp):D->V->Prop
 | .non,v=>v = .non
 | .bl b,v=>v = .bl b
 | .int i,v=>v = .int i
 | .str x,v=>v = .str (strOf x)/\x.length<=sizeLine
 | .tup xs,v=>xs.length<=sizeLine/\∃a vs,v = .ref a/\qM K F a vs/\bL K F xs vs
 | .lst xs,v=>xs.length<=sizeLine/\∃a vs,v = .ref a/\F a=some (.lst vs)/\bL K F xs vs
 | .arr xs,v=>xs.length<=sizeLine/\∃a vs,v = .ref a/\mR K F a vs/\bL K F xs vs
 | .dct kvs,v=>kvs.length<=sizeLine/\∃a ks,v = .ref a/\Rd F a (.dK ks)/\dM K F kvs ks
 | .mZ kvs,v=>kvs.length<=sizeLine/\∃a ks,v = .ref a/\Rd F a (.dN ks)/\qN K F kvs ks
 | .clo st ds,v=>∃a vs,v = .ref a/\Clo K F st a vs/\bL K F ds vs
def bL(K:Fg)(F:Hp):List D->List V->Prop
 | [],vs=>vs=[]
 | d::ds,vs=>∃v r,vs=v::r/\Rep K F d v/\bL K F ds r
def dM(K:Fg)(F:Hp):List (D×D)->List (Key×V)->Prop
 | [],vs=>vs=[]
 | (k,d)::ds,vs=>∃q v r,vs=(q,v)::r/\yD k=some q/\Rep K F d v/\dM K F ds r
def qN(K:Fg)(F:Hp):List (D×D)->List (NK×V×V)->Prop
 | [],vs=>vs=[]
 | (k,d)::ds,vs=>∃q u v r,vs=(q,u,v)::r/\nkD k=some q/\q.dep<=8/\Rep K F k u/\Rep K F d v/\qN K F ds r
end
def aQ.rd(e:aQ F F')(h:Rd F a u):Rd F' a u:=by
 rcases h with h|⟨o,h⟩
 ·exact .inl<|e _ _ h
 ·exact .inr ⟨o,e _ _ h⟩
def aQ.tupK{K:Fg}(e:aQ F F')(h:qM K F a xs):qM K F' a xs:=by
 rcases h with h|h
 ·exact .inl<|aQ.rd e h
 ·exact .inr h
mutual
theorem Rep.mono{K:Fg}{F F':Hp}(e:aQ F F'):∀(d:D) (v:V),Rep K F d v->Rep K F' d v
 | .non,_,h=>h
 | .bl _,_,h=>h
 | .int _,_,h=>h
 | .str _,_,h=>h
 | .tup xs,v,h=>by
  obtain⟨z,a,vs,rfl,h1,h2⟩:=h;exact⟨z,a,vs,rfl,aQ.tupK e h1,bL.mono e xs vs h2⟩
 | .lst xs,v,h=>by
  obtain⟨z,a,vs,rfl,h1,h2⟩:=h;exact⟨z,a,vs,rfl,e _ _ h1,bL.mono e xs vs h2⟩
 | .arr xs,v,h=>by
  obtain⟨z,a,vs,rfl,h1,h2⟩:=h;exact⟨z,a,vs,rfl,e.seq h1,bL.mono e xs vs h2⟩
 | .dct kvs,v,h=>by
  obtain⟨z,a,ks,rfl,h1,h2⟩:=h;exact⟨z,a,ks,rfl,aQ.rd e h1,dM.mono e kvs ks h2⟩
 | .mZ kvs,v,h=>by
  obtain⟨z,a,ks,rfl,h1,h2⟩:=h;exact⟨z,a,ks,rfl,aQ.rd e h1,qN.mono e kvs ks h2⟩
 | .clo st ds,v,h=>by
  obtain⟨a,vs,rfl,h1,h2⟩:=h;exact⟨a,vs,rfl,aQ.clo e h1,bL.mono e ds vs h2⟩
theorem bL.mono{K:Fg}{F F':Hp}(e:aQ F F'):∀(ds:List D) (vs:List V),bL K F ds vs->bL K F' ds vs
 | [],_,h=>h
 | d::ds,vs,h=>by
  obtain⟨v,r,rfl,h1,h2⟩:=h;exact⟨v,r,rfl,Rep.mono e d v h1,bL.mono e ds r h2⟩
theorem dM.mono{K:Fg}{F F':Hp}(e:aQ F F'):∀(ds:List (D×D)) (vs:List (Key×V)),dM K F ds vs->dM K F' ds vs
 | [],_,h=>h
 | (k,d)::ds,vs,h=>by
  obtain⟨q,v,r,rfl,h0,h1,h2⟩:=h;exact⟨q,v,r,rfl,h0,Rep.mono e d v h1,dM.mono e ds r h2⟩
theorem qN.mono{K:Fg}{F F':Hp}(e:aQ F F'):∀(ds:List (D×D)) (vs:List (NK×V×V)),qN K F ds vs->qN K F' ds vs
 | [],_,h=>h
 | (k,d)::ds,vs,h=>by
  obtain⟨q,u,v,r,rfl,h0,h3,h4,h1,h2⟩:=h;exact⟨q,u,v,r,rfl,h0,h3,Rep.mono e k u h4,Rep.mono e d v h1,qN.mono e ds r h2⟩
end
theorem bL.length{K:Fg}:∀{ds} {vs},bL K F ds vs->vs.length=ds.length
 | [],_,h=>by cases h;rfl
 | d::ds,vs,h=>by
  obtain⟨v,r,rfl,_,h2⟩:=h;rw[Qq1,Qq1,h2.length]
theorem bL.get{K:Fg}:∀{ds} {vs} {i:Nat} {d},bL K F ds vs->ds[i]? = some d->∃v,vs[i]? = some v/\Rep K F d v
 | [],_,_,_,_,e=>by simp at e
 | c::ds,vs,i,d,h,e=>by
  obtain⟨v,r,rfl,h1,h2⟩:=h;cases i with
  | zero=>simp at e;subst e;exact⟨v,rfl,h1⟩
  | succ i=>obtain⟨u,e1,e2⟩:=bL.get h2 (by simpa using e);exact⟨u,by simpa using e1,e2⟩
theorem bL.append{K:Fg}:∀{ds es} {vs ws},bL K F ds vs->bL K F es ws->bL K F (ds++es) (vs++ws)
 | [],es,vs,ws,h,g=>by cases h;exact g
 | d::ds,es,vs,ws,h,g=>by
  obtain⟨v,r,rfl,h1,h2⟩:=h;exact⟨v,r++ws,rfl,h1,bL.append h2 g⟩
theorem bL.drop{K:Fg}:∀n {ds} {vs},bL K F ds vs->bL K F (ds.drop n) (vs.drop n)
 | 0,_,_,h=>h
 | _+1,[],_,h=>by cases h;exact rfl
 | n+1,d::ds,vs,h=>by
  obtain⟨v,r,rfl,_,h2⟩:=h;exact bL.drop n h2
theorem bL.take{K:Fg}:∀n {ds} {vs},bL K F ds vs->bL K F (ds.take n) (vs.take n)
 | 0,_,_,_=>rfl
 | _+1,[],_,h=>by cases h;exact rfl
 | n+1,d::ds,vs,h=>by
  obtain⟨v,r,rfl,h1,h2⟩:=h;exact⟨v,r.take n,rfl,h1,bL.take n h2⟩
theorem bL.set{K:Fg}(hd:Rep K F d v):∀i {ds} {vs},bL K F ds vs->bL K F (ds.set i d) (vs.set i v)
 | _,[],_,h=>by cases h;exact rfl
 | 0,c::ds,vs,h=>by
  obtain⟨u,r,rfl,_,h2⟩:=h;exact⟨v,r,rfl,hd,h2⟩
 | i+1,c::ds,vs,h=>by
  obtain⟨u,r,rfl,h1,h2⟩:=h;exact⟨u,r.set i v,rfl,h1,bL.set hd i h2⟩
def bL.one{K:Fg}(h:Rep K F d v):bL K F [d] [v]:=⟨v,[],rfl,h,rfl⟩
abbrev Env:=List (Option (Bool×D))
inductive R (α:Type) where
 | ok (a:α) (env:Env)
 | stuck
abbrev Ev:=Env->R D
abbrev gh:=Env->R Bool
abbrev dG:=Env->R (List D)
structure Cfg where
 K:Fg
 fx:Nat->Option Addr
def kj(K:Fg)(F H:Hp):D->Addr->Prop
 | .lst xs,a=>xs.length<=sizeLine/\∃vs,H a=some (.lst vs)/\bL K F xs vs
 | .dct kvs,a=>kvs.length<=sizeLine/\∃ks,H a=some (.dK ks)/\dM K F kvs ks
 | .mZ kvs,a=>kvs.length<=sizeLine/\∃ks,H a=some (.dN ks)/\qN K F kvs ks
 | _,_=>False
def kj.mono{K:Fg}(e:aQ F F')(k:H' a=H a)(h:kj K F H d a):kj K F' H' d a:=by
 cases d with
 | lst xs=>obtain⟨z,vs,h1,h2⟩:=h;exact⟨z,vs,k.trans h1,bL.mono e _ _ h2⟩
 | dct kvs=>obtain⟨z,ks,h1,h2⟩:=h;exact⟨z,ks,k.trans h1,dM.mono e _ _ h2⟩
 | mZ kvs=>obtain⟨z,ks,h1,h2⟩:=h;exact⟨z,ks,k.trans h1,qN.mono e _ _ h2⟩
 | _=>exact h
theorem kj.some{K:Fg}(h:kj K F H d a):∃o,H a=some o:=by
 cases d with
 | lst xs=>obtain⟨z,vs,h1,h2⟩:=h;exact⟨_,h1⟩
 | dct kvs=>obtain⟨z,ks,h1,h2⟩:=h;exact⟨_,h1⟩
 | mZ kvs=>obtain⟨z,ks,h1,h2⟩:=h;exact⟨_,h1⟩
 | _=>exact h.elim
def jg(K:Fg)(F H:Hp)(d:D)(v:V):Prop:=Rep K F d v\/∃a,v = .ref a/\kj K F H d a
def jg.rep{K:Fg}(s:aQ F H)(h:jg K F H d v):Rep K H d v:=by
 rcases h with h|⟨a,rfl,h⟩
 ·exact Rep.mono s d v h
 ·cases d with
  | lst xs=>obtain⟨z,vs,h1,h2⟩:=h;exact⟨z,a,vs,rfl,h1,bL.mono s _ _ h2⟩
  | dct kvs=>obtain⟨z,ks,h1,h2⟩:=h;exact⟨z,a,ks,rfl,.inl h1,dM.mono s _ _ h2⟩
  | mZ kvs=>obtain⟨z,ks,h1,h2⟩:=h;exact⟨z,a,ks,rfl,.inl h1,qN.mono s _ _ h2⟩
  | _=>exact h.elim
def jg.lst{K:Fg}(s:aQ F H)(h:jg K F H (.lst xs) v):xs.length<=sizeLine/\∃a vs,v = .ref a/\H a=some (.lst vs)/\bL K F xs vs:=by
 rcases h with ⟨z,a,vs,rfl,h1,h2⟩|⟨a,rfl,z,vs,h1,h2⟩
 ·exact⟨z,a,vs,rfl,s _ _ h1,h2⟩
 ·exact⟨z,a,vs,rfl,h1,h2⟩
def jg.arr{K:Fg}(s:aQ F H)(h:jg K F H (.arr xs) v):xs.length<=sizeLine/\∃a vs,v = .ref a/\mR K H a vs/\bL K F xs vs:=by
 rcases h with ⟨z,a,vs,rfl,h1,h2⟩|⟨a,rfl,h⟩
 ·exact⟨z,a,vs,rfl,s.seq h1,h2⟩
 ·exact h.elim
def jg.tup{K:Fg}(s:aQ F H)(h:jg K F H (.tup xs) v):xs.length<=sizeLine/\∃a vs,v = .ref a/\qM K H a vs/\qM K F a vs/\bL K F xs vs:=by
 rcases h with ⟨z,a,vs,rfl,h1,h2⟩|⟨a,rfl,h⟩
 ·exact⟨z,a,vs,rfl,aQ.tupK s h1,h1,h2⟩
 ·exact h.elim
def jg.int{K:Fg}(h:jg K F H (.int i) v):v = .int i:=by
 rcases h with h|⟨a,rfl,h⟩
 ·exact h
 ·exact h.elim
def jg.bl{K:Fg}(h:jg K F H (.bl i) v):v = .bl i:=by
 rcases h with h|⟨a,rfl,h⟩
 ·exact h
 ·exact h.elim
def jg.non{K:Fg}(h:jg K F H .non v):v = .non:=by
 rcases h with h|⟨a,rfl,h⟩
 ·exact h
 ·exact h.elim
def jg.str{K:Fg}(h:jg K F H (.str x) v):v = .str (strOf x)/\x.length<=sizeLine:=by
 rcases h with h|⟨a,rfl,h⟩
 ·exact h
 ·exact h.elim
structure Rel(C:Cfg)(Pr F:Hp)(env:Env)(σ:L2.St)(H:Hp):Prop where
 pr:aQ Pr H
 fr:aQ F H
 len:env.length=σ.length
 val:∀(i:Nat) (d:D),env[i]? = some (some (false,d))->∃v,σ[i]? = some (some v)/\Rep C.K F d v
 own:∀(i:Nat) (d:D),env[i]? = some (some (true,d))->∃a,σ[i]? = some (some (V.ref a))/\kj C.K F H d a/\F a=none/\Pr a=none
 apart:∀(i j:Nat) (d e:D) (a:Addr),env[i]? = some (some (true,d))->env[j]? = some (some (true,e))->σ[i]? = some (some (V.ref a))->σ[j]? = some (some (V.ref a))->i=j
 dj:∀b o,F b=some o->Pr b=none
 fix:∀i a,C.fx i=some a->σ[i]? = some (some (V.ref a))
def m6(h:H a=none):aQ H (upd H a o):=λb u e=>by
 rw[bC (cV e h)];exact e
def Rel.new(r:Rel C Pr F env σ H)(h:H a=none):Rel C Pr (upd F a o) env σ (upd H a o)/\aQ F (upd F a o):=by
 have hF:=r.fr.free h;have s1:aQ F (upd F a o):=m6 hF;refine⟨⟨r.pr.trans<|m6 h,λb u e=>?_,r.len,λi d e1=>?_,λi d e1=>?_,r.apart,λb u e=>?_,r.fix⟩,s1⟩
 ·by_cases hb:b=a
  ·subst hb;rw[aY] at e ⊢;exact e
  ·rw[bC hb] at e ⊢;exact r.fr b u e
 ·obtain⟨v,h1,h2⟩:=r.val i d e1;exact⟨v,h1,Rep.mono s1 d v h2⟩
 ·obtain⟨b,h1,h2,h3,h4⟩:=r.own i d e1;obtain⟨u,hu⟩:=h2.some;have hb:=cV hu h;exact⟨b,h1,h2.mono s1<|bC hb,by rw[bC hb];exact h3,h4⟩
 ·by_cases hb:b=a
  ·subst hb;exact r.pr.free h
  ·rw[bC hb] at e;exact r.dj b u e
def Rel.fresh(r:Rel C Pr F env σ H)(h:H a=none):Rel C Pr F env σ (upd H a o):=by refine⟨r.pr.trans<|m6 h,r.fr.trans<|m6 h,r.len,r.val,λi d e1=>?_,r.apart,r.dj,r.fix⟩;obtain⟨b,h1,h2,h3,h4⟩:=r.own i d e1;obtain⟨u,hu⟩:=h2.some;have hb:=cV hu h;exact⟨b,h1,h2.mono (aQ.refl F)<|bC hb,h3,h4⟩
def Rel.aside(r:Rel C Pr F env σ H)(h:H a=none):Rel C (upd Pr a o) F env σ (upd H a o):=by
 have r':=r.fresh (o:=o) h;have hF:=r.fr.free h;refine⟨λb u e=>?_,r'.fr,r.len,r.val,λi d e1=>?_,r.apart,λb u e=>?_,r.fix⟩
 ·by_cases hb:b=a
  ·subst hb;rw[aY] at e ⊢;exact e
  ·rw[bC hb] at e ⊢;exact r.pr b u e
 ·obtain⟨b,h1,h2,h3,h4⟩:=r'.own i d e1;obtain⟨b',h1',h2',_⟩:=r.own i d e1;rw[h1] at h1';cases h1';obtain⟨u,hu⟩:=h2'.some;have hb:=cV hu h;exact⟨b,h1,h2,h3,by rw[bC hb];exact h4⟩
 ·have hb:b≠a:=λz=>by rw[z,hF] at e;cases e
  rw[bC hb];exact r.dj b u e
def Rel.turn(r:Rel C Pr F env σ H)(h:Pr a=some o):Rel C (upd Pr a u) F env σ (upd H a u):=by
 have hF:F a=none:=by
  cases e:F a with
  | none=>rfl
  | some w=>have:=r.dj a w e;rw[h] at this;cases this
 refine⟨λb w e=>?_,λb w e=>?_,r.len,r.val,λi d e1=>?_,r.apart,λb w e=>?_,r.fix⟩
 ·by_cases hb:b=a
  ·subst hb;rw[aY] at e ⊢;exact e
  ·rw[bC hb] at e ⊢;exact r.pr b w e
 ·have hb:b≠a:=λz=>by rw[z,hF] at e;cases e
  rw[bC hb];exact r.fr b w e
 ·obtain⟨b,h1,h2,h3,h4⟩:=r.own i d e1;have hb:b≠a:=λz=>by rw[z,h] at h4;cases h4
  exact⟨b,h1,h2.mono (aQ.refl F)<|bC hb,h3,by rw[bC hb];exact h4⟩
 ·have hb:b≠a:=λz=>by rw[z,hF] at e;cases e
  rw[bC hb];exact r.dj b w e
def Rel.less(r:Rel C Pr F env σ H)(s:aQ Pr' Pr):Rel C Pr' F env σ H:=
 ⟨s.trans r.pr,r.fr,r.len,r.val,λi d e=>let ⟨b,h1,h2,h3,h4⟩:=r.own i d e;⟨b,h1,h2,h3,s.free h4⟩,r.apart,λb o e=>s.free<|r.dj b o e,r.fix⟩
def Rel.freeze(r:Rel C Pr F env σ H)(h:env[i]? = some (some (true,d))) :
  ∃F' v,Rel C Pr F' (env.set i (some (false,d))) σ H/\aQ F F'/\σ[i]? = some (some v)/\Rep C.K F' d v:=by
 obtain⟨a,h1,h2,h3,h4⟩:=r.own i d h;obtain⟨o,ho⟩:=h2.some;have s1:aQ F (upd F a o):=m6 h3;have hi:=(Qwq.mp h).1;have rep:Rep C.K (upd F a o) d (.ref a):=by
  cases d with
  | lst xs=>obtain⟨z,vs,g1,g2⟩:=h2;rw[ho] at g1;cases g1;exact⟨z,a,vs,rfl,aY,bL.mono s1 _ _ g2⟩
  | dct kvs=>obtain⟨z,ks,g1,g2⟩:=h2;rw[ho] at g1;cases g1;exact⟨z,a,ks,rfl,.inl aY,dM.mono s1 _ _ g2⟩
  | mZ kvs=>obtain⟨z,ks,g1,g2⟩:=h2;rw[ho] at g1;cases g1;exact⟨z,a,ks,rfl,.inl aY,qN.mono s1 _ _ g2⟩
  | _=>exact h2.elim
 refine⟨upd F a o,.ref a,⟨r.pr,λb u e=>?_,by rw[Qxw];exact r.len,λj e he=>?_,λj e he=>?_,λj k e f b hj hk g1 g2=>?_,λb u e=>?_,r.fix⟩,s1,h1,rep⟩
 ·by_cases hb:b=a
  ·subst hb;rw[aY] at e;cases e;exact ho
  ·rw[bC hb] at e;exact r.fr b u e
 ·by_cases hj:j=i
  ·subst hj;rw[Qwz hi] at he;cases he;exact⟨_,h1,rep⟩
  ·rw[Qq6 (Ne.symm hj)] at he;obtain⟨v,g1,g2⟩:=r.val j e he;exact⟨v,g1,Rep.mono s1 e v g2⟩
 ·by_cases hj:j=i
  ·subst hj;rw[Qwz hi] at he;cases he
  ·rw[Qq6 (Ne.symm hj)] at he;obtain⟨b,g1,g2,g3,g4⟩:=r.own j e he;have hb:b≠a:=λz=>hj<|r.apart j i e d a he h (by rw[<-z];exact g1) h1;exact⟨b,g1,g2.mono s1 rfl,by rw[bC hb];exact g3,g4⟩
 ·have nj:j≠i:=λz=>by subst z;rw[Qwz hi] at hj;cases hj
  have nk:k≠i:=λz=>by subst z;rw[Qwz hi] at hk;cases hk
  rw[Qq6 (Ne.symm nj)] at hj;rw[Qq6 (Ne.symm nk)] at hk;exact r.apart j k e f b hj hk g1 g2
 ·by_cases hb:b=a
  ·subst hb;exact h4
  ·rw[bC hb] at e;exact r.dj b u e
def tE(C:Cfg)(ev:Ev):TE:=λσ H Q=>∃(Pr F:Hp) (env env':Env) (d:D),Rel C Pr F env σ H/\ev env = .ok d env'/\
 ∀v H' F',Rel C Pr F' env' σ H'->aQ F F'->Rep C.K F' d v->Q v H'
def tRd(C:Cfg)(ev:Ev):TE:=λσ H Q=>∃(Pr F:Hp) (env env':Env) (d:D),Rel C Pr F env σ H/\ev env = .ok d env'/\
 ∀v H' F',Rel C Pr F' env' σ H'->aQ F F'->jg C.K F' H' d v->Q v H'
def tT(C:Cfg)(ev:gh):TT:=λσ H Q=>∃(Pr F:Hp) (env env':Env) (b:Bool),Rel C Pr F env σ H/\ev env = .ok b env'/\
 ∀H' F',Rel C Pr F' env' σ H'->aQ F F'->Q b H'
def tA(C:Cfg)(ev:dG):TA:=λσ H Q=>∃(Pr F:Hp) (env env':Env) (ds:List D),Rel C Pr F env σ H/\ev env = .ok ds env'/\
 ∀vs H' F',Rel C Pr F' env' σ H'->aQ F F'->bL C.K F' ds vs->Q vs H'
def PX(X:Cx)(C:Cfg)(e:Expr)(ev:Ev):Prop:=PE X e (tE C ev)
def Q4(X:Cx)(C:Cfg)(e:Expr)(ev:Ev):Prop:=PE X e (tRd C ev)
def PXT(X:Cx)(C:Cfg)(e:Expr)(ev:gh):Prop:=PT X e (tT C ev)
def Om(X:Cx)(C:Cfg)(es:List Expr)(ev:dG):Prop:=PA X es (tA C ev)
def _root_.L2.PE.imp{X:Cx}{e:Expr}{t t':TE}(h:PE X e t)(i:∀σ H Q,t' σ H Q->t σ H Q):PE X e t':=λpins s σ H Q I q=>h pins s σ H Q I<|i σ H Q q
def _root_.L2.PT.imp{X:Cx}{e:Expr}{t t':TT}(h:PT X e t)(i:∀σ H Q,t' σ H Q->t σ H Q):PT X e t':=λpins s σ H Q I q=>h pins s σ H Q I<|i σ H Q q
def _root_.L2.PW.imp{X:Cx}{e:Expr}{t t':TT}(h:PW X e t)(i:∀σ H Q,t' σ H Q->t σ H Q):PW X e t':=λwhole pins s σ H Q I q=>h whole pins s σ H Q I<|i σ H Q q
def _root_.L2.PA.imp{X:Cx}{e:List Expr}{t t':TA}(h:PA X e t)(i:∀σ H Q,t' σ H Q->t σ H Q):PA X e t':=λpos pins s σ H Q I q=>h pos pins s σ H Q I<|i σ H Q q
def _root_.L2.PS.imp{X:Cx}{e:Stmt}{t t':TS}(h:PS X e t)(i:∀D σ H,t' D σ H->t D σ H):PS X e t':=λpins s σ H D I q=>h pins s σ H D I<|i D σ H q
def _root_.L2.Gm.imp{X:Cx}{e:List Stmt}{t t':TS}(h:Gm X e t)(i:∀D σ H,t' D σ H->t D σ H):Gm X e t':=λpins s σ H D I q=>h pins s σ H D I<|i D σ H q
def bindR{α β:Type}(x:R α)(f:α->Env->R β):R β:=match x with
 | .ok a env=>f a env
 | .stuck=>.stuck
def gB{α:Type}(o:Option α)(env:Env):R α:=match o with
 | some a=>.ok a env
 | none=>.stuck
def aR{α β:Type}{x:R α}{f:α->Env->R β}{b:β}(h:bindR x f = .ok b env'):∃a aD,x = .ok a aD/\f a aD = .ok b env':=by
 cases x with
 | ok a aD=>exact⟨a,aD,rfl,h⟩
 | stuck=>cases h
def cF{α:Type}{o:Option α}{a:α}(h:gB o env = .ok a env'):o=some a/\env'=env:=by
 cases o with
 | some b=>cases h;exact⟨rfl,rfl⟩
 | none=>cases h
section
variable{X:Cx}{C:Cfg}{pos:Pos}
def aP(i:Nat):Ev:=λenv=>match env[i]? with
 | some (some (false,d))=>.ok d env
 | some (some (true,d))=>.ok d (env.set i (some (false,d)))
 | _=>.stuck
def abu(i)(hN:X.N[i]? = some x)(hv:wg X.env.scope x)(hd:lr x:=by decide)(hcd:uz x:=by decide):PX X C (.Name x pos) (aP i):=by
 refine(j0 hN hv hd hcd).imp λσ H Q h=>?_;obtain⟨Pr,F,env,env',d,r,e,q⟩:=h;unfold aP at e;split at e
 ·rename_i d' hd';cases e;obtain⟨v,h1,h2⟩:=r.val i d hd';exact⟨v,h1,q v H F r (aQ.refl F) h2⟩
 ·rename_i d' hd';cases e;obtain⟨F',v,r',s',h1,h2⟩:=r.freeze hd';exact⟨v,h1,q v H F' r' s' h2⟩
 ·cases e
def PX.b(h:PX X C e ev):Q4 X C e ev:=PE.imp h λσ H Q hq=>by
 obtain⟨Pr,F,env,env',d,r,e,q⟩:=hq;exact⟨Pr,F,env,env',d,r,e,λv H' F' r' s' p'=>q v H' F' r' s'<|.inl p'⟩
def bj(i:Nat):Ev:=λenv=>match env[i]? with
 | some (some (_,d))=>.ok d env
 | _=>.stuck
def Rel.rd(r:Rel C Pr F env σ H){i:Nat}(h:env[i]? = some (some (o,d))):∃v,σ[i]? = some (some v)/\jg C.K F H d v:=by
 cases o with
 | true=>obtain⟨a,h1,h2,_⟩:=r.own i d h;exact⟨_,h1,.inr ⟨a,rfl,h2⟩⟩
 | false=>obtain⟨v,h1,h2⟩:=r.val i d h;exact⟨v,h1,.inl h2⟩
def Xa(i)(hN:X.N[i]? = some x)(hv:wg X.env.scope x)(hd:lr x:=by decide)(hcd:uz x:=by decide):Q4 X C (.Name x pos) (bj i):=by
 refine(j0 hN hv hd hcd).imp λσ H Q h=>?_;obtain⟨Pr,F,env,env',d,r,e,q⟩:=h;unfold bj at e;split at e
 ·rename_i o' d' hd';cases e;obtain⟨v,h1,h2⟩:=r.rd hd';exact⟨v,h1,q v H F r (aQ.refl F) h2⟩
 ·cases e
def jr(d:D):Ev:=λenv=>.ok d env
def Td:PX X C (.Constant (.int i) j pos) (jr (.int i)):=abR.imp λσ H Q h=>by
 obtain⟨Pr,F,env,env',d,r,e,q⟩:=h;cases e;exact q _ _ F r (aQ.refl F) rfl
def aeF:PX X C (.Constant (.bool b) j pos) (jr (.bl b)):=aeK.imp λσ H Q h=>by
 obtain⟨Pr,F,env,env',d,r,e,q⟩:=h;cases e;exact q _ _ F r (aQ.refl F) rfl
def Tc:PX X C (.Constant .none j pos) (jr .non):=abP.imp λσ H Q h=>by
 obtain⟨Pr,F,env,env',d,r,e,q⟩:=h;cases e;exact q _ _ F r (aQ.refl F) rfl
def S8(z)(hz:x=strOf z)(hl:z.length<=sizeLine:=by decide):PX X C (.Constant (.str x) j pos) (jr (.str z)):=by subst hz;refine abN.imp λσ H Q h=>?_;obtain⟨Pr,F,env,env',d,r,e,q⟩:=h;cases e;exact q _ _ F r (aQ.refl F) ⟨rfl,hl⟩
def aj:dG:=λenv=>.ok [] env
def aa(a:Ev)(r:dG):dG:=λenv=>bindR (a env) λd aD=>bindR (r aD) λds fH=>.ok (d::ds) fH
def En:Om X C [] aj:=jM.imp λσ H Q h=>by
 obtain⟨Pr,F,env,env',d,r,e,q⟩:=h;cases e;exact q _ _ F r (aQ.refl F) rfl
def zE(ha:PX X C e a)(hr:Om X C es r)(hs:starEach (e::es) X.env=(false,eval e X.env)::starEach es X.env:=by rfl):Om X C (e::es) (aa a r):=
 (fD ha hr hs).imp λσ H Q h=>by
  obtain⟨Pr,F,env,env',ds,rl,e,q⟩:=h;obtain⟨d1,aD,e1,e2⟩:=aR e;obtain⟨ds2,fH,e3,e4⟩:=aR e2;cases e4;refine⟨Pr,F,env,aD,d1,rl,e1,λv H1 F1 r1 s1 p1=>?_⟩;refine⟨Pr,F1,aD,env',ds2,r1,e3,λvs H2 F2 r2 s2 p2=>?_⟩;exact q _ H2 F2 r2 (s1.trans s2) ⟨v,vs,rfl,Rep.mono s2 d1 v p1,p2⟩
def ig(r:dG):Ev:=λenv=>bindR (r env) λds aD=>if ds.length<=sizeLine then .ok (.tup ds) aD else .stuck
def cB(r:dG):Ev:=λenv=>bindR (r env) λds aD=>if ds.length<=sizeLine then .ok (.lst ds) aD else .stuck
def au(g:D->D->Option D)(a b:Ev):Ev:=λenv=>bindR (a env) λx aD=>bindR (b aD) λy fH=>gB (g x y) fH
def gk(g:D->Option D)(a:Ev):Ev:=λenv=>bindR (a env) λx aD=>gB (g x) aD
def qI(C:Cfg)(r:R2)(g:D->D->Option D):Prop:=∀(Pr F:Hp) (env:Env) (σ:L2.St) (H:Hp) (x y d:D) (vx vy:V) (Q:VK),Rel C Pr F env σ H->jg C.K F H x vx->jg C.K F H y vy->g x y=some d->
 (∀v H' F',Rel C Pr F' env σ H'->aQ F F'->Rep C.K F' d v->Q v H')->r vx vy H Q
def UnD(C:Cfg)(r:V->Hp->VK->Prop)(g:D->Option D):Prop:=∀(Pr F:Hp) (env:Env) (σ:L2.St) (H:Hp) (x d:D) (vx:V) (Q:VK),Rel C Pr F env σ H->jg C.K F H x vx->g x=some d->
 (∀v H' F',Rel C Pr F' env σ H'->aQ F F'->Rep C.K F' d v->Q v H')->r vx H Q
def FZ(o:qI C r g)(σ)(H)(Q)(h:tE C (au g a b) σ H Q):ZG r (tE C a) (tRd C b) σ H Q:=by obtain⟨Pr,F,env,env',d,rl,e,q⟩:=h;obtain⟨x,aD,e1,e2⟩:=aR e;obtain⟨y,fH,e3,e4⟩:=aR e2;obtain⟨e5,rfl⟩:=cF e4;refine⟨Pr,F,env,aD,x,rl,e1,λvx H1 F1 r1 s1 p1=>⟨Pr,F1,aD,env',y,r1,e3,λvy H2 F2 r2 s2 p2=>?_⟩⟩;exact o Pr F2 env' σ H2 x y d vx vy Q r2 (.inl<|Rep.mono s2 x vx p1) p2 e5 λv H3 F3 r3 s3 p3=>q v H3 F3 r3 ((s1.trans s2).trans s3) p3
def ak(g:D->D->Option D)(i:Nat)(b:Ev):Ev:=λenv=>match env[i]? with
 | some (some (_,_))=>bindR (b env) λy fH=>(match fH[i]? with
  | some (some (_,x))=>gB (g x y) fH
  | _=>.stuck)
 | _=>.stuck
def tD(o:qI C r g)(σ)(H)(Q)(h:tE C (ak g i b) σ H Q):ZG r (adZ i) (tRd C b) σ H Q:=by
 obtain⟨Pr,F,env,env',d,rl,e,q⟩:=h;unfold ak at e;split at e
 ·rename_i o0 d0 h0;obtain⟨v,hv,_⟩:=rl.rd h0;obtain⟨y,fH,e1,e2⟩:=aR e;split at e2
  ·rename_i o2 x h2;obtain⟨e5,rfl⟩:=cF e2;refine⟨v,hv,Pr,F,env,env',y,rl,e1,λvy H2 F2 r2 s2 p2=>?_⟩;obtain⟨v',hv',p⟩:=r2.rd h2;rw[hv] at hv';cases hv';exact o Pr F2 env' σ H2 x y d v vy Q r2 p p2 e5 λv H3 F3 r3 s3 p3=>q v H3 F3 r3 (s2.trans s3) p3
  ·cases e2
 ·cases e
def aeC(ho:nZ X (binaryOp op) r)(o:qI C r g)(ha:PX X C x a)(hb:Q4 X C y b):PX X C (.BinOp x op y pos) (au g a b):=
 (ZX ho ha hb).imp (FZ o)
def abw{px:Pos}(i)(hN:X.N[i]? = some x)(hv:wg X.env.scope x)(ho:nZ X (binaryOp op) r)(o:qI C r g)(hb:Q4 X C y b)
  (hd:lr x:=by decide) (hcd:uz x:=by decide):PX X C (.BinOp (.Name x px) op y pos) (ak g i b):=
 (ZX ho (j0 hN hv hd hcd) hb).imp (tD o)
def aby(ho:nZ X (compareOp op) r)(o:qI C r g)(ha:PX X C x a)(hb:Q4 X C y b)(hm:behindInMarks op y=false):PX X C (.Compare x [op] [y] pos) (au g a b):=
 (MJ ho ha hb hm).imp (FZ o)
def aeA(ho:UnR X (unaryOp op) r)(o:UnD C r g)(ha:PX X C x a):PX X C (.UnaryOp op x pos) (gk g a):=
 (aeH ho ha).imp λσ H Q h=>by
  obtain⟨Pr,F,env,env',d,rl,e,q⟩:=h;obtain⟨x,aD,e1,e2⟩:=aR e;obtain⟨e3,rfl⟩:=cF e2;exact⟨Pr,F,env,env',x,rl,e1,λvx H1 F1 r1 s1 p1=>o Pr F1 env' σ H1 x d vx Q r1 (.inl p1) e3 λv H3 F3 r3 s3 p3=>q v H3 F3 r3 (s1.trans s3) p3⟩
def cC(a:Ev):gh:=λenv=>bindR (a env) λd aD=>match d with
 | .bl b=>.ok b aD
 | _=>.stuck
def Rq(h:tT C (cC a) σ H Q):tE C a σ H λx H'=>∃k,x = .bl k/\Q k H':=by
 obtain⟨Pr,F,env,env',b,rl,e,q⟩:=h;obtain⟨d,aD,e1,e2⟩:=aR e;refine⟨Pr,F,env,aD,d,rl,e1,λv H1 F1 r1 s1 p1=>?_⟩;cases d with
 | bl c=>cases e2;exact⟨_,p1,q H1 F1 r1 s1⟩
 | _=>cases e2
def W0(ho:nZ X (compareOp op) r)(o:qI C r g)(ha:PX X C x a)(hb:Q4 X C y b)(hm:behindInMarks op y=false):PXT X C (.Compare x [op] [y] pos) (cC (au g a b)):=
 (Mx ho ha hb hm).imp λσ H Q h=>by
  have h1:=Rq h;exact FZ o σ H _ h1
def dX(a:gh):gh:=λenv=>bindR (a env) λb aD=>.ok (!b) aD
def iz(a b:gh):gh:=λenv=>bindR (a env) λc aD=>if c=true then b aD else .ok false aD
def du(a b:gh):gh:=λenv=>bindR (a env) λc aD=>if c=true then .ok true aD else b aD
def PXW(X:Cx)(C:Cfg)(e:Expr)(ev:gh):Prop:=PW X e (tT C ev)
def PXW.pt(h:PXW X C e a):PXT X C e a:=PW.pt h
def ju(a b:Ev):Ev:=λenv=>bindR (a env) λc aD=>match c with
 | .bl true=>b aD
 | .bl false=>.ok (.bl false) aD
 | _=>.stuck
def Jh(a b:Ev):Ev:=λenv=>bindR (a env) λc aD=>match c with
 | .bl true=>.ok (.bl true) aD
 | .bl false=>b aD
 | _=>.stuck
def K6(t:gh)(a b:Ev):Ev:=λenv=>bindR (t env) λc aD=>if c=true then a aD else b aD
end
def tV(f:D->D->Option Bool):List D->List D->Option Bool
 | [],[]=>some true
 | x::xs,y::ys=>match f x y,tV f xs ys with
  | some a,some b=>some (a&&b)
  | _,_=>none
 | [],_::_=>some false
 | _::_,[]=>some false
def bu:Nat->D->D->Option Bool
 | 0,_,_=>none
 | n+1,.tup xs,.tup ys=>tV (bu n) xs ys
 | n+1,.lst xs,.lst ys=>tV (bu n) xs ys
 | _+1,.dct _,_=>none
 | _+1,.mZ _,_=>none
 | _+1,.clo _ _,_=>none
 | _+1,_,.dct _=>none
 | _+1,_,.mZ _=>none
 | _+1,_,.clo _ _=>none
 | _+1,.arr _,_=>none
 | _+1,_,.arr _=>none
 | _+1,.non,.non=>some true
 | _+1,.bl a,.bl b=>some (a == b)
 | _+1,.bl a,.int b=>some ((if a then 1 else 0) == b)
 | _+1,.int a,.bl b=>some (a == (if b then 1 else 0))
 | _+1,.int a,.int b=>some (a == b)
 | _+1,.str a,.str b=>some (a == b)
 | _+1,_,_=>some false
mutual
def Sh(h:Heap):D->Value->Prop
 | .non,u=>u = .none
 | .bl b,u=>u = .bool b
 | .int i,u=>∃t,u = .int i t
 | .str x,u=>∃t,u = .str (strOf x) t
 | .tup xs,u=>∃a its,u = .ref a/\IsTup h a its.toArray/\JD h xs its
 | .lst xs,u=>∃a its,u = .ref a/\PlainL h a its.toArray/\JD h xs its
 | .arr xs,u=>∃a its,u = .ref a/\PlainL h a its.toArray/\JD h xs its
 | .dct _,u=>∃a o,u = .ref a/\h.get? a=some o/\o.ExactDict
 | .mZ _,u=>∃a o,u = .ref a/\h.get? a=some o/\o.ExactDict
 | .clo _ _,u=>∃a,u = .ref a
def JD(h:Heap):List D->List Value->Prop
 | [],us=>us=[]
 | d::ds,us=>∃u r,us=u::r/\Sh h d u/\JD h ds r
end
theorem JD.length:∀{ds} {us},JD h ds us->us.length=ds.length
 | [],_,e=>by cases e;rfl
 | d::ds,us,e=>by obtain⟨u,r,rfl,_,h2⟩:=e;rw[Qq1,Qq1,h2.length]
section
variable{X:Cx}{pins:List (Addr×Obj)}{σ:L2.St}{H:Hp}{s:Shared}
mutual
theorem Rep.sh(I:Inv X pins σ H s):∀(d:D) (v:V) (u:Value),Rep X.K H d v->RelV v u->Sh s.heap d u
 | .non,_,_,h,r=>by cases h;exact r
 | .bl _,_,_,h,r=>by cases h;exact r
 | .int _,_,_,h,r=>by cases h;exact r
 | .str _,_,_,h,r=>by obtain⟨h,_⟩:=h;cases h;exact r
 | .tup xs,v,u,h,r=>by
  obtain⟨z,a,vs,rfl,h1,h2⟩:=h;cases r;obtain⟨its,rv,p,_⟩:=I.tuple h1;exact⟨a,its,rfl,p,bL.sh I xs vs its h2 rv⟩
 | .lst xs,v,u,h,r=>by
  obtain⟨z,a,vs,rfl,h1,h2⟩:=h;cases r;obtain⟨its,rv,p,_⟩:=I.list (mR.of h1);exact⟨a,its,rfl,p,bL.sh I xs vs its h2 rv⟩
 | .arr xs,v,u,h,r=>by
  obtain⟨z,a,vs,rfl,h1,h2⟩:=h;cases r;obtain⟨its,rv,p,_⟩:=I.list h1;exact⟨a,its,rfl,p,bL.sh I xs vs its h2 rv⟩
 | .dct kvs,v,u,h,r=>by
  obtain⟨z,a,ks,rfl,h1,h2⟩:=h;cases r;obtain⟨_,_,vs,_,o,_,_,e,ex,_⟩:=h1.ok I.hok;exact⟨a,o,rfl,e,ex⟩
 | .mZ kvs,v,u,h,r=>by
  obtain⟨z,a,ks,rfl,h1,h2⟩:=h;cases r;obtain⟨_,_,vs,_,o,_,_,e,ex,_⟩:=h1.ok I.hok;exact⟨a,o,rfl,e,ex⟩
 | .clo st ds,v,u,h,r=>by
  obtain⟨a,vs,rfl,h1,h2⟩:=h;cases r;exact⟨a,rfl⟩
theorem bL.sh(I:Inv X pins σ H s):∀(ds:List D) (vs:List V) (us:List Value),bL X.K H ds vs->Vals vs us->JD s.heap ds us
 | [],_,_,h,r=>by cases h;cases r;exact rfl
 | d::ds,vs,us,h,r=>by
  obtain⟨v,rr,rfl,h1,h2⟩:=h;cases r with
  | cons q qs=>exact⟨_,_,rfl,Rep.sh I d v _ h1 q,bL.sh I ds rr _ h2 qs⟩
end
end
def Mf(p:IsTup h a xs)(q:IsTup h a ys):xs=ys:=by obtain⟨o,e,_,n,d⟩:=p;obtain⟨o',e',_,n',d'⟩:=q;rw[e] at e';cases e';rw[d] at d';cases d';rfl
def M6(p:PlainL h a xs)(q:PlainL h a ys):xs=ys:=by obtain⟨o,e,_,n,d⟩:=p.isList;obtain⟨o',e',_,n',d'⟩:=q.isList;rw[e] at e';cases e';rw[d] at d';cases d';rfl
def yH(p:IsTup h a xs)(q:PlainL h a ys):False:=by obtain⟨o,e,c,n,d⟩:=p;obtain⟨o',e',c',n',d'⟩:=q.isList;rw[e] at e';cases e';rw[c] at c';simp at c'
theorem Ai:∀n d e u b,Sh h d u->Sh h e u->bu n d e=some b->b=true
 | 0,_,_,_,_,_,_,hb=>by simp[bu] at hb
 | n+1,d,e,u,b,hd,he,hb=>by
  have all:∀xs ys us b,JD h xs us->JD h ys us->tV (bu n) xs ys=some b->b=true:=by
   intro xs
   induction xs with
   | nil=>
    intro ys us b h1 h2 hb;cases h1;cases ys with
    | nil=>simp[tV] at hb;exact hb
    | cons y ys=>obtain⟨u,r,q,_⟩:=h2;cases q
   | cons x xs ih=>
    intro ys us b h1 h2 hb;obtain⟨u,r,rfl,h3,h4⟩:=h1;cases ys with
    | nil=>cases h2
    | cons y ys=>
     obtain⟨u',r',q,h5,h6⟩:=h2;cases q;unfold tV at hb;cases q1:bu n x y with
     | none=>rw[q1] at hb;simp at hb
     | some c=>
      cases q2:tV (bu n) xs ys with
      | none=>rw[q1,q2] at hb;simp at hb
      | some c'=>
       rw[q1,q2] at hb;have e1:=Ai n x y u c h3 h5 q1;have e2:=ih ys r c' h4 h6 q2;subst e1 e2;simp at hb;exact hb
  cases d with
  | non=>cases hd;cases e<;>simp[Sh] at he;simp[bu] at hb;exact hb
  | bl c=>cases hd;cases e<;>simp[Sh] at he;subst he;simp[bu] at hb;exact hb
  | int i=>obtain⟨t,rfl⟩:=hd;cases e<;>simp[Sh] at he;subst he;simp[bu] at hb;exact hb
  | str x=>
   obtain⟨t,rfl⟩:=hd;cases e with
   | str y=>
    obtain⟨t',q⟩:=he;injection q with q1 _
    unfold strOf at q1;injection q1 with q2
    have q3:=Qjq Array.toList q2;simp at q3;subst q3;simp[bu] at hb;exact hb
   | _=>simp[Sh] at he
  | tup xs=>
   obtain⟨a,its,rfl,p,hs⟩:=hd;cases e with
   | tup ys=>
    obtain⟨a',its',q,p',hs'⟩:=he;cases q;have e2:its=its':=by simpa using Mf p p'
    subst e2;exact all xs ys its b hs hs' (by simpa only[bu] using hb)
   | lst ys=>
    obtain⟨a',its',q,p',hs'⟩:=he;cases q;exact(yH p p').elim
   | dct kvs=>simp[bu] at hb
   | mZ kvs=>simp[bu] at hb
   | clo _ _=>simp[bu] at hb
   | arr kvs=>simp[bu] at hb
   | _=>simp[Sh] at he
  | lst xs=>
   obtain⟨a,its,rfl,p,hs⟩:=hd;cases e with
   | lst ys=>
    obtain⟨a',its',q,p',hs'⟩:=he;cases q;have e2:its=its':=by simpa using M6 p p'
    subst e2;exact all xs ys its b hs hs' (by simpa only[bu] using hb)
   | tup ys=>
    obtain⟨a',its',q,p',hs'⟩:=he;cases q;exact(yH p' p).elim
   | dct kvs=>simp[bu] at hb
   | mZ kvs=>simp[bu] at hb
   | clo _ _=>simp[bu] at hb
   | arr kvs=>simp[bu] at hb
   | _=>simp[Sh] at he
  | dct kvs=>cases e<;>simp[bu] at hb
  | mZ kvs=>cases e<;>simp[bu] at hb
  | clo _ _=>cases e<;>simp[bu] at hb
  | arr kvs=>cases e<;>simp[bu] at hb
theorem NZ:∀n d d' e u b b',Sh h d u->Sh h d' u->bu n d e=some b->bu n d' e=some b'->b=b'
 | 0,_,_,_,_,_,_,_,_,hb,_=>by simp[bu] at hb
 | n+1,d,d',e,u,b,b',hd,hd',hb,hb'=>by
  have all:∀xs xs' ys us b b',JD h xs us->JD h xs' us->tV (bu n) xs ys=some b->tV (bu n) xs' ys=some b'->b=b':=by
   intro xs
   induction xs with
   | nil=>
    intro xs' ys us b b' h1 h2 hb hb';cases h1;cases xs' with
    | nil=>rw[hb] at hb';exact Qw8 hb'
    | cons y ys=>obtain⟨u,r,q,_⟩:=h2;cases q
   | cons x xs ih=>
    intro xs' ys us b b' h1 h2 hb hb';obtain⟨u,r,rfl,h3,h4⟩:=h1;cases xs' with
    | nil=>cases h2
    | cons x' xs'=>
     obtain⟨u',r',q,h5,h6⟩:=h2;cases q;cases ys with
     | nil=>simp[tV] at hb hb';rw[hb,hb']
     | cons y ys=>
      unfold tV at hb hb';cases q1:bu n x y with
      | none=>rw[q1] at hb;simp at hb
      | some c=>
       cases q2:tV (bu n) xs ys with
       | none=>rw[q1,q2] at hb;simp at hb
       | some c2=>
        cases q3:bu n x' y with
        | none=>rw[q3] at hb';simp at hb'
        | some c3=>
         cases q4:tV (bu n) xs' ys with
         | none=>rw[q3,q4] at hb';simp at hb'
         | some c4=>
          rw[q1,q2] at hb;rw[q3,q4] at hb';have e1:=NZ n x x' y u c c3 h3 h5 q1 q3;have e2:=ih xs' ys r c2 c4 h4 h6 q2 q4;subst e1 e2;simp at hb hb';rw[<-hb,<-hb']
  cases d with
  | non=>cases hd;cases d'<;>simp[Sh] at hd';rw[hb] at hb';exact Qw8 hb'
  | bl c=>cases hd;cases d'<;>simp[Sh] at hd';subst hd';rw[hb] at hb';exact Qw8 hb'
  | int i=>obtain⟨t,rfl⟩:=hd;cases d'<;>simp[Sh] at hd';subst hd';rw[hb] at hb';exact Qw8 hb'
  | str x=>
   obtain⟨t,rfl⟩:=hd;cases d' with
   | str y=>
    obtain⟨t',q⟩:=hd';injection q with q1 _
    unfold strOf at q1;injection q1 with q2
    have q3:=Qjq Array.toList q2;simp at q3;subst q3;rw[hb] at hb';exact Qw8 hb'
   | _=>simp[Sh] at hd'
  | tup xs=>
   obtain⟨a,its,rfl,p,hs⟩:=hd;cases d' with
   | tup xs'=>
    obtain⟨a',its',q,p',hs'⟩:=hd';cases q;have e2:its=its':=by simpa using Mf p p'
    subst e2;cases e with
    | tup ys=>exact all xs xs' ys its b b' hs hs' (by simpa only[bu] using hb) (by simpa only[bu] using hb')
    | _=>first|(simp[bu] at hb;done)|(simp only[bu,Qw4] at hb hb';rw[<-hb,<-hb'])
   | lst ys=>
    obtain⟨a',its',q,p',hs'⟩:=hd';cases q;exact(yH p p').elim
   | dct kvs=>cases e<;>simp[bu] at hb'
   | mZ kvs=>cases e<;>simp[bu] at hb'
   | clo _ _=>cases e<;>simp[bu] at hb'
   | arr kvs=>cases e<;>simp[bu] at hb'
   | _=>simp[Sh] at hd'
  | lst xs=>
   obtain⟨a,its,rfl,p,hs⟩:=hd;cases d' with
   | lst xs'=>
    obtain⟨a',its',q,p',hs'⟩:=hd';cases q;have e2:its=its':=by simpa using M6 p p'
    subst e2;cases e with
    | lst ys=>exact all xs xs' ys its b b' hs hs' (by simpa only[bu] using hb) (by simpa only[bu] using hb')
    | _=>first|(simp[bu] at hb;done)|(simp only[bu,Qw4] at hb hb';rw[<-hb,<-hb'])
   | tup ys=>
    obtain⟨a',its',q,p',hs'⟩:=hd';cases q;exact(yH p' p).elim
   | dct kvs=>cases e<;>simp[bu] at hb'
   | mZ kvs=>cases e<;>simp[bu] at hb'
   | clo _ _=>cases e<;>simp[bu] at hb'
   | arr kvs=>cases e<;>simp[bu] at hb'
   | _=>simp[Sh] at hd'
  | dct kvs=>cases e<;>simp[bu] at hb
  | mZ kvs=>cases e<;>simp[bu] at hb
  | clo _ _=>cases e<;>simp[bu] at hb
  | arr kvs=>cases e<;>simp[bu] at hb
def wJ(x y):(strOf x == strOf y)=(x == y):=by
 rw[Qzv];simp[beq_iff_eq];constructor
 ·intro e;unfold strOf at e;injection e with e
  simpa using Qjq Array.toList e
 ·intro e;rw[e]
theorem yO:∀{f} {xs ys},xs.length≠ys.length->∀b,tV f xs ys=some b->b=false
 | f,[],[],h,b,e=>absurd rfl h
 | f,[],_::_,_,b,e=>by simp[tV] at e;exact e
 | f,_::_,[],_,b,e=>by simp[tV] at e;exact e
 | f,x::xs,y::ys,h,b,e=>by
  unfold tV at e;cases h1:f x y with
  | none=>rw[h1] at e;simp at e
  | some c=>
   cases h2:tV f xs ys with
   | none=>rw[h1,h2] at e;simp at e
   | some d=>
    rw[h1,h2] at e;have:=yO (by simpa using h) d h2;subst this;simp at e;exact e
theorem uH:∀{f} xs ys b,tV f xs ys=some b->∃e,(∀j x y,xs[j]? = some x->ys[j]? = some y->f x y=some (e j))/\b=((List.range (min xs.length ys.length)).all e&&xs.length == ys.length)
 | f,[],ys,b,h=>by
  refine⟨λ_=>true,λj x y hx=>by simp at hx,?_⟩;cases ys with
  | nil=>simp[tV] at h;simp[h.symm]
  | cons y ys=>simp[tV] at h;simp[h.symm]
 | f,x::xs,[],b,h=>by
  refine⟨λ_=>true,λj x y _ hy=>by simp at hy,?_⟩;simp[tV] at h;simp[h.symm]
 | f,x::xs,y::ys,b,h=>by
  unfold tV at h;cases h1:f x y with
  | none=>rw[h1] at h;simp at h
  | some c=>
   cases h2:tV f xs ys with
   | none=>rw[h1,h2] at h;simp at h
   | some d=>
    rw[h1,h2] at h;obtain⟨e,he,hd⟩:=uH xs ys d h2;refine⟨λj=>match j with|0=>c|j+1=>e j,λj x' y' hx hy=>?_,?_⟩
    ·cases j with
     | zero=>simp at hx hy;subst hx hy;exact h1
     | succ j=>exact he j x' y' (by simpa using hx) (by simpa using hy)
    ·have hb:b=(c&&d):=by simpa using h.symm
     have hm:min (x::xs).length (y::ys).length=min xs.length ys.length+1:=by simp only[Qq1];omega
     rw[hb,hd,hm,List.range_succ_eq_map,List.all_cons,List.all_map,Bool.and_assoc];have hl:((x::xs).length == (y::ys).length)=(xs.length == ys.length):=by simp
     rw[hl]
     rfl
theorem oE:∀{ds} {us} {j:Nat} {u},JD h ds us->us[j]? = some u->∃d,ds[j]? = some d/\Sh h d u
 | [],_,_,_,e,g=>by cases e;simp at g
 | d::ds,us,j,u,e,g=>by
  obtain⟨v,r,rfl,h1,h2⟩:=e;cases j with
  | zero=>simp at g;subst g;exact⟨d,rfl,h1⟩
  | succ j=>obtain⟨c,e1,e2⟩:=oE h2 (by simpa using g);exact⟨c,by simpa using e1,e2⟩
theorem Fz:∀n d e u v b A s,Sh s.heap d u->Sh s.heap e v->bu n d e=some b->A.units+n<cLine->SeqAt.EqAt A s u v b
 | 0,_,_,_,_,_,_,_,_,_,h,_=>by simp[bu] at h
 | n+1,d,e,u,v,b,A,s,hd,he,h,hu=>by
  have hu0:A.units<cLine:=by omega
  have hin:A.in1.units+n<cLine:=by show A.units+1+n<cLine;omega
  cases d with
  | non=>
   cases hd;cases e with
   | non=>cases he;simp[bu] at h;subst h;exact SeqAt.EqAt.same _
   | bl c=>cases he;simp[bu] at h;subst h;exact SeqAt.EqAt.none_bool c
   | int i=>obtain⟨t,rfl⟩:=he;simp[bu] at h;subst h;exact SeqAt.EqAt.none_int i t
   | str x=>obtain⟨t,rfl⟩:=he;simp[bu] at h;subst h;exact SeqAt.EqAt.none_str _ t
   | tup ys=>obtain⟨a,its,rfl,p,_⟩:=he;simp[bu] at h;subst h;exact SeqAt.EqAt.none_tuple p hu0
   | lst ys=>obtain⟨a,its,rfl,p,_⟩:=he;simp[bu] at h;subst h;exact SeqAt.EqAt.none_list p.isList hu0
   | dct kvs=>simp[bu] at h
   | mZ kvs=>simp[bu] at h
   | clo _ _=>simp[bu] at h
   | arr kvs=>simp[bu] at h
  | bl c=>
   cases hd;cases e with
   | non=>cases he;simp[bu] at h;subst h;exact SeqAt.EqAt.bool_none c
   | bl c'=>cases he;simp only[bu,Qw4] at h;subst h;exact SeqAt.EqAt.bool_bool c c'
   | int i=>obtain⟨t,rfl⟩:=he;simp only[bu,Qw4] at h;subst h;exact SeqAt.EqAt.bool_int c i t
   | str x=>obtain⟨t,rfl⟩:=he;simp[bu] at h;subst h;exact SeqAt.EqAt.bool_str c _ t
   | tup ys=>obtain⟨a,its,rfl,p,_⟩:=he;simp[bu] at h;subst h;exact SeqAt.EqAt.bool_tuple c p hu0
   | lst ys=>obtain⟨a,its,rfl,p,_⟩:=he;simp[bu] at h;subst h;exact SeqAt.EqAt.bool_list c p.isList hu0
   | dct kvs=>simp[bu] at h
   | mZ kvs=>simp[bu] at h
   | clo _ _=>simp[bu] at h
   | arr kvs=>simp[bu] at h
  | int i=>
   obtain⟨t',rfl⟩:=hd;cases e with
   | non=>cases he;simp[bu] at h;subst h;exact SeqAt.EqAt.int_none i t'
   | bl c'=>cases he;simp only[bu,Qw4] at h;subst h;exact SeqAt.EqAt.int_bool i t' c'
   | int j=>obtain⟨t,rfl⟩:=he;simp only[bu,Qw4] at h;subst h;exact SeqAt.EqAt.int_int i t' j t
   | str x=>obtain⟨t,rfl⟩:=he;simp[bu] at h;subst h;exact SeqAt.EqAt.int_str i t' _ t
   | tup ys=>obtain⟨a,its,rfl,p,_⟩:=he;simp[bu] at h;subst h;exact SeqAt.EqAt.int_tuple i t' p hu0
   | lst ys=>obtain⟨a,its,rfl,p,_⟩:=he;simp[bu] at h;subst h;exact SeqAt.EqAt.int_list i t' p.isList hu0
   | dct kvs=>simp[bu] at h
   | mZ kvs=>simp[bu] at h
   | clo _ _=>simp[bu] at h
   | arr kvs=>simp[bu] at h
  | str x=>
   obtain⟨t',rfl⟩:=hd;cases e with
   | non=>cases he;simp[bu] at h;subst h;exact SeqAt.EqAt.str_none _ t'
   | bl c'=>cases he;simp[bu] at h;subst h;exact SeqAt.EqAt.str_bool _ t' c'
   | int j=>obtain⟨t,rfl⟩:=he;simp[bu] at h;subst h;exact SeqAt.EqAt.str_int _ t' j t
   | str y=>obtain⟨t,rfl⟩:=he;simp only[bu,Qw4] at h;subst h;rw[<-wJ];exact SeqAt.EqAt.str_str _ t' _ t
   | tup ys=>obtain⟨a,its,rfl,p,_⟩:=he;simp[bu] at h;subst h;exact SeqAt.EqAt.str_tuple _ t' p hu0
   | lst ys=>obtain⟨a,its,rfl,p,_⟩:=he;simp[bu] at h;subst h;exact SeqAt.EqAt.str_list _ t' p.isList hu0
   | dct kvs=>simp[bu] at h
   | mZ kvs=>simp[bu] at h
   | clo _ _=>simp[bu] at h
   | arr kvs=>simp[bu] at h
  | tup xs=>
   obtain⟨a,its,rfl,p,hs⟩:=hd;cases e with
   | non=>cases he;simp[bu] at h;subst h;exact SeqAt.EqAt.tuple_none p hu0
   | bl c'=>cases he;simp[bu] at h;subst h;exact SeqAt.EqAt.tuple_bool c' p hu0
   | int j=>obtain⟨t,rfl⟩:=he;simp[bu] at h;subst h;exact SeqAt.EqAt.tuple_int j t p hu0
   | str y=>obtain⟨t,rfl⟩:=he;simp[bu] at h;subst h;exact SeqAt.EqAt.tuple_str _ t p hu0
   | tup ys=>
    obtain⟨a',its',rfl,p',hs'⟩:=he;by_cases haa:a=a'
    ·subst haa;have:=Ai (n+1) (.tup xs) (.tup ys) (.ref a) b ⟨a,its,rfl,p,hs⟩ ⟨a,its',rfl,p',hs'⟩ h;subst this;exact SeqAt.EqAt.same _
    ·simp only[bu] at h;obtain⟨f,hf,hb⟩:=uH xs ys b h;have l1:=hs.length;have l2:=hs'.length;refine SeqAt.EqAt.of_refs haa ?_;have:=SeqAt.RcAt.tuples (e:=f) p p' hu0 λj h1 h2=>?_
     ·rw[hb];simp only[Qq8] at this;rw[l1,l2] at this;exact this
     ·have g1:its[j]? = some its.toArray[j]:=by simp at h1 ⊢
      have g2:its'[j]? = some its'.toArray[j]:=by simp at h2 ⊢
      obtain⟨x,q1,q2⟩:=oE hs g1;obtain⟨y,q3,q4⟩:=oE hs' g2;exact Fz n x y _ _ _ A.in1 s q2 q4 (hf j x y q1 q3) hin
   | lst ys=>obtain⟨a',its',rfl,p',_⟩:=he;simp[bu] at h;subst h;exact SeqAt.EqAt.tuple_list p p'.isList hu0
   | dct kvs=>simp[bu] at h
   | mZ kvs=>simp[bu] at h
   | clo _ _=>simp[bu] at h
   | arr kvs=>simp[bu] at h
  | lst xs=>
   obtain⟨a,its,rfl,p,hs⟩:=hd;cases e with
   | non=>cases he;simp[bu] at h;subst h;exact SeqAt.EqAt.list_none p.isList hu0
   | bl c'=>cases he;simp[bu] at h;subst h;exact SeqAt.EqAt.list_bool c' p.isList hu0
   | int j=>obtain⟨t,rfl⟩:=he;simp[bu] at h;subst h;exact SeqAt.EqAt.list_int j t p.isList hu0
   | str y=>obtain⟨t,rfl⟩:=he;simp[bu] at h;subst h;exact SeqAt.EqAt.list_str _ t p.isList hu0
   | lst ys=>
    obtain⟨a',its',rfl,p',hs'⟩:=he;have l1:=hs.length;have l2:=hs'.length;by_cases haa:a=a'
    ·subst haa;have:=Ai (n+1) (.lst xs) (.lst ys) (.ref a) b ⟨a,its,rfl,p,hs⟩ ⟨a,its',rfl,p',hs'⟩ h;subst this;exact SeqAt.EqAt.same _
    ·simp only[bu] at h;refine SeqAt.EqAt.of_refs haa ?_;by_cases hl:xs.length=ys.length
     ·obtain⟨f,hf,hb⟩:=uH xs ys b h;have:=SeqAt.RcAt.lists (e:=f) p.isList p'.isList (by simp only[Qq8];omega) hu0 λj h1 h2=>?_
      ·rw[hb,<-hl,Nat.min_self,beq_self_eq_true,Bool.and_true,<-l1];simp only[Qq8] at this;exact this
      ·have g1:its[j]? = some its.toArray[j]:=by simp at h1 ⊢
       have g2:its'[j]? = some its'.toArray[j]:=by simp at h2 ⊢
       obtain⟨x,q1,q2⟩:=oE hs g1;obtain⟨y,q3,q4⟩:=oE hs' g2;exact Fz n x y _ _ _ A.in1 s q2 q4 (hf j x y q1 q3) hin
     ·have:=yO hl b h;subst this;exact SeqAt.RcAt.lists_lengths p.isList p'.isList (by simp only[Qq8];rw[l1,l2];simpa using hl) hu0
   | tup ys=>obtain⟨a',its',rfl,p',_⟩:=he;simp[bu] at h;subst h;exact SeqAt.EqAt.list_tuple p.isList p' hu0
   | dct kvs=>simp[bu] at h
   | mZ kvs=>simp[bu] at h
   | clo _ _=>simp[bu] at h
   | arr kvs=>simp[bu] at h
  | dct kvs=>cases e<;>simp[bu] at h
  | mZ kvs=>cases e<;>simp[bu] at h
  | clo _ _=>cases e<;>simp[bu] at h
  | arr kvs=>cases e<;>simp[bu] at h
def vq(n)(its its')(xs ys)(f:Nat->Bool)(A:Around)(s)(hs:JD s.heap xs its)(hs':JD s.heap ys its')(hf:∀j x y,xs[j]? = some x->ys[j]? = some y->bu n x y=some (f j))(hin:A.in1.units+n<cLine)
  (j) (h1:j<its.toArray.size) (h2:j<its'.toArray.size):SeqAt.EqAt A.in1 s its.toArray[j] its'.toArray[j] (f j):=by
 have g1:its[j]? = some its.toArray[j]:=by simp at h1 ⊢
 have g2:its'[j]? = some its'.toArray[j]:=by simp at h2 ⊢
 obtain⟨x,q1,q2⟩:=oE hs g1;obtain⟨y,q3,q4⟩:=oE hs' g2;exact Fz n x y _ _ _ A.in1 s q2 q4 (hf j x y q1 q3) hin
def aej(n)(d e)(u v)(b)(A)(s)(hd:Sh s.heap d u)(he:Sh s.heap e v)(h:bu (n+1) d e=some b)(hu:A.units+(n+1)<cLine):SeqAt.RcAt A s u v b:=by
 have hu0:A.units<cLine:=by omega
 have hin:A.in1.units+n<cLine:=by show A.units+1+n<cLine;omega
 cases d with
 | non=>
  cases hd;cases e with
  | non=>
   cases he;simp[bu] at h;subst h;exact SeqAt.RcAt.none_none
  | bl c'=>
   cases he;simp[bu] at h;subst h;exact SeqAt.RcAt.none_bool c'
  | int j=>
   obtain⟨t,rfl⟩:=he;simp[bu] at h;subst h;exact SeqAt.RcAt.none_int j t
  | str y=>
   obtain⟨t,rfl⟩:=he;simp[bu] at h;subst h;exact SeqAt.RcAt.none_str _ t
  | tup ys=>
   obtain⟨a',its',rfl,p',hs'⟩:=he;simp[bu] at h;subst h;exact SeqAt.RcAt.none_tuple p' hu0
  | lst ys=>
   obtain⟨a',its',rfl,p',hs'⟩:=he;simp[bu] at h;subst h;exact SeqAt.RcAt.none_list p'.isList hu0
  | arr kvs=>
   simp[bu] at h
  | dct kvs=>
   simp[bu] at h
  | mZ kvs=>
   simp[bu] at h
  | clo _ _=>
   simp[bu] at h
 | bl c=>
  cases hd;cases e with
  | non=>
   cases he;simp[bu] at h;subst h;exact SeqAt.RcAt.bool_none c
  | bl c'=>
   cases he;simp only[bu,Qw4] at h;subst h;exact SeqAt.RcAt.bool_bool c c'
  | int j=>
   obtain⟨t,rfl⟩:=he;simp only[bu,Qw4] at h;subst h;exact SeqAt.RcAt.bool_int c j t
  | str y=>
   obtain⟨t,rfl⟩:=he;simp[bu] at h;subst h;exact SeqAt.RcAt.bool_str c _ t
  | tup ys=>
   obtain⟨a',its',rfl,p',hs'⟩:=he;simp[bu] at h;subst h;exact SeqAt.RcAt.bool_tuple c p' hu0
  | lst ys=>
   obtain⟨a',its',rfl,p',hs'⟩:=he;simp[bu] at h;subst h;exact SeqAt.RcAt.bool_list c p'.isList hu0
  | arr kvs=>
   simp[bu] at h
  | dct kvs=>
   simp[bu] at h
  | mZ kvs=>
   simp[bu] at h
  | clo _ _=>
   simp[bu] at h
 | int i=>
  obtain⟨t',rfl⟩:=hd;cases e with
  | non=>
   cases he;simp[bu] at h;subst h;exact SeqAt.RcAt.int_none i t'
  | bl c'=>
   cases he;simp only[bu,Qw4] at h;subst h;exact SeqAt.RcAt.int_bool i t' c'
  | int j=>
   obtain⟨t,rfl⟩:=he;simp only[bu,Qw4] at h;subst h;exact SeqAt.RcAt.int_int i t' j t
  | str y=>
   obtain⟨t,rfl⟩:=he;simp[bu] at h;subst h;exact SeqAt.RcAt.int_str i t' _ t
  | tup ys=>
   obtain⟨a',its',rfl,p',hs'⟩:=he;simp[bu] at h;subst h;exact SeqAt.RcAt.int_tuple i t' p' hu0
  | lst ys=>
   obtain⟨a',its',rfl,p',hs'⟩:=he;simp[bu] at h;subst h;exact SeqAt.RcAt.int_list i t' p'.isList hu0
  | arr kvs=>
   simp[bu] at h
  | dct kvs=>
   simp[bu] at h
  | mZ kvs=>
   simp[bu] at h
  | clo _ _=>
   simp[bu] at h
 | str x=>
  obtain⟨t',rfl⟩:=hd;cases e with
  | non=>
   cases he;simp[bu] at h;subst h;exact SeqAt.RcAt.str_none _ t'
  | bl c'=>
   cases he;simp[bu] at h;subst h;exact SeqAt.RcAt.str_bool _ t' c'
  | int j=>
   obtain⟨t,rfl⟩:=he;simp[bu] at h;subst h;exact SeqAt.RcAt.str_int _ t' j t
  | str y=>
   obtain⟨t,rfl⟩:=he;simp only[bu,Qw4] at h;subst h;rw[<-wJ];exact SeqAt.RcAt.str_str _ t' _ t
  | tup ys=>
   obtain⟨a',its',rfl,p',hs'⟩:=he;simp[bu] at h;subst h;exact SeqAt.RcAt.str_tuple _ t' p' hu0
  | lst ys=>
   obtain⟨a',its',rfl,p',hs'⟩:=he;simp[bu] at h;subst h;exact SeqAt.RcAt.str_list _ t' p'.isList hu0
  | arr kvs=>
   simp[bu] at h
  | dct kvs=>
   simp[bu] at h
  | mZ kvs=>
   simp[bu] at h
  | clo _ _=>
   simp[bu] at h
 | tup xs=>
  obtain⟨a,its,rfl,p,hs⟩:=hd;cases e with
  | non=>
   cases he;simp[bu] at h;subst h;exact SeqAt.RcAt.tuple_none p hu0
  | bl c'=>
   cases he;simp[bu] at h;subst h;exact SeqAt.RcAt.tuple_bool c' p hu0
  | int j=>
   obtain⟨t,rfl⟩:=he;simp[bu] at h;subst h;exact SeqAt.RcAt.tuple_int j t p hu0
  | str y=>
   obtain⟨t,rfl⟩:=he;simp[bu] at h;subst h;exact SeqAt.RcAt.tuple_str _ t p hu0
  | tup ys=>
   obtain⟨a',its',rfl,p',hs'⟩:=he;simp only[bu] at h;have l1:=hs.length;have l2:=hs'.length;obtain⟨f,hf,hb⟩:=uH xs ys b h;have:=SeqAt.RcAt.tuples (e:=f) p p' hu0 λj h1 h2=>?_
   ·rw[hb];simp only[Qq8] at this;rw[l1,l2] at this;exact this
   ·exact vq n its its' xs ys f A s hs hs' hf hin j h1 h2
  | lst ys=>
   obtain⟨a',its',rfl,p',hs'⟩:=he;simp[bu] at h;subst h;exact SeqAt.RcAt.tuple_list p p'.isList hu0
  | arr kvs=>
   simp[bu] at h
  | dct kvs=>
   simp[bu] at h
  | mZ kvs=>
   simp[bu] at h
  | clo _ _=>
   simp[bu] at h
 | lst xs=>
  obtain⟨a,its,rfl,p,hs⟩:=hd;cases e with
  | non=>
   cases he;simp[bu] at h;subst h;exact SeqAt.RcAt.list_none p.isList hu0
  | bl c'=>
   cases he;simp[bu] at h;subst h;exact SeqAt.RcAt.list_bool c' p.isList hu0
  | int j=>
   obtain⟨t,rfl⟩:=he;simp[bu] at h;subst h;exact SeqAt.RcAt.list_int j t p.isList hu0
  | str y=>
   obtain⟨t,rfl⟩:=he;simp[bu] at h;subst h;exact SeqAt.RcAt.list_str _ t p.isList hu0
  | tup ys=>
   obtain⟨a',its',rfl,p',hs'⟩:=he;simp[bu] at h;subst h;exact SeqAt.RcAt.list_tuple p.isList p' hu0
  | lst ys=>
   obtain⟨a',its',rfl,p',hs'⟩:=he;simp only[bu] at h;have l1:=hs.length;have l2:=hs'.length;by_cases hl:xs.length=ys.length
   ·obtain⟨f,hf,hb⟩:=uH xs ys b h;have:=SeqAt.RcAt.lists (e:=f) p.isList p'.isList (by simp only[Qq8];omega) hu0 λj h1 h2=>?_
    ·rw[hb,<-hl,Nat.min_self,beq_self_eq_true,Bool.and_true,<-l1];simp only[Qq8] at this;exact this
    ·exact vq n its its' xs ys f A s hs hs' hf hin j h1 h2
   ·have:=yO hl b h;subst this;exact SeqAt.RcAt.lists_lengths p.isList p'.isList (by simp only[Qq8];rw[l1,l2];simpa using hl) hu0
  | arr kvs=>
   simp[bu] at h
  | dct kvs=>
   simp[bu] at h
  | mZ kvs=>
   simp[bu] at h
  | clo _ _=>
   simp[bu] at h
 | arr kvs=>
  cases e<;>simp[bu] at h
 | dct kvs=>
  cases e<;>simp[bu] at h
 | mZ kvs=>
  cases e<;>simp[bu] at h
 | clo _ _=>
  cases e<;>simp[bu] at h
def WQ(n)(d e)(u v)(b)(A)(s)(hd:Sh s.heap d u)(he:Sh s.heap e v)(h:bu (n+1) d e=some b)(hu:A.units+(n+1)<cLine):SeqAt.RcNeAt A s u v (!b):=by
 have hu0:A.units<cLine:=by omega
 have hin:A.in1.units+n<cLine:=by show A.units+1+n<cLine;omega
 cases d with
 | non=>
  cases hd;cases e with
  | non=>
   cases he;simp[bu] at h;subst h;exact SeqAt.RcNeAt.none_none
  | bl c'=>
   cases he;simp[bu] at h;subst h;exact SeqAt.RcNeAt.none_bool c'
  | int j=>
   obtain⟨t,rfl⟩:=he;simp[bu] at h;subst h;exact SeqAt.RcNeAt.none_int j t
  | str y=>
   obtain⟨t,rfl⟩:=he;simp[bu] at h;subst h;exact SeqAt.RcNeAt.none_str _ t
  | tup ys=>
   obtain⟨a',its',rfl,p',hs'⟩:=he;simp[bu] at h;subst h;exact SeqAt.RcNeAt.none_tuple p' hu0
  | lst ys=>
   obtain⟨a',its',rfl,p',hs'⟩:=he;simp[bu] at h;subst h;exact SeqAt.RcNeAt.none_list p'.isList hu0
  | arr kvs=>
   simp[bu] at h
  | dct kvs=>
   simp[bu] at h
  | mZ kvs=>
   simp[bu] at h
  | clo _ _=>
   simp[bu] at h
 | bl c=>
  cases hd;cases e with
  | non=>
   cases he;simp[bu] at h;subst h;exact SeqAt.RcNeAt.bool_none c
  | bl c'=>
   cases he;simp[bu,Qw4] at h;subst h;exact SeqAt.RcNeAt.bool_bool c c'
  | int j=>
   obtain⟨t,rfl⟩:=he;simp[bu,Qw4] at h;subst h;exact SeqAt.RcNeAt.bool_int c j t
  | str y=>
   obtain⟨t,rfl⟩:=he;simp[bu] at h;subst h;exact SeqAt.RcNeAt.bool_str c _ t
  | tup ys=>
   obtain⟨a',its',rfl,p',hs'⟩:=he;simp[bu] at h;subst h;exact SeqAt.RcNeAt.bool_tuple c p' hu0
  | lst ys=>
   obtain⟨a',its',rfl,p',hs'⟩:=he;simp[bu] at h;subst h;exact SeqAt.RcNeAt.bool_list c p'.isList hu0
  | arr kvs=>
   simp[bu] at h
  | dct kvs=>
   simp[bu] at h
  | mZ kvs=>
   simp[bu] at h
  | clo _ _=>
   simp[bu] at h
 | int i=>
  obtain⟨t',rfl⟩:=hd;cases e with
  | non=>
   cases he;simp[bu] at h;subst h;exact SeqAt.RcNeAt.int_none i t'
  | bl c'=>
   cases he;simp[bu,Qw4] at h;subst h;exact SeqAt.RcNeAt.int_bool i t' c'
  | int j=>
   obtain⟨t,rfl⟩:=he;simp[bu,Qw4] at h;subst h;exact SeqAt.RcNeAt.int_int i t' j t
  | str y=>
   obtain⟨t,rfl⟩:=he;simp[bu] at h;subst h;exact SeqAt.RcNeAt.int_str i t' _ t
  | tup ys=>
   obtain⟨a',its',rfl,p',hs'⟩:=he;simp[bu] at h;subst h;exact SeqAt.RcNeAt.int_tuple i t' p' hu0
  | lst ys=>
   obtain⟨a',its',rfl,p',hs'⟩:=he;simp[bu] at h;subst h;exact SeqAt.RcNeAt.int_list i t' p'.isList hu0
  | arr kvs=>
   simp[bu] at h
  | dct kvs=>
   simp[bu] at h
  | mZ kvs=>
   simp[bu] at h
  | clo _ _=>
   simp[bu] at h
 | str x=>
  obtain⟨t',rfl⟩:=hd;cases e with
  | non=>
   cases he;simp[bu] at h;subst h;exact SeqAt.RcNeAt.str_none _ t'
  | bl c'=>
   cases he;simp[bu] at h;subst h;exact SeqAt.RcNeAt.str_bool _ t' c'
  | int j=>
   obtain⟨t,rfl⟩:=he;simp[bu] at h;subst h;exact SeqAt.RcNeAt.str_int _ t' j t
  | str y=>
   obtain⟨t,rfl⟩:=he;simp[bu,Qw4] at h;subst h;rw[<-wJ];exact SeqAt.RcNeAt.str_str _ t' _ t
  | tup ys=>
   obtain⟨a',its',rfl,p',hs'⟩:=he;simp[bu] at h;subst h;exact SeqAt.RcNeAt.str_tuple _ t' p' hu0
  | lst ys=>
   obtain⟨a',its',rfl,p',hs'⟩:=he;simp[bu] at h;subst h;exact SeqAt.RcNeAt.str_list _ t' p'.isList hu0
  | arr kvs=>
   simp[bu] at h
  | dct kvs=>
   simp[bu] at h
  | mZ kvs=>
   simp[bu] at h
  | clo _ _=>
   simp[bu] at h
 | tup xs=>
  obtain⟨a,its,rfl,p,hs⟩:=hd;cases e with
  | non=>
   cases he;simp[bu] at h;subst h;exact SeqAt.RcNeAt.tuple_none p hu0
  | bl c'=>
   cases he;simp[bu] at h;subst h;exact SeqAt.RcNeAt.tuple_bool c' p hu0
  | int j=>
   obtain⟨t,rfl⟩:=he;simp[bu] at h;subst h;exact SeqAt.RcNeAt.tuple_int j t p hu0
  | str y=>
   obtain⟨t,rfl⟩:=he;simp[bu] at h;subst h;exact SeqAt.RcNeAt.tuple_str _ t p hu0
  | tup ys=>
   obtain⟨a',its',rfl,p',hs'⟩:=he;simp[bu] at h;have l1:=hs.length;have l2:=hs'.length;obtain⟨f,hf,hb⟩:=uH xs ys b h;have:=SeqAt.RcNeAt.tuples (e:=f) p p' hu0 λj h1 h2=>?_
   ·rw[hb];simp only[Qq8] at this;rw[l1,l2] at this;exact this
   ·exact vq n its its' xs ys f A s hs hs' hf hin j h1 h2
  | lst ys=>
   obtain⟨a',its',rfl,p',hs'⟩:=he;simp[bu] at h;subst h;exact SeqAt.RcNeAt.tuple_list p p'.isList hu0
  | arr kvs=>
   simp[bu] at h
  | dct kvs=>
   simp[bu] at h
  | mZ kvs=>
   simp[bu] at h
  | clo _ _=>
   simp[bu] at h
 | lst xs=>
  obtain⟨a,its,rfl,p,hs⟩:=hd;cases e with
  | non=>
   cases he;simp[bu] at h;subst h;exact SeqAt.RcNeAt.list_none p.isList hu0
  | bl c'=>
   cases he;simp[bu] at h;subst h;exact SeqAt.RcNeAt.list_bool c' p.isList hu0
  | int j=>
   obtain⟨t,rfl⟩:=he;simp[bu] at h;subst h;exact SeqAt.RcNeAt.list_int j t p.isList hu0
  | str y=>
   obtain⟨t,rfl⟩:=he;simp[bu] at h;subst h;exact SeqAt.RcNeAt.list_str _ t p.isList hu0
  | tup ys=>
   obtain⟨a',its',rfl,p',hs'⟩:=he;simp[bu] at h;subst h;exact SeqAt.RcNeAt.list_tuple p.isList p' hu0
  | lst ys=>
   obtain⟨a',its',rfl,p',hs'⟩:=he;simp[bu] at h;have l1:=hs.length;have l2:=hs'.length;by_cases hl:xs.length=ys.length
   ·obtain⟨f,hf,hb⟩:=uH xs ys b h;have:=SeqAt.RcNeAt.lists (e:=f) p.isList p'.isList (by simp[Qq8];omega) hu0 λj h1 h2=>?_
    ·rw[hb,<-hl,Nat.min_self,beq_self_eq_true,Bool.and_true,<-l1];simp[Qq8] at this;exact this
    ·exact vq n its its' xs ys f A s hs hs' hf hin j h1 h2
   ·have:=yO hl b h;subst this;exact SeqAt.RcNeAt.lists_lengths p.isList p'.isList (by simp[Qq8];rw[l1,l2];simpa using hl) hu0
  | arr kvs=>
   simp[bu] at h
  | dct kvs=>
   simp[bu] at h
  | mZ kvs=>
   simp[bu] at h
  | clo _ _=>
   simp[bu] at h
 | arr kvs=>
  cases e<;>simp[bu] at h
 | dct kvs=>
  cases e<;>simp[bu] at h
 | mZ kvs=>
  cases e<;>simp[bu] at h
 | clo _ _=>
  cases e<;>simp[bu] at h
section
variable{X:Cx}{C:Cfg}
def aev(K:Fg):R2:=λx y H Q=>∃dx dy b,Rep K H dx x/\Rep K H dy y/\bu 60 dx dy=some b/\Q (.bl b) H
def abp(K:Fg):R2:=λx y H Q=>∃dx dy b,Rep K H dx x/\Rep K H dy y/\bu 60 dx dy=some b/\Q (.bl (!b)) H
def ab5(hu:X.A.units+60<cLine):nZ X (compareOp .Eq) (aev X.K):=by intro pins s σ H x y v u Q I rx ry h;obtain⟨dx,dy,b,h1,h2,h3,q⟩:=h;exact aej 59 dx dy v u b X.A s (Rep.sh I dx x v h1 rx) (Rep.sh I dy y u h2 ry) h3 hu X.prog X.w X.xe _ ⟨.bl b,H,I,rfl,q⟩
def TY(hu:X.A.units+60<cLine):nZ X (compareOp .NotEq) (abp X.K):=by intro pins s σ H x y v u Q I rx ry h;obtain⟨dx,dy,b,h1,h2,h3,q⟩:=h;exact WQ 59 dx dy v u b X.A s (Rep.sh I dx x v h1 rx) (Rep.sh I dy y u h2 ry) h3 hu X.prog X.w X.xe _ ⟨.bl<|!b,H,I,rfl,q⟩
def jF(x y:D):Option D:=(bu 60 x y).map .bl
def qJ(x y:D):Option D:=(bu 60 x y).map λb=>.bl (!b)
def aeT:qI C (aev C.K) jF:=by
 intro Pr F env σ H x y d vx vy Q r hx hy h q;unfold jF at h;cases e:bu 60 x y with
 | none=>rw[e] at h;cases h
 | some b=>
  rw[e] at h;cases h;exact⟨x,y,b,hx.rep r.fr,hy.rep r.fr,e,q _ H F r (aQ.refl F) rfl⟩
def Z0:qI C (abp C.K) qJ:=by
 intro Pr F env σ H x y d vx vy Q r hx hy h q;unfold qJ at h;cases e:bu 60 x y with
 | none=>rw[e] at h;cases h
 | some b=>
  rw[e] at h;cases h;exact⟨x,y,b,hx.rep r.fr,hy.rep r.fr,e,q _ H F r (aQ.refl F) rfl⟩
def Ff(x:D):List D->Option Bool
 | []=>some false
 | y::ys=>match bu 59 y x,Ff x ys with
  | some a,some b=>some (a||b)
  | _,_=>none
theorem Ni(x):∀ys b,Ff x ys=some b->(∀y∈ys,∃c,bu 59 y x=some c)/\(b=true ↔ ∃y∈ys,bu 59 y x=some true)
 | [],b,h=>by simp[Ff] at h;subst h;simp
 | y::ys,b,h=>by
  unfold Ff at h;cases h1:bu 59 y x with
  | none=>rw[h1] at h;simp at h
  | some c=>
   cases h2:Ff x ys with
   | none=>rw[h1,h2] at h;simp at h
   | some d=>
    rw[h1,h2] at h;obtain⟨i1,i2⟩:=Ni x ys d h2;have hb:b=(c||d):=by simpa using h.symm
    refine⟨λz hz=>?_,?_⟩
    ·rcases Qq3.mp hz with rfl|hz
     ·exact⟨c,h1⟩
     ·exact i1 z hz
    ·rw[hb,Qx8];constructor
     ·rintro(hc|hd)
      ·exact⟨y,Qqk,by rw[h1,hc]⟩
      ·obtain⟨z,hz,e⟩:=i2.mp hd;exact⟨z,Qqw _ hz,e⟩
     ·rintro⟨z,hz,e⟩;rcases Qq3.mp hz with rfl|hz
      ·rw[h1] at e;left;simpa using e
      ·right;exact i2.mpr ⟨z,hz,e⟩
open Classical in
noncomputable def Ce(h:Heap)(x:D)(u:Value):Bool:=decide (∃y,Sh h y u/\bu 59 y x=some true)
open Classical in
def Gg(hy:Sh h y u)(e:bu 59 y x=some c):Ce h x u=c:=by
 unfold Ce;cases c with
 | true=>exact Qw2 ⟨y,hy,e⟩
 | false=>
  refine Qw5 ?_;rintro⟨z,hz,e'⟩;have:=NZ 59 z y x u true false hz hy e' e;cases this
def xx(hx:Sh s.heap x v)(hs:JD s.heap ys us)(h:Ff x ys=some b)(hu:A.units+59<cLine) :
  (∀w,w∈us.toArray->SeqAt.EqAt A s w v (Ce s.heap x w))/\us.toArray.any (Ce s.heap x)=b:=by
 obtain⟨h1,h2⟩:=Ni x ys b h;have item:∀w∈us,∃y∈ys,Sh s.heap y w:=λw hw=>by
  obtain⟨j,hj,e⟩:=List.mem_iff_getElem.mp hw;obtain⟨d,e1,e2⟩:=oE hs (show us[j]? = some w by rw[Qzq hj,e]);exact⟨d,Qjy e1,e2⟩
 have back:∀{ys} {us},JD s.heap ys us->∀y∈ys,∃w∈us,Sh s.heap y w:=by
  intro ys
  induction ys with
  | nil=>intro us _ y hy;cases hy
  | cons z zs ih=>
   intro us hs y hy;obtain⟨w,r,rfl,g1,g2⟩:=hs;rcases Qq3.mp hy with rfl|hy
   ·exact⟨w,Qqk,g1⟩
   ·obtain⟨w',m,g⟩:=ih g2 y hy;exact⟨w',Qqw _ m,g⟩
 refine⟨λw hw=>?_,?_⟩
 ·obtain⟨y,hy,sy⟩:=item w (by simpa using hw);obtain⟨c,hc⟩:=h1 y hy;rw[Gg sy hc];exact Fz 59 y x w v c A s sy hx hc hu
 ·rw[List.any_toArray,Qzv,h2,List.any_eq_true];constructor
  ·rintro⟨w,hw,e⟩;obtain⟨y,hy,sy⟩:=item w hw;obtain⟨c,hc⟩:=h1 y hy;rw[Gg sy hc] at e;subst e;exact⟨y,hy,hc⟩
  ·rintro⟨y,hy,e⟩;obtain⟨w,hw,sy⟩:=back hs y hy;exact⟨w,hw,Gg sy e⟩
def Hl:D->Option (List D)
 | .tup xs=>some xs
 | .lst xs=>some xs
 | .arr xs=>some xs
 | _=>none
def Pk(K:Fg)(neg:Bool):R2:=λx y H Q=>∃dx dy ys b,Rep K H dx x/\Rep K H dy y/\Hl dy=some ys/\Ff dx ys=some b/\Q (.bl (if neg then !b else b)) H
def ab3(hu:X.A.units+61<cLine):nZ X (compareOp .In) (Pk X.K false):=by
 intro pins s σ H x y v u Q I rx ry h;obtain⟨dx,dy,ys,b,h1,h2,h3,h4,q⟩:=h;have hx:=Rep.sh I dx x v h1 rx;have hy:=Rep.sh I dy y u h2 ry;have hin:X.A.in1.units+59<cLine:=by show X.A.units+1+59<cLine;omega
 cases dy with
 | tup zs=>
  cases h3;obtain⟨a,its,rfl,p,hs⟩:=hy;obtain⟨g1,g2⟩:=xx hx hs h4 hin;refine SeqAt.in_tupleAt (Ce s.heap dx) p g1 ⟨.bl _,H,I,rfl,?_⟩;rw[g2];exact q
 | lst zs=>
  cases h3;obtain⟨a,its,rfl,p,hs⟩:=hy;obtain⟨g1,g2⟩:=xx hx hs h4 hin;refine SeqAt.in_listAt (Ce s.heap dx) p.isList g1 ⟨.bl _,H,I,rfl,?_⟩;rw[g2];exact q
 | arr zs=>
  cases h3;obtain⟨a,its,rfl,p,hs⟩:=hy;obtain⟨g1,g2⟩:=xx hx hs h4 hin;refine SeqAt.in_listAt (Ce s.heap dx) p.isList g1 ⟨.bl _,H,I,rfl,?_⟩;rw[g2];exact q
 | _=>cases h3
def PK(hu:X.A.units+61<cLine):nZ X (compareOp .NotIn) (Pk X.K true):=by
 intro pins s σ H x y v u Q I rx ry h;obtain⟨dx,dy,ys,b,h1,h2,h3,h4,q⟩:=h;have hx:=Rep.sh I dx x v h1 rx;have hy:=Rep.sh I dy y u h2 ry;have hin:X.A.in1.units+59<cLine:=by show X.A.units+1+59<cLine;omega
 cases dy with
 | tup zs=>
  cases h3;obtain⟨a,its,rfl,p,hs⟩:=hy;obtain⟨g1,g2⟩:=xx hx hs h4 hin;refine SeqAt.notIn_tupleAt (Ce s.heap dx) p g1 ⟨.bl _,H,I,rfl,?_⟩;rw[g2];exact q
 | lst zs=>
  cases h3;obtain⟨a,its,rfl,p,hs⟩:=hy;obtain⟨g1,g2⟩:=xx hx hs h4 hin;refine SeqAt.notIn_listAt (Ce s.heap dx) p.isList g1 ⟨.bl _,H,I,rfl,?_⟩;rw[g2];exact q
 | arr zs=>
  cases h3;obtain⟨a,its,rfl,p,hs⟩:=hy;obtain⟨g1,g2⟩:=xx hx hs h4 hin;refine SeqAt.notIn_listAt (Ce s.heap dx) p.isList g1 ⟨.bl _,H,I,rfl,?_⟩;rw[g2];exact q
 | _=>cases h3
end
def qI.or(h:qI C r g)(h':qI C r' g'):qI C (λx y H Q=>r x y H Q\/r' x y H Q) (λx y=>(g x y).or (g' x y)):=by
 intro Pr F env σ H x y d vx vy Q rl hx hy e q;have e:(g x y).or (g' x y)=some d:=e;cases e1:g x y with
 | some c=>
  rw[e1] at e;cases e;exact .inl<|h Pr F env σ H x y d vx vy Q rl hx hy e1 q
 | none=>
  rw[e1] at e;exact .inr<|h' Pr F env σ H x y d vx vy Q rl hx hy e q
section
variable{X:Cx}{C:Cfg}
def Fv(x y:D):Option D:=match Hl y with
 | some ys=>(Ff x ys).map .bl
 | none=>none
def vH(x y:D):Option D:=match Hl y with
 | some ys=>(Ff x ys).map λb=>.bl (!b)
 | none=>none
def acn:qI C (Pk C.K false) Fv:=by
 intro Pr F env σ H x y d vx vy Q r hx hy h q;unfold Fv at h;cases e1:Hl y with
 | none=>rw[e1] at h;cases h
 | some ys=>
  rw[e1] at h;cases e:Ff x ys with
  | none=>simp only[e,Option.map_none] at h;cases h
  | some b=>
   simp[e,Qkv] at h;cases h;exact⟨x,y,ys,b,hx.rep r.fr,hy.rep r.fr,e1,e,q _ H F r (aQ.refl F) rfl⟩
def Qd:qI C (Pk C.K true) vH:=by
 intro Pr F env σ H x y d vx vy Q r hx hy h q;unfold vH at h;cases e1:Hl y with
 | none=>rw[e1] at h;cases h
 | some ys=>
  rw[e1] at h;cases e:Ff x ys with
  | none=>simp only[e,Option.map_none] at h;cases h
  | some b=>
   simp[e,Qkv] at h;cases h;exact⟨x,y,ys,b,hx.rep r.fr,hy.rep r.fr,e1,e,q _ H F r (aQ.refl F) rfl⟩
def ac0(x y:D):Option D:=match x,y with
 | .str [c],.str z=>some (.bl (decide (c∈z)))
 | _,_=>none
def Fq(x y:D):Option D:=match x,y with
 | .str [c],.str z=>some (.bl (!decide (c∈z)))
 | _,_=>none
abbrev aet:R2:=λx y H Q=>∃i j,x = .str i/\y = .str j/\Q (.bl (!(Builtin.Str.occurrences j i 0 j.length 1).isEmpty)) H
abbrev Mt:R2:=λx y H Q=>∃i j,x = .str i/\y = .str j/\Q (.bl (!(!(Builtin.Str.occurrences j i 0 j.length 1).isEmpty))) H
def one_sign(c)(z):(!(Builtin.Str.occurrences (strOf z) (strOf [c]) 0 (strOf z).length 1).isEmpty)=decide (c∈z):=by
 have:=StrLaws.found_one (strOf z) c;unfold strOf at this ⊢
 simpa using this
def ack:qI C aet ac0:=by
 intro Pr F env σ H x y d vx vy Q r hx hy h q;unfold ac0 at h;split at h
 ·rename_i c z;cases h;obtain⟨rfl,_⟩:=hx.str;obtain⟨rfl,_⟩:=hy.str;refine⟨_,_,rfl,rfl,?_⟩;rw[one_sign];exact q _ H F r (aQ.refl F) rfl
 ·cases h
def Qc:qI C Mt Fq:=by
 intro Pr F env σ H x y d vx vy Q r hx hy h q;unfold Fq at h;split at h
 ·rename_i c z;cases h;obtain⟨rfl,_⟩:=hx.str;obtain⟨rfl,_⟩:=hy.str;refine⟨_,_,rfl,rfl,?_⟩;rw[one_sign];exact q _ H F r (aQ.refl F) rfl
 ·cases h
def Bh(x y:D):Option D:=(Fv x y).or (ac0 x y)
def gQ(x y:D):Option D:=(vH x y).or (Fq x y)
abbrev aeu(K:Fg):R2:=λx y H Q=>Pk K false x y H Q\/aet x y H Q
abbrev Mu(K:Fg):R2:=λx y H Q=>Pk K true x y H Q\/Mt x y H Q
def ab4(hu:X.A.units+61<cLine):nZ X (compareOp .In) (aeu X.K):=(ab3 hu).or P0
def PL(hu:X.A.units+61<cLine):nZ X (compareOp .NotIn) (Mu X.K):=(PK hu).or Eu
def aeR:qI C (aeu C.K) Bh:=acn.or ack
def T7:qI C (Mu C.K) gQ:=Qd.or Qc
def isPlain(x:V):Prop:=x = .non\/∃b,x = .bl b
def ab2:nZ X (compareOp .Is) (λx y H Q=>isPlain y/\Q (.bl (decide (x=y))) H):=by
 intro pins s σ H x y v u Q I rx ry h;obtain⟨hp,q⟩:=h;rcases hp with rfl|⟨b,rfl⟩
 ·exact ab1 pins s σ H x .non v u Q I rx ry ⟨rfl,q⟩
 ·cases ry;refine wpAny_is_plain ?_<|uE I q ?_
  ·cases x<;>first|(cases rx;rfl)|(obtain⟨t,rfl⟩:=rx;rfl)
  ·cases x with
   | bl c=>cases rx;cases b<;>cases c<;>rfl
   | _=>first|(cases rx;rfl)|(obtain⟨t,rfl⟩:=rx;rfl)
def PQ:nZ X (compareOp .IsNot) (λx y H Q=>isPlain y/\Q (.bl (!decide (x=y))) H):=by
 intro pins s σ H x y v u Q I rx ry h;obtain⟨hp,q⟩:=h;rcases hp with rfl|⟨b,rfl⟩
 ·exact Xw pins s σ H x .non v u Q I rx ry ⟨rfl,q⟩
 ·cases ry;refine wpAny_isNot_plain ?_<|uE I q ?_
  ·cases x<;>first|(cases rx;rfl)|(obtain⟨t,rfl⟩:=rx;rfl)
  ·cases x with
   | bl c=>cases rx;cases b<;>cases c<;>rfl
   | _=>first|(cases rx;rfl)|(obtain⟨t,rfl⟩:=rx;rfl)
def isD:D->D->Option Bool
 | .non,.non=>some true
 | .bl a,.bl b=>some (a == b)
 | _,.non=>some false
 | _,.bl _=>some false
 | _,_=>none
def QZ(x y:D):Option D:=(isD x y).map .bl
def xC(x y:D):Option D:=(isD x y).map λb=>.bl (!b)
def aac(hx:jg C.K F H x vx)(hy:jg C.K F H y vy)(h:isD x y=some b):isPlain vy/\decide (vx=vy)=b:=by
 have agT:∀a,¬(V.ref a=V.non):=λa e=>by cases e
 cases y with
 | non=>
  obtain rfl:=hy.non;refine⟨.inl rfl,?_⟩;cases x with
  | non=>obtain rfl:=hx.non;simp[isD] at h;simp[h]
  | bl c=>obtain rfl:=hx.bl;simp[isD] at h;simp[h]
  | int i=>obtain rfl:=hx.int;simp[isD] at h;simp[h]
  | str z=>obtain⟨rfl,_⟩:=hx.str;simp[isD] at h;simp[h]
  | tup xs=>rcases hx with ⟨_,a,_,rfl,_⟩|⟨a,rfl,_⟩<;>(simp[isD] at h;simp[h])
  | lst xs=>rcases hx with ⟨_,a,_,rfl,_⟩|⟨a,rfl,_⟩<;>(simp[isD] at h;simp[h])
  | arr xs=>rcases hx with ⟨_,a,_,rfl,_⟩|⟨a,rfl,_⟩<;>(simp[isD] at h;simp[h])
  | dct xs=>rcases hx with ⟨_,a,_,rfl,_⟩|⟨a,rfl,_⟩<;>(simp[isD] at h;simp[h])
  | mZ xs=>rcases hx with ⟨_,a,_,rfl,_⟩|⟨a,rfl,_⟩<;>(simp[isD] at h;simp[h])
  | clo st xs=>rcases hx with ⟨a,_,rfl,_⟩|⟨a,rfl,_⟩<;>(simp[isD] at h;simp[h])
 | bl k=>
  obtain rfl:=hy.bl;refine⟨.inr ⟨k,rfl⟩,?_⟩;cases x with
  | non=>obtain rfl:=hx.non;simp[isD] at h;simp[h]
  | bl c=>obtain rfl:=hx.bl;simp[isD,Qw4] at h;rw[<-h,ade]
  | int i=>obtain rfl:=hx.int;simp[isD] at h;simp[h]
  | str z=>obtain⟨rfl,_⟩:=hx.str;simp[isD] at h;simp[h]
  | tup xs=>rcases hx with ⟨_,a,_,rfl,_⟩|⟨a,rfl,_⟩<;>(simp[isD] at h;simp[h])
  | lst xs=>rcases hx with ⟨_,a,_,rfl,_⟩|⟨a,rfl,_⟩<;>(simp[isD] at h;simp[h])
  | arr xs=>rcases hx with ⟨_,a,_,rfl,_⟩|⟨a,rfl,_⟩<;>(simp[isD] at h;simp[h])
  | dct xs=>rcases hx with ⟨_,a,_,rfl,_⟩|⟨a,rfl,_⟩<;>(simp[isD] at h;simp[h])
  | mZ xs=>rcases hx with ⟨_,a,_,rfl,_⟩|⟨a,rfl,_⟩<;>(simp[isD] at h;simp[h])
  | clo st xs=>rcases hx with ⟨a,_,rfl,_⟩|⟨a,rfl,_⟩<;>(simp[isD] at h;simp[h])
 | _=>cases x<;>simp[isD] at h
def aeQ:qI C (λx y H Q=>isPlain y/\Q (.bl (decide (x=y))) H) QZ:=by
 intro Pr F env σ H x y d vx vy Q r hx hy h q;unfold QZ at h;cases e:isD x y with
 | none=>rw[e] at h;cases h
 | some b=>
  rw[e] at h;cases h;obtain⟨h1,h2⟩:=aac hx hy e;exact⟨h1,by rw[h2];exact q _ H F r (aQ.refl F) rfl⟩
def T9:qI C (λx y H Q=>isPlain y/\Q (.bl (!decide (x=y))) H) xC:=by
 intro Pr F env σ H x y d vx vy Q r hx hy h q;unfold xC at h;cases e:isD x y with
 | none=>rw[e] at h;cases h
 | some b=>
  rw[e] at h;cases h;obtain⟨h1,h2⟩:=aac hx hy e;exact⟨h1,by rw[h2];exact q _ H F r (aQ.refl F) rfl⟩
def gI(c:Int->Int->Bool)(f:Int->Int->D)(x y:D):Option D:=match x,y with
 | .int i,.int j=>if c i j=true then some (f i j) else none
 | _,_=>none
def Ua(hc:∀i j,c i j=true->Cd i j)(hf:∀i j F,Rep C.K F (f i j) (g i j)):qI C (rI Cd g) (gI c f):=by
 intro Pr F env σ H x y d vx vy Q r hx hy h q;unfold gI at h;split at h
 ·rename_i i j;split at h
  ·rename_i hcc;cases h;obtain rfl:=hx.int;obtain rfl:=hy.int;exact⟨i,j,rfl,rfl,hc i j hcc,q _ H F r (aQ.refl F)<|hf i j F⟩
  ·cases h
 ·cases h
def MK(hf:∀i j F,Rep C.K F (f i j) (g i j)):qI C (Mv g) (gI (λ_ _=>true) f):=by
 intro Pr F env σ H x y d vx vy Q r hx hy h q;unfold gI at h;split at h
 ·rename_i i j;rw[if_pos rfl] at h;cases h;obtain rfl:=hx.int;obtain rfl:=hy.int;exact⟨i,j,rfl,rfl,q _ H F r (aQ.refl F)<|hf i j F⟩
 ·cases h
def j4(i j:Int):Bool:=decide (Builtin.Int.intBits i+Builtin.Int.intBits j<=134217728)
def Xx:nZ X (binaryOp .Mult) (rI (λi j=>j4 i j=true) λi j=>.int (i*j)):=
 opI λi j _ _ _ _ _ hc q=>mul_int q<|mulOk_of_bits (Qqy _) (Qqy _)<|Qww hc
def pJ:D->D->Option D:=gI j4 λi j=>.int (i*j)
def BV:D->D->Option D:=gI (λ_ _=>true) λi j=>.int (i - j)
def Qs:D->D->Option D:=gI (λ_ j=>decide (0<j)) λi j=>.int (i % j)
def K4:D->D->Option D:=gI (λi j=>decide (0<=j/\j<=1000000/\i.natAbs<2^64)) λi j=>.int (i^j.toNat)
def Qq:D->D->Option D:=gI (λi j=>decide (0<=j/\j<=1000000/\i.natAbs<2^64)) λi j=>.int (i*2^j.toNat)
def Fp:D->D->Option D:=gI (λ_ j=>decide (0<=j)) λi j=>.int (i / 2^j.toNat)
def Jc:D->D->Option D:=gI (λ_ _=>true) λi j=>.int (Builtin.bitAnd i j)
def acg:qI C (rI (λi j=>j4 i j=true) λi j=>.int (i*j)) pJ:=Ua (λ_ _ h=>h) λ_ _ _=>rfl
def acb:qI C (Mv λi j=>.int (i - j)) BV:=MK λ_ _ _=>rfl
def ach:qI C (rI (λ_ j=>0<j) λi j=>.int (i % j)) Qs:=Ua (λ_ _ h=>Qww h) λ_ _ _=>rfl
def acf:qI C (rI Ze λi j=>.int (i^j.toNat)) K4:=Ua (λi j h=>(show 0<=j/\j<=1000000/\i.natAbs<2^64 from Qww h)) λ_ _ _=>rfl
def ace:qI C (rI Ze λi j=>.int (i*2^j.toNat)) Qq:=Ua (λi j h=>(show 0<=j/\j<=1000000/\i.natAbs<2^64 from Qww h)) λ_ _ _=>rfl
def acd:qI C (rI (λ_ j=>0<=j) λi j=>.int (i / 2^j.toNat)) Fp:=Ua (λ_ _ h=>Qww h) λ_ _ _=>rfl
def aco:qI C (Mv λi j=>.int (Builtin.bitAnd i j)) Jc:=MK λ_ _ _=>rfl
abbrev aeo:R2:=λx y H Q=>∃i j,x = .str i/\y = .str j/\Q (.bl (decide (i.cps.toList<j.cps.toList))) H
def afA:D->D->Option D:=gI (λ_ _=>true) λi j=>.bl (decide (i<j))
def acY(x y:D):Option D:=match x,y with
 | .str a,.str b=>some (.bl (decide (a<b)))
 | _,_=>none
def gLt(x y:D):Option D:=(afA x y).or (acY x y)
def V2:D->D->Option D:=gI (λ_ _=>true) λi j=>.bl (decide (j<i))
def aci:qI C aeo acY:=by
 intro Pr F env σ H x y d vx vy Q r hx hy h q;unfold acY at h;split at h
 ·cases h;obtain⟨rfl,_⟩:=hx.str;obtain⟨rfl,_⟩:=hy.str;exact⟨_,_,rfl,rfl,q _ H F r (aQ.refl F) (by congr)⟩
 ·cases h
abbrev aep:R2:=λx y H Q=>Mv (λi j=>.bl (decide (i<j))) x y H Q\/aeo x y H Q
def ab0:nZ X (compareOp .Lt) aep:=aeL.or PN
def acj:qI C (Mv λi j=>.bl (decide (i<j))) afA:=MK λ_ _ _=>rfl
def aeP:qI C aep gLt:=acj.or aci
def aeS:qI C (Mv λi j=>.bl (decide (j<i))) V2:=MK λ_ _ _=>rfl
def Sw(K:Fg):R2:=λx y H Q=>∃a b ys,x = .ref a/\y = .ref b/\qM K H a []/\qM K H b ys/\Q (.ref b) H
def T3:nZ X (binaryOp .Add) (Sw X.K):=by
 intro pins s σ H x y v u Q I rx ry h;obtain⟨a,b,ys,rfl,rfl,ha,hb,q⟩:=h;cases rx;cases ry;obtain⟨its,r1,p1,_⟩:=I.tuple ha;obtain⟨its2,r2,p2,_⟩:=I.tuple hb;cases r1;obtain⟨⟨cls,dd,data,sl⟩,ho,hc,n,hd⟩:=id p1;obtain⟨⟨cls2,dd2,data2,sl2⟩,ho2,hc2,n2,hd2⟩:=id p2;simp at hc hd hc2 hd2;subst hc hd hc2 hd2;exact concat_meets ⟨_,ho,rfl⟩ ⟨_,ho2,rfl⟩ noFill_tuple_add seq_tuple_add PySem.F.slot_tuple_add PySem.F.entry_tuple_add (PySem.F.args_tuple_add_2 _ _)
  (tuple_addW0 a b [].toArray its2.toArray n n2 dd dd2 sl sl2 (by simp)) ⟨ho,ho2,⟨.ref b,H,I,rfl,q⟩⟩
abbrev aey:R2:=λx y H Q=>∃i j,x = .str i/\y = .str j/\i.length+j.length<=sizeLine/\Q (.str (i++j)) H
abbrev aez(K:Fg):R2:=λx y H Q=>Mv (λi j=>.int (i+j)) x y H Q\/aey x y H Q\/aex x y H Q\/ZP K x y H Q\/Sw K x y H Q
def Xz:nZ X (binaryOp .Add) (aez X.K):=ab8.or<|Kq.or<|ab6.or<|Xy.or T3
def bM(x y:D):Option D:=match x,y with
 | .int i,.int j=>some (.int (i+j))
 | .str a,.str b=>if a.length+b.length<=sizeLine then some (.str (a++b)) else none
 | .lst a,.lst b=>if a.length+b.length<=sizeLine then some (.lst (a++b)) else none
 | .tup a,.tup b=>if a.length+b.length<=sizeLine then some (.tup (a++b)) else none
 | _,_=>none
def gM(a b):strOf a++strOf b=strOf (a++b):=by show(⟨(strOf a).cps++(strOf b).cps⟩:Str)=_;unfold strOf;simp
def aO(a):(strOf a).length=a.length:=by show a.toArray.size=a.length;simp
def acp:qI C (aez C.K) bM:=by
 intro Pr F env σ H x y d vx vy Q r hx hy h q;unfold bM at h;split at h
 ·cases h;obtain rfl:=hx.int;obtain rfl:=hy.int;exact .inl ⟨_,_,rfl,rfl,q _ H F r (aQ.refl F) rfl⟩
 ·split at h
  ·rename_i hz;cases h;obtain⟨rfl,_⟩:=hx.str;obtain⟨rfl,_⟩:=hy.str;refine .inr<|.inl ⟨_,_,rfl,rfl,by rw[aO,aO];exact hz,?_⟩;rw[gM];exact q _ H F r (aQ.refl F) ⟨rfl,by rw[Qqz];exact hz⟩
  ·cases h
 ·split at h
  ·rename_i hz;cases h;obtain⟨_,a,vs,rfl,h1,h2⟩:=hx.lst r.fr;obtain⟨_,b,ws,rfl,h3,h4⟩:=hy.lst r.fr;refine .inr<|.inr<|.inl ⟨a,b,vs,ws,rfl,rfl,h1,h3,by rw[h2.length,h4.length];exact hz,λp hp=>?_⟩;obtain⟨r2,s2⟩:=r.new hp;exact q _ _ _ r2 s2 ⟨by rw[Qqz];exact hz,p,_,rfl,aY,bL.mono s2 _ _<|h2.append h4⟩
  ·cases h
 ·split at h
  ·rename_i hz;cases h;obtain⟨z1,a,vs,rfl,h1,f1,h2⟩:=hx.tup r.fr;obtain⟨z2,b,ws,rfl,h3,f3,h4⟩:=hy.tup r.fr;by_cases hv:vs=[]
   ·subst hv;have e1:=h2.length.symm;have e2:=Qjx e1;subst e2;refine .inr<|.inr<|.inr<|.inr ⟨a,b,ws,rfl,rfl,h1,h3,?_⟩;exact q _ H F r (aQ.refl F) ⟨z2,b,ws,rfl,f3,h4⟩
   ·refine .inr<|.inr<|.inr<|.inl ⟨a,b,vs,ws,rfl,rfl,h1,h3,hv,by rw[h2.length,h4.length];exact hz,λhw=>?_,λhw p hp=>?_⟩
    ·subst hw;have e1:=h4.length.symm;have e2:=Qjx e1;subst e2;rw[Qx4] at q;exact q _ H F r (aQ.refl F) ⟨z1,a,vs,rfl,f1,h2⟩
    ·obtain⟨r2,s2⟩:=r.new hp;exact q _ _ _ r2 s2 ⟨by rw[Qqz];exact hz,p,_,rfl,qM.of aY,bL.mono s2 _ _<|h2.append h4⟩
  ·cases h
 ·cases h
def Jy(K:Fg)(F H:Hp):List D->List V->Prop
 | [],vs=>vs=[]
 | d::ds,vs=>∃v r,vs=v::r/\jg K F H d v/\Jy K F H ds r
def tAB(C:Cfg)(ev:dG):TA:=λσ H Q=>∃(Pr F:Hp) (env env':Env) (ds:List D),Rel C Pr F env σ H/\ev env = .ok ds env'/\
 ∀vs H' F',Rel C Pr F' env' σ H'->aQ F F'->Jy C.K F' H' ds vs->Q vs H'
def Y9(X:Cx)(C:Cfg)(es:List Expr)(ev:dG):Prop:=PA X es (tAB C ev)
def CallD(C:Cfg)(r:List V->Hp->VK->Prop)(g:List D->Option D):Prop:=∀(Pr F:Hp) (env:Env) (σ:L2.St) (H:Hp) (ds:List D) (d:D) (vs:List V) (Q:VK),Rel C Pr F env σ H->Jy C.K F H ds vs->g ds=some d->
 (∀v H' F',Rel C Pr F' env σ H'->aQ F F'->Rep C.K F' d v->Q v H')->r vs H Q
def ao(g:List D->Option D)(a:dG):Ev:=λenv=>bindR (a env) λds aD=>gB (g ds) aD
def Od(o:CallD C r g)(σ)(H)(Q)(h:tE C (ao g a) σ H Q):tCB r (tAB C a) σ H Q:=by obtain⟨Pr,F,env,env',d,rl,e,q⟩:=h;obtain⟨ds,aD,e1,e2⟩:=aR e;obtain⟨e3,rfl⟩:=cF e2;exact⟨Pr,F,env,env',ds,rl,e1,λvs H1 F1 r1 s1 p1=>o Pr F1 env' σ H1 ds d vs Q r1 p1 e3 λv H2 F2 r2 s2 p2=>q v H2 F2 r2 (s1.trans s2) p2⟩
def pD{p pos:Pos}{id:String}(hc:ik X (.builtin id) r)(o:CallD C r g)(hg:Gl X x)(hm:X.mg x=none)(hv:bootBuiltins x=some (.builtin id))(ha:Y9 X C (e::es) a)
  (hn:x ≠ "__name__":=by decide) (hdb:lr x:=by decide) (he:starEach (e::es) X.env=(false,eval e X.env)::starEach es X.env:=by rfl) (hpl:(backTo pos (starEach es X.env)).any (·.1)=false:=by rfl) :
  PX X C (.Call (.Name x p) (e::es) [] pos) (ao g a):=(uZ hc hg hm hv ha hn hdb he hpl).imp<|Od o
def sS{p pos:Pos}(hc:ik X (.type T) r)(o:CallD C r g)(hg:Gl X x)(hm:X.mg x=none)(hv:bootBuiltins x=some (.type T))(ha:Y9 X C (e::es) a)
  (hn:x ≠ "__name__":=by decide) (hdb:lr x:=by decide) (he:starEach (e::es) X.env=(false,eval e X.env)::starEach es X.env:=by rfl) (hpl:(backTo pos (starEach es X.env)).any (·.1)=false:=by rfl) :
  PX X C (.Call (.Name x p) (e::es) [] pos) (ao g a):=(xg hc hg hm hv ha hn hdb he hpl).imp<|Od o
def lJ{K:Fg}(h:Jy K F H [d] vs):∃v,vs=[v]/\jg K F H d v:=by obtain⟨v,r,rfl,h1,h2⟩:=h;cases h2;exact⟨v,rfl,h1⟩
def Lh{K:Fg}(h:Jy K F H [d,e] vs):∃v w,vs=[v,w]/\jg K F H d v/\jg K F H e w:=by obtain⟨v,r,rfl,h1,h2⟩:=h;obtain⟨w,rfl,h3⟩:=lJ h2;exact⟨v,w,rfl,h1,h3⟩
def cT:List D->Option D
 | [.str x]=>some (.int x.length)
 | [.tup xs]=>some (.int xs.length)
 | [.lst xs]=>some (.int xs.length)
 | [.arr xs]=>some (.int xs.length)
 | _=>none
def ado:CallD C (λxs H Q=>∃x n,xs=[x]/\afW C.K x H n/\Q (.int n) H) cT:=by
 intro Pr F env σ H ds d vs Q r hs h q;unfold cT at h;split at h
 ·cases h;obtain⟨v,rfl,hv⟩:=lJ hs;obtain⟨rfl,hz⟩:=hv.str;exact⟨_,_,rfl,⟨by rw[aO];exact hz,(aO _).symm⟩,q _ H F r (aQ.refl F) rfl⟩
 ·cases h;obtain⟨v,rfl,hv⟩:=lJ hs;obtain⟨_,a,ws,rfl,h1,_,h2⟩:=hv.tup r.fr;exact⟨_,_,rfl,.inr ⟨ws,h1,h2.length.symm⟩,q _ H F r (aQ.refl F) rfl⟩
 ·cases h;obtain⟨v,rfl,hv⟩:=lJ hs;obtain⟨_,a,ws,rfl,h1,h2⟩:=hv.lst r.fr;exact⟨_,_,rfl,.inl ⟨ws,mR.of h1,h2.length.symm⟩,q _ H F r (aQ.refl F) rfl⟩
 ·cases h;obtain⟨v,rfl,hv⟩:=lJ hs;obtain⟨_,a,ws,rfl,h1,h2⟩:=hv.arr r.fr;exact⟨_,_,rfl,.inl ⟨ws,h1,h2.length.symm⟩,q _ H F r (aQ.refl F) rfl⟩
 ·cases h
def fX:List D->Option D
 | [.tup xs]=>some (.tup xs)
 | [.lst xs]=>some (.tup xs)
 | _=>none
abbrev R8(K:Fg):List V->Hp->VK->Prop:=λxs H Q=>∃p ys,xs=[.ref p]/\((mR K H p ys/\∀l,H l=none->Q (.ref l) (upd H l (.tup ys)))\/(qM K H p ys/\Q (.ref p) H))
def Vt:CallD C (R8 C.K) fX:=by
 intro Pr F env σ H ds d vs Q r hs h q;unfold fX at h;split at h
 ·cases h;obtain⟨v,rfl,hv⟩:=lJ hs;obtain⟨z,a,ws,rfl,h1,f1,h2⟩:=hv.tup r.fr;exact⟨a,ws,rfl,.inr ⟨h1,q _ H F r (aQ.refl F) ⟨z,a,ws,rfl,f1,h2⟩⟩⟩
 ·cases h;obtain⟨v,rfl,hv⟩:=lJ hs;obtain⟨z,a,ws,rfl,h1,h2⟩:=hv.lst r.fr;refine⟨a,ws,rfl,.inl ⟨mR.of h1,λl hl=>?_⟩⟩;obtain⟨r2,s2⟩:=r.new hl;exact q _ _ _ r2 s2 ⟨z,l,ws,rfl,qM.of aY,bL.mono s2 _ _ h2⟩
 ·cases h
def signs(x:List Nat):List D:=x.map λc=>.str [c]
abbrev Ss:List V->Hp->VK->Prop:=λxs H Q=>∃z,xs=[.str z]/\z.length<=sizeLine/\∀l,H l=none->Q (.ref l) (upd H l (.lst (z.cps.toList.map λc=>V.str ⟨#[c]⟩)))
def Lf(hh:X.calm=true):ik X (.type "list") Ss:=by
 intro pins s σ H xs us Q I r h;obtain⟨z,rfl,hz,q⟩:=h;obtain⟨u,rfl,⟨t,rfl⟩⟩:=vals1 r;refine call_list_str (I.ok.hd hh) z t (λh' tk acc' c' kp e hacc=>?_) hz;refine⟨.ref s.heap.objs.size,_,I.laid kp (Qqy _)<|show gf X.prog X.w _ h' _ (.lst<|z.cps.toList.map λc=>V.str ⟨#[c]⟩) from⟨?_,acc'.toList,c',?_,by simpa using e⟩,rfl,q _<|I.hok.fresh<|Qqy _⟩
 ·simpa[Str.length] using hz
 ·obtain⟨hsz,hit⟩:=hacc;have go:∀(cs:List Nat) vs,vs.length=cs.length->(∀(j:Nat) v,vs[j]? = some v->∃c u,cs[j]? = some c/\v=Value.str ⟨#[c]⟩ u)->Vals (cs.map λc=>V.str ⟨#[c]⟩) vs:=by
   intro cs
   induction cs with
   | nil=>intro vs hl _;rw[Qjx hl];exact .nil
   | cons c cs ih=>
    intro vs hl hv;cases vs with
    | nil=>simp at hl
    | cons v vs=>
     obtain⟨c',u,e1,e2⟩:=hv 0 v rfl;simp at e1;subst e1 e2;exact .cons ⟨u,rfl⟩<|ih vs (by simpa using hl) λj w hw=>by simpa using hv (j+1) w (by simpa using hw)
  refine go _ _ (by simpa using hsz) λj v hv=>?_;obtain⟨c,u,e1,e2⟩:=hit j v (by simpa using hv);exact⟨c,u,by simpa using e1,e2⟩
def Dj:List D->Option D
 | [.tup xs]=>some (.lst xs)
 | [.lst xs]=>some (.lst xs)
 | [.str x]=>some (.lst (signs x))
 | _=>none
abbrev Su(K:Fg):List V->Hp->VK->Prop:=λxs H Q=>(∃p ys,xs=[.ref p]/\(mR K H p ys\/qM K H p ys)/\∀l,H l=none->Q (.ref l) (upd H l (.lst ys)))\/Ss xs H Q
def Lg(hh:X.calm=true):ik X (.type "list") (Su X.K):=FW.or<|Lf hh
theorem ur{K:Fg}:∀x,bL K F (signs x) (x.map λc=>V.str ⟨#[c]⟩)
 | []=>rfl
 | c::x=>⟨_,_,rfl,⟨rfl,by rw[Qk5];simp⟩,ur x⟩
def YB:CallD C (Su C.K) Dj:=by
 intro Pr F env σ H ds d vs Q r hs h q;unfold Dj at h;split at h
 ·cases h;obtain⟨v,rfl,hv⟩:=lJ hs;obtain⟨z,a,ws,rfl,h1,f1,h2⟩:=hv.tup r.fr;refine .inl ⟨a,ws,rfl,.inr h1,λl hl=>?_⟩;obtain⟨r2,s2⟩:=r.new hl;exact q _ _ _ r2 s2 ⟨z,l,ws,rfl,aY,bL.mono s2 _ _ h2⟩
 ·cases h;obtain⟨v,rfl,hv⟩:=lJ hs;obtain⟨z,a,ws,rfl,h1,h2⟩:=hv.lst r.fr;refine .inl ⟨a,ws,rfl,.inl<|mR.of h1,λl hl=>?_⟩;obtain⟨r2,s2⟩:=r.new hl;exact q _ _ _ r2 s2 ⟨z,l,ws,rfl,aY,bL.mono s2 _ _ h2⟩
 ·rename_i x;cases h;obtain⟨v,rfl,hv⟩:=lJ hs;obtain⟨rfl,hz⟩:=hv.str;refine .inr ⟨_,rfl,by rw[aO];exact hz,λl hl=>?_⟩;obtain⟨r2,s2⟩:=r.new hl;refine q _ _ _ r2 s2 ⟨by simpa[signs] using hz,l,_,rfl,aY,?_⟩;have e:(strOf x).cps.toList=x:=by simp[strOf]
  rw[e];exact ur x
 ·cases h
def Qu:List D->Option D
 | [.int i,.int j]=>some (.int (if j > i then j else i))
 | _=>none
def Qt:List D->Option D
 | [.int i,.int j]=>some (.int (if j<i then j else i))
 | _=>none
def adn:CallD C (λxs H Q=>∃i j,xs=[.int i,.int j]/\Q (.int (if j > i then j else i)) H) Qu:=by
 intro Pr F env σ H ds d vs Q r hs h q;unfold Qu at h;split at h
 ·cases h;obtain⟨v,w,rfl,hv,hw⟩:=Lh hs;obtain rfl:=hv.int;obtain rfl:=hw.int;exact⟨_,_,rfl,q _ H F r (aQ.refl F) rfl⟩
 ·cases h
def adm:CallD C (λxs H Q=>∃i j,xs=[.int i,.int j]/\Q (.int (if j<i then j else i)) H) Qt:=by
 intro Pr F env σ H ds d vs Q r hs h q;unfold Qt at h;split at h
 ·cases h;obtain⟨v,w,rfl,hv,hw⟩:=Lh hs;obtain rfl:=hv.int;obtain rfl:=hw.int;exact⟨_,_,rfl,q _ H F r (aQ.refl F) rfl⟩
 ·cases h
def vI:List D->Option D
 | [.int i,.int j]=>if 0<j/\j<1073741824 then some (.tup [.int (i / j),.int (i % j)]) else none
 | _=>none
def QC:CallD C (λxs H Q=>∃i j,xs=[.int i,.int j]/\afY i j/\∀p,H p=none->Q (.ref p) (upd H p (.tup [.int (i / j),.int (i % j)]))) vI:=by
 intro Pr F env σ H ds d vs Q r hs h q;unfold vI at h;split at h
 ·split at h
  ·rename_i hj;cases h;obtain⟨v,w,rfl,hv,hw⟩:=Lh hs;obtain rfl:=hv.int;obtain rfl:=hw.int;refine⟨_,_,rfl,hj,λp hp=>?_⟩;obtain⟨r2,s2⟩:=r.new hp;exact q _ _ _ r2 s2 ⟨by rw[Qk5];simp,p,_,rfl,qM.of aY,⟨_,_,rfl,rfl,_,_,rfl,rfl,rfl⟩⟩
  ·cases h
 ·cases h
def Wl:D->String
 | .non=>"NoneType"
 | .bl _=>"bool"
 | .int _=>"int"
 | .str _=>"str"
 | .tup _=>"tuple"
 | .lst _=>"list"
 | .arr _=>"list"
 | .dct _=>"dict"
 | .mZ _=>"dict"
 | .clo _ _=>"NoneType"
def vz(d:D)(T:String):Bool:=Wl d == T||(Wl d == "bool" && T == "int")
def acP(Jz:X.K.In s.heap)(nc:∀st ds,d ≠ .clo st ds)(h:Sh s.heap d u)(e:PySem.W.kitOne X.K (.type (Wl d)) c=some b)(q:∀tk,Q (.bool b) { s with toks:=tk }) :
  wpAny (model X.prog X.w) A (call (.builtin "isinstance") [u,c]) Q E s:=by
 cases d with
 | non=>cases h;exact PySem.W.kia_one PySem.W.kitx_none Jz True.intro e (λz=>nomatch z) q
 | bl y=>cases h;exact PySem.W.kia_one PySem.W.kitx_bool Jz True.intro e (λz=>nomatch z) q
 | int i=>obtain⟨t,rfl⟩:=h;exact PySem.W.kia_one PySem.W.kitx_int Jz True.intro e (λz=>nomatch z) q
 | str y=>obtain⟨t,rfl⟩:=h;exact PySem.W.kia_one PySem.W.kitx_str Jz True.intro e (λz=>nomatch z) q
 | tup xs=>
  obtain⟨a,its,rfl,p,_⟩:=h;obtain⟨o,h1,h2,_⟩:=p;exact PySem.W.kia_one PySem.W.kitx_tuple Jz ⟨o,h1,h2⟩ e (λz=>nomatch z) q
 | lst xs=>
  obtain⟨a,its,rfl,p,_⟩:=h;obtain⟨o,h1,h2,_⟩:=p.isList;exact PySem.W.kia_one PySem.W.kitx_list Jz ⟨o,h1,h2⟩ e (λz=>nomatch z) q
 | arr xs=>
  obtain⟨a,its,rfl,p,_⟩:=h;obtain⟨o,h1,h2,_⟩:=p.isList;exact PySem.W.kia_one PySem.W.kitx_list Jz ⟨o,h1,h2⟩ e (λz=>nomatch z) q
 | dct kvs=>
  obtain⟨a,o,rfl,h1,h2⟩:=h;exact PySem.W.kia_one PySem.W.kitx_dict Jz ⟨o,h1,h2.1⟩ e (λz=>nomatch z) q
 | mZ kvs=>
  obtain⟨a,o,rfl,h1,h2⟩:=h;exact PySem.W.kia_one PySem.W.kitx_dict Jz ⟨o,h1,h2.1⟩ e (λz=>nomatch z) q
 | clo st ds=>exact(nc st ds rfl).elim
def xB(T:String)(d:D):Option D:=match d with
 | .clo _ _=>none
 | _=>some (.bl (vz d T))
def Yh(h:xB T d=some e):(∀st ds,d ≠ .clo st ds)/\e = .bl (vz d T):=by cases d<;>simp[xB] at h<;>exact⟨λ_ _ z=>(by cases z),h.symm⟩
theorem Vw(hk:∀d,PySem.W.kitOne X.K (.type (Wl d)) (.type T)=some (vz d T)) :
  ik X (.builtin "isinstance") (λxs H Q=>∃d x,xs=[x,.ty T]/\(∀st ds,d ≠ .clo st ds)/\Rep X.K H d x/\Q (.bl (vz d T)) H):=by
 intro pins s σ H xs us Q I r h;obtain⟨d,x,rfl,nc,hr,q⟩:=h;obtain⟨u,w,rfl,r1,r2⟩:=vals2 r;cases r2;exact acP I.JB nc (Rep.sh I d x u hr r1) (hk d) λtk=>⟨.bl _,H,I.tok tk,rfl,q⟩
def rZ:List D->Option (List Bool)
 | []=>some []
 | .bl b::r=>(rZ r).map (b :: ·)
 | _=>none
theorem Ht{K:Fg}:∀{ds} {bs} {vs},rZ ds=some bs->bL K F ds vs->vs=bs.map V.bl
 | [],bs,vs,h,hr=>by simp[rZ] at h;subst h;cases hr;rfl
 | d::ds,bs,vs,h,hr=>by
  obtain⟨v,r,rfl,h1,h2⟩:=hr;cases d with
  | bl b=>
   simp only[rZ] at h;cases e:rZ ds with
   | none=>rw[e] at h;cases h
   | some cs=>
    rw[e] at h;cases h;cases h1;rw[Ht e h2]
    rfl
  | _=>simp[rZ] at h
theorem GJ:∀{bs:List Bool} {us},Vals (bs.map V.bl) us->us=bs.map Value.bool
 | [],_,.nil=>rfl
 | b::bs,_,.cons r t=>by
  cases r;rw[GJ t]
  rfl
def Cg(bs:List Bool):(List.range bs.length).all (λi=>bs.getD i true)=bs.all id:=by
 induction bs with
 | nil=>rfl
 | cons b bs ih=>
  rw[Qq1,List.range_succ_eq_map,List.all_cons,List.all_map,List.all_cons];simp[List.getD_cons_zero,id]
  congr 1
def QK(hc:X.calm=true):ik X (.builtin "all") (λxs H Q=>∃(p:Addr) (bs:List Bool),xs=[.ref p]/\mR X.K H p (bs.map V.bl)/\Q (.bl (bs.all id)) H):=by
 intro pins s σ H xs us Q I r h;obtain⟨p,bs,rfl,hq,q⟩:=h;obtain⟨u,rfl,rx⟩:=vals1 r;cases rx;obtain⟨its,rv,pl,_⟩:=I.list hq;have e:=GJ rv;subst e;refine call_all_walk<|wpAny_pyIter_list pl.isList ?_;have hlt:p<s.heap.objs.size:=by obtain⟨o,e,_⟩:=pl.isList;exact Qq9 e
 refine⟨s.heap.objs.size,_,_,_,_,_,λi=>bs.getD i true,rfl,Walks.list (show X.A.in1.handled=none from I.ok.hd hc) s.heap.objs.size p (Qwj hlt) (bs.map Value.bool).toArray,⟨⟨_,Qq4 _ rfl,rfl,rfl⟩,by obtain⟨o,e,rr⟩:=pl.isList;exact⟨o,Qqx _ e,rr⟩⟩,?_,λh' tk hk=>?_⟩
 ·intro i v s' Q' E' hv hq';have hv:=hv;rw[List.getElem?_toArray,Qx3] at hv;cases hb:bs[i]? with
  | none=>rw[hb] at hv;cases hv
  | some b=>
   rw[hb] at hv;cases hv;refine wpAny_truthy_bool ?_;have this:bs.getD i true=b:=by simp[Qx7,hb]
   have hq':Q' (bs.getD i true) s':=hq'
   rwa [this] at hq'
 ·have I1:Inv X pins σ H { s with heap:=h',toks:=tk }:=I.kept λb o e=>hk b o (by simp;exact Qwj<|Qq9 e)<|Qqx _ e;refine⟨.bl _,H,I1,rfl,?_⟩;have e2:(bs.map Value.bool).toArray.size=bs.length:=by simp
  rw[e2,Cg];exact q
def qw:List D->Option D
 | [.lst ds]=>(rZ ds).map λbs=>.bl (bs.all id)
 | _=>none
def adp:CallD C (λxs H Q=>∃(p:Addr) (bs:List Bool),xs=[.ref p]/\mR C.K H p (bs.map V.bl)/\Q (.bl (bs.all id)) H) qw:=by
 intro Pr F env σ H ds d vs Q r hs h q;unfold qw at h;split at h
 ·rename_i es;cases e:rZ es with
  | none=>rw[e] at h;cases h
  | some bs=>
   rw[e] at h;cases h;obtain⟨v,rfl,hv⟩:=lJ hs;obtain⟨z,a,ws,rfl,h1,h2⟩:=hv.lst r.fr;have e2:=Ht e h2;subst e2;exact⟨a,bs,rfl,mR.of h1,q _ H F r (aQ.refl F) rfl⟩
 ·cases h
def fJ:List D->Option (List (List Nat))
 | []=>some []
 | .str x::r=>(fJ r).map (x :: ·)
 | _=>none
def bG(sep:List Nat):List (List Nat)->List Nat
 | []=>[]
 | x::r=>r.foldl (λacc y=>acc++sep++y) x
def zY(sep)(xs):Txt.join (strOf sep) (xs.map strOf)=strOf (bG sep xs):=by
 unfold Txt.join;unfold Builtin.Str.glued;cases xs with
 | nil=>rfl
 | cons x r=>
  show⟨(r.map strOf).foldl (λacc p=>acc++(strOf sep).cps++p.cps) (strOf x).cps⟩=strOf (r.foldl (λacc y=>acc++sep++y) x);have go:∀(r:List (List Nat)) x,(r.map strOf).foldl (λacc p=>acc++(strOf sep).cps++p.cps) (strOf x).cps=(strOf<|r.foldl (λacc y=>acc++sep++y) x).cps:=by
   intro r
   induction r with
   | nil=>intro x;rfl
   | cons y r ih=>
    intro x;rw[Qq7,Qxy,Qxy];rw[<-ih (x++sep++y)]
    congr 1
    simp[strOf]
  rw[go]
theorem mX{K:Fg}:∀{ds} {xs} {vs},fJ ds=some xs->bL K F ds vs->vs=xs.map λx=>V.str (strOf x)
 | [],bs,vs,h,hr=>by simp[fJ] at h;subst h;cases hr;rfl
 | d::ds,bs,vs,h,hr=>by
  obtain⟨v,r,rfl,h1,h2⟩:=hr;cases d with
  | str b=>
   simp only[fJ] at h;cases e:fJ ds with
   | none=>rw[e] at h;cases h
   | some cs=>
    rw[e] at h;cases h;cases h1.1;rw[mX e h2]
    rfl
  | _=>simp[fJ] at h
theorem o9:∀{xs:List (List Nat)} {us},Vals (xs.map λx=>V.str (strOf x)) us->StrsAre us (xs.map strOf)
 | [],_,.nil=>.nil
 | x::xs,_,.cons r t=>by
  obtain⟨k,rfl⟩:=r;exact .cons _ k<|o9 t
def joinFits(sep:List Nat)(xs:List (List Nat)):Bool:=decide ((xs.map List.length).sum+xs.length*sep.length<=16777216)
def rJoin(K:Fg):V->List V->Hp->VK->Prop:=λx vs H Q=>∃sep xs p,x = .str (strOf sep)/\vs=[.ref p]/\mR K H p (xs.map λx=>V.str (strOf x))/\joinFits sep xs=true/\Q (.str (strOf (bG sep xs))) H
def XM:MtR X "str.join" (rJoin X.K):=by
 intro pins s σ H x vs v us Q I rx rv h;obtain⟨sep,xs,p,rfl,rfl,hq,hf,q⟩:=h;obtain⟨t,rfl⟩:=rx;obtain⟨u,rfl,ru⟩:=vals1 rv;cases ru;obtain⟨its,r,pl,_⟩:=I.list hq;have hs:=o9 r;refine join_list pl.isList (by simpa using hs) ?_ λt' k=>?_
 ·have hf':=Qww hf;have e:((xs.map strOf).map (·.length))=xs.map List.length:=by
   rw[Qw6];apply Qx9;intro z _;exact aO z
  rw[e,aO,Qqj];exact hf'
 ·rw[zY];exact⟨.str _,H,I.tok k,⟨t',rfl⟩,q⟩
theorem qY(sep):∀(r:List (List Nat)) x,(r.foldl (λacc y=>acc++sep++y) x).length=x.length+(r.map List.length).sum+r.length*sep.length
 | [],x=>by simp
 | y::r,x=>by
  rw[Qxy,qY sep r,Qqz,Qqz,Qq7,Qj0,Qq1,Nat.add_mul];omega
def Im(h:joinFits sep xs=true):(bG sep xs).length<=sizeLine:=by
 have h':=Qww h;rw[Qk5];cases xs with
 | nil=>simp[bG]
 | cons x r=>
  show(r.foldl (λacc y=>acc++sep++y) x).length<=_;rw[qY];rw[Qq7,Qj0,Qq1,Nat.add_mul] at h';omega
def lV(x y:D):Option D:=match x,y with
 | .str sep,.lst ds=>(match fJ ds with
  | some xs=>if joinFits sep xs=true then some (.str (bG sep xs)) else none
  | none=>none)
 | _,_=>none
def Xc{apos cpos:Pos}(hK:X.K=C.K)(ho:PX X C o a)(he:Q4 X C e b)(hbase:attributeBase o "join" X.env (eval o X.env)=eval o X.env:=by rfl)
  (hs:Bg e X.env:=by rfl)
  (hfew:((backTo cpos (starEach [e] X.env)).all (λx=>!x.1)&&(backToKw cpos (keywordEach [] X.env)).all (λx=>x.1.isSome)
   && decide ([e].length+([]:List Keyword).length+(if ([]:List Keyword).isEmpty then 0 else 1)<30))=true:=by rfl)
  (hline:(apos.endLine == cpos.line)=true:=by rfl) (hplain:(backTo cpos (starEach [] X.env)).any (·.1)=false:=by rfl) :
  PX X C (.Call (.Attribute o "join" apos) [e] [] cpos) (au lV a b):=by
 refine(xU PySem.F.plainAttrs_str PySem.F.slot_str_join PySem.F.type_str_join XM ho (fD he jM hs) hbase hfew hline hs hplain).imp λσ H Q h=>?_;obtain⟨Pr,F,env,env',d,rl,e0,q⟩:=h;obtain⟨x,aD,e1,e2⟩:=aR e0;obtain⟨y,fH,e3,e4⟩:=aR e2;obtain⟨e5,rfl⟩:=cF e4;unfold lV at e5;split at e5
 ·rename_i sep ds;split at e5
  ·rename_i xs hxs;split at e5
   ·rename_i hf;cases e5;refine⟨Pr,F,env,aD,_,rl,e1,λvx H1 F1 r1 s1 p1=>?_⟩;obtain⟨rfl,_⟩:=p1;refine⟨rfl,Pr,F1,aD,env',_,r1,e3,λvy H2 F2 r2 s2 p2=>?_⟩;obtain⟨z,l,ws,rfl,h1,h2⟩:=p2.lst r2.fr;have e6:=mX hxs h2;subst e6;exact⟨sep,xs,l,rfl,rfl,mR.of h1,hf,q _ H2 F2 r2 (s1.trans s2) ⟨rfl,Im hf⟩⟩
   ·cases e5
  ·cases e5
 ·cases e5
end
def Rel.put(r:Rel C Pr F env σ H)(hfx:C.fx i=none)(p:Rep C.K F d v):Rel C Pr F (env.set i (some (false,d))) (σ.set i (some v)) H:=by
 refine⟨r.pr,r.fr,by rw[Qxw,Qxw];exact r.len,λj e he=>?_,λj e he=>?_,λj k e f b hj hk g1 g2=>?_,r.dj,λj a hj=>?_⟩
 ·by_cases hji:j=i
  ·subst hji;have hl:j<env.length:=by
    have:=(Qwq.mp he).1
    rwa [Qxw] at this
   rw[Qwz hl] at he;cases he;exact⟨v,Qwz (by rw[<-r.len];exact hl),p⟩
  ·rw[Qq6 (Ne.symm hji)] at he ⊢;exact r.val j e he
 ·by_cases hji:j=i
  ·subst hji;have hl:j<env.length:=by
    have:=(Qwq.mp he).1
    rwa [Qxw] at this
   rw[Qwz hl] at he;cases he
  ·rw[Qq6 (Ne.symm hji)] at he ⊢;exact r.own j e he
 ·have nn:∀j e,(env.set i<|some (false,d))[j]? = some (some (true,e))->j≠i:=λj e he z=>by
   subst z;have hl:j<env.length:=by
    have:=(Qwq.mp he).1
    rwa [Qxw] at this
   rw[Qwz hl] at he;cases he
  have nj:=nn j e hj;have nk:=nn k f hk;rw[Qq6 (Ne.symm nj)] at hj g1;rw[Qq6 (Ne.symm nk)] at hk g2;exact r.apart j k e f b hj hk g1 g2
 ·have hji:j≠i:=λz=>by rw[z,hfx] at hj;cases hj
  rw[Qq6 (Ne.symm hji)];exact r.fix j a hj
structure VN(K:Fg)(Pr F:Hp)(env:Env)(σ:L2.St)(H:Hp)(d:D)(a:Addr):Prop where
 own:kj K F H d a
 nF:F a=none
 nP:Pr a=none
 ap:∀(j:Nat) (e:D),env[j]? = some (some (true,e))->σ[j]? = some (some (V.ref a))->False
def VN.of(r:Rel C Pr F env σ H)(h:H a=none)(ho:kj C.K F (upd H a o) d a):VN C.K Pr F env σ (upd H a o) d a:=
 ⟨ho,r.fr.free h,r.pr.free h,λj e he hs=>by
  obtain⟨b,h1,h2,_⟩:=r.own j e he;rw[hs] at h1;cases h1;obtain⟨u,hu⟩:=h2.some;rw[h] at hu;cases hu⟩
def Rel.Tg(r:Rel C Pr F env σ H)(hfx:C.fx i=none)(n:VN C.K Pr F env σ H d a):Rel C Pr F (env.set i (some (true,d))) (σ.set i (some (.ref a))) H:=by
 have same:∀j x,(env.set i<|some (true,d))[j]? = some (some x)->j=i->x=(true,d)/\j<env.length:=λj x he z=>by
  subst z;have hl:j<env.length:=by
   have:=(Qwq.mp he).1
   rwa [Qxw] at this
  rw[Qwz hl] at he;cases he;exact⟨rfl,hl⟩
 refine⟨r.pr,r.fr,by rw[Qxw,Qxw];exact r.len,λj e he=>?_,λj e he=>?_,λj k e f b hj hk g1 g2=>?_,r.dj,λj a hj=>?_⟩
 ·by_cases hji:j=i
  ·have:=(same j _ he hji).1;cases this
  ·rw[Qq6 (Ne.symm hji)] at he ⊢;exact r.val j e he
 ·by_cases hji:j=i
  ·obtain⟨z,hl⟩:=same j _ he hji;cases z;subst hji;exact⟨a,Qwz (by rw[<-r.len];exact hl),n.own,n.nF,n.nP⟩
  ·rw[Qq6 (Ne.symm hji)] at he ⊢;exact r.own j e he
 ·by_cases nj:j=i
  ·by_cases nk:k=i
   ·rw[nj,nk]
   ·obtain⟨z,hl⟩:=same j _ hj nj;subst nj;rw[Qwz (by rw[<-r.len];exact hl)] at g1;cases g1;rw[Qq6 (Ne.symm nk)] at hk g2;exact(n.ap k f hk g2).elim
  ·rw[Qq6 (Ne.symm nj)] at hj g1;by_cases nk:k=i
   ·obtain⟨z,hl⟩:=same k _ hk nk;subst nk;rw[Qwz (by rw[<-r.len];exact hl)] at g2;cases g2;exact(n.ap j e hj g1).elim
   ·rw[Qq6 (Ne.symm nk)] at hk g2;exact r.apart j k e f b hj hk g1 g2
 ·have hji:j≠i:=λz=>by rw[z,hfx] at hj;cases hj
  rw[Qq6 (Ne.symm hji)];exact r.fix j a hj
def Rel.keep(r:Rel C Pr F env σ H)(n:VN C.K Pr F env σ H d a):∃F',Rel C Pr F' env σ H/\aQ F F'/\Rep C.K F' d (.ref a):=by
 obtain⟨o,ho⟩:=n.own.some;have s1:aQ F (upd F a o):=m6 n.nF;have rep:Rep C.K (upd F a o) d (.ref a):=by
  have h2:=n.own;cases d with
  | lst xs=>obtain⟨z,vs,g1,g2⟩:=h2;rw[ho] at g1;cases g1;exact⟨z,a,vs,rfl,aY,bL.mono s1 _ _ g2⟩
  | dct kvs=>obtain⟨z,ks,g1,g2⟩:=h2;rw[ho] at g1;cases g1;exact⟨z,a,ks,rfl,.inl aY,dM.mono s1 _ _ g2⟩
  | mZ kvs=>obtain⟨z,ks,g1,g2⟩:=h2;rw[ho] at g1;cases g1;exact⟨z,a,ks,rfl,.inl aY,qN.mono s1 _ _ g2⟩
  | _=>exact h2.elim
 refine⟨upd F a o,⟨r.pr,λb u e=>?_,r.len,λj e he=>?_,λj e he=>?_,r.apart,λb u e=>?_,r.fix⟩,s1,rep⟩
 ·by_cases hb:b=a
  ·subst hb;rw[aY] at e;cases e;exact ho
  ·rw[bC hb] at e;exact r.fr b u e
 ·obtain⟨v,g1,g2⟩:=r.val j e he;exact⟨v,g1,Rep.mono s1 e v g2⟩
 ·obtain⟨b,g1,g2,g3,g4⟩:=r.own j e he;have hb:b≠a:=λz=>by subst z;exact n.ap j e he g1
  exact⟨b,g1,g2.mono s1 rfl,by rw[bC hb];exact g3,g4⟩
 ·by_cases hb:b=a
  ·subst hb;exact n.nP
  ·rw[bC hb] at e;exact r.dj b u e
def Rel.write(r:Rel C Pr F env σ H)(h:env[i]? = some (some (true,d)))(hs:σ[i]? = some (some (V.ref a)))(ho:kj C.K F (upd H a u) d' a) :
  Rel C Pr F (env.set i (some (true,d'))) σ (upd H a u):=by
 obtain⟨a',h1,h2,h3,h4⟩:=r.own i d h;rw[hs] at h1;cases h1;have hi:=(Qwq.mp h).1;have ne:∀j e b,j≠i->env[j]? = some (some (true,e))->σ[j]? = some (some<|V.ref b)->b≠a:=λj e b hj he g z=>hj<|r.apart j i e d a he h (by rw[<-z];exact g) hs;refine⟨λb w e=>?_,λb w e=>?_,by rw[Qxw];exact r.len,λj e he=>?_,λj e he=>?_,λj k e f b hj hk g1 g2=>?_,r.dj,r.fix⟩
 ·have hb:b≠a:=λz=>by rw[z,h4] at e;cases e
  rw[bC hb];exact r.pr b w e
 ·have hb:b≠a:=λz=>by rw[z,h3] at e;cases e
  rw[bC hb];exact r.fr b w e
 ·by_cases hj:j=i
  ·subst hj;rw[Qwz hi] at he;cases he
  ·rw[Qq6 (Ne.symm hj)] at he;exact r.val j e he
 ·by_cases hj:j=i
  ·subst hj;rw[Qwz hi] at he;cases he;exact⟨a,hs,ho,h3,h4⟩
  ·rw[Qq6 (Ne.symm hj)] at he;obtain⟨b,g1,g2,g3,g4⟩:=r.own j e he;exact⟨b,g1,g2.mono (aQ.refl F)<|bC<|ne j e b hj he g1,g3,g4⟩
 ·have un:∀j e,(env.set i<|some (true,d'))[j]? = some (some (true,e))->∃e',env[j]? = some (some (true,e')):=λj e he=>by
   by_cases hj:j=i
   ·subst hj;exact⟨d,h⟩
   ·rw[Qq6 (Ne.symm hj)] at he;exact⟨e,he⟩
  obtain⟨e',hj'⟩:=un j e hj;obtain⟨f',hk'⟩:=un k f hk;exact r.apart j k e' f' b hj' hk' g1 g2
def tN(C:Cfg)(ev:Ev):TE:=λσ H Q=>∃(Pr F:Hp) (env env':Env) (d:D),Rel C Pr F env σ H/\ev env = .ok d env'/\
 ∀a H' F',Rel C Pr F' env' σ H'->aQ F F'->VN C.K Pr F' env' σ H' d a->Q (.ref a) H'
def V7(X:Cx)(C:Cfg)(e:Expr)(ev:Ev):Prop:=PE X e (tN C ev)
section
variable{X:Cx}{C:Cfg}{pos:Pos}
def V7.px(h:V7 X C e ev):PX X C e ev:=PE.imp h λσ H Q hq=>by
 obtain⟨Pr,F,env,env',d,r,e,q⟩:=hq;refine⟨Pr,F,env,env',d,r,e,λa H' F' r' s' n'=>?_⟩;obtain⟨F2,r2,s2,p2⟩:=r'.keep n';exact q _ _ F2 r2 (s'.trans s2) p2
def Mw(h:Om X C es r):V7 X C (.List es pos) (cB r):=(abQ h).imp λσ H Q hq=>by
 obtain⟨Pr,F,env,env',d,rl,e,q⟩:=hq;obtain⟨ds,aD,e1,e2⟩:=aR e;split at e2
 ·rename_i hz;cases e2;refine⟨Pr,F,env,env',ds,rl,e1,λvs H1 F1 r1 s1 p1=>⟨by rw[p1.length];exact hz,λp hp=>?_⟩⟩;exact q _ _ F1 (r1.fresh hp) s1<|VN.of r1 hp ⟨hz,vs,aY,p1⟩
 ·cases e2
abbrev GV:=D->Env->Option Env
abbrev V9:=List D->Env->Option Env
def tG(C:Cfg)(lo:Nat)(gv:GV):TG:=λv σ H Q=>∃(Pr F:Hp) (env env':Env) (d:D),Rel C Pr F env σ H/\Rep C.K F d v/\gv d env=some env'/\
 ∀σ' H' F',Rel C Pr F' env' σ' H'->aQ F F'->σ'.take lo=σ.take lo->Q σ' H'
def tGs(C:Cfg)(lo:Nat)(gv:V9):Y4:=λvs σ H Q=>∃(Pr F:Hp) (env env':Env) (ds:List D),Rel C Pr F env σ H/\bL C.K F ds vs/\gv ds env=some env'/\
 ∀σ' H' F',Rel C Pr F' env' σ' H'->aQ F F'->σ'.take lo=σ.take lo->Q σ' H'
def Y8(X:Cx)(C:Cfg)(lo:Nat)(e:Expr)(gv:GV):Prop:=PG X e (tG C lo gv)
def adA(X:Cx)(C:Cfg)(lo:Nat)(es:List Expr)(gv:V9):Prop:=PGs X es (tGs C lo gv)
def _root_.L2.PG.imp{X:Cx}{e:Expr}{t t':TG}(h:PG X e t)(i:∀v σ H Q,t' v σ H Q->t v σ H Q):PG X e t':=λpins s σ H v u Q I r q=>h pins s σ H v u Q I r<|i v σ H Q q
def _root_.L2.PGs.imp{X:Cx}{e:List Expr}{t t':Y4}(h:PGs X e t)(i:∀v σ H Q,t' v σ H Q->t v σ H Q):PGs X e t':=λpins s σ H v u Q I r q=>h pins s σ H v u Q I r<|i v σ H Q q
def aq(i:Nat):GV:=λd env=>some (env.set i (some (false,d)))
def S7{lo i:Nat}(hN:X.N.Nodup)(hi:X.N[i]? = some x)(hx:Loc X.env.scope x)(hlo:lo<=i)(hfx:C.fx i=none)(hf:X.fn x=true\/X.env.scope.names.lookup x=some .local:=by first|exact .inl rfl|exact .inr rfl|assumption):Y8 X C lo (.Name x pos) (aq i):=
 (Xk hN hi hx hf).imp λv σ H Q h=>by
  obtain⟨Pr,F,env,env',d,r,p,e,q⟩:=h;cases e;exact q _ _ F (r.put hfx p) (aQ.refl F) (by rw[List.take_set_of_le hlo])
def gC:V9:=λds env=>if ds.isEmpty then some env else none
def bD(g:GV)(gs:V9):V9:=λds env=>match ds with
 | d::r=>(g d env).bind λe1=>gs r e1
 | []=>none
def S6{lo:Nat}:adA X C lo [] gC:=Xj.imp λv σ H Q h=>by
 obtain⟨Pr,F,env,env',ds,r,p,e,q⟩:=h;cases ds with
 | nil=>cases e;cases p;exact⟨rfl,q _ _ F r (aQ.refl F) rfl⟩
 | cons d ds=>cases e
def gb(n:Nat)(gs:V9):GV:=λd env=>match d with
 | .tup ds=>if ds.length=n then gs ds env else none
 | _=>none
def W9{lo:Nat}{k:Nat}(hc:X.calm=true)(hK:X.K=C.K)(h:adA X C lo es gs)
  (hn:(assignEach es X.env).length=n:=by rfl) (hst:(assignEach es X.env).findIdx? (·.1)=none:=by rfl):Y8 X C lo (.Tuple es k pos) (gb n gs):=(abJ hc h hn hst).imp λv σ H Q h=>by
 obtain⟨Pr,F,env,env',d,r,p,e,q⟩:=h;cases d with
 | tup ds=>
  obtain⟨z,a,vs,rfl,h1,h2⟩:=p;unfold gb at e;simp only at e;split at e
  ·rename_i hl;rw[hK];exact⟨a,vs,rfl,aQ.tupK r.fr h1,by rw[h2.length];exact hl,Pr,F,env,env',ds,r,h2,e,q⟩
  ·cases e
 | _=>cases e
def Ye(i:Nat)(ix:Ev):GV:=λd env=>match env[i]? with
 | some (some (_,_))=>(match ix env with
  | .ok (.int k) aD=>(match aD[i]? with
   | some (some (true,.lst xs))=>(V1 xs.length k).map λj=>aD.set i (some (true,.lst (xs.set j d)))
   | _=>none)
  | _=>none)
 | _=>none
def abt{lo i:Nat}(hN:X.N[i]? = some x)(hv:wg X.env.scope x)(h:PX X C ix ev)
  (ha:∀v,assign (.Subscript (.Name x px) ix pos) X.env v=(do
   let ov <-holding [v] (eval (.Name x px) X.env)
   let iv <-holding [v,ov] (eval ix X.env)
   standAt pos
   holding [v,ov,iv] (setItem ov iv v)
   release [v,ov,iv] []):=by intro _;rfl)
  (hd:lr x:=by decide) (hcd:uz x:=by decide):Y8 X C lo (.Subscript (.Name x px) ix pos) (Ye i ev):=
 (abK (j0 hN hv hd hcd) h set_list ha).imp λv σ H Q hq=>by
  obtain⟨Pr,F,env,env',d,r,p,e,q⟩:=hq;unfold Ye at e;split at e
  ·rename_i o0 d0 h0;obtain⟨v0,hv0,_⟩:=r.rd h0;split at e
   ·rename_i k aD e1;split at e
    ·rename_i xs h2;obtain⟨j,hj,e3⟩:=Qw7.mp e;subst e3;refine⟨v0,hv0,Pr,F,env,aD,.int k,r,e1,λvi H1 F1 r1 s1 p1=>?_⟩;cases p1;obtain⟨a,g1,⟨z,vs,g2,g3⟩,g4,g5⟩:=r1.own i _ h2;rw[hv0] at g1;cases g1;refine⟨a,vs,k,j,rfl,rfl,g2,by rw[g3.length];exact hj,?_⟩;refine q σ _ F1 (r1.write h2 hv0 ⟨by rw[Qxw];exact z,vs.set j v,aY,bL.set (Rep.mono s1 d v p) j g3⟩) s1 rfl
    ·cases e
   ·cases e
  ·cases e
end
inductive Out where
 | nx (env:Env)
 | rt (o:Bool) (d:D) (env:Env)
 | bk (env:Env)
 | ct (env:Env)
 | stuck
abbrev cu:=Env->Out
def Fin(C:Cfg)(Pr F:Hp)(D:Ends):Out->Prop
 | .nx env'=>∀σ' H' F',Rel C Pr F' env' σ' H'->aQ F F'->D.nx σ' H'
 | .rt false d env'=>∀v σ' H' F',Rel C Pr F' env' σ' H'->aQ F F'->Rep C.K F' d v->D.rt v H'
 | .rt true d env'=>∀a σ' H' F',Rel C Pr F' env' σ' H'->aQ F F'->VN C.K Pr F' env' σ' H' d a->D.rt (.ref a) H'
 | .bk env'=>∀σ' H' F',Rel C Pr F' env' σ' H'->aQ F F'->D.bk σ' H'
 | .ct env'=>∀σ' H' F',Rel C Pr F' env' σ' H'->aQ F F'->D.ct σ' H'
 | .stuck=>False
theorem Fin.mono{D:Ends}(s:aQ F F1):∀{o},Fin C Pr F D o->Fin C Pr F1 D o
 | .nx _,h=>λσ' H' F' r t=>h σ' H' F' r<|s.trans t
 | .rt false _ _,h=>λv σ' H' F' r t=>h v σ' H' F' r<|s.trans t
 | .rt true _ _,h=>λv σ' H' F' r t=>h v σ' H' F' r<|s.trans t
 | .bk _,h=>λσ' H' F' r t=>h σ' H' F' r<|s.trans t
 | .ct _,h=>λσ' H' F' r t=>h σ' H' F' r<|s.trans t
 | .stuck,h=>h
def tS(C:Cfg)(ev:cu):TS:=λD σ H=>∃(Pr F:Hp) (env:Env),Rel C Pr F env σ H/\Fin C Pr F D (ev env)
def Lq(X:Cx)(C:Cfg)(st:Stmt)(ev:cu):Prop:=PS X st (tS C ev)
def su(X:Cx)(C:Cfg)(st:List Stmt)(ev:cu):Prop:=Gm X st (tS C ev)
def kJ{α:Type}(x:R α)(f:α->Env->Out):Out:=match x with
 | .ok a env=>f a env
 | .stuck=>.stuck
def dW{D:Ends}{α:Type}{x:R α}{f:α->Env->Out}(h:Fin C Pr F D (kJ x f)):∃a aD,x = .ok a aD/\Fin C Pr F D (f a aD):=by
 cases x with
 | ok a aD=>exact⟨a,aD,rfl,h⟩
 | stuck=>exact h.elim
section
variable{X:Cx}{C:Cfg}{pos:Pos}
def bU:cu:=λenv=>.nx env
def aM(a b:cu):cu:=λenv=>match a env with
 | .nx e=>b e
 | .rt o d e=>.rt o d e
 | .bk e=>.bk e
 | .ct e=>.ct e
 | .stuck=>.stuck
def Hx:su X C [] bU:=Xd.imp λD σ H h=>by
 obtain⟨Pr,F,env,r,f⟩:=h;exact f σ H F r<|aQ.refl F
def CK{st:Stmt}{rest:List Stmt}(h1:Lq X C st a)(h2:su X C rest b):su X C (st::rest) (aM a b):=(HB h1 h2).imp λD σ H h=>by
 obtain⟨Pr,F,env,r,f⟩:=h;refine⟨Pr,F,env,r,?_⟩;unfold aM at f;cases e:a env with
 | nx e1=>rw[e] at f;exact λσ' H' F' r' s'=>⟨Pr,F',e1,r',f.mono s'⟩
 | rt o d e1=>rw[e] at f;cases o<;>exact f
 | bk e1=>rw[e] at f;exact f
 | ct e1=>rw[e] at f;exact f
 | stuck=>rw[e] at f;exact f
def zA{st:Stmt}(h1:Lq X C st a):su X C [st] a:=Eo h1
def eQ(t:gh)(a b:cu):cu:=λenv=>kJ (t env) λc aD=>if c=true then a aD else b aD
def Sy(hc:PXT X C c t)(ha:su X C a ea)(hb:su X C b eb):Lq X C (.If c a b pos) (eQ t ea eb):=(ZQ hc ha hb).imp λD σ H h=>by
 obtain⟨Pr,F,env,r,f⟩:=h;obtain⟨k,aD,e1,f1⟩:=dW f;refine⟨Pr,F,env,aD,k,r,e1,λH1 F1 r1 s1=>?_⟩;split at f1
 ·rename_i hk;rw[if_pos hk];exact⟨Pr,F1,aD,r1,f1.mono s1⟩
 ·rename_i hk;rw[if_neg hk];exact⟨Pr,F1,aD,r1,f1.mono s1⟩
def bw(a:Ev):cu:=λenv=>kJ (a env) λd aD=>.rt false d aD
def yZ(a:Ev):cu:=λenv=>kJ (a env) λd aD=>.rt true d aD
def J7(a:Ev):cu:=λenv=>kJ (a env) λ_ aD=>.nx aD
def Z4(o:Option Env):Out:=match o with
 | some e=>.nx e
 | none=>.stuck
def bz(a:Ev)(g:GV):cu:=λenv=>kJ (a env) λd aD=>Z4 (g d aD)
def adw{D:Ends}(h:tS C (bz a g) D σ H):Wr (tE C a) (tG C 0 g) D σ H:=by
 obtain⟨Pr,F,env,r,f⟩:=h;obtain⟨d,aD,e1,f1⟩:=dW f;refine⟨Pr,F,env,aD,d,r,e1,λv H1 F1 r1 s1 p1=>?_⟩;cases e2:g d aD with
 | none=>rw[e2] at f1;exact f1.elim
 | some fH=>rw[e2] at f1;exact⟨Pr,F1,aD,fH,d,r1,p1,e2,λσ2 H2 F2 r2 s2 _=>f1 σ2 H2 F2 r2<|s1.trans s2⟩
def W2(hN:X.N.Nodup)(hi:X.N[i]? = some x)(hx:Loc X.env.scope x)(hfx:C.fx i=none)(he:PX X C e a)(hs:swapsWith e (some (.Name x pos')) pos.line X.env=pure false:=by rfl)(hf:X.fn x=true\/X.env.scope.names.lookup x=some .local:=by first|exact .inl rfl|exact .inr rfl|assumption) :
  Lq X C (.Assign [.Name x pos'] e pos) (bz a (aq i)):=(Tn hN hi hx he hs hf).imp λD σ H h=>by
 obtain⟨Pr,F,env,r,f⟩:=h;obtain⟨d,aD,e1,f1⟩:=dW f;exact⟨Pr,F,env,aD,d,r,e1,λv H1 F1 r1 s1 p1=>f1 _ H1 F1 (r1.put hfx p1) s1⟩
def jh(i:Nat)(a:Ev):cu:=λenv=>kJ (a env) λd aD=>.nx (aD.set i (some (true,d)))
def W3(hN:X.N.Nodup)(hi:X.N[i]? = some x)(hx:Loc X.env.scope x)(hfx:C.fx i=none)(he:V7 X C e a)(hs:swapsWith e (some (.Name x pos')) pos.line X.env=pure false:=by rfl)(hf:X.fn x=true\/X.env.scope.names.lookup x=some .local:=by first|exact .inl rfl|exact .inr rfl|assumption) :
  Lq X C (.Assign [.Name x pos'] e pos) (jh i a):=(Tn hN hi hx he hs hf).imp λD σ H h=>by
 obtain⟨Pr,F,env,r,f⟩:=h;obtain⟨d,aD,e1,f1⟩:=dW f;exact⟨Pr,F,env,aD,d,r,e1,λv H1 F1 r1 s1 p1=>f1 _ H1 F1 (r1.Tg hfx p1) s1⟩
def tR(i:Nat)(a:Ev):cu:=λenv=>match env[i]? with
 | some (some (true,.lst _))=>kJ (a env) λd aD=>(match aD[i]? with
  | some (some (true,.lst xs))=>if xs.length<sizeLine then .nx (aD.set i (some (true,.lst (xs++[d])))) else .stuck
  | _=>.stuck)
 | _=>.stuck
def W5(hN:X.N[i]? = some x)(hv:wg X.env.scope x)(he:PX X C e a)(hK:X.K=C.K)
  (hs:swapsWith (.Call (.Attribute (.Name x px) "append" apos) [e] [] cpos) none pos.line X.env=pure false:=by rfl)
  (hfew:((backTo cpos (starEach [e] X.env)).all (λx=>!x.1)&&(backToKw cpos (keywordEach [] X.env)).all (λx=>x.1.isSome)
   && decide ([e].length+([]:List Keyword).length+(if ([]:List Keyword).isEmpty then 0 else 1)<30))=true:=by rfl)
  (hbase:attributeBase (.Name x px) "append" X.env (eval (.Name x px) X.env)=eval (.Name x px) X.env:=by rfl)
  (hline:(apos.endLine == cpos.line)=true:=by rfl) (hst:Bg e X.env:=by rfl) (hplain:(backTo cpos (starEach [] X.env)).any (·.1)=false:=by rfl)
  (hd:lr x:=by decide) (hcd:uz x:=by decide):Lq X C (.Expr (.Call (.Attribute (.Name x px) "append" apos) [e] [] cpos) pos) (tR i a):=by
 refine PS.imp (Ep (xU PySem.F.plainAttrs_list PySem.F.slot_list_append PySem.F.type_list_append Dc (j0 hN hv hd hcd) (fD he jM hst) hbase hfew hline hst hplain) hs) λD σ H h=>?_;obtain⟨Pr,F,env,r,f⟩:=h;unfold tR at f;split at f
 ·rename_i xs0 h0;obtain⟨d,aD,e1,f1⟩:=dW f;obtain⟨a0,hv0,⟨z0,vs0,g0,_⟩,_⟩:=r.own i _ h0;refine⟨_,hv0,.inl ⟨rfl,vs0,mR.of g0⟩,Pr,F,env,aD,d,r,e1,λv H1 F1 r1 s1 p1=>?_⟩;split at f1
  ·rename_i xs h1;split at f1
   ·rename_i hz;obtain⟨a,g1,⟨z,vs,g2,g3⟩,g4,g5⟩:=r1.own i _ h1;rw[hv0] at g1;cases g1;refine⟨a0,vs,v,rfl,rfl,g2,by rw[g3.length];exact hz,?_⟩;exact f1 σ _ F1 (r1.write h1 hv0 ⟨by rw[Qqz];exact hz,vs++[v],aY,g3.append<|bL.one p1⟩) s1
   ·exact f1.elim
  ·exact f1.elim
 ·exact f.elim
def qG(K:Fg)(F:Hp)(ds:List D)(J:It):Prop:=∀(i:Nat) (H:Hp),aQ F H->(ds[i]? = none->i=ds.length->J.stop i H)/\∀d,ds[i]? = some d->J.go i H/\∀x H',J.yld i H x H'->
 (H'=H/\Rep K F d x)\/∃p vs es,H p=none/\H'=upd H p (.tup vs)/\x = .ref p/\d = .tup es/\es.length<=sizeLine/\bL K F es vs
def tI(C:Cfg)(ev:dG):TI:=λσ H R=>∃(Pr F:Hp) (env env':Env) (ds:List D),Rel C Pr F env σ H/\ev env = .ok ds env'/\
 ∀J H' F',Rel C Pr F' env' σ H'->aQ F F'->qG C.K F' ds J->R J H'
def Y7(X:Cx)(C:Cfg)(tg iter:Expr)(ev:dG):Prop:=PI X tg iter (tI C ev)
def _root_.L2.PI.imp{X:Cx}{tg e:Expr}{t t':TI}(h:PI X tg e t)(i:∀σ H R,t' σ H R->t σ H R):PI X tg e t':=λpins s σ H R I q=>h pins s σ H R I<|i σ H R q
def qG.item(r:Rel C Pr F1 env σ H)(s:aQ F F1)(y:qG C.K F ds J)(hd:ds[i]? = some d)(hy:J.yld i H x H') :
  ∃F2,Rel C Pr F2 env σ H'/\aQ F1 F2/\Rep C.K F2 d x:=by
 rcases((y i H<|s.trans r.fr).2 d hd).2 x H' hy with ⟨rfl,p⟩|⟨p,vs,es,hp,rfl,rfl,rfl,hz,q⟩
 ·exact⟨F1,r,aQ.refl F1,Rep.mono s _ _ p⟩
 ·obtain⟨r2,s2⟩:=r.new hp;exact⟨_,r2,s2,hz,p,vs,rfl,qM.of aY,bL.mono (s.trans s2) _ _ q⟩
def lW(g:GV)(b:cu):List D->cu
 | [],env=>.nx env
 | d::ds,env=>(match g d env with
  | none=>.stuck
  | some e1=>(match b e1 with
   | .nx e2=>lW g b ds e2
   | .ct e2=>lW g b ds e2
   | .bk e2=>.nx e2
   | .rt o d e2=>.rt o d e2
   | .stuck=>.stuck))
def jX(it:dG)(g:GV)(b:cu):cu:=λenv=>kJ (it env) λds aD=>lW g b ds aD
def W4(hp:PassesOwn (model X.prog X.w) X.A X.env X.xe)(hc:X.calm=true)(hi:Y7 X C tg iter it)(hg:Y8 X C 0 tg g)(hb:su X C body b)
  (hs:∀x,foldedSetIterable iter X.env x=pure x:=by intro _;rfl):Lq X C (.For tg iter body [] pos) (jX it g b):=(abF hp hc hi hg hb hs).imp λD σ H h=>by
 obtain⟨Pr,F,env,r,f⟩:=h;obtain⟨ds,aD,e1,f1⟩:=dW f;refine⟨Pr,F,env,aD,ds,r,e1,λJ H1 F1 r1 s1 y1=>?_⟩;refine⟨λi m σ' H'=>m=ds.length - i/\i<=ds.length/\∃F' env',Rel C Pr F' env' σ' H'/\aQ F1 F'/\Fin C Pr F' D (lW g b (ds.drop i) env'),⟨ds.length,rfl,Qzz _,F1,aD,r1,aQ.refl _,f1.mono s1⟩,?_⟩;rintro i m σ' H' ⟨rfl,hi,F',env',r',s',f'⟩;by_cases hl:i<ds.length
 ·have hd:=Qzq hl;have hdr:=List.drop_eq_getElem_cons hl;have yy:=y1 i H'<|s'.trans r'.fr;refine .inr ⟨(yy.2 _ hd).1,λσ2 H2=>∃F' env',Rel C Pr F' env' σ2 H2/\aQ F1 F'/\Fin C Pr F' D (lW g b (ds.drop<|i+1) env'),λσ2 H2 h2=>⟨ds.length - (i+1),by omega,rfl,hl,h2⟩,λx H2 hy=>?_⟩;obtain⟨F2,r2,s2,p2⟩:=qG.item r' s' y1 hd hy;rw[hdr] at f';have f2:=f'.mono s2;unfold lW at f2;cases eg:g ds[i] env' with
  | none=>rw[eg] at f2;exact f2.elim
  | some e2=>
   rw[eg] at f2;refine⟨Pr,F2,env',e2,ds[i],r2,p2,eg,λσ3 H3 F3 r3 s3 _=>⟨Pr,F3,e2,r3,?_⟩⟩;simp at f2;have s13:=(s'.trans s2).trans s3;cases eb:b e2 with
   | nx e3=>rw[eb] at f2;exact λσ4 H4 F4 r4 s4=>⟨F4,e3,r4,s13.trans s4,f2.mono<|s3.trans s4⟩
   | ct e3=>rw[eb] at f2;exact λσ4 H4 F4 r4 s4=>⟨F4,e3,r4,s13.trans s4,f2.mono<|s3.trans s4⟩
   | bk e3=>rw[eb] at f2;exact λσ4 H4 F4 r4 s4=>f2 σ4 H4 F4 r4<|s3.trans s4
   | rt o d e3=>rw[eb] at f2;cases o<;>exact λv σ4 H4 F4 r4 s4 p4=>f2 v σ4 H4 F4 r4 (s3.trans s4) p4
   | stuck=>rw[eb] at f2;exact f2.elim
 ·have e:i=ds.length:=by omega
  subst e;rw[List.drop_length] at f';exact .inl ⟨(y1 _ H'<|s'.trans r'.fr).1 (Qj7<|Qqy _) rfl,f' σ' H' F' r'<|aQ.refl F'⟩
end
end Ev
namespace L2
open PySem PySem.Spec PyProof.Rows
def Its(z:Str):It:=⟨λi _=>i<z.cps.size,λi H x H'=>H'=H/\∃c,z.cps[i]? = some c/\x = .str ⟨#[c]⟩,λi _=>z.cps.size<=i⟩
theorem Ox{P:Program}{w:World}{K:PySem.W.Frag}{tg:Expr}(it:Addr)(z:Str)(t:Tok):Turn P w K tg (Its z) [it] it (λi h=>h.IsStrIter it "str_ascii_iterator" z t i/\i<=z.cps.size) where
 mem:=by simp
 obj:=λi h st b hb=>by
  have e:b=it:=by simpa using hb
  subst e;obtain⟨⟨o,ho,hc,hd⟩,_⟩:=st;exact⟨o,ho,λv z=>by rw[hd] at z;cases z⟩
 keep:=λi h h' st k=>let ⟨⟨o,ho,r⟩,l⟩:=st;⟨⟨o,k it (by simp) o ho,r⟩,l⟩
 item:=by intro X hP hw hK hc i pins s σ H E I hf st hg;subst hP hw hK;obtain⟨f0,f1,f2,f3,f4,f5⟩:=hf it (by simp);have hg':i<z.cps.size:=hg;refine wpAny_pyNext_ascii_item st.1 (c:=z.cps[i]) (by simp[hg']) λh' hit' hs'=>?_;have I1:Inv X pins σ H { s with heap:=h',toks:=s.toks+1 }:=I.turned (λb o hb e=>hs'.extBut b o hb e) f0 f1 f3 f4 f5;obtain⟨o,ho,hcl,hda⟩:=hit';refine⟨_,rfl,Di ho hcl hda (by decide) ⟨.str ⟨#[z.cps[i]]⟩,H,I1,⟨_,rfl⟩,⟨rfl,_,by simp[hg'],rfl⟩,⟨⟨o,ho,hcl,hda⟩,hg'⟩,λb hb=>(hf b hb).1⟩⟩
 done:=by intro X hP hw hK hc i pins s σ H E I hf st hg;subst hP hw hK;obtain⟨f0,f1,f2,f3,f4,f5⟩:=hf it (by simp);have hg':z.cps.size<=i:=hg;exact wpAny_pyNext_ascii_end (I.ok.hd hc) st.1 (by simp;omega) λh' eb=>⟨rfl,I.turned (λb o hb e=>eb b o hb e) f0 f1 f3 f4 f5⟩
 self:=λ_ _ _ _ _ st h=>wpAny_pyIter_striter_ascii st.1 h
theorem Ow{P:Program}{w:World}{K:PySem.W.Frag}{tg:Expr}(it:Addr)(z:Str)(t:Tok):Turn P w K tg (Its z) [it] it (λi h=>h.IsStrIter it "str_iterator" z t i/\i<=z.cps.size) where
 mem:=by simp
 obj:=λi h st b hb=>by
  have e:b=it:=by simpa using hb
  subst e;obtain⟨⟨o,ho,hc,hd⟩,_⟩:=st;exact⟨o,ho,λv z=>by rw[hd] at z;cases z⟩
 keep:=λi h h' st k=>let ⟨⟨o,ho,r⟩,l⟩:=st;⟨⟨o,k it (by simp) o ho,r⟩,l⟩
 item:=by intro X hP hw hK hc i pins s σ H E I hf st hg;subst hP hw hK;obtain⟨f0,f1,f2,f3,f4,f5⟩:=hf it (by simp);have hg':i<z.cps.size:=hg;refine wpAny_pyNext_wide_item st.1 (c:=z.cps[i]) (by simp[hg']) λh' hit' hs'=>?_;have I1:Inv X pins σ H { s with heap:=h',toks:=s.toks+1 }:=I.turned (λb o hb e=>hs'.extBut b o hb e) f0 f1 f3 f4 f5;obtain⟨o,ho,hcl,hda⟩:=hit';refine⟨_,rfl,Di ho hcl hda (by decide) ⟨.str ⟨#[z.cps[i]]⟩,H,I1,⟨_,rfl⟩,⟨rfl,_,by simp[hg'],rfl⟩,⟨⟨o,ho,hcl,hda⟩,hg'⟩,λb hb=>(hf b hb).1⟩⟩
 done:=by intro X hP hw hK hc i pins s σ H E I hf st hg;subst hP hw hK;obtain⟨f0,f1,f2,f3,f4,f5⟩:=hf it (by simp);have hg':z.cps.size<=i:=hg;exact wpAny_pyNext_wide_end (I.ok.hd hc) st.1 (by simp;omega) λh' eb=>⟨rfl,I.turned (λb o hb e=>eb b o hb e) f0 f1 f3 f4 f5⟩
 self:=λ_ _ _ _ _ st h=>wpAny_pyIter_striter_wide st.1 h
section
variable{X:Cx}{tg:Expr}
def aha(K:PySem.W.Frag)(tl:TE):TI:=λσ H R=>tl σ H λx H1=>(∃a,x = .ref a/\(∃xs,mR K H1 a xs)/\R (Itl K a) H1)\/(∃a,x = .ref a/\(∃xs,qM K H1 a xs)/\R (Itt K a) H1)\/∃z,x = .str z/\R (Its z) H1
def abI(hl:PE X l tl):PI X tg l (aha X.K tl):=by
 intro pins s σ H R I h;refine g8 (hl pins s σ H _ I h) λv s1 ⟨x,H1,I1,r1,q1⟩=>?_;have own:∀b ∈ [s1.heap.objs.size],Bf X pins H1 b:=λb hb=>by
  have e:b=s1.heap.objs.size:=by simpa using hb
  subst e;exact I1.ac3 (Qqy _)<|I1.hok.fresh<|Qqy _
 rcases q1 with ⟨a,e,⟨xs,hq⟩,q⟩|⟨a,e,⟨xs,hq⟩,q⟩|⟨z,e,q⟩
 ·subst e;cases r1;obtain⟨its,rv,p,hz⟩:=I1.list hq;refine wpAny_pyIter_list p.isList ?_;exact⟨s1.heap.objs.size,[s1.heap.objs.size],_,_,H1,rfl,I1.kept λb o e=>Qqx _ e,Oz a _,⟨_,Qq4 _ rfl,rfl,rfl⟩,own,q⟩
 ·subst e;cases r1;obtain⟨its,rv,p,hz⟩:=I1.tuple hq;refine wpAny_pyIter_tuple p ?_;exact⟨s1.heap.objs.size,[s1.heap.objs.size],_,_,H1,rfl,I1.kept λb o e=>Qqx _ e,JV a _,⟨_,Qq4 _ rfl,rfl,rfl⟩,own,q⟩
 ·subst e;obtain⟨t,rfl⟩:=r1;cases ha:z.cps.all (·< 128)
  ·exact wpAny_pyIter_wide ha ⟨s1.heap.objs.size,[s1.heap.objs.size],_,_,H1,rfl,I1.kept λb o e=>Qqx _ e,Ow _ z t,⟨⟨_,Qq4 _ rfl,rfl,rfl⟩,Qzz _⟩,own,q⟩
  ·exact wpAny_pyIter_ascii ha ⟨s1.heap.objs.size,[s1.heap.objs.size],_,_,H1,rfl,I1.kept λb o e=>Qqx _ e,Ox _ z t,⟨⟨_,Qq4 _ rfl,rfl,rfl⟩,Qzz _⟩,own,q⟩
def adC(lo c:Int)(n:Nat):It:=⟨λi _=>i<n,λi H x H'=>H'=H/\x = .int (lo+i*c),λi _=>n<=i⟩
theorem GZ{P:Program}{w:World}{K:PySem.W.Frag}{tg:Expr}(it:Addr)(lo c:Int)(n:Nat):Turn P w K tg (adC lo c n) [it] it (λi h=>IsRangeIter h it (lo+(i:Nat)*c) ((n:Int) - (i:Nat)) c) where
 mem:=by simp
 obj:=λi h st b hb=>by
  have e:b=it:=by simpa using hb
  subst e;exact⟨_,st,λv z=>by
   have z':=z;cases z'⟩
 keep:=λi h h' st k=>k it (by simp) _ st
 item:=by intro X hP hw hK hc i pins s σ H E I hf st hg;subst hP hw hK;obtain⟨f0,f1,f2,f3,f4,f5⟩:=hf it (by simp);have W:=Walks.range (prog:=X.prog) (w:=X.w) (I.ok.hd hc) it lo c n;refine W.item i s _ _ hg st λv h' tk hv st' kk=>?_;obtain⟨t,rfl⟩:=hv;have I1:Inv X pins σ H { s with heap:=h',toks:=tk }:=I.turned (λb o hb e=>kk b o (by simpa using hb) e) f0 f1 f3 f4 f5;exact⟨_,rfl,Di st' rfl rfl (by decide) ⟨.int<|lo+i*c,H,I1,⟨t,rfl⟩,⟨rfl,rfl⟩,st',λb hb=>(hf b hb).1⟩⟩
 done:=by intro X hP hw hK hc i pins s σ H E I hf st hg;subst hP hw hK;obtain⟨f0,f1,f2,f3,f4,f5⟩:=hf it (by simp);exact wpAny_pyNext_range_end (I.ok.hd hc) st (by have:n<=i:=hg;omega) λh' eb=>⟨rfl,I.turned (λb o hb e=>eb b o hb e) f0 f1 f3 f4 f5⟩
 self:=λ_ _ _ _ _ st h=>wpAny_pyIter_rangeiter st h
def afl(ta:TA):TI:=λσ H R=>ta σ H λvs H1=>∃i j c:Int,vs=[.int i,.int j,.int c]/\c≠0/\c.natAbs<1073741824/\Builtin.Range.small i j c=true/\R (adC i c (Builtin.Range.rangeSize i j c).toNat) H1
def Pz{p pos:Pos}(hg:Gl X "range")(hm:X.mg "range" = none)(ha:PA X [a,b,c] ta)(hs:starEach [a,b,c] X.env=[(false,eval a X.env),(false,eval b X.env),(false,eval c X.env)]:=by rfl)(hs2:starEach [b,c] X.env=[(false,eval b X.env),(false,eval c X.env)]:=by rfl) :
  PI X tg (.Call (.Name "range" p) [a,b,c] [] pos) (afl ta):=by
 intro pins s σ H R I h;refine Call_<|zV I hg hm boot_range<|PyProof.Rows.callWith_type1 (g8 (ha pos pins s σ H _ I h) λus s1 ⟨vs,H1,I1,r1,q1⟩=>?_) (by rw[hs,hs2]) (by rw[hs2];rfl);obtain⟨i,j,c,e,hc,hcs,hsm,q⟩:=q1;subst e;cases r1 with
 | cons r rr=>
  cases rr with
  | cons r' rr=>
   cases rr with
   | cons r'' rr=>
    cases rr;obtain⟨t,rfl⟩:=r;obtain⟨t',rfl⟩:=r';obtain⟨t'',rfl⟩:=r'';refine call_range_3 hc ?_<|.inl<|PyProof.noPylong_small hcs;refine wpAny_pyIter_range (IsRange.new ..) hsm ?_;generalize ho:({ cls:=.type "range",data:=.fields #[.int i t,.int j t',.int c t''] }:Obj)=o;have I2:Inv X pins σ H1 { s1 with heap:=s1.heap.push o,toks:=s1.toks }:=I1.kept λb o e=>Qqx _ e;refine⟨(s1.heap.push o).objs.size,[(s1.heap.push o).objs.size],_,_,H1,rfl,I2.kept λb o e=>Qqx _ e,GZ _ i c (Builtin.Range.rangeSize i j c).toNat,?_,λb hb=>?_,q⟩
    ·have e1:i+(0:Nat)*c=i:=by simp
     have e2:((Builtin.Range.rangeSize i j c).toNat) - (0:Nat)=Builtin.Range.rangeSize i j c:=by have:=PyProof.Rows.rangeSize_toNat i j c;omega
     show IsRangeIter _ _ (i+(0:Nat)*c) (((Builtin.Range.rangeSize i j c).toNat) - (0:Nat)) c;rw[e1,e2];exact Qq4 _ rfl
    ·have e:b=(s1.heap.push o).objs.size:=by simpa using hb
     subst e;exact I2.ac3 (Qqy _)<|I2.hok.fresh<|Qqy _
end
end L2
namespace Ev
open PySem PySem.Spec PyProof.Rows L2
section
variable{X:Cx}{C:Cfg}{pos:Pos}{tg:Expr}
def gj(x:List Nat):List D:=x.map λc=>.str [c]
def JF(h:qM C.K F a vs)(p:bL C.K F ds vs):qG C.K F ds (Itt C.K a):=λi H s=>by
 refine⟨λ_ e=>⟨vs,aQ.tupK s h,by rw[p.length,e];exact Qqy _⟩,λd hd=>?_⟩;obtain⟨v,h1,h2⟩:=p.get hd;refine⟨⟨vs,v,aQ.tupK s h,h1⟩,λx H' hy=>.inl ⟨hy.1,?_⟩⟩;have:=hy.2 vs<|aQ.tupK s h;rw[h1] at this;cases this;exact h2
def JG:qG C.K F (gj x) (Its (strOf x)):=λi H s=>by
 refine⟨λ_ e=>?_,λd hd=>?_⟩
 ·show x.toArray.size<=i;rw[e];simp[gj]
 ·unfold gj at hd;rw[Qx3] at hd;obtain⟨c,hc,rfl⟩:=Qw7.mp hd;refine⟨?_,λv H' hy=>.inl ⟨hy.1,?_⟩⟩
  ·show i<x.toArray.size;have:=(Qwq.mp hc).1
   simpa using this
  ·obtain⟨c',h1,rfl⟩:=hy.2;have h2:x[i]? = some c':=by simpa[strOf] using h1
   rw[hc] at h2;cases h2;exact⟨rfl,by show 1<=sizeLine;decide⟩
def itD:D->Option (List D)
 | .lst xs=>some xs
 | .arr xs=>some xs
 | .tup xs=>some xs
 | .str x=>some (gj x)
 | _=>none
def fU(a:Ev):dG:=λenv=>bindR (a env) λd aD=>gB (itD d) aD
def W8(hK:X.K=C.K)(h:PX X C l a):Y7 X C tg l (fU a):=(abI h).imp λσ H R hq=>by
 obtain⟨Pr,F,env,env',ds,r,e,q⟩:=hq;obtain⟨d,aD,e1,e2⟩:=aR e;obtain⟨e3,rfl⟩:=cF e2;refine⟨Pr,F,env,env',d,r,e1,λv H1 F1 r1 s1 p1=>?_⟩;rw[hK];cases d with
 | lst xs=>
  cases e3;obtain⟨z,a,vs,rfl,g1,g2⟩:=p1;refine .inl ⟨a,rfl,⟨vs,mR.of<|r1.fr _ _ g1⟩,q _ H1 F1 r1 s1 λi H s=>?_⟩;refine⟨λ_ e=>⟨vs,mR.of<|s _ _ g1,by rw[g2.length,e];exact Qqy _⟩,λd hd=>?_⟩;obtain⟨v,h1,h2⟩:=g2.get hd;refine⟨⟨vs,v,mR.of<|s _ _ g1,h1⟩,λx H' hy=>.inl ⟨hy.1,?_⟩⟩;have:=hy.2 vs<|mR.of<|s _ _ g1;rw[h1] at this;cases this;exact h2
 | arr xs=>
  cases e3;obtain⟨z,a,vs,rfl,g1,g2⟩:=p1;refine .inl ⟨a,rfl,⟨vs,r1.fr.seq g1⟩,q _ H1 F1 r1 s1 λi H s=>?_⟩;refine⟨λ_ e=>⟨vs,s.seq g1,by rw[g2.length,e];exact Qqy _⟩,λd hd=>?_⟩;obtain⟨v,h1,h2⟩:=g2.get hd;refine⟨⟨vs,v,s.seq g1,h1⟩,λx H' hy=>.inl ⟨hy.1,?_⟩⟩;have:=hy.2 vs<|s.seq g1;rw[h1] at this;cases this;exact h2
 | tup xs=>
  cases e3;obtain⟨z,a,vs,rfl,g1,g2⟩:=p1;exact .inr<|.inl ⟨a,rfl,⟨vs,aQ.tupK r1.fr g1⟩,q _ H1 F1 r1 s1<|JF g1 g2⟩
 | str x=>
  cases e3;obtain⟨rfl,z⟩:=p1;exact .inr<|.inr ⟨_,rfl,q _ H1 F1 r1 s1 JG⟩
 | _=>cases e3
def jK(lo c:Int)(n:Nat):List D:=(List.range n).map λ(i:Nat)=>.int (lo+i*c)
def uc(lo c)(n):(jK lo c n).length=n:=by simp[jK]
def yX{lo c:Int}(h:(jK lo c n)[i]? = some d):i<n/\d = .int (lo+i*c):=by
 have hi:i<n:=by
  have:=(Qwq.mp h).1
  rwa [uc] at this
 refine⟨hi,?_⟩;unfold jK at h;rw[Qx3,List.getElem?_range hi] at h;cases h;rfl
def JK{lo:Int}:qG C.K F (jK lo 1 n) (Itr lo n):=λi H s=>by
 refine⟨λ_ e=>by rw[e,uc];exact Qqy _,λd hd=>?_⟩;obtain⟨hi,rfl⟩:=yX hd;refine⟨hi,λx H' hy=>.inl ⟨hy.1,?_⟩⟩;rw[Int.mul_one];exact hy.2
def Gx{lo c:Int}:qG C.K F (jK lo c n) (adC lo c n):=λi H s=>by
 refine⟨λ_ e=>by rw[e,uc];exact Qqy _,λd hd=>?_⟩;obtain⟨hi,rfl⟩:=yX hd;exact⟨hi,λx H' hy=>.inl ⟨hy.1,hy.2⟩⟩
def oF(j:Int):Bool:=decide (-(2^62)<=j)&&decide (j<2^62)
def Kf(h:oF j=true) : -(2^62)<=j/\j<2^62:=by unfold oF at h;rw[Qq2] at h;exact⟨Qww h.1,Qww h.2⟩
def tK:List D->Option (List D)
 | [.int j]=>if oF j=true then some (jK 0 1 j.toNat) else none
 | [.int i,.int j]=>if oF i=true/\oF j=true then some (jK i 1 (j - i).toNat) else none
 | [.int i,.int j,.int c]=>if c≠0/\c.natAbs<1073741824/\Builtin.Range.small i j c=true then some (jK i c (Builtin.Range.rangeSize i j c).toNat) else none
 | _=>none
def gJ(a:dG):dG:=λenv=>bindR (a env) λds aD=>gB (tK ds) aD
def bL.ag6(h:bL C.K F [.int i] vs):vs=[.int i]:=by obtain⟨v,r,rfl,h1,h2⟩:=h;cases h1;cases h2;rfl
def bL.ag5(h:bL C.K F [.int i,.int j,.int k] vs):vs=[.int i,.int j,.int k]:=by obtain⟨v,r,rfl,h1,v',r',rfl,h2,v'',r'',rfl,h3,h4⟩:=h;cases h1;cases h2;cases h3;cases h4;rfl
def Km(hg:Gl X "range")(hm:X.mg "range" = none)(ha:Om X C [a] ea)(hl:∀env ds env',ea env = .ok ds env'->ds.length=1)(hs:starEach [a] X.env=[(false,eval a X.env)]:=by rfl):Y7 X C tg (.Call (.Name "range" p) [a] [] pos) (gJ ea):=
 (PB hg hm ha hs).imp λσ H R hq=>by
  obtain⟨Pr,F,env,env',ds,r,e,q⟩:=hq;obtain⟨as,aD,e1,e2⟩:=aR e;obtain⟨e3,rfl⟩:=cF e2;refine⟨Pr,F,env,env',as,r,e1,λvs H1 F1 r1 s1 p1=>?_⟩;have:=hl _ _ _ e1;unfold tK at e3;split at e3
  ·split at e3
   ·rename_i hf;cases e3;have hb:=Kf hf;exact⟨_,p1.ag6,hb.1,hb.2,q _ H1 F1 r1 s1 JK⟩
   ·cases e3
  ·simp at this
  ·simp at this
  ·cases e3
def Kl{p pos:Pos}(hg:Gl X "range")(hm:X.mg "range" = none)(ha:Om X C [a,b,c] ea)(hl:∀env ds env',ea env = .ok ds env'->ds.length=3)(hs:starEach [a,b,c] X.env=[(false,eval a X.env),(false,eval b X.env),(false,eval c X.env)]:=by rfl)(hs2:starEach [b,c] X.env=[(false,eval b X.env),(false,eval c X.env)]:=by rfl):Y7 X C tg (.Call (.Name "range" p) [a,b,c] [] pos) (gJ ea):=
 (Pz hg hm ha hs hs2).imp λσ H R hq=>by
  obtain⟨Pr,F,env,env',ds,r,e,q⟩:=hq;obtain⟨as,aD,e1,e2⟩:=aR e;obtain⟨e3,rfl⟩:=cF e2;refine⟨Pr,F,env,env',as,r,e1,λvs H1 F1 r1 s1 p1=>?_⟩;have:=hl _ _ _ e1;unfold tK at e3;split at e3
  ·simp at this
  ·simp at this
  ·split at e3
   ·rename_i hf;cases e3;exact⟨_,_,_,p1.ag5,hf.1,hf.2.1,hf.2.2,q _ H1 F1 r1 s1 Gx⟩
   ·cases e3
  ·cases e3
def Qw(env)(ds)(env')(h:aj env = .ok ds env'):ds.length=0:=by cases h;rfl
def K7(hr:∀env ds env',r env = .ok ds env'->ds.length=n)(env)(ds)(env')(h:aa a r env = .ok ds env'):ds.length=n+1:=by obtain⟨d,aD,e1,e2⟩:=aR h;obtain⟨ds2,fH,e3,e4⟩:=aR e2;cases e4;rw[Qq1,hr _ _ _ e3]
def bL.qU{K:Fg}(h:bL K F ds vs)(e:L2.qU ds k=some d):∃v,L2.qU vs k=some v/\Rep K F d v:=by unfold L2.qU at e ⊢;rw[h.length];obtain⟨j,h1,h2⟩:=Qx2.mp e;obtain⟨v,h3,h4⟩:=h.get h2;exact⟨v,by rw[h1];exact h3,h4⟩
def dC:D->D->Option D
 | .lst xs,.int k=>qU xs k
 | .arr xs,.int k=>qU xs k
 | .tup xs,.int k=>qU xs k
 | .str x,.int k=>(qU x k).map λc=>.str [c]
 | _,_=>none
def T8:qI C (rIx C.K) dC:=by
 intro Pr F env σ H x y d vx vy Q r px py e q;unfold dC at e;split at e
 ·obtain⟨z,a,vs,rfl,h1,h2⟩:=px.lst r.fr;cases py.int;obtain⟨v,e1,p1⟩:=h2.qU e;exact .inl ⟨a,vs,_,v,rfl,rfl,mR.of h1,e1,q _ _ F r (aQ.refl F) p1⟩
 ·obtain⟨z,a,vs,rfl,h1,h2⟩:=px.arr r.fr;cases py.int;obtain⟨v,e1,p1⟩:=h2.qU e;exact .inl ⟨a,vs,_,v,rfl,rfl,h1,e1,q _ _ F r (aQ.refl F) p1⟩
 ·obtain⟨z,a,vs,rfl,h1,_,h2⟩:=px.tup r.fr;cases py.int;obtain⟨v,e1,p1⟩:=h2.qU e;exact .inr<|.inl ⟨a,vs,_,v,rfl,rfl,h1,e1,q _ _ F r (aQ.refl F) p1⟩
 ·obtain⟨rfl,z⟩:=px.str;cases py.int;obtain⟨c,e1,rfl⟩:=Qw7.mp e;exact .inr<|.inr ⟨_,_,c,rfl,rfl,by simpa[strOf,Str.length] using z,by simpa[strOf] using e1,q _ _ F r (aQ.refl F) ⟨rfl,by show 1<=sizeLine;decide⟩⟩
 ·cases e
def aeD(hK:X.K=C.K)(ha:PX X C x a)(hb:Q4 X C y b)(hs:qH y:=by intro _ _;rfl):PX X C (.Subscript x y pos) (au dC a b):=by have h:=(ZZ (pos:=pos) KR ha hb hs);rw[hK] at h;exact h.imp<|FZ T8
def abx{px:Pos}(i)(hK:X.K=C.K)(hN:X.N[i]? = some x)(hv:wg X.env.scope x)(hb:Q4 X C y b)(hs:qH y:=by intro _ _;rfl)
  (hd:lr x:=by decide) (hcd:uz x:=by decide):PX X C (.Subscript (.Name x px) y pos) (ak dC i b):=by
 have h:=(ZZ (pos:=pos) KR (j0 (pos:=px) hN hv hd hcd) hb hs);rw[hK] at h;exact h.imp<|tD T8
def cutD{α:Type}(xs:List α)(lo hi:Option Int):List α:=(xs.drop (HT.fK xs.length 0 lo)).take (HT.fK xs.length xs.length hi - HT.fK xs.length 0 lo)
def rW{α:Type}(xs:List α)(lo hi):(cutD xs lo hi).length<=xs.length:=by unfold cutD;rw[Qx0,Qxz];omega
def bL.cut{K:Fg}(h:bL K F ds vs)(lo hi):bL K F (cutD ds lo hi) (yF vs lo hi):=by unfold cutD yF;rw[h.length];exact bL.take _<|bL.drop _ h
abbrev VR:=Env->R (Option Int)
def tP(C:Cfg)(ev:VR):TO:=λσ H Q=>∃(Pr F:Hp) (env env':Env) (o:Option Int),Rel C Pr F env σ H/\ev env = .ok o env'/\∀H' F',Rel C Pr F' env' σ H'->aQ F F'->Q o H'
def PXP(X:Cx)(C:Cfg)(e:Option Expr)(ev:VR):Prop:=PO X e (tP C ev)
def _root_.L2.PO.imp{X:Cx}{e:Option Expr}{t t':TO}(h:PO X e t)(i:∀σ H Q,t' σ H Q->t σ H Q):PO X e t':=λpins s σ H Q I q=>h pins s σ H Q I<|i σ H Q q
def pL:VR:=λenv=>.ok none env
def o7(a:Ev):VR:=λenv=>bindR (a env) λd aD=>match d with
 | .int i=>.ok (some i) aD
 | _=>.stuck
def SM:PXP X C none pL:=Xg.imp λσ H Q h=>by
 obtain⟨Pr,F,env,env',d,r,e,q⟩:=h;cases e;exact q H F r<|aQ.refl F
def gSl:D->Option Int->Option Int->Option D
 | .lst xs,lo,hi=>some (.lst (cutD xs lo hi))
 | .arr xs,lo,hi=>some (.lst (cutD xs lo hi))
 | .tup xs,lo,hi=>if HT.fK xs.length 0 lo=0/\HT.fK xs.length xs.length hi=xs.length then none else some (.tup (cutD xs lo hi))
 | _,_,_=>none
def BW(a:Ev)(lo hi:VR):Ev:=λenv=>bindR (a env) λd aD=>bindR (lo aD) λl fH=>bindR (hi fH) λu Vd=>gB (gSl d l u) Vd
def RJ{lo hi:Option Int}(r:Rel C Pr F env σ H)(p:jg C.K F H x v)(e:gSl x lo hi=some d)(q:∀v H' F',Rel C Pr F' env σ H'->aQ F F'->Rep C.K F' d v->Q v H') :
  aem C.K v lo hi H Q\/abo C.K v lo hi H Q:=by
 unfold gSl at e;split at e
 ·cases e;obtain⟨z,a,vs,rfl,h1,h2⟩:=p.lst r.fr;refine .inl ⟨a,vs,rfl,mR.of h1,λb hb=>?_⟩;obtain⟨r2,s2⟩:=r.new hb;exact q _ _ _ r2 s2 ⟨Qq0 (rW _ _ _) z,b,_,rfl,aY,bL.mono s2 _ _<|h2.cut lo hi⟩
 ·cases e;obtain⟨z,a,vs,rfl,h1,h2⟩:=p.arr r.fr;refine .inl ⟨a,vs,rfl,h1,λb hb=>?_⟩;obtain⟨r2,s2⟩:=r.new hb;exact q _ _ _ r2 s2 ⟨Qq0 (rW _ _ _) z,b,_,rfl,aY,bL.mono s2 _ _<|h2.cut lo hi⟩
 ·obtain⟨z,a,vs,rfl,h1,_,h2⟩:=p.tup r.fr;split at e
  ·cases e
  ·rename_i hn;cases e;refine .inr ⟨a,vs,rfl,h1,by rw[h2.length];exact hn,λb hb=>?_⟩;obtain⟨r2,s2⟩:=r.new hb;exact q _ _ _ r2 s2 ⟨Qq0 (rW _ _ _) z,b,_,rfl,qM.of aY,bL.mono s2 _ _<|h2.cut lo hi⟩
 ·cases e
def aeB{lo hi:Option Expr}(hK:X.K=C.K)(ha:PX X C x a)(hl:PXP X C lo el)(hh:PXP X C hi eh):PX X C (.Subscript x (.Slice lo hi none p2) pos) (BW a el eh):=by have h:=HD (pos:=pos) (p2:=p2) (Oj.or Mj J8) ha hl hh;rw[hK] at h;refine h.imp λσ H Q hq=>?_;obtain⟨Pr,F,env,env',d,r,e,q⟩:=hq;obtain⟨x,aD,e1,e2⟩:=aR e;obtain⟨l,fH,e3,e4⟩:=aR e2;obtain⟨u,Vd,e5,e6⟩:=aR e4;obtain⟨e7,rfl⟩:=cF e6;refine⟨Pr,F,env,aD,x,r,e1,λv H1 F1 r1 s1 p1=>⟨Pr,F1,aD,fH,l,r1,e3,λH2 F2 r2 s2=>⟨Pr,F2,fH,env',u,r2,e5,λH3 F3 r3 s3=>?_⟩⟩⟩;exact RJ r3 (.inl<|Rep.mono (s2.trans s3) _ _ p1) e7 λv H' F' r' s' p'=>q v H' F' r' (((s1.trans s2).trans s3).trans s') p'
def wF(kvs:List (D×D))(q:Key):Option D:=match kvs with
 | []=>none
 | (k,d)::r=>if yD k=some q then some d else wF r q
def yw(kvs:List (D×D))(q:Key)(d:D):List (D×D):=match kvs with
 | []=>[]
 | (k,e)::r=>(if yD k=some q then (k,d) else (k,e))::yw r q d
def putD(kvs:List (D×D))(k:D)(q:Key)(d:D):List (D×D):=if (wF kvs q).isSome then yw kvs q d else kvs++[(k,d)]
theorem dM.length{K:Fg}:∀{ds} {vs},dM K F ds vs->vs.length=ds.length
 | [],_,h=>by cases h;rfl
 | (k,d)::ds,vs,h=>by
  obtain⟨q,v,r,rfl,_,_,h2⟩:=h;rw[Qq1,Qq1,h2.length]
theorem dM.val{K:Fg}(q):∀{ds} {vs},dM K F ds vs->(wF ds q=none/\yr vs q=none)\/∃d v,wF ds q=some d/\yr vs q=some v/\Rep K F d v
 | [],_,h=>by cases h;exact .inl ⟨rfl,rfl⟩
 | (k,d)::ds,vs,h=>by
  obtain⟨q',v,r,rfl,hk,h1,h2⟩:=h;unfold wF;by_cases e:q'=q
  ·subst e;rw[if_pos hk];exact .inr ⟨d,v,rfl,uN rfl,h1⟩
  ·rw[if_neg (λz=>e<|Qw8<|hk.symm.trans z),uO e];exact dM.val q h2
theorem dM.set{K:Fg}(q)(hd:Rep K F d v):∀{ds} {vs},dM K F ds vs->dM K F (yw ds q d) (vs.map λkv=>if kv.1=q then (kv.1,v) else kv)
 | [],_,h=>by cases h;exact rfl
 | (k,e)::ds,vs,h=>by
  obtain⟨q',u,r,rfl,hk,h1,h2⟩:=h;unfold yw;by_cases e':q'=q
  ·subst e';rw[if_pos hk];refine⟨q',v,_,?_,hk,hd,dM.set q' hd h2⟩;rw[Qq7,if_pos rfl]
  ·rw[if_neg (λz=>e'<|Qw8<|hk.symm.trans z)];refine⟨q',u,_,?_,hk,h1,dM.set q hd h2⟩;rw[Qq7,if_neg e']
theorem dM.append{K:Fg}:∀{ds es} {vs ws},dM K F ds vs->dM K F es ws->dM K F (ds++es) (vs++ws)
 | [],es,vs,ws,h,g=>by cases h;exact g
 | (k,d)::ds,es,vs,ws,h,g=>by
  obtain⟨q,v,r,rfl,h0,h1,h2⟩:=h;exact⟨q,v,r++ws,rfl,h0,h1,dM.append h2 g⟩
theorem Hk(q)(d):∀kvs,(yw kvs q d).length=kvs.length
 | []=>rfl
 | (k,e)::r=>by unfold yw;rw[Qq1,Qq1,Hk q d r]
def Ti(kvs)(k)(q)(d):(putD kvs k q d).length<=kvs.length+1:=by
 unfold putD;split
 ·rw[Hk];omega
 ·rw[Qqz];exact Qqy _
def dM.put{K:Fg}(h:dM K F ds vs)(hk:yD k=some q)(hd:Rep K F d v):dM K F (putD ds k q d) (putK vs q v):=by
 unfold putD putK;rw[yU];rcases h.val q with ⟨e1,e2⟩|⟨d',v',e1,e2,_⟩
 ·rw[e1,e2];exact h.append ⟨q,v,[],rfl,hk,hd,rfl⟩
 ·rw[e1,e2];exact dM.set q hd h
def acJ{K:Fg}(h:yD k=some q)(p:Rep K F k v):v=kV q:=by
 cases k with
 | int i=>cases h;exact p
 | str x=>cases h;exact p.1
 | _=>cases h
def acK{K:Fg}(h:yD k=some q)(p:jg K F H k v):v=kV q:=by
 cases k with
 | int i=>cases h;exact p.int
 | str x=>cases h;exact p.str.1
 | _=>cases h
def jg.dct{K:Fg}(s:aQ F H)(h:jg K F H (.dct kvs) v):kvs.length<=sizeLine/\∃a ks,v = .ref a/\Rd H a (.dK ks)/\dM K F kvs ks:=by
 rcases h with ⟨z,a,vs,rfl,h1,h2⟩|⟨a,rfl,z,vs,h1,h2⟩
 ·exact⟨z,a,vs,rfl,aQ.rd s h1,h2⟩
 ·exact⟨z,a,vs,rfl,.inl h1,h2⟩
def ZM:R2:=λx y H Q=>∃a v,x = .ref a/\Zd H a y (some v)/\Q v H
def mz:D->D->Option D
 | .dct kvs,k=>(yD k).bind λq=>wF kvs q
 | _,_=>none
def XF:qI C ZM mz:=by
 intro Pr F env σ H x y d vx vy Q r px py e q;unfold mz at e;split at e
 ·obtain⟨z,a,ks,rfl,h1,h2⟩:=px.dct r.fr;obtain⟨k,hk,hv⟩:=Qx2.mp e;cases acK hk py;rcases h2.val k with ⟨e1,_⟩|⟨d',v',e1,e2,p2⟩
  ·rw[e1] at hv;cases hv
  ·rw[e1] at hv;cases hv;exact⟨a,v',rfl,.inl ⟨ks,k,h1,rfl,e2.symm⟩,q _ _ F r (aQ.refl F) p2⟩
 ·cases e
def Te{px:Pos}(i)(hu:X.A.units+1<cLine)(hN:X.N[i]? = some x)(hv:wg X.env.scope x)(hb:Q4 X C y b)(hs:Zc y:=by intro _ _;rfl)
  (hd:lr x:=by decide) (hcd:uz x:=by decide):PX X C (.Subscript (.Name x px) y pos) (ak mz i b):=by
 have h:PE X (.Subscript (.Name x px) y pos) (ZG ZM _ _):=Xo hu (j0 hN hv hd hcd) hb hs;exact h.imp<|tD XF
def Fx:Ev:=λenv=>.ok (.dct []) env
def SN:V7 X C (.Dict [] [] pos) Fx:=Tz.imp λσ H Q hq=>by
 obtain⟨Pr,F,env,env',d,r,e,q⟩:=hq;cases e;exact λp hp=>q _ _ F (r.fresh hp) (aQ.refl F)<|VN.of r hp ⟨Qzz _,[],aY,rfl⟩
def ue(i:Nat)(k a:Ev):cu:=λenv=>kJ (a env) λd aD=>match aD[i]? with
 | some (some (_,_))=>kJ (k aD) λkd fH=>(match fH[i]?,yD kd with
  | some (some (true,.dct kvs)),some q=>if kvs.length<sizeLine then .nx (fH.set i (some (true,.dct (putD kvs kd q d)))) else .stuck
  | _,_=>.stuck)
 | _=>.stuck
def SJ(hu:X.A.units+1<cLine)(hN:X.N[i]? = some x)(hv:wg X.env.scope x)(hk:PX X C k ek)(he:PX X C e a)
  (hs:swapsWith e (some (.Subscript (.Name x px) k pos')) pos.line X.env=pure false:=by rfl)
  (hd:lr x:=by decide) (hcd:uz x:=by decide):Lq X C (.Assign [.Subscript (.Name x px) k pos'] e pos) (ue i ek a):=
 (Xe hu (j0 hN hv hd hcd) hk he hs).imp λD σ H h=>by
  obtain⟨Pr,F,env,r,f⟩:=h;obtain⟨d,aD,e1,f1⟩:=dW f;refine⟨Pr,F,env,aD,d,r,e1,λv H1 F1 r1 s1 p1=>?_⟩;split at f1
  ·rename_i o0 d0 h0;obtain⟨v0,hv0,_⟩:=r1.rd h0;obtain⟨kd,fH,e2,f2⟩:=dW f1;refine⟨v0,hv0,Pr,F1,aD,fH,kd,r1,e2,λvk H2 F2 r2 s2 p2=>?_⟩;split at f2
   ·rename_i kvs q h2 hq;split at f2
    ·rename_i hz;obtain⟨b,g1,⟨z,ks,g2,g3⟩,g4,g5⟩:=r2.own i _ h2;rw[hv0] at g1;cases g1;have hz':ks.length<sizeLine:=by rw[g3.length];exact hz
     cases acJ hq p2;refine⟨b,_,rfl,VV.k g2 hz',?_⟩;refine f2 σ _ F2 (r2.write h2 hv0 ⟨Qq0 (Ti _ _ _ _) hz,_,aY,g3.put hq<|Rep.mono s2 _ _ p1⟩)<|s1.trans s2
    ·exact f2.elim
   ·exact f2.elim
  ·exact f1.elim
def KY(x:List Nat):List (List Nat)->List (List Nat)
 | []=>[x]
 | y::r=>if y<x then y::KY x r else x::y::r
def dH:List (List Nat)->List (List Nat)
 | []=>[]
 | x::r=>KY x (dH r)
theorem xr(x):∀l,(KY x l).Perm (x::l)
 | []=>.refl _
 | y::r=>by
  unfold KY;split
  ·exact((xr x r).cons y).trans<|.swap x y r
  ·exact .refl _
theorem fW:∀l,(dH l).Perm l
 | []=>.refl _
 | x::r=>(xr x<|dH r).trans<|(fW r).cons x
theorem xZ(x):∀l,l.Pairwise (λa b=>a<=b)->(KY x l).Pairwise (λa b=>a<=b)
 | [],_=>List.pairwise_singleton _ _
 | y::r,h=>by
  unfold KY;have h1:=Qw1.mp h;split
  ·rename_i hyx;refine Qw1.mpr ⟨λz hz=>?_,xZ x r h1.2⟩;rcases Qq3.mp ((xr x r).mem_iff.mp hz) with rfl|hz
   ·exact List.le_of_lt hyx
   ·exact h1.1 z hz
  ·rename_i hyx;have hxy:=List.not_lt.mp hyx;refine Qw1.mpr ⟨λz hz=>?_,h⟩;rcases Qq3.mp hz with rfl|hz
   ·exact hxy
   ·exact List.le_trans hxy<|h1.1 z hz
theorem mF:∀l,(dH l).Pairwise (λa b=>a<=b)
 | []=>.nil
 | x::r=>xZ x _<|mF r
theorem CJ:∀p l,risingS p l=true->(p::l).Pairwise (λa b=>a.cps.toList<=b.cps.toList)
 | p,[],_=>List.pairwise_singleton _ _
 | p,x::r,h=>by
  have h':(!Spec.ltCps x.cps.toList p.cps.toList&&risingS x r)=true:=h;rw[Qq2,PyProof.Rows.ltCps_eq] at h';have hxp:¬x.cps.toList<p.cps.toList:=by
   have:=h'.1
   simpa using this
  have ih:=CJ x r h'.2;refine Qw1.mpr ⟨λz hz=>?_,ih⟩;have hpx:=List.not_lt.mp hxp;rcases Qq3.mp hz with rfl|hz
  ·exact hpx
  ·exact List.le_trans hpx<|(Qw1.mp ih).1 z hz
theorem O8:∀l,sortedS l=true->l.Pairwise (λa b=>a.cps.toList<=b.cps.toList)
 | [],_=>.nil
 | x::r,h=>CJ x r h
def sH(s):strOf s.cps.toList=s:=by obtain⟨c⟩:=s;simp[strOf]
def DY(e:ss=xs.map strOf)(hp:ss'.Perm ss)(hs:sortedS ss'=true):ss'=(dH xs).map strOf:=by
 subst e;have h1:(ss'.map λs=>s.cps.toList).Perm xs:=by
  have:=hp.map (λs:Str=>s.cps.toList);rw[Qw6] at this;have e2:xs.map ((λs:Str=>s.cps.toList) ∘ strOf)=xs:=by rw[Qx9 (g:=id) (λx _=>by simp[strOf])];simp
  rwa [e2] at this
 have h2:(ss'.map λs=>s.cps.toList)=dH xs:=by refine List.Perm.eq_of_pairwise (λa b _ _=>List.le_antisymm) ?_ (mF xs)<|h1.trans (fW xs).symm;exact List.pairwise_map.mpr<|O8 ss' hs
 rw[<-h2,Qw6];have e3:∀l:List Str,l.map (strOf ∘ λs=>s.cps.toList)=l:=λl=>by
  induction l with
  | nil=>rfl
  | cons a r ih=>rw[Qq7,ih];show strOf a.cps.toList::r=a::r;rw[sH]
 exact(e3 ss').symm
theorem uM:∀{us} {ss},StrsAre us ss->Vals (ss.map V.str) us
 | _,_,.nil=>.nil
 | _,_,.cons y t h=>.cons ⟨t,rfl⟩<|uM h
theorem uY{K:Fg}:∀(xs:List (List Nat)),(∀x∈xs,x.length<=sizeLine)->bL K F (xs.map D.str) (xs.map λz=>V.str (strOf z))
 | [],_=>rfl
 | x::xs,h=>⟨_,_,rfl,⟨rfl,h x<|Qqk ..⟩,uY xs λy hy=>h y<|Qqw _ hy⟩
def Em(K:Fg):List V->Hp->VK->Prop:=λxs H Q=>∃p zs,xs=[.ref p]/\(mR K H p (zs.map λz=>V.str (strOf z))\/∃ks,Rd H p (.dK ks)/\ks.map (·.1)=zs.map λz=>Sum.inr (strOf z))/\zs.length<64/\∀l,H l=none->Q (.ref l) (upd H l (.lst ((dH zs).map λz=>V.str (strOf z))))
def zf{σ:L2.St}{a:Addr}(I:Inv X pins σ H s)(hz:zs.length<64)(q:∀l,H l=none->Q (.ref l) (upd H l (.lst ((dH zs).map λz=>V.str (strOf z)))))
  (a1:StrsAre out.toList ss') (a2:ss'.Perm (zs.map strOf)) (a3:sortedS ss'=true) (hk:∀b o,s.heap.get? b=some o->h'.get? b=some o) (ha:s.heap.objs.size<=a) (ho:h'.get? a=some (seqObj "list" out e)):EP X pins σ Q (.ref a) { s with heap:=h',toks:=tk }:=by
 have e1:=DY rfl a2 a3;subst e1;have rv:=uM a1;rw[Qw6] at rv;have hl:((dH zs).map λz=>V.str<|strOf z).length<=sizeLine:=by rw[Qqj,(fW zs).length_eq];exact Qq0 (Qz7 hz) (by decide)
 exact⟨.ref a,_,I.laid hk ha<|show gf X.prog X.w _ h' a (.lst<|(dH zs).map λz=>V.str<|strOf z) from⟨hl,out.toList,e,rv,by simpa[seqObj] using ho⟩,rfl,q a<|I.hok.fresh ha⟩
def Ju(hc:X.calm=true):ik X (.builtin "sorted") (Em X.K):=by
 intro pins s σ H xs us Q I r h;obtain⟨p,zs,rfl,hq,hz,q⟩:=h;obtain⟨u,rfl,rx⟩:=vals1 r;cases rx;rcases hq with hq|⟨ks,hq,hks⟩
 ·obtain⟨its,r',pl,hzz⟩:=I.list hq;have hS:StrsAre its (zs.map strOf):=o9 r';refine sorted_strs pl.isList hS (by rw[<-r'.length,Qqj];exact hz) λout ss' a1 a2 a3=>?_;obtain⟨e,he⟩:=sortedAll_at s.heap its out;exact zf (tk:=s.toks) I hz q a1 a2 a3 (λb o e=>sortedAll_old e) (Qkq _) he
 ·obtain⟨hz2,hsys,vs,rkv,hD⟩:=N5 I.hok hq;obtain⟨ep,hat⟩:=hD.dictAt;have hlen:vs.length=zs.length:=by
   have e1:=rkv.length;have e2:=Qjq List.length hks;rw[Qqj,Qqj] at e2;omega
  refine Calls.call_function_entry kind_sorted plain_sorted entry_sorted (args_sorted1 _) ?_;unfold Builtin.«sorted»;refine Qqq (m:=checkCount "sorted" 1 1 _)<|Qqv ?_;refine Qqq<|PySem.W.kdu_collect (A:=X.A.in1) (PySem.W.kdl_dict (knd:=iC X.prog X.w) (kvs:=vs) (ep:=ep) hsys) (I.ok.hd hc) hat (by rw[hlen];exact Qq0 (Qz7 hz) (by decide)) λh' tk acc hk hacc=>?_;have hl:acc.toList.length=vs.length:=by rw[Qzj];exact hacc.1
  have hS:StrsAre acc.toList (zs.map strOf):=by
   have keys:∀j,j<vs.length->∃v t,acc.toList[j]? = some v/\v=Value.str (strOf<|zs.getD j []) t:=λj hj=>by
    have hja:j<acc.size:=by rw[hacc.1];exact hj
    have e1:acc[j]? = some acc[j]:=by simp[hja]
    obtain⟨k,x,hx,hkx⟩:=hacc.2 j _ e1;have e2:(vs.map (·.1))[j]? = some k:=by rw[Qx3,hx];rfl
    rw[<-rkv.keys,hks,Qx3] at e2;obtain⟨z,hzj,rfl⟩:=Qw7.mp e2;rcases d9 (k:=Sum.inr<|strOf z) (v:=acc[j]) hkx with ⟨i,t,z1,_⟩|⟨y,t,z1,z2⟩
    ·cases z1
    ·cases z1;exact⟨_,t,by rw[Qzx];exact e1,by rw[z2,Qx7,hzj];rfl⟩
   have build:∀us (ys:List (List Nat)),us.length=ys.length->(∀j,j<us.length->∃v t,us[j]? = some v/\v=Value.str (strOf<|ys.getD j []) t)->StrsAre us (ys.map strOf):=λus=>by
    induction us with
    | nil=>intro ys hl _;cases ys with
     | nil=>exact .nil
     | cons _ _=>cases hl
    | cons u us ih=>intro ys hl hk;cases ys with
     | nil=>cases hl
     | cons y ys=>
      obtain⟨v,t,e1,e2⟩:=hk 0<|Nat.succ_pos _;cases e1;rw[e2];exact .cons _ t (ih ys (by simpa using hl) λj hj=>by
       obtain⟨v,t,e1,e2⟩:=hk (j+1) (by simpa using hj);exact⟨v,t,by simpa using e1,by simpa using e2⟩)
   exact build _ _ (by rw[hl,hlen]) λj hj=>keys j (by rw[<-hl];exact hj)
  refine Qqq<|wpAny_newList ?_ (by rw[hl,hlen];exact Qq0 (Qz7 hz) (by decide));have hoL:(h'.push<|seqObj "list" acc.toList.toArray 0).get? h'.objs.size=some (seqObj "list" acc.toList.toArray 0):=Qq4 _ rfl;show wpAny _ _ _ _ _ { s with heap:=h'.push<|seqObj "list" acc.toList.toArray 0,toks:=tk };refine Qqq<|Qx5 (Qz6 slot_list_sort ⟨_,hoL,rfl⟩ entry_list_sort (list_sort_treeK strKind_oneLt hoL hS.keysOf (λv₁ v₂ rest e=>keyKind_strs (by rw[<-e];exact hS)) (by rw[hl,hlen];exact hz) λst' b1 b2=>⟨_,rfl,?_⟩) (args_list_sort _));obtain⟨ss',a1,a2,a3⟩:=sorted_out_str hS b1 b2;obtain⟨e,he⟩:=sortedHeap_at (out:=(arrOf st').map (·.2)) hoL;refine Qqv ⟨_,rfl,?_⟩;have I1:L2.Inv X pins σ H { s with heap:=h',toks:=tk }:=I.kept hk;refine zf (s:={ s with heap:=h',toks:=tk }) (tk:=tk) I1 hz q a1 a2 a3 (λb o e=>?_) (Qqy _) he;have lt':=Qq9 e;rw[sortedHeap_old (Qwj lt') (by rw[size_push'];exact Qzw lt')];exact Qqx _ e
def jE:List D->Option D
 | [.lst ds]=>(fJ ds).bind λzs=>if zs.length<64/\(∀z∈zs,z.length<=sizeLine) then some (.lst ((dH zs).map .str)) else none
 | [.dct kvs]=>(fJ (kvs.map (·.1))).bind λzs=>if zs.length<64/\(∀z∈zs,z.length<=sizeLine) then some (.lst ((dH zs).map .str)) else none
 | _=>none
theorem dM.keys{K:Fg}:∀{kvs} {ks} {zs},dM K F kvs ks->fJ (kvs.map (·.1))=some zs->ks.map (·.1)=zs.map λz=>Sum.inr (strOf z)
 | [],ks,zs,h,e=>by cases h;simp[fJ] at e;subst e;rfl
 | (k,d)::kvs,ks,zs,h,e=>by
  obtain⟨q,v,r,rfl,h0,h1,h2⟩:=h;cases k with
  | str x=>
   cases h0;have e':(fJ<|kvs.map (·.1)).map (x :: ·)=some zs:=by simpa[fJ] using e
   obtain⟨zs',e1,rfl⟩:=Qw7.mp e';rw[Qq7,Qq7,dM.keys h2 e1]
  | _=>simp[fJ] at e
def zc(r:Rel C Pr F env σ H)(hl:H l=none)(hz:zs.length<64/\∀z∈zs,z.length<=sizeLine) :
  kj C.K F (upd H l (.lst ((dH zs).map λz=>V.str (strOf z)))) (.lst ((dH zs).map .str)) l:=by
 refine⟨by rw[Qqj,(fW zs).length_eq];exact Qq0 (Qz7 hz.1) (by decide),_,aY,uY _ λz h=>hz.2 z<|(fW zs).mem_iff.mp h⟩
def QB:CallD C (Em C.K) jE:=by
 intro Pr F env σ H ds d vs Q r p e q;have fin:∀zs l,(zs.length<64/\∀z∈zs,z.length<=sizeLine)->d = .lst ((dH zs).map .str)->H l=none->Q (.ref l) (upd H l<|.lst<|(dH zs).map λz=>V.str<|strOf z):=λzs l hz hd hl=>by
  subst hd;obtain⟨F2,r2,s2,p2⟩:=(r.fresh hl).keep<|VN.of r hl<|zc r hl hz;exact q _ _ F2 r2 s2 p2
 unfold jE at e;split at e
 ·obtain⟨v,w,rfl,p1,p2⟩:=p;cases p2;obtain⟨zs,e1,e2⟩:=Qx2.mp e;split at e2
  ·rename_i hz;cases e2;obtain⟨z,a,ws,rfl,h1,h2⟩:=p1.lst r.fr;have e6:=mX e1 h2;subst e6;exact⟨a,zs,rfl,.inl<|mR.of h1,hz.1,λl hl=>fin zs l hz rfl hl⟩
  ·cases e2
 ·obtain⟨v,w,rfl,p1,p2⟩:=p;cases p2;obtain⟨zs,e1,e2⟩:=Qx2.mp e;split at e2
  ·rename_i hz;cases e2;obtain⟨z,a,ks,rfl,h1,h2⟩:=p1.dct r.fr;exact⟨a,zs,rfl,.inr ⟨ks,h1,h2.keys e1⟩,hz.1,λl hl=>fin zs l hz rfl hl⟩
  ·cases e2
 ·cases e
def Pu{p:Pos}(hK:X.K=C.K)(hc:X.calm=true)(hg:Gl X "sorted")(hm:X.mg "sorted" = none)(ha:Y9 X C [e] a)(he:Bg e X.env:=by rfl)(hpl:(backTo pos (starEach [] X.env)).any (·.1)=false:=by rfl) :
  PX X C (.Call (.Name "sorted" p) [e] [] pos) (ao jE a):=
 pD (by rw[<-hK];exact Ju hc) QB hg hm PyProof.Rows.boot_sorted ha (by decide) (by decide) he hpl
end
def Rel.pad(m)(r:Rel C Pr F env σ H):Rel C Pr F (env++List.replicate m none) (u5 m σ) H:=by
 have un:∀j x,(env++List.replicate m none)[j]? = some (some x)->env[j]? = some (some x):=λj x he=>by
  by_cases hj:j<env.length
  ·rwa [Qw9 hj] at he
  ·rw[Qx1 (by omega),Qjv] at he;split at he<;>cases he
 have up:∀j v,σ[j]? = some (some v)->(u5 m σ)[j]? = some (some v):=λj v h=>by
  unfold u5;rw[Qw9 (Qwq.mp h).1];exact h
 have dn:∀j v,(u5 m σ)[j]? = some (some v)->σ[j]? = some (some v):=λj v he=>by
  unfold u5 at he;by_cases hj:j<σ.length
  ·rwa [Qw9 hj] at he
  ·rw[Qx1 (by omega),Qjv] at he;split at he<;>cases he
 refine⟨r.pr,r.fr,by unfold u5;rw[Qqz,Qqz,Qz4,Qz4,r.len],λj e he=>?_,λj e he=>?_,λj k e f b hj hk g1 g2=>r.apart j k e f b (un _ _ hj) (un _ _ hk) (dn _ _ g1)<|dn _ _ g2,r.dj,λj a h=>up _ _<|r.fix j a h⟩
 ·obtain⟨v,h1,h2⟩:=r.val j e<|un _ _ he;exact⟨v,up _ _ h1,h2⟩
 ·obtain⟨a,h1,h2⟩:=r.own j e<|un _ _ he;exact⟨a,up _ _ h1,h2⟩
def Rel.cut{σ σ0:L2.St}(r:Rel C Pr F env σ H)(h:σ.take σ0.length=σ0)(fix:∀i a,C.fx i=some a->σ0[i]? = some (some (V.ref a))):Rel C Pr F (env.take σ0.length) σ0 H:=by
 have hl:σ0.length<=σ.length:=by have:=Qjq List.length h;rw[Qx0] at this;omega
 have un:∀j x,(env.take σ0.length)[j]? = some (some x)->env[j]? = some (some x)/\j<σ0.length:=λj x he=>by
  have hj:j<σ0.length:=by have:=(Qwq.mp he).1;rw[Qx0] at this;omega
  rw[Qjj hj] at he;exact⟨he,hj⟩
 have dn:∀j,j<σ0.length->σ[j]? = σ0[j]?:=λj hj=>by
  have:=Qjj (l:=σ) hj;rw[h] at this;exact this.symm
 refine⟨r.pr,r.fr,by rw[Qx0,r.len];omega,λj e he=>?_,λj e he=>?_,λj k e f b hj hk g1 g2=>r.apart j k e f b (un _ _ hj).1 (un _ _ hk).1 (by rw[dn _ (un _ _ hj).2];exact g1) (by rw[dn _ (un _ _ hk).2];exact g2),r.dj,fix⟩
 ·obtain⟨e1,e2⟩:=un _ _ he;rw[<-dn j e2];exact r.val j e e1
 ·obtain⟨e1,e2⟩:=un _ _ he;rw[<-dn j e2];exact r.own j e e1
def Gr(g:GV)(c:gh)(e:Ev):List D->Env->R (List D)
 | [],env=>.ok [] env
 | d::ds,env=>(match g d env with
  | none=>.stuck
  | some e1=>bindR (c e1) λb e2=>if b=true then bindR (e e2) λy e3=>bindR (Gr g c e ds e3) λys e4=>.ok (y::ys) e4 else Gr g c e ds e2)
def fY(lo n:Nat)(it:dG)(g:GV)(c:gh)(e:Ev):Ev:=λenv=>bindR (it env) λds aD=>if aD.length=lo then bindR (Gr g c e ds (aD++List.replicate (n - lo) none)) λys fH=>(if ys.length<=sizeLine then .ok (.lst ys) (fH.take lo) else .stuck) else .stuck
def QT(X:Cx)(C:Cfg)(ifs:List Expr)(ev:gh):Prop:=PIf X ifs (tT C ev)
def cL:gh:=λenv=>.ok true env
def S5:QT X C [] cL:=λpins s σ H Q I h=>by
 obtain⟨Pr,F,env,env',b,r,e,q⟩:=h;cases e;exact Xi pins s σ H Q I<|q H F r<|aQ.refl F
def Z5{lo n:Nat}(h:tN C (fY lo n it g c e) σ H Q):tLC n (tI C it) (tG C lo g) (tT C c) (tE C e) σ H Q:=by
 obtain⟨Pr,F,env,env',d,r,ev,q⟩:=h;obtain⟨ds,aD,e1,e2⟩:=aR ev;split at e2
 ·rename_i hlo;obtain⟨ys,fH,e3,e4⟩:=aR e2;split at e4
  ·rename_i hz;cases e4;refine⟨Pr,F,env,aD,ds,r,e1,λJ H1 F1 r1 s1 y1 a ha=>?_⟩;have hσ:=r1.len.symm.trans hlo;have hPa:=r1.pr.free ha;refine⟨λi m σ' H'=>m=ds.length - i/\i<=ds.length/\∃F' Jo acc ws rest,Rel C (upd Pr a<|.lst ws) F' Jo σ' H'/\aQ F1 F'/\bL C.K F' acc ws/\σ'.take lo=σ/\Gr g c e (ds.drop i) Jo = .ok rest fH/\acc++rest=ys,
    ⟨ds.length,rfl,Qzz _,F1,aD++List.replicate (n - lo) none,[],[],ys,?_,aQ.refl _,rfl,?_,e3,rfl⟩,?_⟩
   ·rw[hσ];exact(r1.aside ha).pad _
   ·unfold u5;rw[<-hσ,List.take_left]
   rintro i m σ' H' ⟨rfl,hi,F',Jo,acc,ws,rest,r',s',p',t',l',hacc⟩;have hFa:F' a=none:=by
    cases ez:F' a with
    | none=>rfl
    | some w=>have:=r'.dj a w ez;rw[aY] at this;cases this
   by_cases hl:i<ds.length
   ·have hd:=Qzq hl;have hdr:=List.drop_eq_getElem_cons hl;have yy:=y1 i H'<|s'.trans r'.fr;refine .inr ⟨(yy.2 _ hd).1,λσ2 H2=>∃F' Jo acc ws rest,Rel C (upd Pr a<|.lst ws) F' Jo σ2 H2/\aQ F1 F'/\bL C.K F' acc ws/\σ2.take lo=σ/\Gr g c e (ds.drop<|i+1) Jo = .ok rest fH/\acc++rest=ys,
     λσ2 H2 h2=>⟨ds.length - (i+1),by omega,rfl,hl,h2⟩,λx H2 hy=>?_⟩
    obtain⟨F2,r2,s2,p2⟩:=qG.item r' s' y1 hd hy;rw[hdr] at l';unfold Gr at l';cases eg:g ds[i] Jo with
    | none=>rw[eg] at l';cases l'
    | some e5=>
     rw[eg] at l';obtain⟨b,e6,c1,l2⟩:=aR l';refine⟨_,F2,Jo,e5,ds[i],r2,p2,eg,λσ3 H3 F3 r3 s3 t3=>⟨_,F3,e5,e6,b,r3,c1,λH4 F4 r4 s4=>?_⟩⟩;have t3':=t3.trans t';have s24:=(s2.trans s3).trans s4;cases b with
     | false=>
      show if false=true then _ else _
      rw[if_neg Qw3];rw[if_neg Qw3] at l2;exact⟨F4,e6,acc,ws,rest,r4,s'.trans s24,bL.mono s24 _ _ p',t3',l2,hacc⟩
     | true=>
      show if true=true then _ else _
      rw[if_pos rfl];rw[if_pos rfl] at l2;obtain⟨y,e7,c2,l3⟩:=aR l2;obtain⟨ys2,e8,c3,l4⟩:=aR l3;cases l4;refine⟨_,F4,e6,e7,y,r4,c2,λv H5 F5 r5 s5 p5=>?_⟩;have hlen:acc.length+(ys2.length+1)=ys.length:=by rw[<-hacc,Qqz,Qq1]
      refine⟨ws,r5.pr _ _ aY,by rw[p'.length];omega,F5,e7,acc++[y],ws++[v],ys2,?_,s'.trans<|s24.trans s5,(bL.mono (s24.trans s5) _ _ p').append<|bL.one p5,t3',c3,by rw[Qwy];exact hacc⟩;have r6:=r5.turn (u:=.lst<|ws++[v]) aY
      rwa [Wj] at r6
   ·have ei:i=ds.length:=by omega
    subst ei;rw[List.drop_length] at l';cases l';rw[Qx4] at hacc;subst hacc;refine .inl ⟨(y1 _ H'<|s'.trans r'.fr).1 (Qj7<|Qqy _) rfl,?_⟩;have sP:aQ Pr (upd Pr a<|.lst ws):=m6 hPa;have r7:Rel C Pr F' (fH.take lo) σ H':=by
     have:=(r'.less sP).cut (by rw[hσ];exact t') r1.fix
     rwa [hσ] at this
    refine q a H' F' r7 (s1.trans s') ⟨⟨hz,ws,r'.pr _ _ aY,p'⟩,hFa,hPa,λj e he hs=>?_⟩;have hj:=(Qwq.mp hs).1;have he':fH[j]? = some (some (true,e)):=by rw[Qjj (by rw[<-hσ];exact hj)] at he;exact he
    obtain⟨b,g1,_,_,g4⟩:=r'.own j e he';have:σ'[j]? = some (some<|V.ref a):=by rw[<-t',Qjj (by rw[<-hσ];exact hj)] at hs;exact hs
    rw[this] at g1;cases g1;rw[aY] at g4;cases g4
  ·cases e4
 ·cases e2
section
variable{X:Cx}{C:Cfg}{pos:Pos}
def abr(N')(lo)(ok:nU X scope N')(hc:X.calm=true)(hi:Y7 X C tg iter it)
  (bg:∀X',km X scope N' X'->Y8 X' C lo tg g) (bc:∀X',km X scope N' X'->QT X' C ifs c) (be:∀X',km X scope N' X'->PX X' C elt e)
  (hs:∀x,foldedSetIterable iter X.env x=pure x:=by intro _;rfl):V7 X C (.ListComp elt [⟨tg,iter,ifs,0⟩] scope pos) (fY lo N'.length it g c e):=
 (aeJ ok hc hi bg bc be hs).imp λσ H Q h=>Z5 h
def Pn(N'){spos py:Pos}(lo)(ok:nU X scope N')(hc:X.calm=true)(hi:Y7 X C tg iter it)
  (bg:∀X',km X scope N' X'->Y8 X' C lo tg g) (bc:∀X',km X scope N' X'->QT X' C ifs c) (be:∀X',km X scope N' X'->PX X' C elt e)
  (hN:X.N.Nodup) (hy:X.N[i]? = some y) (hx:Loc X.env.scope y) (hfx:C.fx i=none)
  (hsw:swapsWith (.ListComp elt [⟨tg,iter,ifs,0⟩] scope pos) (some (.Name y py)) spos.line X.env=pure true)
  (hf:X.fn y=true\/X.env.scope.names.lookup y=some .local:=by first|exact .inl rfl|exact .inr rfl|assumption)
  (hs:∀x,foldedSetIterable iter X.env x=pure x:=by intro _;rfl):Lq X C (.Assign [.Name y py] (.ListComp elt [⟨tg,iter,ifs,0⟩] scope pos) spos) (jh i (fY lo N'.length it g c e)):=
 (Tj ok hc hi bg bc be hN hy hx hsw hf hs).imp λD σ H h=>by
  obtain⟨Pr,F,env,r,f⟩:=h;obtain⟨d,aD,e1,f1⟩:=dW f;have:tN C (fY lo N'.length it g c e) σ H λv H1=>Ja i v σ H1 D.nx:=⟨Pr,F,env,aD,d,r,e1,λv H1 F1 r1 s1 p1=>f1 _ H1 F1 (r1.Tg hfx p1) s1⟩;exact Z5 this
end
def qT(K:Fg)(n:Nat)(f:List D->Option D):Sp:=λvs H Q _=>∃(F:Hp) (ds:List D) (d:D),ds.length=n/\aQ F H/\bL K F ds vs/\f ds=some d/\
 ∀v H' F',aQ H H'->aQ F' H'->aQ F F'->(∀b o,F' b=some o->F b=some o\/H b=none)->Rep K F' d v->Q v H'
def spN(K:Fg)(n:Nat)(f:List D->Option D):Sp:=λvs H Q _=>∃(F:Hp) (ds:List D) (d:D),ds.length=n/\aQ F H/\bL K F ds vs/\f ds=some d/\
 ∀a H' F',aQ H H'->aQ F' H'->aQ F F'->(∀b o,F' b=some o->F b=some o\/H b=none)->kj K F' H' d a->F' a=none->H a=none->Q (.ref a) H'
def wL(K:Fg)(n:Nat)(f:List D->Option (D×D)):Sp:=λvs H Q _=>∃(F:Hp) (a:Addr) (r:List V) (x:D) (ds:List D) (d x':D),vs = .ref a::r/\ds.length+1=n/\aQ F H/\F a=none/\kj K F H x a/\bL K F ds r/\f (x::ds)=some (d,x')/\
 ∀v H' F',(∀b o,b≠a->H b=some o->H' b=some o)->aQ F' H'->aQ F F'->(∀b o,F' b=some o->F b=some o\/H b=none)->kj K F' H' x' a->Rep K F' d v->Q v H'
def Rel.after(r:Rel C Pr F env σ H)(s:aQ H H')(sF:aQ F' H')(sF':aQ F F')(nw:∀b o,F' b=some o->F b=some o\/H b=none):Rel C Pr F' env σ H':=by
 refine⟨r.pr.trans s,sF,r.len,λj e he=>?_,λj e he=>?_,r.apart,λb o e=>?_,r.fix⟩
 ·obtain⟨v,h1,h2⟩:=r.val j e he;exact⟨v,h1,Rep.mono sF' _ _ h2⟩
 ·obtain⟨a,h1,h2,h3,h4⟩:=r.own j e he;obtain⟨o,ho⟩:=h2.some;refine⟨a,h1,h2.mono sF' (by rw[ho,s _ _ ho]),?_,h4⟩;cases e:F' a with
  | none=>rfl
  | some u=>
   rcases nw a u e with z|z
   ·rw[h3] at z;cases z
   ·rw[ho] at z;cases z
 ·rcases nw b o e with z|z
  ·exact r.dj b o z
  ·exact r.pr.free z
def Rel.YT(r:Rel C Pr F env σ H)(h:env[i]? = some (some (true,d)))(hs:σ[i]? = some (some (V.ref a)))(s:∀b o,b≠a->H b=some o->H' b=some o)(sF:aQ F' H')(sF':aQ F F')(nw:∀b o,F' b=some o->F b=some o\/H b=none)(ho:kj C.K F' H' d' a):Rel C Pr F' (env.set i (some (true,d'))) σ H':=by
 obtain⟨a',h1,h2,h3,h4⟩:=r.own i d h;rw[hs] at h1;cases h1;have hi:=(Qwq.mp h).1;obtain⟨oa,hoa⟩:=h2.some;have ne:∀j e b,j≠i->env[j]? = some (some (true,e))->σ[j]? = some (some<|V.ref b)->b≠a:=λj e b hj he g z=>hj<|r.apart j i e d a he h (by rw[<-z];exact g) hs;have nF:∀b u,F b=none->H b=some u->F' b=none:=λb u e1 e2=>by
  cases e:F' b with
  | none=>rfl
  | some w=>
   rcases nw b w e with z|z
   ·rw[e1] at z;cases z
   ·rw[e2] at z;cases z
 refine⟨λb w e=>?_,sF,by rw[Qxw];exact r.len,λj e he=>?_,λj e he=>?_,λj k e f b hj hk g1 g2=>?_,λb o e=>?_,r.fix⟩
 ·have hb:b≠a:=λz=>by rw[z,h4] at e;cases e
  exact s b w hb<|r.pr b w e
 ·by_cases hj:j=i
  ·subst hj;rw[Qwz hi] at he;cases he
  ·rw[Qq6 (Ne.symm hj)] at he;obtain⟨v,g1,g2⟩:=r.val j e he;exact⟨v,g1,Rep.mono sF' _ _ g2⟩
 ·by_cases hj:j=i
  ·subst hj;rw[Qwz hi] at he;cases he;exact⟨a,hs,ho,nF a oa h3 hoa,h4⟩
  ·rw[Qq6 (Ne.symm hj)] at he;obtain⟨b,g1,g2,g3,g4⟩:=r.own j e he;obtain⟨ob,hob⟩:=g2.some;exact⟨b,g1,g2.mono sF' (by rw[hob,s b ob (ne j e b hj he g1) hob]),nF b ob g3 hob,g4⟩
 ·have un:∀j e,(env.set i<|some (true,d'))[j]? = some (some (true,e))->∃e',env[j]? = some (some (true,e')):=λj e he=>by
   by_cases hj:j=i
   ·subst hj;exact⟨d,h⟩
   ·rw[Qq6 (Ne.symm hj)] at he;exact⟨e,he⟩
  obtain⟨e',hj'⟩:=un j e hj;obtain⟨f',hk'⟩:=un k f hk;exact r.apart j k e' f' b hj' hk' g1 g2
 ·rcases nw b o e with z|z
  ·exact r.dj b o z
  ·exact r.pr.free z
section
variable{X:Cx}{C:Cfg}{pos p:Pos}{k n:Nat}{f:Addr}{fd:FuncData}{ps:List Str}{x:Str}{e:Expr}{es:List Expr}
def Ag(h:ao g a env = .ok d env'):∃ds,a env = .ok ds env'/\g ds=some d:=by obtain⟨ds,aD,e1,e2⟩:=aR h;obtain⟨e3,rfl⟩:=cF e2;exact⟨ds,e1,e3⟩
def abv(G:n6 X.prog X.w X.K X.mg X.base Cp k f fd ps (qT C.K n g))(hr:gY k X.A)(hg:Gl X x)(hm:X.mg x=some (.ref f))(hk:PySem.W.keepIn X.K (.ref f)=true)(hb:Binds X.K fd ps [])
  (ha:Om X C (e::es) a) (hn:∀env ds env',a env = .ok ds env'->ds.length=n) (hdb:lr x:=by decide) (he:starEach (e::es) X.env=(false,eval e X.env)::starEach es X.env:=by rfl) (hpl:(backTo pos (starEach es X.env)).any (·.1)=false:=by rfl) :
  PX X C (.Call (.Name x p) (e::es) [] pos) (ao g a):=(Er G hr hg hm hk hb .nil TJ ha hdb he hpl).imp λσ H Q hq=>by
 obtain⟨Pr,F,env,env',d,r,e,q⟩:=hq;obtain⟨ds,e1,e2⟩:=Ag e;refine⟨Pr,F,env,env',ds,r,e1,λvs H1 F1 r1 s1 p1=>?_⟩;show qT C.K n g (vs++[]) H1 Q E0;rw[Qx4];exact⟨F1,ds,d,hn _ _ _ e1,r1.fr,p1,e2,λv H2 F2 t1 t2 t3 t4 p2=>q v H2 F2 (r1.after t1 t2 t3 t4) (s1.trans t3) p2⟩
def W6(G:n6 X.prog X.w X.K X.mg X.base Cp k f fd ps (spN C.K n g))(hr:gY k X.A)(hg:Gl X x)(hm:X.mg x=some (.ref f))(hk:PySem.W.keepIn X.K (.ref f)=true)(hb:Binds X.K fd ps [])
  (ha:Om X C (e::es) a) (hn:∀env ds env',a env = .ok ds env'->ds.length=n) (hdb:lr x:=by decide) (he:starEach (e::es) X.env=(false,eval e X.env)::starEach es X.env:=by rfl) (hpl:(backTo pos (starEach es X.env)).any (·.1)=false:=by rfl) :
  V7 X C (.Call (.Name x p) (e::es) [] pos) (ao g a):=(Er G hr hg hm hk hb .nil TJ ha hdb he hpl).imp λσ H Q hq=>by
 obtain⟨Pr,F,env,env',d,r,e,q⟩:=hq;obtain⟨ds,e1,e2⟩:=Ag e;refine⟨Pr,F,env,env',ds,r,e1,λvs H1 F1 r1 s1 p1=>?_⟩;show spN C.K n g (vs++[]) H1 Q E0;rw[Qx4];refine⟨F1,ds,d,hn _ _ _ e1,r1.fr,p1,e2,λb H2 F2 t1 t2 t3 t4 ho hF hH=>q b H2 F2 (r1.after t1 t2 t3 t4) (s1.trans t3) ⟨ho,hF,r1.pr.free hH,λj e he hs=>?_⟩⟩;obtain⟨c,h1,h2,_⟩:=r1.own j e he;rw[hs] at h1;cases h1;obtain⟨u,hu⟩:=h2.some;rw[hH] at hu;cases hu
def dR(f:List D->Option (D×D))(i:Nat)(a:dG):Ev:=λenv=>match env[i]? with
 | some (some (true,_))=>bindR (a env) λds aD=>(match aD[i]? with
  | some (some (true,x))=>(match f (x::ds) with
   | some (d,x')=>.ok d (aD.set i (some (true,x')))
   | none=>.stuck)
  | _=>.stuck)
 | _=>.stuck
def aeE{py:Pos}(hN:X.N[i]? = some y)(hv:wg X.env.scope y)(G:n6 X.prog X.w X.K X.mg X.base Cp k f fd ps (wL C.K n g))(hr:gY k X.A)(hg:Gl X x)(hm:X.mg x=some (.ref f))(hk:PySem.W.keepIn X.K (.ref f)=true)(hb:Binds X.K fd ps [])
  (ha:Om X C es a) (hn:∀env ds env',a env = .ok ds env'->ds.length+1=n) (hdb:lr x:=by decide) (he:starEach (.Name y py::es) X.env=(false,eval (.Name y py) X.env)::starEach es X.env:=by rfl) (hpl:(backTo pos (starEach es X.env)).any (·.1)=false:=by rfl)
  (hd:lr y:=by decide) (hcd:uz y:=by decide) :
  PX X C (.Call (.Name x p) (.Name y py::es) [] pos) (dR g i a):=(Er G hr hg hm hk hb .nil TJ (fD (j0 hN hv hd hcd) ha he) hdb he hpl).imp λσ H Q hq=>by
 obtain⟨Pr,F,env,env',d,r,e,q⟩:=hq;unfold dR at e;split at e
 ·rename_i d0 h0;obtain⟨ds,aD,e1,e2⟩:=aR e;split at e2
  ·rename_i z hz;split at e2
   ·rename_i d1 z' hg;cases e2;obtain⟨a0,hs0,_⟩:=r.own i _ h0;refine⟨_,hs0,Pr,F,env,aD,ds,r,e1,λvs H1 F1 r1 s1 p1=>?_⟩;obtain⟨a1,hs1,ho1,hF1,hP1⟩:=r1.own i _ hz;rw[hs0] at hs1;cases hs1;show wL C.K n g (_::vs++[]) H1 Q E0;rw[Qx4];exact⟨F1,a0,vs,z,ds,d,z',rfl,hn _ _ _ e1,r1.fr,hF1,ho1,p1,hg,λv H2 F2 t1 t2 t3 t4 t5 p2=>q v H2 F2 (r1.YT hz hs0 t1 t2 t3 t4 t5) (s1.trans t3) p2⟩
   ·cases e2
  ·cases e2
 ·cases e
end
def envOf(n:Nat)(ds:List D):Env:=ds.map (λd=>some (false,d))++List.replicate (n - ds.length) none
def Ak(n:Nat)(x:D)(ds:List D):Env:=some (true,x)::(ds.map (λd=>some (false,d))++List.replicate (n - (ds.length+1)) none)
def dO(n:Nat)(ev:cu)(ds:List D):Option D:=match ev (envOf n ds) with
 | .rt false d _=>some d
 | .nx _=>some .non
 | _=>none
def runN(n:Nat)(ev:cu)(ds:List D):Option D:=match ev (envOf n ds) with
 | .rt true d _=>some d
 | _=>none
def jl(n:Nat)(ev:cu)(ds:List D):Option (D×D):=match ds with
 | []=>none
 | x::r=>(match ev (Ak n x r) with
  | .rt false d env=>(match env[0]? with
   | some (some (true,x'))=>some (d,x')
   | _=>none)
  | .nx env=>(match env[0]? with
   | some (some (true,x'))=>some (.non,x')
   | _=>none)
  | _=>none)
def C0(K:Fg):Cfg:=⟨K,λ_=>none⟩
def C1(K:Fg)(a:Addr):Cfg:=⟨K,λi=>if i=0 then some a else none⟩
def Dd(H F:Hp):Hp:=λb=>if (F b).isSome then none else H b
def Ig(h:Dd H F b=some o):H b=some o/\F b=none:=by
 unfold Dd at h;split at h
 ·cases h
 ·rename_i z;exact⟨h,by cases e:F b with|none=>rfl|some w=>rw[e] at z;exact absurd rfl z⟩
def zR(h:Dd H F b=none):H b=none\/∃o,F b=some o:=by
 unfold Dd at h;split at h
 ·rename_i z;exact .inr<|Qjz.mp z
 ·exact .inl h
def wY{K:Fg}(s:aQ F H)(p:bL K F ds vs):Rel (C0 K) (Dd H F) F (envOf N.length ds) (start N vs) H:=by
 have un:∀j x,(envOf N.length ds)[j]? = some (some x)->∃d,x=(false,d)/\ds[j]? = some d:=λj x he=>by
  unfold envOf at he;by_cases hj:j<(ds.map λd=>some (false,d)).length
  ·rw[Qw9 hj,Qx3] at he;obtain⟨d,h1,h2⟩:=Qw7.mp he;cases h2;exact⟨d,rfl,h1⟩
  ·rw[Qx1 (by omega),Qjv] at he;split at he<;>cases he
 refine⟨λb o e=>(Ig e).1,s,?_,λj d he=>?_,λj d he=>?_,λj k d e a hj hk=>?_,λb o e=>?_,λi a h=>by cases h⟩
 ·unfold envOf L2.start;rw[Qqz,Qqz,Qqj,Qqj,Qz4,Qz4,p.length]
 ·obtain⟨d',z,hd⟩:=un j _ he;cases z;obtain⟨v,h1,h2⟩:=p.get hd;refine⟨v,?_,h2⟩;unfold L2.start;rw[Qw9 (by rw[Qqj];exact(Qwq.mp h1).1),Qx3,h1]
  rfl
 ·obtain⟨d',z,_⟩:=un j _ he;cases z
 ·obtain⟨d',z,_⟩:=un j _ hj;cases z
 ·unfold Dd;rw[e];rfl
def aQ.Ew(s1:aQ (Dd H F) H')(s2:aQ F F')(s3:aQ F' H')(sF:aQ F H):aQ H H':=λb o e=>by
 cases z:F b with
 | none=>exact s1 b o (by unfold Dd;rw[z];exact e)
 | some w=>
  have:=sF b w z;rw[e] at this;cases this;exact s3 b o<|s2 b o z
def Kw(s2:aQ F F')(dj:∀b o,F' b=some o->Dd H F b=none)(b)(o)(h:F' b=some o):F b=some o\/H b=none:=by
 rcases zR (dj b o h) with z|⟨w,z⟩
 ·exact .inr z
 ·have:=s2 b w z;rw[h] at this;cases this;exact .inl z
section
variable{P:Program}{w:World}{K:Fg}{mg:Str->Option Value}{base:Heap}{x qual:Str}{st:Stmt}{f:Addr}{fd:FuncData}{N ps:List Str}{k:Nat}{ev:cu}
abbrev bx(P:Program)(w:World)(K:Fg)(mg:Str->Option Value)(base:Heap)(N:List Str)(qual:Str)(st:Stmt)(f:Addr)(cdv:Value)(A:Around)(outer:List PySem.Env)(s:Shared)(H:Hp)(E:XK):Cx:=(FN Cp P w K mg base N qual (aG st) f cdv A outer s H E).xn
def Jr(F:QW K x qual st f fd)(S:bA N ps (aG st))
  (hb:∀cdv A outer s H E,gY k (A.deeper (envOfC qual (aG st) s.heap.objs.size f cdv))->su (bx P w K mg base N qual st f cdv A outer s H E) (C0 K) (cH st) ev) :
  n6 P w K mg base Cp (k+1) f fd ps (qT K ps.length (dO N.length ev)):=by
 refine F.ok S (λvs H Q E h=>?_)<|λcdv A outer s H vs Q E hr h=>?_
 ·obtain⟨F0,ds,d,hl,_,p,_⟩:=h;rw[p.length,hl]
 ·obtain⟨F0,ds,d,hl,sF,p,e,q⟩:=h;refine⟨_,hb cdv A outer s H E hr,Dd H F0,F0,envOf N.length ds,wY sF p,?_⟩;unfold dO at e;split at e
  ·rename_i d' env' h1;cases e;rw[h1];exact λv σ' H' F' r' s' p'=>q v H' F' (aQ.Ew r'.pr s' r'.fr sF) r'.fr s' (Kw s' r'.dj) p'
  ·rename_i env' h1;cases e;rw[h1];exact λσ' H' F' r' s'=>q .non H' F' (aQ.Ew r'.pr s' r'.fr sF) r'.fr s' (Kw s' r'.dj) rfl
  ·cases e
def Yp(F:QW K x qual st f fd)(S:bA N ps (aG st))
  (hb:∀cdv A outer s H E,gY k (A.deeper (envOfC qual (aG st) s.heap.objs.size f cdv))->su (bx P w K mg base N qual st f cdv A outer s H E) (C0 K) (cH st) ev) :
  n6 P w K mg base Cp (k+1) f fd ps (spN K ps.length (runN N.length ev)):=by
 refine F.ok S (λvs H Q E h=>?_)<|λcdv A outer s H vs Q E hr h=>?_
 ·obtain⟨F0,ds,d,hl,_,p,_⟩:=h;rw[p.length,hl]
 ·obtain⟨F0,ds,d,hl,sF,p,e,q⟩:=h;refine⟨_,hb cdv A outer s H E hr,Dd H F0,F0,envOf N.length ds,wY sF p,?_⟩;unfold runN at e;split at e
  ·rename_i d' env' h1;cases e;rw[h1];refine λa σ' H' F' r' s' n'=>q a H' F' (aQ.Ew r'.pr s' r'.fr sF) r'.fr s' (Kw s' r'.dj) n'.own n'.nF ?_;rcases zR n'.nP with z|⟨u,z⟩
   ·exact z
   ·have:=s' a u z;rw[n'.nF] at this;cases this
  ·cases e
def Hv(s:aQ F H)(hF:F a=none)(ho:kj K F H y a)(p:bL K F ds vs):Rel (C1 K a) (λb=>if b=a then none else Dd H F b) F (Ak N.length y ds) (start N (.ref a::vs)) H:=by
 have un:∀j x,(Ak N.length y ds)[j]? = some (some x)->(j=0/\x=(true,y))\/∃i d,j=i+1/\x=(false,d)/\ds[i]? = some d:=λj x he=>by
  unfold Ak at he;cases j with
  | zero=>cases he;exact .inl ⟨rfl,rfl⟩
  | succ i=>
   rw[List.getElem?_cons_succ] at he;by_cases hj:i<(ds.map λd=>some (false,d)).length
   ·rw[Qw9 hj,Qx3] at he;obtain⟨d,h1,h2⟩:=Qw7.mp he;cases h2;exact .inr ⟨i,d,rfl,rfl,h1⟩
   ·rw[Qx1 (by omega),Qjv] at he;split at he<;>cases he
 have z0:(start N (.ref a::vs))[0]? = some (some<|V.ref a):=rfl;refine⟨λb o e=>?_,s,?_,λj d he=>?_,λj d he=>?_,λj k d e b hj hk _ _=>?_,λb o e=>?_,λi b h=>?_⟩
 ·have e':=e;split at e'
  ·cases e'
  ·exact(Ig e').1
 ·unfold Ak L2.start;simp only[Qq1,Qqz,Qqj,Qz4,p.length,Qq7];omega
 ·rcases un j _ he with ⟨_,z⟩|⟨i,d',rfl,z,hd⟩
  ·cases z
  ·cases z;obtain⟨v,h1,h2⟩:=p.get hd;refine⟨v,?_,h2⟩;unfold L2.start;rw[Qq7,Qj4,List.getElem?_cons_succ,Qw9 (by rw[Qqj];exact(Qwq.mp h1).1),Qx3,h1]
   rfl
 ·rcases un j _ he with ⟨rfl,z⟩|⟨i,d',rfl,z,hd⟩
  ·cases z;exact⟨a,z0,ho,hF,if_pos rfl⟩
  ·cases z
 ·rcases un j _ hj with ⟨rfl,_⟩|⟨i,d',rfl,z,_⟩
  ·rcases un k _ hk with ⟨rfl,_⟩|⟨i,d',rfl,z,_⟩
   ·rfl
   ·cases z
  ·cases z
 ·show(if b=a then none else Dd H F b)=none;split
  ·rfl
  ·unfold Dd;rw[e];rfl
 ·have h':(if i=0 then some a else none)=some b:=h;split at h'
  ·rename_i hi;cases h';rw[hi];exact z0
  ·cases h'
def adb(F:QW K x qual st f fd)(S:bA N (y::qs) (aG st))
  (hb:∀cdv A outer s H E a,gY k (A.deeper (envOfC qual (aG st) s.heap.objs.size f cdv))->su (bx P w K mg base N qual st f cdv A outer s H E) (C1 K a) (cH st) ev) :
  n6 P w K mg base Cp (k+1) f fd (y::qs) (wL K (qs.length+1) (jl N.length ev)):=by
 refine F.ok S (λvs H Q E h=>?_)<|λcdv A outer s H vs Q E hr h=>?_
 ·obtain⟨F0,a,r,z,ds,d,z',rfl,hl,_,_,_,p,_⟩:=h;rw[Qq1,Qq1,p.length];exact hl
 ·obtain⟨F0,a,r,z,ds,d,z',rfl,hl,sF,hFa,ho,p,e,q⟩:=h;refine⟨_,hb cdv A outer s H E a hr,_,F0,Ak N.length z ds,Hv sF hFa ho p,?_⟩;have fin:∀env' σ' H' F' v d z',env'[0]? = some (some (true,z'))->Rel (C1 K a) (λb=>if b=a then none else Dd H F0 b) F' env' σ' H'->aQ F0 F'->Rep K F' d v->(∀v H' F',(∀b o,b≠a->H b=some o->H' b=some o)->aQ F' H'->aQ F0 F'->(∀b o,F' b=some o->F0 b=some o\/H b=none)->kj K F' H' z' a->Rep K F' d v->Q v H')->Q v H':=λenv' σ' H' F' v d z' h0 r' s' p' q=>by
   obtain⟨b,g1,g2,g3,g4⟩:=r'.own 0 z' h0;have g5:=r'.fix 0 a rfl;rw[g1] at g5;cases g5;refine q v H' F' (λc o hc e=>?_) r'.fr s' (λc o e=>?_) g2 p'
   ·cases u:F0 c with
    | none=>exact r'.pr c o (by show(if c=a then none else Dd H F0 c)=some o;rw[if_neg hc];unfold Dd;rw[u];exact e)
    | some w=>
     have:=sF c w u;rw[e] at this;cases this;exact r'.fr c o<|s' c o u
   ·by_cases hc:c=a
    ·subst hc;rw[g3] at e;cases e
    ·have h1:=r'.dj c o e;have h1':=h1;rw[if_neg hc] at h1';rcases zR h1' with u|⟨w,u⟩
     ·exact .inr u
     ·have:=s' c w u;rw[e] at this;cases this;exact .inl u
  unfold jl at e;simp at e;split at e
  ·rename_i d' env' h1;split at e
   ·rename_i z1 h0;cases e;rw[h1];exact λv σ' H' F' r' s' p'=>fin env' σ' H' F' v _ _ h0 r' s' p' q
   ·cases e
  ·rename_i env' h1;split at e
   ·rename_i z1 h0;cases e;rw[h1];exact λσ' H' F' r' s'=>fin env' σ' H' F' .non .non _ h0 r' s' rfl q
   ·cases e
  ·cases e
end
structure Good(X:Cx)(C:Cfg):Prop where
 K:X.K=C.K
 calm:X.calm=true
 un:X.A.units+64<cLine
def Good.u1(G:Good X C):X.A.units+1<cLine:=Qz0 (Nat.add_le_add_left (by decide:1<=64) _) G.un
def Good.u60(G:Good X C):X.A.units+60<cLine:=Qz0 (Nat.add_le_add_left (by decide:60<=64) _) G.un
def Good.u61(G:Good X C):X.A.units+61<cLine:=Qz0 (Nat.add_le_add_left (by decide:61<=64) _) G.un
def Good.at(G:Good X C)(h:km X scope N' X'):Good X' C:=by obtain⟨_,_,_,_,_,rfl⟩:=h;exact⟨G.K,G.calm,G.un⟩
def Own(P:Program)(w:World)(K:Fg)(mg:Str->Option Value)(base:Heap)(x:Str)(k:Nat)(ps:List Str)(sp:Sp):Prop:=
 ∃f fd,n6 P w K mg base Cp k f fd ps sp/\mg x=some (.ref f)/\PySem.W.keepIn K (.ref f)=true/\Binds K fd ps []
def Glb(K:Fg)(mg:Str->Option Value)(x:Str)(d:D):Prop:=∃v u,mg x=some u/\RelV v u/\∀F,Rep K F d v
def cX(K:Fg)(mg:Str->Option Value)(x:Str)(st:Stmt)(ps:List Str):Prop:=∃f fd,QW K x x st f fd/\mg x=some (.ref f)/\Binds K fd ps []
def mq:List Str->Bool
 | []=>true
 | x::r=>!(r.contains x)&&mq r
theorem jO:∀{l},mq l=true->l.Nodup
 | [],_=>.nil
 | x::r,h=>by
  have h':(!(r.contains x)&&mq r)=true:=h;rw[Qq2] at h';refine Qkj.mpr ⟨λhm=>?_,jO h'.2⟩;have:=List.contains_iff_mem.mpr hm;rw[this] at h';exact absurd h'.1 (by decide)
def Nt(outer:List (Str×NameKind)):List (Str×NameKind)->Bool
 | []=>true
 | (n,k)::r=>(!decide (k = .free)||decide (outer.lookup n=some .cell)||decide (outer.lookup n=some .free))&&Nt outer r
theorem Jd:∀{l},Nt outer l=true->∀x∈l,x.2 = .free->outer.lookup x.1=some .cell\/outer.lookup x.1=some .free
 | [],_,x,hx,_=>by simp at hx
 | (n,k)::r,h,x,hx,hf=>by
  have h':((!decide (k = .free)||decide (outer.lookup n=some .cell)||decide (outer.lookup n=some .free))&&Nt outer r)=true:=h;rw[Qq2,Qx8,Qx8] at h';rcases Qq3.mp hx with rfl|hx
  ·rcases h'.1 with (z|z)|z
   ·have hf':=hf;rw[Qw2 hf'] at z;exact absurd z (by decide)
   ·exact .inl<|Qww z
   ·exact .inr<|Qww z
  ·exact Jd h'.2 x hx hf
def fB{X:Cx}{scope:Scope}{N':List Str}(h1:scope.kind = .function:=by rfl)(h2:mq (scope.names.map (·.1))=true:=by rfl)(h3:Nt X.env.scope.names scope.names=true:=by rfl)(h4:Vp scope.names N' X.N=true:=by rfl)(h5:Nat.ble X.N.length N'.length=true:=by rfl):nU X scope N':=
 ⟨h1,jO h2,Jd h3,h4,Qj6 h5⟩
section
variable{X:Cx}{C:Cfg}{pos p px:Pos}{x y z:Expr}{a b c:Ev}{t u:gh}{i:Nat}{n:Str}
def Zr(i)(hN:X.N[i]? = some n:=by rfl)(hv:wg X.env.scope n:=by first|exact .inl rfl|exact .inr (.inl rfl)|exact .inr (.inr rfl))(hd:lr n:=by decide)(hcd:uz n:=by decide):PX X C (.Name n pos) (aP i):=abu i hN hv hd hcd
structure Bi(X:Cx)(C:Cfg)(op:Operator)(g:D->D->Option D):Prop where
 ex:∃r,nZ X (binaryOp op) r/\qI C r g
structure Cm(X:Cx)(C:Cfg)(op:CmpOp)(g:D->D->Option D):Prop where
 ex:∃r,nZ X (compareOp op) r/\qI C r g
def dJ(G:Good X C):Bi X C .Add bM:=⟨_,Xz,by rw[G.K];exact acp⟩
def aao:Bi X C .Sub BV:=⟨_,abV,acb⟩
def Og:Bi X C .Mult pJ:=⟨_,Xx,acg⟩
def aar:Bi X C .Mod Qs:=⟨_,abZ,ach⟩
def aaq:Bi X C .Pow K4:=⟨_,abY,acf⟩
def afQ:Bi X C .LShift Qq:=⟨_,abX,ace⟩
def aap:Bi X C .RShift Fp:=⟨_,abW,acd⟩
def aas:Bi X C .BitAnd Jc:=⟨_,ab7,aco⟩
def nY(G:Good X C):Cm X C .Eq jF:=⟨_,ab5 G.u60,by rw[G.K];exact aeT⟩
def Av(G:Good X C):Cm X C .NotEq qJ:=⟨_,TY G.u60,by rw[G.K];exact Z0⟩
def Ca(G:Good X C):Cm X C .In Bh:=⟨_,ab4 G.u61,by rw[G.K];exact aeR⟩
def vQ(G:Good X C):Cm X C .NotIn gQ:=⟨_,PL G.u61,by rw[G.K];exact T7⟩
def YG:Cm X C .Is QZ:=⟨_,ab2,aeQ⟩
def YF:Cm X C .IsNot xC:=⟨_,PQ,T9⟩
def afL:Cm X C .Lt gLt:=⟨_,ab0,aeP⟩
def adq:Cm X C .Gt V2:=⟨_,aeM,aeS⟩
def ZF(o:Cm X C op g)(ha:PX X C x a)(hb:Q4 X C y b)(hm:behindInMarks op y=false:=by rfl):PXT X C (.Compare x [op] [y] pos) (cC (au g a b)):=let ⟨_,h1,h2⟩:=o.ex;W0 h1 h2 ha hb hm
variable{e:Expr}{es:List Expr}{ea:dG}
def len0:∀env ds env',aj env = .ok ds env'->ds.length=0:=Qw
def bN(hr:∀env ds env',r env = .ok ds env'->ds.length=m):∀env ds env',aa a r env = .ok ds env'->ds.length=m+1:=K7 hr
def iJ{r:dG}(hr:∀env ds env',r env = .ok ds env'->ds.length=m):∀env ds env',r env = .ok ds env'->ds.length+1=m+1:=λenv ds env' h=>by rw[hr env ds env' h]
def RV{pos':Pos}(i)(he:PX X C e a)(hnd:mq X.N=true:=by rfl)(hfx:C.fx i=none:=by rfl)(hi:X.N[i]? = some n:=by rfl)(hx:Loc X.env.scope n:=by first|exact .inl rfl|exact .inr rfl)(hs:swapsWith e (some (.Name n pos')) pos.line X.env=pure false:=by rfl)(hf:X.fn n=true\/X.env.scope.names.lookup n=some .local:=by first|exact .inl rfl|exact .inr rfl) :
  Lq X C (.Assign [.Name n pos'] e pos) (bz a (aq i)):=W2 (jO hnd) hi hx hfx he hs hf
def agX(N')(lo)(ok:nU X scope N')(G:Good X C)(hi:Y7 X C tg iter it)
  (bg:∀X',km X scope N' X'->Y8 X' C lo tg g) (bc:∀X',km X scope N' X'->QT X' C ifs cc) (be:∀X',km X scope N' X'->PX X' C elt ee)
  (hs:∀x,foldedSetIterable iter X.env x=pure x:=by intro _;rfl):V7 X C (.ListComp elt [⟨tg,iter,ifs,0⟩] scope pos) (fY lo N'.length it g cc ee):=abr N' lo ok G.calm hi bg bc be hs
def agS(N'){spos py:Pos}(lo)(i)(ok:nU X scope N')(G:Good X C)(hi:Y7 X C tg iter it)
  (bg:∀X',km X scope N' X'->Y8 X' C lo tg g) (bc:∀X',km X scope N' X'->QT X' C ifs cc) (be:∀X',km X scope N' X'->PX X' C elt ee)
  (hnd:mq X.N=true:=by rfl) (hfx:C.fx i=none:=by rfl) (hy:X.N[i]? = some n:=by rfl) (hx:Loc X.env.scope n:=by first|exact .inl rfl|exact .inr rfl)
  (hsw:swapsWith (.ListComp elt [⟨tg,iter,ifs,0⟩] scope pos) (some (.Name n py)) spos.line X.env=pure true:=by rfl)
  (hf:X.fn n=true\/X.env.scope.names.lookup n=some .local:=by first|exact .inl rfl|exact .inr rfl)
  (hs:∀x,foldedSetIterable iter X.env x=pure x:=by intro _;rfl):Lq X C (.Assign [.Name n py] (.ListComp elt [⟨tg,iter,ifs,0⟩] scope pos) spos) (jh i (fY lo N'.length it g cc ee)):=Pn N' lo ok G.calm hi bg bc be (jO hnd) hy hx hfx hsw hf hs
end
section
variable{P:Program}{w:World}{K:Fg}{mg:Str->Option Value}{base:Heap}{x:Str}{st:Stmt}{N ps:List Str}{k:Nat}{ev:cu}
def vC(hC:C.K=K)(hr:gY k (A.deeper (envOfC x (aG st) s.heap.objs.size f cdv))):Good (bx P w K mg base N x st f cdv A outer s H E) C:=⟨hC.symm,rfl,hr.units⟩
def cA(F:cX K mg x st ps)(S:bA N ps (aG st))
  (hb:∀f cdv A outer s H E,gY k (A.deeper (envOfC x (aG st) s.heap.objs.size f cdv))->Good (bx P w K mg base N x st f cdv A outer s H E) (C0 K)->su (bx P w K mg base N x st f cdv A outer s H E) (C0 K) (cH st) ev) :
  Own P w K mg base x (k+1) ps (qT K ps.length (dO N.length ev)):=by
 obtain⟨f,fd,h1,h2,h3⟩:=F;exact⟨f,fd,Jr h1 S λcdv A outer s H E hr=>hb f cdv A outer s H E hr<|vC rfl hr,h2,h1.kp,h3⟩
def Xr(F:cX K mg x st ps)(S:bA N ps (aG st))
  (hb:∀f cdv A outer s H E,gY k (A.deeper (envOfC x (aG st) s.heap.objs.size f cdv))->Good (bx P w K mg base N x st f cdv A outer s H E) (C0 K)->su (bx P w K mg base N x st f cdv A outer s H E) (C0 K) (cH st) ev) :
  Own P w K mg base x (k+1) ps (spN K ps.length (runN N.length ev)):=by
 obtain⟨f,fd,h1,h2,h3⟩:=F;exact⟨f,fd,Yp h1 S λcdv A outer s H E hr=>hb f cdv A outer s H E hr<|vC rfl hr,h2,h1.kp,h3⟩
def uw(F:cX K mg x st (y::qs))(S:bA N (y::qs) (aG st))
  (hb:∀f cdv A outer s H E a,gY k (A.deeper (envOfC x (aG st) s.heap.objs.size f cdv))->Good (bx P w K mg base N x st f cdv A outer s H E) (C1 K a)->su (bx P w K mg base N x st f cdv A outer s H E) (C1 K a) (cH st) ev) :
  Own P w K mg base x (k+1) (y::qs) (wL K (qs.length+1) (jl N.length ev)):=by
 obtain⟨f,fd,h1,h2,h3⟩:=F;exact⟨f,fd,adb h1 S λcdv A outer s H E a hr=>hb f cdv A outer s H E a hr<|vC rfl hr,h2,h1.kp,h3⟩
def iH{sc:Scope}(h1:sc.kind = .function:=by rfl)(h2:sc.isCoroutine=false:=by rfl)(h3:sc.isGenerator=false:=by rfl)(h4:mq N=true:=by rfl)(h5:N.take ps.length=ps:=by rfl)
  (h6:(ps.all λx=>decide (sc.names.lookup x=some .local)||decide (sc.names.lookup x=some .cell))=true:=by rfl) (h7:(sc.names.all λy=>!decide (y.2 = .free))=true:=by rfl):bA N ps sc:=by
 refine⟨h1,h2,h3,jO h4,h5,λx hx=>?_,λy hy z=>?_⟩
 ·have:=Qq5.mp h6 x hx;rw[Qx8] at this;rcases this with z|z
  ·exact .inl<|Qww z
  ·exact .inr<|Qww z
 ·have:=Qq5.mp h7 y hy;rw[Qw2 z] at this;exact absurd this (by decide)
end
open PySem PySem.Spec PySem.W PySem.Calls PyProof.Rows L2
theorem xM:∀(ns:List Int) i,i∈ns->Builtin.Int.intBits i<=WData.weightAll (ns.map WData.int)
 | [],_,h=>by simp at h
 | n::ns,i,h=>by
  rw[Qq7,WData.weightAll];rcases Qq3.mp h with rfl|h
  ·have e:WData.weight (.int i)=Builtin.Int.intBits i:=by rw[WData.weight];rfl
   rw[e];omega
  ·have:=xM ns i h;omega
def Lx(ns:List Int):Prop:=∀i∈ns,Builtin.Int.intBits i<=2^20
def Gd{l:OpenLaw}
  (hn:l.most=some n) (hdf:d.params.defaults=[])
  (call:∀w s₀ s₁ mg mb fa o pm cd doc a vs ns,
   Ground q loose [] XP w s₀ mg mb s₁.heap->YP w s₁.heap->
   s₁.heap.get? fa=some o->o.data = .func (docDef d.name d.params d.body d.scope pm cd doc)->s₁.heap.CodeRec cd d.name->mg d.name=some (.ref fa)->
   s₁.heap.get? a=some { cls:=.type "list",data:=.seq vs.toArray }->IntsAre vs ns->ns.length<=n->Lx ns->s₁.gens = #[]->
   codeAny (model l.prog w) callerA (.call (.ref fa) ⟨[.ref a],[]⟩) (λr s'=>r = .ok (.ret (.bool true))/\OldK s₁.heap s'.heap/\s'.os=s₁.os/\AllBare s'.gens) s₁) :
  WalkO q loose XP YP l.row.toRowW d [] (λf vs=>PySem.call f vs):=by
 intro w s₀ s₁ mg mb G Y fa o pm cd doc dV kV ho hd hcd hD hmg hg args vals as hpre hlay hrd hwl hlo;obtain rfl:dV = .none:=Dflts.none hD hdf;obtain rfl:kV = .none:=Dflts.noKw hD;obtain⟨a,vs,ns,rfl,rfl,hobj,hints,hlen⟩:=Att.Pg hn hpre hwl;have Nk:=λi hi=>by
  have h1:=(layableW_iff.mp<|layableW_arg hlay _<|Qwx.mpr rfl).2.2;rw[WData.weight] at h1;exact Qq0 (xM ns i hi) h1
 refine enter_call<|Qj8 (call w s₀ s₁ mg mb fa o pm cd doc a vs ns G Y ho (fd_plain hd) hcd hmg hobj hints hlen Nk hg) λr s' hq=>?_;obtain⟨rfl,h2,h3,h4⟩:=hq;exact⟨.inl ⟨.bool true,.bool true,[],rfl,λ_=>rfl,.bool true,Att.Py l _,λ_=>⟨List.Pairwise.nil,λ_ hm=>(nomatch hm)⟩⟩,h2,h3,h4⟩
theorem adY{l:PySem.W.OpenLaw}{K:Params->PySem.W.Frag}
  (hn:l.most=some n) (hn2:n<=sizeLine) (hdf:d.params.defaults=[]) (hr:gY k callerA)
  (hY:∀w h,YP w h->(K w.params).In h)
  (hf:∀ns,ns.length<=n->Lx ns->f [.arr (ns.map .int)]=some (.bl true))
  (F:∀w mg fa h,(K w.params).In h->h.Ns mainGlobals mg->mg d.name=some (.ref fa)->
   ∃fd,(∀s u,BindsTo s fd ⟨[u],[]⟩ [(x,u)])/\
    ∀base,(K w.params).In base->base.Ns mainGlobals mg->n6 l.prog w (K w.params) mg base Cp k fa fd [x] (qT (K w.params) 1 f)) :
  PySem.W.WalkO q loose XP YP l.row.toRowW d [] (λf vs=>PySem.call f vs):=by
 refine Gd hn hdf λw s₀ s₁ mg mb fa o pm cd doc a vs ns G Y ho hd hcd hmg hobj hints hlen Nk hg=>?_;have KX:=hY w _ Y;obtain⟨fd,hb,hF⟩:=F w mg fa _ KX G.T.g hmg;refine Up KX G.T.g G.T.b G.T.builtins G.T.nolimit hg hobj hints (Qq0 hlen hn2) hr hF hb (λH hO hS=>?_) λH e s' z=>z;refine⟨H,[.arr (ns.map .int)],.bl true,rfl,aQ.refl H,⟨_,_,rfl,⟨by rw[Qqj];exact Qq0 hlen hn2,a,_,rfl,hS,?_⟩,rfl⟩,hf ns hlen Nk,λv H' F' _ _ _ _ p=>p⟩;clear hints hlen Nk hS
 induction ns with
 | nil=>exact rfl
 | cons m ns ih=>exact⟨_,_,rfl,rfl,ih⟩
section
variable{K:Fg}{h:Heap}{mg:Str->Option Value}
def funAt{st:Stmt}{kV doc pm cdv ct:Value}(X:K.In h)(G:h.Ns mainGlobals mg)
  (a:PySem.W.nsIn K mainGlobals x=some (some (.ref f))) (l:K.lookup f=some ⟨oc,od,.func (PySem.W.fnOf x x (gm st) (cH st) (aG st) .none kV doc pm an cdv ct),osl⟩)
  (c:PySem.W.codeIn K cdv x=true) (k:PySem.W.keepIn K (.ref f)=true)
  (b:∀kV doc pm an cdv ct us,us.length=ps.length->bindArgs (PySem.W.fnOf x x (gm st) (cH st) (aG st) .none kV doc pm an cdv ct) ⟨us,[]⟩=pure (ps.zip us)):cX K mg x st ps:=
 ⟨f,_,Fw l c k,PySem.W.mg_of X G a,(Fw l c k).binds b⟩
theorem Fo(X:K.In h)(G:h.Ns mainGlobals mg)(a:PySem.W.nsIn K mainGlobals x=some (some (.str s t)))(hs:s=strOf z)(hz:z.length<=sizeLine):Glb K mg x (.str z):=
 ⟨.str s,_,PySem.W.mg_of X G a,⟨t,rfl⟩,λF=>⟨by rw[hs],hz⟩⟩
inductive Cst (K:Fg):D->V->Value->Prop where
 | str {s:Str} {z:List Nat} {t:Tok} (hs:s=strOf z) (hz:z.length<=sizeLine):Cst K (.str z) (.str s) (.str s t)
 | int {i:Int} {t:Tok}:Cst K (.int i) (.int i) (.int i t)
def Cst.rel(c:Cst K d v u):RelV v u:=by cases c<;>exact⟨_,rfl⟩
def Cst.rep(c:Cst K d v u)(F):Rep K F d v:=by
 cases c with
 | str hs hz=>exact⟨by rw[hs],hz⟩
 | int=>exact rfl
theorem UW(X:K.In h)(G:h.Ns mainGlobals mg)(e:PySem.W.nsIn K mainGlobals x=some (some (.ref a)))
  (l:K.lookup a=some ⟨.type "tuple",none,.seq #[u1,u2] n,sl⟩) (c1:Cst K d1 v1 u1) (c2:Cst K d2 v2 u2):Glb K mg x (.tup [d1,d2]):=
 ⟨.ref a,_,PySem.W.mg_of X G e,rfl,λF=>⟨by show 2<=sizeLine;decide,a,[v1,v2],rfl,.inr ⟨_,_,_,l,rfl,rfl,rfl,by show 2<=sizeLine;decide,.cons c1.rel<|.cons c2.rel .nil⟩,_,_,rfl,c1.rep F,_,_,rfl,c2.rep F,rfl⟩⟩
theorem xq(X:K.In h)(G:h.Ns mainGlobals mg)(e:PySem.W.nsIn K mainGlobals x=some none):mg x=none:=PySem.W.mg_none_of X G e
end
open PySem L2
theorem Af(P:Env->Prop):∀ds,(∀d∈ds,∀env,P env->∃e1 e2,g d env=some e1/\b e1 = .nx e2/\P e2)->∀env,P env->∃e',lW g b ds env = .nx e'/\P e'
 | [],_,env,hp=>⟨env,rfl,hp⟩
 | d::ds,h,env,hp=>by
  obtain⟨e1,e2,h1,h2,h3⟩:=h d (Qqk ..) env hp;obtain⟨e',h4,h5⟩:=Af P ds (λd' hd=>h d'<|Qqw _ hd) e2 h3;refine⟨e',?_,h5⟩;unfold lW;rw[h1];simp;rw[h2];exact h4
theorem Nv(P:List D->Env->Prop)(h:∀done d rest,all=done++d::rest->∀env,P done env->∃e1 e2,g d env=some e1/\b e1 = .nx e2/\P (done++[d]) e2):∀ds done,all=done++ds->∀env,P done env->∃e',lW g b ds env = .nx e'/\P all e'
 | [],done,ha,env,hp=>⟨env,rfl,by rw[ha,Qx4];exact hp⟩
 | d::ds,done,ha,env,hp=>by
  obtain⟨e1,e2,h1,h2,h3⟩:=h done d ds ha env hp;obtain⟨e',h4,h5⟩:=Nv P h ds (done++[d]) (by rw[Qwy];exact ha) e2 h3;refine⟨e',?_,h5⟩;unfold lW;rw[h1];simp;rw[h2];exact h4
def xD(all)(P:List D->Env->Prop)(h:∀done d rest,all=done++d::rest->∀env,P done env->∃e1 e2,g d env=some e1/\b e1 = .nx e2/\P (done++[d]) e2)(env)(h0:P [] env):∃e',lW g b all env = .nx e'/\P all e':=Nv P h all [] rfl env h0
def aB(h:a env = .nx e):aM a b env=b e:=by unfold aM;rw[h]
def cI(h:a env = .rt o d e):aM a b env = .rt o d e:=by unfold aM;rw[h]
def lO(h:it env = .ok ds e):jX it g b env=lW g b ds e:=by unfold jX;rw[h];rfl
def bJ(h:a env = .ok d e)(h':g d e=some e'):bz a g env = .nx e':=by unfold bz;rw[h];show Z4 (g d e)=_;rw[h'];rfl
def gw(h:t env = .ok true e):eQ t a b env=a e:=by unfold eQ;rw[h];rfl
def dz(h:t env = .ok false e):eQ t a b env=b e:=by unfold eQ;rw[h];rfl
def bY(h:a env = .ok d e):bw a env = .rt false d e:=by unfold bw;rw[h];rfl
def aL(h:a env = .ok ds e)(h':g ds=some d):ao g a env = .ok d e:=by unfold ao;rw[h];show gB (g ds) e=_;rw[h'];rfl
def aJ(h1:a env = .ok x e1)(h2:b e1 = .ok y e2)(h3:g x y=some d):au g a b env = .ok d e2:=by
 unfold au;rw[h1];show bindR (b e1) _=_;rw[h2];show gB (g x y) e2=_;rw[h3]
 rfl
def fM(h1:env[i]? = some (some (o',x0)))(h2:b env = .ok y e2)(h4:e2[i]? = some (some (o,x)))(h3:g x y=some d):ak g i b env = .ok d e2:=by
 unfold ak;rw[h1];show bindR (b env) _=_;rw[h2];show(match e2[i]? with|some (some (_,x))=>gB (g x y) e2|_=>.stuck)=_;rw[h4];show gB (g x y) e2=_;rw[h3]
 rfl
def aN(h1:a env = .ok d e1)(h2:r e1 = .ok ds e2):aa a r env = .ok (d::ds) e2:=by
 unfold aa;rw[h1];show bindR (r e1) _=_;rw[h2]
 rfl
def bH:aj env = .ok [] env:=rfl
def Ji(h:r env = .ok ds e)(hz:ds.length<=sizeLine):cB r env = .ok (.lst ds) e:=by unfold cB;rw[h];show(if ds.length<=sizeLine then _ else _)=_;rw[if_pos hz]
def nM(h:r env = .ok ds e)(hz:ds.length<=sizeLine):ig r env = .ok (.tup ds) e:=by unfold ig;rw[h];show(if ds.length<=sizeLine then _ else _)=_;rw[if_pos hz]
def iD(h0:env[i]? = some (some (true,x0)))(h1:a env = .ok ds e1)(h2:e1[i]? = some (some (true,x)))(h3:f (x::ds)=some (d,x')):dR f i a env = .ok d (e1.set i (some (true,x'))):=by unfold dR;rw[h0];show bindR (a env) _=_;rw[h1];show(match e1[i]? with|some (some (true,x))=>(match f (x::ds) with|some (d,x')=>R.ok d (e1.set i<|some (true,x'))|none=>R.stuck)|_=>R.stuck)=_;rw[h2];show(match f (x::ds) with|some (d,x')=>R.ok d (e1.set i<|some (true,x'))|none=>.stuck)=_;rw[h3]
def Ft(h:j4 i j=true):pJ (.int i) (.int j)=some (.int (i*j)):=by show gI j4 (λi j=>D.int<|i*j) (.int i) (.int j)=_;unfold gI;simp only;rw[if_pos h]
def vJ(h:a.length+b.length<=sizeLine):bM (.lst a) (.lst b)=some (.lst (a++b)):=by show(if a.length+b.length<=sizeLine then _ else _)=_;rw[if_pos h]
def bI(h:a env = .ok (.bl b) e):cC a env = .ok b e:=by unfold cC;rw[h];rfl
def ph(h:a env = .ok d e):jh i a env = .nx (e.set i (some (true,d))):=by unfold jh;rw[h];rfl
def vL(h:a env = .ok d e)(h':itD d=some ds):fU a env = .ok ds e:=by unfold fU;rw[h];show gB (itD d) e=_;rw[h'];rfl
def jZ(h:ev (Ak n x r) = .rt false d env)(h0:env[0]? = some (some (true,x'))):jl n ev (x::r)=some (d,x'):=by unfold jl;simp;rw[h];simp;rw[h0]
def bW(h:ev (envOf n ds) = .rt false d env):dO n ev ds=some d:=by unfold dO;rw[h]
def Fy(h:a env = .ok (.bl true) e):ju a b env=b e:=by unfold ju;rw[h];rfl
def NT(h:a env = .ok (.bl false) e):ju a b env = .ok (.bl false) e:=by unfold ju;rw[h];rfl
def ac6(h:a env = .ok (.bl true) e):Jh a b env = .ok (.bl true) e:=by unfold Jh;rw[h];rfl
def ac7(h:a env = .ok (.bl false) e):Jh a b env=b e:=by unfold Jh;rw[h];rfl
def jH(h:a env = .ok true e):du a b env = .ok true e:=by unfold du;rw[h];rfl
def cR(h:a env = .ok false e):du a b env=b e:=by unfold du;rw[h];rfl
def jb(h:a env = .ok b e):dX a env = .ok (!b) e:=by unfold dX;rw[h];rfl
theorem M7(P:Env->Prop)(f):∀ds env,P env->(∀d∈ds,∀env,P env->∃e1 e2,g d env=some e1/\e e1 = .ok (f d) e2/\P e2)->∃env',Gr g cL e ds env = .ok (ds.map f) env'/\P env'
 | [],env,hp,_=>⟨env,rfl,hp⟩
 | d::ds,env,hp,h=>by
  obtain⟨e1,e2,h1,h2,h3⟩:=h d (Qqk ..) env hp;obtain⟨e3,h4,h5⟩:=M7 P f ds e2 h3 λd' hd=>h d'<|Qqw _ hd;refine⟨e3,?_,h5⟩;unfold Gr;rw[h1];show bindR (e e1) _=_;rw[h2];show bindR (Gr g cL e ds e2) _=_;rw[h4]
  rfl
def yN{lo n:Nat}(h1:it env = .ok ds aD)(hl:aD.length=lo)(h2:Gr g c e ds (aD++List.replicate (n - lo) none) = .ok ys fH)(hz:ys.length<=sizeLine):fY lo n it g c e env = .ok (.lst ys) (fH.take lo):=by unfold fY;rw[h1];show(if aD.length=lo then _ else _)=_;rw[if_pos hl,h2];show(if ys.length<=sizeLine then _ else _)=_;rw[if_pos hz]
def dig(n)(m)(hm:0<m):∃d:Nat,d<m/\n % m=(d:Int):=by have h1:0<=n % m:=Int.emod_nonneg n (by omega);have h2:n % m<m:=Int.emod_lt_of_pos n (by omega);exact⟨(n % m).toNat,by omega,by omega⟩
def Li{α:Type}{xs:List α}(h:d<xs.length):qU xs d=some xs[d]:=qF<|Qzq h
def okN:Nat->D->Bool
 | 0,_=>false
 | n+1,.tup xs=>xs.all (okN n)
 | n+1,.lst xs=>xs.all (okN n)
 | _+1,.dct _=>false
 | _+1,.mZ _=>false
 | _+1,.clo _ _=>false
 | _+1,.arr _=>false
 | _+1,_=>true
theorem Aj:∀xs,(∀x∈xs,f x x=some true)->tV f xs xs=some true
 | [],_=>rfl
 | x::r,h=>by
  unfold tV;rw[h x (Qqk ..),Aj r λy hy=>h y<|Qqw _ hy]
  rfl
theorem Ah:∀n d,okN n d=true->bu n d d=some true
 | 0,_,h=>by cases h
 | n+1,d,h=>by
  cases d with
  | tup xs=>exact Aj xs λx hx=>Ah n x<|Qq5.mp h x hx
  | lst xs=>exact Aj xs λx hx=>Ah n x<|Qq5.mp h x hx
  | dct _=>cases h
  | mZ _=>cases h
  | clo _ _=>cases h
  | arr _=>cases h
  | non=>rfl
  | bl b=>show some (b == b)=_;simp
  | int i=>show some (i == i)=_;simp
  | str x=>show some (x == x)=_;simp
open PySem PySem.Spec PyProof.Rows L2 PySem.Builtin
def gP(z:List Nat):List (List Nat)->Option Nat
 | []=>none
 | y::r=>if y=z then some 0 else (gP z r).map (·+ 1)
theorem CP:∀{ys} {j},gP z ys=some j->∃hj:j<ys.length,ys[j]=z/\∀m (hm:m<ys.length),m<j->ys[m]≠z
 | [],j,h=>by cases h
 | y::r,j,h=>by
  unfold gP at h;split at h
  ·rename_i e;cases h;exact⟨by simp,e,λm _ hm=>absurd hm<|Qk4 _⟩
  ·rename_i e;obtain⟨i,hi,rfl⟩:=Qw7.mp h;obtain⟨h1,h2,h3⟩:=CP hi;refine⟨by simpa using h1,by simpa using h2,λm hm hmi=>?_⟩;cases m with
   | zero=>simpa using e
   | succ m=>simpa using h3 m (by simpa using hm) (by omega)
end Ev
namespace L2
open PySem PySem.Spec PyProof.Rows PySem.Builtin PySem.Builtin.Str
section
variable{X:Cx}{o e:Expr}{to te:TE}{name:Str}{apos cpos:Pos}{id:String}{r:V->List V->Hp->VK->Prop}{t:TA}
def WW:V->List V->Hp->VK->Prop:=λx vs H Q=>∃z y i rest,x = .str z/\vs=[.str y]/\occurrences z y 0 z.length 1=i::rest/\Q (.int (i:Nat)) H
def HY:MtM X "str.index" WW:=by intro pins s σ H x vs v us Q I rx rv h;obtain⟨z,y,i,rest,rfl,rfl,ho,q⟩:=h;obtain⟨t,rfl⟩:=rx;obtain⟨u,rfl,t',rfl⟩:=rv.one;exact call_gives F.slot_str_index (Qk7 s z t) F.entry_str_index (F.args_str_index_2 _ _) (gives_str_index z y t t' i rest ho) ⟨.int i,H,I.tok _,⟨_,rfl⟩,q⟩
end
end L2
namespace Ev
open PySem PySem.Spec PyProof.Rows L2 PySem.Builtin
section
variable{X:Cx}{C:Cfg}{pos:Pos}{e x y:Expr}{a b:Ev}
def IW:D->Option D
 | .int i=>some (.int (-i))
 | _=>none
def aa1:UnD C (rU λi=>.int (-i)) IW:=by
 intro Pr F env σ H x d vx Q r px e q;cases x with
 | int i=>cases e;exact⟨i,px.int,q _ H F r (aQ.refl F) rfl⟩
 | _=>cases e
def d7:D->D->Option D
 | .str z,.str y=>(match Builtin.Str.occurrences (strOf z) (strOf y) 0 z.length 1 with|i::_=>some (.int (i:Nat))|[]=>none)
 | _,_=>none
end
structure Pr where
 p:Addr
 k:Key
 kv:Value
 v:Value
section
variable{X:Cx}{C:Cfg}{pos:Pos}
abbrev Pv:=Addr×Key×V
end
end Ev
namespace L2
open PySem PySem.Spec PyProof.Rows PySem.Builtin PySem.Builtin.Str
section
variable{X:Cx}
def Js(v)(n d:Nat):max 0 (min (if v<0 then v+(n:Int) else v) n)=(HT.fK n d (some v)):=by
 show _=(((if v<0 then (v+n).toNat else min v.toNat n):Nat):Int);by_cases hv:v<0
 ·simp[if_pos hv];omega
 ·simp[if_neg hv];omega
def range_one(a b:Nat):sliceRange a b 1=List.range' a (b - a):=by
 unfold sliceRange;have h1:(1:Int) > 0:=by decide
 simp only[if_pos h1];have hc:(if a<(b:Int) then (b - (a:Int)+1 - 1) / 1 else 0).toNat=b - a:=by
  by_cases h:a<(b:Int)
  ·rw[if_pos h,Int.ediv_one];omega
  ·rw[if_neg h];omega
 rw[hc,List.range'_eq_map_range];apply Qx9;intro k _;omega
def Tr(lo hi)(n):strSliceIndices lo hi 1 n=List.range' (HT.fK n 0 lo) (HT.fK n n hi - HT.fK n 0 lo):=by
 have h1:1 > 0:=by decide
 unfold strSliceIndices;simp[if_pos h1];rw[<-range_one]
 congr 1
 ·cases lo with
  | none=>rfl
  | some v=>exact Js v n 0
 ·cases hi with
  | none=>rfl
  | some v=>exact Js v n n
theorem Jf(c:List Nat):∀m a,a+m<=c.length->(List.range' a m).filterMap (c.toArray[·]?)=(c.drop a).take m
 | 0,a,_=>by simp
 | m+1,a,h=>by
  rw[List.range'_succ,Qz5];have e:c.toArray[a]? = some c[a]:=by simp
  rw[e,Jf c m (a+1) (by omega),List.drop_eq_getElem_cons (i:=a) (by omega),List.take_succ_cons]
def BX(z:List Nat)(lo hi:Option Int):List Nat:=(z.drop (HT.fK z.length 0 lo)).take (HT.fK z.length z.length hi - HT.fK z.length 0 lo)
def agU:V->Option Int->Option Int->Hp->VK->Prop:=λx lo hi H Q=>∃z:List Nat,x = .str ⟨z.toArray⟩/\z.length<=sizeLine/\Q (.str ⟨(BX z lo hi).toArray⟩) H
def part_of(p:IsPart v o):∃l,v=partValue l/\l.map (·.1)=o:=by
 cases p with
 | none=>exact⟨none,rfl,rfl⟩
 | int i t=>exact⟨some (i,t),rfl,rfl⟩
def aa7:Oj X agU:=by
 intro pins s σ H x v vl vu lo hi sl Q I rx hs pl pu h;obtain⟨z,rfl,hz,q⟩:=h;obtain⟨t,rfl⟩:=rx;obtain⟨l,rfl,el⟩:=part_of pl;obtain⟨u,rfl,eu⟩:=part_of pu;refine⟨"str",_,PySem.F.slot_str_getitem.lookup,Qk7 s _ t,?_⟩;obtain⟨o,h1,h2,h3⟩:=hs;refine wpAny_getItem_str_slice (st:=none) ⟨o,h1,h2,h3⟩ rfl ?_;have hp:slicePicked ⟨z.toArray⟩ l u none=List.range' (HT.fK z.length 0 lo) (HT.fK z.length z.length hi - HT.fK z.length 0 lo):=by unfold slicePicked;rw[el,eu];show strSliceIndices lo hi 1 z.toArray.size=_;rw[Qq8,Tr]
 have hle:HT.fK z.length 0 lo+(HT.fK z.length z.length hi - HT.fK z.length 0 lo)<=z.length\/HT.fK z.length z.length hi - HT.fK z.length 0 lo=0:=by have a1:=HT.El z.length 0 (Qzz _) lo;have a2:=HT.El z.length z.length (Qqy _) hi;omega
 have ahi:((slicePicked ⟨z.toArray⟩ l u none).filterMap ((⟨z.toArray⟩:Str).cps[·]?))=BX z lo hi:=by
  rw[hp];unfold BX;rcases hle with hle|hle
  ·exact Jf z _ _ hle
  ·rw[hle];simp
 unfold sliceMade;split
 ·rename_i hc;have hlen:(slicePicked ⟨z.toArray⟩ l u none).length=z.length:=by
   have:=(Qkz.mp hc).2;have:=eq_of_beq this
   simpa[Str.length] using this
  have hw:BX z lo hi=z:=by
   rw[hp,List.length_range'] at hlen;unfold BX;have a2:=HT.El z.length z.length (Qqy _) hi;have a0:HT.fK z.length 0 lo=0\/z.length=0:=by omega
   rcases a0 with a0|a0
   ·rw[a0,List.drop_zero,Qz8 (by omega)]
   ·have:=Qjx a0;subst this;simp
  rw[hw] at q;exact⟨.str ⟨z.toArray⟩,H,I,⟨t,rfl⟩,q⟩
 ·rw[ahi];refine⟨?_,⟨.str ⟨(BX z lo hi).toArray⟩,H,I.tok _,⟨_,rfl⟩,q⟩⟩;show(BX z lo hi).toArray.size<=sizeLine;rw[Qq8];unfold BX;rw[Qx0,Qxz];omega
end
end L2
namespace Ev
open PySem PySem.Spec PyProof.Rows L2 PySem.Builtin
section
variable{X:Cx}{C:Cfg}{pos:Pos}{x y:Expr}{a b:Ev}
def Vl(z)(lo hi):(BX z lo hi).length<=z.length:=by unfold BX;rw[Qx0,Qxz];omega
end
end Ev
namespace HT
open PySem PySem.Spec PyProof PyProof.Rows PySem.Builtin
section
variable{prog:Program}{w:World}{A:Around}{E:Value->Shared->Prop}{s:Shared}
def tL{lo hi:Option Int}(ht:IsTup s.heap t items)(hs:s.heap.IsSliceOf sl vl vu .none)(pl:IsPart vl lo)(pu:IsPart vu hi)
  (hw:fK items.size 0 lo=0/\fK items.size items.size hi=items.size)
  (h:Q (.ref t) s):wpAny (model prog w) A (getItem (.ref t) (.ref sl)) Q E s:=by
 obtain⟨os,hos,hcs,hds⟩:=id hs;have hTs:s.TypeIs (.ref sl) "slice":=⟨os,hos,hcs⟩;unfold getItem
 try with_reducible refine Qx5 ?_
 first|refine Qqq (Qqv ?_)|skip
 refine Qqq<|wpAny_sequenceKey ht.typeIs (by decide) ?_;refine Qqq (wpAny_callSpecial?_slot ht.typeIs Qjw
  (Qz6 Qjw ht.typeIs entry_tuple_getitem ?_<|args_tuple_getitem _ _))
 show wpAny _ _ (Builtin.Tuple.tupleItemsOf (.ref t) >>= _) _ _ s;refine Qqq<|tupleItemsOf_ ht ?_;refine Qqq<|wpAny_typeOf hTs ?_;rw[if_pos (by decide)];refine Qqq<|pq hs pl pu ?_;have ahb:(((fK items.size 0 lo):Int) == 0&&(1:Int) == 1&&(fK items.size items.size hi - fK items.size 0 lo) == items.size)=true:=by rw[hw.1,hw.2];simp
 show wpAny _ _ (if (((fK items.size 0 lo):Int) == 0&&1 == 1&&(fK items.size items.size hi - fK items.size 0 lo) == items.size)=true then _ else _) _ _ s;rw[if_pos ahb];refine Qqq ?_;unfold Builtin.Tuple.tupleIsExact;refine Qqq<|wpAny_typeOf ht.typeIs ?_;refine Qqv ?_;rw[if_pos (by decide)];exact Qqq<|wpAny_rule<|Qqv ⟨_,rfl,Qqv h⟩
end
end HT
namespace L2
open PySem PySem.Spec PyProof.Rows
section
variable{X:Cx}
def ael(K:PySem.W.Frag):V->Option Int->Option Int->Hp->VK->Prop:=λx lo hi H Q=>∃a xs,x = .ref a/\qM K H a xs/\(HT.fK xs.length 0 lo=0/\HT.fK xs.length xs.length hi=xs.length)/\Q (.ref a) H
def RG:Oj X (ael X.K):=by
 intro pins s σ H x v vl vu lo hi sl Q I rx hs pl pu h;obtain⟨a,xs,rfl,hx,hw,q⟩:=h;cases rx;obtain⟨its,r,ht,hz⟩:=I.tuple hx;have hlen:its.toArray.size=xs.length:=by rw[Qq8];exact r.length.symm
 refine⟨"tuple",_,PyProof.Rows.slot_tuple_getitem.lookup,ht.typeIs,?_⟩;refine HT.tL ht hs pl pu (by rw[hlen];exact hw) ?_;exact⟨.ref a,H,I,rfl,q⟩
end
end L2
namespace Ev
open PySem PySem.Spec PyProof.Rows L2
section
variable{X:Cx}{C:Cfg}{pos:Pos}{x:Expr}{a:Ev}
def acX:D->Option Int->Option Int->Option D
 | .tup xs,lo,hi=>if HT.fK xs.length 0 lo=0/\HT.fK xs.length xs.length hi=xs.length then some (.tup xs) else some (.tup (cutD xs lo hi))
 | _,_,_=>none
def aa8{Pr F:Hp}{x d:D}{lo hi:Option Int}(r:Rel C Pr F env σ H)(p:Rep C.K F x v)(e:acX x lo hi=some d)(q:∀v H' F',Rel C Pr F' env σ H'->aQ F F'->Rep C.K F' d v->Q v H') :
  abo C.K v lo hi H Q\/ael C.K v lo hi H Q:=by
 unfold acX at e;split at e
 ·obtain⟨z,a,vs,rfl,h1,_,h2⟩:=jg.tup r.fr<|.inl p;split at e
  ·rename_i hn;cases e;exact .inr ⟨a,vs,rfl,h1,by rw[h2.length];exact hn,q _ H F r (aQ.refl F) p⟩
  ·rename_i hn;cases e;refine .inl ⟨a,vs,rfl,h1,by rw[h2.length];exact hn,λb hb=>?_⟩;obtain⟨r2,s2⟩:=r.new hb;exact q _ _ _ r2 s2 ⟨Qq0 (rW _ _ _) z,b,_,rfl,qM.of aY,bL.mono s2 _ _<|h2.cut lo hi⟩
 ·cases e
end
end Ev
namespace L2
open PySem PySem.Spec PyProof.Rows PySem.Builtin
section
variable{X:Cx}
def Sv:List V->Hp->VK->Prop:=λxs H Q=>∃b:Bool,xs=[.bl b]/\Q (.int (if b then 1 else 0)) H
def QJ:ik X (.type "int") Sv:=by
 intro pins s σ H vs us Q I r h;obtain⟨b,rfl,q⟩:=h;cases r with
 | cons r rr=>
  cases rr;cases r;exact call_int_bool ⟨.int<|if b then 1 else 0,H,I.tok _,⟨_,rfl⟩,q⟩
end
end L2
namespace Ev
open PySem PySem.Spec PyProof.Rows L2 PySem.Builtin
section
variable{X:Cx}{C:Cfg}{pos p:Pos}{e:Expr}{ea:dG}
def Ac:List D->Option D
 | [.bl b]=>some (.int (if b then 1 else 0))
 | _=>none
def YC:CallD C Sv Ac:=by
 intro Pr F env σ H ds d vs Q r hs h q;unfold Ac at h;split at h
 ·rename_i b;cases h;obtain⟨v,rfl,hv⟩:=lJ hs;exact⟨b,by rw[hv.bl],q _ H F r (aQ.refl F) rfl⟩
 ·cases h
end
end Ev
namespace SX
open PySem PySem.Spec PyProof.Rows L2 PySem.Builtin
def jz(ys:List Str)(x:Str):List Str:=if x∈ys then ys else ys++[x]
def dY(zs:List Str):List Str:=zs.foldl jz []
def Az(ys)(x):(jz ys x).length<=ys.length+1:=by
 unfold jz;split
 ·omega
 ·simp
def qX(zs:List Str):∀ys,(zs.foldl jz ys).length<=ys.length+zs.length:=by
 induction zs with
 | nil=>intro ys;exact Qqy _
 | cons z zs ih=>intro ys;rw[Qxy,Qq1];have:=ih<|jz ys z;have:=Az ys z;omega
def led(w:World):Bool:=!(w.params.followText "set-order")
structure Ln(P:Program)(w:World)(es:Array (Int×Value))(t:SetTable)(ys:List Str):Prop where
 el:ElemsOf (strKind P w) es.toList
 tx:∃ss:List Str,StrsAre (es.toList.map (·.2)) ss/\ss.Perm ys
 fit:t.fits es.size=true
 ld:t.led=led w
 pl:es.size≠0->t.plain=false
def iW(P:Program)(w:World)(h:Heap)(a:Addr)(ys:List Str):Prop:=
 ∃o es ep t,h.get? a=some o/\o.ExactSet/\o.data = .set es ep t/\Ln P w es t ys
def iW.keep(x:iW P w h a ys)(k:∀o,h.get? a=some o->h'.get? a=some o):iW P w h' a ys:=
 let ⟨o,es,ep,t,e,r⟩:=x;⟨o,es,ep,t,k o e,r⟩
def Hg(h:StrsAre vs ss):vs.length=ss.length:=by
 induction h with
 | nil=>rfl
 | cons _ _ _ ih=>simp[ih]
def Rt(h:StrsAre vs ss):∀v∈vs,∃x t,v = .str x t/\x∈ss:=by
 induction h with
 | nil=>intro v hv;cases hv
 | cons y t _ ih=>
  intro v hv;rcases Qq3.mp hv with rfl|hv
  ·exact⟨y,t,rfl,Qqk⟩
  ·obtain⟨x,t,e,m⟩:=ih v hv;exact⟨x,t,e,Qqw _ m⟩
def O5(h:StrsAre vs ss):∀x∈ss,∃t,Value.str x t∈vs:=by
 induction h with
 | nil=>intro x hx;cases hx
 | cons y t _ ih=>
  intro x hx;rcases Qq3.mp hx with rfl|hx
  ·exact⟨t,Qqk⟩
  ·obtain⟨t,m⟩:=ih x hx;exact⟨t,Qqw _ m⟩
def Ru(h:StrsAre vs ss)(g:StrsAre us rs):StrsAre (vs++us) (ss++rs):=by
 induction h with
 | nil=>exact g
 | cons y t _ ih=>exact .cons y t ih
def sE(p:us.Perm vs):∀{ss},StrsAre vs ss->∃rs,StrsAre us rs/\rs.Perm ss:=by
 induction p with
 | nil=>intro ss h;exact⟨ss,h,.rfl⟩
 | cons x _ ih=>
  intro ss h;cases h with
  | cons y t h=>
   obtain⟨rs,h1,h2⟩:=ih h;exact⟨y::rs,.cons y t h1,h2.cons y⟩
 | swap x y l=>
  intro ss h;cases h with
  | cons a t h=>cases h with
   | cons b u h=>exact⟨b::a::_,.cons b u<|.cons a t h,.swap _ _ _⟩
 | trans _ _ ih1 ih2=>
  intro ss h;obtain⟨rs,h1,h2⟩:=ih2 h;obtain⟨qs,h3,h4⟩:=ih1 h1;exact⟨qs,h3,h4.trans h2⟩
def Ln.size(x:Ln P w es t ys):es.size=ys.length:=by obtain⟨ss,h1,h2⟩:=x.tx;rw[<-h2.length_eq,<-Hg h1,Qqj,Qzj]
def xj(t:SetTable)(n):(t.orStandIn n).led=t.led/\(t.plain=false->(t.orStandIn n).plain=false):=by
 unfold SetTable.orStandIn;split
 ·exact⟨rfl,id⟩
 ·exact⟨rfl,λ_=>rfl⟩
def ql(t)(es)(h)(x):(layNew t es h x).2.1.led=t.led/\(t.plain=false->(layNew t es h x).2.1.plain=false):=by
 unfold layNew;split
 ·exact xj _ _
 ·exact⟨rfl,λ_=>rfl⟩
def pI(h:SetTable.laid mask finger moves l p hs=some (t,o)):t.led=l/\t.plain=p:=by
 unfold SetTable.laid at h;cases h1:SetTable.layClean mask hs with
 | none=>rw[h1] at h;cases h
 | some ow=>rw[h1] at h;injection h with h;injection h with h _;subst h;exact⟨rfl,rfl⟩
def lg(t)(es)(n):(relayAll t es n).2.1.led=t.led/\(t.plain=false->(relayAll t es n).2.1.plain=false):=by
 unfold relayAll;split
 ·rename_i t' order e;obtain⟨h1,h2⟩:=pI e;dsimp only;split
  ·exact⟨h1,λz=>h2.trans z⟩
  ·exact⟨rfl,λ_=>rfl⟩
 ·exact⟨rfl,λ_=>rfl⟩
section
variable{P:Program}{w:World}{A:Around}{E:Value->Shared->Prop}{s:Shared}{a:Addr}
def pU(b)(h:Q () s₁):wpAny (model P w) A (match b with|true=>rule n|false=>pure ()) Q E s₁:=by
 cases b
 ·exact Qqv h
 ·exact wpAny_rule h
def store(ho:s.heap.get? a=some o)(hx:o.ExactSet)(hd:o.data = .set es ep t)(k:Ln P w es' t' ys)(hz:ys.length<scanBound)
  (h:∀g o',Heap.SameBut a s.heap g->g.get? a=some o'->o'.ExactSet->o'.data = .set es' (ep+1) t'->Q () { s with heap:=g }):wpAny (model P w) A (storeSet a es' t') Q E s:=by
 have hb:es'.size<scanBound:=by rw[k.size];exact hz
 refine wpAny_storeSet_of ho hd ?_<|fits_of_scanBound hb;have e:=Heap.get?_update_self (Obj.putSet es' t') ho (by rw[putSet_of es' t' hd];rfl);rw[putSet_of es' t' hd] at e;exact h _ _ (Heap.SameBut.update s.heap a _) e hx rfl
def xG(ho:s.heap.get? a=some o)(hx:o.ExactSet)(hd:o.data = .set es ep t)(x:Ln P w es t ys)(hz:ys.length+1<scanBound)
  (h:∀g b,Heap.SameBut a s.heap g->iW P w g a (jz ys k)->Q b { s with heap:=g }):wpAny (model P w) A (setAddHashed a (.str k tk) ((strKind P w).hash k)) Q E s:=by
 have hk:(strKind P w).is k (.str k tk)=true:=strKind_is P w k tk;have hsc:(Value.str k tk).scannable=true:=rfl;have hb:es.size<scanBound:=by rw[x.size];omega
 unfold setAddHashed setAddHashedIn;refine Qx5<|Qqq<|wpAny_setState_of ho hd x.fit ?_;dsimp only;rw[if_pos (byScan_of hsc hb x.el)];unfold setAddByScan;refine Qqq<|Qqq<|wpAny_rule<|Qqq<|wpAny_setScan_of hk ho hd x.fit x.el ?_;obtain⟨ss,s1,s2⟩:=x.tx;cases hr:es.toList.findIdx? (λe=>(strKind P w).is k e.2) with
 | some j=>
  dsimp only;obtain⟨hj,hpj,_⟩:=List.findIdx?_eq_some_iff_getElem.mp hr;refine Qqv<|Qqv ?_;have hm:k∈ys:=by obtain⟨y,u,e1,e2⟩:=Rt s1 (es.toList[j].2)<|Qwk.mpr ⟨_,Qk1 hj,rfl⟩;rw[e1] at hpj;have:k=y:=(strKind P w).inj _ _ _ hpj<|strKind_is P w y u;subst this;exact s2.mem_iff.mp e2
  have:=h s.heap false (Heap.SameBut.refl a s.heap) (by rw[jz,if_pos hm];exact⟨o,es,ep,t,ho,hx,hd,x⟩);cases s;exact this
 | none=>
  dsimp only;have hm:k ∉ ys:=λz=>by
   obtain⟨u,hu⟩:=O5 s1 k<|s2.mem_iff.mpr z;obtain⟨e,he,e2⟩:=Qwk.mp hu;have:=List.findIdx?_eq_none_iff.mp hr e he;rw[e2,strKind_is] at this;cases this
  have hp:=layNew_perm t es ((strKind P w).hash k)<|.str k tk;have hf:=layNew_fits t es ((strKind P w).hash k)<|.str k tk;have hl:=ql t es ((strKind P w).hash k)<|.str k tk;generalize layNew t es ((strKind P w).hash k) (.str k tk)=L at hp hf hl ⊢;obtain⟨e1,t1,wd,gv⟩:=L;dsimp only at hp hf hl ⊢;rw[Array.toList_push] at hp;have hel:ElemsOf (strKind P w) e1.toList:=(x.el.push hk hsc).perm hp;have htx:∃ss,StrsAre (e1.toList.map (·.2)) ss/\ss.Perm (ys++[k]):=by have h1:=Ru s1<|.cons k tk .nil;obtain⟨rs,h2,h3⟩:=sE (hp.map (·.2)) (by rw[Qz2];exact h1);exact⟨rs,h2,h3.trans<|s2.append_right [k]⟩
  have hxy:jz ys k=ys++[k]:=by rw[jz,if_neg hm]
  have hyz:(ys++[k]).length<scanBound:=by rw[Qqz];exact hz
  refine Qqq<|pU _ ?_
  /- the table that is laid down -/
  have hend:∀t2,t2.fits e1.size=true->t2.led=led w->t2.plain=false->wpAny (model P w) A (do
    storeSet a e1 t2
    if (!wd&&t2.tooFull)=true then do
      (match (relayAll t2 e1<|SetTable.grown e1.size).2.2 with|true=>rule "set.scan.the-table-gave-way" | false=>pure ())
      storeSet a (relayAll t2 e1<|SetTable.grown e1.size).1 (relayAll t2 e1<|SetTable.grown e1.size).2.1
      pure (some true)
     else pure (some true)) (λr s'=>wpAny (model P w) A (match r with|some added=>pure added|none=>setAddHashedIn a (.str k tk) ((strKind P w).hash k) 99999) Q E s') E s:=by
   intro t2 f2 l2 p2;have k2:Ln P w e1 t2 (ys++[k]):=⟨hel,htx,f2,l2,λ_=>p2⟩;refine Qqq<|store ho hx hd k2 hyz λg o1 sb go gx gd=>?_;split
   ·have rp:=relayAll_perm t2 e1<|SetTable.grown e1.size;have rf:=relayAll_fits t2 e1<|SetTable.grown e1.size;have rl:=lg t2 e1 (SetTable.grown e1.size);generalize relayAll t2 e1 (SetTable.grown e1.size)=L at rp rf rl ⊢;obtain⟨e3,t3,gv3⟩:=L;dsimp only at rp rf rl ⊢;obtain⟨r1,q1,q2⟩:=htx;obtain⟨rs,h2,h3⟩:=sE (rp.map (·.2)) q1;have k3:Ln P w e3 t3 (ys++[k]):=⟨hel.perm rp,⟨rs,h2,h3.trans q2⟩,rf,rl.1.trans l2,λ_=>rl.2 p2⟩;refine Qqq (pU _ ?_);refine Qqq (store (s:={ s with heap:=g }) go gx gd k3 hyz λg2 o2 sb2 go2 gx2 gd2=>?_);refine Qqv (Qqv ?_);exact h g2 true (sb.trans sb2) (by rw[hxy];exact⟨o2,_,_,_,go2,gx2,gd2,k3⟩)
   ·refine Qqv (Qqv ?_);exact h g true sb (by rw[hxy];exact⟨o1,_,_,_,go,gx,gd,k2⟩)
  split
  ·rename_i hpl;refine Qqq ?_;rw[hashByValue_scannable 8 hsc];refine Qqv ?_;exact hend _ (SetTable.fits_plain_off hf) (hl.1.trans x.ld) rfl
  ·rename_i hpl;refine Qqq (Qqv ?_);simp only[↓reduceIte];exact hend _ hf (hl.1.trans x.ld) (by simpa using hpl)
def seen(val:Nat->Str)(i:Nat):List Str:=((List.range i).map val).foldl jz []
def wO(val:Nat->Str)(i:Nat):seen val (i+1)=jz (seen val i) (val i):=by
 unfold seen;rw[List.range_succ,Qz2,List.foldl_append]
 rfl
def zp(val:Nat->Str)(i:Nat):(seen val i).length<=i:=by
 have:=qX ((List.range i).map val) []
 simpa[seen] using this
def fill{R:Result->Shared->Prop}{I:Addr}{fp wr:List Addr}{G:Array GenState->Array GenState->Prop}{n:Nat}{Pi:Nat->Value->Prop}{St:Nat->Shared->Prop}(W:WalksS P w A.in1 I fp wr G n Pi St){a:Addr}(ha:a ∉ fp){val:Nat->Str}
  (hv:∀i v,Pi i v->∃t,v = .str (val i) t) (hb:n+1<scanBound) (d:Nat):∀(i:Nat) (s:Shared),i+d=n->St i s->iW P w s.heap a (seen val i)->(∀s',Moved (a::wr) G s s'->iW P w s'.heap a (seen val n)->R (.ok (.ret .none)) s')->
  codeAny (model P w) A (.builtin "set.update.loop" ⟨[.ref a,.ref I],[]⟩) R s:=by
 have hw:a ∉ wr:=λz=>ha<|W.sub _ z;have up:∀b∈wr,b∈a::wr:=λb z=>Qqw _ z
 induction d with
 | zero=>
  intro i s e st x hR;obtain rfl:i=n:=e;refine Qz9 PyProof.Rows.F.entry_set_update_loop ?_;rw[Qzy PyProof.Rows.F.plain_set_update_loop _];show wpAny _ _ (pyNext (.ref I) >>= _) _ _ _;refine Qqq<|W.done s _ _ st λs' m=>?_;show wpAny _ _ (ret .none) _ _ _;exact Qqv<|hR s' (m.mono up)<|x.keep λo z=>m.heap a o hw z
 | succ d ih=>
  intro i s e st x hR;refine Qz9 PyProof.Rows.F.entry_set_update_loop ?_;rw[Qzy PyProof.Rows.F.plain_set_update_loop _];show wpAny _ _ (pyNext (.ref I) >>= _) _ _ _;refine Qqq<|W.item i s _ _ (by omega) st λv s' pv st' m=>?_;obtain⟨t,rfl⟩:=hv i v pv;show wpAny _ _ (holding _ (setAdd a _) >>= _) _ _ _;unfold setAdd;refine Qqq<|Qx5<|Qx5<|Qqq<|(strKind P w).pyHash (strKind_is P w (val i) t) ?_;obtain⟨o,es,ep,tb,ho,hx,hd,k⟩:=x.keep λo z=>m.heap a o hw z;refine xG ho hx hd k (by have:=zp val i;omega) λg b sb y=>?_;rw[<-wO] at y;refine Qqv ⟨Qj9 PyProof.Rows.F.plain_set_update_loop _,ih (i+1) _ (by omega) (W.frame _ s' _ _ st' (Qkq _) λc hc u z=>?_) y λs2 m2 x2=>?_⟩
  ·exact(sb.2 c<|λq=>ha<|q ▸ hc).trans z
  ·refine hR s2 (Moved.trans W.gtrans ((m.mono up).then_heap (Qkq _) λc u hc z=>?_) m2) x2;exact(sb.2 c<|λq=>hc<|q ▸ Qqk).trans z
def qg(v:Value){Q:Value->Shared->Prop}(h:Q (.ref s.heap.objs.size) { s with heap:=s.heap.push { cls:=.type "set",dict:=none,data:=.set #[] 0 (.fresh 0 0 (led w)) } }) :
  codeAny (model P w) A (.call (.builtin "set.__new__") ⟨[.type "set",v],[]⟩) (wants Q E) s:=by
 refine codeAny_of_tree ?_;show wpAny _ _ (checkBuiltinCall "set.__new__" ⟨[.type "set",v],[]⟩ >>= λ_=>again<|.builtin "set.__new__" ⟨[.type "set",v],[]⟩) _ _ s;refine Qqq<|wpAny_of_eq (PySem.F.newCall_set_1 v)<|Qqv ⟨Qj9 PySem.F.plain_set_new _,Qz9 PySem.F.entry_set_new ?_⟩;rw[Qzy PySem.F.plain_set_new _];unfold Builtin.«set.__new__» Builtin.Frozenset.newClass;have hs:=sub_set_self;obtain⟨_,_,_,_,_⟩:=s;dsimp only
 wp_walk
 refine wpAny_askSetting<|Qqv ?_;dsimp only;simp[newObj];exact Qqq<|wpAny_alloc<|Qqv<|Qqv h
def fresh(w:World):Obj:={ cls:=.type "set",dict:=none,data:=.set #[] 0 (.fresh 0 0 (led w)) }
def Ae(h:Heap){a:Addr}(e:h.get? a=some (fresh w)):iW P w h a []:=
 ⟨_, #[],0,_,e,⟨rfl,rfl,rfl⟩,rfl,⟨λ_ z=>by simp at z,⟨[],.nil,.rfl⟩,rfl,rfl,λz=>absurd rfl z⟩⟩
def Ka{l:Addr}{its:Array Value}{zs:List Str}{Q:Value->Shared->Prop}(hh:A.handled=none)(hl:s.heap.IsList l its)(hi:StrsAre its.toList zs)(hb:zs.length+1<scanBound)
  (h:∀(g:Heap) (tk:Nat),iW P w g s.heap.objs.size (dY zs)->(∀b o,s.heap.get? b=some o->g.get? b=some o)->Q (.ref s.heap.objs.size) { s with heap:=g,toks:=tk }) :
  wpAny (model P w) A (call (.type "set") [.ref l]) Q E s:=by
 obtain⟨c,tl,mro⟩:=PySem.F.called_set.mro;have made:=PySem.F.called_set.made;have sub:=PySem.F.called_set.sub;refine wpAny_call (codeAny_of_tree ?_);show wpAny _ _ (callAny (.type "set") _) _ _ _;refine Qqv ⟨Code.quiet_builtin _ (by decide +kernel),Qz9 PySem.F.entry_type_call ?_⟩;rw[Around.under_plain (weight_type_call_type "set" [.ref l] []) rfl];have c1:=PySem.F.called_set.notType;have c2:=PySem.F.called_set.canCreate;have c3:=PySem.F.typeCall_set_1 (.ref l)
 repeat (any_goals (first|assumption|wp_step))
 refine Qj8 (qg (.ref l) (E:=E) (Q:=λv s1=>v = .ref s.heap.objs.size/\s1 = { s with heap:=s.heap.push (fresh w) }) ⟨rfl,rfl⟩) λr s1 hr=>?_;have hlen:its.size=zs.length:=by rw[<-Qzj];exact Hg hi
 cases r with
 | error e=>exact hr
 | ok fl=>
  cases fl with
  | ret v=>
   obtain⟨rfl,rfl⟩:=hr;have e0:(s.heap.push (fresh w)).get? s.heap.objs.size=some (fresh w):=Qq4 _ rfl;have hT:Shared.TypeIs { s with heap:=s.heap.push (fresh w) } (.ref s.heap.objs.size) "set":=⟨_,e0,rfl⟩;have c4:=PySem.F.called_set.init.lookup;have c5:=PySem.F.called_set.init.bind (.ref s.heap.objs.size)
   repeat (any_goals (first|assumption|wp_step))
   refine Qj8 (codeAny_call_builtin (R:=wants (λr s2=>r = .none/\∃g tk,s2 = { s with heap:=g,toks:=tk }/\iW P w g s.heap.objs.size (dY zs)/\(∀b o,s.heap.get? b=some o->g.get? b=some o)) E)
    PySem.F.called_set.init.plain PySem.F.entry_set_init (check_set_init_1 hT ?_)) λr2 s2 hr2=>?_
   ·obtain⟨ol,hol,hcl,nl,hdl⟩:=hl;obtain⟨ocls,odict,odata,oslots⟩:=ol;simp only at hcl hdl;subst hcl;subst hdl;have hol':(s.heap.push (fresh w)).get? l=some { cls:=.type "list",dict:=odict,data:=.seq its nl,slots:=oslots }:=Qqx _ hol;have l1:(s.heap.push (fresh w)).IsList l its:=⟨_,hol',rfl,nl,rfl⟩;have n1:=PySem.F.sub_list_set;have n2:=PySem.F.sub_list_frozenset;have n3:(Value.type "list" == Value.type "dict")=false:=by decide
    have e1:(s.heap.push (fresh w)).get? s.heap.objs.size=some { cls:=.type "set",dict:=none,data:=.set #[] 0 (.fresh 0 0 (led w)) }:=e0;unfold Builtin.«set.__init__» noKeywords Builtin.Frozenset.updateFrom;generalize hPI:pyIter=PI
    wp_walk
    subst hPI;refine wpAny_pyIter_list l1 (Qqq (wpAny_runValue ?_));have lt:l<s.heap.objs.size:=Qq9 hol;have sz:(s.heap.push (fresh w)).objs.size=s.heap.objs.size+1:=Qjk _ _;have hh3:A.in1.in1.in1.handled=none:=by simp[hh]
    have a1:l≠(s.heap.push (fresh w)).objs.size:=by rw[sz];exact Qwj (Qzw lt)
    have a2:s.heap.objs.size ∉ [(s.heap.push (fresh w)).objs.size,l]:=by rw[sz];simp only[Qq3,Qxx,Qk2,not_or];exact⟨Qwj (Nat.lt_succ_self _),Qkw lt⟩
    have hv:∀(i:Nat) (v:Value),its[i]? = some v->∃t,v = .str (zs.getD i ⟨#[]⟩) t:=by
     have:∀{vs:List Value} {ss:List Str},StrsAre vs ss->∀(i:Nat) (v:Value),vs[i]? = some v->∃t,v = .str (ss.getD i ⟨#[]⟩) t:=by
      intro vs ss q
      induction q with
      | nil=>intro i v z;simp at z
      | cons y t _ ih=>
       intro i v z;cases i with
       | zero=>simp at z;exact⟨t,z.symm⟩
       | succ i=>simpa using ih i v (by simpa using z)
     exact λi v z=>this hi i v (by rw[Qzx];exact z)
    refine fill ((Walks.list hh3 _ l a1 its).toS) a2 (val:=λi=>zs.getD i ⟨#[]⟩) hv (by omega) its.size 0 _ (by omega) ⟨⟨_,Qq4 _ rfl,rfl,rfl⟩,l1.push _⟩ (Ae _ (Qqx _ e0)) λs' m x=>?_;have es:seen (λi=>zs.getD i ⟨#[]⟩) its.size=dY zs:=by
     unfold seen dY
     congr 1
     rw[hlen];apply List.ext_getElem
     ·simp
     ·intro i h1 h2;simp[Qx7,h2]
    rw[es] at x;obtain⟨g,gn,dr,tk,os⟩:=s';have q1:gn=s.gens:=m.gens;have q2:dr=s.drawn:=m.drawn;have q3:os=s.os:=m.os;subst q1 q2 q3;refine Qqv ?_;show wpAny _ _ (ret .none) _ _ _;refine Qqv ⟨rfl,g,tk,rfl,x,λb o e=>?_⟩;have hb1:b<s.heap.objs.size:=Qq9 e;refine m.heap b o ?_ (Qqx _ (Qqx _ e));rw[sz];simp only[Qq3,Qxx,Qk2,not_or];exact⟨Qwj hb1,Qwj (Qzw hb1)⟩
   ·cases r2 with
    | error e=>exact hr2
    | ok fl2=>
     cases fl2 with
     | ret r=>
      obtain⟨rfl,g,tk,rfl,x,k⟩:=hr2
      repeat (any_goals (first|assumption|wp_step))
      exact h _ _ x k
     | _=>exact hr2.elim
  | _=>exact hr.elim
end
def iY:Slot "set_iterator" "__next__" "set_iterator.__next__":=
 .of (owner:="set_iterator") (n:="__next__") (by rw[typeLookup_type,builtinLookup_eq_fast];kernel_rfl) (by decide +kernel) (by decide +kernel) (by decide +kernel) (by first|exact .inl (by decide +kernel)|exact .inr (by decide +kernel)) (by rw[isSubtype_type];kernel_rfl)
def Vf:entryFor table "set_iterator.__next__" = some Builtin.«set_iterator.__next__»:=entryFor_of_tree (by kernel_rfl)
def HF:Manifest.owners.lookup (String.ofList ['r', 'o', 't', 'a', 'r', 'e', 't', 'i', '_', 't', 'e', 's'].reverse)=some Manifest.sig_set_iterator:=by kernel_rfl
def YQ(a:Value):argsOk "set_iterator.__next__" ⟨[a],[]⟩:=by
 unfold argsOk;rw[signature?_of (n:=['_', '_', 't', 'x', 'e', 'n', '_', '_']) (o:=['r', 'o', 't', 'a', 'r', 'e', 't', 'i', '_', 't', 'e', 's']) (by kernel_rfl) HF]
 kernel_rfl
def Mi:Slot "set_iterator" "__iter__" "set_iterator.__iter__":=
 .of (owner:="set_iterator") (n:="__iter__") (by rw[typeLookup_type,builtinLookup_eq_fast];kernel_rfl) (by decide +kernel) (by decide +kernel) (by decide +kernel) (by first|exact .inl (by decide +kernel)|exact .inr (by decide +kernel)) (by rw[isSubtype_type];kernel_rfl)
def pM:entryFor table "set.__iter__" = some Builtin.«frozenset.__iter__»:=
 entryFor_alias (id':="frozenset.__iter__") (by kernel_rfl) rfl (by decide +kernel) (by kernel_rfl)
def Ve:entryFor table "set_iterator.__iter__" = some Builtin.«dict_keyiterator.__iter__»:=
 entryFor_alias (id':="dict_keyiterator.__iter__") (by kernel_rfl) rfl (by decide +kernel) (by kernel_rfl)
def YM(a:Value):argsOk "set_iterator.__iter__" ⟨[a],[]⟩:=by
 unfold argsOk;rw[signature?_of (n:=['_', '_', 'r', 'e', 't', 'i', '_', '_']) (o:=['r', 'o', 't', 'a', 'r', 'e', 't', 'i', '_', 't', 'e', 's']) (by kernel_rfl) HF]
 kernel_rfl
def yL(first:Value)(i:Nat)(a:Addr)(n ep:Nat):Obj:={ cls:=.type "set_iterator",data:=.fields #[first,.int i 0,.ref a,.int n 0,.int ep 0] }
section
variable{P:Program}{w:World}{A:Around}{E:Value->Shared->Prop}{s:Shared}
def MT{I a:Addr}{first:Value}{i n ep:Nat}{o:Obj}{es:Array (Int×Value)}{t:SetTable}{Q:Value->Shared->Prop}(hI:s.heap.get? I=some (yL first i a n ep))(ho:s.heap.get? a=some o)(hd:o.data = .set es ep t)(hf:t.fits es.size=true)(hn:es.size=n)
  (h:wpAny (model P w) A (match first with
   | .int slot _=>(do match <-setNext a slot.toNat i ep with
     | some (x,next)=>(do setField (.ref I) 0 (rawInt next);setField (.ref I) 1 (rawInt (i+1));ret x)
     | none=>(do setField (.ref I) 2 .none;raiseNew (<-newExc (.type "StopIteration") [])))
   | v=>(do
        let some places <-seqItems? v|unsupported "internal:set_iterator"
        match places[i]? with
        | some (.int place _)=>(do let x <-setNextDrawn a place.toNat ep;setField (.ref I) 1 (rawInt (i+1));ret x)
        | some _=>unsupported "internal:set_iterator"
        | none=>(do setField (.ref I) 0 (rawInt 0);setField (.ref I) 2 .none;raiseNew (<-newExc (.type "StopIteration") [])))) (λfin s'=>∃v,fin = .done (.ret v)/\Q v s') E s) :
  wpAny (model P w) A (Builtin.«set_iterator.__next__» ⟨[.ref I],[]⟩) (λfin s'=>∃v,fin = .done (.ret v)/\Q v s') E s:=by
 unfold Builtin.«set_iterator.__next__» slotArgs;refine Qqq<|Qqv ?_;refine Qqq<|wpAny_fieldsOf hI rfl ?_;dsimp only[yL];refine Qqq<|wpAny_setEntries_of ho hd hf ?_;rw[if_neg (by rw[hn];simp)];cases first<;>first|exact h|(simpa using h)
def Mp{I a:Addr}{first:Value}{i n ep:Nat}{Q:Value->Shared->Prop}(hI:s.heap.get? I=some (yL first i a n ep))(h:Q (.ref I) s):wpAny (model P w) A (pyIter (.ref I)) Q E s:=by have hT:s.TypeIs (.ref I) "set_iterator":=⟨_,hI,rfl⟩;refine wpAny_pyIter_slot hT Mi<|Qz6 Mi hT Ve ?_<|YM _;show wpAny _ _ (ret<|.ref I) _ _ s;exact Qqv ⟨_,rfl,"set_iterator",_,hT,iY.lookup,h⟩
def stop{Q:Fin->Shared->Prop}(hh:A.handled=none)(q:∀g e,(∀b o,s.heap.get? b=some o->g.get? b=some o)->(∃o,g.get? e=some o/\o.cls = .type "StopIteration")->E (.ref e) { s with heap:=g }) :
  wpAny (model P w) A (do raiseNew (<-newExc (.type "StopIteration") [])) Q E s:=by
 refine Qqq ?_;simp only[newExc,newTuple];refine Qqq<|Qxj ?_ (by size_fits);refine Qqq (m:=firstArgMember _ _) (wpAny_of_eq (a:=Value.none) (by first|rfl|(simp only[firstArgMember];rfl)) ?_);refine Qxj ?_ (by size_fits);simp only[raiseNew];refine Qqq (wpAny_handled ?_);rw[hh];refine Qqq (Qqv (wpAny_throw ?_));exact q _ _ (λb o e=>Qqx _ (Qqx _ e)) ⟨_,Qq4 _ rfl,rfl⟩
def MP{I a:Addr}{first:Value}{i n ep:Nat}{Q:Option Value->Shared->Prop}(hI:s.heap.get? I=some (yL first i a n ep))
  (h:wpAny (model P w) A.in1 (Builtin.«set_iterator.__next__» ⟨[.ref I],[]⟩) (λfin s'=>∃v,fin = .done (.ret v)/\Q (some v) s') (λe s'=>∃b,e = .ref b/\s'.TypeIs (.ref b) "StopIteration"/\Q none s') s):wpAny (model P w) A (pyNext (.ref I)) Q E s:=by
 have hT:s.TypeIs (.ref I) "set_iterator":=⟨_,hI,rfl⟩;unfold pyNext;refine Qqq<|wpAny_attempt<|wpAny_callSpecial?_slot (name:=Str.ofString "__next__") hT iY<|Qz6 iY hT Vf ?_<|YQ _;refine Qxk h (λfin s' x=>?_) λe s' x=>?_
 ·obtain⟨v,rfl,y⟩:=x;exact⟨v,rfl,Qqv y⟩
 ·obtain⟨b,rfl,ty,y⟩:=x;refine Qqq<|wpAny_isInstance (T:="StopIteration") (b:=true) ty isSubtype_stop ?_;exact Qqv y
structure Gq(P:Program)(w:World)(a:Addr)(o:Obj)(ep:Nat)(sl:Nat->Nat)(os:List Value):Prop where
 step:∀(A:Around) (E:Value->Shared->Prop) (s:Shared) (i:Nat) (v:Value) (Q:Option (Value×Nat)->Shared->Prop),s.heap.get? a=some o->os[i]? = some v->Q (some (v,sl (i+1))) s->wpAny (model P w) A (setNext a (sl i) i ep) Q E s
 stop:∀(A:Around) (E:Value->Shared->Prop) (s:Shared) (Q:Option (Value×Nat)->Shared->Prop),s.heap.get? a=some o->Q none s->wpAny (model P w) A (setNext a (sl os.length) os.length ep) Q E s
def jN{I a:Addr}{o:Obj}{es:Array (Int×Value)}{ep:Nat}{t:SetTable}{sl:Nat->Nat}{os:List Value}(hh:A.handled=none)(hia:a≠I)(hd:o.data = .set es ep t)(hf:t.fits es.size=true)(hn:es.size=os.length)(B:Gq P w a o ep sl os) :
  WalksS P w A I [I,a] [I] (λg g'=>g'=g) os.length (λi v=>os[i]? = some v) (λi s=>s.heap.get? I=some (yL (.int (sl i) 0) i a os.length ep)/\s.heap.get? a=some o) where
 sub:=λb z=>by simp at z;simp[z]
 grefl:=λ_=>rfl
 gtrans:=λ_ _ _ x y=>y.trans x
 frame:=λi s g tk st _ k=>⟨k I (by simp) _ st.1,k a (by simp) _ st.2⟩
 item:=λi s Q E hi st hQ=>by
  obtain⟨v,hv⟩:∃v,os[i]? = some v:=⟨os[i],by simp[hi]⟩;refine MP st.1 (MT st.1 st.2 hd hf hn ?_);dsimp only;refine Qqq ?_;rw[Qj1];refine B.step _ _ s i v _ st.2 hv ?_;dsimp only;refine Qqq (Qj5 st.1 (by simp) λg1 h1 e1=>?_);refine Qqq (Qj5 h1 (by simp) λg2 h2 e2=>?_);have kp:∀b u,b≠I->s.heap.get? b=some u->g2.get? b=some u:=λb u hb z=>(e2.2 b hb).trans ((e1.2 b hb).trans z);refine Qqv ⟨v,rfl,hQ v _ hv ⟨?_,kp a _ hia st.2⟩ ⟨λb u hb z=>kp b u (λq=>hb (by simp[q])) z,rfl,rfl,rfl,Qqy _⟩⟩;rw[h2];simp[yL,rawInt]
 done:=λs Q E st hQ=>by
  refine MP st.1 (MT st.1 st.2 hd hf hn ?_);dsimp only;refine Qqq ?_;rw[Qj1];refine B.stop _ _ s _ st.2 ?_;dsimp only;refine Qqq (Qj5 st.1 (by simp) λg1 h1 e1=>?_);refine stop (s:={ s with heap:=g1 }) (by simpa using hh) λg e k he=>⟨e,rfl,he,?_⟩;exact hQ _ ⟨λb u hb z=>k b u ((e1.2 b (λq=>hb (by simp[q]))).trans z),rfl,rfl,rfl,Qqy _⟩
 self:=λi s Q E st hQ=>Mp st.1 hQ
def mU{I a T:Addr}{o oT:Obj}{es:Array (Int×Value)}{ep:Nat}{t:SetTable}{ps:List Nat}{os:List Value}(hh:A.handled=none)(hia:a≠I)(hit:T≠I)(hd:o.data = .set es ep t)(hf:t.fits es.size=true)(hn:es.size=os.length)
  {k:Nat} (hT:oT.data = .seq (ps.map λ(i:Nat)=>rawInt i).toArray k) (hp:ps.length=os.length) (ho:∀(i p:Nat) (v:Value),ps[i]? = some p->os[i]? = some v->∃h,es[p]? = some (h,v)) :
  WalksS P w A I [I,a,T] [I] (λg g'=>g'=g) os.length (λi v=>os[i]? = some v) (λi s=>s.heap.get? I=some (yL (.ref T) i a os.length ep)/\s.heap.get? a=some o/\s.heap.get? T=some oT) where
 sub:=λb z=>by simp at z;simp[z]
 grefl:=λ_=>rfl
 gtrans:=λ_ _ _ x y=>y.trans x
 frame:=λi s g tk st _ k=>⟨k I (by simp) _ st.1,k a (by simp) _ st.2.1,k T (by simp) _ st.2.2⟩
 item:=λi s Q E hi st hQ=>by
  obtain⟨v,hv⟩:∃v,os[i]? = some v:=⟨os[i],by simp[hi]⟩;obtain⟨p,hpi⟩:∃p,ps[i]? = some p:=⟨ps[i]'(by omega),by simp[hp,hi]⟩;obtain⟨hs,hes⟩:=ho i p v hpi hv;refine MP st.1 (MT st.1 st.2.1 hd hf hn ?_);dsimp only;refine Qqq (wpAny_seqItems st.2.2 hT ?_);dsimp only;have hx:(ps.map λ(i:Nat)=>rawInt i).toArray[i]? = some (rawInt p):=by simp[hpi]
  rw[hx];dsimp only[rawInt];refine Qqq ?_;rw[Qj1];unfold setNextDrawn;refine Qqq (wpAny_setState_of st.2.1 hd hf ?_);dsimp only;rw[if_neg (by simp),hes];refine Qqv ?_;refine Qqq (Qj5 st.1 (by simp) λg1 h1 e1=>?_);have kp:∀b u,b≠I->s.heap.get? b=some u->g1.get? b=some u:=λb u hb z=>(e1.2 b hb).trans z;refine Qqv ⟨v,rfl,hQ v _ hv ⟨?_,kp a _ hia st.2.1,kp T _ hit st.2.2⟩ ⟨λb u hb z=>kp b u (λq=>hb (by simp[q])) z,rfl,rfl,rfl,Qqy _⟩⟩;rw[h1];simp[yL]
 done:=λs Q E st hQ=>by
  refine MP st.1 (MT st.1 st.2.1 hd hf hn ?_);dsimp only;refine Qqq (wpAny_seqItems st.2.2 hT ?_);dsimp only;have hx:(ps.map λ(i:Nat)=>rawInt i).toArray[os.length]? = none:=by simp[hp]
  rw[hx];dsimp only;refine Qqq (Qj5 st.1 (by simp) λg1 h1 e1=>?_);refine Qqq (Qj5 h1 (by simp) λg2 h2 e2=>?_);refine stop (s:={ s with heap:=g2 }) (by simpa using hh) λg e k he=>⟨e,rfl,he,?_⟩;exact hQ _ ⟨λb u hb z=>k b u ((e2.2 b (λq=>hb (by simp[q]))).trans ((e1.2 b (λq=>hb (by simp[q]))).trans z)),rfl,rfl,rfl,Qqy _⟩
 self:=λi s Q E st hQ=>Mp st.1 hQ
end
theorem uG{α:Type}:∀{l:List α} {i:Nat} (h:i<l.length),(l[i]::l.eraseIdx i).Perm l
 | x::l,0,h=>by simp
 | x::l,i+1,h=>by
  have ih:=uG (by simpa using h);rw[List.getElem_cons_succ,List.eraseIdx_cons_succ];exact(List.Perm.swap _ _ _).trans<|ih.cons x
theorem Mz{α:Type}(next:Nat->Nat):∀(n k:Nat) (left:List α) (out:Array α),left.length=n->(pickOrder.go next n k left out).toList.Perm (out.toList++left)
 | 0,k,left,out,h=>by
  have:left=[]:=List.length_eq_zero_iff.mp h;subst this;simp[pickOrder.go]
 | n+1,k,left,out,h=>by
  have hl:next k % left.length<left.length:=Nat.mod_lt _ (by omega)
  have hx:left[next k % left.length]? = some left[next k % left.length]:=by simp[hl]
  unfold pickOrder.go;rw[hx];refine(Mz next n (k+1) _ _ (by rw[List.length_eraseIdx_of_lt hl];omega)).trans ?_;rw[Array.toList_push,Qwy];refine List.Perm.append_left _ ?_;exact uG hl
def mY{α:Type}(next:Nat->Nat)(xs:Array α):(pickOrder next xs).toList.Perm xs.toList:=by
 unfold pickOrder
 simpa using Mz next xs.size 0 xs.toList #[] (by simp)
section
variable{P:Program}{w:World}{A:Around}{E:Value->Shared->Prop}{s:Shared}
def wp_choose{src:Source}{n:Nat}{Q:Nat->Shared->Prop}(hn:n≠0)(h:∀i d,i<n->Q i { s with drawn:=d }):wpAny (model P w) A (choose src n) Q E s:=by intro Γ p _;show Sem.wp _ _ (.choose src n .pure) _ _ _ _;rw[Sem.wp];exact⟨hn,h _ _<|Nat.mod_lt _<|Nat.pos_of_ne_zero hn⟩
theorem lH{α:Type}:∀(n:Nat) (xs:List α) (s:Shared) (Q:List α->Shared->Prop),xs.length=n->(∀ys d,ys.Perm xs->Q ys { s with drawn:=d })->wpAny (model P w) A (drawOrder n xs) Q E s
 | 0,xs,s,Q,h,q=>by
  have:=List.length_eq_zero_iff.mp h;subst this;unfold drawOrder;refine Qqv ?_;have:=q [] s.drawn .rfl;cases s;exact this
 | n+1,x::xs,s,Q,h,q=>by
  unfold drawOrder;refine Qqq<|wp_choose (by simp) λi d hi=>?_;have hx:(x::xs)[i]? = some ((x::xs)[i]):=by simp[Qzq hi]
  rw[hx];dsimp only;refine Qqq<|lH n _ { s with drawn:=d } _ (by rw[List.length_eraseIdx_of_lt hi];simpa using h) λys d' p=>Qqv ?_;exact q _ d'<|(p.cons _).trans<|uG hi
def Ga{p:Array Nat}(h:p.size=1)(j:Nat):SetTable.below p j=if p.getD 0 j<j then 1 else 0:=by unfold SetTable.below;rw[h];unfold SetTable.below.go;rw[if_pos (by decide)];dsimp only;have:(0+1) / 2=0:=rfl;rw[this];split<;>rfl
def byText{Q:Bool->Shared->Prop}(h:Q (!led w) s):wpAny (model P w) A setsByText Q E s:=by unfold setsByText;refine Qqq<|wpAny_askSetting<|Qqv ?_;rw[led,Bool.not_not] at h;exact h
def mW{a:Addr}{o:Obj}{es:Array (Int×Value)}{ep:Nat}{t:SetTable}(hd:o.data = .set es ep t)(hf:t.fits es.size=true)(hl:led w=false) :
  Gq P w a o ep (λ_=>0) ((pickOrder (w.params.setOrder a ep) es).toList.map (·.2)):=by
 have go:∀A E s i Q,s.heap.get? a=some o->Q (((pickOrder (w.params.setOrder a ep) es)[i]?).map λe=>(e.2,0)) s->wpAny (model P w) A (setNext a 0 i ep) Q E s:=by intro A E s i Q ho h;unfold setNext;refine Qqq<|wpAny_setState_of ho hd hf ?_;dsimp only;refine Qqq<|byText ?_;rw[hl];rw[if_pos (show(!false)=true from rfl),if_neg (by simp)];refine Qqq ?_;unfold setWalk;refine Qqq<|wpAny_setState_of ho hd hf ?_;dsimp only;refine Qqq<|byText ?_;rw[hl,if_pos<|show(!false)=true from rfl];exact Qqq<|wpAny_askSetting<|Qqv<|Qqv h
 refine⟨λA E s i v Q ho hv h=>go A E s i Q ho ?_,λA E s Q ho h=>go A E s _ Q ho ?_⟩
 ·rw[Qx3,Qzx] at hv;obtain⟨e,he,rfl⟩:=Qw7.mp hv;rw[he];exact h
 ·have:(pickOrder (w.params.setOrder a ep) es)[((pickOrder (w.params.setOrder a ep) es).toList.map (·.2)).length]? = none:=by simp
  rw[this];exact h
def RD{a:Addr}{o:Obj}{es:Array (Int×Value)}{ep:Nat}{t:SetTable}(hd:o.data = .set es ep t)(hf:t.fits es.size=true)(hw:led w=true)(hl:t.led=led w)(hz:¬es.size > 1) :
  Gq P w a o ep (λi=>if i=0 then 0 else t.place.getD 0 0+1) (es.toList.map (·.2)):=by
 have hp:t.place.size=es.size:=by simp[SetTable.fits,Qq2,beq_iff_eq] at hf;exact hf.1
 have go:∀A E s j i Q,s.heap.get? a=some o->
   Q (match es[SetTable.below t.place j]?,t.place[SetTable.below t.place j]? with|some (_,x),some k=>some (x,k+1)|_,_=>none) s->wpAny (model P w) A (setNext a j i ep) Q E s:=by
  intro A E s j i Q ho h;unfold setNext;refine Qqq<|wpAny_setState_of ho hd hf ?_;dsimp only;refine Qqq<|byText ?_;rw[hw,if_neg (by simp)];show wpAny _ _ (if (!t.plain&&decide (es.size > 1))=true then _ else _) _ _ _;rw[if_neg (by rw[Qw5 hz];simp)];refine Qqq ?_;show wpAny _ _ (if (!t.led && !es.isEmpty)=true then _ else _) _ _ _;rw[if_neg (by rw[hl,hw];simp)];exact Qqv<|Qqv h
 have hc:es.size=0\/es.size=1:=by omega
 refine⟨λA E s i v Q ho hv h=>go A E s _ i Q ho ?_,λA E s Q ho h=>go A E s _ _ Q ho ?_⟩
 ·rcases hc with hc|hc
  ·have:=Array.size_eq_zero_iff.mp hc;subst this;simp at hv
  ·obtain⟨e,rfl⟩:∃e,es = #[e]:=Array.size_eq_one_iff.mp hc;obtain⟨p,pe⟩:∃p,t.place = #[p]:=Array.size_eq_one_iff.mp hp;have hi:i=0:=by
    rcases Nat.eq_zero_or_pos i with z|z
    ·exact z
    ·rw[Qj7 (by simp;omega)] at hv;cases hv
   subst hi;simp at hv;subst hv;have hb:SetTable.below t.place 0=0:=by rw[Ga (by rw[pe];rfl)];simp
   simp[if_pos];rw[hb,pe]
   simpa[pe] using h
 ·rcases hc with hc|hc
  ·have:=Array.size_eq_zero_iff.mp hc;subst this
   simpa using h
  ·obtain⟨e,rfl⟩:∃e,es = #[e]:=Array.size_eq_one_iff.mp hc;obtain⟨p,pe⟩:∃p,t.place = #[p]:=Array.size_eq_one_iff.mp hp;have hb:SetTable.below t.place (p+1)=1:=by rw[Ga (by rw[pe];rfl),pe];simp
   have hs:(if ([e].map (·.2)).length=0 then 0 else t.place.getD 0 0+1)=p+1:=by simp[pe]
   have hs':=hs;rw[hs',hb]
   simpa using h
def z6{a:Addr}{ys:List Str}{Q:Value->Shared->Prop}(x:iW P w s.heap a ys)(hz:ys.length<64)
  (h:∀(g:Heap) (d:Drawn) (I:Addr) (fp:List Addr) (os:List Value) (St:Nat->Shared->Prop),(∀A':Around,A'.handled=none->WalksS P w A' I fp [I] (λg g'=>g'=g) os.length (λi v=>os[i]? = some v) St)->St 0 { s with heap:=g,drawn:=d }->
   (∀b∈fp,b=a\/s.heap.objs.size<=b)->s.heap.objs.size<=I->os.length=ys.length->(∃ss,StrsAre os ss/\ss.Perm ys)->(∀b o,s.heap.get? b=some o->g.get? b=some o)->Q (.ref I) { s with heap:=g,drawn:=d }) :
  wpAny (model P w) A (pyIter (.ref a)) Q E s:=by
 obtain⟨o,es,ep,t,ho,hx,hd,k⟩:=x;have hT:s.TypeIs (.ref a) "set":=⟨o,ho,hx.1⟩;have hlt:a<s.heap.objs.size:=Qq9 ho;have hn:es.size=ys.length:=k.size;obtain⟨ss,s1,s2⟩:=k.tx;refine wpAny_pyIter_slot hT PySem.F.slot_set_iter (Qz6 PySem.F.slot_set_iter hT pM ?_ (PySem.F.args_set_iter_1 _));unfold Builtin.«frozenset.__iter__» Builtin.Frozenset.slot0 slotArgs;simp only[List.isEmpty_nil,Bool.not_true,Bool.false_eq_true, ↓reduceIte,bind_assoc,Qz3,bne_self_eq_false];unfold Builtin.Frozenset.addrOf Builtin.Frozenset.sizeOf;refine Qqq (Qqv ?_);dsimp only;refine Qqq (Qqv ?_);refine Qqq (Qqq (wpAny_setEntries_of ho hd k.fit (Qqv ?_)));refine Qqq ?_;unfold setDrawn;refine Qqq (wpAny_setState_of ho hd k.fit ?_);dsimp only;refine Qqq (byText (Qqv ?_));show wpAny _ _ (if (!(!led w)&&(!t.plain&&decide (es.size > 1)))=true then _ else _) _ _ _;by_cases hl:led w=true
 ·by_cases hz1:es.size > 1
  ·have hp:t.plain=false:=k.pl (by omega);rw[if_pos (by rw[hl,hp,Qw2 hz1];rfl)];refine Qqq (lH _ _ s _ (by simp) λps d pp=>?_);refine Qqq (wpAny_newTuple ?_ (by rw[Qqj,pp.length_eq,List.length_range,hn];exact Qq0 (Qz7 hz) (by decide)));refine Qqq (wpAny_setEpoch_of (Qqx _ ho) hd k.fit ?_);refine Qqq (Qxj (Qqv ⟨_,rfl,"set_iterator",_,⟨_,Qq4 _ rfl,rfl⟩,iY.lookup,?_⟩))
   let f:Nat->Value:=λp=>((es[p]?).map (·.2)).getD .none
   have ef:(List.range es.size).map f=es.toList.map (·.2):=by
    apply List.ext_getElem
    ·simp
    ·intro i h1 h2;have hi:i<es.size:=by simpa using h1
     simp[f,hi]
   have hos:(ps.map f).length=es.size:=by rw[Qqj,pp.length_eq,List.length_range]
   have hperm:(ps.map f).Perm (es.toList.map (·.2)):=by rw[<-ef];exact pp.map f
   obtain⟨rs,q1,q2⟩:=sE hperm s1;have sz:(s.heap.push { cls:=.type "tuple",data:=.seq (ps.map λ(i:Nat)=>rawInt i).toArray }).objs.size=s.heap.objs.size+1:=Qjk _ _;have e1:((s.heap.push { cls:=.type "tuple",data:=.seq (ps.map λ(i:Nat)=>rawInt i).toArray }).push (yL (.ref s.heap.objs.size) 0 a es.size ep)).get? s.heap.objs.size=some { cls:=.type "tuple",data:=.seq (ps.map λ(i:Nat)=>rawInt i).toArray }:=
    Qqx _ (Qq4 _ rfl)
   have a1:a≠(s.heap.push { cls:=.type "tuple",data:=.seq (ps.map λ(i:Nat)=>rawInt i).toArray }).objs.size:=by rw[sz];exact Qwj (Qzw hlt)
   have a2:s.heap.objs.size≠(s.heap.push { cls:=.type "tuple",data:=.seq (ps.map λ(i:Nat)=>rawInt i).toArray }).objs.size:=by rw[sz];exact Qwj (Nat.lt_succ_self _)
   refine h _ d _ [_,a,s.heap.objs.size] (ps.map f) _ (λA' hA=>mU (ps:=ps) hA a1 a2 hd k.fit hos.symm rfl (by rw[Qqj]) λi p v h1 h2=>?_) ⟨?_,Qqx _ (Qqx _ ho),e1⟩ (λb hb=>?_) (by rw[sz];exact Qkq _) (hos.trans hn) ⟨rs,q1,q2.trans s2⟩ λb u e=>Qqx _ (Qqx _ e)
   ·rw[Qx3,h1] at h2;simp only[Qkv,Qw4] at h2;have hm:p∈List.range es.size:=pp.mem_iff.mp (Qjy h1);have hp:p<es.size:=Qx6.mp hm;refine⟨es[p].1,?_⟩;rw[<-h2];simp[f,hp]
   ·have:=Qq4 (s.heap.push { cls:=.type "tuple",data:=.seq (ps.map λ(i:Nat)=>rawInt i).toArray }) (o:=yL (.ref s.heap.objs.size) 0 a (ps.map f).length ep) rfl;rw[hos] at this ⊢;exact this
   ·simp only[Qq3,Qxx,Qk2] at hb;rcases hb with rfl|rfl|rfl
    ·exact .inr (by rw[sz];exact Qkq _)
    ·exact .inl rfl
    ·exact .inr (Qqy _)
  ·rw[if_neg (by rw[Qw5 hz1];simp)];refine Qqq (Qqv ?_);refine Qqq (wpAny_setEpoch_of ho hd k.fit ?_);refine Qqq (Qxj (Qqv ⟨_,rfl,"set_iterator",_,⟨_,Qq4 _ rfl,rfl⟩,iY.lookup,?_⟩));have hos:(es.toList.map (·.2)).length=es.size:=by simp
   have e0:=Qq4 s.heap (o:=yL (.int 0 0) 0 a (es.toList.map (·.2)).length ep) rfl;have:=h (s.heap.push (yL (.int 0 0) 0 a (es.toList.map (·.2)).length ep)) s.drawn s.heap.objs.size [s.heap.objs.size,a] (es.toList.map (·.2)) _ (λA' hA=>jN hA (Qwj hlt) hd k.fit hos.symm (RD hd k.fit hl k.ld hz1)) ⟨e0,Qqx _ ho⟩ (λb hb=>by
    simp only[Qq3,Qxx,Qk2] at hb;rcases hb with rfl|rfl
    ·exact .inr (Qqy _)
    ·exact .inl rfl) (Qqy _) (hos.trans hn) ⟨ss,s1,s2⟩ λb u e=>Qqx _ e
   rw[hos] at this;cases s;exact this
 ·have hl:led w=false:=by simpa using hl
  rw[if_neg (by rw[hl];simp)];refine Qqq (Qqv ?_);refine Qqq (wpAny_setEpoch_of ho hd k.fit ?_);refine Qqq (Qxj (Qqv ⟨_,rfl,"set_iterator",_,⟨_,Qq4 _ rfl,rfl⟩,iY.lookup,?_⟩));have pk:=mY (w.params.setOrder a ep) es;have hos:((pickOrder (w.params.setOrder a ep) es).toList.map (·.2)).length=es.size:=by rw[Qqj,pk.length_eq];simp
  obtain⟨rs,q1,q2⟩:=sE (pk.map (·.2)) s1;have e0:=Qq4 s.heap (o:=yL (.int 0 0) 0 a ((pickOrder (w.params.setOrder a ep) es).toList.map (·.2)).length ep) rfl;have:=h (s.heap.push (yL (.int 0 0) 0 a ((pickOrder (w.params.setOrder a ep) es).toList.map (·.2)).length ep)) s.drawn s.heap.objs.size [s.heap.objs.size,a] ((pickOrder (w.params.setOrder a ep) es).toList.map (·.2)) _ (λA' hA=>jN hA (Qwj hlt) hd k.fit hos.symm (mW hd k.fit hl)) ⟨e0,Qqx _ ho⟩ (λb hb=>by
   simp only[Qq3,Qxx,Qk2] at hb;rcases hb with rfl|rfl
   ·exact .inr (Qqy _)
   ·exact .inl rfl) (Qqy _) (hos.trans hn) ⟨rs,q1,q2.trans s2⟩ λb u e=>Qqx _ e
  rw[hos] at this;cases s;exact this
def nH{r:Addr}{Q:Bool->Shared->Prop}(hT:s.TypeIs (.ref r) "set")(h:Q false s):wpAny (model P w) A (Builtin.List.listLengthHint (.ref r)) Q E s:=by
 unfold Builtin.List.listLengthHint;refine Qqq<|Qkk hT PySem.F.slot_set_len.lookup ?_;generalize hid:"set.__len__" =id0
 wp_delta
 rw[show splitId id0=some ("set","__len__") from by subst hid;decide +kernel];subst hid;refine Qqq<|wpAny_isInstance (b:=true) hT (by rw[isSubtype_type];kernel_rfl) ?_;refine wpAny_ite_split (λz=>absurd z (by decide))<|λ_=>?_;refine wpAny_ite_split (λ_=>?_)<|λz=>absurd (by decide +kernel) z;exact Qqq<|wpAny_typeOf hT<|Qqv h
def nG{os:List Value}{acc:Array Value}(h:ItemsOf (λi v=>os[i]? = some v) acc os.length):acc.toList=os:=by
 apply List.ext_getElem?;intro i;rw[Qzx];by_cases hi:i<acc.size
 ·have e:acc[i]? = some acc[i]:=by simp[hi]
  rw[e,h.2 i _ e]
 ·have h1:acc[i]? = none:=by simp;omega
  have h2:os[i]? = none:=by simp;rw[<-h.1];omega
  rw[h1,h2]
def rY{a:Addr}{ys:List Str}{Q:List Value->Shared->Prop}(hh:A.handled=none)(x:iW P w s.heap a ys)(hz:ys.length<64)
  (h:∀(g:Heap) (d:Drawn) (tk:Nat) (os:List Value),(∃ss,StrsAre os ss/\ss.Perm ys)->os.length=ys.length->(∀b o,s.heap.get? b=some o->g.get? b=some o)->Q os { s with heap:=g,drawn:=d,toks:=tk }) :
  wpAny (model P w) A (collect (.ref a)) Q E s:=by
 have hT:∀h',iW P w h' a ys->Shared.TypeIs { s with heap:=h' } (.ref a) "set":=λh' ⟨o,_,_,_,e,r,_⟩=>⟨o,e,r.1⟩;have hlt:a<s.heap.objs.size:=let ⟨o,_,_,_,e,_⟩:=x;Qq9 e
 unfold collect;refine Qqq<|wpAny_runValue<|Qz9 PySem.F.entry_proto_collect ?_;rw[Qzy PySem.F.plain_proto_collect _];show wpAny _ A.in1 (newList [] >>= λl=>again<|.builtin "list.__iadd__" ⟨[l,.ref a],[]⟩) _ _ s;refine Qqq<|Qxj<|Qqv ⟨Qj9 PySem.F.plain_list_iadd _,Qz9 PySem.F.entry_list_iadd ?_⟩;rw[Qzy PySem.F.plain_list_iadd _];have l0:(s.heap.push { cls:=.type "list",data:=.seq ([]:List Value).toArray }).get? s.heap.objs.size=some { cls:=.type "list",data:=.seq #[] }:=Qq4 _ rfl;have x0:iW P w (s.heap.push { cls:=.type "list",data:=.seq ([]:List Value).toArray }) a ys:=x.keep λo e=>Qqx _ e;show wpAny _ A.in1 (Builtin.List.listExtendWith (.ref s.heap.objs.size) (.ref a)<|.ref s.heap.objs.size) _ _ _;unfold Builtin.List.listExtendWith;refine Qqq<|wpAny_typeOf (T:="set") (hT _ x0) ?_;have n1:Builtin.List.listSameRef (.ref s.heap.objs.size) (.ref a)=false:=by simp[Builtin.List.listSameRef,Qkw hlt]
 rw[if_neg (by rw[n1];decide)];refine Qqq<|z6 (s:={ s with heap:=s.heap.push { cls:=.type "list",data:=.seq ([]:List Value).toArray } }) x0 hz λg d I fp os St W st hfp hI hos hss kp=>?_;have sz:(s.heap.push { cls:=.type "list",data:=.seq ([]:List Value).toArray }).objs.size=s.heap.objs.size+1:=Qjk _ _;have kp0:∀b o,s.heap.get? b=some o->g.get? b=some o:=λb o e=>kp b o<|Qqx _ e;have l1:g.get? s.heap.objs.size=some { cls:=.type "list",data:=.seq #[] }:=kp _ _ l0;have hSf:s.heap.objs.size ∉ fp:=λz=>by
  rcases hfp _ z with e|e
  ·exact absurd e<|Qkw hlt
  ·dsimp only at e;rw[sz] at e;exact absurd e<|Nat.not_succ_le_self _
 refine Qqq<|Qx5<|nH (s:={ s with heap:=g,drawn:=d }) (let ⟨o,_,_,_,e,r,_⟩:=x.keep λo e=>kp0 _ o e;⟨o,e,r.1⟩) ?_;have W':=W A.in1 (by simpa using hh);have hn:os.length<=sizeLine:=by rw[hos];exact Qq0 (Qz7 hz) (by decide)
 have key:∀g1 c,St 0 { s with heap:=g1,drawn:=d }->(∀b o,s.heap.get? b=some o->g1.get? b=some o)->g1.get? s.heap.objs.size=some { cls:=.type "list",data:=.seq #[] c }->
   codeAny (model P w) A (.builtin "list.extend.loop" ⟨[.ref s.heap.objs.size,.ref I,.ref s.heap.objs.size],[]⟩) (λr s'=>wants (λv s2=>wpAny (model P w) A ((match v with
    | .ref a=>do match (<-load a).data with
     | .seq xs _=>pure xs.toList
     | _=>unsupported "internal:collect"
    | _=>unsupported "internal:collect"):Sem (List Value)) Q E s2) E r s') { s with heap:=g1,drawn:=d }:=by
  intro g1 c st1 k1 l2;refine codeAny_extend_loopS W' hn s.heap.objs.size hSf (.ref s.heap.objs.size) os.length 0 _ #[] c rfl (Qzz _) st1 l2 (ItemsOf.nil _) λs' acc c' m hS hacc=>?_;show wpAny _ _ (load s.heap.objs.size >>= _) _ _ _;refine Qqq<|wpAny_load hS<|Qqv ?_;rw[nG hacc,Moved.eq_with m];refine h s'.heap d s'.toks os hss hos λb o e=>m.heap b o (λz=>?_)<|k1 b o e;rcases Qq3.mp z with z|z
  ·exact absurd (Qq9 e) (by rw[z];exact Qz1 _)
  ·rw[Qwx.mp z] at e;have:=Qq9 e;dsimp only at hI;rw[sz] at hI;exact absurd (Qw0 this (Qj2 hI))<|Qz1 _
 dsimp only;split
 ·refine Qqq<|wpAny_rule (Qqq ?_);show wpAny _ _ (updateSeq s.heap.objs.size (·.push .none) >>= λ_=>updateSeq s.heap.objs.size (·.pop)) _ _ _;refine Qqq (wpAny_updateSeq l1 rfl ?_);have l2:=Heap.get?_update_self (Obj.mapSeq (·.push Value.none)) l1 rfl;refine wpAny_updateSeq (hz:=by seq_fits) l2 rfl ?_;have l3:=Heap.get?_update_self (Obj.mapSeq (·.pop)) l2 rfl;have oth:∀b o,b≠s.heap.objs.size->g.get? b=some o->((g.update s.heap.objs.size (Obj.mapSeq (·.push Value.none))).update s.heap.objs.size (Obj.mapSeq (·.pop))).get? b=some o:=λb o hb e=>
   (Heap.get?_update_other _ _ (Ne.symm hb)).trans ((Heap.get?_update_other _ _ (Ne.symm hb)).trans e)
  refine Qqv ⟨Qj9 PySem.F.plain_extend_loop _,key _ _ ?_ (λb o e=>oth b o (Qwj (Qq9 e)) (kp0 b o e)) l3⟩;exact W'.frame 0 { s with heap:=g,drawn:=d } _ _ st (Qqy _) λb hb o e=>oth b o (λz=>hSf (z ▸ hb)) e
 ·exact Qqv ⟨Qj9 PySem.F.plain_extend_loop _,key g _ st kp0 l1⟩
end
open PySem PySem.Spec PyProof.Rows L2 PySem.Builtin Ev
def _root_.L2.Inv.dr{X:Cx}{pins:List (Addr×Obj)}{σ:L2.St}{H:Hp}{s:Shared}(I:L2.Inv X pins σ H s)(d:Drawn):L2.Inv X pins σ H { s with drawn:=d }:=
 ⟨I.ok,I.os,I.bare,I.base,I.loc,I.cell,I.free,I.mD,I.pin,I.hok,I.len⟩
def Cj(P:Program)(w:World)(a:Addr)(ys:List Str):HO:=.ext λh=>iW P w h a ys
def aen(X:Cx):List V->Hp->VK->Prop:=λxs H Q=>∃(p:Addr) (zs:List (List Nat)),xs=[.ref p]/\mR X.K H p (zs.map λz=>V.str (Ev.strOf z))/\zs.length<64/\∀l,H l=none->Q (.ref l) (upd H l (Cj X.prog X.w l (dY (zs.map Ev.strOf))))
def Sd(X:Cx):List V->Hp->VK->Prop:=λxs H Q=>∃(p:Addr) (zs:List (List Nat)),xs=[.ref p]/\H p=some (Cj X.prog X.w p (zs.map Ev.strOf))/\zs.length<64/\∀l,H l=none->Q (.ref l) (upd H l (.lst ((dH zs).map λz=>V.str (Ev.strOf z))))
section
variable{X:Cx}{C:Cfg}{pos:Pos}
def Vu(hc:X.calm=true):ik X (.type "set") (aen X):=by intro pins s σ H xs us Q I r h;obtain⟨p,zs,rfl,hq,hz,q⟩:=h;obtain⟨u,rfl,rx⟩:=vals1 r;cases rx;obtain⟨its,r',pl,_⟩:=I.list hq;have hS:=o9 r';refine Ka (I.ok.hd hc) pl.isList (by simpa using hS) (by rw[Qqj];exact Qz0 (Nat.succ_le_of_lt hz) (by decide)) λg tk x k=>?_;refine⟨.ref s.heap.objs.size,_,I.laid k (Qqy _) (o:=Cj X.prog X.w s.heap.objs.size<|dY<|zs.map Ev.strOf) ⟨x,?_,λh1 h2 y kk=>y.keep kk⟩,rfl,q _<|I.hok.fresh<|Qqy _⟩;obtain⟨o,_,_,_,e,_⟩:=x;exact⟨o,e⟩
def Ld(hc:X.calm=true):ik X (.builtin "sorted") (Sd X):=by intro pins s σ H xs us Q I r h;obtain⟨p,zs,rfl,hq,hz,q⟩:=h;obtain⟨u,rfl,rx⟩:=vals1 r;cases rx;have x:iW X.prog X.w s.heap p (zs.map Ev.strOf):=(I.hok p _ hq).1;refine Calls.call_function_entry kind_sorted plain_sorted entry_sorted (args_sorted1 _) ?_;unfold Builtin.«sorted»;refine Qqq (m:=checkCount "sorted" 1 1 _)<|Qqv ?_;refine Qqq<|rY (A:=X.A.in1) (I.ok.hd hc) x (by rw[Qqj];exact hz) λh' d tk os hss hlen hk=>?_;obtain⟨ss,hS,pS⟩:=hss;rw[Qqj] at hlen;refine Qqq<|wpAny_newList ?_ (by rw[hlen];exact Qq0 (Qz7 hz) (by decide));have hoL:(h'.push<|seqObj "list" os.toArray 0).get? h'.objs.size=some (seqObj "list" os.toArray 0):=Qq4 _ rfl;show wpAny _ _ _ _ _ { s with heap:=h'.push<|seqObj "list" os.toArray 0,drawn:=d,toks:=tk };refine Qqq<|Qx5<|Qz6 slot_list_sort ⟨_,hoL,rfl⟩ entry_list_sort (list_sort_treeK strKind_oneLt hoL hS.keysOf (λv₁ v₂ rest e=>keyKind_strs (by rw[<-e];exact hS)) (by rw[hlen];exact hz) λst' b1 b2=>⟨_,rfl,?_⟩) (args_list_sort _);obtain⟨ss',a1,a2,a3⟩:=sorted_out_str hS b1 b2;obtain⟨e,he⟩:=sortedHeap_at (out:=(arrOf st').map (·.2)) hoL;refine Qqv ⟨_,rfl,?_⟩;have I1:L2.Inv X pins σ H { s with heap:=h',drawn:=d,toks:=tk }:=(I.kept hk).dr d;refine zf (s:={ s with heap:=h',drawn:=d,toks:=tk }) (tk:=tk) I1 hz q a1 (a2.trans pS) a3 (λb o e=>?_) (Qqy _) he;have lt':=Qq9 e;rw[sortedHeap_old (Qwj lt') (by rw[size_push'];exact Qzw lt')];exact Qqx _ e
end
def yG(ys:List (List Nat))(x:List Nat):List (List Nat):=if x∈ys then ys else ys++[x]
def n8(zs:List (List Nat)):List (List Nat):=zs.foldl yG []
def sG{x y:List Nat}(h:Ev.strOf x=Ev.strOf y):x=y:=by
 have:=Qjq (λs:Str=>s.cps.toList) h
 simpa[Ev.strOf] using this
def VG(ys:List (List Nat))(x:List Nat):(yG ys x).map Ev.strOf=jz (ys.map Ev.strOf) (Ev.strOf x):=by
 unfold yG jz;by_cases h:x∈ys
 ·rw[if_pos h,if_pos<|Qwk.mpr ⟨x,h,rfl⟩]
 ·rw[if_neg h,if_neg<|λz=>h (by obtain⟨y,hy,e⟩:=Qwk.mp z;rw[<-sG e];exact hy),Qz2]
  rfl
theorem GQ:∀(zs ys:List (List Nat)),(zs.foldl yG ys).map Ev.strOf=(zs.map Ev.strOf).foldl jz (ys.map Ev.strOf)
 | [],ys=>rfl
 | z::zs,ys=>by rw[Qxy,GQ zs,VG,Qq7,Qxy]
def Cz(zs:List (List Nat)):(n8 zs).map Ev.strOf=dY (zs.map Ev.strOf):=GQ zs []
theorem Cy:∀(zs ys:List (List Nat)) (x:List Nat),x∈zs.foldl yG ys↔x∈ys\/x∈zs
 | [],ys,x=>by simp
 | z::zs,ys,x=>by
  rw[Qxy,Cy zs];unfold yG;by_cases h:z∈ys
  ·rw[if_pos h,Qq3];constructor
   ·rintro(a|a)
    ·exact .inl a
    ·exact .inr<|.inr a
   ·rintro(a|rfl|a)
    ·exact .inl a
    ·exact .inl h
    ·exact .inr a
  ·rw[if_neg h,Qxv,Qwx,Qq3,or_assoc]
def Ov(zs:List (List Nat)):(n8 zs).length<=zs.length:=by
 have h:=qX (zs.map Ev.strOf) [];have e:=Qjq List.length<|Cz zs;rw[Qqj] at e;rw[e]
 simpa[dY] using h
end SX
namespace Ev
open PySem PySem.Spec PyProof.Rows L2 PySem.Builtin
def jo:D->Option D
 | .lst ds=>(fJ ds).bind λzs=>if zs.length<64/\(∀z∈zs,z.length<=sizeLine) then some (.lst ((dH (SX.n8 zs)).map .str)) else none
 | _=>none
section
variable{X:Cx}{C:Cfg}{pos p p2 pos2:Pos}{e:Expr}{a:Ev}
def R9:List V->Hp->VK->Prop:=λxs H Q=>∃z:Str,xs=[.str z]/\z.length<=sizeLine/\∀l,H l=none->Q (.ref l) (upd H l (.tup (z.cps.toList.map λc=>V.str ⟨#[c]⟩)))
theorem zm:∀(cs:List Nat) (vs:List Value),vs.length=cs.length->(∀(j:Nat) (v:Value),vs[j]? = some v->∃(c:Nat) (u:Tok),cs[j]? = some c/\v=Value.str ⟨#[c]⟩ u)->Vals (cs.map λc=>V.str ⟨#[c]⟩) vs
 | [],vs,hl,_=>by rw[Qjx hl];exact .nil
 | c::cs,[],hl,_=>by simp at hl
 | c::cs,v::vs,hl,hv=>by
  obtain⟨c',u,e1,e2⟩:=hv 0 v rfl;simp at e1;subst e1 e2;exact .cons ⟨u,rfl⟩<|zm cs vs (by simpa using hl) λj w hw=>by simpa using hv (j+1) w (by simpa using hw)
def QD(hh:X.calm=true):ik X (.type "tuple") R9:=by
 intro pins s σ H xs us Q I r h;obtain⟨z,rfl,hz,q⟩:=h;obtain⟨u,rfl,⟨t,rfl⟩⟩:=vals1 r;refine call_tuple_str (I.ok.hd hh) z t (λh' tk acc kp hacc=>?_) (by simpa[Str.length] using hz);have I1:L2.Inv X pins σ H { s with heap:=h',toks:=tk }:=I.kept kp;have hv:Vals (z.cps.toList.map λc=>V.str ⟨#[c]⟩) acc.toList:=by obtain⟨hsz,hit⟩:=hacc;refine zm _ _ (by simpa using hsz) λj v hv=>?_;obtain⟨c,u,e1,e2⟩:=hit j v (by simpa using hv);exact⟨c,u,by simpa using e1,e2⟩
 have I2:=I1.laid (t':=tk) (o:=.tup<|z.cps.toList.map λc=>V.str ⟨#[c]⟩) (λb o e=>Qqx _ e) (Qqy _) ⟨by simpa[Str.length] using hz,acc.toList,hv,Ci.new _ _⟩;have e:acc.toList.toArray=acc:=by simp
 rw[e] at I2;exact⟨.ref h'.objs.size,_,I2,rfl,q _<|I1.hok.fresh<|Qqy _⟩
def Iv:List D->Option D
 | [.str x]=>some (.tup (signs x))
 | _=>none
def Yz:CallD C R9 Iv:=by
 intro Pr F env σ H ds d vs Q r hs h q;unfold Iv at h;split at h
 ·rename_i x;cases h;obtain⟨v,rfl,hv⟩:=lJ hs;obtain⟨rfl,hz⟩:=hv.str;refine⟨_,rfl,by rw[aO];exact hz,λl hl=>?_⟩;obtain⟨r2,s2⟩:=r.new hl;refine q _ _ _ r2 s2 ⟨by simpa[signs] using hz,l,_,rfl,qM.of aY,?_⟩;have e:(strOf x).cps.toList=x:=by simp[strOf]
  rw[e];exact ur x
 ·cases h
structure PXL(X:Cx)(C:Cfg)(es:List Expr)(ev:dG):Prop where
 go:Om X C es ev
def W7:PXL X C [] aj:=⟨En⟩
end
open PySem L2
def nr{α:Type}{a b:α}(h:a=b):a=b:=h
def bR{α β:Type}(a:α)(e:Env)(f:α->Env->R β):bindR (.ok a e) f=f a e:=nr rfl
def bO{α:Type}(a:α)(e:Env)(f:α->Env->Out):kJ (.ok a e) f=f a e:=nr rfl
def lR{α:Type}(a:α)(e:Env):gB (some a) e = .ok a e:=nr rfl
def stk{α:Type}(_:Env):R α:=.stuck
def rdO{α:Type}(o:Option (Option (Bool×D)))(f:Bool->D->R α):R α:=match o with
 | some (some (o,d))=>f o d
 | _=>.stuck
def rS{α:Type}(o:Bool)(d:D)(f:Bool->D->R α):rdO (some (some (o,d))) f=f o d:=nr rfl
def kRd(env:Env)(_:Bool)(d:D):R D:=.ok d env
def Z9(env:Env)(o:Bool)(d:D):kRd env o d = .ok d env:=nr rfl
def U9(i:Nat)(env:Env):bj i env=rdO env[i]? (kRd env):=by unfold bj rdO;rfl
def KJ(g:D->D->Option D)(y:D)(e:Env)(_:Bool)(x:D):R D:=gB (g x y) e
def KQ(g:D->D->Option D)(i:Nat)(y:D)(e:Env):R D:=rdO e[i]? (KJ g y e)
def aab(g:D->D->Option D)(i:Nat)(b:Ev)(env:Env)(_:Bool)(_:D):R D:=bindR (b env) (KQ g i)
def Ut(g:D->D->Option D)(y:D)(e:Env)(o:Bool)(x:D):KJ g y e o x=gB (g x y) e:=nr rfl
def Uu(g:D->D->Option D)(i:Nat)(y:D)(e:Env):KQ g i y e=rdO e[i]? (KJ g y e):=nr rfl
def X7(g:D->D->Option D)(i:Nat)(b:Ev)(env:Env)(o:Bool)(d:D):aab g i b env o d=bindR (b env) (KQ g i):=nr rfl
def Vb(g:D->D->Option D)(i:Nat)(b:Ev)(env:Env):ak g i b env=rdO env[i]? (aab g i b env):=by unfold ak rdO;rfl
def aeh(o:Out):Option D:=match o with
 | .rt false d _=>some d
 | .nx _=>some .non
 | _=>none
def abi(n:Nat)(ev:cu)(ds:List D):dO n ev ds=aeh (ev (envOf n ds)):=nr rfl
def dRt(d)(e):aeh (.rt false d e)=some d:=nr rfl
def yM(h:a.length+b.length<=sizeLine):bM (.str a) (.str b)=some (.str (a++b)):=if_pos h
def U0(xs)(lo hi):acX (.tup xs) lo hi=some (.tup (cutD xs lo hi)):=by
 show(if HT.fK xs.length 0 lo=0/\HT.fK xs.length xs.length hi=xs.length then some (D.tup xs) else some (D.tup<|cutD xs lo hi))=_;split
 ·rename_i h;unfold cutD;rw[h.1,h.2];simp
 ·rfl
def afB(xs)(k):dC (.tup xs) (.int k)=qU xs k:=nr rfl
def afC(xs)(k):dC (.lst xs) (.int k)=qU xs k:=nr rfl
def atN{α:Type}(xs:List α)(k:Nat):qU xs k=xs[k]?:=by
 cases h:xs[k]? with
 | some x=>exact qF h
 | none=>
  have hl:=List.getElem?_eq_none_iff.mp h;unfold qU V1;rw[if_pos (Int.natCast_nonneg k),if_neg (by omega)]
  rfl
def ac2(i j):bM (.int i) (.int j)=some (.int (i+j)):=nr rfl
def Dk(a b):jF (.str a) (.str b)=some (.bl (a == b)):=nr rfl
def afw(a b):qJ (.str a) (.str b)=some (.bl (!(a == b))):=nr rfl
def aah(a b):jF (.int a) (.int b)=some (.bl (a == b)):=nr rfl
def aaf(a b):qJ (.int a) (.int b)=some (.bl (!(a == b))):=nr rfl
def afz(a b):gLt (.str a) (.str b)=some (.bl (decide (a<b))):=nr rfl
def acW(a b):BV (.int a) (.int b)=some (.int (a - b)):=nr rfl
theorem afN{α:Type}(p):∀l:List α,rZ (l.map λa=>D.bl (p a))=some (l.map p)
 | []=>rfl
 | a::l=>by
  rw[Qq7];unfold rZ;rw[afN p l]
  rfl
def Ad{α:Type}(p)(l:List α):qw [.lst (l.map λa=>D.bl (p a))]=some (.bl (l.all p)):=by show(rZ _).map _=_;rw[afN];simp[List.all_map]
def aa4(n):jK 0 1 n=(List.range n).map λ(i:Nat)=>D.int i:=by
 unfold jK;apply Qx9;intro i _
 congr 1
 omega
def aeg{n:Nat}(h:n<2^62):tK [.int n]=some ((List.range n).map λ(i:Nat)=>D.int i):=by
 have hf:oF n=true:=by unfold oF;simp[Qq2,decide_eq_true_eq];omega
 show(if oF n=true then some (jK 0 1 (n:Int).toNat) else none)=_;rw[if_pos hf,Qj1,aa4]
def afg(d:D)(e:Env):Out:=.rt false d e
def acL(d)(e):afg d e = .rt false d e:=nr rfl
def Wu(a)(env):bw a env=kJ (a env) afg:=nr rfl
def aal(d)(env):jr d env = .ok d env:=nr rfl
def NB(env):aj env = .ok [] env:=nr rfl
def KH(d:D)(ds:List D)(e:Env):R (List D):=.ok (d::ds) e
def aaa(r:dG)(d:D)(e:Env):R (List D):=bindR (r e) (KH d)
def Ij(d)(ds)(e):KH d ds e = .ok (d::ds) e:=nr rfl
def M9(r)(d)(e):aaa r d e=bindR (r e) (KH d):=nr rfl
def Jk(a)(r)(env):aa a r env=bindR (a env) (aaa r):=nr rfl
def Uv(g:D->D->Option D)(x y:D)(e:Env):R D:=gB (g x y) e
def afh(g:D->D->Option D)(b:Ev)(x:D)(e:Env):R D:=bindR (b e) (Uv g x)
def Nb(g)(x y)(e):Uv g x y e=gB (g x y) e:=nr rfl
def Us(g)(b)(x)(e):afh g b x e=bindR (b e) (Uv g x):=nr rfl
def NQ(g)(a b)(env):au g a b env=bindR (a env) (afh g b):=nr rfl
def kUn{α β:Type}(g:α->Option β)(x:α)(e:Env):R β:=gB (g x) e
def Z8{α β:Type}(g:α->Option β)(x)(e):kUn g x e=gB (g x) e:=nr rfl
def Jl(g)(a)(env):ao g a env=bindR (a env) (kUn g):=nr rfl
def Yl(a)(env):gJ a env=bindR (a env) (kUn tK):=nr rfl
def gt0{α:Type}(a)(l:List α):(a::l)[0]? = some a:=nr rfl
def gtS{α:Type}(a)(l:List α)(i):(a::l)[i+1]? = l[i]?:=nr rfl
theorem Z6{α:Type}(enc)(ext:α->Env)(p)(out)(env)(k):∀(l:List α) vs,vs.length=k->
  (∀a∈l,(ext a).length=k/\(∀vs,vs.length=k->g (enc a) (env++vs)=some (env++ext a))/\c (env++ext a) = .ok (p a) (env++ext a)/\(p a=true->e (env++ext a) = .ok (out a) (env++ext a)))->
  ∃vs',vs'.length=k/\Gr g c e (l.map enc) (env++vs) = .ok ((l.filter p).map out) (env++vs')
 | [],vs,hv,_=>⟨vs,hv,rfl⟩
 | a::l,vs,hv,h=>by
  obtain⟨h1,h2,h3,h4⟩:=h a Qqk;obtain⟨vs',h5,h6⟩:=Z6 enc ext p out env k l (ext a) h1 λb hb=>h b<|Qqw _ hb;refine⟨vs',h5,?_⟩;rw[Qq7];unfold Gr;rw[h2 vs hv];show bindR (c<|env++ext a) _=_;rw[h3,bR];cases hp:p a with
  | true=>rw[if_pos rfl,h4 hp,bR,h6,bR,List.filter_cons_of_pos hp,Qq7]
  | false=>rw[if_neg Qw3,h6,List.filter_cons_of_neg (by rw[hp];exact Qw3)]
def rT{α:Type}{lo n:Nat}(l:List α)(enc)(ext:α->Env)(p)(out)(hit:it env = .ok (l.map enc) aD)(hlo:aD.length=lo)
  (h:∀a∈l,(ext a).length=n - lo/\(∀vs,vs.length=n - lo->g (enc a) (aD++vs)=some (aD++ext a))/\c (aD++ext a) = .ok (p a) (aD++ext a)/\(p a=true->e (aD++ext a) = .ok (out a) (aD++ext a)))
  (hz:l.length<=sizeLine):fY lo n it g c e env = .ok (.lst ((l.filter p).map out)) aD:=by
 obtain⟨vs',h5,h6⟩:=Z6 enc ext p out aD (n - lo) l (List.replicate (n - lo) none) Qz4 h;have:=yN hit hlo h6<|Qq0 (by rw[Qqj];exact List.length_filter_le _ _) hz;rw[this,<-hlo,List.take_left]
def nO{α:Type}{lo n:Nat}(l:List α)(enc)(out)(hit:it env = .ok (l.map enc) aD)(hlo:aD.length=lo)(hn:n=lo+1)
  (h:∀a∈l,e (aD++[some (false,enc a)]) = .ok (out a) (aD++[some (false,enc a)])) (hz:l.length<=sizeLine):fY lo n it (aq lo) cL e env = .ok (.lst (l.map out)) aD:=by
 subst hn hlo;have:=rT (n:=aD.length+1) (g:=aq aD.length) (c:=cL) l enc (λa=>[some (false,enc a)]) (λ_=>true) out hit rfl (λa ha=>⟨by simp,λvs hv=>?_,rfl,λ_=>h a ha⟩) hz
 ·rw[this,Qk0.mpr<|λ_ _=>rfl]
 ·have hv:vs.length=1:=by omega
  obtain⟨v,rfl⟩:=List.length_eq_one_iff.mp hv;unfold aq;rw[List.set_append_right _ _ (Qqy _),Nat.sub_self]
  rfl
def NP{α:Type}{lo n:Nat}(l:List α)(enc)(p)(out)(hit:it env = .ok (l.map enc) aD)(hlo:aD.length=lo)(hn:n=lo+1)
  (hc:∀a∈l,c (aD++[some (false,enc a)]) = .ok (p a) (aD++[some (false,enc a)]))
  (h:∀a∈l,p a=true->e (aD++[some (false,enc a)]) = .ok (out a) (aD++[some (false,enc a)])) (hz:l.length<=sizeLine):fY lo n it (aq lo) c e env = .ok (.lst ((l.filter p).map out)) aD:=by
 subst hn hlo;refine rT l enc (λa=>[some (false,enc a)]) p out hit rfl (λa ha=>⟨by simp,λvs hv=>?_,hc a ha,λhp=>h a ha hp⟩) hz;have hv:vs.length=1:=by omega
 obtain⟨v,rfl⟩:=List.length_eq_one_iff.mp hv;unfold aq;rw[List.set_append_right _ _ (Qqy _),Nat.sub_self]
 rfl
open PySem PySem.Spec PyProof.Rows L2
section
variable{X:Cx}{C:Cfg}{pos:Pos}{x:Expr}{a:Ev}
def U3:D->Option Int->Option Int->Option D
 | .str z,lo,hi=>some (.str (cutD z lo hi))
 | .tup xs,lo,hi=>some (.tup (cutD xs lo hi))
 | .lst xs,lo,hi=>some (.lst (cutD xs lo hi))
 | .arr xs,lo,hi=>some (.lst (cutD xs lo hi))
 | _,_,_=>none
def jV(a:Ev)(lo hi:VR):Ev:=λenv=>bindR (a env) λd aD=>bindR (lo aD) λl fH=>bindR (hi fH) λu Vd=>gB (U3 d l u) Vd
def K3(z)(lo hi):U3 (.str z) lo hi=some (.str (cutD z lo hi)):=nr rfl
end
structure SX(X:Cx)(C:Cfg)(e:Expr)(ev:Ev):Prop where
 u:Ev.PX X C e ev
structure Gj(X:Cx)(C:Cfg)(e:Expr)(ev:Ev):Prop where
 u:Ev.Q4 X C e ev
structure SXN(X:Cx)(C:Cfg)(e:Expr)(ev:Ev):Prop where
 u:Ev.V7 X C e ev
structure Lp(X:Cx)(C:Cfg)(e:Expr)(ev:gh):Prop where
 u:Ev.PXT X C e ev
structure SXW(X:Cx)(C:Cfg)(e:Expr)(ev:gh):Prop where
 u:Ev.PXW X C e ev
structure Ol(X:Cx)(C:Cfg)(e:List Expr)(ev:dG):Prop where
 u:Ev.Om X C e ev
structure xK(X:Cx)(C:Cfg)(e:List Expr)(ev:dG):Prop where
 u:Ev.Y9 X C e ev
structure SXL(X:Cx)(C:Cfg)(e:List Expr)(ev:dG):Prop where
 u:Ev.PXL X C e ev
structure Gs(X:Cx)(C:Cfg)(e:Stmt)(ev:cu):Prop where
 u:Ev.Lq X C e ev
structure fV(X:Cx)(C:Cfg)(e:List Stmt)(ev:cu):Prop where
 u:Ev.su X C e ev
structure Y5(X:Cx)(C:Cfg)(e:List Expr)(ev:gh):Prop where
 u:Ev.QT X C e ev
structure SXP(X:Cx)(C:Cfg)(e:Option Expr)(ev:VR):Prop where
 u:Ev.PXP X C e ev
structure SXI(X:Cx)(C:Cfg)(tg e:Expr)(ev:dG):Prop where
 u:Ev.Y7 X C tg e ev
structure SXG(X:Cx)(C:Cfg)(lo:Nat)(e:Expr)(ev:GV):Prop where
 u:Ev.Y8 X C lo e ev
structure Y6(X:Cx)(C:Cfg)(lo:Nat)(e:List Expr)(ev:V9):Prop where
 u:Ev.adA X C lo e ev
section
variable{X:Cx}{C:Cfg}{pos p px:Pos}{x y z:Expr}{a b c:Ev}{t u:gh}{i:Nat}{n:Str}{e:Expr}{es:List Expr}{ea:dG}{p2 pos2:Pos}
def aC(ha:SX X C e a)(hr:Ol X C es r)(hs:starEach (e::es) X.env=(false,eval e X.env)::starEach es X.env:=by rfl):Ol X C (e::es) (aa a r):=⟨Ev.zE ha.u hr.u hs⟩
def bf(i)(hN:X.N[i]? = some n:=by rfl)(hv:wg X.env.scope n:=by first|exact .inl rfl|exact .inr (.inl rfl)|exact .inr (.inr rfl))(hd:lr n:=by decide)(hcd:uz n:=by decide):SX X C (.Name n pos) (aP i):=⟨Ev.Zr i hN hv hd hcd⟩
def ji(i)(hr:Ol X C es r)(hN:X.N[i]? = some n:=by rfl)(hv:wg X.env.scope n:=by first|exact .inl rfl|exact .inr (.inl rfl)|exact .inr (.inr rfl))(hd:lr n:=by decide)(hcd:uz n:=by decide)(hs:starEach (.Name n pos::es) X.env=(false,eval (.Name n pos) X.env)::starEach es X.env:=by rfl):Ol X C (.Name n pos::es) (aa (aP i) r):=aC (bf i hN hv hd hcd) hr hs
def aA  : Ol X C [] aj:=⟨Ev.En ⟩
def aH(h:SX X C e ev):Gj X C e ev:=⟨Ev.PX.b h.u⟩
def aK{i:Int}:SX X C (.Constant (.int i) j pos) (jr (.int i)):=⟨Ev.Td ⟩
def az{st:Stmt}{rest:List Stmt}{a b:cu}(h1:Gs X C st a)(h2:fV X C rest b):fV X C (st::rest) (aM a b):=⟨Ev.CK h1.u h2.u⟩
def aF{st:Stmt}{a:cu}(h1:Gs X C st a):fV X C [st] a:=⟨Ev.zA h1.u⟩
def aZ{lo:Nat}(i)(hnd:mq X.N=true:=by rfl)(hlo:Nat.ble lo i=true:=by rfl)(hfx:C.fx i=none:=by rfl)(hi:X.N[i]? = some n:=by rfl)(hx:Loc X.env.scope n:=by first|exact .inl rfl|exact .inr rfl)(hf:X.fn n=true\/X.env.scope.names.lookup n=some .local:=by first|exact .inl rfl|exact .inr rfl):SXG X C lo (.Name n pos) (aq i):=⟨S7 (jO hnd) hi hx (Qj6 hlo) hfx hf⟩
def aU(z){x:Str}{j:Nat}(hz:x=strOf z:=by decide +kernel)(hl:z.length<=sizeLine:=by decide):SX X C (.Constant (.str x) j pos) (jr (.str z)):=⟨Ev.S8 z hz hl⟩
def bV(i)(hN:X.N[i]? = some n:=by rfl)(hv:wg X.env.scope n:=by first|exact .inl rfl|exact .inr (.inl rfl)|exact .inr (.inr rfl))(hd:lr n:=by decide)(hcd:uz n:=by decide):Gj X C (.Name n pos) (bj i):=⟨Xa i hN hv hd hcd⟩
def bZ{pos':Pos}(i)(he:SX X C e a)(hnd:mq X.N=true:=by rfl)(hfx:C.fx i=none:=by rfl)(hi:X.N[i]? = some n:=by rfl)(hx:Loc X.env.scope n:=by first|exact .inl rfl|exact .inr rfl)(hs:swapsWith e (some (.Name n pos')) pos.line X.env=pure false:=by rfl)(hf:X.fn n=true\/X.env.scope.names.lookup n=some .local:=by first|exact .inl rfl|exact .inr rfl):Gs X C (.Assign [.Name n pos'] e pos) (bz a (aq i)):=⟨Ev.RV i he.u hnd hfx hi hx hs hf⟩
def aV(h:SX X C e a):Gs X C (.Return (some e) pos) (bw a):=⟨(Tp h.u).imp λD σ H hq=>by
 obtain⟨Pr,F,env,r,f⟩:=hq;obtain⟨d,aD,e1,f1⟩:=dW f;exact⟨Pr,F,env,aD,d,r,e1,λv H1 F1 r1 s1 p1=>f1 v σ H1 F1 r1 s1 p1⟩⟩
def aX(h:Gj X C e a)(hs:Bg e X.env:=by rfl):xK X C [e] (aa a aj):=⟨(fD h.u jM hs).imp λσ H Q hq=>by
 obtain⟨Pr,F,env,env',ds,rl,e,q⟩:=hq;obtain⟨d1,aD,e1,e2⟩:=aR e;cases e2;exact⟨Pr,F,env,env',d1,rl,e1,λv H1 F1 r1 s1 p1=>q _ H1 F1 r1 s1 ⟨v,[],rfl,p1,rfl⟩⟩⟩
def cz(O:Own X.prog X.w X.K X.mg X.base n k ps (qT X.K m g))(G:Good X C)(hr:gY k' X.A)(ha:Ol X C (e::es) ea)(hn:∀env ds env',ea env = .ok ds env'->ds.length=m)(hk:Nat.ble k k'=true:=by rfl)(hg:Gl X n:=by rfl)(hdb:lr n:=by decide)(he:starEach (e::es) X.env=(false,eval e X.env)::starEach es X.env:=by rfl)(hpl:(backTo pos (starEach es X.env)).any (·.1)=false:=by rfl):SX X C (.Call (.Name n p) (e::es) [] pos) (ao g ea):=⟨by
 obtain⟨f,fd,h1,h2,h3,h4⟩:=O;rw[G.K] at h1;have h1':n6 X.prog X.w X.K X.mg X.base Cp k f fd ps (qT C.K m g):=by rw[G.K];exact h1
 exact abv h1' (hr.mono<|Qj6 hk) hg h2 h3 h4 ha.u hn hdb he hpl⟩
def lL(h:Ol X C es r):SX X C (.Tuple es k pos) (ig r):=⟨(abM h.u).imp λσ H Q hq=>by
 obtain⟨Pr,F,env,env',d,rl,e,q⟩:=hq;obtain⟨ds,aD,e1,e2⟩:=aR e;split at e2
 ·rename_i hz;cases e2;refine⟨Pr,F,env,env',ds,rl,e1,λvs H1 F1 r1 s1 p1=>⟨by rw[p1.length];exact hz,λp hp=>?_⟩⟩;obtain⟨r2,s2⟩:=r1.new hp;exact q _ _ _ r2 (s1.trans s2) ⟨hz,p,vs,rfl,qM.of aY,bL.mono s2 _ _ p1⟩
 ·cases e2⟩
def bh{lo:Nat}(h1:SXG X C lo e g)(h2:Y6 X C lo es gs)(hs:(assignEach (e::es) X.env).map (·.2)=assign e X.env::(assignEach es X.env).map (·.2):=by rfl):Y6 X C lo (e::es) (bD g gs):=⟨(Tu h1.u h2.u hs).imp λv σ H Q h=>by
 obtain⟨Pr,F,env,env',ds,r,p,e,q⟩:=h;cases ds with
 | nil=>cases e
 | cons d ds=>
  obtain⟨u,w,rfl,p1,p2⟩:=p;obtain⟨aD,e1,e2⟩:=Qx2.mp e;refine⟨u,w,rfl,Pr,F,env,aD,d,r,p1,e1,λσ1 H1 F1 r1 s1 t1=>?_⟩;exact⟨Pr,F1,aD,env',ds,r1,bL.mono s1 _ _ p2,e2,λσ2 H2 F2 r2 s2 t2=>q σ2 H2 F2 r2 (s1.trans s2)<|t2.trans t1⟩⟩
def bT(h:SXN X C e ev):SX X C e ev:=⟨Ev.V7.px h.u⟩
def dg(i)(G:Good X C)(hb:Gj X C y b)(hN:X.N[i]? = some n:=by rfl)(hv:wg X.env.scope n:=by first|exact .inl rfl|exact .inr (.inl rfl)|exact .inr (.inr rfl))(hs:qH y:=by intro _ _;rfl)(hd:lr n:=by decide)(hcd:uz n:=by decide):SX X C (.Subscript (.Name n px) y pos) (ak dC i b):=⟨abx i G.K hN hv hb.u hs hd hcd⟩
def iG{v:Str}{pv:Pos}(i)(O:Own X.prog X.w X.K X.mg X.base n k ps (wL X.K m g))(G:Good X C)(hr:gY k' X.A)(ha:Ol X C es ea)(hn:∀env ds env',ea env = .ok ds env'->ds.length+1=m)(hk:Nat.ble k k'=true:=by rfl)(hN:X.N[i]? = some v:=by rfl)(hv:wg X.env.scope v:=by first|exact .inl rfl|exact .inr (.inl rfl)|exact .inr (.inr rfl))(hg:Gl X n:=by rfl)(hdb:lr n:=by decide)(he:starEach (.Name v pv::es) X.env=(false,eval (.Name v pv) X.env)::starEach es X.env:=by rfl)(hpl:(backTo pos (starEach es X.env)).any (·.1)=false:=by rfl)(hd:lr v:=by decide)(hcd:uz v:=by decide):SX X C (.Call (.Name n p) (.Name v pv::es) [] pos) (dR g i ea):=⟨by
 obtain⟨f,fd,h1,h2,h3,h4⟩:=O;rw[G.K] at h1;have h1':n6 X.prog X.w X.K X.mg X.base Cp k f fd ps (wL C.K m g):=by rw[G.K];exact h1
 exact aeE hN hv h1' (hr.mono<|Qj6 hk) hg h2 h3 h4 ha.u hn hdb he hpl hd hcd⟩
def cO(o:Bi X C op g)(ha:SX X C x a)(hb:Gj X C y b):SX X C (.BinOp x op y pos) (au g a b):=⟨let ⟨_,h1,h2⟩:=o.ex;aeC h1 h2 ha.u hb.u⟩
def cY(ha:SX X C e a)(hr:SXL X C es r)(hs:starEach (e::es) X.env=(false,eval e X.env)::starEach es X.env:=by rfl):SXL X C (e::es) (aa a r):=⟨⟨Ev.zE ha.u hr.u.go hs⟩⟩
def fC(i)(o:Bi X C op g)(hb:Gj X C y b)(hN:X.N[i]? = some n:=by rfl)(hv:wg X.env.scope n:=by first|exact .inl rfl|exact .inr (.inl rfl)|exact .inr (.inr rfl))(hd:lr n:=by decide)(hcd:uz n:=by decide):SX X C (.BinOp (.Name n px) op y pos) (ak g i b):=⟨let ⟨_,h1,h2⟩:=o.ex;abw i hN hv h1 h2 hb.u hd hcd⟩
def cM{c:Expr}{a b:List Stmt}{ea eb:cu}(hc:Lp X C c t)(ha:fV X C a ea)(hb:fV X C b eb):Gs X C (.If c a b pos) (eQ t ea eb):=⟨Ev.Sy hc.u ha.u hb.u⟩
def di(h:Ol X C es r):SXN X C (.List es pos) (cB r):=⟨Ev.Mw h.u⟩
def bK  : fV X C [] bU:=⟨Ev.Hx ⟩
def fc(G:Good X C)(h:SX X C x a):SXI X C tg x (fU a):=⟨W8 G.K h.u⟩
def qd{b:Bool}:SX X C (.Constant (.bool b) j pos) (jr (.bl b)):=⟨Ev.aeF ⟩
def kI{elt tg iter:Expr}(N')(lo)(ok:nU X scope N')(G:Good X C)(hi:SXI X C tg iter it)(bg:∀X',km X scope N' X'->SXG X' C lo tg g)(bc:∀X',km X scope N' X'->Y5 X' C ifs cc)(be:∀X',km X scope N' X'->SX X' C elt ee)(hs:∀x,foldedSetIterable iter X.env x=pure x:=by intro _;rfl):SXN X C (.ListComp elt [⟨tg,iter,ifs,0⟩] scope pos) (fY lo N'.length it g cc ee):=⟨Ev.agX N' lo ok G hi.u (λX1 h1=>(bg X1 h1).u) (λX1 h1=>(bc X1 h1).u) (λX1 h1=>(be X1 h1).u) hs⟩
def gq(G:Good X C)(hm:X.mg "len" = none)(ha:xK X C [e] ea)(hg:Gl X "len":=by rfl)(he:Bg e X.env:=by rfl):SX X C (.Call (.Name "len" p) [e] [] pos) (ao cT ea):=⟨pD (by rw[<-G.K];exact Vv) ado hg hm PySem.boot_len ha.u (by decide) (by decide) he rfl⟩
def eY(h:SX X C e a)(he:∀whole,isTrue e X.env whole=(do let v <-whole;standAt e.pos;holding [v] (truthy v)):=by intro _;rfl):Lp X C e (cC a):=⟨(abB h.u he).imp λσ H Q hq=>Rq hq⟩
def dU{lo:Nat}:Y6 X C lo [] gC:=⟨Ev.S6 ⟩
def j6{lo:Nat}{k:Nat}(G:Good X C)(h:Y6 X C lo es gs)(hn:(assignEach es X.env).length=m:=by rfl)(hst:(assignEach es X.env).findIdx? (·.1)=none:=by rfl):SXG X C lo (.Tuple es k pos) (gb m gs):=⟨W9 G.calm G.K h.u hn hst⟩
def cN:Y5 X C [] cL:=⟨Ev.S5 ⟩
def rH{tg iter:Expr}(G:Good X C)(hi:SXI X C tg iter it)(hg:SXG X C 0 tg g)(hb:fV X C body bs)(hp:PassesOwn (model X.prog X.w) X.A X.env X.xe:=by exact PassesOwn.never)(hs:∀x,foldedSetIterable iter X.env x=pure x:=by intro _;rfl):Gs X C (.For tg iter body [] pos) (jX it g bs):=⟨W4 hp G.calm hi.u hg.u hb.u hs⟩
def dw(o:Cm X C op g)(ha:SX X C x a)(hb:Gj X C y b)(hm:behindInMarks op y=false:=by rfl):Lp X C (.Compare x [op] [y] pos) (cC (au g a b)):=⟨Ev.ZF o ha.u hb.u hm⟩
def Ek{pos':Pos}(i)(he:SXN X C e a)(hnd:mq X.N=true:=by rfl)(hfx:C.fx i=none:=by rfl)(hi:X.N[i]? = some n:=by rfl)(hx:Loc X.env.scope n:=by first|exact .inl rfl|exact .inr rfl)(hs:swapsWith e (some (.Name n pos')) pos.line X.env=pure false:=by rfl)(hf:X.fn n=true\/X.env.scope.names.lookup n=some .local:=by first|exact .inl rfl|exact .inr rfl):Gs X C (.Assign [.Name n pos'] e pos) (jh i a):=⟨W3 (jO hnd) hi hx hfx he.u hs hf⟩
def jk(G:Good X C)(hm:X.mg "tuple" = none)(ha:xK X C [e] ea)(hg:Gl X "tuple":=by rfl)(he:Bg e X.env:=by rfl):SX X C (.Call (.Name "tuple" p) [e] [] pos) (ao fX ea):=⟨sS (by rw[<-G.K];exact BZ) Vt hg hm (by decide +kernel) ha.u (by decide) (by decide) he rfl⟩
def Cv(G:Good X C)(ha:SX X C x a)(hb:Gj X C y b)(hs:qH y:=by intro _ _;rfl):SX X C (.Subscript x y pos) (au dC a b):=⟨aeD G.K ha.u hb.u hs⟩
def iB(i)(o:Cm X C op g)(hb:Gj X C y b)(hN:X.N[i]? = some n:=by rfl)(hv:wg X.env.scope n:=by first|exact .inl rfl|exact .inr (.inl rfl)|exact .inr (.inr rfl))(hm:behindInMarks op y=false:=by rfl)(hd:lr n:=by decide)(hcd:uz n:=by decide):Lp X C (.Compare (.Name n px) [op] [y] pos) (cC (ak g i b)):=⟨by
 obtain⟨r,h1,h2⟩:=o.ex;exact(Mx h1 (j0 hN hv hd hcd) hb.u hm).imp λσ H Q h=>tD h2 σ H _<|Rq h⟩
def pA(he:SX X C e a)(hg:SXG X C 0 tg g)(hs:swapsWithSole [tg] e pos.line X.env=pure false:=by rfl)(hw:swappedStores [tg] e X.env=pure none:=by rfl)(h1:(assignEach [tg] X.env).map (·.2)=[assign tg X.env]:=by rfl):Gs X C (.Assign [tg] e pos) (bz a g):=⟨(abG he.u hg.u hs hw h1).imp λD σ H h=>adw h⟩
def cQ(h:SX X C e a):SXP X C (some e) (o7 a):=⟨(Xf h.u).imp λσ H Q hq=>by
 obtain⟨Pr,F,env,env',o,r,e,q⟩:=hq;obtain⟨d,aD,e1,e2⟩:=aR e;refine⟨Pr,F,env,aD,d,r,e1,λv H1 F1 r1 s1 p1=>?_⟩;cases d with
 | int i=>cases e2;exact⟨i,p1,q H1 F1 r1 s1⟩
 | _=>cases e2⟩
def ie{a:gh}(h:Lp X C x a):Lp X C (.UnaryOp .Not x pos) (dX a):=⟨(abC h.u).imp λσ H Q hq=>by
 obtain⟨Pr,F,env,env',b,rl,e,q⟩:=hq;obtain⟨c,aD,e1,e2⟩:=aR e;cases e2;exact⟨Pr,F,env,env',c,rl,e1,λH1 F1 r1 s1=>q H1 F1 r1 s1⟩⟩
def gZ{a:gh}(h:SXW X C e a):Lp X C e a:=⟨Ev.PXW.pt h.u⟩
def qm{tg:Expr}(hm:X.mg "range" = none)(ha:Ol X C [e] ea)(hl:∀env ds env',ea env = .ok ds env'->ds.length=1)(hg:Gl X "range":=by rfl)(hs:starEach [e] X.env=[(false,eval e X.env)]:=by rfl):SXI X C tg (.Call (.Name "range" p) [e] [] pos) (gJ ea):=⟨Km hg hm ha.u hl hs⟩
def jA(i)(o:Cm X C op g)(hb:Gj X C y b)(hN:X.N[i]? = some n:=by rfl)(hv:wg X.env.scope n:=by first|exact .inl rfl|exact .inr (.inl rfl)|exact .inr (.inr rfl))(hm:behindInMarks op y=false:=by rfl)(hd:lr n:=by decide)(hcd:uz n:=by decide):SX X C (.Compare (.Name n px) [op] [y] pos) (ak g i b):=⟨by
 obtain⟨r,h1,h2⟩:=o.ex;exact(MJ h1 (j0 hN hv hd hcd) hb.u hm).imp<|tD h2⟩
def fQ:SX X C (.Constant .none j pos) (jr .non):=⟨Ev.Tc ⟩
def uv(ha:SX X C e a)(hr:xK X C es r)(hs:starEach (e::es) X.env=(false,eval e X.env)::starEach es X.env:=by rfl):xK X C (e::es) (aa a r):=⟨(fD ha.u hr.u hs).imp λσ H Q h=>by
  obtain⟨Pr,F,env,env',ds,rl,e,q⟩:=h;obtain⟨d1,aD,e1,e2⟩:=aR e;obtain⟨ds2,fH,e3,e4⟩:=aR e2;cases e4;refine⟨Pr,F,env,aD,d1,rl,e1,λv H1 F1 r1 s1 p1=>?_⟩;refine⟨Pr,F1,aD,env',ds2,r1,e3,λvs H2 F2 r2 s2 p2=>?_⟩;exact q _ H2 F2 r2 (s1.trans s2) ⟨v,vs,rfl,.inl<|Rep.mono s2 d1 v p1,p2⟩⟩
def mG(h:SX X C x a):SX X C (.BoolOp op [x] pos) a:=⟨abO h.u⟩
def RZ{apos cpos:Pos}(i)(G:Good X C)(he:SX X C e a)(hN:X.N[i]? = some n:=by rfl)(hv:wg X.env.scope n:=by first|exact .inl rfl|exact .inr (.inl rfl)|exact .inr (.inr rfl))(hs:swapsWith (.Call (.Attribute (.Name n px) "append" apos) [e] [] cpos) none pos.line X.env=pure false:=by rfl) (hfew:((backTo cpos (starEach [e] X.env)).all (λx=>!x.1)&&(backToKw cpos (keywordEach [] X.env)).all (λx=>x.1.isSome)
   && decide ([e].length+([]:List Keyword).length+(if ([]:List Keyword).isEmpty then 0 else 1)<30))=true:=by rfl) (hbase:attributeBase (.Name n px) "append" X.env (eval (.Name n px) X.env)=eval (.Name n px) X.env:=by rfl) (hline:(apos.endLine == cpos.line)=true:=by rfl) (hst:Bg e X.env:=by rfl) (hplain:(backTo cpos (starEach [] X.env)).any (·.1)=false:=by rfl) (hd:lr n:=by decide) (hcd:uz n:=by decide):Gs X C (.Expr (.Call (.Attribute (.Name n px) "append" apos) [e] [] cpos) pos) (tR i a):=⟨W5 hN hv he.u G.K hs hfew hbase hline hst hplain hd hcd⟩
def lq  : SXP X C none pL:=⟨Ev.SM ⟩
def jB{rest:List Expr}(ha:SX X C x a)(hb:SX X C (.BoolOp .And (y::rest) pos) b):SX X C (.BoolOp .And (x::y::rest) pos) (ju a b):=⟨(abS ha.u hb.u).imp λσ H Q hq=>by
  obtain⟨Pr,F,env,env',k,rl,e,q⟩:=hq;obtain⟨c,aD,e1,e2⟩:=aR e;refine⟨Pr,F,env,aD,c,rl,e1,λv H1 F1 r1 s1 p1=>?_⟩;cases c with
  | bl z=>
   refine⟨z,p1,?_⟩;cases z with
   | true=>exact afi ⟨Pr,F1,aD,env',k,r1,e2,λv2 H2 F2 r2 s2 p2=>q v2 H2 F2 r2 (s1.trans s2) p2⟩
   | false=>cases e2;exact afj<|q _ H1 F1 r1 s1 rfl
  | _=>cases e2⟩
def gO{rest:List Expr}{a b:gh}(ha:Lp X C x a)(hb:SXW X C (.BoolOp .Or (y::rest) pos) b):SXW X C (.BoolOp .Or (x::y::rest) pos) (du a b):=⟨(pw_or ha.u hb.u).imp λσ H Q hq=>by
  obtain⟨Pr,F,env,env',k,rl,e,q⟩:=hq;obtain⟨c,aD,e1,e2⟩:=aR e;refine⟨Pr,F,env,aD,c,rl,e1,λH1 F1 r1 s1=>?_⟩;split at e2
  ·rename_i hc;rw[if_pos hc];cases e2;exact q H1 F1 r1 s1
  ·rename_i hc;rw[if_neg hc];exact⟨Pr,F1,aD,env',k,r1,e2,λH2 F2 r2 s2=>q H2 F2 r2<|s1.trans s2⟩⟩
def t7(G:Good X C)(hm:X.mg "all" = none)(ha:xK X C [e] ea)(hg:Gl X "all":=by rfl)(he:Bg e X.env:=by rfl):SX X C (.Call (.Name "all" p) [e] [] pos) (ao qw ea):=⟨pD (by rw[<-G.K];exact QK G.calm) adp hg hm (by decide +kernel) ha.u (by decide) (by decide) he rfl⟩
def iI{a:gh}(h:Lp X C x a):SXW X C (.BoolOp .Or [x] pos) a:=⟨pw_or1 h.u⟩
def sO{p q pos:Pos}(hg:Gl X "isinstance")(hm:X.mg "isinstance" = none)(hgT:Gl X xT)(hmT:X.mg xT=none)(hvT:bootBuiltins xT=some (.type T))(hk:∀d,PySem.W.kitOne X.K (.type (Wl d)) (.type T)=some (vz d T))(hK:X.K=C.K)(ha:SX X C e a)(hn:xT ≠ "__name__":=by decide)(hd:lr xT:=by decide)(he:starEach [e,.Name xT q] X.env=(false,eval e X.env)::starEach [.Name xT q] X.env:=by rfl):SX X C (.Call (.Name "isinstance" p) [e,.Name xT q] [] pos) (gk (xB T) a):=⟨by
 refine(uZ (Vw hk) hg hm boot_isinstance (fD ha.u (fD (Xp (v:=.ty T) hgT hmT hvT rfl hn hd) jM) he) (by decide) (by decide) he rfl).imp λσ H Q h=>?_;obtain⟨Pr,F,env,env',d,rl,e1,qq⟩:=h;obtain⟨d0,aD,e2,e3⟩:=aR e1;obtain⟨e4,rfl⟩:=cF e3;obtain⟨nc,rfl⟩:=Yh e4;refine⟨Pr,F,env,env',d0,rl,e2,λv H1 F1 r1 s1 p1=>⟨d0,v,rfl,nc,?_,qq _ H1 F1 r1 s1 rfl⟩⟩;rw[hK];exact Rep.mono r1.fr d0 v p1⟩
def pB{c:Expr}(h:Lp X C c t):Y5 X C [c] t:=⟨Xh h.u⟩
def acy(O:Own X.prog X.w X.K X.mg X.base n k ps (spN X.K m g))(G:Good X C)(hr:gY k' X.A)(ha:Ol X C (e::es) ea)(hn:∀env ds env',ea env = .ok ds env'->ds.length=m)(hk:Nat.ble k k'=true:=by rfl)(hg:Gl X n:=by rfl)(hdb:lr n:=by decide)(he:starEach (e::es) X.env=(false,eval e X.env)::starEach es X.env:=by rfl)(hpl:(backTo pos (starEach es X.env)).any (·.1)=false:=by rfl):SXN X C (.Call (.Name n p) (e::es) [] pos) (ao g ea):=⟨by
 obtain⟨f,fd,h1,h2,h3,h4⟩:=O;rw[G.K] at h1;have h1':n6 X.prog X.w X.K X.mg X.base Cp k f fd ps (spN C.K m g):=by rw[G.K];exact h1
 exact W6 h1' (hr.mono<|Qj6 hk) hg h2 h3 h4 ha.u hn hdb he hpl⟩
def rK{rest:List Expr}{a b:gh}(ha:Lp X C x a)(hb:SXW X C (.BoolOp .And (y::rest) pos) b):SXW X C (.BoolOp .And (x::y::rest) pos) (iz a b):=⟨(pw_and ha.u hb.u).imp λσ H Q hq=>by
  obtain⟨Pr,F,env,env',k,rl,e,q⟩:=hq;obtain⟨c,aD,e1,e2⟩:=aR e;refine⟨Pr,F,env,aD,c,rl,e1,λH1 F1 r1 s1=>?_⟩;split at e2
  ·rename_i hc;rw[if_pos hc];exact⟨Pr,F1,aD,env',k,r1,e2,λH2 F2 r2 s2=>q H2 F2 r2<|s1.trans s2⟩
  ·rename_i hc;rw[if_neg hc];cases e2;exact q H1 F1 r1 s1⟩
def pC{x:Str}{u:Value}(d)(hg:Gl X x)(hm:X.mg x=some u)(rv:RelV v u)(hr:∀F,Rep C.K F d v)(hd:lr x:=by decide):SX X C (.Name x pos) (jr d):=⟨(Xm hg hm rv hd).imp λσ H Q h=>by
  obtain⟨Pr,F,env,env',d,r,e,q⟩:=h;cases e;exact q _ _ F r (aQ.refl F)<|hr F⟩
def uL{apos cpos:Pos}(G:Good X C)(ho:SX X C o a)(he:Gj X C e b)(hbase:attributeBase o "join" X.env (eval o X.env)=eval o X.env:=by rfl)(hs:Bg e X.env:=by rfl) (hfew:((backTo cpos (starEach [e] X.env)).all (λx=>!x.1)&&(backToKw cpos (keywordEach [] X.env)).all (λx=>x.1.isSome)
   && decide ([e].length+([]:List Keyword).length+(if ([]:List Keyword).isEmpty then 0 else 1)<30))=true:=by rfl) (hline:(apos.endLine == cpos.line)=true:=by rfl) (hplain:(backTo cpos (starEach [] X.env)).any (·.1)=false:=by rfl):SX X C (.Call (.Attribute o "join" apos) [e] [] cpos) (au lV a b):=⟨Xc G.K ho.u he.u hbase hs hfew hline hplain⟩
def Zu{lo hi:Option Expr}(G:Good X C)(ha:SX X C x a)(hl:SXP X C lo el)(hh:SXP X C hi eh):SX X C (.Subscript x (.Slice lo hi none p2) pos) (BW a el eh):=⟨aeB G.K ha.u hl.u hh.u⟩
def sJ{a:gh}(h:Lp X C x a):SXW X C (.BoolOp .And [x] pos) a:=⟨pw_and1 h.u⟩
def JM(ha:SX X C x a):SX X C (.UnaryOp .USub x pos) (gk IW a):=⟨aeA aa0 aa1 ha.u⟩
def yS(o:Cm X C op g)(ha:SX X C x a)(hb:Gj X C y b)(hm:behindInMarks op y=false:=by rfl):SX X C (.Compare x [op] [y] pos) (au g a b):=⟨let ⟨_,h1,h2⟩:=o.ex;aby h1 h2 ha.u hb.u hm⟩
def SQ  : SXL X C [] aj:=⟨Ev.W7 ⟩
def XJ{a:dG}(h:SXL X C es a):SXN X C (.List es pos) (cB a):=⟨Ev.Mw h.u.go⟩
def Rc(i)(G:Good X C)(hb:Gj X C y b)(hN:X.N[i]? = some n:=by rfl)(hv:wg X.env.scope n:=by first|exact .inl rfl|exact .inr (.inl rfl)|exact .inr (.inr rfl))(hs:Zc y:=by intro _ _;rfl)(hd:lr n:=by decide)(hcd:uz n:=by decide):SX X C (.Subscript (.Name n px) y pos) (ak mz i b):=⟨Te i G.u1 hN hv hb.u hs hd hcd⟩
def aaM(G:Good X C)(hm:X.mg "max" = none)(ha:xK X C [e,e2] ea)(hg:Gl X "max":=by rfl)(he:starEach [e,e2] X.env=(false,eval e X.env)::starEach [e2] X.env:=by rfl)(hpl:(backTo pos (starEach [e2] X.env)).any (·.1)=false:=by rfl):SX X C (.Call (.Name "max" p) [e,e2] [] pos) (ao Qu ea):=⟨pD (QH G.calm) adn hg hm (by decide +kernel) ha.u (by decide) (by decide) he hpl⟩
def Pq  : SXN X C (.Dict [] [] pos) Fx:=⟨Ev.SN ⟩
def aaL(G:Good X C)(hm:X.mg "min" = none)(ha:xK X C [e,e2] ea)(hg:Gl X "min":=by rfl)(he:starEach [e,e2] X.env=(false,eval e X.env)::starEach [e2] X.env:=by rfl)(hpl:(backTo pos (starEach [e2] X.env)).any (·.1)=false:=by rfl):SX X C (.Call (.Name "min" p) [e,e2] [] pos) (ao Qt ea):=⟨pD (QG G.calm) adm hg hm (by decide +kernel) ha.u (by decide) (by decide) he hpl⟩
def Cr(G:Good X C)(hm:X.mg "sorted" = none)(ha:xK X C [e] ea)(hg:Gl X "sorted":=by rfl)(he:Bg e X.env:=by rfl):SX X C (.Call (.Name "sorted" p) [e] [] pos) (ao jE ea):=⟨Pu G.K G.calm hg hm ha.u he rfl⟩
def S9{rest:List Expr}(ha:SX X C x a)(hb:SX X C (.BoolOp .Or (y::rest) pos) b):SX X C (.BoolOp .Or (x::y::rest) pos) (Jh a b):=⟨(aeI ha.u hb.u).imp λσ H Q hq=>by
  obtain⟨Pr,F,env,env',k,rl,e,q⟩:=hq;obtain⟨c,aD,e1,e2⟩:=aR e;refine⟨Pr,F,env,aD,c,rl,e1,λv H1 F1 r1 s1 p1=>?_⟩;cases c with
  | bl z=>
   refine⟨z,p1,?_⟩;cases z with
   | true=>cases e2;exact afi<|q _ H1 F1 r1 s1 rfl
   | false=>exact afj ⟨Pr,F1,aD,env',k,r1,e2,λv2 H2 F2 r2 s2 p2=>q v2 H2 F2 r2 (s1.trans s2) p2⟩
  | _=>cases e2⟩
def Yc{tg e2 e3:Expr}(hm:X.mg "range" = none)(ha:Ol X C [e,e2,e3] ea)(hl:∀env ds env',ea env = .ok ds env'->ds.length=3)(hg:Gl X "range":=by rfl)(hs:starEach [e,e2,e3] X.env=[(false,eval e X.env),(false,eval e2 X.env),(false,eval e3 X.env)]:=by rfl)(hs2:starEach [e2,e3] X.env=[(false,eval e2 X.env),(false,eval e3 X.env)]:=by rfl):SXI X C tg (.Call (.Name "range" p) [e,e2,e3] [] pos) (gJ ea):=⟨Kl hg hm ha.u hl hs hs2⟩
def Wg(G:Good X C)(hm:X.mg "list" = none)(ha:xK X C [e] ea)(hg:Gl X "list":=by rfl)(he:Bg e X.env:=by rfl):SX X C (.Call (.Name "list" p) [e] [] pos) (ao Dj ea):=⟨sS (by rw[<-G.K];exact Lg G.calm) YB hg hm (by decide +kernel) ha.u (by decide) (by decide) he rfl⟩
def Hs{elt tg iter:Expr}(N'){spos py:Pos}(lo)(i)(ok:nU X scope N')(G:Good X C)(hi:SXI X C tg iter it)(bg:∀X',km X scope N' X'->SXG X' C lo tg g)(bc:∀X',km X scope N' X'->Y5 X' C ifs cc)(be:∀X',km X scope N' X'->SX X' C elt ee)(hnd:mq X.N=true:=by rfl)(hfx:C.fx i=none:=by rfl)(hy:X.N[i]? = some n:=by rfl)(hx:Loc X.env.scope n:=by first|exact .inl rfl|exact .inr rfl)(hsw:swapsWith (.ListComp elt [⟨tg,iter,ifs,0⟩] scope pos) (some (.Name n py)) spos.line X.env=pure true:=by rfl)(hf:X.fn n=true\/X.env.scope.names.lookup n=some .local:=by first|exact .inl rfl|exact .inr rfl)(hs:∀x,foldedSetIterable iter X.env x=pure x:=by intro _;rfl):Gs X C (.Assign [.Name n py] (.ListComp elt [⟨tg,iter,ifs,0⟩] scope pos) spos) (jh i (fY lo N'.length it g cc ee)):=⟨Ev.agS N' lo i ok G hi.u (λX1 h1=>(bg X1 h1).u) (λX1 h1=>(bc X1 h1).u) (λX1 h1=>(be X1 h1).u) hnd hfx hy hx hsw hf hs⟩
def Ou(G:Good X C)(hm:X.mg "divmod" = none)(ha:xK X C [e,e2] ea)(hg:Gl X "divmod":=by rfl)(he:starEach [e,e2] X.env=(false,eval e X.env)::starEach [e2] X.env:=by rfl)(hpl:(backTo pos (starEach [e2] X.env)).any (·.1)=false:=by rfl):SX X C (.Call (.Name "divmod" p) [e,e2] [] pos) (ao vI ea):=⟨pD Jv QC hg hm (by decide +kernel) ha.u (by decide) (by decide) he hpl⟩
def Hy(h:SXN X C e a):Gs X C (.Return (some e) pos) (yZ a):=⟨(Tp h.u).imp λD σ H hq=>by
 obtain⟨Pr,F,env,r,f⟩:=hq;obtain⟨d,aD,e1,f1⟩:=dW f;exact⟨Pr,F,env,aD,d,r,e1,λv H1 F1 r1 s1 p1=>f1 v σ H1 F1 r1 s1 p1⟩⟩
def afv{lo:Nat}(i)(h:SX X C ix ev)(hN:X.N[i]? = some n:=by rfl)(hv:wg X.env.scope n:=by first|exact .inl rfl|exact .inr (.inl rfl)|exact .inr (.inr rfl)) (ha:∀v,assign (.Subscript (.Name n px) ix pos) X.env v=(do
   let ov <-holding [v] (eval (.Name n px) X.env)
   let iv <-holding [v,ov] (eval ix X.env)
   standAt pos
   holding [v,ov,iv] (setItem ov iv v)
   release [v,ov,iv] []):=by intro _;rfl) (hd:lr n:=by decide) (hcd:uz n:=by decide):SXG X C lo (.Subscript (.Name n px) ix pos) (Ye i ev):=⟨abt hN hv h.u ha hd hcd⟩
def WL{pos':Pos}(i)(G:Good X C)(hk:SX X C k ek)(he:SX X C e a)(hN:X.N[i]? = some n:=by rfl)(hv:wg X.env.scope n:=by first|exact .inl rfl|exact .inr (.inl rfl)|exact .inr (.inr rfl))(hs:swapsWith e (some (.Subscript (.Name n px) k pos')) pos.line X.env=pure false:=by rfl)(hd:lr n:=by decide)(hcd:uz n:=by decide):Gs X C (.Assign [.Subscript (.Name n px) k pos'] e pos) (ue i ek a):=⟨SJ G.u1 hN hv hk.u he.u hs hd hcd⟩
def LC(G:Good X C)(hm:X.mg "tuple" = none)(ha:xK X C [e] ea)(hg:Gl X "tuple":=by rfl)(he:Bg e X.env:=by rfl):SX X C (.Call (.Name "tuple" p) [e] [] pos) (ao Iv ea):=⟨sS (QD G.calm) Yz hg hm (by decide +kernel) ha.u (by decide) (by decide) he rfl⟩
def oV{lo hi:Option Expr}(G:Good X C)(ha:SX X C x a)(hl:SXP X C lo el)(hh:SXP X C hi eh):SX X C (.Subscript x (.Slice lo hi none p2) pos) (jV a el eh):=⟨by
 have h:=HD (pos:=pos) (p2:=p2) (Oj.or (Oj.or Mj J8)<|Oj.or (Oj.or J8 RG) aa7) ha.u hl.u hh.u;rw[G.K] at h;refine h.imp λσ H Q hq=>?_;obtain⟨Pr,F,env,env',d,r,e,q⟩:=hq;obtain⟨x,aD,e1,e2⟩:=aR e;obtain⟨l,fH,e3,e4⟩:=aR e2;obtain⟨u,Vd,e5,e6⟩:=aR e4;obtain⟨e7,rfl⟩:=cF e6;refine⟨Pr,F,env,aD,x,r,e1,λv H1 F1 r1 s1 p1=>⟨Pr,F1,aD,fH,l,r1,e3,λH2 F2 r2 s2=>⟨Pr,F2,fH,env',u,r2,e5,λH3 F3 r3 s3=>?_⟩⟩⟩;have p3:=Rep.mono (s2.trans s3) _ _ p1;have q3:=λv H' F' r' s' p'=>q v H' F' r' (((s1.trans s2).trans s3).trans s') p';cases x with
 | str z=>
  cases e7;obtain⟨rfl,hz⟩:=p1;exact .inr<|.inr ⟨z,rfl,hz,q3 _ H3 F3 r3 (aQ.refl _) ⟨rfl,Qq0 (Vl _ _ _) hz⟩⟩
 | tup xs=>
  exact .inr<|.inl<|aa8 r3 p3 (by rw[U0];exact e7) q3
 | lst xs=>exact .inl<|RJ r3 (.inl p3) e7 q3
 | arr xs=>exact .inl<|RJ r3 (.inl p3) e7 q3
 | _=>cases e7⟩
def yR(G:Good X C)(h1:X.mg "sorted" = none)(h2:X.mg "set" = none)(ha:SX X C e a)(g1:Gl X "sorted":=by rfl)(g2:Gl X "set":=by rfl)(he:Bg e X.env:=by rfl)(he2:starEach [.Call (.Name "set" p2) [e] [] pos2] X.env=(false,eval (.Call (.Name "set" p2) [e] [] pos2) X.env)::starEach [] X.env:=by rfl):SX X C (.Call (.Name "sorted" p) [.Call (.Name "set" p2) [e] [] pos2] [] pos) (gk jo a):=⟨by
 have i1:PE X (.Call (.Name "set" p2) [e] [] pos2) _:=xg (SX.Vu G.calm) g2 h2 (by decide +kernel) (fD ha.u jM he) (by decide) (by decide) he rfl;have i2:PE X (.Call (.Name "sorted" p) [.Call (.Name "set" p2) [e] [] pos2] [] pos) _:=uZ (SX.Ld G.calm) g1 h1 PyProof.Rows.boot_sorted (fD i1 jM he2) (by decide) (by decide) he2 rfl;refine i2.imp λσ H Q hq=>?_;obtain⟨Pr,F,env,env',d,r,e0,q⟩:=hq;obtain⟨x,aD,e1,e2⟩:=aR e0;obtain⟨e3,rfl⟩:=cF e2;refine⟨Pr,F,env,env',x,r,e1,λv H1 F1 r1 s1 p1=>?_⟩;unfold jo at e3;split at e3
 ·obtain⟨zs,e4,e5⟩:=Qx2.mp e3;split at e5
  ·rename_i hz;cases e5;obtain⟨z,b,ws,rfl,k1,k2⟩:=jg.lst r1.fr<|.inl p1;have e6:=mX e4 k2;subst e6;refine⟨b,zs,rfl,by rw[G.K];exact mR.of k1,hz.1,λl hl=>?_⟩;rw[<-SX.Cz];have r2:=r1.fresh (o:=SX.Cj X.prog X.w l<|(SX.n8 zs).map strOf) hl;have hz2:(SX.n8 zs).length<64/\∀z∈SX.n8 zs,z.length<=sizeLine:=
    ⟨Qz0 (SX.Ov zs) hz.1,λz hm=>hz.2 z<|(SX.Cy zs [] z).mp hm |>.resolve_left (by simp)⟩
   refine⟨l,SX.n8 zs,rfl,aY,hz2.1,λl2 hl2=>?_⟩;obtain⟨F2,r3,s2,p3⟩:=(r2.fresh hl2).keep<|VN.of r2 hl2<|zc r2 hl2 hz2;exact q _ _ F2 r3 (s1.trans s2) p3
  ·cases e5
 ·cases e3⟩
def Ko{c x y:Expr}(hc:Lp X C c t)(ha:SX X C x a)(hb:SX X C y b):SX X C (.IfExp c x y pos) (K6 t a b):=⟨(Tw hc.u ha.u hb.u).imp λσ H Q hq=>by
 obtain⟨Pr,F,env,env',k,rl,e,q⟩:=hq;obtain⟨z,aD,e1,e2⟩:=aR e;refine⟨Pr,F,env,aD,z,rl,e1,λH1 F1 r1 s1=>?_⟩;split at e2
 ·rename_i hz;rw[if_pos hz];exact⟨Pr,F1,aD,env',k,r1,e2,λv2 H2 F2 r2 s2 p2=>q v2 H2 F2 r2 (s1.trans s2) p2⟩
 ·rename_i hz;rw[if_neg hz];exact⟨Pr,F1,aD,env',k,r1,e2,λv2 H2 F2 r2 s2 p2=>q v2 H2 F2 r2 (s1.trans s2) p2⟩⟩
def Ot{apos cpos:Pos}(G:Good X C)(ho:SX X C o a)(he:Gj X C e b)(hbase:attributeBase o "index" X.env (eval o X.env)=eval o X.env:=by rfl)(hs:Bg e X.env:=by rfl) (hfew:((backTo cpos (starEach [e] X.env)).all (λx=>!x.1)&&(backToKw cpos (keywordEach [] X.env)).all (λx=>x.1.isSome)
   && decide ([e].length+([]:List Keyword).length+(if ([]:List Keyword).isEmpty then 0 else 1)<30))=true:=by rfl) (hline:(apos.endLine == cpos.line)=true:=by rfl) (hplain:(backTo cpos (starEach [] X.env)).any (·.1)=false:=by rfl):SX X C (.Call (.Attribute o "index" apos) [e] [] cpos) (au d7 a b):=⟨by
 refine(xU PySem.F.plainAttrs_str PySem.F.slot_str_index PySem.F.type_str_index HY ho.u (fD he.u jM hs) hbase hfew hline hs hplain).imp λσ H Q hq=>?_;obtain⟨Pr,F,env,env',d,r,e0,q⟩:=hq;obtain⟨x,aD,e1,e2⟩:=aR e0;obtain⟨y,fH,e3,e4⟩:=aR e2;obtain⟨e5,rfl⟩:=cF e4;unfold d7 at e5;split at e5
 ·rename_i z y;split at e5
  ·rename_i i rest ho.u;cases e5;refine⟨Pr,F,env,aD,_,r,e1,λvx H1 F1 r1 s1 p1=>?_⟩;obtain⟨rfl,_⟩:=p1;refine⟨rfl,Pr,F1,aD,env',_,r1,e3,λvy H2 F2 r2 s2 p2=>?_⟩;obtain⟨rfl,_⟩:=p2.str;exact⟨strOf z,strOf y,i,rest,rfl,rfl,by rw[aO];exact ho.u,q _ H2 F2 r2 (s1.trans s2) rfl⟩
  ·cases e5
 ·cases e5⟩
def LQ(G:Good X C)(hm:X.mg "int" = none)(ha:xK X C [e] ea)(hg:Gl X "int":=by rfl)(he:Bg e X.env:=by rfl):SX X C (.Call (.Name "int" p) [e] [] pos) (ao Ac ea):=⟨sS QJ YC hg hm (by decide +kernel) ha.u (by decide) (by decide) he rfl⟩
end
theorem Jm(n):∀a b:List (List Nat),tV (bu (n+1)) (a.map .str) (b.map .str)=some (a == b)
 | [],[]=>rfl
 | [],_::_=>rfl
 | _::_,[]=>rfl
 | x::a,y::b=>by
  rw[Qq7,Qq7];unfold tV;rw[Jm n a b]
  rfl
def U6(a b:List (List Nat)):jF (.lst (a.map .str)) (.lst (b.map .str))=some (.bl (a == b)):=by
 unfold jF;have:bu 60 (.lst<|a.map .str) (.lst<|b.map .str)=tV (bu 59) (a.map .str) (b.map .str):=rfl;rw[this,Jm]
 rfl
open PySem PySem.W PySem.Calls PyProof.Rows
section
variable{N:Nat}{r:Nat->Nat}
structure KB(N:Nat)(p:Array Nat):Prop where
 pos:1<=N
 perm:p.Perm (List.range N).toArray
end
end Ev
namespace ST
open PySem PyProof.Rows
section
variable{prog:Program}{w:World}{A:Around}{E:Value->Shared->Prop}{s:Shared}{kd:SortKind}{r:Keyed->Nat}{a₀:Array Keyed}
def Cmp(prog:Program)(w:World)(A:Around)(E:Value->Shared->Prop)(s:Shared)(kd:SortKind)(r:Keyed->Nat)(a₀:Array Keyed):Prop:=
 ∀x y,x∈a₀->y∈a₀->∀(st:SortSt) (Q:Option Bool->SortSt->Prop),kindOf st=kd->Q (some (decide (r x<r y))) st->wpS (model prog w) A E s (lt' x y) Q st
def bB(left:Bool)(r:Keyed->Nat)(key x:Keyed):Bool:=if left then decide (r x<r key) else !decide (r key<r x)
section
variable{left:Bool}{key:Keyed}{arr:Array Keyed}{base n:Nat}{st:SortSt}(C:Cmp prog w A E s kd r a₀)(hk:kindOf st=kd)(hkey:key∈a₀)(ahj:∀x∈arr,x∈a₀)(hb:base+n<=arr.size)
 (B:Nat->Bool) (hB:∀i (h:base+i<arr.size),i<n->bB left r key arr[base+i]=B i) (hm:∀i j,i<=j->j<n->B j=true->B i=true)
include C hk hkey ahj hb hB hm
end
end
section
variable{le:Keyed->Keyed->Prop}
structure J(le:Keyed->Keyed->Prop)(X Y out:List Keyed)(i j:Nat):Prop where
 hi:i<=X.length
 hj:j<=Y.length
 perm:out.Perm (X.take i++Y.take j)
 srt:out.Pairwise le
 low:∀x∈out,∀y∈X.drop i++Y.drop j,le x y
def Good(le:Keyed->Keyed->Prop)(X Y R:List Keyed):Prop:=R.Perm (X++Y)/\R.Pairwise le
end
section
variable{prog:Program}{w:World}{A:Around}{E:Value->Shared->Prop}{s:Shared}{kd:SortKind}{r:Keyed->Nat}{a₀:Array Keyed}
abbrev QX(r:Keyed->Nat):Keyed->Keyed->Prop:=λx y=>r x<=r y
section
variable{a b:Array Keyed}{st:SortSt}(C:Cmp prog w A E s kd r a₀)(hk:kindOf st=kd)(ma:∀x∈a,x∈a₀)(mb:∀x∈b,x∈a₀)(hX:a.toList.Pairwise (QX r))(hY:b.toList.Pairwise (QX r))
 (hl:∀y∈b.toList,∀h:a.size - 1<a.toList.length,QX r y a.toList[a.size - 1])
structure JS(r:Keyed->Nat)(a b o:Array Keyed)(i j:Nat):Prop where
 on:J (QX r) a.toList b.toList o.toList i j
 hi:i+1<a.size
 hj:j<b.size
abbrev GD(r:Keyed->Nat)(a b R:Array Keyed):Prop:=Good (QX r) a.toList b.toList R.toList
include hX in
include hX in
include hY hl in
include hY in
def P1(r:Keyed->Nat)(a b:Array Keyed)(n:Nat)(c:Option (Array Keyed))(o:Array Keyed)(i j:Nat):Prop:=match c with
 | some R=>GD r a b R
 | none=>JS r a b o i j/\n<=i+j
include C hk ma mb hX hY hl
end
end
section
variable{prog:Program}{w:World}{A:Around}{E:Value->Shared->Prop}{s:Shared}{kd:SortKind}{r:Keyed->Nat}{a₀:Array Keyed}
variable{a b:Array Keyed}{st:SortSt}(C:Cmp prog w A E s kd r a₀)(hk:kindOf st=kd)(ma:∀x∈a,x∈a₀)(mb:∀x∈b,x∈a₀)(hX:a.toList.Pairwise (QX r))(hY:b.toList.Pairwise (QX r))
 (hl:∀y∈b.toList,∀h:a.size - 1<a.toList.length,QX r y a.toList[a.size - 1])
include C hk ma mb hX hY hl
end
abbrev H1:=Option (Array Keyed)×Nat×Nat×Array Keyed×Nat×Nat
abbrev H2:=Option (Array Keyed)×Nat×Nat×Array Keyed×Nat×Nat×Nat
abbrev H0:=Option (Array Keyed)×Nat×Nat×Array Keyed×Nat
abbrev geR(r:Keyed->Nat):Keyed->Keyed->Prop:=λx y=>r y<=r x
section
variable{prog:Program}{w:World}{A:Around}{E:Value->Shared->Prop}{s:Shared}{kd:SortKind}{r:Keyed->Nat}{a₀:Array Keyed}
variable{a b:Array Keyed}{st:SortSt}(C:Cmp prog w A E s kd r a₀)(hk:kindOf st=kd)(ma:∀x∈a,x∈a₀)(mb:∀x∈b,x∈a₀)(hX:a.toList.Pairwise (QX r))(hY:b.toList.Pairwise (QX r))
 (hl:∀y∈a.toList,∀h:0<b.toList.length,r b.toList[0]<=r y)
abbrev JH(r:Keyed->Nat)(a b o:Array Keyed)(m n:Nat):Prop:=J (geR r) a.toList.reverse b.toList.reverse o.toList (a.size - m) (b.size - n)
structure KS(r:Keyed->Nat)(a b o:Array Keyed)(m n:Nat):Prop where
 on:JH r a b o m n
 m0:0<m
 ml:m<=a.size
 n1:1<n
 nl:n<=b.size
include hX hY in
include hX hl in
include hX in
def P2(r:Keyed->Nat)(a b:Array Keyed)(k:Nat)(c:Option (Array Keyed))(m n:Nat)(o:Array Keyed):Prop:=match c with
 | some R=>GD r a b R
 | none=>KS r a b o m n/\m+n<=k
include C hk ma mb hX hY hl
end
section
variable{prog:Program}{w:World}{A:Around}{E:Value->Shared->Prop}{s:Shared}{kd:SortKind}{r:Keyed->Nat}{a₀:Array Keyed}
variable{a b:Array Keyed}{st:SortSt}(C:Cmp prog w A E s kd r a₀)(hk:kindOf st=kd)(ma:∀x∈a,x∈a₀)(mb:∀x∈b,x∈a₀)(hX:a.toList.Pairwise (QX r))(hY:b.toList.Pairwise (QX r))
 (hl:∀y∈a.toList,∀h:0<b.toList.length,r b.toList[0]<=r y)
include C hk ma mb hX hY hl
end
section
variable{prog:Program}{w:World}{A:Around}{E:Value->Shared->Prop}{s:Shared}{kd:SortKind}{r:Keyed->Nat}{a₀:Array Keyed}
structure Bs(kd:SortKind)(a₀:Array Keyed)(st:SortSt):Prop where
 perm:(arrOf st).Perm a₀
 fail:failedOf st=none
 kind:kindOf st=kd
abbrev A1:=Option (Option Nat)×Nat
abbrev A2:=Option (Option Nat)×Nat×Nat
def part(l:List Keyed)(b n:Nat):List Keyed:=(l.drop b).take n
end
end ST
namespace Ev
open PySem PySem.Spec PySem.W PySem.Calls PyProof.Rows L2
def FA(K:Fg)(x:Str)(st:Stmt):Prop:=∃(f:Addr) (oc kV doc pm cdv ct:Value) (od an:Option Addr) (osl:Array (Option Value)),PySem.W.nsIn K mainGlobals x=some (some (.ref f))/\
 K.lookup f=some ⟨oc,od,.func (PySem.W.fnOf x x (gm st) (cH st) (aG st) .none kV doc pm an cdv ct),osl⟩/\PySem.W.codeIn K cdv x=true/\PySem.W.keepIn K (.ref f)=true
theorem FA.mk{K:Fg}{st:Stmt}{oc kV doc pm cdv ct:Value}(a:PySem.W.nsIn K mainGlobals x=some (some (.ref f)))
  (l:K.lookup f=some ⟨oc,od,.func (PySem.W.fnOf x x (gm st) (cH st) (aG st) .none kV doc pm an cdv ct),osl⟩) (c:PySem.W.codeIn K cdv x=true) (k:PySem.W.keepIn K (.ref f)=true):FA K x st:=
 ⟨f,oc,kV,doc,pm,cdv,ct,od,an,osl,a,l,c,k⟩
theorem FA.at{K:Fg}{st:Stmt}(X:K.In h)(G:h.Ns mainGlobals mg)(F:FA K x st)
  (b:∀{kV doc pm} {an} {cdv ct} us,us.length=ps.length->bindArgs (PySem.W.fnOf x x (gm st) (cH st) (aG st) .none kV doc pm an cdv ct) ⟨us,[]⟩=pure (ps.zip us)):cX K mg x st ps:=by
 obtain⟨f,oc,kV,doc,pm,cdv,ct,od,an,osl,a,l,c,k⟩:=F;exact funAt X G a l c k<|λ_ _ _ _ _ _ us hl=>b us hl
theorem FA.law{K:Fg}{st:Stmt}(X:K.In h)(G:h.Ns mainGlobals mg)(hfa:mg x=some (.ref fa))(F:FA K x st)
  (b:∀{kV doc pm} {an} {cdv ct} s v,BindsTo s (PySem.W.fnOf x x (gm st) (cH st) (aG st) .none kV doc pm an cdv ct) ⟨[v],[]⟩ [(y,v)])
  (q:∀{fd} base,QW K x x st fa fd->n6 P w K mg base Cp k fa fd [y] (qT K 1 g)) :
  ∃fd,(∀s v,BindsTo s fd ⟨[v],[]⟩ [(y,v)])/\∀base,K.In base->base.Ns mainGlobals mg->n6 P w K mg base Cp k fa fd [y] (qT K 1 g):=by
 obtain⟨f,oc,kV,doc,pm,cdv,ct,od,an,osl,a,l,c,k⟩:=F;have e:=hfa.symm.trans<|PySem.W.mg_of X G a;cases e;exact⟨_,b,λbase _ _=>q base<|Fw l c k⟩
open PySem PySem.Spec PyProof.Rows L2
section
variable{X:Cx}{C:Cfg}{pos apos cpos:Pos}
def DW:cu:=λ_=>.stuck
theorem zB{st:Stmt}:Gs X C st DW:=⟨λpins s σ H D I h=>by
 obtain⟨_,_,_,_,f⟩:=h;exact f.elim⟩
end
end Ev
namespace SI
open PySem PySem.Spec PyProof.Rows L2 PySem.Builtin
def V6(xs:Array Nat):Prop:=∀i j,i<j->j<xs.size->xs.getD i 0<xs.getD j 0
theorem Iu{xs:Array Nat}(a b)(h:i<xs.size):xs.getD i a=xs.getD i b:=by simp[Array.getD,h]
theorem Ax(R:V6 xs):∀fuel lo hi,lo<=hi->hi<=xs.size->hi - lo<=fuel->(∀i,i<lo->xs.getD i 0<j)->(∀i,hi<=i->i<xs.size->j<=xs.getD i 0)->
  SetTable.below.go xs j fuel lo hi<=xs.size/\(∀i,i<SetTable.below.go xs j fuel lo hi->xs.getD i 0<j)/\∀i,SetTable.below.go xs j fuel lo hi<=i->i<xs.size->j<=xs.getD i 0
 | 0,lo,hi,h1,h2,h3,h4,h5=>by
  unfold SetTable.below.go;exact⟨by omega,h4,λi a b=>h5 i (by omega) b⟩
 | fuel+1,lo,hi,h1,h2,h3,h4,h5=>by
  unfold SetTable.below.go;split
  ·rename_i hl;dsimp only;split
   ·rename_i hm;rw[Iu j 0 (by omega)] at hm;refine Ax R fuel _ _ (by omega) h2 (by omega) (λi hq=>?_) h5;by_cases c:i=(lo+hi) / 2
    ·rw[c];exact hm
    ·exact Nat.lt_trans (R i _ (by omega) (by omega)) hm
   ·rename_i hm;rw[Iu j 0 (by omega)] at hm;refine Ax R fuel _ _ (by omega) (by omega) (by omega) h4<|λi hq hs=>?_;by_cases c:i=(lo+hi) / 2
    ·rw[c];omega
    ·have:=R ((lo+hi) / 2) i (by omega) hs;omega
  ·exact⟨by omega,h4,λi a b=>h5 i (by omega) b⟩
theorem Aw{xs:Array Nat}(R:V6 xs)(j:Nat):SetTable.below xs j<=xs.size/\(∀i,i<SetTable.below xs j->xs.getD i 0<j)/\∀i,SetTable.below xs j<=i->i<xs.size->j<=xs.getD i 0:=
 Ax R xs.size 0 xs.size (Qzz _) (Qqy _) (Qqy _) (λi h=>absurd h<|Qk4 _) λi h hs=>absurd hs<|Nat.not_lt.mpr h
theorem below_at{xs:Array Nat}(R:V6 xs){j p:Nat}(hp:p<=xs.size)(h1:∀i,i<p->xs.getD i 0<j)(h2:p<xs.size->j<=xs.getD p 0):SetTable.below xs j=p:=by
 obtain⟨b1,b2,b3⟩:=Aw R j;rcases Nat.lt_trichotomy (SetTable.below xs j) p with h|h|h
 ·have:=h1 _ h;have:=b3 _ (Qqy _) (by omega);omega
 ·exact h
 ·have:=b2 p h;have:=h2 (by omega);omega
theorem BR{α:Type}(xs:Array α)(p:Nat)(x:α)(h:p<=xs.size):(SetTable.insertAt xs p x).size=xs.size+1:=by unfold SetTable.insertAt;simp;omega
theorem vA(xs:Array Nat)(p x:Nat)(h:p<=xs.size)(i:Nat)(hi:i<xs.size+1):(SetTable.insertAt xs p x).getD i 0=if i<p then xs.getD i 0 else if i=p then x else xs.getD (i - 1) 0:=by
 have e:(SetTable.insertAt xs p x).getD i 0=((xs.toList.take p++[x])++xs.toList.drop p).getD i 0:=by
  have:(SetTable.insertAt xs p x).toList=(xs.toList.take p++[x])++xs.toList.drop p:=by unfold SetTable.insertAt;simp[Array.toList_extract,List.extract];exact Qz8 (by rw[Qxz,Qzj];exact Qqy _)
  rw[<-this,Qj3,Qx7,Qzx]
 rw[e,Qx7];have hl:(xs.toList.take p).length=p:=by simp;omega
 by_cases c:i<p
 ·rw[if_pos c,Qwy,Qw9 (by omega),Qjj c,Qzx,Qj3]
 ·rw[if_neg c];by_cases c2:i=p
  ·rw[if_pos c2,Qwy,Qx1 (by omega),hl,c2,Nat.sub_self]
   rfl
  ·rw[if_neg c2,Qx1 (by rw[Qqz,hl,List.length_singleton];omega),Qqz,hl,List.length_singleton,List.getElem?_drop,Qzx,Qj3,show p+(i - (p+1))=i - 1 by omega]
theorem V6.insert{xs:Array Nat}(R:V6 xs){j:Nat}(hj:∀i,i<xs.size->xs.getD i 0≠j):V6 (SetTable.insertAt xs (SetTable.below xs j) j):=by
 obtain⟨b1,b2,b3⟩:=Aw R j;generalize SetTable.below xs j=p at *;intro a b hab hb;rw[BR _ _ _ b1] at hb;rw[vA _ _ _ b1 a (by omega),vA _ _ _ b1 b (by omega)];by_cases ca:a<p
 ·rw[if_pos ca];by_cases cb:b<p
  ·rw[if_pos cb];exact R a b hab (by omega)
  ·rw[if_neg cb];by_cases cb2:b=p
   ·rw[if_pos cb2];exact b2 a ca
   ·rw[if_neg cb2];exact R a (b - 1) (by omega) (by omega)
 ·rw[if_neg ca,if_neg<|show ¬b<p by omega,if_neg<|show b≠p by omega];by_cases ca2:a=p
  ·rw[if_pos ca2];have h1:=b3 (b - 1) (by omega) (by omega);have h2:=hj (b - 1) (by omega);omega
  ·rw[if_neg ca2];exact R (a - 1) (b - 1) (by omega) (by omega)
theorem zH{t:SetTable}{hashAt:Nat->Int}{h:Int}(hd:t.dummies = #[]):∀(n:Nat) (p:SetTable.Probe) (j:Nat) (d:Option Nat),p.dummy=none->SetTable.probe.go t hashAt h n p=some (.empty j d)->d=none/\t.slot j = .empty
 | 0,p,j,d,_,e=>by unfold SetTable.probe.go at e;cases e
 | n+1,p,j,d,hp,e=>by
  unfold SetTable.probe.go at e;cases hs:t.slot p.j with
  | empty=>
   rw[hs] at e;cases e;exact⟨hp,hs⟩
  | dummy=>
   exfalso;unfold SetTable.slot at hs;dsimp only at hs;split at hs
   ·cases hs
   ·split at hs
    ·rename_i h2;rw[hd] at h2;unfold SetTable.has at h2;simp at h2
    ·cases hs
  | live i=>
   rw[hs] at e;dsimp only at e;split at e
   ·cases e
   ·refine zH hd n _ j d ?_ e;unfold SetTable.advance;split
    ·exact hp
    ·exact hp
theorem Yi{t:SetTable}{h:Int}(hd:t.dummies = #[]){j:Nat}{b:Bool}(e:t.freeSlot h=some (j,b)):b=false/\t.place[SetTable.below t.place j]? ≠ some j:=by
 unfold SetTable.freeSlot at e;split at e
 ·rename_i j' d hp;obtain⟨rfl,hs⟩:=zH hd _ _ _ _ rfl hp;cases e;refine⟨rfl,λz=>?_⟩
  change t.place[SetTable.below t.place j']? = some j' at z
  unfold SetTable.slot at hs;dsimp only at hs;rw[z] at hs;simp at hs
 ·cases e
structure Pl(t:SetTable):Prop where
 dm:t.dummies = #[]
 ri:V6 t.place
theorem Pl.put{t:SetTable}(p:Pl t){j:Nat}(h:t.place[SetTable.below t.place j]? ≠ some j):Pl (t.put j).1:=by
 refine⟨?_,?_⟩
 ·show(if SetTable.has t.dummies j then _ else t.dummies) = #[];rw[p.dm];unfold SetTable.has;simp
 ·show V6 (SetTable.insertAt t.place (SetTable.below t.place j) j);refine p.ri.insert λi hi z=>h ?_;obtain⟨b1,b2,b3⟩:=Aw p.ri j;have:SetTable.below t.place j=i:=by
   rcases Nat.lt_trichotomy (SetTable.below t.place j) i with c|c|c
   ·have h1:=b3 _ (Qqy _) (by omega);have h2:=p.ri _ i c hi;omega
   ·exact c
   ·have:=b2 i c;omega
  rw[this];rw[Qj3] at z;rw[Array.getElem?_eq_getElem hi] at z ⊢
  simpa using z
theorem Ph(n:Nat):V6 (Array.range n):=by
 intro i j h1 h2;simp at h2;have h3:i<n:=by omega
 simp[Array.getD,h2,h3,h1]
theorem Pl.stand{t:SetTable}(n:Nat):Pl (t.standIn n):=⟨rfl,Ph n⟩
theorem Pl.Xv{t:SetTable}(p:Pl t)(n:Nat):Pl (t.orStandIn n):=by
 unfold SetTable.orStandIn;split
 ·exact p
 ·exact Pl.stand n
theorem Pl.lay{t:SetTable}(p:Pl t)(es:Array (Int×Value))(h:Int)(x:Value):Pl (layNew t es h x).2.1:=by
 unfold layNew;split
 ·rename_i sl wd e;exact(p.put (Yi p.dm e).2).Xv _
 ·exact Pl.stand _
theorem R5{l:List Nat}(h:l.Pairwise (·< ·)):V6 l.toArray:=by
 intro i j h1 h2;simp at h2;have h3:i<l.length:=by omega
 have:=List.pairwise_iff_getElem.mp h i j h3 h2 h1
 simpa[Array.getD,h2,h3] using this
theorem Pl.aei{t:SetTable}(es:Array (Int×Value))(n:Nat):Pl (relayAll t es n).2.1:=by
 unfold relayAll;split
 ·rename_i t' order e;dsimp only;split
  ·unfold SetTable.relaid SetTable.laid at e;cases h1:SetTable.layClean (SetTable.sizeAbove n - 1) (es.map (·.1)) with
   | none=>rw[h1] at e;cases e
   | some ow=>
    rw[h1] at e;injection e with e
    injection e with e _
    subst e;refine⟨rfl,R5 ?_⟩;generalize SetTable.sizeAbove n - 1+1=m;have:∀l:List Nat,l.Pairwise (·< ·)->((l.filterMap λj=>(ow.getD j none).map (j,·)).map (·.1)).Pairwise (·< ·):=by
     intro l hl;have e2:(l.filterMap λj=>(ow.getD j none).map (j,·)).map (·.1)=l.filter λj=>(ow.getD j none).isSome:=by
      clear hl
      induction l with
      | nil=>rfl
      | cons a l ih=>
       rw[Qz5,List.filter_cons];cases ow.getD a none with
       | none=>simpa using ih
       | some v=>exact Qjq (a :: ·) ih
     rw[e2];exact hl.filter _
    exact this _ List.pairwise_lt_range
  ·exact Pl.stand _
 ·exact Pl.stand _
open SX (led xj ql pI lg pU qg fresh nH nG lH byText pM iY yL mU jN mW mY)
def jz(ys:List Int)(x:Int):List Int:=if x∈ys then ys else ys++[x]
def dY(zs:List Int):List Int:=zs.foldl jz []
theorem Az(ys:List Int)(x:Int):(jz ys x).length<=ys.length+1:=by
 unfold jz;split
 ·omega
 ·simp
theorem qX(zs:List Int):∀ys:List Int,(zs.foldl jz ys).length<=ys.length+zs.length:=by
 induction zs with
 | nil=>intro ys;exact Qqy _
 | cons z zs ih=>intro ys;rw[Qxy,Qq1];have:=ih<|jz ys z;have:=Az ys z;omega
structure Ln(P:Program)(w:World)(es:Array (Int×Value))(t:SetTable)(ys:List Int):Prop where
 el:ElemsOf (intKind P w) es.toList
 tx:∃ss:List Int,IntsAre (es.toList.map (·.2)) ss/\ss.Perm ys
 fit:t.fits es.size=true
 ld:t.led=led w
 pl:Pl t
def iW(P:Program)(w:World)(h:Heap)(a:Addr)(ys:List Int):Prop:=
 ∃o es ep t,h.get? a=some o/\o.ExactSet/\o.data = .set es ep t/\Ln P w es t ys
theorem iW.keep{P:Program}{w:World}{h h':Heap}{a:Addr}{ys:List Int}(x:iW P w h a ys)(k:∀o,h.get? a=some o->h'.get? a=some o):iW P w h' a ys:=
 let ⟨o,es,ep,t,e,r⟩:=x;⟨o,es,ep,t,k o e,r⟩
theorem Io{vs:List Value}{ss:List Int}(h:IntsAre vs ss):vs.length=ss.length:=by
 induction h with
 | nil=>rfl
 | cons _ _ _ ih=>simp[ih]
theorem Uy{vs:List Value}{ss:List Int}(h:IntsAre vs ss):∀v∈vs,∃x t,v = .int x t/\x∈ss:=by
 induction h with
 | nil=>intro v hv;cases hv
 | cons y t _ ih=>
  intro v hv;rcases Qq3.mp hv with rfl|hv
  ·exact⟨y,t,rfl,Qqk⟩
  ·obtain⟨x,t,e,m⟩:=ih v hv;exact⟨x,t,e,Qqw _ m⟩
theorem Qm{vs:List Value}{ss:List Int}(h:IntsAre vs ss):∀x∈ss,∃t,Value.int x t∈vs:=by
 induction h with
 | nil=>intro x hx;cases hx
 | cons y t _ ih=>
  intro x hx;rcases Qq3.mp hx with rfl|hx
  ·exact⟨t,Qqk⟩
  ·obtain⟨t,m⟩:=ih x hx;exact⟨t,Qqw _ m⟩
theorem ints_app{vs us:List Value}{ss rs:List Int}(h:IntsAre vs ss)(g:IntsAre us rs):IntsAre (vs++us) (ss++rs):=by
 induction h with
 | nil=>exact g
 | cons y t _ ih=>exact .cons y t ih
theorem sX{vs us:List Value}(p:us.Perm vs):∀{ss:List Int},IntsAre vs ss->∃rs,IntsAre us rs/\rs.Perm ss:=by
 induction p with
 | nil=>intro ss h;exact⟨ss,h,.rfl⟩
 | cons x _ ih=>
  intro ss h;cases h with
  | cons y t h=>
   obtain⟨rs,h1,h2⟩:=ih h;exact⟨y::rs,.cons y t h1,h2.cons y⟩
 | swap x y l=>
  intro ss h;cases h with
  | cons a t h=>cases h with
   | cons b u h=>exact⟨b::a::_,.cons b u<|.cons a t h,.swap _ _ _⟩
 | trans _ _ ih1 ih2=>
  intro ss h;obtain⟨rs,h1,h2⟩:=ih2 h;obtain⟨qs,h3,h4⟩:=ih1 h1;exact⟨qs,h3,h4.trans h2⟩
theorem Ln.size{P:Program}{w:World}{es:Array (Int×Value)}{t:SetTable}{ys:List Int}(x:Ln P w es t ys):es.size=ys.length:=by obtain⟨ss,h1,h2⟩:=x.tx;rw[<-h2.length_eq,<-Io h1,Qqj,Qzj]
section
variable{P:Program}{w:World}{A:Around}{E:Value->Shared->Prop}{s:Shared}{a:Addr}
theorem store{o:Obj}{es es':Array (Int×Value)}{ep:Nat}{t t':SetTable}{ys:List Int}{Q:Unit->Shared->Prop}(ho:s.heap.get? a=some o)(hx:o.ExactSet)(hd:o.data = .set es ep t)(k:Ln P w es' t' ys)(hz:ys.length<scanBound)
  (h:∀g o',Heap.SameBut a s.heap g->g.get? a=some o'->o'.ExactSet->o'.data = .set es' (ep+1) t'->Q () { s with heap:=g }):wpAny (model P w) A (storeSet a es' t') Q E s:=by
 have hb:es'.size<scanBound:=by rw[k.size];exact hz
 refine wpAny_storeSet_of ho hd ?_<|fits_of_scanBound hb;have e:=Heap.get?_update_self (Obj.putSet es' t') ho (by rw[putSet_of es' t' hd];rfl);rw[putSet_of es' t' hd] at e;exact h _ _ (Heap.SameBut.update s.heap a _) e hx rfl
theorem xG{k:Int}{tk:Tok}{o:Obj}{es:Array (Int×Value)}{ep:Nat}{t:SetTable}{ys:List Int}{Q:Bool->Shared->Prop}(ho:s.heap.get? a=some o)(hx:o.ExactSet)(hd:o.data = .set es ep t)(x:Ln P w es t ys)(hz:ys.length+1<scanBound)
  (h:∀g b,Heap.SameBut a s.heap g->iW P w g a (jz ys k)->Q b { s with heap:=g }):wpAny (model P w) A (setAddHashed a (.int k tk) ((intKind P w).hash k)) Q E s:=by
 have hk:(intKind P w).is k (.int k tk)=true:=intKind_is P w k tk;have hsc:(Value.int k tk).scannable=true:=rfl;have hb:es.size<scanBound:=by rw[x.size];omega
 unfold setAddHashed setAddHashedIn;refine Qx5<|Qqq<|wpAny_setState_of ho hd x.fit ?_;dsimp only;rw[if_pos (byScan_of hsc hb x.el)];unfold setAddByScan;refine Qqq<|Qqq<|wpAny_rule<|Qqq<|wpAny_setScan_of hk ho hd x.fit x.el ?_;obtain⟨ss,s1,s2⟩:=x.tx;cases hr:es.toList.findIdx? (λe=>(intKind P w).is k e.2) with
 | some j=>
  dsimp only;obtain⟨hj,hpj,_⟩:=List.findIdx?_eq_some_iff_getElem.mp hr;refine Qqv<|Qqv ?_;have hm:k∈ys:=by obtain⟨y,u,e1,e2⟩:=Uy s1 (es.toList[j].2)<|Qwk.mpr ⟨_,Qk1 hj,rfl⟩;rw[e1] at hpj;have:k=y:=(intKind P w).inj _ _ _ hpj<|intKind_is P w y u;subst this;exact s2.mem_iff.mp e2
  have:=h s.heap false (Heap.SameBut.refl a s.heap) (by rw[jz,if_pos hm];exact⟨o,es,ep,t,ho,hx,hd,x⟩);cases s;exact this
 | none=>
  dsimp only;have hm:k ∉ ys:=λz=>by
   obtain⟨u,hu⟩:=Qm s1 k<|s2.mem_iff.mpr z;obtain⟨e,he,e2⟩:=Qwk.mp hu;have:=List.findIdx?_eq_none_iff.mp hr e he;rw[e2,intKind_is] at this;cases this
  have hp:=layNew_perm t es ((intKind P w).hash k)<|.int k tk;have hf:=layNew_fits t es ((intKind P w).hash k)<|.int k tk;have hl:=ql t es ((intKind P w).hash k)<|.int k tk;have hpp:=x.pl.lay es ((intKind P w).hash k)<|.int k tk;generalize layNew t es ((intKind P w).hash k) (.int k tk)=L at hp hf hl hpp ⊢;obtain⟨e1,t1,wd,gv⟩:=L;dsimp only at hp hf hl hpp ⊢;rw[Array.toList_push] at hp;have hel:ElemsOf (intKind P w) e1.toList:=(x.el.push hk hsc).perm hp;have htx:∃ss,IntsAre (e1.toList.map (·.2)) ss/\ss.Perm (ys++[k]):=by have h1:=ints_app s1<|.cons k tk .nil;obtain⟨rs,h2,h3⟩:=sX (hp.map (·.2)) (by rw[Qz2];exact h1);exact⟨rs,h2,h3.trans (s2.append_right [k])⟩
  have hxy:jz ys k=ys++[k]:=by rw[jz,if_neg hm]
  have hyz:(ys++[k]).length<scanBound:=by rw[Qqz];exact hz
  refine Qqq (pU _ ?_)
  /- the table that is laid down -/
  have hend:∀t2,t2.fits e1.size=true->t2.led=led w->Pl t2->wpAny (model P w) A (do
    storeSet a e1 t2
    if (!wd&&t2.tooFull)=true then do
      (match (relayAll t2 e1 (SetTable.grown e1.size)).2.2 with|true=>rule "set.scan.the-table-gave-way" | false=>pure ())
      storeSet a (relayAll t2 e1 (SetTable.grown e1.size)).1 (relayAll t2 e1 (SetTable.grown e1.size)).2.1
      pure (some true)
     else pure (some true)) (λr s'=>wpAny (model P w) A (match r with|some added=>pure added|none=>setAddHashedIn a (.int k tk) ((intKind P w).hash k) 99999) Q E s') E s:=by
   intro t2 f2 l2 p2;have k2:Ln P w e1 t2 (ys++[k]):=⟨hel,htx,f2,l2,p2⟩;refine Qqq (store ho hx hd k2 hyz λg o1 sb go gx gd=>?_);split
   ·have rp:=relayAll_perm t2 e1 (SetTable.grown e1.size);have rf:=relayAll_fits t2 e1 (SetTable.grown e1.size);have rl:=lg t2 e1 (SetTable.grown e1.size);have rq:=Pl.aei (t:=t2) e1 (SetTable.grown e1.size);generalize relayAll t2 e1 (SetTable.grown e1.size)=L at rp rf rl rq ⊢;obtain⟨e3,t3,gv3⟩:=L;dsimp only at rp rf rl rq ⊢;obtain⟨r1,q1,q2⟩:=htx;obtain⟨rs,h2,h3⟩:=sX (rp.map (·.2)) q1;have k3:Ln P w e3 t3 (ys++[k]):=⟨hel.perm rp,⟨rs,h2,h3.trans q2⟩,rf,rl.1.trans l2,rq⟩;refine Qqq (pU _ ?_);refine Qqq (store (s:={ s with heap:=g }) go gx gd k3 hyz λg2 o2 sb2 go2 gx2 gd2=>?_);refine Qqv (Qqv ?_);exact h g2 true (sb.trans sb2) (by rw[hxy];exact⟨o2,_,_,_,go2,gx2,gd2,k3⟩)
   ·refine Qqv (Qqv ?_);exact h g true sb (by rw[hxy];exact⟨o1,_,_,_,go,gx,gd,k2⟩)
  split
  ·rename_i hpl;refine Qqq ?_;rw[hashByValue_scannable 8 hsc];refine Qqv ?_;exact hend _ (by split;exact hf;exact SetTable.fits_plain_off hf) (by split<;>exact hl.1.trans x.ld) (by split;exact hpp;exact⟨hpp.dm,hpp.ri⟩)
  ·rename_i hpl;refine Qqq (Qqv ?_);simp only[↓reduceIte];exact hend _ hf (hl.1.trans x.ld) hpp
def seen(val:Nat->Int)(i:Nat):List Int:=((List.range i).map val).foldl jz []
theorem wO(val:Nat->Int)(i:Nat):seen val (i+1)=jz (seen val i) (val i):=by
 unfold seen;rw[List.range_succ,Qz2,List.foldl_append]
 rfl
theorem zp(val:Nat->Int)(i:Nat):(seen val i).length<=i:=by
 have:=qX ((List.range i).map val) []
 simpa[seen] using this
theorem fill{R:Result->Shared->Prop}{I:Addr}{fp wr:List Addr}{G:Array GenState->Array GenState->Prop}{n:Nat}{Pi:Nat->Value->Prop}{St:Nat->Shared->Prop}(W:WalksS P w A.in1 I fp wr G n Pi St){a:Addr}(ha:a ∉ fp){val:Nat->Int}
  (hv:∀i v,Pi i v->∃t,v = .int (val i) t) (hb:n+1<scanBound) (d:Nat):∀(i:Nat) (s:Shared),i+d=n->St i s->iW P w s.heap a (seen val i)->(∀s',Moved (a::wr) G s s'->iW P w s'.heap a (seen val n)->R (.ok (.ret .none)) s')->
  codeAny (model P w) A (.builtin "set.update.loop" ⟨[.ref a,.ref I],[]⟩) R s:=by
 have hw:=λz=>ha<|W.sub _ z;have up:∀b∈wr,b∈a::wr:=λb z=>Qqw _ z
 induction d with
 | zero=>
  intro i s e st x hR;obtain rfl:i=n:=e;refine Qz9 PyProof.Rows.F.entry_set_update_loop ?_;rw[Qzy PyProof.Rows.F.plain_set_update_loop _];show wpAny _ _ (pyNext (.ref I) >>= _) _ _ _;refine Qqq<|W.done s _ _ st λs' m=>?_;show wpAny _ _ (ret .none) _ _ _;exact Qqv<|hR s' (m.mono up)<|x.keep λo z=>m.heap a o hw z
 | succ d ih=>
  intro i s e st x hR;refine Qz9 PyProof.Rows.F.entry_set_update_loop ?_;rw[Qzy PyProof.Rows.F.plain_set_update_loop _];show wpAny _ _ (pyNext (.ref I) >>= _) _ _ _;refine Qqq<|W.item i s _ _ (by omega) st λv s' pv st' m=>?_;obtain⟨t,rfl⟩:=hv i v pv;show wpAny _ _ (holding _ (setAdd a _) >>= _) _ _ _;unfold setAdd;refine Qqq<|Qx5<|Qx5<|Qqq<|(intKind P w).pyHash (intKind_is P w (val i) t) ?_;obtain⟨o,es,ep,tb,ho,hx,hd,k⟩:=x.keep λo z=>m.heap a o hw z;refine xG ho hx hd k (by have:=zp val i;omega) λg b sb y=>?_;rw[<-wO] at y;refine Qqv ⟨Qj9 PyProof.Rows.F.plain_set_update_loop _,ih (i+1) _ (by omega) (W.frame _ s' _ _ st' (Qkq _) λc hc u z=>?_) y λs2 m2 x2=>?_⟩
  ·exact(sb.2 c<|λq=>ha<|q ▸ hc).trans z
  ·refine hR s2 (Moved.trans W.gtrans ((m.mono up).then_heap (Qkq _) λc u hc z=>?_) m2) x2;exact(sb.2 c<|λq=>hc<|q ▸ Qqk).trans z
theorem Ae(h:Heap){a:Addr}(e:h.get? a=some (fresh w)):iW P w h a []:=
 ⟨_, #[],0,_,e,⟨rfl,rfl,rfl⟩,rfl,⟨λ_ z=>by simp at z,⟨[],.nil,.rfl⟩,rfl,rfl,⟨rfl,λi j _ h=>absurd h<|Qk4 _⟩⟩⟩
theorem Ka{l:Addr}{its:Array Value}{zs:List Int}{Q:Value->Shared->Prop}(hh:A.handled=none)(hl:s.heap.IsList l its)(hi:IntsAre its.toList zs)(hb:zs.length+1<scanBound)
  (h:∀(g:Heap) (tk:Nat),iW P w g s.heap.objs.size (dY zs)->(∀b o,s.heap.get? b=some o->g.get? b=some o)->Q (.ref s.heap.objs.size) { s with heap:=g,toks:=tk }) :
  wpAny (model P w) A (call (.type "set") [.ref l]) Q E s:=by
 obtain⟨c,tl,mro⟩:=PySem.F.called_set.mro;have made:=PySem.F.called_set.made;have sub:=PySem.F.called_set.sub;refine wpAny_call (codeAny_of_tree ?_);show wpAny _ _ (callAny (.type "set") _) _ _ _;refine Qqv ⟨Code.quiet_builtin _ (by decide +kernel),Qz9 PySem.F.entry_type_call ?_⟩;rw[Around.under_plain (weight_type_call_type "set" [.ref l] []) rfl];have c1:=PySem.F.called_set.notType;have c2:=PySem.F.called_set.canCreate;have c3:=PySem.F.typeCall_set_1 (.ref l)
 repeat (any_goals (first|assumption|wp_step))
 refine Qj8 (qg (.ref l) (E:=E) (Q:=λv s1=>v = .ref s.heap.objs.size/\s1 = { s with heap:=s.heap.push (fresh w) }) ⟨rfl,rfl⟩) λr s1 hr=>?_;have hlen:its.size=zs.length:=by rw[<-Qzj];exact Io hi
 cases r with
 | error e=>exact hr
 | ok fl=>
  cases fl with
  | ret v=>
   obtain⟨rfl,rfl⟩:=hr;have e0:(s.heap.push (fresh w)).get? s.heap.objs.size=some (fresh w):=Qq4 _ rfl;have hT:Shared.TypeIs { s with heap:=s.heap.push (fresh w) } (.ref s.heap.objs.size) "set":=⟨_,e0,rfl⟩;have c4:=PySem.F.called_set.init.lookup;have c5:=PySem.F.called_set.init.bind (.ref s.heap.objs.size)
   repeat (any_goals (first|assumption|wp_step))
   refine Qj8 (codeAny_call_builtin (R:=wants (λr s2=>r = .none/\∃g tk,s2 = { s with heap:=g,toks:=tk }/\iW P w g s.heap.objs.size (dY zs)/\(∀b o,s.heap.get? b=some o->g.get? b=some o)) E)
    PySem.F.called_set.init.plain PySem.F.entry_set_init (check_set_init_1 hT ?_)) λr2 s2 hr2=>?_
   ·obtain⟨ol,hol,hcl,nl,hdl⟩:=hl;obtain⟨ocls,odict,odata,oslots⟩:=ol;simp only at hcl hdl;subst hcl;subst hdl;have hol':(s.heap.push (fresh w)).get? l=some { cls:=.type "list",dict:=odict,data:=.seq its nl,slots:=oslots }:=Qqx _ hol;have l1:(s.heap.push (fresh w)).IsList l its:=⟨_,hol',rfl,nl,rfl⟩;have n1:=PySem.F.sub_list_set;have n2:=PySem.F.sub_list_frozenset;have n3:(Value.type "list" == Value.type "dict")=false:=by decide
    have e1:(s.heap.push (fresh w)).get? s.heap.objs.size=some { cls:=.type "set",dict:=none,data:=.set #[] 0 (.fresh 0 0 (led w)) }:=e0;unfold Builtin.«set.__init__» noKeywords Builtin.Frozenset.updateFrom;generalize hPI:pyIter=PI
    wp_walk
    subst hPI;refine wpAny_pyIter_list l1 (Qqq (wpAny_runValue ?_));have lt:l<s.heap.objs.size:=Qq9 hol;have sz:(s.heap.push (fresh w)).objs.size=s.heap.objs.size+1:=Qjk _ _;have hh3:A.in1.in1.in1.handled=none:=by simp[hh]
    have a1:l≠(s.heap.push (fresh w)).objs.size:=by rw[sz];exact Qwj (Qzw lt)
    have a2:s.heap.objs.size ∉ [(s.heap.push (fresh w)).objs.size,l]:=by rw[sz];simp only[Qq3,Qxx,Qk2,not_or];exact⟨Qwj (Nat.lt_succ_self _),Qkw lt⟩
    have hv:∀(i:Nat) (v:Value),its[i]? = some v->∃t,v = .int (zs.getD i 0) t:=by
     have:∀{vs:List Value} {ss:List Int},IntsAre vs ss->∀(i:Nat) (v:Value),vs[i]? = some v->∃t,v = .int (ss.getD i 0) t:=by
      intro vs ss q
      induction q with
      | nil=>intro i v z;simp at z
      | cons y t _ ih=>
       intro i v z;cases i with
       | zero=>simp at z;exact⟨t,z.symm⟩
       | succ i=>simpa using ih i v (by simpa using z)
     exact λi v z=>this hi i v (by rw[Qzx];exact z)
    refine fill ((Walks.list hh3 _ l a1 its).toS) a2 (val:=λi=>zs.getD i 0) hv (by omega) its.size 0 _ (by omega) ⟨⟨_,Qq4 _ rfl,rfl,rfl⟩,l1.push _⟩ (Ae _ (Qqx _ e0)) λs' m x=>?_;have es:seen (λi=>zs.getD i 0) its.size=dY zs:=by
     unfold seen dY
     congr 1
     rw[hlen];apply List.ext_getElem
     ·simp
     ·intro i h1 h2;simp[Qx7,h2]
    rw[es] at x;obtain⟨g,gn,dr,tk,os⟩:=s';have q1:gn=s.gens:=m.gens;have q2:dr=s.drawn:=m.drawn;have q3:os=s.os:=m.os;subst q1 q2 q3;refine Qqv ?_;show wpAny _ _ (ret .none) _ _ _;refine Qqv ⟨rfl,g,tk,rfl,x,λb o e=>?_⟩;have hb1:b<s.heap.objs.size:=Qq9 e;refine m.heap b o ?_ (Qqx _ (Qqx _ e));rw[sz];simp only[Qq3,Qxx,Qk2,not_or];exact⟨Qwj hb1,Qwj (Qzw hb1)⟩
   ·cases r2 with
    | error e=>exact hr2
    | ok fl2=>
     cases fl2 with
     | ret r=>
      obtain⟨rfl,g,tk,rfl,x,k⟩:=hr2
      repeat (any_goals (first|assumption|wp_step))
      exact h _ _ x k
     | _=>exact hr2.elim
  | _=>exact hr.elim
theorem Pa{a:Addr}{o:Obj}{es:Array (Int×Value)}{ep:Nat}{t:SetTable}(hd:o.data = .set es ep t)(hf:t.fits es.size=true)(hw:led w=true)(hl:t.led=led w)(pl:Pl t)(hz:¬(!t.plain&&decide (es.size > 1))=true) :
  SX.Gq P w a o ep (λi=>if i=0 then 0 else t.place.getD (i - 1) 0+1) (es.toList.map (·.2)):=by
 have hp:t.place.size=es.size:=by simp[SetTable.fits,Qq2,beq_iff_eq] at hf;exact hf.1
 have go:∀A E s j i Q,s.heap.get? a=some o->
   Q (match es[SetTable.below t.place j]?,t.place[SetTable.below t.place j]? with|some (_,x),some k=>some (x,k+1)|_,_=>none) s->wpAny (model P w) A (setNext a j i ep) Q E s:=by
  intro A E s j i Q ho h;unfold setNext;refine Qqq<|wpAny_setState_of ho hd hf ?_;dsimp only;refine Qqq<|byText ?_;rw[hw,if_neg (by simp)];show wpAny _ _ (if (!t.plain&&decide (es.size > 1))=true then _ else _) _ _ _;rw[if_neg hz];refine Qqq ?_;show wpAny _ _ (if (!t.led && !es.isEmpty)=true then _ else _) _ _ _;rw[if_neg (by rw[hl,hw];simp)];exact Qqv<|Qqv h
 have hb:∀i,i<=es.size->SetTable.below t.place (if i=0 then 0 else t.place.getD (i - 1) 0+1)=i:=by
  intro i hi;by_cases c:i=0
  ·subst c;exact below_at pl.ri (Qzz _) (λq h=>absurd h<|Qk4 _) λ_=>Qzz _
  ·rw[if_neg c];refine below_at pl.ri (by omega) (λq h=>?_) λh=>?_
   ·by_cases c2:q=i - 1
    ·rw[c2];exact Nat.lt_succ_self _
    ·exact Qzw<|pl.ri q (i - 1) (by omega) (by omega)
   ·exact pl.ri (i - 1) i (by omega) h
 refine⟨λA E s i v Q ho hv h=>go A E s _ i Q ho ?_,λA E s Q ho h=>go A E s _ _ Q ho ?_⟩
 ·rw[Qx3,Qzx] at hv;obtain⟨e,he,rfl⟩:=Qw7.mp hv;have hi:i<es.size:=by
   rcases Nat.lt_or_ge i es.size with c|c
   ·exact c
   ·rw[Array.getElem?_eq_none c] at he;cases he
  have hpl:t.place[i]? = some (t.place.getD i 0):=by rw[Array.getElem?_eq_getElem (by omega)];simp[Array.getD,show i<t.place.size by omega]
  rw[hb i (by omega),he,hpl]
  simpa using h
 ·have hlen:(es.toList.map (·.2)).length=es.size:=by simp
  rw[hlen,hb es.size<|Qqy _,Array.getElem?_eq_none<|Qqy _];exact h
theorem z6{a:Addr}{ys:List Int}{Q:Value->Shared->Prop}(x:iW P w s.heap a ys)(hz:ys.length<64)
  (h:∀(g:Heap) (d:Drawn) (I:Addr) (fp:List Addr) (os:List Value) (St:Nat->Shared->Prop),(∀A':Around,A'.handled=none->WalksS P w A' I fp [I] (λg g'=>g'=g) os.length (λi v=>os[i]? = some v) St)->St 0 { s with heap:=g,drawn:=d }->
   (∀b∈fp,b=a\/s.heap.objs.size<=b)->s.heap.objs.size<=I->os.length=ys.length->(∃ss,IntsAre os ss/\ss.Perm ys)->(∀b o,s.heap.get? b=some o->g.get? b=some o)->Q (.ref I) { s with heap:=g,drawn:=d }) :
  wpAny (model P w) A (pyIter (.ref a)) Q E s:=by
 obtain⟨o,es,ep,t,ho,hx,hd,k⟩:=x;have hT:s.TypeIs (.ref a) "set":=⟨o,ho,hx.1⟩;have hlt:a<s.heap.objs.size:=Qq9 ho;have hn:es.size=ys.length:=k.size;obtain⟨ss,s1,s2⟩:=k.tx;refine wpAny_pyIter_slot hT PySem.F.slot_set_iter (Qz6 PySem.F.slot_set_iter hT pM ?_ (PySem.F.args_set_iter_1 _));unfold Builtin.«frozenset.__iter__» Builtin.Frozenset.slot0 slotArgs;simp only[List.isEmpty_nil,Bool.not_true,Bool.false_eq_true, ↓reduceIte,bind_assoc,Qz3,bne_self_eq_false];unfold Builtin.Frozenset.addrOf Builtin.Frozenset.sizeOf;refine Qqq (Qqv ?_);dsimp only;refine Qqq (Qqv ?_);refine Qqq (Qqq (wpAny_setEntries_of ho hd k.fit (Qqv ?_)));refine Qqq ?_;unfold setDrawn;refine Qqq (wpAny_setState_of ho hd k.fit ?_);dsimp only;refine Qqq (byText (Qqv ?_));show wpAny _ _ (if (!(!led w)&&(!t.plain&&decide (es.size > 1)))=true then _ else _) _ _ _;by_cases hl:led w=true
 ·by_cases hz1:(!t.plain&&decide (es.size > 1))=true
  ·rw[if_pos (by rw[hl,hz1];rfl)];refine Qqq (lH _ _ s _ (by simp) λps d pp=>?_);refine Qqq (wpAny_newTuple ?_ (by rw[Qqj,pp.length_eq,List.length_range,hn];exact Qq0 (Qz7 hz) (by decide)));refine Qqq (wpAny_setEpoch_of (Qqx _ ho) hd k.fit ?_);refine Qqq (Qxj (Qqv ⟨_,rfl,"set_iterator",_,⟨_,Qq4 _ rfl,rfl⟩,iY.lookup,?_⟩))
   let f:Nat->Value:=λp=>((es[p]?).map (·.2)).getD .none
   have ef:(List.range es.size).map f=es.toList.map (·.2):=by
    apply List.ext_getElem
    ·simp
    ·intro i h1 h2;have hi:i<es.size:=by simpa using h1
     simp[f,hi]
   have hos:(ps.map f).length=es.size:=by rw[Qqj,pp.length_eq,List.length_range]
   have hperm:(ps.map f).Perm (es.toList.map (·.2)):=by rw[<-ef];exact pp.map f
   obtain⟨rs,q1,q2⟩:=sX hperm s1;have sz:(s.heap.push { cls:=.type "tuple",data:=.seq (ps.map λ(i:Nat)=>rawInt i).toArray }).objs.size=s.heap.objs.size+1:=Qjk _ _;have e1:((s.heap.push { cls:=.type "tuple",data:=.seq (ps.map λ(i:Nat)=>rawInt i).toArray }).push (yL (.ref s.heap.objs.size) 0 a es.size ep)).get? s.heap.objs.size=some { cls:=.type "tuple",data:=.seq (ps.map λ(i:Nat)=>rawInt i).toArray }:=
    Qqx _ (Qq4 _ rfl)
   have a1:a≠(s.heap.push { cls:=.type "tuple",data:=.seq (ps.map λ(i:Nat)=>rawInt i).toArray }).objs.size:=by rw[sz];exact Qwj (Qzw hlt)
   have a2:s.heap.objs.size≠(s.heap.push { cls:=.type "tuple",data:=.seq (ps.map λ(i:Nat)=>rawInt i).toArray }).objs.size:=by rw[sz];exact Qwj (Nat.lt_succ_self _)
   refine h _ d _ [_,a,s.heap.objs.size] (ps.map f) _ (λA' hA=>mU (ps:=ps) hA a1 a2 hd k.fit hos.symm rfl (by rw[Qqj]) λi p v h1 h2=>?_) ⟨?_,Qqx _ (Qqx _ ho),e1⟩ (λb hb=>?_) (by rw[sz];exact Qkq _) (hos.trans hn) ⟨rs,q1,q2.trans s2⟩ λb u e=>Qqx _ (Qqx _ e)
   ·rw[Qx3,h1] at h2;simp only[Qkv,Qw4] at h2;have hm:p∈List.range es.size:=pp.mem_iff.mp (Qjy h1);have hp:p<es.size:=Qx6.mp hm;refine⟨es[p].1,?_⟩;rw[<-h2];simp[f,hp]
   ·have:=Qq4 (s.heap.push { cls:=.type "tuple",data:=.seq (ps.map λ(i:Nat)=>rawInt i).toArray }) (o:=yL (.ref s.heap.objs.size) 0 a (ps.map f).length ep) rfl;rw[hos] at this ⊢;exact this
   ·simp only[Qq3,Qxx,Qk2] at hb;rcases hb with rfl|rfl|rfl
    ·exact .inr (by rw[sz];exact Qkq _)
    ·exact .inl rfl
    ·exact .inr (Qqy _)
  ·rw[if_neg (λz=>hz1 (by rw[hl] at z;simpa using z))];refine Qqq (Qqv ?_);refine Qqq (wpAny_setEpoch_of ho hd k.fit ?_);refine Qqq (Qxj (Qqv ⟨_,rfl,"set_iterator",_,⟨_,Qq4 _ rfl,rfl⟩,iY.lookup,?_⟩));have hos:(es.toList.map (·.2)).length=es.size:=by simp
   have e0:=Qq4 s.heap (o:=yL (.int 0 0) 0 a (es.toList.map (·.2)).length ep) rfl;have:=h (s.heap.push (yL (.int 0 0) 0 a (es.toList.map (·.2)).length ep)) s.drawn s.heap.objs.size [s.heap.objs.size,a] (es.toList.map (·.2)) _ (λA' hA=>jN hA (Qwj hlt) hd k.fit hos.symm (Pa hd k.fit hl k.ld k.pl hz1)) ⟨e0,Qqx _ ho⟩ (λb hb=>by
    simp only[Qq3,Qxx,Qk2] at hb;rcases hb with rfl|rfl
    ·exact .inr (Qqy _)
    ·exact .inl rfl) (Qqy _) (hos.trans hn) ⟨ss,s1,s2⟩ λb u e=>Qqx _ e
   rw[hos] at this;cases s;exact this
 ·have hl:led w=false:=by simpa using hl
  rw[if_neg (by rw[hl];simp)];refine Qqq (Qqv ?_);refine Qqq (wpAny_setEpoch_of ho hd k.fit ?_);refine Qqq (Qxj (Qqv ⟨_,rfl,"set_iterator",_,⟨_,Qq4 _ rfl,rfl⟩,iY.lookup,?_⟩));have pk:=mY (w.params.setOrder a ep) es;have hos:((pickOrder (w.params.setOrder a ep) es).toList.map (·.2)).length=es.size:=by rw[Qqj,pk.length_eq];simp
  obtain⟨rs,q1,q2⟩:=sX (pk.map (·.2)) s1;have e0:=Qq4 s.heap (o:=yL (.int 0 0) 0 a ((pickOrder (w.params.setOrder a ep) es).toList.map (·.2)).length ep) rfl;have:=h (s.heap.push (yL (.int 0 0) 0 a ((pickOrder (w.params.setOrder a ep) es).toList.map (·.2)).length ep)) s.drawn s.heap.objs.size [s.heap.objs.size,a] ((pickOrder (w.params.setOrder a ep) es).toList.map (·.2)) _ (λA' hA=>jN hA (Qwj hlt) hd k.fit hos.symm (mW hd k.fit hl)) ⟨e0,Qqx _ ho⟩ (λb hb=>by
   simp only[Qq3,Qxx,Qk2] at hb;rcases hb with rfl|rfl
   ·exact .inr (Qqy _)
   ·exact .inl rfl) (Qqy _) (hos.trans hn) ⟨rs,q1,q2.trans s2⟩ λb u e=>Qqx _ e
  rw[hos] at this;cases s;exact this
theorem rY{a:Addr}{ys:List Int}{Q:List Value->Shared->Prop}(hh:A.handled=none)(x:iW P w s.heap a ys)(hz:ys.length<64)
  (h:∀(g:Heap) (d:Drawn) (tk:Nat) (os:List Value),(∃ss,IntsAre os ss/\ss.Perm ys)->os.length=ys.length->(∀b o,s.heap.get? b=some o->g.get? b=some o)->Q os { s with heap:=g,drawn:=d,toks:=tk }) :
  wpAny (model P w) A (collect (.ref a)) Q E s:=by
 have hT:∀h',iW P w h' a ys->Shared.TypeIs { s with heap:=h' } (.ref a) "set":=λh' ⟨o,_,_,_,e,r,_⟩=>⟨o,e,r.1⟩;have hlt:a<s.heap.objs.size:=let ⟨o,_,_,_,e,_⟩:=x;Qq9 e
 unfold collect;refine Qqq<|wpAny_runValue<|Qz9 PySem.F.entry_proto_collect ?_;rw[Qzy PySem.F.plain_proto_collect _];show wpAny _ A.in1 (newList [] >>= λl=>again<|.builtin "list.__iadd__" ⟨[l,.ref a],[]⟩) _ _ s;refine Qqq<|Qxj<|Qqv ⟨Qj9 PySem.F.plain_list_iadd _,Qz9 PySem.F.entry_list_iadd ?_⟩;rw[Qzy PySem.F.plain_list_iadd _];have l0:(s.heap.push { cls:=.type "list",data:=.seq ([]:List Value).toArray }).get? s.heap.objs.size=some { cls:=.type "list",data:=.seq #[] }:=Qq4 _ rfl;have x0:iW P w (s.heap.push { cls:=.type "list",data:=.seq ([]:List Value).toArray }) a ys:=x.keep λo e=>Qqx _ e;show wpAny _ A.in1 (Builtin.List.listExtendWith (.ref s.heap.objs.size) (.ref a)<|.ref s.heap.objs.size) _ _ _;unfold Builtin.List.listExtendWith;refine Qqq<|wpAny_typeOf (hT _ x0) ?_;have n1:Builtin.List.listSameRef (.ref s.heap.objs.size) (.ref a)=false:=by simp[Builtin.List.listSameRef,Qkw hlt]
 rw[if_neg (by rw[n1];decide)];refine Qqq<|z6 x0 hz λg d I fp os St W st hfp hI hos hss kp=>?_;have sz:(s.heap.push { cls:=.type "list",data:=.seq ([]:List Value).toArray }).objs.size=s.heap.objs.size+1:=Qjk _ _;have kp0:∀b o,s.heap.get? b=some o->g.get? b=some o:=λb o e=>kp b o<|Qqx _ e;have l1:g.get? s.heap.objs.size=some { cls:=.type "list",data:=.seq #[] }:=kp _ _ l0;have hSf:s.heap.objs.size ∉ fp:=λz=>by
  rcases hfp _ z with e|e
  ·exact absurd e<|Qkw hlt
  ·dsimp only at e;rw[sz] at e;exact absurd e<|Nat.not_succ_le_self _
 refine Qqq<|Qx5<|nH (let ⟨o,_,_,_,e,r,_⟩:=x.keep λo e=>kp0 _ o e;⟨o,e,r.1⟩) ?_;have W':=W A.in1 (by simpa using hh);have hn:os.length<=sizeLine:=by rw[hos];exact Qq0 (Qz7 hz) (by decide)
 have key:∀g1 c,St 0 { s with heap:=g1,drawn:=d }->(∀b o,s.heap.get? b=some o->g1.get? b=some o)->g1.get? s.heap.objs.size=some { cls:=.type "list",data:=.seq #[] c }->
   codeAny (model P w) A (.builtin "list.extend.loop" ⟨[.ref s.heap.objs.size,.ref I,.ref s.heap.objs.size],[]⟩) (λr s'=>wants (λv s2=>wpAny (model P w) A ((match v with
    | .ref a=>do match (<-load a).data with
     | .seq xs _=>pure xs.toList
     | _=>unsupported "internal:collect"
    | _=>unsupported "internal:collect"):Sem (List Value)) Q E s2) E r s') { s with heap:=g1,drawn:=d }:=by
  intro g1 c st1 k1 l2;refine codeAny_extend_loopS W' hn s.heap.objs.size hSf (.ref s.heap.objs.size) os.length 0 _ #[] c rfl (Qzz _) st1 l2 (ItemsOf.nil _) λs' acc c' m hS hacc=>?_;show wpAny _ _ (load s.heap.objs.size >>= _) _ _ _;refine Qqq<|wpAny_load hS<|Qqv ?_;rw[nG hacc,Moved.eq_with m];refine h s'.heap d s'.toks os hss hos λb o e=>m.heap b o (λz=>?_)<|k1 b o e;rcases Qq3.mp z with z|z
  ·exact absurd (Qq9 e) (by rw[z];exact Qz1 _)
  ·rw[Qwx.mp z] at e;have:=Qq9 e;dsimp only at hI;rw[sz] at hI;exact absurd (Qw0 this (Qj2 hI))<|Qz1 _
 dsimp only;split
 ·refine Qqq<|wpAny_rule<|Qqq ?_;show wpAny _ _ (updateSeq s.heap.objs.size (·.push .none) >>= λ_=>updateSeq s.heap.objs.size (·.pop)) _ _ _;refine Qqq<|wpAny_updateSeq l1 rfl ?_;have l2:=Heap.get?_update_self (Obj.mapSeq (·.push Value.none)) l1 rfl;refine wpAny_updateSeq l2 rfl ?_;have l3:=Heap.get?_update_self (Obj.mapSeq (·.pop)) l2 rfl;have oth:∀b o,b≠s.heap.objs.size->g.get? b=some o->((g.update s.heap.objs.size<|Obj.mapSeq (·.push Value.none)).update s.heap.objs.size<|Obj.mapSeq (·.pop)).get? b=some o:=λb o hb e=>
   (Heap.get?_update_other _ _<|Ne.symm hb).trans ((Heap.get?_update_other _ _<|Ne.symm hb).trans e)
  refine Qqv ⟨Qj9 PySem.F.plain_extend_loop _,key _ _ ?_ (λb o e=>oth b o (Qwj<|Qq9 e)<|kp0 b o e) l3⟩;exact W'.frame 0 { s with heap:=g,drawn:=d } _ _ st (Qqy _) λb hb o e=>oth b o (λz=>hSf<|z ▸ hb) e
 ·exact Qqv ⟨Qj9 PySem.F.plain_extend_loop _,key g _ st kp0 l1⟩
end
open PySem PySem.Spec PyProof.Rows L2 PySem.Builtin Ev
open SX (led xj ql pI lg pU qg fresh nH nG)
def Cj(P:Program)(w:World)(a:Addr)(ys:List Int):HO:=.ext λh=>iW P w h a ys
end SI
namespace Ev
open PySem PySem.Spec PyProof.Rows L2 PySem.Builtin
def z9:List D->Option (List Int)
 | []=>some []
 | .int i::ds=>(z9 ds).map (i :: ·)
 | _=>none
theorem Ip:∀zs:List Int,z9 (zs.map .int)=some zs
 | []=>rfl
 | z::zs=>by show(z9<|zs.map .int).map _=_;rw[Ip zs];rfl
theorem zz{K:Fg}{F:Hp}:∀{ds:List D} {zs:List Int} {vs:List V},z9 ds=some zs->bL K F ds vs->vs=zs.map V.int
 | [],zs,vs,e,h=>by cases e;cases h;rfl
 | d::ds,zs,vs,e,h=>by
  cases d with
  | int i=>
   obtain⟨ys,e1,rfl⟩:=Qw7.mp<|show(z9 ds).map (i :: ·)=some zs from e;obtain⟨v,r,rfl,h1,h2⟩:=h;cases h1;rw[zz e1 h2]
   rfl
  | _=>cases e
instance (zs:List Int):Decidable (zs.Pairwise (·< ·)):=inferInstance
open PySem PySem.Spec PyProof.Rows L2
theorem Rel.grow{C:Cfg}{Pr F:Hp}{env:Env}{σ:L2.St}{H H':Hp}(r:Rel C Pr F env σ H)(s:aQ H H'):Rel C Pr F env σ H':=by refine⟨r.pr.trans s,r.fr.trans s,r.len,r.val,λj e he=>?_,r.apart,r.dj,r.fix⟩;obtain⟨a,h1,h2,h3,h4⟩:=r.own j e he;obtain⟨o,ho⟩:=h2.some;exact⟨a,h1,h2.mono (aQ.refl F) (by rw[ho,s _ _ ho]),h3,h4⟩
theorem Rel.unset{C:Cfg}{Pr F:Hp}{env:Env}{σ:L2.St}{H:Hp}{i:Nat}{v:V}(r:Rel C Pr F env σ H)(hfx:C.fx i=none):Rel C Pr F (env.set i none) (σ.set i (some v)) H:=by
 have un:∀j x,(env.set i none)[j]? = some (some x)->j≠i/\env[j]? = some (some x):=λj x he=>by
  have hj:j≠i:=λz=>by
   subst z;have hl:j<env.length:=by
    have:=(Qwq.mp he).1
    rwa [Qxw] at this
   rw[Qwz hl] at he;cases he
  rw[Qq6 (Ne.symm hj)] at he;exact⟨hj,he⟩
 refine⟨r.pr,r.fr,by rw[Qxw,Qxw];exact r.len,λj e he=>?_,λj e he=>?_,λj k e f b hj hk g1 g2=>?_,r.dj,λj a hj=>?_⟩
 ·obtain⟨nj,he⟩:=un j _ he;rw[Qq6 (Ne.symm nj)];exact r.val j e he
 ·obtain⟨nj,he⟩:=un j _ he;rw[Qq6 (Ne.symm nj)];exact r.own j e he
 ·obtain⟨nj,hj⟩:=un j _ hj;obtain⟨nk,hk⟩:=un k _ hk;rw[Qq6 (Ne.symm nj)] at g1;rw[Qq6 (Ne.symm nk)] at g2;exact r.apart j k e f b hj hk g1 g2
 ·have hji:j≠i:=λz=>by rw[z,hfx] at hj;cases hj
  rw[Qq6 (Ne.symm hji)];exact r.fix j a hj
end Ev
namespace SI
open PySem PySem.Spec PyProof.Rows L2 PySem.Builtin
def Ms(X:Cx):List V->Hp->VK->Prop:=λxs H Q=>∃(p:Addr) (zs:List Int),xs=[.ref p]/\mR X.K H p (zs.map V.int)/\zs.length<4000/\∀l,H l=none->Q (.ref l) (upd H l (Cj X.prog X.w l (dY zs)))
section
variable{X:Cx}{C:Cfg}{pos:Pos}
theorem QF(hc:X.calm=true):ik X (.type "set") (Ms X):=by intro pins s σ H xs us Q I r h;obtain⟨p,zs,rfl,hq,hz,q⟩:=h;obtain⟨u,rfl,rx⟩:=vals1 r;cases rx;obtain⟨its,r',pl,_⟩:=I.list hq;have hS:=intsAre_of r';refine Ka (I.ok.hd hc) pl.isList (by simpa using hS) (Qz0 (Nat.succ_le_of_lt hz) (by decide)) λg tk x k=>?_;refine⟨.ref s.heap.objs.size,_,I.laid k (Qqy _) (o:=Cj X.prog X.w s.heap.objs.size<|dY zs) ⟨x,?_,λh1 h2 y kk=>y.keep kk⟩,rfl,q _<|I.hok.fresh<|Qqy _⟩;obtain⟨o,_,_,_,e,_⟩:=x;exact⟨o,e⟩
end
end SI
namespace Ev
open PySem PySem.Spec PyProof.Rows L2
theorem CN{X:Cx}{C:Cfg}{pos:Pos}{e:Expr}{a:Ev}(he:SX X C e a)(hs:swapsWith e none pos.line X.env=pure false:=by rfl):Gs X C (.Expr e pos) (J7 a):=⟨(Ep he.u hs).imp λD σ H hq=>by
 obtain⟨Pr,F,env,r,f⟩:=hq;obtain⟨d,aD,e1,f1⟩:=dW f;exact⟨Pr,F,env,aD,d,r,e1,λv H1 F1 r1 s1 p1=>f1 σ H1 F1 r1 s1⟩⟩
end Ev
namespace L2
open PySem PySem.Spec PySem.W PySem.Calls PyProof.Rows
theorem tQ:∀(ss:List Str) (n:Nat),Vals (ss.map V.str) (strsFrom n ss)
 | [],_=>.nil
 | s::ss,n=>.cons ⟨n,rfl⟩<|tQ ss<|n+1
section
variable{X:Cx}
def abn:V->List V->Hp->VK->Prop:=λx vs H Q=>∃z y,x = .str z/\vs=[.str y]/\(y.length == 0)=false/\z.length<=sizeLine/\(Txt.split z y).length<=sizeLine/\∀l,H l=none->Q (.ref l) (upd H l (.lst ((Txt.split z y).map .str)))
theorem Uh:MtM X "str.split" abn:=by
 intro pins s σ H x vs v us Q I rx rv h;obtain⟨z,y,rfl,rfl,hy,hz,hl,q⟩:=h;obtain⟨t,rfl⟩:=rx;obtain⟨u,rfl,t',rfl⟩:=rv.one;have hn:=I.hok.fresh<|Qqy _;have one:Txt.split z y=[z]->EP X pins σ Q (.ref s.heap.objs.size) { s with heap:=s.heap.push { cls:=Value.type "list",data:=Data.seq #[Value.str z t] } }:=λe=>by
  have q1:=q _ hn;rw[e] at q1;refine⟨.ref s.heap.objs.size,_,I.laid (λb o e=>Qqx _ e) (Qqy _) (o:=.lst [.str z]) ⟨by show 1<=sizeLine;decide,[Value.str z t],0,.cons ⟨t,rfl⟩ .nil,?_⟩,rfl,q1⟩;exact Qq4 s.heap rfl
 by_cases c1:(decide (z.length<y.length)||decide (Builtin.Str.strKind z<Builtin.Str.strKind y))=true
 ·refine call_meets F.slot_str_split (Qk7 s z t) F.entry_str_split (F.args_str_split_2 _ _) (meets_str_split_cannot_occur z y t t' c1) ?_;exact one (by unfold Txt.split;rw[if_pos c1])
 ·have c1':=Bool.eq_false_iff.mpr c1;by_cases c2:(Builtin.Str.occurrences z y 0 z.length<|z.length+1).isEmpty=true
  ·refine call_meets F.slot_str_split (Qk7 s z t) F.entry_str_split (F.args_str_split_2 _ _) (meets_str_split_not_found z y t t' c1' hy c2) ?_;exact one (by unfold Txt.split;rw[if_neg c1,if_pos c2])
  ·have c2':=Bool.eq_false_iff.mpr c2;have e:Txt.split z y=Builtin.Str.partsBetween z (Builtin.Str.occurrences z y 0 z.length<|z.length+1) y.length:=by unfold Txt.split;rw[if_neg c1,if_neg c2]
   rw[e] at hl;refine call_meets F.slot_str_split (Qk7 s z t) F.entry_str_split (F.args_str_split_2 _ _) (meets_str_split_sep z y t t' c1' hy c2' hz hl) ?_;have q1:=q _ hn;rw[e] at q1;generalize Builtin.Str.partsBetween z (Builtin.Str.occurrences z y 0 z.length<|z.length+1) y.length=ps at *;refine⟨.ref s.heap.objs.size,_,I.laid (λb o e=>Qqx _ e) (Qqy _) (o:=.lst<|ps.map .str) ⟨by rw[Qqj];exact hl,strsFrom s.toks ps,0,tQ ps _,?_⟩,rfl,q1⟩;exact Qq4 s.heap rfl
def WT:V->List V->Hp->VK->Prop:=λx vs H Q=>∃z y,x = .str z/\vs=[.str y]/\Q (.bl (decide (0+y.length<=z.length)&&Builtin.Str.subAt z y 0)) H
theorem Qh:MtM X "str.startswith" WT:=by intro pins s σ H x vs v us Q I rx rv h;obtain⟨z,y,rfl,rfl,q⟩:=h;obtain⟨t,rfl⟩:=rx;obtain⟨u,rfl,t',rfl⟩:=rv.one;exact call_gives F.slot_str_startswith (Qk7 s z t) F.entry_str_startswith (F.args_str_startswith_2 _ _) (gives_str_startswith z y t t') ⟨.bl _,H,I,rfl,q⟩
def aew:V->List V->Hp->VK->Prop:=λx vs H Q=>∃z y,x = .str z/\vs=[.str y]/\Q (.bl (decide (0+y.length<=z.length)&&Builtin.Str.subAt z y (z.length - y.length))) H
theorem XN:MtM X "str.endswith" aew:=by intro pins s σ H x vs v us Q I rx rv h;obtain⟨z,y,rfl,rfl,q⟩:=h;obtain⟨t,rfl⟩:=rx;obtain⟨u,rfl,t',rfl⟩:=rv.one;exact call_gives F.slot_str_endswith (Qk7 s z t) F.entry_str_endswith (F.args_str_endswith_2 _ _) (gives_str_endswith z y t t') ⟨.bl _,H,I,rfl,q⟩
end
end L2
namespace Ev
open PySem PySem.Spec PySem.W PySem.Calls PyProof.Rows L2
def cU(x y:List Nat):List (List Nat):=(Txt.split (strOf x) (strOf y)).map λs=>s.cps.toList
def dB:D->D->Option D
 | .str x,.str y=>if y≠[]/\x.length<=sizeLine/\(cU x y).length<=sizeLine/\∀p∈cU x y,p.length<=sizeLine then some (.lst ((cU x y).map .str)) else none
 | _,_=>none
def sY:D->D->Option D
 | .str x,.str y=>some (.bl (decide (0+(strOf y).length<=(strOf x).length)&&Builtin.Str.subAt (strOf x) (strOf y) 0))
 | _,_=>none
def Dl:D->D->Option D
 | .str x,.str y=>some (.bl (decide (0+(strOf y).length<=(strOf x).length)&&Builtin.Str.subAt (strOf x) (strOf y) ((strOf x).length - (strOf y).length)))
 | _,_=>none
theorem xQ{K:Fg}{F:Hp}:∀(ss:List Str),(∀p∈ss.map (λs=>s.cps.toList),p.length<=sizeLine)->bL K F ((ss.map λs=>s.cps.toList).map .str) (ss.map V.str)
 | [],_=>rfl
 | s::ss,h=>⟨V.str s,ss.map V.str,rfl,⟨by rw[sH],h _<|Qqk ..⟩,xQ ss λp hp=>h p<|Qqw _ hp⟩
section
variable{X:Cx}{C:Cfg}{o e:Expr}{a b:Ev}{apos cpos:Pos}
theorem lN(G:Good X C)(ho:SX X C o a)(he:Gj X C e b)(hbase:attributeBase o "split" X.env (eval o X.env)=eval o X.env:=by rfl)
  (hs:Bg e X.env:=by rfl)
  (hfew:((backTo cpos (starEach [e] X.env)).all (λx=>!x.1)&&(backToKw cpos (keywordEach [] X.env)).all (λx=>x.1.isSome)
   && decide ([e].length+([]:List Keyword).length+(if ([]:List Keyword).isEmpty then 0 else 1)<30))=true:=by rfl)
  (hline:(apos.endLine == cpos.line)=true:=by rfl) (hplain:(backTo cpos (starEach [] X.env)).any (·.1)=false:=by rfl) :
  SX X C (.Call (.Attribute o "split" apos) [e] [] cpos) (au dB a b):=⟨by
 refine(xU PySem.F.plainAttrs_str PySem.F.slot_str_split PySem.F.type_str_split Uh ho.u (fD he.u jM hs) hbase hfew hline hs hplain).imp λσ H Q hq=>?_;obtain⟨Pr,F,env,env',d,r,e0,q⟩:=hq;obtain⟨x,aD,e1,e2⟩:=aR e0;obtain⟨y,fH,e3,e4⟩:=aR e2;obtain⟨e5,rfl⟩:=cF e4;unfold dB at e5;split at e5
 ·rename_i z y;split at e5
  ·rename_i hz;obtain⟨g1,g2,g3,g4⟩:=hz;cases e5;refine⟨Pr,F,env,aD,_,r,e1,λvx H1 F1 r1 s1 p1=>?_⟩;obtain⟨rfl,_⟩:=p1;refine⟨rfl,Pr,F1,aD,env',_,r1,e3,λvy H2 F2 r2 s2 p2=>?_⟩;obtain⟨rfl,_⟩:=p2.str;refine⟨strOf z,strOf y,rfl,rfl,?_,by rw[aO];exact g2,by unfold cU at g3;rw[Qqj] at g3;exact g3,λl hl=>?_⟩
   ·rw[aO,Qwv];exact λz=>g1<|List.length_eq_zero_iff.mp z
   ·obtain⟨F3,r3,s3,p3⟩:=(r2.fresh hl).keep<|VN.of r2 hl<|show kj C.K F2 (upd H2 l<|.lst<|(Txt.split (strOf z)<|strOf y).map .str) (.lst<|(cU z y).map .str) l from⟨by rw[Qqj];exact g3,_,aY,xQ _ g4⟩;exact q _ _ F3 r3 (s1.trans<|s2.trans s3) p3
  ·cases e5
 ·cases e5⟩
theorem Oq(G:Good X C)(ho:SX X C o a)(he:Gj X C e b)(hbase:attributeBase o "startswith" X.env (eval o X.env)=eval o X.env:=by rfl)
  (hs:Bg e X.env:=by rfl)
  (hfew:((backTo cpos (starEach [e] X.env)).all (λx=>!x.1)&&(backToKw cpos (keywordEach [] X.env)).all (λx=>x.1.isSome)
   && decide ([e].length+([]:List Keyword).length+(if ([]:List Keyword).isEmpty then 0 else 1)<30))=true:=by rfl)
  (hline:(apos.endLine == cpos.line)=true:=by rfl) (hplain:(backTo cpos (starEach [] X.env)).any (·.1)=false:=by rfl) :
  SX X C (.Call (.Attribute o "startswith" apos) [e] [] cpos) (au sY a b):=⟨by
 refine(xU PySem.F.plainAttrs_str PySem.F.slot_str_startswith PySem.F.type_str_startswith Qh ho.u (fD he.u jM hs) hbase hfew hline hs hplain).imp λσ H Q hq=>?_;obtain⟨Pr,F,env,env',d,r,e0,q⟩:=hq;obtain⟨x,aD,e1,e2⟩:=aR e0;obtain⟨y,fH,e3,e4⟩:=aR e2;obtain⟨e5,rfl⟩:=cF e4;unfold sY at e5;split at e5
 ·rename_i z y;cases e5;refine⟨Pr,F,env,aD,_,r,e1,λvx H1 F1 r1 s1 p1=>?_⟩;obtain⟨rfl,_⟩:=p1;refine⟨rfl,Pr,F1,aD,env',_,r1,e3,λvy H2 F2 r2 s2 p2=>?_⟩;obtain⟨rfl,_⟩:=p2.str;exact⟨strOf z,strOf y,rfl,rfl,q _ H2 F2 r2 (s1.trans s2) rfl⟩
 ·cases e5⟩
theorem Wh(G:Good X C)(ho:SX X C o a)(he:Gj X C e b)(hbase:attributeBase o "endswith" X.env (eval o X.env)=eval o X.env:=by rfl)
  (hs:Bg e X.env:=by rfl)
  (hfew:((backTo cpos (starEach [e] X.env)).all (λx=>!x.1)&&(backToKw cpos (keywordEach [] X.env)).all (λx=>x.1.isSome)
   && decide ([e].length+([]:List Keyword).length+(if ([]:List Keyword).isEmpty then 0 else 1)<30))=true:=by rfl)
  (hline:(apos.endLine == cpos.line)=true:=by rfl) (hplain:(backTo cpos (starEach [] X.env)).any (·.1)=false:=by rfl) :
  SX X C (.Call (.Attribute o "endswith" apos) [e] [] cpos) (au Dl a b):=⟨by
 refine(xU PySem.F.plainAttrs_str PySem.F.slot_str_endswith PySem.F.type_str_endswith XN ho.u (fD he.u jM hs) hbase hfew hline hs hplain).imp λσ H Q hq=>?_;obtain⟨Pr,F,env,env',d,r,e0,q⟩:=hq;obtain⟨x,aD,e1,e2⟩:=aR e0;obtain⟨y,fH,e3,e4⟩:=aR e2;obtain⟨e5,rfl⟩:=cF e4;unfold Dl at e5;split at e5
 ·rename_i z y;cases e5;refine⟨Pr,F,env,aD,_,r,e1,λvx H1 F1 r1 s1 p1=>?_⟩;obtain⟨rfl,_⟩:=p1;refine⟨rfl,Pr,F1,aD,env',_,r1,e3,λvy H2 F2 r2 s2 p2=>?_⟩;obtain⟨rfl,_⟩:=p2.str;exact⟨strOf z,strOf y,rfl,rfl,q _ H2 F2 r2 (s1.trans s2) rfl⟩
 ·cases e5⟩
end
end Ev
namespace L2
open PySem PySem.Spec PySem.W PySem.Calls PyProof.Rows
theorem Xn{X:Cx}{a b:Expr}{ta tb:TE}{c:Str}{j:Nat}{p1 p2 p3 pos:Pos}(ha:PE X a ta)(hb:PE X b tb) :
  PE X (.JoinedStr [.FormattedValue a (-1) none p1,.Constant (.str c) j p2,.FormattedValue b (-1) none p3] pos)
   (λσ H Q=>ta σ H λx H1=>∃u,x = .str u/\u.length<=sizeLine/\(u++c).length<=sizeLine/\tb σ H1 λy H2=>∃v,y = .str v/\v.length<=sizeLine/\(u++c++v).length<=sizeLine/\Q (.str (u++c++v)) H2):=by
 intro pins s σ H Q I h;refine JoinedStr_many<|joinParts_cons<|FormattedValue_plain<|g8 (ha pins s σ H _ I h) λv s1 ⟨x,H1,I1,rx,u,ex,hu,hc,h1⟩=>?_;subst ex;obtain⟨t,rfl⟩:=rx;have e0:Str.empty++u=u:=by have h:=Ev.gM [] u.cps.toList;rw[Ev.sH,Qk6,Ev.sH] at h;exact h
 refine formatField_str (λt' tk=>?_) hu;show(Str.empty++u).length<=sizeLine/\_;rw[e0];refine⟨hu,joinParts_cons<|Calls.Constant_str ?_⟩;refine⟨hc,joinParts_consE<|joinParts_cons<|FormattedValue_plain<|g8 (hb pins _ σ H1 _ (I1.tok _) h1) λv2 s2 ⟨y,H2,I2,ry,w,ey,hw,hl,h2⟩=>?_⟩;subst ey;obtain⟨t2,rfl⟩:=ry;refine formatField_str (λt' tk=>?_) hw;refine⟨hl,joinParts_nilE<|joinParts_nil ?_ hl⟩;exact⟨.str _,H2,I2.tok _,⟨_,rfl⟩,h2⟩
end L2
namespace Ev
open PySem PySem.Spec PySem.W PySem.Calls PyProof.Rows L2
def Jj(c:List Nat)(a b:Ev):Ev:=λenv=>bindR (a env) λx e1=>bindR (b e1) λy e2=>match x,y with
 | .str u,.str v=>if u.length+c.length+v.length<=sizeLine then .ok (.str (u++c++v)) e2 else .stuck
 | _,_=>.stuck
theorem aaT(c)(hc:cs=strOf c)(ha:SX X C a ea)(hb:SX X C b eb) :
  SX X C (.JoinedStr [.FormattedValue a (-1) none p1,.Constant (.str cs) j p2,.FormattedValue b (-1) none p3] pos) (Jj c ea eb):=⟨by
 subst hc;refine(Xn ha.u hb.u).imp λσ H Q hq=>?_;obtain⟨Pr,F,env,env',d,r,e0,q⟩:=hq;obtain⟨x,aD,e1,e2⟩:=aR e0;obtain⟨y,fH,e3,e4⟩:=aR e2;split at e4
 ·rename_i u v;split at e4
  ·rename_i hl;cases e4;refine⟨Pr,F,env,aD,_,r,e1,λvx H1 F1 r1 s1 p1=>?_⟩;obtain⟨rfl,g1⟩:=p1;refine⟨strOf u,rfl,by rw[aO];exact g1,by rw[gM,aO,Qqz];omega,Pr,F1,aD,env',_,r1,e3,λvy H2 F2 r2 s2 p2=>?_⟩;obtain⟨rfl,g2⟩:=p2;refine⟨strOf v,rfl,by rw[aO];exact g2,by rw[gM,gM,aO,Qqz,Qqz];omega,?_⟩;rw[gM,gM];exact q _ H2 F2 r2 (s1.trans s2) ⟨rfl,by rw[Qqz,Qqz];omega⟩
  ·cases e4
 ·cases e4⟩
section
variable{X:Cx}
def abq(K:Fg):V->List V->Hp->VK->Prop:=λx vs H Q=>∃sep xs p,x = .str (strOf sep)/\vs=[.ref p]/\qM K H p (xs.map λx=>V.str (strOf x))/\joinFits sep xs=true/\Q (.str (strOf (bG sep xs))) H
theorem Uj:MtR X "str.join" (abq X.K):=by
 intro pins s σ H x vs v us Q I rx rv h;obtain⟨sep,xs,p,rfl,rfl,hq,hf,q⟩:=h;obtain⟨t,rfl⟩:=rx;obtain⟨u,rfl,ru⟩:=vals1 rv;cases ru;obtain⟨its,r,pl,_⟩:=I.tuple hq;have hs:=o9 r;refine join_tuple pl (by simpa using hs) ?_ λt' k=>?_
 ·have hf':=Qww hf;have e:((xs.map strOf).map (·.length))=xs.map List.length:=by
   rw[Qw6];apply Qx9;intro z _;exact aO z
  rw[e,aO,Qqj];exact hf'
 ·rw[zY];exact⟨.str _,H,I.tok k,⟨t',rfl⟩,q⟩
def WX(K:Fg):V->List V->Hp->VK->Prop:=λx vs H Q=>∃a zs z j,x = .ref a/\vs=[.str (strOf z)]/\mR K H a (zs.map λy=>V.str (strOf y))/\gP z zs=some j/\Q (.int j) H
theorem Ie:MtM X "list.index" (WX X.K):=by
 intro pins s σ H x vs v us Q I rx rv h;obtain⟨a,zs,z,j,rfl,rfl,hq,hp,q⟩:=h;cases rx;obtain⟨u,rfl,ru⟩:=rv.one;obtain⟨t,rfl⟩:=ru;obtain⟨its,r,ht,hz⟩:=I.list hq;obtain⟨hj,h1,h2⟩:=CP hp;have hlen:its.length=zs.length:=by rw[<-r.length,Qqj]
 have key:∀m (hm:m<zs.length),∃tk,its[m]? = some (.str (strOf zs[m]) tk):=λm hm=>by
  obtain⟨w,e1,e2⟩:=r.get (i:=m) (x:=V.str<|strOf zs[m]) (by simp[hm]);obtain⟨tk,rfl⟩:=e2;exact⟨tk,e1⟩
 have at':∀m (hm:m<zs.length) (hm':m<its.toArray.size),∃tk,its.toArray[m] = .str (strOf zs[m]) tk:=λm hm hm'=>by
  obtain⟨tk,e⟩:=key m hm;exact⟨tk,by simpa[Qwq] using (Qwq.mp e).2⟩
 let e:Value->Bool:=λy=>match y with|.str y _=>y == strOf z|_=>false
 obtain⟨o,ho,hc,n,hd⟩:=ht.isList;obtain⟨cls,dd,data,sl⟩:=o;simp only at hc hd;subst hc hd;have hjs:j<its.toArray.size:=by simpa[hlen] using hj
 refine call_meets F.slot_list_index ⟨_,ho,rfl⟩ F.entry_list_index (F.args_list_index_2 _ _) (SeqAt.list_indexAt a its.toArray n dd sl (.str (strOf z) t) e j hjs ?_ ?_ ?_) ⟨ho,λy hy=>?_,?_⟩
 ·have:zs.length<=sizeLine:=by rw[<-hlen,<-r.length] at *;exact hz
  rw[Qk5] at this;omega
 ·obtain⟨tk,e1⟩:=at' j hj hjs;rw[e1,h1];show(strOf z == strOf z)=true;simp
 ·intro m hm hmj;have hm':m<zs.length:=by simpa[hlen] using hm
  obtain⟨tk,e1⟩:=at' m hm' hm;rw[e1];show(strOf zs[m] == strOf z)=false;rw[Qwv];intro e2;refine h2 m hm' hmj ?_;have:=Qjq (λs:Str=>s.cps.toList) e2
  simpa[strOf] using this
 ·obtain⟨m,hm,rfl⟩:=Array.mem_iff_getElem.mp hy;have hm':m<zs.length:=by simpa[hlen] using hm
  obtain⟨tk,e1⟩:=at' m hm' hm;rw[e1];exact SeqAt.EqAt.str_str _ tk _ t
 ·exact⟨.int j,H,I.tok _,⟨_,rfl⟩,q⟩
end
def uD(x y:D):Option D:=match x,y with
 | .str sep,.tup ds=>(match fJ ds with
  | some xs=>if joinFits sep xs=true then some (.str (bG sep xs)) else none
  | none=>none)
 | _,_=>none
def qu:D->D->Option D
 | .lst ds,.str z=>(fJ ds).bind λzs=>(gP z zs).map λj=>.int (j:Nat)
 | _,_=>none
section
variable{X:Cx}{C:Cfg}{o e:Expr}{a b:Ev}{apos cpos:Pos}
theorem Gy(G:Good X C)(ho:SX X C o a)(he:Gj X C e b)(hbase:attributeBase o "join" X.env (eval o X.env)=eval o X.env:=by rfl)
  (hs:Bg e X.env:=by rfl)
  (hfew:((backTo cpos (starEach [e] X.env)).all (λx=>!x.1)&&(backToKw cpos (keywordEach [] X.env)).all (λx=>x.1.isSome)
   && decide ([e].length+([]:List Keyword).length+(if ([]:List Keyword).isEmpty then 0 else 1)<30))=true:=by rfl)
  (hline:(apos.endLine == cpos.line)=true:=by rfl) (hplain:(backTo cpos (starEach [] X.env)).any (·.1)=false:=by rfl) :
  SX X C (.Call (.Attribute o "join" apos) [e] [] cpos) (au uD a b):=⟨by
 have h:=xU PySem.F.plainAttrs_str PySem.F.slot_str_join PySem.F.type_str_join Uj ho.u (fD he.u jM hs) hbase hfew hline hs hplain;rw[G.K] at h;refine h.imp λσ H Q h=>?_;obtain⟨Pr,F,env,env',d,rl,e0,q⟩:=h;obtain⟨x,aD,e1,e2⟩:=aR e0;obtain⟨y,fH,e3,e4⟩:=aR e2;obtain⟨e5,rfl⟩:=cF e4;unfold uD at e5;split at e5
 ·rename_i sep ds;split at e5
  ·rename_i xs hxs;split at e5
   ·rename_i hf;cases e5;refine⟨Pr,F,env,aD,_,rl,e1,λvx H1 F1 r1 s1 p1=>?_⟩;obtain⟨rfl,_⟩:=p1;refine⟨rfl,Pr,F1,aD,env',_,r1,e3,λvy H2 F2 r2 s2 p2=>?_⟩;obtain⟨z,l,ws,rfl,h1,_,h2⟩:=p2.tup r2.fr;have e6:=mX hxs h2;subst e6;exact⟨sep,xs,l,rfl,rfl,h1,hf,q _ H2 F2 r2 (s1.trans s2) ⟨rfl,Im hf⟩⟩
   ·cases e5
  ·cases e5
 ·cases e5⟩
theorem Cu(G:Good X C)(ho:SX X C o a)(he:Gj X C e b)(hbase:attributeBase o "index" X.env (eval o X.env)=eval o X.env:=by rfl)
  (hs:Bg e X.env:=by rfl)
  (hfew:((backTo cpos (starEach [e] X.env)).all (λx=>!x.1)&&(backToKw cpos (keywordEach [] X.env)).all (λx=>x.1.isSome)
   && decide ([e].length+([]:List Keyword).length+(if ([]:List Keyword).isEmpty then 0 else 1)<30))=true:=by rfl)
  (hline:(apos.endLine == cpos.line)=true:=by rfl) (hplain:(backTo cpos (starEach [] X.env)).any (·.1)=false:=by rfl) :
  SX X C (.Call (.Attribute o "index" apos) [e] [] cpos) (au qu a b):=⟨by
 have h:=xU PySem.F.plainAttrs_list PySem.F.slot_list_index PySem.F.type_list_index Ie ho.u (fD he.u jM hs) hbase hfew hline hs hplain;rw[G.K] at h;refine h.imp λσ H Q hq=>?_;obtain⟨Pr,F,env,env',d,r,e0,q⟩:=hq;obtain⟨x,aD,e1,e2⟩:=aR e0;obtain⟨y,fH,e3,e4⟩:=aR e2;obtain⟨e5,rfl⟩:=cF e4;unfold qu at e5;split at e5
 ·rename_i ds z;obtain⟨zs,h1,h2⟩:=Qx2.mp e5;obtain⟨j,h3,rfl⟩:=Qw7.mp h2;refine⟨Pr,F,env,aD,_,r,e1,λvx H1 F1 r1 s1 p1=>?_⟩;obtain⟨hz,p,vs,rfl,h4,h5⟩:=p1;refine⟨.inl ⟨rfl,vs,mR.of<|r1.fr _ _ h4⟩,Pr,F1,aD,env',_,r1,e3,λvy H2 F2 r2 s2 p2=>?_⟩;obtain⟨rfl,_⟩:=p2.str;have e6:=mX h1 h5;subst e6;exact⟨p,zs,z,j,rfl,rfl,mR.of<|r2.fr _ _<|s2 _ _ h4,h3,q _ H2 F2 r2 (s1.trans s2) rfl⟩
 ·cases e5⟩
end
open PySem PySem.Spec PyProof.Rows L2
theorem xn(G:Good X C):Good X.xn C:=⟨G.K,G.calm,G.un⟩
theorem abD(hbd:Gm X.xn body tb):PS X (.Try body (h₀::hs) [] [] pos) tb:=by
 intro pins s σ H D I h;refine wpAny_Try_except<|Qxk (hbd pins s σ H D (I.wish _) h) (λf s1 q=>?_) λ_ _ z=>False.elim z;cases f with
 | next=>exact wpAny_execs_nil q.gr
 | brk=>exact q.gr
 | cont=>exact q.gr
 | ret u=>exact q.gr
end Ev
namespace XC
open PySem PySem.Spec PyProof.Rows PySem.W
structure Cl(K:Frag)(C:Addr):Prop where
 ga:findIn K (.ref C) "__getattribute__" = some (some (.builtin "BaseException.__getattribute__"))
 gt:findIn K (.ref C) "__getattr__" = some none
 cl:findIn K (.ref C) "__class__" = some (some (.builtin "object.__class__"))
 ob:mroIn K C (.type "object")=some true
 be:mroIn K C (.type "BaseException")=some true
section
variable{prog:Program}{w:World}{A:Around}{E:Value->Shared->Prop}{h:Heap}{g:Array GenState}{d:Drawn}{t:Nat}{os:OsState}{K:Frag}{x C:Addr}{M:Model}{S:Addr}{o:Obj}
def At(x C:Addr)(h:Heap):Prop:=∃o,h.get? x=some o/\o.cls = .ref C
theorem At.type(I:At x C h):Looks M h (typeOf (.ref x)) (.ref C):=by obtain⟨o,h1,h2⟩:=I;exact h2 ▸ (Looks.ld h1).andThen .now
theorem check(X:K.In h)(I:At x C h)(Z:Cl K C)(hq:Q () ⟨h,g,d,t,os⟩):wpAny M A (checkBuiltinCall "BaseException.__getattribute__" ⟨[.ref x,nameV],[]⟩) Q E ⟨h,g,d,t,os⟩:=by
 have hk:builtinKind "BaseException.__getattribute__" = some .slot:=by decide +kernel
 have hsplit:splitId "BaseException.__getattribute__" = some ("BaseException","__getattribute__"):=by decide +kernel
 have ha:=F.args_bexc_ga (.ref x) nameV;have L0:=I.type (M:=M);have L1:=looks_mroIn (M:=M) X Z.be;simp[checkBuiltinCall,hk,hsplit];refine Qqq ?_;unfold isInstance
 repeat (any_goals (first|assumption|with_reducible refine L0.at ?_|with_reducible refine L1.at ?_|wp_step))
theorem Cl.at(Z:Cl K C):∃c' d' cd sl,K.lookup C=some ⟨c',d',.cls cd,sl⟩:=by
 obtain⟨cd,q,_⟩:=Qx2.mp Z.ob;unfold clsIn at q;split at q
 ·rename_i ho;exact⟨_,_,_,_,ho⟩
 ·cases q
theorem caught(X:K.In h)(ho:h.get? x=some o)(hc:o.cls = .ref C)(Z:Cl K S)(ty:typeIn K (.ref S)=some (.type "type"))(sub:mroIn K C (.ref S)=some true)(hq:Q true ⟨h,g,d,t,os⟩) :
  wpAny M A (excMatches (.ref x) (.ref S)) Q E ⟨h,g,d,t,os⟩:=by
 have L1:=looks_mroIn (M:=M) X Z.be;have L2:=looks_mroIn (M:=M) X sub;have L3:=looks_typeIn (M:=M) X ty;obtain⟨c',d',cd,sl,hS⟩:=Z.at;have hS':=X _ _ hS;have f:=tc_notTuple;unfold excMatches
 repeat (any_goals (first|assumption|with_reducible refine L1.at ?_|with_reducible refine L2.at ?_|with_reducible refine L3.at ?_|(with_reducible refine wpAny_loadPart_at ho ?_;rw[hc])|with_reducible refine wpAny_loadPart_at hS' ?_|wp_step))
end
open PySem PySem.Spec PyProof.Rows PySem.W Builtin Builtin.ObjectAttr
abbrev YJ:List Value:=[.type "ValueError",.type "Exception",.type "BaseException",.type "object"]
structure Wa(K:Frag)(C S:Addr)(name:Str):Prop where
 z:Cl K C
 sa:findIn K (.ref C) "__setattr__" = some (some (.builtin "object.__setattr__"))
 no:findIn K (.ref C) name=some none
 cd:∃cd,clsIn K C=some cd/\cd.hasDict=true/\cd.mro = .ref C :: .ref S::YJ
section
variable{prog:Program}{w:World}{A:Around}{E:Value->Shared->Prop}{h:Heap}{g:Array GenState}{d:Drawn}{t:Nat}{os:OsState}{K:Frag}{x C S:Addr}{name:Str}{v:Value}{o:Obj}{vs:Array Value}{dx:Addr}{m:Str->Option Value}{nm q:Str}{N fI:Addr}{bs bm:List Value}{hdct:Bool}{sn:List Str}{sub:List Value}{ab:Bool}{col:Option Bool}{dd:Option Addr}{k0 k1 k2 k3 k5:Option Value}{s:Shared}{env:Env}
theorem Rv(X:K.In h)(Z:Wa K C S name)(hx:h.get? x=some o)(hc:o.cls = .ref C)(hdn:o.dict=none)(hda:o.data = .fields vs)
  (hq:∀h' tk' dx,(∀b ob,b≠x->h.get? b=some ob->h'.get? b=some ob)->h'.get? x=some { o with dict:=some dx }->h.get? dx=none->dx≠x->h'.Ns1 dx (λy=>if y=name then some v else none)->Q (.done (.ret .none)) ⟨h',g,d,tk',os⟩) :
  wpAny (model prog w) A (Builtin.«object.__setattr__» ⟨[.ref x,.str name tk,v],[]⟩) Q E ⟨h,g,d,t,os⟩:=by
 obtain⟨cd,hcd,hhd,hmro⟩:=Z.cd;have L0:Looks (model prog w) h (typeOf<|.ref x) (.ref C):=At.type ⟨o,hx,hc⟩;have L1:=looks_findIn (M:=model prog w) X Z.no;have L2:Looks (model prog w) h (mroOf<|.ref C) cd.mro:=(looks_clsIn X hcd).andThen .now;have L3:=looks_clsIn (M:=model prog w) X hcd;have hpass:=PySem.F.store_ValueError.passes<|.ref x;rw[osa_eq,refuse_eq];refine Qqq<|Qqq<|L0.at<|Qqq<|L2.at ?_;rw[hmro,refuseLoop_ref,refuseLoop_ref,hpass];refine Qqv<|Qqq<|L0.at<|Qqq<|L1.at<|Qqq<|Qqv ?_;show wpAny _ _ (storeInOwnDict (.ref x) (.ref C) (.str name tk) name v false) _ _ _;unfold storeInOwnDict ownDictForStores
 repeat (any_goals (first|assumption|with_reducible refine wpAny_loadPart_at hx ?_|wp_step))
 obtain⟨oc,od,oda,osl⟩:=o;simp only at hc hdn hda;subst hc hdn hda;refine Qqq<|L3.at ?_;rw[hhd];simp only[Bool.not_true,Bool.false_eq_true,if_false];rw[if_neg (by simp[typeHasDict])];have hx₁:(h.push { cls:=.type "dict",data:=.dict #[] }).get? x=some ⟨.ref C,none,.fields vs,osl⟩:=Qqx _ hx;have hxs:x≠h.objs.size:=Qwj<|Qq9 hx;refine Qqq<|wpAny_alloc' (Qqq (wpAny_update' hx₁ ?_));refine Qqv ?_;have hgd:((h.push { cls:=.type "dict",data:=.dict #[] }).update x λo=>{ cls:=o.cls,dict:=some h.objs.size,data:=o.data,slots:=o.slots }).get? h.objs.size=some { cls:=.type "dict",data:=.dict #[] }:=
  (Heap.get?_update_ne _ _ _ _ hxs.symm).trans (Heap.get?_push_at rfl rfl)
 have hnd:((h.push { cls:=.type "dict",data:=.dict #[] }).update x λo=>{ cls:=o.cls,dict:=some h.objs.size,data:=o.data,slots:=o.slots }).Ns h.objs.size (λ_=>none):=
  ⟨_, #[],_,hgd,rfl,λe he=>absurd he (by simp),λ_=>rfl⟩
 show wpAny _ _ (storeInDict h.objs.size (.str name tk) name v) _ _ _;unfold storeInDict newKeyGuard;refine Qqq (Qqv (Qqq (wpAny_nsSet1 (Heap.Ns1.of_empty hnd) λh' hn' hs=>?_)));obtain⟨oD,esD,epD,hoD,hdD,hcD⟩:=hn'.count (Within.cons name v Within.nil);refine Qqq (wpAny_lookBehind hoD (by rw[hdD];exact pastItsLine_dict (Qq0 hcD (by rw[Qq1,Qz3,Qk5];omega))) ?_)
 wp_walk
 refine hq h' _ h.objs.size (λb ob hbx hb=>(hs.2 b (Qwj (Qq9 hb))).trans ((Heap.get?_update_ne _ _ _ _ hbx).trans (Qqx _ hb))) ?_ (Heap.get?_none_of_le (Qqy _)) hxs.symm hn';exact(hs.2 x hxs).trans (Heap.get?_update_self _ hx₁ rfl)
theorem Rw(X:K.In h)(Z:Wa K C S name)(hx:h.get? x=some o)(hc:o.cls = .ref C)(hq:Q () ⟨h,g,d,t,os⟩):wpAny M A (checkBuiltinCall "object.__setattr__" ⟨[.ref x,nameV,v],[]⟩) Q E ⟨h,g,d,t,os⟩:=by have L0:Looks M h (typeOf<|.ref x) (.ref C):=At.type ⟨o,hx,hc⟩;have sub:Looks M h (isInstance (.ref x)<|.type "object") true:=L0.andThen<|looks_mroIn X Z.z.ob;exact @check_slot M _ _ ⟨h,g,d,t,os⟩ "object.__setattr__" "object" "__setattr__" (.ref x) [nameV,v] [] _ PySem.F.store_ValueError.kind PySem.F.store_ValueError.split sub (PySem.F.store_ValueError.args (.ref x) nameV v) hq
theorem store(X:K.In h)(Z:Wa K C S name)(hx:h.get? x=some o)(hc:o.cls = .ref C)(hdn:o.dict=none)(hda:o.data = .fields vs)
  (hq:∀h' tk' dx,(∀b ob,b≠x->h.get? b=some ob->h'.get? b=some ob)->h'.get? x=some { o with dict:=some dx }->h.get? dx=none->dx≠x->h'.Ns1 dx (λy=>if y=name then some v else none)->Q () ⟨h',g,d,tk',os⟩) :
  wpAny (model prog w) A (setAttr (.ref x) name v) Q E ⟨h,g,d,t,os⟩:=by
 have L0:Looks (model prog w) h (typeOf<|.ref x) (.ref C):=At.type ⟨o,hx,hc⟩;have L1:=looks_findIn (M:=model prog w) X Z.sa;have f3:=PySem.F.store_ValueError.slot.bind<|.ref x;unfold setAttr callSpecial? specialOf
 repeat (any_goals (first|assumption|with_reducible refine L0.at ?_|with_reducible refine L1.at ?_|wp_step))
 refine codeAny_call_builtin PySem.F.store_ValueError.slot.plain PySem.F.store_ValueError.entry<|Rw X Z hx hc<|Rv X Z hx hc hdn hda λh' tk' dx q1 q2 q3 q4 q5=>?_
 repeat (any_goals (first|assumption|wp_step))
 exact hq h' tk' dx q1 q2 q3 q4 q5
theorem XR(X:K.In h)(Z:Wa K C S name)(hx:h.get? x=some o)(hc:o.cls = .ref C)(hdn:o.dict=some dx)(hda:o.data = .fields vs)(hn:h.Ns dx m)(hm:m name=some v)(hq:Q (.done (.ret v)) ⟨h,g,d,t,os⟩) :
  wpAny (model prog w) A (Builtin.«object.__getattribute__» ⟨[.ref x,.str name tk],[]⟩) Q E ⟨h,g,d,t,os⟩:=by
 obtain⟨cd,hcd,hhd,hmro⟩:=Z.cd;have L0:Looks (model prog w) h (typeOf<|.ref x) (.ref C):=At.type ⟨o,hx,hc⟩;have L1:=looks_findIn (M:=model prog w) X Z.no;have L3:=looks_clsIn (M:=model prog w) X hcd;unfold Builtin.«object.__getattribute__»
 repeat (any_goals (first|assumption|with_reducible refine L0.at ?_|with_reducible refine L1.at ?_|with_reducible refine L3.at ?_|wp_step))
 obtain⟨oc,od,oda,osl⟩:=o;simp only at hc hdn hda;subst hc hdn hda;show wpAny _ _ (instanceDict x false) _ _ _;unfold instanceDict
 repeat (any_goals (first|assumption|with_reducible refine wpAny_loadPart_at hx ?_|with_reducible refine L3.at ?_|(with_reducible refine wpAny_nsGet hn ?_;rw[hm])|(unfold inDict;with_reducible refine wpAny_nsGet hn ?_;rw[hm])|wp_step))
theorem XX{fill expr:Bool}(X:K.In h)(Z:Wa K C S name)(hx:h.get? x=some o)(hc:o.cls = .ref C)(hdn:o.dict=some dx)(hda:o.data = .fields vs)(hn:h.Ns dx m)(hm:m name=some v)(hh:handedOut v=pure v)(hq:Q v ⟨h,g,d,t,os⟩) :
  wpAny (model prog w) A (getAttrBy (.ref x) (.str name tk) fill expr) Q E ⟨h,g,d,t,os⟩:=by
 have I:At x C h:=⟨o,hx,hc⟩;have L0:=I.type (M:=model prog w);have L1:=looks_findIn (M:=model prog w) X Z.z.ga;have L2:=looks_findIn (M:=model prog w) X Z.z.gt;have f3:=F.attr_ValueError.ga.bind<|.ref x;have hx0:(expr&&onTheHeap (Value.builtin "BaseException.__getattribute__"))=false:=by cases expr<;>rfl
 have hx2:(Value.builtin "BaseException.__getattribute__" == Value.builtin "object.__getattribute__")=false:=by decide +kernel
 have hx1:(onTheHeap (Value.ref C)&&Value.builtin "BaseException.__getattribute__" == Value.builtin "object.__getattribute__")=false:=by rw[hx2];rfl
 repeat (any_goals (first|assumption|with_reducible refine L0.at ?_|with_reducible refine L1.at ?_|with_reducible refine L2.at ?_|wp_step))
 refine codeAny_call_builtin F.attr_ValueError.ga.plain F.entry_bexc_ga<|check X I Z.z<|XR X Z hx hc hdn hda hn hm ?_
 repeat (any_goals (first|assumption|wp_step))
theorem load(X:K.In h)(Z:Wa K C S name)(hx:h.get? x=some o)(hc:o.cls = .ref C)(hdn:o.dict=some dx)(hda:o.data = .fields vs)(hn:h.Ns dx m)(hm:m name=some v)(hh:handedOut v=pure v)(hq:Q v ⟨h,g,d,t+1,os⟩) :
  wpAny (model prog w) A (getAttr (.ref x) name expr) Q E ⟨h,g,d,t,os⟩:=by
 unfold getAttr
 repeat (any_goals (first|assumption|with_reducible apply XX X Z hx hc hdn hda hn hm hh|wp_step))
theorem made(X:K.In h)(T:OwnTail h YJ bm)(hC:h.get? C=some (excClassObj nm q C N bs bm hdct sn sub ab col dd k0 k1 k2 k3 k5 "ValueError.__new__"))(hi:findIn K (.ref C) "__init__" = some (some (.ref fI)))(hf:typeIn K (.ref fI)=some (.type "function"))
  (hq:∀h' e,Heap.MadeExcOf h h' e (.ref C) rest->wpAny (model prog w) A (call (.ref fI) (.ref e::rest)) (λr s'=>r = .none/\Q (.done (.ret (.ref e))) s') E ⟨h',g,d,t,os⟩) (hrest:rest.length<=sizeLine) :
  wpAny (model prog w) A (Builtin.«type.__call__» ⟨.ref C::rest,[]⟩) Q E ⟨h,g,d,t,os⟩:=by
 have F:=PySem.F.excBase_ValueError
 repeat (first|with_reducible refine wpAny_loadPart_at hC ?_|with_reducible refine wpAny_madeBy_exc hC ?_|wp_step)
 refine codeAny_call_builtin_code (Code.quiet_builtin _ F.quiet)<|wpAny_check_new_subU F F.hasB T hC ?_;refine codeAny_exc_new_subU F F.hasB F T hC ?_ hrest;have hC₁:=Qqx { cls:=.ref C,data:=.fields #[.ref h.objs.size,.none,.none,.none,.bool false,.none] } (Qqx { cls:=.type "tuple",data:=.seq rest.toArray } hC);have X₁:K.In ((h.push { cls:=.type "tuple",data:=.seq rest.toArray }).push { cls:=.ref C,data:=.fields #[.ref h.objs.size,.none,.none,.none,.bool false,.none] }):=X.keeps λb o e=>Qqx _<|Qqx _ e;have hget:((h.push { cls:=.type "tuple",data:=.seq rest.toArray }).push { cls:=.ref C,data:=.fields #[.ref h.objs.size,.none,.none,.none,.bool false,.none] }).get? (h.objs.size+1)=some { cls:=.ref C,data:=.fields #[.ref h.objs.size,.none,.none,.none,.bool false,.none] }:=by heap_get
 have hcC:(Value.ref C::bm).contains (.ref C)=true:=by simp
 unfold isInstance
 repeat (first|with_reducible refine wpAny_loadPart_at hget ?_|(with_reducible refine wpAny_isSubtype_exc hC₁ ?_;rw[hcC])|wp_step)
 show wpAny _ _ (typeLookup (.ref C) _) _ _ _;refine(looks_findIn X₁ hi).at ?_;refine Qx5<|Qqq ?_;unfold bindSpecial;refine Qqq<|(looks_typeIn X₁ hf).at ?_;rw[if_pos (by decide)];refine Qqv<|Qqq<|Qxk (hq _ (h.objs.size+1) ⟨λb o hb=>Qqx _<|Qqx _ hb,Heap.get?_none_of_le<|Qkq _,h.objs.size,hget,Heap.get?_none_of_le<|Qqy _,?_⟩) (λr s' hr=>?_) λ_ _ z=>z
 ·exact Qqx _<|Heap.get?_push_at rfl rfl
 ·obtain⟨rfl,hQ⟩:=hr
  wp_walk
  exact hQ
theorem make(X:K.In h)(T:OwnTail h YJ bm)(hC:h.get? C=some (excClassObj nm q C N bs bm hdct sn sub ab col dd k0 k1 k2 k3 k5 "ValueError.__new__"))(hi:findIn K (.ref C) "__init__" = some (some (.ref fI)))(hf:typeIn K (.ref fI)=some (.type "function"))
  (hq:∀h' e,Heap.MadeExcOf h h' e (.ref C) rest->wpAny (model prog w) (A.under (.builtin "type.__call__" ⟨.ref C::rest,[]⟩)) (call (.ref fI) (.ref e::rest)) (λr s'=>r = .none/\Q (.ref e) s') E ⟨h',g,d,t,os⟩) (hrest:rest.length<=sizeLine) :
  wpAny (model prog w) A (call (.ref C) rest) Q E ⟨h,g,d,t,os⟩:=by
 have f1:=tc_lookup;have f2:=tc_bind<|.ref C;have hT:(⟨h,g,d,t,os⟩:Shared).TypeIs (.ref C) "type":=⟨_,hC,rfl⟩;refine wpAny_call<|codeAny_of_tree ?_;show wpAny _ _ (callAny (.ref C) _) _ _ _
 repeat (any_goals (first|assumption|with_reducible refine wpAny_loadPart_at hC ?_|wp_step))
 refine⟨rfl,?_⟩;exact codeAny_call_builtin_at (Code.quiet_builtin _ (by decide +kernel)) entry_typeCall (wpAny_check_type_call_sub hC (made X T hC hi hf (λh' e hm=>hq h' e hm) hrest))
theorem Kh{x:Sem Value}(hbase:bm.contains (.type "BaseException")=true)(hh:A.handled=none)
  (h:wpAny M A x (λv s₁=>∃e ob,v = .ref e/\s₁.heap.get? C=some (excClassObj nm q C N bs bm hdct sn sub ab col dd k0 k1 k2 k3 k5 "ValueError.__new__")/\s₁.heap.get? e=some ob/\ob.cls = .ref C/\(∃vs,ob.data = .fields vs/\vs[1]? = some .none)/\E (.ref e) s₁) E s):wpAny M A (raiseStmt env (some x) none) Q E s:=by
 have hcB:(Value.ref C::bm).contains (.type "BaseException")=true:=by rw[List.contains_cons,hbase,Bool.or_true]
 unfold raiseStmt;refine Qqq<|Qxk h (λv s₁ h₁=>?_) λ_ _ z=>z;obtain⟨e,ob,rfl,hC,he,hc,⟨vs,hd,h1⟩,hE⟩:=h₁;obtain⟨hp,g,d,tk,os⟩:=s₁;obtain⟨oc,od,oda,osl⟩:=ob;simp at hc hd;subst hc hd;have ahe:∀Q',Q' false ⟨hp,g,d,tk,os⟩->wpAny M A (isType<|.ref e) Q' E ⟨hp,g,d,tk,os⟩:=λQ' q=>by
  unfold isType loadHead;refine Qqq<|wpAny_loadPart he ?_;exact Qqv q
 repeat (first|with_reducible refine ahe _ ?_|with_reducible refine wpAny_loadPart_at he ?_|with_reducible refine wpAny_loadPart_at hC ?_|(with_reducible refine wpAny_isSubtype_exc hC ?_;rw[hcB])|wp_step)
 rw[h1];refine Qqv ?_;rw[if_neg (by decide)];exact Qqv<|wpAny_raiseNew_none hh hE
theorem raises{x:Str}(hbase:bm.contains (.type "BaseException")=true)(hh:A.handled=none)(hplain:(backTo cpos (starEach args env)).any (·.1)=false)(hi:findIn K (.ref C) "__init__" = some (some (.ref fI)))(hf:typeIn K (.ref fI)=some (.type "function"))
  (h:wpAny (model prog w) A (eval (.Name x np) env) (λf s₁=>f = .ref C/\wpAny (model prog w) A (evalArgs (.ref C) true (backTo cpos (starEach args env)) [])
   (λa s₂=>a.kw=[]/\a.pos.length<=sizeLine/\s₂.heap.get? C=some (excClassObj nm q C N bs bm hdct sn sub ab col dd k0 k1 k2 k3 k5 "ValueError.__new__")/\K.In s₂.heap/\OwnTail s₂.heap YJ bm/\
    ∀h' e,Heap.MadeExcOf s₂.heap h' e (.ref C) a.pos->wpAny (model prog w) (A.under (.builtin "type.__call__" ⟨.ref C::a.pos,[]⟩)) (call (.ref fI) (.ref e::a.pos))
     (λr s₃=>r = .none/\s₃.heap.get? C=some (excClassObj nm q C N bs bm hdct sn sub ab col dd k0 k1 k2 k3 k5 "ValueError.__new__")/\(∃ob,s₃.heap.get? e=some ob/\ob.cls = .ref C/\∃vs,ob.data = .fields vs/\vs[1]? = some .none)/\E (.ref e) s₃) E { s₂ with heap:=h' }) E s₁) E s) :
  wpAny (model prog w) A (exec (.Raise (some (.Call (.Name x np) args [] cpos)) none pos) env) Q E s:=by
 rw[arm_exec_Raise];refine Qqq (wpAny_standAt (Kh (C:=C) (nm:=nm) (q:=q) (N:=N) (bs:=bs) (hdct:=hdct) (sn:=sn) (sub:=sub) (ab:=ab) (col:=col) (dd:=dd) (k0:=k0) (k1:=k1) (k2:=k2) (k3:=k3) (k5:=k5) hbase hh
  (Qqq<|Qxk (wpAny_Call_ofName<|Qxk h (λf s₁ h₁=>?_) λ_ _ z=>z) (λv s₃ h₃=>Qqq<|wpAny_standAt<|Qqv h₃) λ_ _ z=>z)))
 obtain⟨rfl,h₁⟩:=h₁;unfold callWith;refine Qqq<|Qx5<|Qxk h₁ (λa s₂ h₂=>Qqq<|wpAny_standAt ?_) λ_ _ z=>z;obtain⟨apos,akw⟩:=a;obtain⟨hkw,hlen,hC,X,T,h₂⟩:=h₂;obtain rfl:akw=[]:=hkw;obtain⟨hp,g,d,tk,os⟩:=s₂;simp only[hplain];refine Qqq<|wpAny_keeperOf_exc hC ?_;refine Qqq<|make X T hC hi hf (λh' e hm=>Qxk (h₂ h' e hm) (λr s₃ hr=>⟨hr.1,Qqq<|Qx5<|wpAny_point<|Qqv ?_⟩) λ_ _ z=>z) hlen;obtain⟨_,hC3,⟨ob,ho,hoc,hon⟩,hE⟩:=hr;exact⟨e,ob,rfl,hC3,ho,hoc,hon,hE⟩
end
def Hd(h B:Heap)(e:Addr)(fl:Value)(vs:Array Value):Prop:=∃T oT ts,vs[1]? = some (.ref T)/\B.get? T=none/\T≠e/\h.get? T=some oT/\oT.data = .fields ts/\ts[3]? = some fl
structure Fl(B:Heap)(l:List Env)(e:Addr)(cls:Value)(dd:Option Addr)(P:Array Value->Prop)(h:Heap):Prop where
 st:B.StaysIn h
 ne:B.get? e=none
 fr:h.FunFrames B l
 ob:∃oe vs,h.get? e=some oe/\oe.cls=cls/\oe.dict=dd/\oe.data = .fields vs/\P vs
section
variable{M:Model}{A:Around}{E:Value->Shared->Prop}{s:Shared}{B:Heap}{env:Env}{outer l:List Env}{L e:Addr}{cls:Value}{dd:Option Addr}
theorem entry_at(hfr:A.frames=some (env::outer))(hl:s.heap.FunFrames B (env::outer))(hf:env.frame=some L)(st:B.StaysIn s.heap)(ne:B.get? e=none)
  (he:s.heap.get? e=some oe) (hc:oe.cls=cls) (hdd:oe.dict=dd) (hd:oe.data = .fields vs) (hz:1<vs.size) (h:∀h',Fl B (env::outer) e cls dd (Hd h' B e (rawInt L)) h'->s.heap.UpToSlots h'->Q () { s with heap:=h' }) :
  wpAny M A (do let a <-frameOf env;let pl <-entryPlaceOf L hn;let b <-EntryCells.newEntry head a .none (rawInt L) .none pl;setField (.ref e) 1 b) Q E s:=by
 have hene:e ∉ (env::outer).filterMap (·.frame):=λhm=>by
  obtain⟨_,o,ho,hnf⟩:=hl.mem hm;rw[he] at ho;cases ho;exact hnf vs hd
 refine Qqq<|wpAny_frameOf_fun hfr hl hf λh1 hs=>?_;refine Qqq<|wpAny_entryPlaceOf λpl hpl=>?_;unfold EntryCells.newEntry newFields;refine Qqq<|Qxj ?_<|hpl.sizeOk5 _ _ _ _ _;have he1:=(hs.2.1 e hene).trans he;have st1:B.StaysIn h1:=λb o q=>(hs.2.1 b λhm=>by rw[(hl.mem hm).1] at q;cases q).trans<|st b o q;generalize hN:({ cls:=.type "traceback",dict:=none,data:=.fields ([head,.ref L,.none,rawInt L,.none]++(if pl.isEmpty then List.replicate 6 Value.none else pl)).toArray }:Obj)=N;have hNf:∃ts,N.data = .fields ts/\ts[3]? = some (rawInt L)/\N.isFreed=false:=by subst hN;exact⟨_,rfl,by first|(simp;done)|(rcases hpl with rfl|⟨_,_,_,_,_,_,_,rfl⟩<;>simp),rfl⟩
 obtain⟨ts,hts,h3,ahf⟩:=hNf;have he2:=Qqx N he1;refine wpAny_setField he2 hd hz<|h _ ?_ ?_
 ·have hTe:=Qkw<|Qq9 he1;have hd3:=Obj.data_mapFields hd (·.setIfInBounds 1 (Value.ref h1.objs.size));have keep:∀b o,b≠e->h1.get? b=some o->((h1.push N).update e<|Obj.mapFields (·.setIfInBounds 1 (Value.ref h1.objs.size))).get? b=some o:=λb o hb q=>by
   rw[Heap.get?_update_other _ _ (Ne.symm hb)];exact Qqx _ q
  refine⟨λb o q=>keep b o (λz=>by rw[z,ne] at q;cases q)<|st1 b o q,ne,hl.of_keeps λb o hb hnf=>?_,_,_,Heap.get?_update_self _ he2<|Obj.isFreed_of_fields hd3,(Obj.cls_mapFields _ _).trans hc,?_,hd3,h1.objs.size,N,ts,by simp[hz],st1.fresh,hTe,?_,hts,h3⟩
  ·obtain⟨sl,q⟩:=hs.2.2 b o hb;exact⟨_,keep b _ (λz=>by rw[z,he] at hb;cases hb;exact hnf vs hd) q,rfl⟩
  ·rw[<-hdd];obtain⟨oc,od,oda,osl⟩:=oe;cases oda<;>rfl
  ·rw[Heap.get?_update_other _ _ (Ne.symm hTe)];exact Qq4 _ ahf
 ·intro b o hb hnf;obtain⟨sl,q⟩:=hs.2.2 b o hb;refine⟨sl,?_⟩;rw[Heap.get?_update_other _ _ (λz=>by rw[<-z,he] at hb;cases hb;exact hnf vs hd)];exact Qqx _ q
theorem aeW(hfr:A.frames=some (env::outer))(hf:env.frame=some L)(F:Fl B (env::outer) e cls dd (λvs=>vs[1]? = some .none) s.heap)
  (h:∀h',Fl B (env::outer) e cls dd (Hd h' B e (rawInt L)) h'->s.heap.UpToSlots h'->Q () { s with heap:=h' }):wpAny M A (noteFrame (.ref e) env) Q E s:=by
 obtain⟨st,ne,fr,oe,vs,he,hc,hdd,hd,h1⟩:=F;unfold noteFrame;simp only[hf];refine Qqq<|wpAny_field he hd h1 ?_;rw[if_neg (by decide)];exact entry_at hfr fr hf st ne he hc hdd hd (Array.getElem?_eq_some_iff.mp h1).1 h
theorem Z1(hfr:A.frames=some (env::outer))(hf:env.frame=some L)(F:Fl B (env::outer) e cls dd (Hd s.heap B e .none) s.heap)
  (h:∀h',Fl B (env::outer) e cls dd (Hd h' B e (rawInt L)) h'->s.heap.UpToSlots h'->Q () { s with heap:=h' }):wpAny M A (noteFrame (.ref e) env) Q E s:=by
 obtain⟨st,ne,fr,oe,vs,he,hc,hdd,hd,T,oT,ts,h1,hnT,hTe,hT,hdT,h3⟩:=F;unfold noteFrame;simp only[hf];refine Qqq<|wpAny_field he hd h1 ?_;rw[if_pos (show(Value.ref T != Value.none)=true from by simp)];refine Qqq<|wpAny_field hT hdT h3 ?_;rw[if_neg (show ¬((Value.none == rawInt L)=true) from by simp[rawInt])];refine Qqq<|wpAny_setField hT hdT (Array.getElem?_eq_some_iff.mp h3).1 ?_;have oth:∀b,b≠T->(s.heap.update T<|Obj.mapFields (·.setIfInBounds 3 Value.none)).get? b=s.heap.get? b:=λb hb=>Heap.get?_update_other _ _<|Ne.symm hb;have nr:∀b o,s.heap.get? b=some o->(∀vs,o.data ≠ .fields vs)->b≠T:=λb o hb hn z=>by rw[z,hT] at hb;cases hb;exact hn ts hdT
 exact entry_at hfr (fr.of_keeps λb o hb hn=>⟨o,(oth b<|nr b o hb hn).trans hb,rfl⟩) hf (λb o q=>(oth b λz=>by rw[z,hnT] at q;cases q).trans<|st b o q) ne ((oth e<|Ne.symm hTe).trans he) hc hdd hd (Array.getElem?_eq_some_iff.mp h1).1
  λh' f u=>h h' f λb o hb hn=>u b o ((oth b<|nr b o hb hn).trans hb) hn
theorem land(F:Fl B l e cls dd (Hd s.heap B e fl) s.heap)(h:∀h',Fl B l e cls dd (Hd h' B e .none) h'->s.heap.UpToSlots h'->Q () { s with heap:=h' }):wpAny M A (setFlight (.ref e) none) Q E s:=by
 obtain⟨st,ne,fr,oe,vs,he,hc,hdd,hd,T,oT,ts,h1,hnT,hTe,hT,hdT,h3⟩:=F;have hz:=(Array.getElem?_eq_some_iff.mp h3).1;have oth:∀b,b≠T->(s.heap.update T<|Obj.mapFields (·.setIfInBounds 3 (none.elim Value.none λf=>rawInt f))).get? b=s.heap.get? b:=λb hb=>Heap.get?_update_other _ _<|Ne.symm hb;have nr:∀b o,s.heap.get? b=some o->(∀vs,o.data ≠ .fields vs)->b≠T:=λb o hb hn z=>by rw[z,hT] at hb;cases hb;exact hn ts hdT
 unfold setFlight;refine Qqq<|wpAny_field he hd h1 ?_;rw[if_pos (show(Value.ref T != Value.none)=true from by simp)];refine wpAny_setField hT hdT hz<|h _ ⟨λb o q=>(oth b λz=>by rw[z,hnT] at q;cases q).trans<|st b o q,ne,fr.of_keeps λb o hb hn=>⟨o,(oth b<|nr b o hb hn).trans hb,rfl⟩,oe,vs,(oth e<|Ne.symm hTe).trans he,hc,hdd,hd,T,_,_,h1,hnT,hTe,Heap.get?_update_self _ hT<|Obj.isFreed_of_fields<|Obj.data_mapFields hdT _,Obj.data_mapFields hdT _,by simp[hz]⟩ λb o hb hn=>⟨o.slots,(oth b<|nr b o hb hn).trans hb⟩
theorem Fl.out(F:Fl B (env::outer) e cls dd P h):Fl B outer e cls dd P h:=⟨F.st,F.ne,F.fr.2.2,F.ob⟩
theorem X4(hfr:A.frames=some (env::outer))(hf:env.frame=some L)(F:Fl B (env::outer) e cls dd (λvs=>vs[1]? = some .none) s.heap)(h:∀h',Fl B outer e cls dd (Hd h' B e .none) h'->s.heap.UpToSlots h'->Q () { s with heap:=h' }):wpAny M A (leaving env (.ref e)) Q E s:=by unfold leaving;exact Qqq<|aeW hfr hf F λh1 f1 u1=>land f1 λh2 f2 u2=>h h2 f2.out<|u1.trans u2
theorem X3(hfr:A.frames=some (env::outer))(hf:env.frame=some L)(F:Fl B (env::outer) e cls dd (Hd s.heap B e .none) s.heap)(h:∀h',Fl B outer e cls dd (Hd h' B e .none) h'->s.heap.UpToSlots h'->Q () { s with heap:=h' }):wpAny M A (leaving env (.ref e)) Q E s:=by unfold leaving;exact Qqq<|Z1 hfr hf F λh1 f1 u1=>land f1 λh2 f2 u2=>h h2 f2.out<|u1.trans u2
end
end XC
namespace L2
open PySem PySem.Spec PyProof.Rows
theorem qO.stays(x:qO P w H h)(k:∀b u,H b≠none->h.get? b=some u->h'.get? b=some u):qO P w H h':=λa o e=>
 (x a o e).stay (λb u hb q=>k b u (by
  rcases hb with rfl|hb
  ·rw[e];exact λz=>nomatch z
  ·rw[hb];exact λz=>nomatch z) q) (λ_ q=>q) λ_ _ q=>q
theorem gf.obj(x:gf P w H h a o):∃u,h.get? a=some u:=by
 cases o with
 | lst xs=>obtain⟨_,_,_,_,e⟩:=x;exact⟨_,e⟩
 | tup xs=>obtain⟨_,_,_,_,e,_⟩:=x;exact⟨_,e⟩
 | dK kvs=>obtain⟨_,_,_,_,_,_,_,e,_⟩:=x;exact⟨_,e⟩
 | dT kvs=>obtain⟨_,_,_,_,_,_,_,e,_⟩:=x;exact⟨_,e⟩
 | dN kvs=>obtain⟨_,_,_,_,_,_,_,e,_⟩:=x;exact⟨_,e⟩
 | set S n=>obtain⟨_,_,_,_,e,_⟩:=x;exact⟨_,e⟩
 | ins C dx fs=>obtain⟨_,_,_,e,_⟩:=x;exact⟨_,e⟩
 | own y=>exact x
 | xd fs=>obtain⟨_,⟨_,_,_,e,_⟩,_⟩:=x;exact⟨_,e⟩
 | rng lo hi=>obtain⟨_,_,_,e⟩:=x;exact⟨_,e⟩
 | tu ob u=>exact⟨_,x.1⟩
 | ZD ps=>exact⟨_,x⟩
 | tab qs=>obtain⟨_,e,_⟩:=x;exact⟨_,e⟩
 | met f y=>exact⟨_,x⟩
 | ext φ=>exact x.2.1
structure v9(P:Program)(w:World)(outer:List Env)(H:Hp)(s:Shared)(C a:Addr)(dd:Option Addr)(H':Hp)(B:Heap)(s':Shared):Prop where
 os:s'.os=s.os
 bare:AllBare s'.gens
 same:aQ H H'
 un:Un (frs outer) [] H H' s.heap s'.heap
 hok:qO P w H' B
 fl:XC.Fl B outer a (.ref C) dd (XC.Hd s'.heap B a .none) s'.heap
 old:∀b o,s.heap.get? b=some o->H b=none->b ∉ frs outer->B.get? b=some o
def Wb(P:Program)(w:World):Wc:=λouter H s E e s'=>∃(a C:Addr) (dd:Option Addr) (H':Hp) (B:Heap),e = .ref a/\E (.ref C) dd H'/\v9 P w outer H s C a dd H' B s'
structure qQ(X:Cx):Prop where
 st:X.stack=X.env::X.outer
 fr:X.env.frame=some X.env.locals
 ex:X.ex=[]
section
variable{X:Cx}{pins:List (Addr×Obj)}{σ:St}{H:Hp}{s s':Shared}{h':Heap}{a C:Addr}{vs:List Value}{E E1:XK}{E':Value->Shared->Prop}
theorem qQ.V0(T:qQ X)(b):b ∉ X.ex:=by rw[T.ex];exact λz=>nomatch z
theorem qQ.nf(T:qQ X)(I:Inv X pins σ H s)(e:X.s₀.heap.get? b=some o)(hb:b ∉ X.fs):b ∉ frs X.stack:=λhm=>by
 rw[T.st] at hm;unfold frs at hm;rw[Qz5,T.fr] at hm;rcases Qq3.mp hm with rfl|hm
 ·exact absurd (Qw0 (Qq9 e) I.ok.above)<|Qz1 _
 ·exact hb hm
theorem qQ.sub(T:qQ X)(hb:b∈X.fs):b∈frs X.stack:=by rw[T.st];unfold frs;rw[Qz5,T.fr];exact Qqw _ hb
theorem qQ.Z2(I:Inv X pins σ H s)(e:X.s₀.heap.get? b=some o)(hb:b∈X.fs):∀vs,o.data ≠ .fields vs:=by obtain⟨_,o',ho,hd⟩:=I.ok.vK.mem hb;rw[e] at ho;cases ho;exact hd
theorem Zz(I:Inv X pins σ H s)(T:qQ X){H':Hp}{B h':Heap}(old:∀b o,X.s₀.heap.get? b=some o->X.H₀ b=none->b ∉ X.fs->B.get? b=some o)(st:B.StaysIn h')
  (slot:∀b o,X.s₀.heap.get? b=some o->X.H₀ b=none->b∈X.fs->∃sl,h'.get? b=some { o with slots:=sl }) (free:∀b o,X.s₀.heap.get? b=some o->X.H₀ b=none->H' b=none)
  (sm:aQ X.H₀ H') (hok:qO X.prog X.w H' B):Un X.fs [] X.H₀ H' X.s₀.heap h' where
 keep:=λb o e n hb _=>st b o<|old b o e n hb
 slot:=λb o e n hb _=>slot b o e n hb
 free:=λb o e n _=>free b o e n
 there:=λb o e _=>by
  by_cases n:X.H₀ b=none
  ·by_cases hb:b∈X.fs
   ·obtain⟨sl,q⟩:=slot b o e n hb;exact⟨_,q⟩
   ·exact⟨o,st b o<|old b o e n hb⟩
  ·cases q:X.H₀ b with
   | none=>exact absurd q n
   | some u=>
    obtain⟨v,hv⟩:=(hok b u<|sm b u q).obj;exact⟨v,st b v hv⟩
 tups:=λb xs q=>sm b _ q
 tM:=λb o u q=>sm b _ q
 wG:=λb ps q=>⟨#[],by rw[sm b _ q];simp⟩
 tabs:=λb qs q=>sm b _ q
theorem Inv.leave(I:Inv X pins σ H s)(T:qQ X)(sm:aQ X.H₀ H)(hE:E (.ref C) dd H)(hn:H a=none)(hnew:X.s₀.heap.get? a=none)(he:s.heap.get? a=some oe)(hc:oe.cls = .ref C)(hdd:oe.dict=dd)(hd:oe.data = .fields fs)(h1:fs[1]? = some .none) :
  wpAny (model X.prog X.w) X.A (leaving X.env (.ref a)) (λ_ s''=>Wb X.prog X.w X.outer X.H₀ X.s₀ E (.ref a) s'') E' s:=by
 have nF:a ∉ frs X.stack:=λhm=>by
  obtain⟨_,o,ho,hnf⟩:=I.stack.mem hm;rw[he] at ho;cases ho;exact hnf fs hd
 have old:=λb o e n hb=>
  PySem.W.hideAll_get _ (I.base.keep b o e n hb<|T.V0 b) (λz=>by
   rcases Qq3.mp z with z|z
   ·rw[z,hnew] at e;cases e
   ·exact T.nf I e hb z)
 have hok:=qO.stays I.hok λb u n q=>PySem.W.hideAll_get _ q λhm=>by
  rcases Qq3.mp hm with z|z
  ·exact n<|z ▸ hn
  ·exact n<|I.DR b z
 have ff:s.heap.FunFrames (PySem.W.hideAll s.heap (a::frs X.stack)) (X.env::X.outer):=by have:=I.stack;rw[T.st] at this ⊢;exact PySem.W.funFrames_hide this λenv he b hb=>Qqw _<|List.mem_filterMap.mpr ⟨env,he,hb⟩
 refine XC.X4 (by rw[I.ok.frames,T.st]) T.fr ⟨λb o q=>PySem.W.of_hideAll _ q,PySem.W.hideAll_none _<|Qqk ..,ff,oe,fs,he,hc,hdd,hd,h1⟩ λh' f x4=>⟨a,C,dd,H,_,rfl,hE,I.os,I.bare,sm,?_,hok,f,old⟩;refine Zz I T old f.st (λb o e n hb=>?_) (λb o e n=>I.base.free b o e n<|T.V0 b) sm hok;obtain⟨sl,e1⟩:=I.base.slot b o e n hb<|T.V0 b;obtain⟨sl',e2⟩:=x4 b _ e1 (by have z:=qQ.Z2 I e hb;exact z);exact⟨sl',e2⟩
theorem Inv.X5(I:Inv X pins σ H s)(T:qQ X)(sm:aQ X.H₀ H)(hE:∀C dd H',E1 (.ref C) dd H'->E (.ref C) dd H')(hc:Wb X.prog X.w X.stack H s E1 e s') :
  wpAny (model X.prog X.w) X.A (leaving X.env e) (λ_ s''=>Wb X.prog X.w X.outer X.H₀ X.s₀ E e s'') E' s':=by
 obtain⟨a,C,dd,H',B,rfl,h1,f⟩:=hc;have old:=λb o e n hb=>
  f.old b o (I.base.keep b o e n hb<|T.V0 b) (I.base.free b o e n<|T.V0 b) (T.nf I e hb)
 have sm':=sm.trans f.same;refine XC.X3 (by rw[I.ok.frames,T.st]) T.fr (by rw[<-T.st];exact f.fl) λh' x1 x2=>⟨a,C,dd,H',B,rfl,hE C dd H' h1,f.os.trans I.os,f.bare,sm',?_,f.hok,x1,old⟩;refine Zz I T old x1.st (λb o e n hb=>?_) (λb o e n=>?_) sm' f.hok
 ·obtain⟨sl,e1⟩:=I.base.slot b o e n hb<|T.V0 b;obtain⟨sl',e2⟩:=f.un.slot b _ e1 (I.base.free b o e n<|T.V0 b) (T.sub hb)<|λz=>nomatch z;obtain⟨sl3,e3⟩:=x2 b _ e2 (by have z:=qQ.Z2 I e hb;exact z);exact⟨sl3,e3⟩
 ·obtain⟨o',e1⟩:=I.base.there b o e<|T.V0 b;exact f.un.free b o' e1 (I.base.free b o e n<|T.V0 b)<|λz=>nomatch z
theorem Inv.Wk(I:Inv X pins σ H s)(ha:H a=some (.ext φ))(h0:X.H₀ a=none):Inv X pins σ (λb=>if b=a then none else H b) s:=by
 have up:∀{b} {u},b≠a->H b=some u->(λb=>if b=a then none else H b) b=some u:=λhb q=>by show(if _ then _ else _)=_;rw[if_neg hb];exact q
 have nn:∀{b},H b=none->(λb=>if b=a then none else H b) b=none:=λq=>by show(if _ then _ else _)=_;split;rfl;exact q
 have z0:∀{b} {u},X.H₀ b=some u->b≠a:=λq z=>by rw[z,h0] at q;cases q
 refine⟨I.ok,I.os,I.bare,⟨I.base.keep,I.base.slot,λb o e n hx=>nn<|I.base.free b o e n hx,I.base.there,λb xs q=>up (z0 q)<|I.base.tups b xs q,λb o u q=>up (z0 q)<|I.base.tM b o u q,λb ps q=>?_,λb qs q=>up (z0 q)<|I.base.tabs b qs q⟩,I.loc,I.cell,nn I.free,λx c e=>?_,λp hp=>?_,λb u e=>?_,I.len⟩
 ·obtain⟨more,e⟩:=I.base.wG b ps q;exact⟨more,up (z0 q) e⟩
 ·rcases I.mD x c e with q|⟨q1,o,u,q2⟩
  ·exact .inl<|nn q
  ·by_cases z:c=a
   ·exact .inl (by show(if _ then _ else _)=_;rw[if_pos z])
   ·exact .inr ⟨q1,o,u,up z q2⟩
 ·obtain⟨e,n,ne,nf,d⟩:=I.pin p hp;exact⟨e,nn n,ne,nf,d⟩
 ·by_cases z:b=a
  ·exfalso;have e':=e;rw[if_pos z] at e';cases e'
  ·have e':=e;rw[if_neg z] at e';refine(I.hok b u e').stay (λ_ _ _ q=>q) (λc q=>up (λy=>by rw[y,ha] at q;cases q) q) (λc xs q=>up (λy=>by rw[y,ha] at q;cases q) q) λc o' u' vs hd q=>up (λy=>by rw[y,ha] at q;cases q) q
abbrev JC(e:Addr)(o:Obj):HO:=.ext λh=>h.get? e=some o
theorem U7(q:h.get? e=some o):gf P w H h e (JC e o):=⟨q,⟨o,q⟩,λh1 h2 p k=>k o p⟩
theorem Inv.agp(I:Inv X pins σ H s)(he:H a=some (JC a o))(k:∀b ob,b≠a->s.heap.get? b=some ob->h'.get? b=some ob)(h1:h'.get? a=some { o with dict:=some dx })(h2:s.heap.get? dx=none)(h3:dx≠a)(h4:h'.get? dx=some od) :
  H dx=none/\Inv X pins σ (upd (upd H a (JC a { o with dict:=some dx })) dx (.tu od (.own dx))) { s with heap:=h',toks:=tk }:=by
 have hdx:H dx=none:=by
  cases q:H dx with
  | none=>rfl
  | some u=>
   obtain⟨v,hv⟩:=(I.hok dx u q).obj;rw[h2] at hv;cases hv
 refine⟨hdx,?_⟩;have up:∀{b} {u},b≠a->H b=some u->upd (upd H a<|JC a { o with dict:=some dx }) dx (.tu od<|.own dx) b=some u:=λ{b u} z q=>by rw[bC (cV q hdx),bC z];exact q
 have na:∀{b},H b=none->b≠a:=λq z=>by rw[z,he] at q;cases q
 refine I.step (ch:=[]) (λ_ z=>nomatch z) (λb ob _ _ _ e n=>k b ob (na n) e) (λb ob _ _ _ e n=>⟨ob.slots,k b ob (na n) e⟩) (λb ob _ e n=>?_) (λb ob _ e=>?_) (λb xs q=>up (λz=>by rw[z,he] at q;cases q) q) (λb ob u q=>up (λz=>by rw[z,he] at q;cases q) q) (λb ps q=>⟨#[],by rw[up (λz=>by rw[z,he] at q;cases q) q];simp⟩) (λm hn=>?_) (λb u q=>?_) I.bare<|λb qs q=>up (λz=>by rw[z,he] at q;cases q) q
 ·rw[bC (λz=>by rw[z,h2] at e;cases e),bC<|na n];exact n
 ·by_cases z:b=a
  ·exact⟨_,by rw[z];exact h1⟩
  ·exact⟨ob,k b ob z e⟩
 ·obtain⟨oL,es,ep,hoL,r⟩:=hn;exact⟨oL,es,ep,k _ _ (na I.free) hoL,r⟩
 ·by_cases zd:b=dx
  ·subst zd;rw[aY] at q;cases q;exact⟨h4,od,h4⟩
  ·rw[bC zd] at q;by_cases z:b=a
   ·subst z;rw[aY] at q;cases q;exact U7 h1
   ·rw[bC z] at q;refine(I.hok b u q).stay (λc ob hc e=>k c ob (λy=>?_) e) (λc y=>up (λx=>by rw[x,he] at y;cases y) y) (λc xs y=>up (λx=>by rw[x,he] at y;cases y) y) λc _ _ _ _ y=>up (λx=>by rw[x,he] at y;cases y) y;rcases hc with hc|hc
    ·exact z<|hc ▸ y
    ·rw[y,he] at hc;cases hc
theorem Inv.T6(I:Inv X pins σ H s)(T:qQ X)(h:s.heap.get? a=none):X.s₀.heap.get? a=none:=by
 cases q:X.s₀.heap.get? a with
 | none=>rfl
 | some o=>
  obtain⟨o',e⟩:=I.base.there a o q<|T.V0 a;rw[h] at e;cases e
theorem Inv.none_of(I:Inv X pins σ H s)(h:s.heap.get? a=none):H a=none:=by
 cases q:H a with
 | none=>rfl
 | some u=>
  obtain⟨v,hv⟩:=(I.hok a u q).obj;rw[h] at hv;cases hv
theorem Inv.laidN(I:Inv X pins σ H s)(k:∀b ob,s.heap.get? b=some ob->h'.get? b=some ob)(h2:s.heap.get? a=none)(new:gf X.prog X.w (upd H a o) h' a o):Inv X pins σ (upd H a o) { s with heap:=h',toks:=tk }:=by
 have hn:=I.none_of h2;have up:∀{b} {u},H b=some u->upd H a o b=some u:=λq=>by rw[bC (cV q hn)];exact q
 refine I.step (ch:=[]) (λ_ z=>nomatch z) (λb ob _ _ _ e _=>k b ob e) (λb ob _ _ _ e _=>⟨ob.slots,k b ob e⟩) (λb ob _ e n=>by rw[bC (λz=>by rw[z,h2] at e;cases e)];exact n) (λb ob _ e=>⟨ob,k b ob e⟩) (λb xs q=>up q) (λb ob u q=>up q) (λb ps q=>⟨#[],by rw[up q];simp⟩) (λm hn=>?_) (λb u q=>?_) I.bare<|λb qs q=>up q
 ·obtain⟨oL,es,ep,hoL,r⟩:=hn;exact⟨oL,es,ep,k _ _ hoL,r⟩
 ·by_cases z:b=a
  ·subst z;rw[aY] at q;cases q;exact new
  ·rw[bC z] at q;exact(I.hok b u q).stay (λc ob _ e=>k c ob e) (λc y=>up y) (λc xs y=>up y) λc _ _ _ _ y=>up y
end
end L2
namespace Ev
open PySem PySem.Spec PyProof.Rows L2
def z8:D->Bool
 | .lst _=>true
 | .dct _=>true
 | .mZ _=>true
 | _=>false
theorem acu{K:Fg}(h:z8 d=false)(o:kj K F H d a):False:=by cases d<;>first|exact o.elim|cases h
def FX(R:D->Hp->Prop)(C:Cfg)(Pr F:Hp):Out->Prop
 | .rt true d env'=>z8 d=false/\∀σ' H' F',Rel C Pr F' env' σ' H'->aQ F F'->R d H'
 | _=>True
theorem FX.mono{R:D->Hp->Prop}{Pr F F1:Hp}(s:aQ F F1)(h:FX R C Pr F o):FX R C Pr F1 o:=by
 unfold FX at h ⊢;split
 ·exact⟨h.1,λσ' H' F' r t=>h.2 σ' H' F' r<|s.trans t⟩
 ·trivial
def tX(R:D->Hp->Prop)(C:Cfg)(ev:cu):TS:=λD σ H=>∃(Pr F:Hp) (env:Env),Rel C Pr F env σ H/\Fin C Pr F D (ev env)/\FX R C Pr F (ev env)
def PR(R:D->Hp->Prop)(X:Cx)(C:Cfg)(st:Stmt)(ev:cu):Prop:=PS X st (tX R C ev)
def PRs(R:D->Hp->Prop)(X:Cx)(C:Cfg)(st:List Stmt)(ev:cu):Prop:=Gm X st (tX R C ev)
section
variable{R:D->Hp->Prop}{X:Cx}{C:Cfg}{pos:Pos}
theorem Tq{st:Stmt}(h:PS X.xn st t):PS X st t:=λpins s σ H D I hw=>by
 refine Qxk (h pins s σ H D (I.wish _) hw) (λf s1 q=>?_) λ_ _ z=>False.elim z;cases f with
 | next=>exact let ⟨σ',H',J,z⟩:=q;⟨σ',H',J.gr,z⟩
 | brk=>exact let ⟨σ',H',J,z⟩:=q;⟨σ',H',J.gr,z⟩
 | cont=>exact let ⟨σ',H',J,z⟩:=q;⟨σ',H',J.gr,z⟩
 | ret u=>exact let ⟨v,σ',H',J,z⟩:=q;⟨v,σ',H',J.gr,z⟩
theorem TV(h:PA X.xn es t):PA X es t:=λpos pins s σ H Q I hw=>
 Qxk (h pos pins s σ H Q (I.wish _) hw) (λ_ _ ⟨v,H',I',r,q⟩=>⟨v,H',I'.gr,r,q⟩) λ_ _ z=>False.elim z
theorem ZS{st:Stmt}(h:Lq X.xn C st ev):PR R X C st ev:=(Tq h).imp λD σ H ⟨Pr,F,env,r,f,_⟩=>⟨Pr,F,env,r,f⟩
theorem zF{st:List Stmt}(h:su X.xn C st ev):PRs R X C st ev:=(Gm.xn h).imp λD σ H ⟨Pr,F,env,r,f,_⟩=>⟨Pr,F,env,r,f⟩
theorem yK{st:Stmt}(h1:PR R X C st a):PRs R X C [st] a:=Eo h1
theorem zG{st:Stmt}{rest:List Stmt}(h1:PR R X C st a)(h2:PRs R X C rest b):PRs R X C (st::rest) (aM a b):=(HB h1 h2).imp λD σ H h=>by
 obtain⟨Pr,F,env,r,f,x⟩:=h;refine⟨Pr,F,env,r,?_⟩;unfold aM at f x;cases e:a env with
 | nx e1=>rw[e] at f x;exact⟨λσ' H' F' r' s'=>⟨Pr,F',e1,r',f.mono s',x.mono s'⟩,trivial⟩
 | rt o d e1=>rw[e] at f x;cases o<;>exact⟨f,x⟩
 | bk e1=>rw[e] at f x;exact⟨f,x⟩
 | ct e1=>rw[e] at f x;exact⟨f,x⟩
 | stuck=>rw[e] at f;exact f.elim
theorem ZV(hc:PXT X.xn C c t)(ha:PRs R X C a ea)(hb:PRs R X C b eb):PR R X C (.If c a b pos) (eQ t ea eb):=(ZQ (PT.xn hc) ha hb).imp λD σ H h=>by
 obtain⟨Pr,F,env,r,f,x⟩:=h;obtain⟨k,e1,e2,f1⟩:=dW f;have x1:FX R C Pr F (if k=true then ea e1 else eb e1):=by unfold eQ at x;rw[e2] at x;exact x
 refine⟨Pr,F,env,e1,k,r,e2,λH1 F1 r1 s1=>?_⟩;cases k with
 | true=>exact⟨Pr,F1,e1,r1,f1.mono s1,x1.mono s1⟩
 | false=>exact⟨Pr,F1,e1,r1,f1.mono s1,x1.mono s1⟩
end
def exV:D->Option V
 | .non=>some .non
 | .int n=>some (.int n)
 | _=>none
def tO(t:Str)(d:D)(dd:Option Addr)(H:Hp):Prop:=match d with
 | .tup [d]=>∃(v:V) (w:Value) (dx:Addr) (od:Obj) (m:Str->Option Value),exV d=some v/\RelV v w/\dd=some dx/\H dx=some (.tu od (.own dx))/\(∀h:Heap,h.get? dx=some od->h.Ns dx m)/\m t=some w
 | _=>dd=none
def Gn(H:Hp)(dd:Option Addr):Prop:=∀dx,dd=some dx->H dx=none
abbrev Q3(P:Program)(w:World)(K:Fg)(mg:Str->Option Value)(base:Heap)(N:List Str)(qual:Str)(st:Stmt)(f:Addr)(cdv:Value)(A:Around)(outer:List PySem.Env)(s:Shared)(H:Hp)(E:XK):Cx:=FN (Wb P w) P w K mg base N qual (aG st) f cdv A outer s H E
def EC(cl:Addr)(t:Str)(d:D)(H0:Hp):XK:=λv dd H=>v = .ref cl/\tO t d dd H/\Gn H0 dd
def ZJ(K:Fg)(n:Nat)(c:List D->Option D)(cl:Addr)(t:Str):Sp:=λvs H _ E=>∃(F:Hp) (ds:List D) (d:D),ds.length=n/\aQ F H/\bL K F ds vs/\c ds=some d/\∀dd H',tO t d dd H'->Gn H dd->E (.ref cl) dd H'
def Bw(n:Nat)(ev:cu)(ds:List D):Option D:=match ev (envOf n ds) with
 | .rt true d _=>if z8 d=true then none else some d
 | _=>none
def tEX(R:D->Hp->Prop)(C:Cfg)(c:Ev):TE:=λσ H _=>∃(Pr F:Hp) (env env':Env) (d:D),Rel C Pr F env σ H/\c env = .ok d env'/\∀H' F',Rel C Pr F' env' σ H'->aQ F F'->R d H'
def PXX(R:D->Hp->Prop)(X:Cx)(C:Cfg)(e:Expr)(c:Ev):Prop:=PE X e (tEX R C c)
def QV(P:Program)(w:World)(K:Fg)(mg:Str->Option Value)(base:Heap)(x:Str)(k:Nat)(ps:List Str)(sp:Sp):Prop:=
 ∃f fd,n6 P w K mg base (Wb P w) k f fd ps sp/\mg x=some (.ref f)/\PySem.W.keepIn K (.ref f)=true/\Binds K fd ps []
abbrev RX(H:Hp)(d:D):D->Hp->Prop:=λd' H'=>d'=d/\aQ H H'
section
variable{P:Program}{w:World}{K:Fg}{mg:Str->Option Value}{base:Heap}{x qual t:Str}{st:Stmt}{f:Addr}{fd:FuncData}{N ps:List Str}{k:Nat}{ev:cu}{cdv:Value}{A:Around}{outer:List PySem.Env}{s:Shared}{H:Hp}{E:XK}{cl:Addr}{d:D}{R:D->Hp->Prop}{X:Cx}{C:Cfg}{pos p:Pos}{e:Expr}{es:List Expr}{c:Ev}{n:Nat}
theorem Dy:qQ (Q3 P w K mg base N qual st f cdv A outer s H E):=⟨rfl,rfl,rfl⟩
theorem CT(F:cX K mg x st ps)(S:bA N ps (aG st))(cl)(t)
  (hb:∀f cdv A outer s H E d,gY k (A.deeper (envOfC x (aG st) s.heap.objs.size f cdv))->(∀dd H',tO t d dd H'->Gn H dd->E (.ref cl) dd H')->Good (bx P w K mg base N x st f cdv A outer s H E) (C0 K)->
   PRs (RX H d) (Q3 P w K mg base N x st f cdv A outer s H E) (C0 K) (cH st) ev) :
  QV P w K mg base x (k+1) ps (ZJ K ps.length (Bw N.length ev) cl t):=by
 obtain⟨f,fd,h1,h2,h3⟩:=F;have kp:=h1.kp;refine⟨f,fd,?_,h2,kp,h3⟩;obtain⟨oc,od,kV,doc,pm,an,cdv,ct,osl,rfl,lk,hcd⟩:=h1.ex;refine aaj lk hcd S (λvs H Q E h=>?_)<|λA outer s H vs Q E hr h=>?_
 ·obtain⟨F0,ds,d,hl,_,p,_⟩:=h;rw[p.length,hl]
 ·obtain⟨F0,ds,d,hl,sF,p,e,q⟩:=h;refine⟨_,hb f cdv A outer s H E d hr q<|vC rfl hr,Dd H F0,F0,envOf N.length ds,wY sF p,?_⟩;unfold Bw at e;split at e
  ·rename_i d' env' h1;rw[h1];split at e
   ·cases e
   ·rename_i ho;cases e;have ho':z8 d=false:=by cases z:z8 d with|false=>rfl|true=>exact absurd z ho
    exact⟨λa σ' H' F' r' s' n'=>(acu ho' n'.own).elim,ho',λσ' H' F' r' s'=>⟨rfl,aQ.Ew r'.pr s' r'.fr sF⟩⟩
  ·cases e
theorem Wd(hE:∀dd H',tO t d dd H'->Gn H dd->E (.ref cl) dd H')(pins)(σ:L2.St)(H0 H1)(s1)(b)(d')(dd)(oe)(fs)(I:Inv (Q3 P w K mg base N qual st f cdv A outer s H E) pins σ H1 s1)(r:RX H d d' H0)(sm:aQ H0 H1)
  (v:tO t d' dd H1) (nw:Gn H dd) (hn:H1 b=none) (hw:s.heap.get? b=none) (he:s1.heap.get? b=some oe) (hc:oe.cls = .ref cl) (hdd:oe.dict=dd) (hd:oe.data = .fields fs) (h1:fs[1]? = some .none):(Q3 P w K mg base N qual st f cdv A outer s H E).xe (.ref b) s1:=
 Inv.leave I Dy (r.2.trans sm) (hE _ _ (r.1 ▸ v) nw) hn hw he hc hdd hd h1
theorem adW(hE:∀dd H',tO t d dd H'->Gn H dd->E (.ref cl) dd H')(pins)(σ:L2.St)(H1)(s1)(e)(s')(d')(I:Inv (Q3 P w K mg base N qual st f cdv A outer s H E) pins σ H1 s1)(r:RX H d d' H1)
  (m:Wb P w (Q3 P w K mg base N qual st f cdv A outer s H E).stack H1 s1 (EC cl t d' H1) e s'):(Q3 P w K mg base N qual st f cdv A outer s H E).xe e s':=
 I.X5 Dy r.2 (λC dd H' z=>by obtain⟨z,y,nw⟩:=z;cases z;exact hE _ _ (r.1 ▸ y) λdx e=>r.2.free<|nw dx e) m
def qx(cc:List D->Option D)(a:dG):Ev:=λenv=>bindR (a env) λds aD=>match cc ds with
 | some d=>.ok d aD
 | none=>.stuck
theorem Sx(G:QV X.prog X.w X.K X.mg X.base x k ps (ZJ C.K n cc cl t))(hr:gY k X.A)(hg:Gl X x)(ha:Om X.xn C (e::es) a)
  (hn:∀env ds env',a env = .ok ds env'->ds.length=n)
  (hxe:∀pins (σ:L2.St) H s e s' d,Inv X pins σ H s->R d H->Wb X.prog X.w X.stack H s (EC cl t d H) e s'->X.xe e s')
  (hdb:lr x:=by decide) (he:starEach (e::es) X.env=(false,eval e X.env)::starEach es X.env:=by rfl) (hpl:(backTo pos (starEach es X.env)).any (·.1)=false:=by rfl) :
  PXX R X C (.Call (.Name x p) (e::es) [] pos) (qx cc a):=by
 intro pins s σ H Q I h;obtain⟨Pr,F,env,env',d,r,e1,q⟩:=h;obtain⟨f,fd,G,hm,hk,hb⟩:=G;obtain⟨ds,aD,e2,e3⟩:=aR e1;split at e3
 ·rename_i d0 hc;cases e3;refine wpAny_Call_Name_kw<|vh I hg hm ?_ hdb;refine PySem.W.callWith_K I.ok.mod.Jz hk (g8 (TV ha pos pins s σ H (λvs H1=>ZJ C.K n cc cl t vs H1 Q (EC cl t d H1)/\R d H1) I
   ⟨Pr,F,env,env',ds,r,e2,λvs H' F' r' s' p'=>⟨⟨F',ds,d,hn _ _ _ e2,r'.fr,p',hc,λdd H' z nw=>⟨rfl,z,nw⟩⟩,q H' F' r' s'⟩⟩) λus s1 ⟨vs,H1,I1,rv,q1,hR⟩=>⟨I1.JB,?_⟩) he hpl
  have hl:us.length=ps.length:=by rw[<-rv.length];exact G.len _ _ _ _ q1
  have hb':=hb s1 us I1.JB (by rw[Qx4];exact hl);rw[Qx4] at hb';refine wpAny_call<|Qj8 (G.run X.A X.stack s1 H1 ⟨us,[]⟩ us vs Q (EC cl t d H1) hr I1.env0 hb' rv q1) λr s' hq=>?_;cases r with
  | error e=>exact hxe pins σ H1 s1 e s' d I1 hR hq
  | ok fl=>
   cases fl with
   | ret u=>exact I1.after hq
   | next=>exact False.elim hq
   | brk=>exact False.elim hq
   | cont=>exact False.elim hq
 ·cases e3
def Ry(c:Ev)(ev:cu):cu:=λenv=>match c env with
 | .ok d aD=>.rt true d aD
 | _=>ev env
theorem abH(h:PXX R X C e c)(hn:Lq X.xn C (.Expr e pos) ev)(hs:swapsWith e none pos.line X.env=pure false:=by rfl):PR R X C (.Expr e pos) (Ry c ev):=λpins s σ H D I z=>by
 obtain⟨Pr,F,env,r,f,y⟩:=z;unfold Ry at f y;split at f
 ·rename_i d aD e1;rw[e1] at y;exact Ep h hs pins s σ H D I ⟨Pr,F,env,aD,d,r,e1,λH' F' r' s'=>y.2 σ H' F' r' s'⟩
 ·exact Tq hn pins s σ H D I ⟨Pr,F,env,r,f⟩
end
end Ev
namespace L2
open PySem PySem.Spec PyProof.Rows
theorem agv{P:Program}{w:World}{fs:List Addr}{H H':Hp}{h B h':Heap}(old:∀b o,h.get? b=some o->H b=none->b ∉ fs->B.get? b=some o)(st:B.StaysIn h')
  (slot:∀b o,h.get? b=some o->H b=none->b∈fs->∃sl,h'.get? b=some { o with slots:=sl }) (free:∀b o,h.get? b=some o->H b=none->H' b=none)
  (sm:aQ H H') (hok:qO P w H' B):Un fs [] H H' h h' where
 keep:=λb o e n hb _=>st b o<|old b o e n hb
 slot:=λb o e n hb _=>slot b o e n hb
 free:=λb o e n _=>free b o e n
 there:=λb o e _=>by
  cases n:H b with
  | none=>
   by_cases hb:b∈fs
   ·obtain⟨sl,q⟩:=slot b o e n hb;exact⟨_,q⟩
   ·exact⟨o,st b o<|old b o e n hb⟩
  | some u=>
   obtain⟨v,hv⟩:=(hok b u<|sm b u n).obj;exact⟨v,st b v hv⟩
 tups:=λb xs q=>sm b _ q
 tM:=λb o u q=>sm b _ q
 wG:=λb ps q=>⟨#[],by rw[sm b _ q];simp⟩
 tabs:=λb qs q=>sm b _ q
section
variable{X:Cx}{pins:List (Addr×Obj)}{σ:St}{H H':Hp}{s s':Shared}{a C:Addr}{t:Option Addr}{B h':Heap}
theorem Inv.caught(I:Inv X pins σ H s)(f:v9 X.prog X.w X.stack H s C a t H' B s')(fl:XC.Fl B X.stack a (.ref C) t Pv h')(up:s'.heap.UpToSlots h'):Inv X pins σ H' { s' with heap:=h' }:=by refine I.call' f.os (agv f.old fl.st (λb o e n hb=>?_) (λb o e n=>f.un.free b o e n<|λz=>nomatch z) f.same f.hok) (f.hok.kept fl.st) f.bare<|λb z=>nomatch z;obtain⟨sl,e1⟩:=f.un.slot b o e n hb<|λz=>nomatch z;obtain⟨_,o',e2,hd⟩:=f.fl.fr.mem hb;rw[e1] at e2;cases e2;obtain⟨sl',e3⟩:=up b _ e1 hd;exact⟨sl',e3⟩
theorem v9.new(f:v9 X.prog X.w X.stack H s C a t H' B s'):H' a=none:=by
 cases q:H' a with
 | none=>rfl
 | some u=>
  obtain⟨v,hv⟩:=(f.hok a u q).obj;rw[f.fl.ne] at hv;cases hv
theorem v9.ne(f:v9 X.prog X.w X.stack H s C a t H' B s')(e:s.heap.get? b=some o)(n:H b=none)(hb:b ∉ frs X.stack):b≠a:=λz=>by
 have:=f.old b o e n hb;rw[z,f.fl.ne] at this;cases this
theorem v9.acr(f:v9 X.prog X.w X.stack H s C a t H' B s'):a ∉ frs X.stack:=λhb=>by
 obtain⟨_,o',e2,hd⟩:=f.fl.fr.mem hb;obtain⟨oe,vs,h1,_,_,h3,_⟩:=f.fl.ob;rw[e2] at h1;cases h1;exact hd _ h3
theorem Inv.known(T:qQ X)(I:Inv X pins σ H s)(f:v9 X.prog X.w X.stack H s C a t H' B s')(J:Inv X pins σ H' { s' with heap:=h' })(ho:h'.get? a=some oe) :
  Inv X pins σ (upd H' a (.tu oe (.own a))) { s' with heap:=h' }:=by
 have hn:=f.new;have hnf:=f.acr;have nL:a≠X.env.locals:=λz=>hnf (by rw[T.st];unfold frs;rw[Qz5,T.fr,z];exact Qqk);have up:∀{b} {u},H' b=some u->upd H' a (.tu oe<|.own a) b=some u:=λ{b u} q=>by rw[bC (cV q hn)];exact q
 have un:∀{b},H' b=none->b≠a->upd H' a (.tu oe<|.own a) b=none:=λ{b} q z=>by rw[bC z];exact q
 refine⟨J.ok,J.os,J.bare,⟨J.base.keep,J.base.slot,λb o e n hx=>un (J.base.free b o e n hx) ?_,J.base.there,λb xs q=>up<|J.base.tups b xs q,λb o u q=>up<|J.base.tM b o u q,λb ps q=>?_,λb qs q=>up<|J.base.tabs b qs q⟩,J.loc,J.cell,un J.free<|Ne.symm nL,λx c e=>?_,λp hp=>?_,λb u e=>?_,J.len⟩
 ·by_cases hb:b∈X.fs
  ·exact λz=>hnf<|z ▸ T.sub hb
  ·exact f.ne (I.base.keep b o e n hb hx) (I.base.free b o e n hx)<|T.nf I e hb
 ·obtain⟨more,e⟩:=J.base.wG b ps q;exact⟨more,up e⟩
 ·rcases J.mD x c e with q|⟨q1,o,u,q2⟩
  ·refine .inl<|un q λz=>?_;obtain⟨v,oc,hc,_⟩:=I.cell x c e;have n1:H c=none:=by
    cases q1:H c with
    | none=>rfl
    | some u=>rw[f.same c u q1] at q;cases q
   exact f.ne hc n1 (z ▸ hnf) z
  ·exact .inr ⟨q1,o,u,up q2⟩
 ·obtain⟨e,n,ne,nf,d⟩:=J.pin p hp;obtain⟨e',n',_,_,_⟩:=I.pin p hp;refine⟨e,un n<|f.ne e' n' λhm=>?_,ne,nf,d⟩;rw[T.st] at hm;unfold frs at hm;rw[Qz5,T.fr] at hm;rcases Qq3.mp hm with z|z
  ·exact ne z
  ·exact nf z
 ·by_cases hb:b=a
  ·subst hb;rw[aY] at e;cases e;exact⟨ho,oe,ho⟩
  ·rw[bC hb] at e;exact(J.hok b u e).stay (λ_ _ _ q=>q) (λc q=>up q) (λc xs q=>up q) λc _ _ _ _ q=>up q
theorem Inv.gone(I:Inv X pins σ H s)(hl:∀(i:Nat) x v,X.N[i]? = some x->σ[i]? = some (some v)->wg X.env.scope x->∃u,RelV v u/\Look X.env s.heap m x u)
  (hn:h'.Ns X.env.locals (λx=>if x=n then v else m x)) (hs:Heap.SameBut X.env.locals s.heap h') (no:∀(i:Nat) v,X.N[i]? = some n->σ[i]? = some (some v)->False):Inv X pins σ H { s with heap:=h',toks:=tk }:=by
 have nl:∀{b} {o},X.s₀.heap.get? b=some o->b≠X.env.locals:=λe=>Qwj<|Qw0 (Qq9 e) I.ok.above;refine⟨I.ok,I.os,I.bare,⟨λb o e q hb hx=>(hs.2 b<|nl e).trans<|I.base.keep b o e q hb hx,λb o e q hb hx=>?_,I.base.free,λb o e hx=>?_,I.base.tups,I.base.tM,I.base.wG,I.base.tabs⟩,⟨_,hn,λi x u e1 e2 e3=>?_⟩,λy c e=>?_,I.free,I.mD,λp hp=>?_,?_,I.len⟩
 ·obtain⟨sl,e1⟩:=I.base.slot b o e q hb hx;exact⟨sl,(hs.2 b<|nl e).trans e1⟩
 ·obtain⟨o',e1⟩:=I.base.there b o e hx;exact⟨o',(hs.2 b<|nl e).trans e1⟩
 ·obtain⟨u',r',q⟩:=hl i x u e1 e2 e3;refine⟨u',r',?_⟩;rcases q with ⟨k,e⟩|⟨k,c,e,z⟩
  ·refine .inl ⟨k,?_⟩;have:x≠n:=λz=>no i u (z ▸ e1) e2;simp[this,e]
  ·exact .inr ⟨k,c,e,z.sameBut hs<|I.Yv x c e⟩
 ·obtain⟨w',z⟩:=I.cell y c e;exact⟨w',z.sameBut hs<|I.Yv y c e⟩
 ·obtain⟨e,n,ne,nf,d⟩:=I.pin p hp;exact⟨(hs.2 p.1 ne).trans e,n,ne,nf,d⟩
 ·exact qO.stays I.hok λb u q e=>(hs.2 b λz=>q<|z ▸ I.free).trans e
abbrev Cx.suite(X:Cx)(v:Value):Cx:={ X with A:=X.A.mark (some v),calm:=false,xe:=λ_ _=>False }
theorem Inv.suite(I:Inv X pins σ H s)(v):Inv (X.suite v) pins σ H s:=
 ⟨⟨I.ok.mod,I.ok.kind,I.ok.glob,I.ok.blt,I.ok.above,I.ok.inj,I.ok.has,I.ok.cab,(λz=>nomatch z),I.ok.frames,I.ok.stk,I.ok.exf,I.ok.bs,I.ok.V4,I.ok.Qf,I.ok.Qv,I.ok.vK,I.ok.frf⟩,I.os,I.bare,I.base,I.loc,I.cell,I.free,I.mD,I.pin,I.hok,I.len⟩
theorem Inv.behind(K:X.Ok)(I:Inv (X.suite v) pins σ H s):Inv X pins σ H s:=
 ⟨K,I.os,I.bare,I.base,I.loc,I.cell,I.free,I.mD,I.pin,I.hok,I.len⟩
end
end L2
namespace Ev
open PySem PySem.Spec PyProof.Rows L2
def xcV(n t:Str)(d:D):D:=match d with
 | .tup [d]=>.clo (.Nonlocal [n,t] ⟨0,0,0,0⟩) [d]
 | _=>.clo (.Nonlocal [n] ⟨0,0,0,0⟩) []
theorem We{K:Fg}(hn:PySem.W.nsIn K mainGlobals n=some (some (.ref c)))(ha:F a=some (.tu o u))(hc:o.cls = .ref c)(hd:o.data = .fields fs)(hv:tO t d o.dict F):Rep K F (xcV n t d) (.ref a):=by
 by_cases z:∃d0,d = .tup [d0]
 ·obtain⟨d0,rfl⟩:=z;obtain⟨v,w,dx,od,m,h1,h2,h3,h4,h5,h6⟩:=hv;refine⟨a,[v],rfl,.inr<|.inr ⟨n,[t],_,o,u,c,fs,rfl,hn,ha,hc,hd,.inr ⟨t,v,w,dx,od,_,m,rfl,rfl,h2,h3,h4,h5,h6⟩⟩,?_⟩;have:Rep K F d0 v:=by
   unfold exV at h1;split at h1<;>cases h1<;>rfl
  exact⟨v,[],rfl,this,rfl⟩
 ·have e:xcV n t d = .clo (.Nonlocal [n] ⟨0,0,0,0⟩) []:=by
   unfold xcV;split
   ·rename_i d0;exact absurd ⟨d0,rfl⟩ z
   ·rfl
  rw[e];exact⟨a,[],rfl,.inr<|.inr ⟨n,[],_,o,u,c,fs,rfl,hn,ha,hc,hd,.inl ⟨rfl,rfl⟩⟩,rfl⟩
theorem Rel.drop{Pr F:Hp}(r:Rel C Pr F env σ H)(hfx:C.fx i=none)(he:∀x,env[i]? ≠ some (some x)):Rel C Pr F env (σ.set i none) H:=by
 have g:∀j x v,env[j]? = some (some x)->σ[j]? = some v->(σ.set i none)[j]? = some v:=λj x v e q=>by
  rw[Qq6 (λz:i=j=>by subst z;exact he x e)];exact q
 have g':∀j x v,env[j]? = some (some x)->(σ.set i none)[j]? = some (some v)->σ[j]? = some (some v):=λj x v e q=>by
  rw[Qq6 (λz:i=j=>by subst z;exact he x e)] at q;exact q
 refine⟨r.pr,r.fr,by rw[Qxw];exact r.len,λj d e=>?_,λj d e=>?_,λj k d e a h1 h2 h3 h4=>r.apart j k d e a h1 h2 (g' _ _ _ h1 h3)<|g' _ _ _ h2 h4,r.dj,λj a e=>?_⟩
 ·obtain⟨v,h1,h2⟩:=r.val j d e;exact⟨v,g _ _ _ e h1,h2⟩
 ·obtain⟨a,h1,h2⟩:=r.own j d e;exact⟨a,g _ _ _ e h1,h2⟩
 ·rw[Qq6 (λz:i=j=>by subst z;rw[hfx] at e;cases e)];exact r.fix j a e
theorem Rel.held{Pr F:Hp}(r:Rel C Pr F env σ H)(s:aQ H H')(v:tO t d dd H')(nw:Gn H dd):∃F',Rel C Pr F' env σ H'/\aQ F F'/\tO t d dd F':=by
 by_cases z:∃d0,d = .tup [d0]
 ·obtain⟨d0,rfl⟩:=z;obtain⟨v,w,dx,od,m,h1,h2,h3,h4,h5,h6⟩:=v;have hn:=nw dx h3;obtain⟨r2,s2⟩:=Rel.new r hn;refine⟨_,r2.grow λb o e=>?_,s2,v,w,dx,od,m,h1,h2,h3,aY,h5,h6⟩;by_cases y:b=dx
  ·subst y;rw[aY] at e;cases e;exact h4
  ·rw[bC y] at e;exact s b o e
 ·refine⟨F,r.grow s,aQ.refl F,?_⟩;unfold tO at v ⊢;split
  ·rename_i d0;exact absurd ⟨d0,rfl⟩ z
  ·split at v
   ·rename_i h _ _ ;exact absurd ⟨_,rfl⟩ z
   ·exact v
theorem tO.mono(v:tO t d dd F)(s:aQ F F'):tO t d dd F':=by
 unfold tO at v ⊢;split at v
 ·obtain⟨v,w,dx,od,m,h1,h2,h3,h4,h5,h6⟩:=v;exact⟨v,w,dx,od,m,h1,h2,h3,s _ _ h4,h5,h6⟩
 ·exact v
section
variable{X:Cx}{C:Cfg}{pos p:Pos}{x t:Str}{e:Expr}{es:List Expr}{c:Ev}{m k:Nat}{cl:Addr}
def adz(X:Cx)(C:Cfg)(st:Stmt)(c:Ev)(cl:Addr)(t:Str):Prop:=∀(pins:List (Addr×Obj)) (s:Shared) (σ:L2.St) (H Pr F:Hp) (env env':Env) (d:D) (E':Value->Shared->Prop),Inv X pins σ H s->Rel C Pr F env σ H->c env = .ok d env'->
 (∀(H1 F1:Hp) (s1:Shared) (v:Value) (s':Shared),Inv X pins σ H1 s1->Rel C Pr F1 env' σ H1->aQ F F1->Wb X.prog X.w X.stack H1 s1 (EC cl t d H1) v s'->E' v s')->wpAny (model X.prog X.w) X.A (exec st X.env) (λ_ _=>False) E' s
theorem R6(G:QV X.prog X.w X.K X.mg X.base x k ps (ZJ C.K m cc cl t))(hr:gY k X.A)(hg:Gl X x)(ha:Om X.xn C (e::es) a)
  (hn:∀env ds env',a env = .ok ds env'->ds.length=m) {σ:L2.St} {H Pr F:Hp} (I:Inv X pins σ H s) (r:Rel C Pr F env σ H) (e1:qx cc a env = .ok d env')
  (hxe:∀H1 F1 s1 v s',Inv X pins σ H1 s1->Rel C Pr F1 env' σ H1->aQ F F1->Wb X.prog X.w X.stack H1 s1 (EC cl t d H1) v s'->E' v s')
  (hdb:lr x:=by decide) (he:starEach (e::es) X.env=(false,eval e X.env)::starEach es X.env:=by rfl) (hpl:(backTo pos (starEach es X.env)).any (·.1)=false:=by rfl) :
  wpAny (model X.prog X.w) X.A (eval (.Call (.Name x p) (e::es) [] pos) X.env) (λ_ _=>False) E' s:=by
 obtain⟨f,fd,G,hm,hk,hb⟩:=G;obtain⟨ds,aD,e2,e3⟩:=aR e1;split at e3
 ·rename_i d0 hc;cases e3;refine wpAny_Call_Name_kw<|vh I hg hm ?_ hdb;refine PySem.W.callWith_K I.ok.mod.Jz hk (Qxk (ha pos pins s σ H (λvs H1=>∃F1,Rel C Pr F1 env' σ H1/\aQ F F1/\ZJ C.K m cc cl t vs H1 (λ_ _=>False) (EC cl t d H1)) (I.wish _)
   ⟨Pr,F,env,env',ds,r,e2,λvs H' F' r' s' p'=>⟨F',r',s',F',ds,d,hn _ _ _ e2,r'.fr,p',hc,λdd H' z nw=>⟨rfl,z,nw⟩⟩⟩) (λus s1 ⟨vs,H1,I1,rv,F1,r1,sF,q1⟩=>⟨I1.gr.JB,?_⟩) λ_ _ z=>False.elim z) he hpl
  have I1:=I1.gr;have hl:us.length=ps.length:=by rw[<-rv.length];exact G.len _ _ _ _ q1
  have hb':=hb s1 us I1.JB (by rw[Qx4];exact hl);rw[Qx4] at hb';refine wpAny_call<|Qj8 (G.run X.A X.stack s1 H1 ⟨us,[]⟩ us vs _ (EC cl t d H1) hr I1.env0 hb' rv q1) λr s' hq=>?_;cases r with
  | error e=>exact hxe H1 F1 s1 e s' I1 r1 sF hq
  | ok fl=>
   cases fl with
   | ret u=>obtain⟨_,_,_,_,_,_,_,z⟩:=hq;exact z.elim
   | next=>exact False.elim hq
   | brk=>exact False.elim hq
   | cont=>exact False.elim hq
 ·cases e3
theorem WR{y:Str}{pos' spos:Pos}(G:QV X.prog X.w X.K X.mg X.base x k ps (ZJ C.K m cc cl t))(hr:gY k X.A)(hg:Gl X x)(ha:Om X.xn C (e::es) a)
  (hn:∀env ds env',a env = .ok ds env'->ds.length=m) (hdb:lr x:=by decide) (he:starEach (e::es) X.env=(false,eval e X.env)::starEach es X.env:=by rfl) (hpl:(backTo pos (starEach es X.env)).any (·.1)=false:=by rfl)
  (hs:swapsWith (.Call (.Name x p) (e::es) [] pos) (some (.Name y pos')) spos.line X.env=pure false:=by rfl):adz X C (.Assign [.Name y pos'] (.Call (.Name x p) (e::es) [] pos) spos) (qx cc a) cl t:=
 λ_ _ _ _ _ _ _ _ _ _ I r e1 hxe=>wpAny_Assign_Name (g8 (R6 G hr hg ha hn I r e1 hxe hdb he hpl) λ_ _ z=>z.elim) hs
structure Below(K:Fg)(mg:Str->Option Value)(S cn:Str)(cl:Addr):Prop where
 at_:∃Sa,mg S=some (.ref Sa)/\XC.Cl K Sa/\PySem.W.typeIn K (.ref Sa)=some (.type "type")/\PySem.W.mroIn K cl (.ref Sa)=some true
 nm:PySem.W.nsIn K mainGlobals cn=some (some (.ref cl))
def Nq(cn t:Str)(d:D):Option D:=match d with
 | .clo (.Nonlocal [n,t'] _) [d0]=>if n=cn/\t'=t then some d0 else none
 | _=>none
theorem U4{d e:D}(h:Nq cn t d=some e):∃p,d = .clo (.Nonlocal [cn,t] p) [e]:=by
 unfold Nq at h;split at h
 ·split at h
  ·rename_i z;cases h;obtain⟨rfl,rfl⟩:=z;exact⟨_,rfl⟩
  ·cases h
 ·cases h
def Gk(K:Fg)(cn t:Str):Prop:=∀c,PySem.W.nsIn K mainGlobals cn=some (some (.ref c))->∃S,XC.Wa K c S t
theorem abU(r:RelV v w):PySem.handedOut w=pure w:=by
 cases v with
 | non=>cases r;rfl
 | bl b=>cases r;rfl
 | int i=>obtain⟨t,rfl⟩:=r;rfl
 | str i=>obtain⟨t,rfl⟩:=r;rfl
 | byt i=>obtain⟨t,rfl⟩:=r;rfl
 | flt i=>obtain⟨t,rfl⟩:=r;rfl
 | ref a=>cases r;rfl
 | ty n=>cases r;rfl
theorem Xb(hk:Gk X.K cn t)(hK:X.K=C.K)(ha:PX X C e a)(hb:attributeBase e t X.env (eval e X.env)=eval e X.env:=by rfl):PX X C (.Attribute e t pos) (gk (Nq cn t) a):=by
 intro pins s σ H Q I h;obtain⟨Pr,F,env,env',d,rl,e1,qq⟩:=h;obtain⟨d0,aD,e2,e3⟩:=aR e1;obtain⟨e4,rfl⟩:=cF e3;obtain⟨p0,rfl⟩:=U4 e4;refine YL hb<|g8 (ha pins s σ H (λv H1=>∃F1,Rel C Pr F1 env' σ H1/\aQ F F1/\Rep C.K F1 (.clo (.Nonlocal [cn,t] p0) [d]) v) I ⟨Pr,F,env,env',_,rl,e2,λv H1 F1 r1 s1 p1=>⟨F1,r1,s1,p1⟩⟩) λu s1 ⟨v,H1,I1,rv,F1,r1,sF,hr⟩=>?_;obtain⟨b,vs,rfl,q,hds⟩:=hr;rcases q with ⟨_,z⟩|⟨_,_,_,_,_,_,z,_⟩|⟨n',r',p',o,u',c,fs,z,h1,h2,h3,h4,h5⟩
 ·cases z
 ·cases z
 ·cases z;rcases h5 with ⟨z,_⟩|⟨x,v,w,dx,od,ud,m,hx,rfl,hrv,hdd,hF,hns,hm⟩
  ·cases z
  ·cases hx;cases rv;obtain⟨S,Z⟩:=hk c (by rw[hK];exact h1);obtain⟨hp,g,dr,tk,os⟩:=s1;have g1:=(I1.hok b _<|r1.fr _ _ h2).1;have g2:=(I1.hok dx _<|r1.fr _ _ hF).1;refine XC.load I1.JB Z g1 h3 hdd h4 (hns _ g2) hm (abU hrv) ⟨v,H1,I1.tok _,hrv,qq v H1 F1 r1 sF ?_⟩;obtain⟨v',vs',z1,z2,z3⟩:=hds;cases z1;exact z2
end
def agI(cl:Addr)(t:Str):TS:=λD σ H=>∃(e:Addr) (v:V) (o:Obj) (fs:Array Value),σ[0]? = some (some (.ref e))/\σ[1]? = some (some v)/\H e=some (JC e o)/\o.cls = .ref cl/\o.dict=none/\o.data = .fields fs/\
 ∀(dx:Addr) (od:Obj) (w:Value) (m:Str->Option Value),H dx=none->dx≠e->RelV v w->(∀h:Heap,h.get? dx=some od->h.Ns dx m)->m t=some w->D.nx σ (upd (upd H e (JC e { o with dict:=some dx })) dx (.tu od (.own dx)))
theorem abE(Z:XC.Wa X.K cl S t)(h0:X.N[0]? = some a)(h1:X.N[1]? = some b)(v0:wg X.env.scope a)(v1:wg X.env.scope b)(da:(a == "__debug__" )=false)(ca:(a == "__classdict__" )=false)(db:(b == "__debug__" )=false)(cb:(b == "__classdict__" )=false)
  (hs:swapsWith (.Name b p3) (some (.Attribute (.Name a p1) t p2)) p4.line X.env=pure false):PS X (.Assign [.Attribute (.Name a p1) t p2] (.Name b p3) p4) (agI cl t):=by
 intro pins s σ H D I h;obtain⟨e,v,o,fs,e0,e1,he,hc,hdn,hda,hq⟩:=h;refine plainObj_wpAny_Assign_Attribute (g8 (j0 h1 v1 db cb pins s σ H (λy H1=>y=v/\H1=H) I ⟨v,e1,rfl,rfl⟩) λu s1 ⟨y,H1,I1,ry,hy,hH⟩=>?_) hs;subst hy hH;refine g8 (j0 h0 v0 da ca pins s1 σ H1 (λx H2=>x = .ref e/\H2=H1) I1 ⟨.ref e,e0,rfl,rfl⟩) λov s2 ⟨x,H2,I2,rx,hx,hH⟩=>?_;subst hx hH;cases rx;obtain⟨hp,g,dr,tk,os⟩:=s2;refine XC.store I2.JB Z (I2.hok e _ he).1 hc hdn hda λh' tk' dx q1 q2 q3 q4 q5=>?_;obtain⟨od,es,ep,hod,_⟩:=q5.ns;have J:=I2.agp (tk:=tk') he q1 q2 q3 q4 hod;exact⟨σ,_,J.2,hq dx od u _ J.1 q4 ry (λh hh=>q5.ns.at λo ho=>by rw[hod] at ho;cases ho;exact hh)<|if_pos rfl⟩
def spI(cl:Addr)(t:Str):Sp:=λvs H Q _=>∃(e:Addr) (v:V) (o:Obj) (fs:Array Value),vs=[.ref e,v]/\H e=some (JC e o)/\o.cls = .ref cl/\o.dict=none/\o.data = .fields fs/\
 ∀(dx:Addr) (od:Obj) (w:Value) (m:Str->Option Value),H dx=none->dx≠e->RelV v w->(∀h:Heap,h.get? dx=some od->h.Ns dx m)->m t=some w->Q .non (upd (upd H e (JC e { o with dict:=some dx })) dx (.tu od (.own dx)))
def Oo(P:Program)(w:World)(K:Fg)(mg:Str->Option Value)(base:Heap)(k:Nat)(fI cl:Addr)(t:Str):Prop:=∃fd ps,n6 P w K mg base Cp k fI fd ps (spI cl t)/\Binds K fd ps []
theorem acS{P:Program}{w:World}{K:Fg}{mg:Str->Option Value}{base:Heap}{k:Nat}{st:Stmt}(F:QW K "__init__" qual st fI fd)(hb:Binds K fd [a,b] [])(sc:bA [a,b] [a,b] (aG st))(hbd:cH st=[.Assign [.Attribute (.Name a p1) t p2] (.Name b p3) p4])
  (Z:XC.Wa K cl S t) (da:lr a:=by decide) (ca:uz a:=by decide) (db:lr b:=by decide) (cb:uz b:=by decide)
  (hs:∀env,swapsWith (.Name b p3) (some (.Attribute (.Name a p1) t p2)) p4.line env=pure false:=by intro _;rfl):Oo P w K mg base (k+1) fI cl t:=by
 refine⟨fd,[a,b],QW.ok F sc (λvs H Q E h=>?_) λcdv A outer s H vs Q E hr h=>?_,hb⟩
 ·obtain⟨e,v,o,fs,rfl,_⟩:=h;rfl
 ·obtain⟨e,v,o,fs,rfl,he,hc,hdn,hda,hq⟩:=h;rw[hbd];refine⟨_,Eo<|abE Z rfl rfl ?_ ?_ da ca db cb (hs _),e,v,o,fs,rfl,rfl,he,hc,hdn,hda,λdx od w m h1 h2 h3 h4 h5=>hq dx od w m h1 h2 h3 h4 h5⟩
  ·exact(sc.par a Qqk).elim .inl λz=>.inr<|.inl z
  ·exact(sc.par b<|Qqw _ Qqk).elim .inl λz=>.inr<|.inl z
def adD(K:Fg)(c:Addr):Prop:=∀base:Heap,K.In base->∃(nm q:Str) (N:Addr) (bs bm:List Value) (hdct:Bool) (sn:List Str) (sub:List Value) (ab:Bool) (col:Option Bool) (dd:Option Addr) (k0 k1 k2 k3 k5:Option Value),
 base.get? c=some (excClassObj nm q c N bs bm hdct sn sub ab col dd k0 k1 k2 k3 k5 "ValueError.__new__")/\OwnTail base XC.YJ bm/\bm.contains (.type "BaseException")=true
structure adE(K:Fg)(mg:Str->Option Value)(x:Str)(c fI:Addr):Prop where
 at_:mg x=some (.ref c)
 ob:adD K c
 ini:PySem.W.findIn K (.ref c) "__init__" = some (some (.ref fI))
 ty:PySem.W.typeIn K (.ref fI)=some (.type "function")
def qZ(a:Ev):cu:=λenv=>kJ (a env) λd aD=>match exV d with
 | some _=>.rt true (.tup [d]) aD
 | none=>.stuck
theorem Yk{K:Fg}(h:exV d=some v)(r:Rep K F d v'):v'=v:=by
 unfold exV at h;split at h
 ·cases h;exact r
 ·cases h;exact r
 ·cases h
abbrev exN(c t:Addr)(dd:Option Addr):Obj:={ cls:=.ref c,dict:=dd,data:=.fields #[.ref t,.none,.none,.none,.bool false,.none] }
section
variable{R:D->Hp->Prop}{X:Cx}{C:Cfg}{pos np cpos:Pos}{x t:Str}{e:Expr}{a:Ev}{k:Nat}{c fI:Addr}
theorem Px(T:qQ X)(hx:adE X.K X.mg x c fI)(G:Oo X.prog X.w X.K X.mg X.base k fI c t)(hr:gY (k+1) X.A)(hc:X.calm=true)(hg:Gl X x)(ha:PX X.xn C e a)
  (hR:∀d H,R d H->aQ X.H₀ H)
  (hxe:∀pins (σ:L2.St) H0 H1 s1 b d' dd oe fs,Inv X pins σ H1 s1->R d' H0->aQ H0 H1->tO t d' dd H1->Gn X.H₀ dd->H1 b=none->X.s₀.heap.get? b=none->s1.heap.get? b=some oe->oe.cls = .ref c->oe.dict=dd->oe.data = .fields fs->fs[1]? = some .none->X.xe (.ref b) s1)
  (hdb:lr x:=by decide) (he:Bg e X.env:=by rfl) :
  PR R X C (.Raise (some (.Call (.Name x np) [e] [] cpos)) none pos) (qZ a):=by
 intro pins s σ H D I h;obtain⟨Pr,F,env,r,f,y⟩:=h;obtain⟨d,aD,e1,f1⟩:=dW f;unfold qZ at y;rw[e1] at y;cases ev:exV d with
 | none=>rw[ev] at f1;exact f1.elim
 | some v0=>
  have y1:FX R C Pr F (.rt true (.tup [d]) aD):=by simp only[kJ,ev] at y;exact y
  obtain⟨nm,q,N,bs,bm,hdct,sn,sub,ab,col,dd,k0,k1,k2,k3,k5,hC,hT,hB⟩:=hx.ob X.base I.mod.Jz;obtain⟨fd,ps,G,hb⟩:=G;refine XC.raises (C:=c) (nm:=nm) (q:=q) (N:=N) (bs:=bs) (bm:=bm) (hdct:=hdct) (sn:=sn) (sub:=sub) (ab:=ab) (col:=col) (dd:=dd) (k0:=k0) (k1:=k1) (k2:=k2) (k3:=k3) (k5:=k5) (K:=X.K) (fI:=fI)
   hB (I.ok.hd hc) (by rw[he];rfl) hx.ini hx.ty (vh I hg hx.at_ ⟨rfl,?_⟩ hdb)
  have hxa:(aa a aj) env = .ok [d] aD:=by unfold aa aj;rw[e1];rfl
  have go:=TV (zE (C:=C) ha En he) cpos pins s σ H (λvs H1=>vs=[v0]/\R (.tup [d]) H1) I ⟨Pr,F,env,aD,[d],r,hxa,λvs H' F' r' s' p'=>by
   obtain⟨v',vs',rfl,z2,z3⟩:=p';cases z3;exact⟨by rw[Yk ev z2],y1.2 σ H' F' r' s'⟩⟩
  rw[he] at go ⊢;refine Calls.evalArgs_plain<|Qxk go (λus s2 ⟨vs,H1,I1,rv,hvs,hr1⟩=>?_) λ_ _ z=>z;subst hvs;obtain⟨u0,rfl,rv0⟩:=vals1 rv;refine⟨rfl,by show 1<=sizeLine;rw[Qk5];omega,I1.bk _ _ hC,I1.JB,hT.keeps I1.bk,λh' b m=>?_⟩;obtain⟨m1,m2,tt,m3,m4,m5⟩:=m;have hnb:=I1.none_of m2;have I2:=I1.laidN (a:=b) (o:=JC b<|exN c tt none) (tk:=s2.toks) (h':=h') m1 m2<|U7 m3;have rv2:Vals [.ref b,v0] [.ref b,u0]:=.cons rfl (.cons rv0 .nil);have hq:spI c t [.ref b,v0] (upd H1 b<|JC b<|exN c tt none) (λv H'=>v = .non/\∃dx od w m,upd H1 b (JC b<|exN c tt none) dx=none/\dx≠b/\RelV v0 w/\(∀h:Heap,h.get? dx=some od->h.Ns dx m)/\m t=some w/\H'=upd (upd (upd H1 b<|JC b<|exN c tt none) b<|JC b<|exN c tt<|some dx) dx (.tu od<|.own dx)) (λ_ _ _=>False):=
   ⟨b,v0,_,_,rfl,aY,rfl,rfl,rfl,λdx od w m h1 h2 h3 h4 h5=>⟨rfl,dx,od,w,m,h1,h2,h3,h4,h5,rfl⟩⟩
  have hb':=hb _ [.ref b,u0] I2.JB (by rw[Qx4];exact(Vals.length rv2).symm.trans<|G.len _ _ _ _ hq);rw[Qx4] at hb';refine wpAny_call<|Qj8 (G.run _ X.stack _ _ ⟨[.ref b,u0],[]⟩ [.ref b,u0] _ _ _ (hr.make c [u0] []) (I2.env0.make c [u0] []) hb' rv2 hq) λr s3 hq3=>?_;cases r with
  | error e=>exact hq3.elim
  | ok fl=>
   cases fl with
   | next=>exact False.elim hq3
   | brk=>exact False.elim hq3
   | cont=>exact False.elim hq3
   | ret u=>
    obtain⟨v3,H3,I3,rv3,rfl,dx,od,w,m,n1,n2,n3,n4,n5,rfl⟩:=I2.after hq3;cases rv3;have hsm:=hR _ _ hr1;have hb0:X.H₀ b=none:=hsm.free hnb;have hbE:upd (upd (upd H1 b<|JC b<|exN c tt none) b<|JC b<|exN c tt<|some dx) dx (.tu od<|.own dx) b=some (JC b<|exN c tt<|some dx):=by rw[bC (Ne.symm n2),aY]
    have I4:=I3.Wk hbE hb0;have hH1:H1 dx=none:=by rw[bC n2] at n1;exact n1
    have g3:=(I3.hok b _ hbE).1;refine⟨rfl,I3.bk _ _ hC,⟨_,g3,rfl,_,rfl,rfl⟩,hxe pins σ H1 _ s3 b _ (some dx) _ _ I4 hr1 (λb' o' z=>?_) ⟨v0,w,dx,od,m,ev,n3,rfl,?_,n4,n5⟩ (λdx' z=>by cases z;exact hsm.free hH1) (by simp) (I1.T6 T m2) g3 rfl rfl rfl rfl⟩
    ·have z1:b'≠b:=λz2=>by rw[z2,hnb] at z;cases z
     have z2:b'≠dx:=λz2=>by rw[z2,hH1] at z;cases z
     show(if b'=b then none else _)=_;rw[if_neg z1,bC z2,bC z1,bC z1];exact z
    ·show(if dx=b then none else _)=_;rw[if_neg n2,aY]
end
def V3(K:Fg)(x:Str):Addr:=match PySem.W.nsIn K mainGlobals x with
 | some (some (.ref c))=>c
 | _=>0
theorem Vn{K:Fg}(h:PySem.W.nsIn K mainGlobals x=some (some (.ref c))):V3 K x=c:=by unfold V3;rw[h]
structure XG(K:Fg)(x t qual:Str)(st:Stmt)(c S fI:Addr):Prop where
 nm:PySem.W.nsIn K mainGlobals x=some (some (.ref c))
 lk:∃(nm q:Str) (N:Addr) (bs:List Value) (sn:List Str) (sub:List Value) (ab:Bool) (col:Option Bool) (dd:Option Addr) (k0 k1 k2 k3 k5:Option Value),K.lookup c=some (excClassObj nm q c N bs (.ref S::XC.YJ) true sn sub ab col dd k0 k1 k2 k3 k5 "ValueError.__new__")
 cl:XC.Cl K c
 sa:PySem.W.findIn K (.ref c) "__setattr__" = some (some (.builtin "object.__setattr__"))
 no:PySem.W.findIn K (.ref c) t=some none
 up:PySem.W.excIn K S XC.YJ "ValueError.__new__" = true
 ini:PySem.W.findIn K (.ref c) "__init__" = some (some (.ref fI))
 ty:PySem.W.typeIn K (.ref fI)=some (.type "function")
 fn:∃(oc kV doc pm cdv ct:Value) (od an:Option Addr) (osl:Array (Option Value)),K.lookup fI=some ⟨oc,od,.func (PySem.W.fnOf "__init__" qual (gm st) (cH st) (aG st) .none kV doc pm an cdv ct),osl⟩/\PySem.W.codeIn K cdv qual=true
 kp:PySem.W.keepIn K (.ref fI)=true
section
variable{K:Fg}{h:Heap}{mg:Str->Option Value}{x t qual y:Str}{st:Stmt}{c S fI cy:Addr}{b:Bool}{P:Program}{w:World}{base:Heap}{f:Addr}{N:List Str}{k:Nat}{cdv:Value}{A:Around}{outer:List PySem.Env}{s:Shared}{H:Hp}{E:XK}{cl:Addr}{d:D}{pos np cpos:Pos}{e:Expr}{a:Ev}{C:Cfg}
theorem XG.cla(F:XG K x t qual st c S fI):XC.Wa K c S t:=by refine⟨F.cl,F.sa,F.no,?_⟩;obtain⟨nm,q,N,bs,sn,sub,ab,col,dd,k0,k1,k2,k3,k5,lk⟩:=F.lk;unfold PySem.W.clsIn;rw[lk];unfold excClassObj;exact⟨_,rfl,rfl,rfl⟩
theorem XG.exc(F:XG K x t qual st c S fI)(X:K.In h)(G:h.Ns mainGlobals mg):adE K mg x c fI:=by
 refine⟨PySem.W.mg_of X G F.nm,λbase KB=>?_,F.ini,F.ty⟩;obtain⟨nm,q,N,bs,sn,sub,ab,col,dd,k0,k1,k2,k3,k5,lk⟩:=F.lk;refine⟨nm,q,N,bs,_,true,sn,sub,ab,col,dd,k0,k1,k2,k3,k5,KB _ _ lk,?_,by rfl⟩;have q:=F.up;unfold PySem.W.excIn at q;split at q
 ·rename_i dd cd sl ho;split at q
  ·rename_i C' bm k0 k1 k2 k3 n k5 hm hs;simp[Qq2,beq_iff_eq,Bool.not_eq_true'] at q;obtain⟨⟨⟨⟨⟨rfl,rfl⟩,hdel⟩,ht⟩,hok⟩,hni⟩:=q;exact .own (KB _ _ ho) (.of_isNs<|PySem.W.isNs_of_in KB hok) (PySem.W.nsMap_none_of_in KB hok hni) .base
  ·cases q
 ·cases q
theorem XG.ag7{a b:Str}(F:XG K x t qual st c S fI)
  (hb:∀{kV doc pm} {an} {cdv ct} us,us.length=[a,b].length->bindArgs (PySem.W.fnOf "__init__" qual (gm st) (cH st) (aG st) .none kV doc pm an cdv ct) ⟨us,[]⟩=pure ([a,b].zip us))
  (sc:bA [a,b] [a,b] (aG st)) (hbd:cH st=[.Assign [.Attribute (.Name a p1) t p2] (.Name b p3) p4]) (da:lr a:=by decide) (ca:uz a:=by decide) (db:lr b:=by decide) (cb:uz b:=by decide)
  (hs:∀env,swapsWith (.Name b p3) (some (.Attribute (.Name a p1) t p2)) p4.line env=pure false:=by intro _;rfl):Oo P w K mg base (k+1) fI c t:=by
 obtain⟨oc,kV,doc,pm,cdv,ct,od,an,osl,l,cd⟩:=F.fn;exact acS (Fw l cd F.kp) (.all λus hl=>hb us hl) sc hbd F.cla da ca db cb hs
structure XK1(K:Fg)(mg:Str->Option Value)(x t:Str)(cl:Addr):Prop where
 all:∃fI,adE K mg x cl fI/\∀(P:Program) (w:World) (base:Heap) (k:Nat),Oo P w K mg base (k+1) fI cl t
theorem XG.raises{a b:Str}(F:XG K x t qual st c S fI)(X:K.In h)(G:h.Ns mainGlobals mg)
  (hb:∀{kV doc pm} {an} {cdv ct} us,us.length=[a,b].length->bindArgs (PySem.W.fnOf "__init__" qual (gm st) (cH st) (aG st) .none kV doc pm an cdv ct) ⟨us,[]⟩=pure ([a,b].zip us))
  (sc:bA [a,b] [a,b] (aG st)) (hbd:cH st=[.Assign [.Attribute (.Name a p1) t p2] (.Name b p3) p4]) (da:lr a:=by decide) (ca:uz a:=by decide) (db:lr b:=by decide) (cb:uz b:=by decide)
  (hs:∀env,swapsWith (.Name b p3) (some (.Attribute (.Name a p1) t p2)) p4.line env=pure false:=by intro _;rfl):XK1 K mg x t (V3 K x):=by
 rw[Vn F.nm];exact⟨fI,F.exc X G,λP w base k=>F.ag7 hb sc hbd da ca db cb hs⟩
theorem XG.part(F:XG K x t qual st c S fI):Gk K x t:=λc' h'=>by rw[F.nm] at h';cases h';exact⟨S,F.cla⟩
theorem ZR(Z:XK1 K mg x t cl)(hr:gY (k+2) (A.deeper (envOfC qual (aG st) s.heap.objs.size f cdv)))(hE:∀dd H',tO t d dd H'->Gn H dd->E (.ref cl) dd H')(ha:PX (bx P w K mg base N qual st f cdv A outer s H E) C e a)
  (hg:Gl (Q3 P w K mg base N qual st f cdv A outer s H E) x:=by rfl) (hdb:lr x:=by decide) (he:starEach [e] (Q3 P w K mg base N qual st f cdv A outer s H E).env=(false,eval e (Q3 P w K mg base N qual st f cdv A outer s H E).env)::starEach [] (Q3 P w K mg base N qual st f cdv A outer s H E).env:=by rfl) :
  PR (RX H d) (Q3 P w K mg base N qual st f cdv A outer s H E) C (.Raise (some (.Call (.Name x np) [e] [] cpos)) none pos) (qZ a):=by
 obtain⟨fI,h1,h2⟩:=Z.all;exact Px Dy h1 (h2 P w base k) hr rfl hg ha (λd' H' r=>r.2) (λpins σ H0 H1 s1 b d' dd oe fs I r sm v nw hn hw e1 e2 e3 e4 e5=>Wd hE pins σ H0 H1 s1 b d' dd oe fs I r sm v nw hn hw e1 e2 e3 e4 e5) hdb he
end
end Ev
namespace L2
open PySem PySem.Spec PyProof.Rows
theorem agA{α:Type}{t:Sem α}{Q Q':α->Shared->Prop}(h:wpAny M A t Q E s)(hp:0<s.toks)(k:∀a s',0<s'.toks->Q a s'->Q' a s'):wpAny M A t Q' E s:=
 Qxk (wpAny_toks_of hp h) (λa s' h=>k a s' h.1 h.2) λ_ _ x=>x.2
section
variable{X:Cx}{e o:Expr}{es:List Expr}{te to:TE}{t:TA}{st:Stmt}{sts:List Stmt}{ts tt:TS}{pos apos cpos:Pos}
def ad1(a b:Str)(to:TE):TE:=λσ H Q=>to σ H λx H1=>∃w:Str,x = .str w/\w.length+(w.length+1)*b.length<=16777216/\Q (.str (Txt.replace w a b)) H1
end
end L2
namespace Ev
open PySem PySem.Spec PyProof.Rows L2
section
variable{X:Cx}{C:Cfg}{pos:Pos}{e:Expr}{es:List Expr}{a:Ev}{r:dG}
def xR(x a b:List Nat):List Nat:=(Txt.replace (strOf x) (strOf a) (strOf b)).cps.toList
def Ab(a b:List Nat):D->Option D
 | .str x=>if x.length+(x.length+1)*b.length<=16777216/\(xR x a b).length<=sizeLine then some (.str (xR x a b)) else none
 | _=>none
end
end Ev
namespace L2
open PySem PySem.Spec PyProof.Rows
def Za(X:Cx)(e:Expr)(t:TE):Prop:=
 ∀(pins:List (Addr×Obj)) (s:Shared) (σ:St) (H:Hp) (Q:VK),Inv X pins σ H s->t σ H Q->wpAny (model X.prog X.w) X.A (eval e X.env) (λv s'=>0<s'.toks/\EP X pins σ Q v s') X.xe s
section
variable{X:Cx}{a b e:Expr}{ta tb te:TE}{pos:Pos}{st:Stmt}{sts:List Stmt}{ts tt:TS}
theorem Za.imp(h:Za X e t)(i:∀σ H Q,t' σ H Q->t σ H Q):Za X e t':=λpins s σ H Q I q=>h pins s σ H Q I<|i σ H Q q
theorem Xl{i j pos}:Za X (.Constant (.int i) j pos) (tC (.int i)):=λ_ _ _ H _ I h=>wpAny_Constant_int ⟨Nat.succ_pos _,.int i,H,I.tok _,⟨_,rfl⟩,h⟩
theorem abL(hr:V8 X r)(ha:PE X a ta)(hb:Za X b tb)(hs:qH b):Za X (.Subscript a b pos) (ZG r ta tb):=by intro pins s σ H Q I h;refine Subscript_<|g8 (ha pins s σ H _ I h) λv s1 ⟨x,H1,I1,r1,q1⟩=>g8 (hb pins s1 σ H1 _ I1 q1) λu s2 ⟨hp,y,H2,I2,r2,q2⟩=>?_;exact agA (hr a b pins s2 σ H2 x y v u Q I2 r1 r2 q2<|hs _ _) hp λ_ _ p q=>⟨p,q⟩
end
end L2
namespace Ev
open PySem PySem.Spec PyProof.Rows L2 PySem.Builtin
def Ay(x:List Nat):Bool:=Txt.isalpha (strOf x)
def zT(x:List Nat):Bool:=Txt.islower (strOf x)
section
variable{X:Cx}{C:Cfg}{o:Expr}{a:Ev}{apos cpos:Pos}
def abm(f:Str->Bool):V->List V->Hp->VK->Prop:=λx vs H Q=>∃z:Str,x = .str z/\vs=[]/\Q (.bl (f z)) H
theorem Uk:MtR X "str.isalpha" (abm Txt.isalpha):=by intro pins s σ H x vs v us Q I rx rv h;obtain⟨z,rfl,rfl,q⟩:=h;obtain⟨t,rfl⟩:=rx;cases rv;exact SC.isalpha ⟨.bl _,H,I,rfl,q⟩
theorem Ui:MtR X "str.islower" (abm Txt.islower):=by intro pins s σ H x vs v us Q I rx rv h;obtain⟨z,rfl,rfl,q⟩:=h;obtain⟨t,rfl⟩:=rx;cases rv;exact SC.islower ⟨.bl _,H,I,rfl,q⟩
def Iw(f:List Nat->Bool):D->Option D
 | .str x=>some (.bl (f x))
 | _=>none
theorem Ro{K:Fg}(h:tE C (gk (Iw λx=>f (strOf x)) a) σ H Q):ad8 K "str" (abm f) (tE C a) σ H Q:=by
 obtain⟨Pr,F,env,env',d,rl,e0,q⟩:=h;obtain⟨y,aD,e1,e2⟩:=aR e0;obtain⟨e3,rfl⟩:=cF e2;unfold Iw at e3;split at e3
 ·rename_i z;cases e3;exact⟨Pr,F,env,env',_,rl,e1,λv H1 F1 r1 s1 p1=>by
   obtain⟨rfl,_⟩:=p1;exact⟨rfl,strOf z,rfl,rfl,q _ H1 F1 r1 s1 rfl⟩⟩
 ·cases e3
theorem Wi(ho:SX X C o a)(hbase:attributeBase o "isalpha" X.env (eval o X.env)=eval o X.env:=by rfl)(hline:(apos.endLine == cpos.line)=true:=by rfl) :
  SX X C (.Call (.Attribute o "isalpha" apos) [] [] cpos) (gk (Iw Ay) a):=⟨(TF PySem.F.plainAttrs_str PySem.F.slot_str_isalpha PySem.F.type_str_isalpha Uk ho.u hbase hline).imp λ_ _ _ h=>Ro h⟩
theorem Wf(ho:SX X C o a)(hbase:attributeBase o "islower" X.env (eval o X.env)=eval o X.env:=by rfl)(hline:(apos.endLine == cpos.line)=true:=by rfl) :
  SX X C (.Call (.Attribute o "islower" apos) [] [] cpos) (gk (Iw zT) a):=⟨(TF PySem.F.plainAttrs_str PySem.F.slot_str_islower PySem.F.type_str_islower Ui ho.u hbase hline).imp λ_ _ _ h=>Ro h⟩
end
end Ev
namespace SI
open PySem PySem.Spec PyProof.Rows L2 PySem.Builtin
def insI(x:Int):List Int->List Int
 | []=>[x]
 | y::ys=>if x<=y then x::y::ys else y::insI x ys
def sortI:List Int->List Int
 | []=>[]
 | x::xs=>insI x (sortI xs)
theorem insI_perm(x):∀l,(insI x l).Perm (x::l)
 | []=>.refl _
 | y::ys=>by
  unfold insI;split
  ·exact .refl _
  ·exact((insI_perm x ys).cons y).trans<|.swap x y ys
theorem sortI_perm:∀l,(sortI l).Perm l
 | []=>.refl _
 | x::xs=>(insI_perm x _).trans<|(sortI_perm xs).cons x
theorem Ng(x):∀{l},l.Pairwise (·<= ·)->(insI x l).Pairwise (·<= ·)
 | [],_=>by simp[insI]
 | y::ys,h=>by
  obtain⟨h1,h2⟩:=Qw1.mp h;unfold insI;split
  ·rename_i hx;refine Qw1.mpr ⟨λz hz=>?_,h⟩;rcases Qq3.mp hz with rfl|hz
   ·exact hx
   ·exact Int.le_trans hx<|h1 z hz
  ·rename_i hx;refine Qw1.mpr ⟨λz hz=>?_,Ng x h2⟩;rcases Qq3.mp ((insI_perm x ys).mem_iff.mp hz) with rfl|hz
   ·omega
   ·exact h1 z hz
theorem zg:∀l,(sortI l).Pairwise (·<= ·)
 | []=>.nil
 | x::xs=>Ng x<|zg xs
theorem MF:∀{zs ns:List Int},zs.Pairwise (·<= ·)->ns.Pairwise (·<= ·)->ns.Perm zs->ns=zs
 | [],ns,_,_,p=>p.eq_nil
 | z::zs,[],_,_,p=>absurd p.symm.eq_nil (by simp)
 | z::zs,n::ns,h1,h2,p=>by
  obtain⟨a1,a2⟩:=Qw1.mp h1;obtain⟨b1,b2⟩:=Qw1.mp h2;have e:n=z:=by
   have m1:=p.mem_iff.mp<|Qqk ..;have m2:=p.mem_iff.mpr<|Qqk ..;rcases Qq3.mp m1 with c|c
   ·exact c
   ·rcases Qq3.mp m2 with d|d
    ·exact d.symm
    ·have:=a1 n c;have:=b1 z d;omega
  subst e;rw[MF a2 b2 (List.Perm.cons_inv p)]
def Sq(X:Cx):List V->Hp->VK->Prop:=λxs H Q=>∃(p:Addr) (zs:List Int),xs=[.ref p]/\H p=some (Cj X.prog X.w p zs)/\zs.length<64/\∀l,H l=none->Q (.ref l) (upd H l (.lst ((sortI zs).map V.int)))
section
variable{X:Cx}{C:Cfg}{pos:Pos}
theorem Le(hc:X.calm=true):ik X (.builtin "sorted") (Sq X):=by
 intro pins s σ H xs us Q I r h;obtain⟨p,zs,rfl,hq,hz,q⟩:=h;obtain⟨u,rfl,rx⟩:=vals1 r;cases rx;have x:iW X.prog X.w s.heap p zs:=(I.hok p _ hq).1;refine Calls.call_function_entry kind_sorted plain_sorted entry_sorted (args_sorted1 _) ?_;unfold Builtin.«sorted»;refine Qqq<|Qqv ?_;refine Qqq<|rY (I.ok.hd hc) x hz λh' d tk os hss hlen hk=>?_;obtain⟨ss,hS,pS⟩:=hss;refine Qqq<|wpAny_newList ?_ (by rw[hlen];exact Qq0 (Qz7 hz) (by decide));have hoL:(h'.push<|seqObj "list" os.toArray 0).get? h'.objs.size=some (seqObj "list" os.toArray 0):=Qq4 _ rfl;show wpAny _ _ _ _ _ { s with heap:=h'.push<|seqObj "list" os.toArray 0,drawn:=d,toks:=tk };refine Qqq<|Qx5<|Qz6 slot_list_sort ⟨_,hoL,rfl⟩ entry_list_sort (list_sort_tree hoL hS (by rw[hlen];exact hz) λout ns' b1 b2 b3=>⟨_,rfl,?_⟩)<|args_list_sort _;obtain⟨e,he⟩:=sortedHeap_at hoL;refine Qqv ⟨_,rfl,?_⟩;have I1:L2.Inv X pins σ H { s with heap:=h',drawn:=d,toks:=tk }:=(I.kept hk).dr d;have en:ns'=sortI zs:=MF (zg zs) b3<|(b2.trans pS).trans (sortI_perm zs).symm;have hk2:∀b o,h'.get? b=some o->(sortedHeap (h'.push<|seqObj "list" os.toArray 0) h'.objs.size os out).get? b=some o:=λb o e=>by
  have lt':=Qq9 e;rw[sortedHeap_old (Qwj lt') (by rw[size_push'];exact Qzw lt')];exact Qqx _ e
 have hl:((sortI zs).map V.int).length<=sizeLine:=by rw[Qqj,(sortI_perm zs).length_eq];exact Qq0 (Qz7 hz) (by decide)
 rw[en] at b1;exact⟨.ref h'.objs.size,_,I1.laid hk2 (Qqy _)<|show gf X.prog X.w _ _ h'.objs.size (.lst<|(sortI zs).map V.int) from⟨hl,out.toList,e,wB b1,by simpa[seqObj] using he⟩,rfl,q _<|I1.hok.fresh<|Qqy _⟩
end
end SI
namespace Ev
open PySem PySem.Spec PyProof.Rows L2 PySem.Builtin
def sZ:D->Option D
 | .lst ds=>(z9 ds).bind λzs=>if zs.length<64 then some (.lst ((SI.sortI (SI.dY zs)).map .int)) else none
 | _=>none
theorem zy{K:Fg}:∀zs:List Int,bL K F (zs.map .int) (zs.map V.int)
 | []=>rfl
 | z::zs=>⟨V.int z,zs.map V.int,rfl,rfl,zy zs⟩
section
variable{X:Cx}{C:Cfg}{pos p p2 pos2:Pos}{e:Expr}{a:Ev}
theorem JL(G:Good X C)(h1:X.mg "sorted" = none)(h2:X.mg "set" = none)(ha:SX X C e a)(g1:Gl X "sorted":=by rfl)(g2:Gl X "set":=by rfl)
  (he:Bg e X.env:=by rfl)
  (he2:starEach [.Call (.Name "set" p2) [e] [] pos2] X.env=(false,eval (.Call (.Name "set" p2) [e] [] pos2) X.env)::starEach [] X.env:=by rfl) :
  SX X C (.Call (.Name "sorted" p) [.Call (.Name "set" p2) [e] [] pos2] [] pos) (gk sZ a):=by
 have i1:PE X (.Call (.Name "set" p2) [e] [] pos2) _:=xg (SI.QF G.calm) g2 h2 (by decide +kernel) (fD ha.u jM he) (by decide) (by decide) he rfl;have i2:PE X (.Call (.Name "sorted" p) [.Call (.Name "set" p2) [e] [] pos2] [] pos) _:=uZ (SI.Le G.calm) g1 h1 PyProof.Rows.boot_sorted (fD i1 jM he2) (by decide) (by decide) he2 rfl;refine⟨i2.imp λσ H Q hq=>?_⟩;obtain⟨Pr,F,env,env',d,r,e0,q⟩:=hq;obtain⟨x,aD,e1,e2⟩:=aR e0;obtain⟨e3,rfl⟩:=cF e2;refine⟨Pr,F,env,env',x,r,e1,λv H1 F1 r1 s1 p1=>?_⟩;unfold sZ at e3;split at e3
 ·rename_i ds;obtain⟨zs,e4,e5⟩:=Qx2.mp e3;split at e5
  ·rename_i hz;cases e5;obtain⟨z,b,ws,rfl,k1,k2⟩:=jg.lst r1.fr<|.inl p1;have e6:=zz e4 k2;subst e6;show SI.Ms X [.ref b] H1 λx H2=>SI.Sq X [x] H2 Q;have hu:(SI.dY zs).length<64:=by have:=SI.qX zs [];rw[Qz3] at this;unfold SI.dY;omega
   refine⟨b,zs,rfl,mR.of k1,by omega,λl hl=>?_⟩;have r2:=r1.fresh (o:=SI.Cj X.prog X.w l<|SI.dY zs) hl;refine⟨l,SI.dY zs,rfl,aY,hu,λl2 hl2=>?_⟩;obtain⟨r3,s3⟩:=r2.new hl2;refine q _ _ _ r3 (s1.trans s3) ⟨?_,l2,(SI.sortI<|SI.dY zs).map V.int,rfl,aY,zy _⟩;rw[Qqj,(SI.sortI_perm _).length_eq];exact Qq0 (Qz7 hu) (by decide)
  ·cases e5
 ·cases e3
end
open PySem PySem.Spec PyProof.Rows L2
def wK(ev:cu)(c:Ev)(ev2:cu)(jn:Nat)(cn t:Str):cu:=λenv=>match c env with
 | .ok d env'=>(match ev2 (env'.set jn (some (false,xcV cn t d))) with
  | .nx e=>.nx (e.set jn none)
  | _=>.stuck)
 | _=>ev env
section
variable{X:Cx}{C:Cfg}{pos p:Pos}{t:Str}{c:Ev}{cl:Addr}
theorem abf{st h1:Stmt}(T:qQ X)(hK:X.K=C.K)(W:Below X.K X.mg S cn cl)(hb:su X.xn C [st] ev)(hx:adz X C st c cl t)(hh:∀a,su (X.suite (.ref a)) C (h1::hr) ev2)(hN:X.N.Nodup)(hjn:X.N[jn]? = some n)
  (hn:X.env.scope.names.lookup n=some .local) (fjn:C.fx jn=none) (gl:Gl X S) (hd:lr S:=by decide) :
  Lq X C (.Try [st] [.ExceptHandler (some (.Name S np)) (some n) (h1::hr) hp] [] [] pos) (wK ev c ev2 jn cn t):=by
 intro pins s σ H D I h;obtain⟨Pr,F,env,r,f⟩:=h;unfold wK at f;split at f
 ·rename_i d env' hc;split at f
  ·rename_i e hev;refine wpAny_Try_except<|wpAny_execs_cons<|Qxk (hx pins s σ H Pr F env env' d _ I r hc λH1 F1 s1 v s' I1 r1 sF cx=>?_) (λ_ _ z=>z.elim) λ_ _ z=>z;obtain⟨a,Cc,dd,H',B,rfl,hE,fl⟩:=cx;obtain⟨hE,hv,nw⟩:=hE;cases hE;obtain⟨Sa,hS,Z,ty,sub⟩:=W.at_;obtain⟨hp',g',dr',tk',os'⟩:=s';have fl0:=fl.fl;rw[T.st] at fl0;refine XC.Z1 (by rw[I.ok.frames,T.st]) T.fr fl0 λh4 held up4=>?_;refine XC.land held λh5 ac5 up5=>?_;have I5:=I1.caught fl (by rw[T.st];exact ac5)<|up4.trans up5;obtain⟨oe,_,hoe,hcls,_⟩:=ac5.ob;refine wpAny_handleBy_cons (codeAny_handlers_test<|Calls.Name_function_global I5.ok.kind gl (Calls.loadGlobal_global (by rw[I5.ok.glob];exact I5.mod.glob.keeps I5.bk) hS ?_) hd) (by intro q;cases q);refine XC.caught I5.JB hoe hcls Z ty sub<|codeAny_handlers_suite_as ?_;refine XC.land ac5 λh6 afE up6=>?_;have I6:=I1.caught fl (by rw[T.st];exact afE)<|(up4.trans up5).trans up6;obtain⟨oe6,vs6,ho6,hc6,ahh,hd6,_⟩:=afE.ob;have I7:=Inv.known T I1 fl I6 ho6;refine yW I7 hN hjn (.inl hn) (v:=.ref a) rfl (λs8 I8=>?_) (.inr hn);obtain⟨F2,r2,sF1,hv2⟩:=r1.held fl.same hv nw;obtain⟨r2,sF2⟩:=Rel.new r2 fl.new;have rp:Rep C.K (upd F2 a<|.tu oe6<|.own a) (xcV cn t d) (.ref a):=We (by rw[<-hK];exact W.nm) aY hc6 hd6 (by rw[ahh];exact hv2.mono sF2);have r8:=r2.put fjn rp;refine Qxk (hh a pins s8 _ _ { nx:=λσ' H''=>∃F',Rel C Pr F' e σ' H''/\aQ F F',rt:=λ_ _=>False } (I8.suite _) ⟨Pr,_,_,r8,?_⟩) (λf9 s9 q9=>?_) λ_ _ z=>z.elim
   ·rw[hev];exact λσ' H'' F'' r'' s''=>⟨F'',r'',((sF.trans sF1).trans sF2).trans s''⟩
   cases f9 with
   | next=>
    obtain⟨σ9,H9,J9,F9,r9,sF9⟩:=q9;have I9:=J9.behind I.ok;have hσ:jn<σ9.length:=by rw[I9.len];exact(Qwq.mp hjn).1
    have I9':=I9.weak (σ':=σ9.set jn none) (by rw[Qxw]) (λi v q=>by
     by_cases z:jn=i
     ·subst z;rw[Qwz hσ] at q;cases q
     ·rw[Qq6 z] at q;exact q)
    obtain⟨m9,hm9,hl9⟩:=I9'.loc;refine wpAny_nameGoes_keeps (m:=m9) hn hm9 (by rw[I.ok.kind];rfl) λh10 v10 hNs hsb=>?_;have I10:=I9'.gone (tk:=s9.toks+1) hl9 hNs hsb (λi v q1 q2=>by
     have z:jn=i:=zQ hN hjn q1;subst z;rw[Qwz hσ] at q2;cases q2)
    have r10:=(r9.unset (i:=jn) (v:=.ref a) fjn).drop fjn λx q=>by
     rw[List.getElem?_set] at q;split at q
     ·split at q<;>cases q
     ·rename_i z;exact z rfl
    rw[List.set_set] at r10;exact⟨_,_,I10,f _ _ _ r10 sF9⟩
   | brk=>obtain⟨_,_,_,z⟩:=q9;exact z.elim
   | cont=>obtain⟨_,_,_,z⟩:=q9;exact z.elim
   | ret u=>obtain⟨_,_,_,_,_,z⟩:=q9;exact z.elim
  ·exact f.elim
 ·exact abD hb pins s σ H D I ⟨Pr,F,env,r,f⟩
def Ny(iy jn:Nat)(cn t:Str)(w:List Nat):cu:=aM (bz (jr .non) (aq iy)) (eQ (cC (au qJ (gk (Nq cn t) (aP jn)) (jr (.int 0)))) (bz (jr (.str w)) (aq iy)) bU)
theorem abe{st:Stmt}(iy jn)(w){Sc cn n y sw:Str}{np np2 yp yp2 ap ap2 hp q1 q2 q3 tp cp ip:Pos}{j1 j2 j3:Nat}(T:qQ X)(G:Good X C)(W:Below X.K X.mg Sc cn cl)(hk:Gk X.K cn t)(hb:Good X.xn C->fV X.xn C [st] ev)(hx:adz X C st c cl t)(hw:sw=strOf w)(hwl:w.length<=sizeLine:=by decide)
  (hnd:mq X.N=true:=by rfl) (hjn:X.N[jn]? = some n:=by rfl) (hiy:X.N[iy]? = some y:=by rfl) (hn:X.env.scope.names.lookup n=some .local:=by rfl) (hy:X.env.scope.names.lookup y=some .local:=by rfl) (fjn:C.fx jn=none:=by rfl) (fiy:C.fx iy=none:=by rfl) (gl:Gl X Sc:=by rfl) (hd:lr Sc:=by decide)
  (hd1:lr n:=by decide) (hd2:uz n:=by decide)
  (s1:swapsWith (.Constant .none j1 q1) (some (.Name y yp)) ap.line X.env=pure false:=by rfl) (s2:swapsWith (.Constant (.str sw) j3 q3) (some (.Name y yp2)) ap2.line X.env=pure false:=by rfl)
  (ha:attributeBase (.Name n np2) t X.env (eval (.Name n np2) X.env)=eval (.Name n np2) X.env:=by rfl) :
  Gs X C (.Try [st] [.ExceptHandler (some (.Name Sc np)) (some n) [.Assign [.Name y yp] (.Constant .none j1 q1) ap,.If (.Compare (.Attribute (.Name n np2) t tp) [.NotEq] [.Constant (.int 0) j2 q2] cp) [.Assign [.Name y yp2] (.Constant (.str sw) j3 q3) ap2] [] ip] hp] [] [] pos) (wK ev c (Ny iy jn cn t w) jn cn t):=by
 refine⟨abf T G.K W (hb<|xn G).u hx (λa=>?_) (jO hnd) hjn hn fjn gl hd⟩;have hcm:Cm (X.suite<|.ref a) C .NotEq qJ:=⟨_,TY G.u60,by show qI C (abp X.K) qJ;rw[G.K];exact Z0⟩;refine CK (RV iy Tc hnd fiy hiy (.inl hy) s1<|.inr hy)<|zA<|Sy (ZF hcm (Xb hk G.K (Zr jn hjn (.inl hn) hd1 hd2) ha)<|PX.b Td) (zA<|RV iy (S8 w hw hwl) hnd fiy hiy (.inl hy) s2<|.inr hy) Hx
end
end Ev
namespace L2
open PySem PySem.Spec PyProof.Rows
theorem Tv{apos cpos:Pos}{j1 j2:Nat}{p1 p2:Pos}(ho:Za X o to)(hab:(a == b)=false)
  (hbase:attributeBase o "replace" X.env (eval o X.env)=eval o X.env:=by rfl)
  (hfew:((backTo cpos (starEach [.Constant (.str a) j1 p1,.Constant (.str b) j2 p2] X.env)).all (λx=>!x.1)&&(backToKw cpos (keywordEach [] X.env)).all (λx=>x.1.isSome)
   && decide (([.Constant (.str a) j1 p1,.Constant (.str b) j2 p2]:List Expr).length+([]:List Keyword).length+(if ([]:List Keyword).isEmpty then 0 else 1)<30))=true:=by rfl)
  (hline:(apos.endLine == cpos.line)=true:=by rfl) :
  PE X (.Call (.Attribute o "replace" apos) [.Constant (.str a) j1 p1,.Constant (.str b) j2 p2] [] cpos) (ad1 a b to):=by
 intro pins s σ H Q I h;refine wpAny_Call_method_late hbase hfew hline rfl (g8 (ho pins s σ H _ I h) λv s1 ⟨hp1,x,H1,I1,r1,w,ew,hf,q1⟩=>?_);subst ew;obtain⟨t,rfl⟩:=r1;refine⟨"str","str.replace",PySem.F.plainAttrs_str,PySem.F.slot_str_replace,PySem.F.type_str_replace,Qk7 _ _ _,(λ_ z=>nomatch z),?_⟩;refine Calls.callWith_builtin rfl (Calls.evalArgs_plain ?_);show wpAny _ _ (spliced ((false,eval (.Constant (.str a) j1 p1) X.env)::(false,eval (.Constant (.str b) j2 p2) X.env)::[])) _ _ s1;refine Calls.spliced_cons<|Calls.Constant_str<|Calls.spliced_cons<|Calls.Constant_str<|Calls.spliced_nil ?_;exact SC.replace (Nat.pos_iff_ne_zero.mp hp1) (Nat.succ_ne_zero _) (Qwj<|Nat.lt_succ_self _) hab hf λt' k=>⟨.str _,H1,I1.tok k,⟨t',rfl⟩,q1⟩
end L2
namespace Ev
open PySem PySem.Spec PyProof.Rows L2
section
variable{X:Cx}{C:Cfg}{px qp p p1 p2 apos cpos:Pos}{n sa sb:Str}{j j1 j2:Nat}{k:Int}
theorem LK(i)(u v)(G:Good X C)(ea:sa=strOf u)(eb:sb=strOf v)(hab:(sa == sb)=false)(hN:X.N[i]? = some n:=by rfl)(hv:wg X.env.scope n:=by first|exact .inl rfl|exact .inr (.inl rfl)|exact .inr (.inr rfl))(hd:lr n:=by decide)(hcd:uz n:=by decide)
  (hpl:qH (.Constant (.int k) j p):=by intro _ _;rfl)
  (hbase:attributeBase (.Subscript (.Name n px) (.Constant (.int k) j p) qp) "replace" X.env (eval (.Subscript (.Name n px) (.Constant (.int k) j p) qp) X.env)=eval (.Subscript (.Name n px) (.Constant (.int k) j p) qp) X.env:=by rfl)
  (hfew:((backTo cpos (starEach [.Constant (.str sa) j1 p1,.Constant (.str sb) j2 p2] X.env)).all (λx=>!x.1)&&(backToKw cpos (keywordEach [] X.env)).all (λx=>x.1.isSome)
   && decide (([.Constant (.str sa) j1 p1,.Constant (.str sb) j2 p2]:List Expr).length+([]:List Keyword).length+(if ([]:List Keyword).isEmpty then 0 else 1)<30))=true:=by rfl)
  (hline:(apos.endLine == cpos.line)=true:=by rfl) :
  SX X C (.Call (.Attribute (.Subscript (.Name n px) (.Constant (.int k) j p) qp) "replace" apos) [.Constant (.str sa) j1 p1,.Constant (.str sb) j2 p2] [] cpos) (gk (Ab u v) (ak dC i (jr (.int k)))):=by
 have hb:Za X (.Constant (.int k) j p) (tRd C<|jr<|.int k):=Xl.imp λσ H Q h=>by
  obtain⟨Pr,F,env,env',d,r,e,q⟩:=h;cases e;exact q _ _ F r (aQ.refl F)<|.inl rfl
 have h0:=abL (pos:=qp) KR (j0 (pos:=px) hN hv hd hcd) hb hpl;rw[G.K] at h0;have ho:=h0.imp<|tD T8;refine⟨(Tv ho hab hbase hfew hline).imp λσ H Q hq=>?_⟩;obtain⟨Pr,F,env,env',d,rl,e,q⟩:=hq;obtain⟨y,aD,e1,e2⟩:=aR e;obtain⟨e3,rfl⟩:=cF e2;unfold Ab at e3;split at e3
 ·rename_i z;split at e3
  ·rename_i hz;cases e3;refine⟨Pr,F,env,env',_,rl,e1,λvv H1 F1 r1 s1 p1=>⟨strOf z,p1.1,?_,?_⟩⟩
   ·rw[eb,aO,aO];exact hz.1
   ·have e5:strOf (xR z u v)=Txt.replace (strOf z) sa sb:=by rw[ea,eb];unfold xR strOf;simp
    rw[<-e5];exact q _ H1 F1 r1 s1 ⟨rfl,hz.2⟩
  ·cases e3
 ·cases e3
end
theorem jc(h1:env[i]? = some (some (false,x)))(h2:b env = .ok y e2)(h4:e2[i]? = some (some (false,x)))(h3:g x y=some d):ak g i b env = .ok d e2:=fM h1 h2 h4 h3
theorem ajp(h1:env[i]? = some (some (true,x)))(h2:b env = .ok y e2)(h4:e2[i]? = some (some (true,x)))(h3:g x y=some d):ak g i b env = .ok d e2:=fM h1 h2 h4 h3
theorem aeb(h0:env[i]? = some (some (true,.lst xs)))(h1:a env = .ok d e)(h2:e[i]? = some (some (true,.lst xs)))(hz:xs.length<sizeLine):tR i a env = .nx (e.set i (some (true,.lst (xs++[d])))):=by unfold tR;rw[h0];simp[h1,kJ,h2,if_pos hz]
theorem ail(h0:env[i]? = some (some (true,x)))(h1:a env = .ok ds e1)(h2:e1[i]? = some (some (true,x)))(h3:f (x::ds)=some (d,x')):dR f i a env = .ok d (e1.set i (some (true,x'))):=iD h0 h1 h2 h3
theorem zz1:1<=sizeLine:=by decide
theorem zz2:2<=sizeLine:=by decide
theorem zz3:3<=sizeLine:=by decide
theorem zz4:4<=sizeLine:=by decide
theorem zz5:5<=sizeLine:=by decide
theorem zz6:6<=sizeLine:=by decide
theorem zz7:7<=sizeLine:=by decide
end Ev
abbrev OD:=Option (Bool×Ev.D)
abbrev Zf(d:Ev.D):OD:=some (false,d)
abbrev Zt(d:Ev.D):OD:=some (true,d)
abbrev Zs(w:List Nat):OD:=some (false,.str w)
abbrev Zb(b:Bool):OD:=some (false,.bl b)
abbrev Zl(l:List Ev.D):OD:=some (true,.lst l)
abbrev Zv(i:Nat)(a:Ev.dG):Ev.dG:=Ev.aa (Ev.aP i) a
abbrev Zi(i:Int):Ev.Ev:=Ev.jr (.int i)
abbrev Zw(w:List Nat):Ev.Ev:=Ev.jr (.str w)
abbrev LD:=List Ev.D->Option Ev.D
abbrev Zn:OD:=none
abbrev Lk:List PySem.Str:=["sounds","thing"]
abbrev VJ:List PySem.Str:=["stock","text"]
abbrev Y0:List PySem.Str:=["_law_pack_here","_law_sounds_here"]
abbrev YZ:List PySem.Str:=["_law_stock_here","_law_text"]
abbrev Zq4:List PySem.Str:=["_law_pack_here"]
abbrev Zq5:List PySem.Str:=["_law_stock_here"]
abbrev Zq6:List PySem.Str:=["_law_signs_here"]
abbrev Zq7:List PySem.Str:=["_law_pack_here","_law_size"]
abbrev Zq8:List PySem.Str:=["_law_pack_here","_law_text"]
abbrev Zq9:List PySem.Str:=["_law_stock_here","_law_words"]
abbrev afT:List PySem.Str:=["_law_stock_here","_law_text","_law_sounds_here","_law_marks","_law_found","_law_signs_here","_law_places","_law_sign"]
abbrev afS:List PySem.Str:=["_law_script","_law_k","_law_pack_here","_law_stock_here","_law_text","_law_turn","_law_some","_law_step","_law_due_here"]
namespace gH
open Ev
section
def nA:Ev:=fY 1 2 (gJ (aa (au BV (ao cT (aa (bj 0) aj)) (Zi 1)) aj)) (aq 1) cL (au gLt (ak dC 0 (bj 1)) (ak dC 0 (ak bM 1 (Zi 1))))
def yP:cu:=bw (ao qw (aa (nA) aj))
def mJ:LD:=dO 1 yP
def pO:cu:=bw (ju (gk (xB "tuple") (aP 0)) (au jF (ao cT (aa (bj 0) aj)) (Zi 2)))
def pK:LD:=dO 1 pO
def j5:Ev:=fY 1 3 (fU (aP 0)) (gb 2 (bD (aq 1) (bD (aq 2) gC))) cL (aP 1)
def oJ:cu:=bw (ao fX (aa (j5) aj))
def lX:LD:=dO 1 oJ
def iK:Ev:=fY 4 5 (fU (aP 1)) (aq 4) cL (ak Bh 4 (bj 3))
def nu:Ev:=fY 2 4 (fU (aP 0)) (gb 2 (bD (aq 2) (bD (aq 3) gC))) (cC (ao qw (aa (iK) aj))) (aP 2)
def oK:cu:=bw (ao fX (aa (nu) aj))
def oG:LD:=dO 2 oK
def fO:cu:=aM (eQ (dX (cC (ao pK (Zv 1 aj)))) (bw (jr (.bl false))) bU) (aM (bz (aP 1) (gb 2 (bD (aq 2) (bD (aq 3) gC)))) (bw (ju (ak Bh 2 (bj 0)) (ju (Jh (ak Bh 3 (bj 0)) (ak jF 3 (Zw []))) (ak qJ 2 (bj 3))))))
def jG:LD:=dO 4 fO
def jw:cu:=bw (ju (ao pK (Zv 1 aj)) (ju (au jF (ak dC 1 (Zi 0)) (Zw [])) (au Bh (ak dC 1 (Zi 1)) (bj 0))))
def eG:LD:=dO 2 jw
def eV:Ev:=fY 2 3 (fU (aP 1)) (aq 2) cL (ao jG (Zv 0 (Zv 2 aj)))
def eU:Ev:=fY 2 4 (fU (aP 1)) (gb 2 (bD (aq 2) (bD (aq 3) gC))) cL (aP 2)
def jy:cu:=aM (eQ (du (dX (cC (gk (xB "tuple") (aP 1)))) (cC (au jF (ao cT (aa (bj 1) aj)) (Zi 0)))) (bw (jr (.bl false))) bU) (aM (eQ (iz (cC (au jF (ao cT (aa (bj 1) aj)) (Zi 1))) (cC (ao eG (Zv 0 (aa (ak dC 1 (Zi 0)) aj))))) (bw (jr (.bl true))) bU) (bw (ju (ao qw (aa (eV) aj)) (ao mJ (aa (eU) aj)))))
def lM:LD:=dO 2 jy
def iQ:Ev:=fY 2 3 (fU (aP 1)) (aq 2) cL (Jh (ak jF 2 (Zw [35])) (ak Bh 2 (bj 0)))
def oU:cu:=aM (eQ (cC (ak QZ 1 (jr .non))) (bw (jr (.bl true))) bU) (aM (eQ (du (dX (cC (gk (xB "tuple") (aP 1)))) (cC (au jF (ao cT (aa (bj 1) aj)) (Zi 0)))) (bw (jr (.bl false))) bU) (bw (ju (ao qw (aa (iQ) aj)) (ao mJ (Zv 1 aj)))))
def lY:LD:=dO 2 oU
def pN:cu:=aM (eQ (du (dX (cC (gk (xB "tuple") (aP 1)))) (cC (au qJ (ao cT (aa (bj 1) aj)) (Zi 4)))) (bw (jr (.bl false))) bU) (aM (bz (aP 1) (gb 4 (bD (aq 2) (bD (aq 3) (bD (aq 4) (bD (aq 5) gC)))))) (aM (bz (ao lX (Zv 0 aj)) (aq 6)) (bw (ju (ak Bh 2 (jr (.tup [(.str [111,110,99,101]),(.str [97,108,111,110,103])]))) (ju (ao lM (Zv 6 (Zv 3 aj))) (ju (ao lY (Zv 6 (Zv 4 aj))) (ao lY (Zv 6 (Zv 5 aj)))))))))
def jU:LD:=dO 7 pN
def oN:cu:=eQ (dX (cC (gk (xB "str") (aP 0)))) (DW) bU
def oH:LD:=dO 1 oN
def mK:cu:=eQ (dX (cC (gk (xB "str") (aP 0)))) (qZ (jr .non)) bU
def qW:LD:=Bw 1 mK
def mO:cu:=bw (K6 (cC (ak jF 0 (Zw []))) (Zw [48]) (aP 0))
def gR:LD:=dO 1 mO
def mQ:cu:=bw (K6 (cC (ak QZ 0 (jr .non))) (Zw [42]) (au uD (Zw []) (bj 0)))
def gU:LD:=dO 1 mQ
def iM:Ev:=fY 6 8 (fU (aP 2)) (gb 2 (bD (aq 6) (bD (aq 7) gC))) cL (Jj [62] (ao gR (Zv 6 aj)) (ao gR (Zv 7 aj)))
def oM:cu:=aM (bz (aP 0) (gb 4 (bD (aq 1) (bD (aq 2) (bD (aq 3) (bD (aq 4) gC)))))) (aM (jh 5 (iM)) (bw (au lV (Zw [32]) (au bM (au bM (cB (Zv 1 aj)) (bj 5)) (cB (aa (Zw [47]) (aa (ao gU (Zv 3 aj)) (aa (Zw [95]) (aa (ao gU (Zv 4 aj)) aj)))))))))
def iT:LD:=dO 6 oM
def j9:cu:=aM (eQ (cC (ak jF 0 (Zw []))) (bw (jr .non)) bU) (bw (K6 (cC (ak jF 0 (Zw [48]))) (Zw []) (aP 0)))
def j7:LD:=dO 1 j9
def jf:cu:=aM (eQ (cC (ak jF 1 (Zw [42]))) (bw (jr .non)) bU) (aM (eQ (du (dX (cC (au sY (aP 1) (Zw [91])))) (dX (cC (au Dl (aP 1) (Zw [93]))))) (bw (ao Iv (aa (bj 1) aj))) bU) (bw (ao oG (Zv 0 (aa (au dB (jV (aP 1) (o7 (Zi 1)) (o7 (gk IW (Zi 1)))) (Zw [32])) aj)))))
def d8:LD:=dO 2 jf
def jD:Ev:=fY 8 9 (fU (au dB (aP 7) (Zw [62]))) (aq 8) cL (ao j7 (Zv 8 aj))
def jC:Ev:=fY 7 8 (fU (jV (aP 2) (o7 (Zi 1)) (o7 (aP 3)))) (aq 7) cL (ao fX (aa (jD) aj))
def kh:cu:=aM (bz (au dB (aP 1) (Zw [32])) (aq 2)) (aM (eQ (du (cC (au gQ (Zw [47]) (bj 2))) (cC (au gQ (Zw [95]) (bj 2)))) (bw (jr .non)) bU) (aM (bz (au qu (aP 2) (Zw [47])) (aq 3)) (aM (bz (au qu (aP 2) (Zw [95])) (aq 4)) (aM (bz (ao fX (aa (jC) aj)) (aq 5)) (aM (bz (ao d8 (Zv 0 (aa (au lV (Zw [32]) (jV (aP 2) (o7 (ak bM 3 (Zi 1))) (o7 (aP 4)))) aj))) (aq 6)) (bw (ig (aa (ak dC 2 (Zi 0)) (Zv 5 (Zv 6 (aa (ao d8 (Zv 0 (aa (au lV (Zw [32]) (jV (aP 2) (o7 (ak bM 4 (Zi 1))) pL)) aj))) aj)))))))))))
def dF:LD:=dO 7 kh
def jW:cu:=aM (J7 (ao oH (Zv 1 aj))) (aM (bz (ao dF (Zv 0 (Zv 1 aj))) (aq 2)) (aM (eQ (dX (cC (ao jU (Zv 0 (Zv 2 aj))))) (DW) bU) (bw (aP 2))))
def jQ:LD:=dO 3 jW
def cP:cu:=aM (Ry (qx qW (Zv 1 aj)) (J7 (ao oH (Zv 1 aj)))) (aM (bz (ao dF (Zv 0 (Zv 1 aj))) (aq 2)) (aM (eQ (dX (cC (ao jU (Zv 0 (Zv 2 aj))))) (qZ (Zi 0)) bU) (bw (aP 2))))
def cZ:LD:=Bw 3 cP
def oR:cu:=bw (au Qs (ak pJ 0 (Zi 262406895267124108351839057402211873468251940277165213587343)) (au K4 (Zi 10) (Zi 60)))
def iU:LD:=dO 1 oR
def BL:cu:=bz (au bM (ak pJ 2 (au K4 (Zi 10) (Zi 60))) (ao iU (aa (au dC (au bM (BW (aP 0) (o7 (aP 3)) (o7 (ak bM 3 (Zi 1)))) (cB (aa (au bM (au pJ (Zi 7919) (bj 3)) (Zi 61)) aj))) (Zi 0)) aj))) (aq 2)
def lK:cu:=aM (bz (Zi 0) (aq 2)) (aM (jX (fU (cB (aa (ak bM 1 (Zi 1)) (Zv 1 aj)))) (aq 3) (BL)) (yZ (cB (Zv 2 aj))))
def lG:LD:=runN 4 lK
def iV:cu:=aM (bz (ao vI (aa (ak dC 0 (Zi 0)) (aa (bj 1) aj))) (gb 2 (bD (Ye 0 (Zi 0)) (bD (aq 2) gC)))) (bw (aP 2))
def aW:List D->Option (D×D):=jl 3 iV
def fG:Ev:=fY 4 5 (gJ (aa (au bM (Zi 1) (dR aW 0 (aa (Zi 4) aj))) aj)) (aq 4) cL (ak dC 1 (au Qs (ak bM 2 (ak pJ 3 (bj 4))) (Zi 26)))
def gW:cu:=aM (bz (Zw [97,98,99,100,101,102,103,104,105,106,107,108,109,110,111,112,113,114,115,116,117,118,119,120,121,122]) (aq 1)) (aM (bz (ig (aa (dR aW 0 (aa (Zi 26) aj)) (aa (au bM (Zi 1) (dR aW 0 (aa (Zi 25) aj))) aj))) (gb 2 (bD (aq 2) (bD (aq 3) gC)))) (bw (au lV (Zw []) (gk jo (fG)))))
def fj:List D->Option (D×D):=jl 4 gW
def nC:Ev:=fY 7 8 (gJ (aa (Zi 5) aj)) (aq 7) (cC (au jF (au Jc (ak Fp 5 (bj 7)) (Zi 1)) (Zi 1))) (ak dC 2 (bj 7))
def iR:cu:=aM (bz (dR aW 0 (aa (Zi 32) aj)) (aq 5)) (aM (bz (ao jE (aa (nC) aj)) (aq 6)) (tR 3 (ig (Zv 4 (aa (ao fX (aa (BW (aP 6) pL (o7 (Zi 4))) aj)) aj)))))
def oO:cu:=aM (bz (dR fj 0 aj) (aq 1)) (aM (bz (cB (aa (Zw [115,116,111,112]) (aa (Zw [115,116,111,112,115]) (aa (Zw [115]) (aa (Zw [111,112,101,110]) (aa (Zw [97,98,99,100,101,102,103,104]) aj)))))) (aq 2)) (aM (jh 3 (cB aj)) (aM (jX (fU (aP 1)) (aq 4) (iR)) (bw (ao fX (aa (bj 3) aj))))))
def jR:List D->Option (D×D):=jl 7 oO
def yC:Ev:=gH.j5
def Gb:cu:=bw (au lV (Zw []) (yC))
def gV:LD:=dO 1 Gb
def nD:Ev:=fY 4 5 (gJ (aa (ao cT (aa (bj 3) aj)) aj)) (aq 4) (cC (au jF (au Jc (ak Fp 2 (bj 4)) (Zi 1)) (Zi 1))) (ak dC 3 (bj 4))
def gK:cu:=aM (eQ (cC (au jF (dR aW 0 (aa (Zi 2) aj)) (Zi 0))) (bw (jr .non)) bU) (aM (bz (au bM (Zi 1) (dR aW 0 (aa (au BV (au Qq (Zi 2) (ao cT (aa (bj 1) aj))) (Zi 1)) aj))) (aq 2)) (aM (bz (au bM (Zw [35]) (bj 1)) (aq 3)) (bw (ao fX (aa (nD) aj)))))
def dI:List D->Option (D×D):=jl 4 gK
def lD:Ev:=fY 6 7 (fU (au bM (ao Dj (aa (bj 1) aj)) (cB (aa (Zw []) aj)))) (aq 6) (cC (ak qJ 6 (bj 4))) (aP 6)
def lE:cu:=aM (bz (ak dC 1 (dR aW 0 (aa (ao cT (aa (bj 1) aj)) aj))) (aq 4)) (aM (jh 5 (lD)) (ue 2 (aP 4) (ak dC 5 (dR aW 0 (aa (ao cT (aa (bj 5) aj)) aj)))))
def lC:Ev:=fY 6 7 (fU (ao jE (aa (bj 2) aj))) (aq 6) cL (ig (Zv 6 (aa (ak mz 2 (bj 6)) aj)))
def eO:cu:=aM (eQ (cC (au jF (dR aW 0 (aa (Zi 5) aj)) (Zi 0))) (bw (ig (aa (ig (aa (Zw []) (aa (ak dC 1 (dR aW 0 (aa (ao cT (aa (bj 1) aj)) aj))) aj))) aj))) bU) (aM (jh 2 (Fx)) (aM (jX (gJ (aa (au bM (Zi 1) (dR aW 0 (aa (Zi 3) aj))) aj)) (aq 3) (lE)) (bw (ao fX (aa (lC) aj)))))
def eN:List D->Option (D×D):=jl 6 eO
def qC:cu:=aM (bz (au dC (cB (aa (Zw [111,110,99,101]) (aa (Zw [97,108,111,110,103]) aj))) (dR aW 0 (aa (Zi 2) aj))) (aq 2)) (aM (bz (dR eN 0 (Zv 1 aj)) (aq 3)) (bw (ig (Zv 2 (Zv 3 (aa (dR dI 0 (Zv 1 aj)) (aa (dR dI 0 (Zv 1 aj)) aj)))))))
def lF:List D->Option (D×D):=jl 4 qC
def gG:cu:=aM (eQ (cC (ak QZ 0 (jr .non))) (bw (Zw [42])) bU) (bw (au uD (Zw []) (bj 0)))
def cG:LD:=dO 1 gG
def cg:cu:=bz (au bM (au bM (au bM (ak bM 5 (Zw [32])) (au dC (ak bM 6 (Zw [48])) (Zi 0))) (Zw [62])) (au dC (ak bM 7 (Zw [48])) (Zi 0))) (aq 5)
def jJ:cu:=aM (bz (aP 0) (gb 4 (bD (aq 1) (bD (aq 2) (bD (aq 3) (bD (aq 4) gC)))))) (aM (bz (aP 1) (aq 5)) (aM (jX (fU (aP 2)) (gb 2 (bD (aq 6) (bD (aq 7) gC))) (cg)) (bw (au bM (au bM (au bM (ak bM 5 (Zw [32,47,32])) (ao cG (Zv 3 aj))) (Zw [32,95,32])) (ao cG (Zv 4 aj))))))
def fL:LD:=dO 8 jJ
def uI:cu:=aM (bz (dR aW 0 (aa (au bM (ao cT (aa (bj 1) aj)) (Zi 1)) aj)) (aq 2)) (aM (bz (cB (aa (Zw []) (aa (Zw [32]) (aa (Zw [62]) (aa (Zw [47]) (aa (Zw [95]) (aa (Zw [42]) (aa (Zw [35]) (aa (Zw [97]) (aa (Zw [48]) (aa (Zw [91,115,116,111,112,93]) (aa (Zw [91,115,93]) (aa (Zw [98]) (aa (Zw [32,97,62,48]) (aa (Zw [97,108,111,110,103]) (aa (Zw [109]) (aa (Zw [32,32]) aj))))))))))))))))) (aq 3)) (bw (au bM (au bM (jV (aP 1) pL (o7 (aP 2))) (ak dC 3 (dR aW 0 (aa (Zi 16) aj)))) (jV (aP 1) (o7 (ak bM 2 (dR aW 0 (aa (Zi 3) aj)))) pL))))
def uF:List D->Option (D×D):=jl 4 uI
def lB:Ev:=fY 7 8 (fU (aP 3)) (aq 7) cL (ju (gk (Iw Ay) (aP 7)) (ju (gk (Iw zT) (aP 7)) (au gLt (ao cT (aa (bj 7) aj)) (Zi 9))))
def lA:Ev:=fY 9 10 (fU (aP 3)) (aq 9) cL (ak Bh 9 (bj 8))
def lz:Ev:=fY 7 9 (fU (aP 0)) (gb 2 (bD (aq 7) (bD (aq 8) gC))) (cC (ao qw (aa (lA) aj))) (aP 7)
def lu:Ev:=fY 7 8 (fU (aP 1)) (aq 7) cL (ak Bh 7 (bj 5))
def pH:Ev:=fY 7 8 (fU (aP 1)) (aq 7) cL (au d7 (aP 5) (bj 7))
def jx:cu:=aM (bz (ao gV (Zv 0 aj)) (aq 2)) (aM (eQ (cC (ak jF 1 (Zw [42]))) (bw (cB (aa (jr .non) aj))) bU) (aM (eQ (iz (cC (au V2 (ao cT (aa (bj 1) aj)) (Zi 2))) (iz (cC (au jF (ak dC 1 (Zi 0)) (Zw [91]))) (cC (au jF (ak dC 1 (gk IW (Zi 1))) (Zw [93]))))) (aM (bz (au dB (jV (aP 1) (o7 (Zi 1)) (o7 (gk IW (Zi 1)))) (Zw [32])) (aq 3)) (aM (eQ (dX (cC (ao qw (aa (lB) aj)))) (bw (cB aj)) bU) (aM (bz (ao fX (aa (lz) aj)) (aq 4)) (bw (jV (cB (Zv 4 aj)) pL (o7 (ao Ac (aa (ak qJ 4 (ig aj)) aj)))))))) bU) (aM (bz (au bM (Zw [35]) (bj 2)) (aq 5)) (aM (eQ (du (cC (ak jF 1 (Zw []))) (dX (cC (ao qw (aa (lu) aj))))) (bw (cB aj)) bU) (aM (jh 6 (pH)) (bw (jV (cB (aa (ao Iv (aa (bj 1) aj)) aj)) pL (o7 (ao Ac (aa (ak jF 6 (gk sZ (aP 6))) aj))))))))))
def o6:LD:=dO 7 jx
def bF:cu:=aM (eQ (du (cC (au qJ (ao cT (aa (bj 4) aj)) (Zi 3))) (du (cC (au qJ (ak dC 4 (Zi 1)) (Zw [62]))) (cC (au jF (ak dC 4 (Zi 0)) (ak dC 4 (Zi 2)))))) (bw (jr .non)) bU) (aM (eQ (du (cC (au gQ (ak dC 4 (Zi 0)) (ak bM 2 (Zw [48])))) (cC (au gQ (ak dC 4 (Zi 2)) (ak bM 2 (Zw [48]))))) (bw (jr .non)) bU) (tR 3 (ig (aa (gk (Ab [48] []) (ak dC 4 (Zi 0))) (aa (gk (Ab [48] []) (ak dC 4 (Zi 2))) aj)))))
def jj:Ev:=fY 6 8 (fU (aP 3)) (gb 2 (bD (aq 6) (bD (aq 7) gC))) cL (aP 6)
def xF:cu:=aM (bz (ao gV (Zv 0 aj)) (aq 2)) (aM (jh 3 (cB aj)) (aM (jX (fU (aP 1)) (aq 4) (bF)) (aM (jh 5 (jj)) (aM (eQ (du (cC (ak jF 3 (cB aj))) (du (cC (au V2 (ao cT (aa (bj 3) aj)) (Zi 4))) (du (cC (ak qJ 5 (gk jo (aP 5)))) (iz (cC (au Bh (Zw []) (bj 5))) (cC (au V2 (ao cT (aa (bj 3) aj)) (Zi 1))))))) (bw (jr .non)) bU) (bw (ao fX (aa (bj 3) aj)))))))
def iZ:LD:=dO 6 xF
def vm:Ev:=fY 6 7 (fU (au dB (ak dC 2 (Zi 1)) (Zw [32,95,32]))) (aq 6) cL (ao o6 (Zv 0 (Zv 6 aj)))
def QS:cu:=aM (bz (au dB (aP 1) (Zw [32,47,32])) (aq 2)) (aM (eQ (du (cC (au qJ (ao cT (aa (bj 2) aj)) (Zi 2))) (cC (au qJ (ao cT (aa (au dB (ak dC 2 (Zi 1)) (Zw [32,95,32])) aj)) (Zi 2)))) (bw (jr .non)) bU) (aM (bz (au dB (ak dC 2 (Zi 0)) (Zw [32])) (aq 3)) (aM (bz (ao iZ (Zv 0 (aa (jV (aP 3) (o7 (Zi 1)) pL) aj))) (aq 4)) (aM (jh 5 (vm)) (aM (eQ (du (cC (au gQ (ak dC 3 (Zi 0)) (cB (aa (Zw [111,110,99,101]) (aa (Zw [97,108,111,110,103]) aj))))) (du (cC (ak QZ 4 (jr .non))) (cC (au Bh (cB aj) (bj 5))))) (bw (jr .non)) bU) (bw (ig (aa (ak dC 3 (Zi 0)) (Zv 4 (aa (au dC (ak dC 5 (Zi 0)) (Zi 0)) (aa (au dC (ak dC 5 (Zi 1)) (Zi 0)) aj)))))))))))
def jT:LD:=dO 6 QS
def nR:cu:=aM (bz (jr .non) (aq 2)) (aM (wK (bz (ao jQ (Zv 0 (Zv 1 aj))) (aq 2)) (qx cZ (Zv 0 (Zv 1 aj))) (Ny 2 3 "NoText" "part" [119,114,111,110,103]) 3 "NoText" "part") (bw (aP 2)))
def nJ:LD:=dO 4 nR
def zW:cu:=bz (dR uF 2 (Zv 6 aj)) (aq 6)
def vp:cu:=aM (bz (aP 4) (aq 6)) (aM (jX (gJ (aa (au bM (Zi 1) (dR aW 2 (aa (Zi 2) aj))) aj)) (aq 7) (zW)) (aM (bz (ao jT (Zv 3 (Zv 6 aj))) (aq 8)) (aM (eQ (cC (au qJ (ao nJ (Zv 3 (Zv 6 aj))) (bj 8))) (bw (jr (.bl false))) bU) (eQ (iz (cC (ak xC 8 (jr .non))) (cC (au qJ (ao nJ (Zv 3 (aa (ao iT (Zv 8 aj)) aj))) (bj 8)))) (bw (jr (.bl false))) bU))))
def vo:cu:=aM (jh 2 (ao lG (Zv 0 (Zv 1 aj)))) (aM (bz (dR jR 2 aj) (aq 3)) (aM (bz (ao fL (aa (dR lF 2 (aa (ao gV (Zv 3 aj)) aj)) aj)) (aq 4)) (jX (gJ (aa (Zi 6) aj)) (aq 5) (vp))))
def afR:cu:=aM (jX (gJ (aa (Zi 0) (aa (ao Qu (aa (Zi 1) (aa (ao Qt (aa (ao cT (aa (bj 0) aj)) (aa (Zi 16) aj))) aj))) (aa (Zi 2) aj)))) (aq 1) (vo)) (bw (jr (.bl true)))
def Nx:LD:=dO 9 afR
end
open PySem PySem.Spec PyProof.Rows L2 Ev
def top(i:Nat):Stmt:=PySem.Challenge.pw_soundrules_k75_whole_texts_of_rules.main.body.getD i (.Pass ⟨0,0,0,0⟩)
abbrev Ej:Stmt:=top 5
abbrev wW:Stmt:=top 6
abbrev rn:Stmt:=top 7
abbrev rz:Stmt:=top 8
abbrev mj:Stmt:=top 11
abbrev oW:Stmt:=top 12
abbrev oZ:Stmt:=top 13
abbrev rJ:Stmt:=top 14
abbrev wV:Stmt:=top 15
abbrev rC:Stmt:=top 19
abbrev pY:Stmt:=top 20
abbrev pZ:Stmt:=top 21
abbrev rA:Stmt:=top 22
abbrev p6:Stmt:=top 23
abbrev p7:Stmt:=top 24
abbrev p8:Stmt:=top 25
abbrev rB:Stmt:=top 26
abbrev rF:Stmt:=top 28
abbrev um:Stmt:=top 29
abbrev ug:Stmt:=top 30
abbrev jL:Stmt:=top 31
abbrev rD:Stmt:=top 32
abbrev qb:Stmt:=top 33
abbrev rE:Stmt:=top 34
abbrev oY:Stmt:=top 35
abbrev uh:Stmt:=top 36
abbrev kY:Stmt:=top 37
abbrev lZ:Stmt:=top 38
abbrev uo:Stmt:=top 39
abbrev oX:Stmt:=top 40
abbrev kZ:Stmt:=top 41
abbrev wU:Stmt:=top 42
abbrev uf:Stmt:=top 43
abbrev RW:Stmt:=top 44
abbrev rG:Stmt:=inClass (top 2) 0
theorem WD:bA ["self","part"] ["self","part"] (aG rG):=iH
structure Top(K:Fg)(mg:Str->Option Value):Prop where
 uy:mg "all" = none
 Qg:mg "divmod" = none
 Ue:mg "int" = none
 ir:mg "isinstance" = none
 gA:mg "len" = none
 XH:mg "list" = none
 acx:mg "max" = none
 acw:mg "min" = none
 lQ:mg "range" = none
 Kv:mg "set" = none
 pG:mg "sorted" = none
 Ud:mg "str" = none
 dZ:mg "tuple" = none
 sW:∀d:D,PySem.W.kitOne K (.type (Wl d)) (.type "str")=some (vz d "str")
 jP:∀d:D,PySem.W.kitOne K (.type (Wl d)) (.type "tuple")=some (vz d "tuple")
 Cq:XK1 K mg "NoText" "part" (V3 K "NoText")
 pt:Gk K "NoText" "part"
 QM:Below K mg "NoText" "NoText" (V3 K "NoText")
 eF:Glb K mg "ALL_FITS" (.str [42])
 vD:Glb K mg "EDGE" (.str [35])
 eE:Glb K mg "NO_SOUND" (.str [48])
 mH:Glb K mg "WAYS" (.tup [(.str [111,110,99,101]),(.str [97,108,111,110,103])])
 Wo:cX K mg "rises" Ej ["things"]
 O3:cX K mg "is_pair" wW ["thing"]
 G3:cX K mg "sounds_of" rn ["stock"]
 G4:cX K mg "sounds_by" rz ["stock","marks"]
 yu:cX K mg "changes_sound" mj Lk
 Bj:cX K mg "puts_one_in" oW Lk
 Bm:cX K mg "are_changes" oZ Lk
 G9:cX K mg "are_signs" rJ Lk
 O2:cX K mg "is_rule" wV ["stock","thing"]
 xO:cX K mg "need_text" rC ["thing"]
 Dz:cX K mg "show_sound" pY ["sound"]
 DG:cX K mg "show_signs" pZ ["signs"]
 G5:cX K mg "show_rule" rA ["rule"]
 DK:cX K mg "read_sound" p6 ["text"]
 DN:cX K mg "read_signs" p7 VJ
 DP:cX K mg "read_parts" p8 VJ
 xN:cX K mg "read_rule" rB VJ
 G8:cX K mg "_law_mixed" rF ["_law_cell"]
 J1:cX K mg "_law_pack" um ["_law_script","_law_k"]
 JZ:cX K mg "_law_take" ug Zq7
 t8:cX K mg "_law_drawn_sounds" jL Zq4
 G6:cX K mg "_law_stock" rD Zq4
 DQ:cX K mg "_law_sounds" qb Zq5
 G7:cX K mg "_law_signs" rE Y0
 Bl:cX K mg "_law_changes" oY Y0
 J0:cX K mg "_law_rule" uh Y0
 wH:cX K mg "_law_signs_text" kY Zq6
 yt:cX K mg "_law_rule_text" lZ ["_law_rule_here"]
 J2:cX K mg "_law_bent" uo Zq8
 Bk:cX K mg "_law_side_of" oX YZ
 wI:cX K mg "_law_changes_of" kZ Zq9
 O1:cX K mg "_law_due" wU YZ
 JX:cX K mg "_law_told" uf YZ
section
variable{P:Program}{w:World}{K:Fg}{mg:Str->Option Value}{base:Heap}(Z:Top K mg)
theorem RT:bA ["things"] ["things"] (aG Ej):=iH
include Z in
theorem MN:Own P w K mg base "rises" 1 ["things"] (qT K 1 mJ):=by exact cA Z.Wo RT<|λf cdv A outer s H E hr G=>(fV.u<|aF<|aV<|t7 G Z.uy<|aX<|aH<|bT<|kI ["things","at"] 1 fB G (qm Z.lQ (aC (cO aao (gq G Z.gA<|aX<|bV 0)<|aH aK) aA)<|bN len0) (λX1 h1=>by obtain⟨_,_,_,_,_,rfl⟩:=h1;exact aZ 1) (λ_ _=>cN) (λX1 h1=>by have G:=G.at h1;obtain⟨_,_,_,_,_,rfl⟩:=h1;exact(yS afL (dg 0 G<|bV 1)<|aH<|dg 0 G<|aH<|fC 1 (dJ G)<|aH aK)))
theorem Ke:bA ["thing"] ["thing"] (aG wW):=iH
include Z in
theorem CZ:Own P w K mg base "is_pair" 1 ["thing"] (qT K 1 pK):=by exact cA Z.O3 Ke<|λf cdv A outer s H E hr G=>(fV.u<|aF<|aV<|jB (sO rfl Z.ir rfl Z.dZ (by decide +kernel) Z.jP G.K (bf 0))<|mG<|yS (nY G) (gq G Z.gA<|aX<|bV 0)<|aH aK)
theorem Eb:bA ["stock"] ["stock"] (aG rn):=iH
include Z in
theorem HH:Own P w K mg base "sounds_of" 1 ["stock"] (qT K 1 lX):=by exact cA Z.G3 Eb<|λf cdv A outer s H E hr G=>(fV.u<|aF<|aV<|jk G Z.dZ<|aX<|aH<|bT<|kI ["stock","sound","marks"] 1 fB G (fc G<|bf 0) (λX1 h1=>by have G:=G.at h1;obtain⟨_,_,_,_,_,rfl⟩:=h1;exact(j6 G<|bh (aZ 1)<|bh (aZ 2) dU)) (λ_ _=>cN) (λX1 h1=>by obtain⟨_,_,_,_,_,rfl⟩:=h1;exact bf 1))
theorem Ec:bA ["stock","marks"] ["stock","marks"] (aG rz):=iH
include Z in
theorem HJ:Own P w K mg base "sounds_by" 1 ["stock","marks"] (qT K 2 oG):=by exact cA Z.G4 Ec<|λf cdv A outer s H E hr G=>(fV.u<|aF<|aV<|jk G Z.dZ<|aX<|aH<|bT<|kI ["stock","marks","sound","own"] 2 fB G (fc G<|bf 0) (λX1 h1=>by have G:=G.at h1;obtain⟨_,_,_,_,_,rfl⟩:=h1;exact(j6 G<|bh (aZ 2)<|bh (aZ 3) dU)) (λX1 h1=>by have G:=G.at h1;obtain⟨_,_,_,_,_,rfl⟩:=h1;exact(pB<|eY<|t7 G Z.uy<|aX<|aH<|bT<|kI ["stock","marks","sound","own","mark"] 4 fB G (fc G<|bf 1) (λX1 h1=>by obtain⟨_,_,_,_,_,rfl⟩:=h1;exact aZ 4) (λ_ _=>cN) (λX1 h1=>by have G:=G.at h1;obtain⟨_,_,_,_,_,rfl⟩:=h1;exact(jA 4 (Ca G)<|bV 3)))) (λX1 h1=>by obtain⟨_,_,_,_,_,rfl⟩:=h1;exact bf 2))
theorem wR:bA ["sounds","thing","old","new"] Lk (aG mj):=iH
include Z in
theorem yz:Own P w K mg base "changes_sound" 2 Lk (qT K 2 jG):=by
 exact cA (k:=1) Z.yu wR (λf cdv A outer s H E hr G=>(fV.u (az (cM (ie (eY (cz (CZ Z) G hr (ji 1 aA) (bN len0)))) (aF (aV qd)) bK)
   (az (pA (bf 1) (j6 G (bh (aZ 2) (bh (aZ 3) dU))))
   (aF (aV (jB (jA 2 (Ca G) (bV 0)) (jB (S9 (jA 3 (Ca G) (bV 0)) (mG (jA 3 (nY G) (aH (aU []))))) (mG (jA 2 (Av G) (bV 3)))))))))))
theorem zq:bA Lk Lk (aG oW):=iH
include Z in
theorem Bx:Own P w K mg base "puts_one_in" 2 Lk (qT K 2 eG):=by exact cA Z.Bj zq<|λf cdv A outer s H E hr G=>(fV.u<|aF<|aV<|jB (cz (CZ Z) G hr (ji 1 aA)<|bN len0)<|jB (yS (nY G) (dg 1 G<|aH aK)<|aH<|aU [])<|mG<|yS (Ca G) (dg 1 G<|aH aK)<|bV 0)
theorem zx:bA Lk Lk (aG oZ):=iH
include Z in
theorem BK:Own P w K mg base "are_changes" 3 Lk (qT K 2 lM):=by
 exact cA (k:=2) Z.Bm zx (λf cdv A outer s H E hr G=>(fV.u (az (cM (gZ (gO (ie (eY (sO (T:="tuple") rfl Z.ir rfl Z.dZ (by decide +kernel) Z.jP G.K (bf 1)))) (iI (dw (nY G) (gq G Z.gA (aX (bV 1))) (aH aK))))) (aF (aV qd)) bK)
   (az (cM (gZ (rK (dw (nY G) (gq G Z.gA (aX (bV 1))) (aH aK)) (sJ (eY (cz (Bx Z) G hr (ji 0 (aC (dg 1 G (aH aK)) aA)) (bN (bN len0))))))) (aF (aV qd)) bK)
   (aF (aV (jB (t7 G Z.uy (aX (aH (bT (kI ["sounds","thing","change"] 2 fB G (fc G (bf 1)) (λX1 h1=>by obtain⟨_,_,_,_,_,rfl⟩:=h1;exact aZ 2) (λ_ _=>cN) (λX1 h1=>by have G:=G.at h1;obtain⟨_,_,_,_,_,rfl⟩:=h1;exact(cz (yz Z) G hr (ji 0 (ji 2 aA)) (bN (bN len0))))))))) (mG (cz (MN Z) G hr (aC (bT (kI ["sounds","thing","old","new"] 2 fB G (fc G (bf 1)) (λX1 h1=>by have G:=G.at h1;obtain⟨_,_,_,_,_,rfl⟩:=h1;exact(j6 G (bh (aZ 2) (bh (aZ 3) dU)))) (λ_ _=>cN) (λX1 h1=>by obtain⟨_,_,_,_,_,rfl⟩:=h1;exact bf 2))) aA) (bN len0))))))))))
theorem Ei:bA Lk Lk (aG rJ):=iH
include Z in
theorem xX:Own P w K mg base "are_signs" 2 Lk (qT K 2 lY):=by
 obtain⟨agt,agx,vD⟩:=Z.vD;exact cA (k:=1) Z.G9 Ei (λf cdv A outer s H E hr G=>(fV.u (az (cM (iB 1 YG (aH fQ)) (aF (aV qd)) bK)
   (az (cM (gZ (gO (ie (eY (sO (T:="tuple") rfl Z.ir rfl Z.dZ (by decide +kernel) Z.jP G.K (bf 1)))) (iI (dw (nY G) (gq G Z.gA (aX (bV 1))) (aH aK))))) (aF (aV qd)) bK)
   (aF (aV (jB (t7 G Z.uy (aX (aH (bT (kI ["sounds","thing","sign"] 2 fB G (fc G (bf 1)) (λX1 h1=>by obtain⟨_,_,_,_,_,rfl⟩:=h1;exact aZ 2) (λ_ _=>cN) (λX1 h1=>by have G:=G.at h1;obtain⟨_,_,_,_,_,rfl⟩:=h1;exact(S9 (jA 2 (nY G) (aH (pC (.str [35]) rfl vD.1 vD.2.1 (λF=>vD.2.2 F)))) (mG (jA 2 (Ca G) (bV 0)))))))))) (mG (cz (MN Z) G hr (ji 1 aA) (bN len0))))))))))
theorem Kd:bA ["stock","thing","way","changes","left","right","sounds"] ["stock","thing"] (aG wV):=iH
include Z in
theorem CV:Own P w K mg base "is_rule" 4 ["stock","thing"] (qT K 2 jU):=by
 obtain⟨ags,agw,mH⟩:=Z.mH;exact cA (k:=3) Z.O2 Kd (λf cdv A outer s H E hr G=>(fV.u (az (cM (gZ (gO (ie (eY (sO (T:="tuple") rfl Z.ir rfl Z.dZ (by decide +kernel) Z.jP G.K (bf 1)))) (iI (dw (Av G) (gq G Z.gA (aX (bV 1))) (aH aK))))) (aF (aV qd)) bK)
   (az (pA (bf 1) (j6 G (bh (aZ 2) (bh (aZ 3) (bh (aZ 4) (bh (aZ 5) dU))))))
   (az (bZ 6 (cz (HH Z) G hr (ji 0 aA) (bN len0)))
   (aF (aV (jB (jA 2 (Ca G) (aH (pC (.tup [(.str [111,110,99,101]),(.str [97,108,111,110,103])]) rfl mH.1 mH.2.1 (λF=>mH.2.2 F)))) (jB (cz (BK Z) G hr (ji 6 (ji 3 aA)) (bN (bN len0))) (jB (cz (xX Z) G hr (ji 6 (ji 4 aA)) (bN (bN len0))) (mG (cz (xX Z) G hr (ji 6 (ji 5 aA)) (bN (bN len0))))))))))))))
theorem uU:bA ["thing"] ["thing"] (aG rC):=iH
include Z in
theorem Et:QV P w K mg base "need_text" 3 ["thing"] (ZJ K 1 qW (V3 K "NoText") "part"):=by exact CT (k:=2) Z.xO uU (V3 K "NoText") "part" (λf cdv A outer s H E d hr hE G=>(yK<|ZV (Lp.u<|ie<|eY<|sO (T:="str") rfl Z.ir rfl Z.Ud (by decide +kernel) Z.sW G.K (bf 0)) (yK (ZR (k:=0) Z.Cq (hr.mono (by decide)) hE (SX.u fQ))) (zF (fV.u bK))))
include Z in
theorem xV:Own P w K mg base "need_text" 3 ["thing"] (qT K 1 oH):=by exact cA Z.xO uU<|λf cdv A outer s H E hr G=>(fV.u<|aF<|cM (ie<|eY<|sO rfl Z.ir rfl Z.Ud (by decide +kernel) Z.sW G.K (bf 0)) (aF zB) bK)
theorem Bp:bA ["sound"] ["sound"] (aG pY):=iH
include Z in
theorem u6:Own P w K mg base "show_sound" 1 ["sound"] (qT K 1 gR):=by obtain⟨JN,JQ,eE⟩:=Z.eE;exact cA Z.Dz Bp<|λf cdv A outer s H E hr G=>(fV.u<|aF<|aV<|Ko (iB 0 (nY G)<|aH<|aU []) (pC (.str [48]) rfl eE.1 eE.2.1 (λF=>eE.2.2 F))<|bf 0)
theorem Bq:bA ["signs"] ["signs"] (aG pZ):=iH
include Z in
theorem u9:Own P w K mg base "show_signs" 1 ["signs"] (qT K 1 gU):=by obtain⟨JP,JR,eF⟩:=Z.eF;exact cA Z.DG Bq<|λf cdv A outer s H E hr G=>(fV.u<|aF<|aV<|Ko (iB 0 YG<|aH fQ) (pC (.str [42]) rfl eF.1 eF.2.1 (λF=>eF.2.2 F))<|Gy G (aU [])<|bV 0)
theorem Ed:bA ["rule","way","changes","left","right","shown"] ["rule"] (aG rA):=iH
include Z in
theorem HN:Own P w K mg base "show_rule" 2 ["rule"] (qT K 1 iT):=by
 exact cA (k:=1) Z.G5 Ed (λf cdv A outer s H E hr G=>(fV.u (az (pA (bf 0) (j6 G (bh (aZ 1) (bh (aZ 2) (bh (aZ 3) (bh (aZ 4) dU))))))
   (az (Hs ["rule","way","changes","left","right","shown","old","new"] 6 5 fB G (fc G (bf 2)) (λX1 h1=>by have G:=G.at h1;obtain⟨_,_,_,_,_,rfl⟩:=h1;exact(j6 G (bh (aZ 6) (bh (aZ 7) dU)))) (λ_ _=>cN) (λX1 h1=>by have G:=G.at h1;obtain⟨_,_,_,_,_,rfl⟩:=h1;exact(aaT [62] (by decide +kernel) (cz (u6 Z) G hr (ji 6 aA) (bN len0)) (cz (u6 Z) G hr (ji 7 aA) (bN len0)))))
   (aF (aV (uL G (aU [32]) (aH (cO (dJ G) (cO (dJ G) (bT (di (ji 1 aA))) (bV 5)) (aH (bT (di (aC (aU [47]) (aC (cz (u9 Z) G hr (ji 3 aA) (bN len0)) (aC (aU [95]) (aC (cz (u9 Z) G hr (ji 4 aA) (bN len0)) aA))))))))))))))))
theorem Br:bA ["text"] ["text"] (aG p6):=iH
include Z in
theorem Ex:Own P w K mg base "read_sound" 1 ["text"] (qT K 1 j7):=by
 obtain⟨JN,JQ,eE⟩:=Z.eE;exact cA (k:=0) Z.DK Br (λf cdv A outer s H E hr G=>(fV.u (az (cM (iB 0 (nY G) (aH (aU []))) (aF (aV fQ)) bK)
   (aF (aV (Ko (iB 0 (nY G) (aH (pC (.str [48]) rfl eE.1 eE.2.1 (λF=>eE.2.2 F)))) (aU []) (bf 0)))))))
theorem Bt:bA VJ VJ (aG p7):=iH
include Z in
theorem vd:Own P w K mg base "read_signs" 2 VJ (qT K 2 d8):=by
 obtain⟨JP,JR,eF⟩:=Z.eF;exact cA (k:=1) Z.DN Bt (λf cdv A outer s H E hr G=>(fV.u (az (cM (iB 1 (nY G) (aH (pC (.str [42]) rfl eF.1 eF.2.1 (λF=>eF.2.2 F)))) (aF (aV fQ)) bK)
   (az (cM (gZ (gO (ie (eY (Oq G (bf 1) (aH (aU [91]))))) (iI (ie (eY (Wh G (bf 1) (aH (aU [93])))))))) (aF (aV (LC G Z.dZ (aX (bV 1))))) bK)
   (aF (aV (cz (HJ Z) G hr (ji 0 (aC (lN G (oV G (bf 1) (cQ aK) (cQ (JM aK))) (aH (aU [32]))) aA)) (bN (bN len0)))))))))
theorem Bu:bA ["stock","text","words","slash","line","changes","left"] VJ (aG p8):=iH
include Z in
theorem vf:Own P w K mg base "read_parts" 3 VJ (qT K 2 dF):=by
 exact cA (k:=2) Z.DP Bu (λf cdv A outer s H E hr G=>(fV.u (az (bZ 2 (lN G (bf 1) (aH (aU [32]))))
   (az (cM (gZ (gO (dw (vQ G) (aU [47]) (bV 2)) (iI (dw (vQ G) (aU [95]) (bV 2))))) (aF (aV fQ)) bK)
   (az (bZ 3 (Cu G (bf 2) (aH (aU [47]))))
   (az (bZ 4 (Cu G (bf 2) (aH (aU [95]))))
   (az (bZ 5 (jk G Z.dZ (aX (aH (bT (kI ["stock","text","words","slash","line","changes","left","word"] 7 fB G (fc G (oV G (bf 2) (cQ aK) (cQ (bf 3)))) (λX1 h1=>by obtain⟨_,_,_,_,_,rfl⟩:=h1;exact aZ 7) (λ_ _=>cN) (λX1 h1=>by have G:=G.at h1;obtain⟨_,_,_,_,_,rfl⟩:=h1;exact(jk G Z.dZ (aX (aH (bT (kI ["stock","text","words","slash","line","changes","left","word","side"] 8 fB G (fc G (lN G (bf 7) (aH (aU [62])))) (λX1 h1=>by obtain⟨_,_,_,_,_,rfl⟩:=h1;exact aZ 8) (λ_ _=>cN) (λX1 h1=>by have G:=G.at h1;obtain⟨_,_,_,_,_,rfl⟩:=h1;exact(cz (Ex Z) G hr (ji 8 aA) (bN len0)))))))))))))))
   (az (bZ 6 (cz (vd Z) G hr (ji 0 (aC (uL G (aU [32]) (aH (oV G (bf 2) (cQ (fC 3 (dJ G) (aH aK))) (cQ (bf 4))))) aA)) (bN (bN len0))))
   (aF (aV (lL (aC (dg 2 G (aH aK)) (ji 5 (ji 6 (aC (cz (vd Z) G hr (ji 0 (aC (uL G (aU [32]) (aH (oV G (bf 2) (cQ (fC 4 (dJ G) (aH aK))) lq))) aA)) (bN (bN len0))) aA)))))))))))))))
theorem uT:bA ["stock","text","rule"] VJ (aG rB):=iH
include Z in
theorem Es:QV P w K mg base "read_rule" 5 VJ (ZJ K 2 cZ (V3 K "NoText") "part"):=by
 exact CT (k:=4) Z.xN uT (V3 K "NoText") "part" (λf cdv A outer s H E d hr hE G=>(zG (abH (Sx (Et Z) (hr.mono (by decide)) rfl (Ol.u (ji 1 aA)) (bN len0) (adW hE)) (Gs.u (CN (cz (xV Z) G hr (ji 1 aA) (bN len0)))))
   (zG (ZS (Gs.u (bZ 2 (cz (vf Z) G hr (ji 0 (ji 1 aA)) (bN (bN len0))))))
   (zG (ZV (Lp.u (ie (eY (cz (CV Z) G hr (ji 0 (ji 2 aA)) (bN (bN len0)))))) (yK (ZR (k:=0) Z.Cq (hr.mono (by decide)) hE (SX.u aK))) (zF (fV.u bK)))
   (yK (ZS (Gs.u (aV (bf 2)))))))))
include Z in
theorem HQ:Own P w K mg base "read_rule" 5 VJ (qT K 2 jQ):=by
 exact cA (k:=4) Z.xN uT (λf cdv A outer s H E hr G=>(fV.u (az (CN (cz (xV Z) G hr (ji 1 aA) (bN len0)))
   (az (bZ 2 (cz (vf Z) G hr (ji 0 (ji 1 aA)) (bN (bN len0))))
   (az (cM (ie (eY (cz (CV Z) G hr (ji 0 (ji 2 aA)) (bN (bN len0))))) (aF zB) bK)
   (aF (aV (bf 2))))))))
theorem Eh:bA ["_law_cell"] ["_law_cell"] (aG rF):=iH
include Z in
theorem HS:Own P w K mg base "_law_mixed" 1 ["_law_cell"] (qT K 1 iU):=by exact cA Z.G8 Eh<|λf cdv A outer s H E hr G=>(fV.u<|aF<|aV<|cO aar (fC 0 Og<|aH aK)<|aH<|cO aaq aK<|aH aK)
theorem Hq:bA ["_law_script","_law_k","_law_found","_law_at"] ["_law_script","_law_k"] (aG um):=iH
include Z in
theorem Ks:Own P w K mg base "_law_pack" 2 ["_law_script","_law_k"] (spN K 2 lG):=by
 exact Xr (k:=1) Z.J1 Hq (λf cdv A outer s H E hr G=>(fV.u (az (bZ 2 aK)
   (az (rH G (fc G (bT (di (aC (fC 1 (dJ G) (aH aK)) (ji 1 aA))))) (aZ 3) (aF (bZ 2 (cO (dJ G) (fC 2 Og (aH (cO aaq aK (aH aK)))) (aH (cz (HS Z) G hr (aC (Cv G (cO (dJ G) (Zu G (bf 0) (cQ (bf 3)) (cQ (fC 3 (dJ G) (aH aK)))) (aH (bT (di (aC (cO (dJ G) (cO Og aK (bV 3)) (aH aK)) aA))))) (aH aK)) aA) (bN len0)))))))
   (aF (Hy (di (ji 2 aA))))))))
theorem Hn:bA ["_law_pack_here","_law_size","_law_digit"] Zq7 (aG ug):=iH
include Z in
theorem cJ:Own P w K mg base "_law_take" 1 Zq7 (wL K 2 aW):=by
 exact uw (k:=0) Z.JZ Hn (λf cdv A outer s H E a hr G=>(fV.u (az (pA (Ou G Z.Qg (uv (dg 0 G (aH aK)) (aX (bV 1)))) (j6 G (bh (afv 0 aK) (bh (aZ 2) dU))))
   (aF (aV (bf 2))))))
theorem tH:bA ["_law_pack_here","_law_letters","_law_at","_law_by"] Zq4 (aG jL):=iH
include Z in
theorem ux:Own P w K mg base "_law_drawn_sounds" 2 Zq4 (wL K 1 fj):=by
 exact uw (k:=1) Z.t8 tH (λf cdv A outer s H E a hr G=>(fV.u (az (bZ 1 (aU [97,98,99,100,101,102,103,104,105,106,107,108,109,110,111,112,113,114,115,116,117,118,119,120,121,122]))
   (az (pA (lL (aC (iG 0 (cJ Z) G hr (aC aK aA) (iJ (bN len0))) (aC (cO (dJ G) aK (aH (iG 0 (cJ Z) G hr (aC aK aA) (iJ (bN len0))))) aA))) (j6 G (bh (aZ 2) (bh (aZ 3) dU))))
   (aF (aV (uL G (aU []) (aH (yR G Z.pG Z.Kv (bT (kI ["_law_pack_here","_law_letters","_law_at","_law_by","_law_k"] 4 fB G (qm Z.lQ (aC (cO (dJ G) aK (aH (iG 0 (cJ Z) G hr (aC aK aA) (iJ (bN len0))))) aA) (bN len0)) (λX1 h1=>by obtain⟨_,_,_,_,_,rfl⟩:=h1;exact aZ 4) (λ_ _=>cN) (λX1 h1=>by have G:=G.at h1;obtain⟨_,_,_,_,_,rfl⟩:=h1;exact(dg 1 G (aH (cO aar (fC 2 (dJ G) (aH (fC 3 Og (bV 4)))) (aH aK))))))))))))))))
theorem Ef:bA ["_law_pack_here","_law_sounds_here","_law_known","_law_found","_law_sound","_law_number","_law_marks"] Zq4 (aG rD):=iH
include Z in
theorem HR:Own P w K mg base "_law_stock" 3 Zq4 (wL K 1 jR):=by
 exact uw (k:=2) Z.G6 Ef (λf cdv A outer s H E a hr G=>(fV.u (az (bZ 1 (iG 0 (ux Z) G hr aA (iJ len0)))
   (az (bZ 2 (bT (di (aC (aU [115,116,111,112]) (aC (aU [115,116,111,112,115]) (aC (aU [115]) (aC (aU [111,112,101,110]) (aC (aU [97,98,99,100,101,102,103,104]) aA))))))))
   (az (Ek 3 (di aA))
   (az (rH G (fc G (bf 1)) (aZ 4) (az (bZ 5 (iG 0 (cJ Z) G hr (aC aK aA) (iJ (bN len0))))
   (az (bZ 6 (Cr G Z.pG (aX (aH (bT (kI ["_law_pack_here","_law_sounds_here","_law_known","_law_found","_law_sound","_law_number","_law_marks","_law_k"] 7 fB G (qm Z.lQ (aC aK aA) (bN len0)) (λX1 h1=>by obtain⟨_,_,_,_,_,rfl⟩:=h1;exact aZ 7) (λX1 h1=>by have G:=G.at h1;obtain⟨_,_,_,_,_,rfl⟩:=h1;exact(pB (dw (nY G) (cO aas (fC 5 aap (bV 7)) (aH aK)) (aH aK)))) (λX1 h1=>by have G:=G.at h1;obtain⟨_,_,_,_,_,rfl⟩:=h1;exact(dg 2 G (bV 7)))))))))
   (aF (RZ 3 G (lL (ji 4 (aC (jk G Z.dZ (aX (aH (Zu G (bf 6) lq (cQ aK))))) aA))))))))
   (aF (aV (jk G Z.dZ (aX (bV 3)))))))))))
theorem Bv:bA Zq5 Zq5 (aG qb):=iH
include Z in
theorem qe:Own P w K mg base "_law_sounds" 1 Zq5 (qT K 1 gV):=by exact cA Z.DQ Bv<|λf cdv A outer s H E hr G=>(fV.u<|aF<|aV<|uL G (aU [])<|aH<|bT<|kI ["_law_stock_here","_law_sound","_law_marks"] 1 fB G (fc G<|bf 0) (λX1 h1=>by have G:=G.at h1;obtain⟨_,_,_,_,_,rfl⟩:=h1;exact(j6 G<|bh (aZ 1)<|bh (aZ 2) dU)) (λ_ _=>cN) (λX1 h1=>by obtain⟨_,_,_,_,_,rfl⟩:=h1;exact bf 1))
theorem Eg:bA ["_law_pack_here","_law_sounds_here","_law_number","_law_signs_here"] Y0 (aG rE):=iH
include Z in
theorem xW:Own P w K mg base "_law_signs" 2 Y0 (wL K 2 dI):=by
 exact uw (k:=1) Z.G7 Eg (λf cdv A outer s H E a hr G=>(fV.u (az (cM (dw (nY G) (iG 0 (cJ Z) G hr (aC aK aA) (iJ (bN len0))) (aH aK)) (aF (aV fQ)) bK)
   (az (bZ 2 (cO (dJ G) aK (aH (iG 0 (cJ Z) G hr (aC (cO aao (cO afQ aK (aH (gq G Z.gA (aX (bV 1))))) (aH aK)) aA) (iJ (bN len0))))))
   (az (bZ 3 (cO (dJ G) (aU [35]) (bV 1)))
   (aF (aV (jk G Z.dZ (aX (aH (bT (kI ["_law_pack_here","_law_sounds_here","_law_number","_law_signs_here","_law_k"] 4 fB G (qm Z.lQ (aC (gq G Z.gA (aX (bV 3))) aA) (bN len0)) (λX1 h1=>by obtain⟨_,_,_,_,_,rfl⟩:=h1;exact aZ 4) (λX1 h1=>by have G:=G.at h1;obtain⟨_,_,_,_,_,rfl⟩:=h1;exact(pB (dw (nY G) (cO aas (fC 2 aap (bV 4)) (aH aK)) (aH aK)))) (λX1 h1=>by have G:=G.at h1;obtain⟨_,_,_,_,_,rfl⟩:=h1;exact(dg 3 G (bV 4)))))))))))))))
theorem zu:bA ["_law_pack_here","_law_sounds_here","_law_found","_law_turn","_law_one","_law_others"] Y0 (aG oY):=iH
include Z in
theorem BJ:Own P w K mg base "_law_changes" 2 Y0 (wL K 2 eN):=by
 exact uw (k:=1) Z.Bl zu (λf cdv A outer s H E a hr G=>(fV.u (az (cM (dw (nY G) (iG 0 (cJ Z) G hr (aC aK aA) (iJ (bN len0))) (aH aK)) (aF (aV (lL (aC (lL (aC (aU []) (aC (dg 1 G (aH (iG 0 (cJ Z) G hr (aC (gq G Z.gA (aX (bV 1))) aA) (iJ (bN len0))))) aA))) aA)))) bK)
   (az (Ek 2 Pq)
   (az (rH G (qm Z.lQ (aC (cO (dJ G) aK (aH (iG 0 (cJ Z) G hr (aC aK aA) (iJ (bN len0))))) aA) (bN len0)) (aZ 3) (az (bZ 4 (dg 1 G (aH (iG 0 (cJ Z) G hr (aC (gq G Z.gA (aX (bV 1))) aA) (iJ (bN len0))))))
   (az (Hs ["_law_pack_here","_law_sounds_here","_law_found","_law_turn","_law_one","_law_others","_law_sound"] 6 5 fB G (fc G (cO (dJ G) (Wg G Z.XH (aX (bV 1))) (aH (bT (di (aC (aU []) aA)))))) (λX1 h1=>by obtain⟨_,_,_,_,_,rfl⟩:=h1;exact aZ 6) (λX1 h1=>by have G:=G.at h1;obtain⟨_,_,_,_,_,rfl⟩:=h1;exact(pB (iB 6 (Av G) (bV 4)))) (λX1 h1=>by obtain⟨_,_,_,_,_,rfl⟩:=h1;exact bf 6))
   (aF (WL 2 G (bf 4) (dg 5 G (aH (iG 0 (cJ Z) G hr (aC (gq G Z.gA (aX (bV 5))) aA) (iJ (bN len0))))))))))
   (aF (aV (jk G Z.dZ (aX (aH (bT (kI ["_law_pack_here","_law_sounds_here","_law_found","_law_turn","%4","_law_others","_law_one"] 6 fB G (fc G (Cr G Z.pG (aX (bV 2)))) (λX1 h1=>by obtain⟨_,_,_,_,_,rfl⟩:=h1;exact aZ 6) (λ_ _=>cN) (λX1 h1=>by have G:=G.at h1;obtain⟨_,_,_,_,_,rfl⟩:=h1;exact(lL (ji 6 (aC (Rc 2 G (bV 6)) aA))))))))))))))))
theorem Ho:bA ["_law_pack_here","_law_sounds_here","_law_how","_law_changes_here"] Y0 (aG uh):=iH
include Z in
theorem Kr:Own P w K mg base "_law_rule" 3 Y0 (wL K 2 lF):=by
 exact uw (k:=2) Z.J0 Ho (λf cdv A outer s H E a hr G=>(fV.u (az (bZ 2 (Cv G (bT (di (aC (aU [111,110,99,101]) (aC (aU [97,108,111,110,103]) aA)))) (aH (iG 0 (cJ Z) G hr (aC aK aA) (iJ (bN len0))))))
   (az (bZ 3 (iG 0 (BJ Z) G hr (ji 1 aA) (iJ (bN len0))))
   (aF (aV (lL (ji 2 (ji 3 (aC (iG 0 (xW Z) G hr (ji 1 aA) (iJ (bN len0))) (aC (iG 0 (xW Z) G hr (ji 1 aA) (iJ (bN len0))) aA)))))))))))
theorem uV:bA Zq6 Zq6 (aG kY):=iH
include Z in
theorem pF:Own P w K mg base "_law_signs_text" 1 Zq6 (qT K 1 cG):=by
 exact cA (k:=0) Z.wH uV (λf cdv A outer s H E hr G=>(fV.u (az (cM (iB 0 YG (aH fQ)) (aF (aV (aU [42]))) bK)
   (aF (aV (Gy G (aU []) (bV 0)))))))
theorem wQ:bA ["_law_rule_here","_law_how","_law_changes_here","_law_first","_law_second","_law_found","_law_one","_law_other"] ["_law_rule_here"] (aG lZ):=iH
include Z in
theorem yx:Own P w K mg base "_law_rule_text" 2 ["_law_rule_here"] (qT K 1 fL):=by
 exact cA (k:=1) Z.yt wQ (λf cdv A outer s H E hr G=>(fV.u (az (pA (bf 0) (j6 G (bh (aZ 1) (bh (aZ 2) (bh (aZ 3) (bh (aZ 4) dU))))))
   (az (bZ 5 (bf 1))
   (az (rH G (fc G (bf 2)) (j6 G (bh (aZ 6) (bh (aZ 7) dU))) (aF (bZ 5 (cO (dJ G) (cO (dJ G) (cO (dJ G) (fC 5 (dJ G) (aH (aU [32]))) (aH (Cv G (fC 6 (dJ G) (aH (aU [48]))) (aH aK)))) (aH (aU [62]))) (aH (Cv G (fC 7 (dJ G) (aH (aU [48]))) (aH aK)))))))
   (aF (aV (cO (dJ G) (cO (dJ G) (cO (dJ G) (fC 5 (dJ G) (aH (aU [32,47,32]))) (aH (cz (pF Z) G hr (ji 3 aA) (bN len0)))) (aH (aU [32,95,32]))) (aH (cz (pF Z) G hr (ji 4 aA) (bN len0)))))))))))
theorem Hr:bA ["_law_pack_here","_law_text","_law_at","_law_odd"] Zq8 (aG uo):=iH
include Z in
theorem Ku:Own P w K mg base "_law_bent" 2 Zq8 (wL K 2 uF):=by
 exact uw (k:=1) Z.J2 Hr (λf cdv A outer s H E a hr G=>(fV.u (az (bZ 2<|iG 0 (cJ Z) G hr (aC (cO (dJ G) (gq G Z.gA (aX (bV 1))) (aH aK)) aA) (iJ (bN len0)))
   (az (bZ 3 (bT (XJ (cY (aU []) (cY (aU [32]) (cY (aU [62]) (cY (aU [47]) (cY (aU [95]) (cY (aU [42]) (cY (aU [35]) (cY (aU [97]) (cY (aU [48]) (cY (aU [91,115,116,111,112,93]) (cY (aU [91,115,93]) (cY (aU [98]) (cY (aU [32,97,62,48]) (cY (aU [97,108,111,110,103]) (cY (aU [109]) (cY (aU [32,32]) SQ)))))))))))))))))))
   (aF (aV (cO (dJ G) (cO (dJ G) (oV G (bf 1) lq (cQ (bf 2))) (aH (dg 3 G (aH (iG 0 (cJ Z) G hr (aC aK aA) (iJ (bN len0))))))) (aH (oV G (bf 1) (cQ (fC 2 (dJ G) (aH (iG 0 (cJ Z) G hr (aC aK aA) (iJ (bN len0)))))) lq)))))))))
theorem zr:bA ["_law_stock_here","_law_text","_law_sounds_here","_law_marks","_law_found","_law_signs_here","_law_places"] YZ (aG oX):=iH
include Z in
theorem By:Own P w K mg base "_law_side_of" 2 YZ (qT K 2 o6):=by
 exact cA (k:=1) Z.Bk zr (λf cdv A outer s H E hr G=>(fV.u (az (bZ 2 (cz (qe Z) G hr (ji 0 aA) (bN len0)))
   (az (cM (iB 1 (nY G) (aH (aU [42]))) (aF (aV (bT (di (aC fQ aA))))) bK)
   (az (cM (gZ (rK (dw adq (gq G Z.gA (aX (bV 1))) (aH aK)) (rK (dw (nY G) (dg 1 G (aH aK)) (aH (aU [91]))) (sJ (dw (nY G) (dg 1 G (aH (JM aK))) (aH (aU [93]))))))) (az (bZ 3 (lN G (oV G (bf 1) (cQ aK) (cQ (JM aK))) (aH (aU [32]))))
   (az (cM (ie (eY (t7 G Z.uy (aX (aH (bT (kI ["_law_stock_here","_law_text","_law_sounds_here","_law_marks","_law_found","_law_signs_here","_law_places","_law_mark"] 7 fB G (fc G (bf 3)) (λX1 h1=>by obtain⟨_,_,_,_,_,rfl⟩:=h1;exact aZ 7) (λ_ _=>cN) (λX1 h1=>by have G:=G.at h1;obtain⟨_,_,_,_,_,rfl⟩:=h1;exact(jB (Wi (bf 7)) (jB (Wf (bf 7)) (mG (yS afL (gq G Z.gA (aX (bV 7))) (aH aK))))))))))))) (aF (aV (bT (di aA)))) bK)
   (az (bZ 4 (jk G Z.dZ (aX (aH (bT (kI ["_law_stock_here","_law_text","_law_sounds_here","_law_marks","_law_found","_law_signs_here","_law_places","_law_sound","_law_own"] 7 fB G (fc G (bf 0)) (λX1 h1=>by have G:=G.at h1;obtain⟨_,_,_,_,_,rfl⟩:=h1;exact(j6 G (bh (aZ 7) (bh (aZ 8) dU)))) (λX1 h1=>by have G:=G.at h1;obtain⟨_,_,_,_,_,rfl⟩:=h1;exact(pB (eY (t7 G Z.uy (aX (aH (bT (kI ["_law_stock_here","_law_text","_law_sounds_here","_law_marks","_law_found","_law_signs_here","_law_places","_law_sound","_law_own","_law_mark"] 9 fB G (fc G (bf 3)) (λX1 h1=>by obtain⟨_,_,_,_,_,rfl⟩:=h1;exact aZ 9) (λ_ _=>cN) (λX1 h1=>by have G:=G.at h1;obtain⟨_,_,_,_,_,rfl⟩:=h1;exact(jA 9 (Ca G) (bV 8))))))))))) (λX1 h1=>by obtain⟨_,_,_,_,_,rfl⟩:=h1;exact bf 7)))))))
   (aF (aV (oV G (bT (di (ji 4 aA))) lq (cQ (LQ G Z.Ue (aX (aH (jA 4 (Av G) (aH (lL aA))))))))))))) bK)
   (az (bZ 5 (cO (dJ G) (aU [35]) (bV 2)))
   (az (cM (gZ (gO (iB 1 (nY G) (aH (aU []))) (iI (ie (eY (t7 G Z.uy (aX (aH (bT (kI afT 7 fB G (fc G (bf 1)) (λX1 h1=>by obtain⟨_,_,_,_,_,rfl⟩:=h1;exact aZ 7) (λ_ _=>cN) (λX1 h1=>by have G:=G.at h1;obtain⟨_,_,_,_,_,rfl⟩:=h1;exact(jA 7 (Ca G) (bV 5))))))))))))) (aF (aV (bT (di aA)))) bK)
   (az (Hs afT 7 6 fB G (fc G (bf 1)) (λX1 h1=>by obtain⟨_,_,_,_,_,rfl⟩:=h1;exact aZ 7) (λ_ _=>cN) (λX1 h1=>by have G:=G.at h1;obtain⟨_,_,_,_,_,rfl⟩:=h1;exact(Ot G (bf 5) (bV 7))))
   (aF (aV (oV G (bT (di (aC (LC G Z.dZ (aX (bV 1))) aA))) lq (cQ (LQ G Z.Ue (aX (aH (jA 6 (nY G) (aH (JL G Z.pG Z.Kv (bf 6)))))))))))))))))))
theorem uW:bA ["_law_stock_here","_law_words","_law_sounds_here","_law_found","_law_word","_law_ahead"] Zq9 (aG kZ):=iH
include Z in
theorem xm:Own P w K mg base "_law_changes_of" 2 Zq9 (qT K 2 iZ):=by
 exact cA (k:=1) Z.wI uW (λf cdv A outer s H E hr G=>(fV.u (az (bZ 2 (cz (qe Z) G hr (ji 0 aA) (bN len0)))
   (az (Ek 3 (di aA))
   (az (rH G (fc G (bf 1)) (aZ 4) (az (cM (gZ (gO (dw (Av G) (gq G Z.gA (aX (bV 4))) (aH aK)) (gO (dw (Av G) (dg 4 G (aH aK)) (aH (aU [62]))) (iI (dw (nY G) (dg 4 G (aH aK)) (aH (dg 4 G (aH aK)))))))) (aF (aV fQ)) bK)
   (az (cM (gZ (gO (dw (vQ G) (dg 4 G (aH aK)) (aH (fC 2 (dJ G) (aH (aU [48]))))) (iI (dw (vQ G) (dg 4 G (aH aK)) (aH (fC 2 (dJ G) (aH (aU [48])))))))) (aF (aV fQ)) bK)
   (aF (RZ 3 G (lL (aC (LK 4 [48] [] G (by decide +kernel) (by decide +kernel) (by decide +kernel)) (aC (LK 4 [48] [] G (by decide +kernel) (by decide +kernel) (by decide +kernel)) aA))))))))
   (az (Hs ["_law_stock_here","_law_words","_law_sounds_here","_law_found","_law_word","_law_ahead","_law_one","_law_other"] 6 5 fB G (fc G (bf 3)) (λX1 h1=>by have G:=G.at h1;obtain⟨_,_,_,_,_,rfl⟩:=h1;exact(j6 G (bh (aZ 6) (bh (aZ 7) dU)))) (λ_ _=>cN) (λX1 h1=>by obtain⟨_,_,_,_,_,rfl⟩:=h1;exact bf 6))
   (az (cM (gZ (gO (iB 3 (nY G) (aH (bT (di aA)))) (gO (dw adq (gq G Z.gA (aX (bV 3))) (aH aK)) (gO (iB 5 (Av G) (aH (yR G Z.pG Z.Kv (bf 5)))) (iI (gZ (rK (dw (Ca G) (aU []) (bV 5)) (sJ (dw adq (gq G Z.gA (aX (bV 3))) (aH aK)))))))))) (aF (aV fQ)) bK)
   (aF (aV (jk G Z.dZ (aX (bV 3))))))))))))
theorem Kc:bA ["_law_stock_here","_law_text","_law_words","_law_head","_law_changes_here","_law_sides"] YZ (aG wU):=iH
include Z in
theorem Qe:Own P w K mg base "_law_due" 3 YZ (qT K 2 jT):=by
 exact cA (k:=2) Z.O1 Kc (λf cdv A outer s H E hr G=>(fV.u (az (bZ 2 (lN G (bf 1) (aH (aU [32,47,32]))))
   (az (cM (gZ (gO (dw (Av G) (gq G Z.gA (aX (bV 2))) (aH aK)) (iI (dw (Av G) (gq G Z.gA (aX (aH (lN G (dg 2 G (aH aK)) (aH (aU [32,95,32])))))) (aH aK))))) (aF (aV fQ)) bK)
   (az (bZ 3 (lN G (dg 2 G (aH aK)) (aH (aU [32]))))
   (az (bZ 4 (cz (xm Z) G hr (ji 0 (aC (oV G (bf 3) (cQ aK) lq) aA)) (bN (bN len0))))
   (az (Hs ["_law_stock_here","_law_text","_law_words","_law_head","_law_changes_here","_law_sides","_law_side"] 6 5 fB G (fc G (lN G (dg 2 G (aH aK)) (aH (aU [32,95,32])))) (λX1 h1=>by obtain⟨_,_,_,_,_,rfl⟩:=h1;exact aZ 6) (λ_ _=>cN) (λX1 h1=>by have G:=G.at h1;obtain⟨_,_,_,_,_,rfl⟩:=h1;exact(cz (By Z) G hr (ji 0 (ji 6 aA)) (bN (bN len0)))))
   (az (cM (gZ (gO (dw (vQ G) (dg 3 G (aH aK)) (aH (bT (di (aC (aU [111,110,99,101]) (aC (aU [97,108,111,110,103]) aA)))))) (gO (iB 4 YG (aH fQ)) (iI (dw (Ca G) (bT (di aA)) (bV 5)))))) (aF (aV fQ)) bK)
   (aF (aV (lL (aC (dg 3 G (aH aK)) (ji 4 (aC (Cv G (dg 5 G (aH aK)) (aH aK)) (aC (Cv G (dg 5 G (aH aK)) (aH aK)) aA)))))))))))))))
theorem Hm:bA ["_law_stock_here","_law_text","_law_found","e"] YZ (aG uf):=iH
include Z in
theorem zO:Own P w K mg base "_law_told" 6 YZ (qT K 2 nJ):=by
 exact cA (k:=5) Z.JX Hm (λf cdv A outer s H E hr G=>(fV.u (az (bZ 2 fQ)
   (az (abe 2 3 [119,114,111,110,103] ⟨rfl,rfl,rfl⟩ G Z.QM Z.pt (λG=>(aF<|bZ 2 (cz (HQ Z) G hr (ji 0 (ji 1 aA)) (bN (bN len0))))) (WR (Es Z) (hr.mono (by decide)) rfl (Ol.u (ji 0 (ji 1 aA))) (bN (bN len0))) (by decide +kernel))
   (aF (aV (bf 2)))))))
theorem abd:bA afS ["_law_script"] (aG RW):=iH
include Z in
theorem ac4(F:QW K "law" "law" RW f fd):n6 P w K mg base Cp 7 f fd ["_law_script"] (qT K 1 Nx):=by
 exact Jr (k:=6) F abd (λcdv A outer s H E hr=>by
  have G:=vC (P:=P) (w:=w) (K:=K) (mg:=mg) (base:=base) (N:=afS) (outer:=outer) (H:=H) (E:=E) (C:=C0 K) rfl hr;exact(fV.u (az (rH G (Yc Z.lQ (aC aK (aC (aaM G Z.acx (uv aK (aX (aH (aaL G Z.acw (uv (gq G Z.gA (aX (bV 0))) (aX (aH aK)))))))) (aC aK aA))) (bN (bN (bN len0)))) (aZ 1) (az (Ek 2 (acy (Ks Z) G hr (ji 0 (ji 1 aA)) (bN (bN len0))))
   (az (bZ 3 (iG 2 (HR Z) G hr aA (iJ len0)))
   (az (bZ 4 (cz (yx Z) G hr (aC (iG 2 (Kr Z) G hr (aC (cz (qe Z) G hr (ji 3 aA) (bN len0)) aA) (iJ (bN len0))) aA) (bN len0)))
   (aF (rH G (qm Z.lQ (aC aK aA) (bN len0)) (aZ 5) (az (bZ 6 (bf 4))
   (az (rH G (qm Z.lQ (aC (cO (dJ G) aK (aH (iG 2 (cJ Z) G hr (aC aK aA) (iJ (bN len0))))) aA) (bN len0)) (aZ 7) (aF (bZ 6 (iG 2 (Ku Z) G hr (ji 6 aA) (iJ (bN len0))))))
   (az (bZ 8 (cz (Qe Z) G hr (ji 3 (ji 6 aA)) (bN (bN len0))))
   (az (cM (dw (Av G) (cz (zO Z) G hr (ji 3 (ji 6 aA)) (bN (bN len0))) (bV 8)) (aF (aV qd)) bK)
   (aF (cM (gZ (rK (iB 8 YF (aH fQ)) (sJ (dw (Av G) (cz (zO Z) G hr (ji 3 (aC (cz (HN Z) G hr (ji 8 aA) (bN len0)) aA)) (bN (bN len0))) (bV 8))))) (aF (aV qd)) bK))))))))))))
   (aF (aV qd)))))
end
end gH
namespace uJ
open Ev
def oR:cu:=gH.oR
def iU:LD:=dO 1 oR
def lK:cu:=aM (bz (Zi 0) (aq 2)) (aM (jX (fU (cB (aa (ak bM 1 (Zi 1)) (Zv 1 aj)))) (aq 3) (bz (au bM (ak pJ 2 (au K4 (Zi 10) (Zi 60))) (ao iU (aa (au dC (au bM (BW (aP 0) (o7 (aP 3)) (o7 (ak bM 3 (Zi 1)))) (cB (aa (au bM (au pJ (Zi 7919) (bj 3)) (Zi 61)) aj))) (Zi 0)) aj))) (aq 2))) (yZ (cB (Zv 2 aj))))
def lG:LD:=runN 4 lK
def iV:cu:=gH.iV
def aW:List D->Option (D×D):=jl 3 iV
def gK:cu:=aM (eQ (cC (au jF (dR aW 0 (aa (Zi 2) aj)) (Zi 0))) (bw (jr .non)) bU) (aM (bz (au bM (Zi 1) (dR aW 0 (aa (au BV (au Qq (Zi 2) (ao cT (aa (bj 1) aj))) (Zi 1)) aj))) (aq 2)) (aM (bz (au bM (Zw [35]) (bj 1)) (aq 3)) (bw (ao fX (aa (fY 4 5 (gJ (aa (ao cT (aa (bj 3) aj)) aj)) (aq 4) (cC (au jF (au Jc (ak Fp 2 (bj 4)) (Zi 1)) (Zi 1))) (ak dC 3 (bj 4))) aj)))))
def dI:List D->Option (D×D):=jl 4 gK
def eO:cu:=aM (eQ (cC (au jF (dR aW 0 (aa (Zi 5) aj)) (Zi 0))) (bw (ig (aa (ig (aa (Zw []) (aa (ak dC 1 (dR aW 0 (aa (ao cT (aa (bj 1) aj)) aj))) aj))) aj))) bU) (aM (jh 2 (Fx)) (aM (jX (gJ (aa (au bM (Zi 1) (dR aW 0 (aa (Zi 3) aj))) aj)) (aq 3) (aM (bz (ak dC 1 (dR aW 0 (aa (ao cT (aa (bj 1) aj)) aj))) (aq 4)) (aM (jh 5 (fY 6 7 (fU (au bM (ao Dj (aa (bj 1) aj)) (cB (aa (Zw []) aj)))) (aq 6) (cC (ak qJ 6 (bj 4))) (aP 6))) (ue 2 (aP 4) (ak dC 5 (dR aW 0 (aa (ao cT (aa (bj 5) aj)) aj))))))) (bw (ao fX (aa (fY 6 7 (fU (ao jE (aa (bj 2) aj))) (aq 6) cL (ig (Zv 6 (aa (ak mz 2 (bj 6)) aj)))) aj)))))
def eN:List D->Option (D×D):=jl 6 eO
open Ev PySem L2
theorem mL(h:i.natAbs<2^b):Builtin.Int.intBits i<=b:=by
 unfold Builtin.Int.intBits;split
 ·exact Qzz _
 ·rename_i h0;have hz:i.natAbs≠0:=λz=>h0 (by rw[Int.natAbs_eq_zero.mp z];rfl);exact(Nat.log2_lt hz).mpr h
theorem nq(h1:Builtin.Int.intBits i<=a)(h2:Builtin.Int.intBits j<=b)(h:a+b<=134217728):j4 i j=true:=
 Qw2 (by omega)
def Um(i:Int):Int:=i*262406895267124108351839057402211873468251940277165213587343 % 10^60
theorem XQ(i):(Um i).natAbs<2^200:=by
 unfold Um;have h1:0<=i*262406895267124108351839057402211873468251940277165213587343 % 10^60:=Int.emod_nonneg _ (by decide);have h2:i*262406895267124108351839057402211873468251940277165213587343 % 10^60<10^60:=Int.emod_lt_of_pos _ (by decide);have h3:(10:Int)^60<=2^200:=by decide
 omega
theorem mixed(h:Builtin.Int.intBits i<=2^20):iU [.int i]=some (.int (Um i)):=by
 have hm:j4 i 262406895267124108351839057402211873468251940277165213587343=true:=nq h (mL (b:=198) (by decide)) (by decide);have e1:ak pJ 0 (Zi 262406895267124108351839057402211873468251940277165213587343) [Zf (.int i)] = .ok (.int<|i*262406895267124108351839057402211873468251940277165213587343) [Zf (.int i)]:=by
  show gB (gI j4 (λi j=>D.int<|i*j) (.int i)<|.int _) _=_;unfold gI;simp only;rw[if_pos hm]
  rfl
 show(match bw _ [Zf (.int i)] with|.rt false d _=>some d|.nx _=>some .non|_=>none)=_;rw[bY];unfold au;rw[e1]
 rfl
theorem Yt{α:Type}{xs:List α}{x:α}(h:x∈cutD xs lo hi):x∈xs:=List.mem_of_mem_drop<|List.mem_of_mem_take h
theorem VB{α:Type}(x)(r:List α):qU (x::r) 0=some x:=qF rfl
def m8:cu:=bz (au bM (ak pJ 2 (au K4 (Zi 10) (Zi 60))) (ao iU (aa (au dC (au bM (BW (aP 0) (o7 (aP 3)) (o7 (ak bM 3 (Zi 1)))) (cB (aa (au bM (au pJ (Zi 7919) (bj 3)) (Zi 61)) aj))) (Zi 0)) aj))) (aq 2)
theorem CQ(ns)(hl:ns.length<=63)(hb:Lx ns)(k a f)(ha:a.natAbs<2^10)(hf:Builtin.Int.intBits f<=2^20) :
  ∃f',m8 [Zf (.arr (ns.map .int)),Zf (.int k),Zf (.int f),Zf (.int a)] = .nx [Zf (.arr (ns.map .int)),Zf (.int k),Zf (.int f'),Zf (.int a)]/\(f=0->f'.natAbs<2^200):=by
 generalize hE:([Zf (.arr (ns.map .int)),Zf (.int k),Zf (.int f),Zf (.int a)]:Ev.Env)=env;have m1:j4 7919 a=true:=nq (a:=20) (mL (by decide)) (mL ha) (by decide);have m2:j4 f (10^(60:Int).toNat)=true:=nq (b:=200) hf (mL (by decide)) (by decide);have e1:BW (aP 0) (o7 (aP 3)) (o7 (ak bM 3 (Zi 1))) env = .ok (.lst (cutD (ns.map .int) (some a) (some (a+1)))) env:=by rw[<-hE];rfl
 have e2:cB (aa (au bM (au pJ (Zi 7919) (bj 3)) (Zi 61)) aj) env = .ok (.lst [.int (7919*a+61)]) env:=by refine Ji (aN (aJ (aJ rfl (by rw[<-hE];rfl) (Ft m1)) rfl rfl) bH) Ev.zz1
 generalize hL:cutD (ns.map D.int) (some a) (some (a+1))=L at e1;have hLl:L.length<=63:=by rw[<-hL];exact Qq0 (rW _ _ _) (by rw[Qqj];exact hl)
 have e3:au bM (BW (aP 0) (o7 (aP 3)) (o7 (ak bM 3 (Zi 1)))) (cB (aa (au bM (au pJ (Zi 7919) (bj 3)) (Zi 61)) aj)) env = .ok (.lst (L++[.int (7919*a+61)])) env:=by exact aJ e1 e2 (vJ (by show L.length+1<=sizeLine;exact Qq0 (Nat.succ_le_succ hLl) (by decide)))
 obtain⟨c,hc,hcb⟩:∃c:Int,qU (L++[.int (7919*a+61)]) 0=some (.int c)/\Builtin.Int.intBits c<=2^20:=by
  cases hLc:L with
  | nil=>
   refine⟨7919*a+61,rfl,Qq0 (mL (b:=30) ?_) (by decide)⟩;omega
  | cons y r=>
   have hy:y∈ns.map D.int:=Yt (by rw[hL,hLc];exact Qqk ..);obtain⟨i,hi,rfl⟩:=Qwk.mp hy;exact⟨i,VB _ _,hb i hi⟩
 have e4:ao iU (aa (au dC (au bM (BW (aP 0) (o7 (aP 3)) (o7 (ak bM 3 (Zi 1)))) (cB (aa (au bM (au pJ (Zi 7919) (bj 3)) (Zi 61)) aj))) (Zi 0)) aj) env = .ok (.int (Um c)) env:=by exact aL (aN (aJ e3 rfl hc) bH) (mixed hcb)
 refine⟨f*10^(60:Int).toNat+Um c,?_,λh0=>?_⟩
 ·unfold m8;refine bJ (e:=env) ?_ (by rw[<-hE];rfl);have e5:ak pJ 2 (au K4 (Zi 10) (Zi 60)) env = .ok (.int (f*10^(60:Int).toNat)) env:=by
   rw[<-hE];exact fM rfl rfl rfl (Ft m2)
  exact aJ e5 e4 rfl
 ·rw[h0,Int.zero_mul,Int.zero_add];exact XQ c
theorem pack(ns)(hl:ns.length<=63)(hb:Lx ns)(k)(h0:0<=k)(h1:k<=500):∃p,lG [.arr (ns.map .int),.int k]=some (.lst [.int p]):=by
 obtain⟨f1,e1,b1⟩:=CQ ns hl hb k (k+1) 0 (by omega) (by decide);obtain⟨f2,e2,_⟩:=CQ ns hl hb k k f1 (by omega) (Qq0 (mL (b1 rfl)) (by decide));refine⟨f2,?_⟩;have h:lK [Zf (.arr (ns.map .int)),Zf (.int k),Zn,Zn] = .rt true (.lst [.int f2]) [Zf (.arr (ns.map .int)),Zf (.int k),Zf (.int f2),Zf (.int k)]:=by
  unfold lK;refine(aB rfl).trans ?_;refine(aB (e:=[Zf (.arr (ns.map .int)),Zf (.int k),Zf (.int f2),Zf (.int k)]) ?_).trans rfl;refine(lO rfl).trans ?_;show lW (aq 3) m8 [.int (k+1),.int k] _=_;unfold lW;show(match m8 [Zf (.arr (ns.map .int)),Zf (.int k),Zf (.int 0),Zf (.int (k+1))] with|.nx e2=>lW (aq 3) m8 [.int k] e2|.ct e2=>_|.bk e2=>_|.rt o d e2=>_|.stuck=>_)=_;rw[e1];simp only;unfold lW;show(match m8 [Zf (.arr (ns.map .int)),Zf (.int k),Zf (.int f1),Zf (.int k)] with|.nx e2=>lW (aq 3) m8 [] e2|.ct e2=>_|.bk e2=>_|.rt o d e2=>_|.stuck=>_)=_;rw[e2]
  rfl
 show(match lK _ with|.rt true d _=>some d|_=>none)=_;have e:envOf 4 [D.arr (ns.map .int),.int k]=[Zf (.arr (ns.map .int)),Zf (.int k),Zn,Zn]:=rfl;rw[e,h]
def known:D:=.lst [.str [115,116,111,112],.str [115,116,111,112,115],.str [115],.str [111,112,101,110],.str [97,98,99,100,101,102,103,104]]
def uQ:cu:=bz (ao jE (aa (fY 7 8 (gJ (aa (Zi 5) aj)) (aq 7) (cC (au jF (au Jc (ak Fp 5 (bj 7)) (Zi 1)) (Zi 1))) (ak dC 2 (bj 7))) aj)) (aq 6)
def mk(d:Nat):D:=match uQ [Zn,Zn,Zf known,Zn,Zn,Zf (.int d),Zn] with
 | .nx e=>(match e[6]? with|some (some (_,z))=>z|_=>.non)
 | _=>.non
def AllB(P:Nat->Prop):Nat->Prop
 | 0=>True
 | n+1=>AllB P n/\P n
theorem VD:∀{n},AllB P n->∀d,d<n->P d
 | 0,_,d,h=>absurd h<|Qk4 d
 | n+1,⟨a,b⟩,d,h=>by
  by_cases e:d=n
  ·subst e;exact b
  ·exact VD a d (by omega)
theorem marks(d:Nat)(hd:d<32)(a b c e f:OD):uQ [a,b,Zf known,c,e,Zf (.int d),f] = .nx [a,b,Zf known,c,e,Zf (.int d),Zf (mk d)]:=by refine VD (P:=λd=>uQ [a,b,Zf known,c,e,Zf<|.int d,f] = .nx [a,b,Zf known,c,e,Zf<|.int d,Zf<|mk d]) ?_ d hd;and_intros<;>first|exact True.intro|kernel_rfl
def afk:D->Bool
 | .lst _=>true
 | _=>false
theorem Ul(d)(hd:d<32):∃zs,mk d = .lst zs:=by
 have h:((List.range 32).all λd=>afk<|mk d)=true:=by decide +kernel
 have h1:=Qq5.mp h d<|Qx6.mpr hd;cases e:mk d with
 | lst zs=>exact⟨zs,rfl⟩
 | _=>rw[e] at h1;cases h1
theorem za{i:Nat}{env e:Ev.Env}(h0:env[i]? = some (Zl x0))(h1:a env = .ok d e)(h2:e[i]? = some (Zl xs))(hz:xs.length<sizeLine):tR i a env = .nx (e.set i (Zl (xs++[d]))):=by unfold tR;rw[h0];show kJ (a env) _=_;rw[h1];show(match e[i]? with|some (some (true,.lst xs))=>if xs.length<sizeLine then Out.nx (e.set i<|Zl<|xs++[d]) else .stuck|_=>.stuck)=_;rw[h2];show(if xs.length<sizeLine then _ else _)=_;rw[if_pos hz]
def pg:cu:=aM (bz (dR aW 0 (aa (Zi 32) aj)) (aq 5)) (aM uQ (tR 3 (ig (Zv 4 (aa (ao fX (aa (BW (aP 6) pL (o7 (Zi 4))) aj)) aj)))))
structure XOk(x:List Nat):Prop where
 len:x.length<=4
 pos:0<x.length
 nd:x.Nodup
 ne:35 ∉ x
inductive XSt
 | mk
def XS:XSt:=.mk
instance:Membership (List Nat) XSt:=⟨λ_ x=>XOk x⟩
theorem yq(h:x∈XS):XOk x:=h
theorem VM(h:XOk x):x∈XS:=h
theorem sr:∀x∈XS,x.length<=4:=λ_ h=>(yq h).len
theorem VL(h:x∈XS):(∃a,x=[a])\/(∃a b,x=[a,b])\/(∃a b c,x=[a,b,c])\/∃a b c d,x=[a,b,c,d]:=by
 have h1:=(yq h).len;have h2:=(yq h).pos
 match x,h1,h2 with
 | [a],_,_=>exact .inl ⟨a,rfl⟩
 | [a,b],_,_=>exact .inr<|.inl ⟨a,b,rfl⟩
 | [a,b,c],_,_=>exact .inr<|.inr<|.inl ⟨a,b,c,rfl⟩
 | [a,b,c,d],_,_=>exact .inr<|.inr<|.inr ⟨a,b,c,d,rfl⟩
theorem join_eq:∀x∈XS,lV (.str []) (.lst (gj x))=some (.str x):=by intro x hx;rcases VL hx with ⟨a,rfl⟩|⟨a,b,rfl⟩|⟨a,b,c,rfl⟩|⟨a,b,c,d,rfl⟩<;>rfl
theorem Ym(h:a env = .ok ds e)(h':tK ds=some ys):gJ a env = .ok ys e:=by
 unfold gJ;rw[h];show gB (tK ds) e=_;rw[h']
 rfl
theorem oh(n)(m:Nat)(h0:0<m)(h1:m<1073741824):aW [.lst [.int n],.int m]=some (.int (n % m),.lst [.int (n / m)]):=by
 refine jZ (env:=[Zl [.int (n / m)],Zf<|.int m,Zf<|.int<|n % m]) ?_ rfl;unfold iV;have g:vI [.int n,.int (m:Int)]=some (.tup [.int (n / m),.int<|n % m]):=by show(if 0<(m:Int)/\(m:Int)<1073741824 then _ else _)=_;rw[if_pos (by omega)]
 refine(aB (e:=[Zl [.int (n / m)],Zf<|.int m,Zf<|.int<|n % m]) ?_).trans rfl;exact bJ (aL (by rfl) g) (by rfl)
def M(x:List Nat):Nat:=2*2^x.length - 1
def RQ:cu:=aM (bz (au bM (Zw [35]) (bj 1)) (aq 3)) (bw (ao fX (aa (fY 4 5 (gJ (aa (ao cT (aa (bj 3) aj)) aj)) (aq 4) (cC (au jF (au Jc (ak Fp 2 (bj 4)) (Zi 1)) (Zi 1))) (ak dC 3 (bj 4))) aj)))
def bit(d k:Nat):Bool:=Builtin.bitAnd ((1+(d:Int)) / 2^k) 1 == 1
def sgR(x:List Nat)(d:Nat):D:=.tup ((((List.range (x.length+1)).filter (bit d)).map λk=>(35::x).getD k 0).map λc=>.str [c])
def SG(x:List Nat):List D:=.non::(List.range (M x)).map (sgR x)
theorem Wz(a:OD):∀x∈XS,∀d,d<M x->∃e3,RQ [a,Zs x,Zf (.int (1+d)),Zn] = .rt false (sgR x d) [a,Zs x,Zf (.int (1+d)),e3]:=by
 intro x hx d hd;have hl:=sr x hx;refine⟨Zs (35::x),?_⟩;unfold RQ;refine(aB<|bJ (d:=.str (35::x)) (aJ rfl rfl ?_) rfl).trans ?_
 ·unfold bM;exact if_pos<|Qq0 (show 1+x.length<=5 by omega) (by decide)
 ·have h:fY 4 5 (gJ<|aa (ao cT<|aa (bj 3) aj) aj) (aq 4) (cC (au jF (au Jc (ak Fp 2 (bj 4)) (Zi 1)) (Zi 1))) (ak dC 3 (bj 4)) [a,Zs x,Zf (.int (1+(d:Int))),Zs (35::x)] = .ok (.lst (((List.range (x.length+1)).filter (bit d)).map λk=>.str [(35::x).getD k 0])) [a,Zs x,Zf (.int (1+(d:Int))),Zs (35::x)]:=by
   refine NP (n:=5) (List.range (x.length+1)) (λk=>.int (k:Int)) (bit d) (λk=>.str [(35::x).getD k 0]) ?_ rfl rfl (λk hk=>?_) (λk hk _=>?_) (by rw[List.length_range];exact Qq0 (show x.length+1<=5 by omega) (by decide))
   ·exact Ym rfl (aeg (Qz0 (show(35::x).length<=5 by rw[Qq1];omega) (by decide)))
   ·refine bI (aJ (aJ (x:=.int ((1+(d:Int)) / 2^k)) ?_ rfl rfl) rfl rfl);refine fM (i:=2) rfl rfl rfl ?_;unfold Fp gI;simp only;rw[if_pos (Qw2 (Int.natCast_nonneg k)),Qj1]
   ·refine fM (i:=3) rfl rfl rfl ?_;show(qU (35::x) (k:Int)).map _=_;have hk':k<(35::x).length:=Qx6.mp hk;rw[qF (v:=(35::x).getD k 0) (by rw[Qx7,Qzq hk'];rfl)]
    rfl
  refine bY (aL (aN h bH) ?_);unfold sgR;rw[Qw6]
  rfl
theorem signs(n)(x)(hx:x∈XS):∃r n',dI [.lst [.int n],.str x]=some (r,.lst [.int n'])/\r∈SG x:=by
 obtain⟨d,hd,e⟩:=dig n 2 (by decide);have t:cC (au jF (dR aW 0 (aa (Zi 2) aj)) (Zi 0)) [Zl [.int n],Zs x,Zn,Zn] = .ok ((d:Int) == 0) [Zl [.int (n / 2)],Zs x,Zn,Zn]:=by
  rw[<-e]
  rfl
 have hc:d=0\/d=1:=by omega
 rcases hc with rfl|rfl
 ·refine⟨.non,n / 2,jZ (env:=[Zl [.int (n / 2)],Zs x,Zn,Zn]) ?_ rfl,Qqk ..⟩;unfold gK;refine(cI ?_).trans rfl;exact(gw t).trans rfl
 ·obtain⟨k,hk,ek⟩:=dig (n / 2) (M x) (by unfold M;have:0<2^x.length:=Nat.two_pow_pos _;omega);obtain⟨e3,h3⟩:=Wz (Zl [.int (n / 2 / (M x:Int))]) x hx k hk;refine⟨sgR x k,n / 2 / (M x:Int),jZ (env:=[Zl [.int (n / 2 / (M x:Int))],Zs x,Zf (.int (1+(k:Int))),e3]) ?_ rfl,Qqw _ (Qwk.mpr ⟨k,Qx6.mpr hk,rfl⟩)⟩;unfold gK;refine(aB (e:=[Zl [.int (n / 2)],Zs x,Zn,Zn]) ?_).trans ?_
  ·exact(dz t).trans rfl
  ·refine(aB (e:=[Zl [.int (n / 2 / (M x:Int))],Zs x,Zf (.int (1+n / 2 % (M x:Int))),Zn]) ?_).trans ?_
   ·have hM:au BV (au Qq (Zi 2) (ao cT (aa (bj 1) aj))) (Zi 1) [Zl [.int (n / 2)],Zs x,Zn,Zn] = .ok (.int (M x:Int)) [Zl [.int (n / 2)],Zs x,Zn,Zn]:=by
     have hl:=sr x hx;refine aJ (x:=.int (2*2^x.length)) (aJ rfl rfl ?_) rfl ?_
     ·unfold Qq gI;simp only;rw[if_pos (Qw2 ⟨Int.natCast_nonneg _,by omega,by decide⟩),Qj1]
     ·show some (D.int (2*2^x.length - 1))=_;have hp:0<2^x.length:=Nat.two_pow_pos _;have e:((M x:Nat):Int)=2*2^x.length - 1:=by
       unfold M;rw[Int.natCast_sub (by omega),Int.natCast_mul,Int.natCast_pow]
       rfl
      rw[e]
    have ht:aW [.lst [.int (n / 2)],.int (M x:Int)]=some (.int (n / 2 % (M x:Int)),.lst [.int (n / 2 / (M x:Int))]):=by have hl:=sr x hx;have hp:0<2^x.length:=Nat.two_pow_pos _;have hq:2^x.length<=2^4:=Nat.pow_le_pow_right (by decide) hl;exact oh (n / 2) (M x) (by unfold M;omega) (by unfold M;omega)
    refine bJ (aJ rfl (iD rfl (aN hM bH) rfl ht) rfl) rfl
   ·rw[ek];exact h3
def oth(x:List Nat)(c:Nat):List D:=((x.map (λa=>[a])++[[]]).filter λz=>z != [c]).map .str
def PV(x:List Nat):List (Nat×D):=x.flatMap λc=>(oth x c).map λv=>(c,v)
def one:cu:=bz (ak dC 1 (dR aW 0 (aa (ao cT (aa (bj 1) aj)) aj))) (aq 4)
def others:cu:=jh 5 (fY 6 7 (fU (au bM (ao Dj (aa (bj 1) aj)) (cB (aa (Zw []) aj)))) (aq 6) (cC (ak qJ 6 (bj 4))) (aP 6))
def Th:cu:=ue 2 (aP 4) (ak dC 5 (dR aW 0 (aa (ao cT (aa (bj 5) aj)) aj)))
theorem PJ(a b v3 v5:OD):∀x∈XS,∀c∈x,others [a,Zs x,b,v3,Zs [c],v5] = .nx [a,Zs x,b,v3,Zs [c],Zl (oth x c)]:=by
 intro x hx c hc;have hl:=sr x hx;unfold others;refine(ph (e:=[a,Zs x,b,v3,Zs [c],v5]) ?_).trans rfl;have h5:(x.map (λa=>[a])++[[]]).length<=5:=by rw[Qqz,Qqj];exact Nat.succ_le_succ hl
 refine NP (x.map (λa=>[a])++[[]]) D.str (λz=>z != [c]) D.str ?_ rfl rfl (λz hz=>rfl) (λz hz _=>rfl) (Qq0 h5 (by decide));refine vL (d:=.lst<|((x.map λa=>[a])++[[]]).map D.str) (aJ rfl rfl ?_) rfl;rw[Qz2,Qw6];refine vJ (a:=gj x) ?_;unfold gj;rw[Qqj];exact Qq0 (Nat.succ_le_succ hl) (by decide)
theorem Xu:∀x∈XS,∀c∈x,(oth x c).length=x.length:=by
 intro x hx c hc;have h1:=List.length_erase_of_mem hc;rw[(yq hx).nd.erase_eq_filter] at h1;have e:(λz:List Nat=>z != [c]) ∘ (λa=>[a])=λa=>a != c:=by
  funext a
  by_cases h:a=c
  ·subst h;show([a] != [a])=(a != a);rw[bne_self_eq_false,bne_self_eq_false]
  ·show([a] != [c])=(a != c);rw[bne_iff_ne.mpr h,bne_iff_ne.mpr λq=>h (List.cons.inj q).1]
 unfold oth;rw[Qqj,List.filter_append,List.filter_map,e,Qqz,Qqj,h1];have:=(yq hx).pos;show x.length - 1+1=_;omega
theorem Gi:∀x∈XS,0<x.length:=λ_ h=>(yq h).pos
theorem O6{i:Nat}{env e1 e2:Ev.Env}(h1:a env = .ok d e1)(h2:e1[i]? = some (some (o,x0)))(h3:k e1 = .ok kd e2)(h4:e2[i]? = some (Zt (.dct kvs)))(h5:yD kd=some q)(hz:kvs.length<sizeLine) :
  ue i k a env = .nx (e2.set i (Zt (.dct (putD kvs kd q d)))):=by
 unfold ue;rw[h1];simp[kJ];rw[h2];simp;rw[h3];simp;rw[h4,h5];simp only;rw[if_pos hz]
def abA(kvs:List (D×D))(p:Nat×D):List (D×D):=putD kvs (.str [p.1]) (.inr (strOf [p.1])) p.2
theorem round(n)(x)(hx:x∈XS)(kvs)(hk:kvs.length<=10)(v3 v4 v5:OD):∃p n' v4' v5',p∈PV x/\aM one (aM others Th) [Zl [.int n],Zs x,Zt (.dct kvs),v3,v4,v5] = .nx [Zl [.int n'],Zs x,Zt (.dct (abA kvs p)),v3,v4',v5']:=by
 have hp:=Gi x hx;have hl4:=sr x hx;obtain⟨d,hd,e⟩:=dig n x.length hp;have hc:x[d]∈x:=Qk1 hd;have hol:=Xu x hx x[d] hc;obtain⟨d',hd',e'⟩:=dig (n / (x.length:Int)) x.length hp;have hv:d'<(oth x x[d]).length:=by rw[hol];exact hd'
 refine⟨(x[d],(oth x x[d])[d']),n / (x.length:Int) / (x.length:Int),Zs [x[d]],Zl<|oth x x[d],?_,?_⟩
 ·unfold PV;exact List.mem_flatMap.mpr ⟨x[d],hc,Qwk.mpr ⟨_,Qk1 hv,rfl⟩⟩
 ·refine(aB (e:=[Zl [.int (n / (x.length:Int))],Zs x,Zt<|.dct kvs,v3,Zs [x[d]],v5]) ?_).trans ?_
  ·unfold one;refine bJ (e:=[Zl [.int (n / (x.length:Int))],Zs x,Zt<|.dct kvs,v3,v4,v5]) ?_ (by rfl);refine fM (y:=.int<|n % (x.length:Int)) (by rfl) ?_ (by rfl) ?_
   ·exact iD (e1:=[Zl [.int n],Zs x,Zt<|.dct kvs,v3,v4,v5]) (by rfl) (by rfl) (by rfl)<|oh n x.length hp (by omega)
   ·show(qU x<|n % (x.length:Int)).map _=_;rw[e,Li hd]
    rfl
  ·refine(aB<|PJ _ _ _ _ x hx x[d] hc).trans ?_;unfold Th;refine(O6 (e1:=[Zl [.int (n / (x.length:Int) / (x.length:Int))],Zs x,Zt<|.dct kvs,v3,Zs [x[d]],Zl<|oth x x[d]])
    ?_ (by rfl) (by rfl) (by rfl) (by rfl) (Qz0 hk (by decide))).trans rfl
   refine fM (y:=.int<|n / (x.length:Int) % (x.length:Int)) (by rfl) ?_ (by rfl) ?_
   ·refine iD (e1:=[Zl [.int (n / (x.length:Int))],Zs x,Zt<|.dct kvs,v3,Zs [x[d]],Zl<|oth x x[d]]) (by rfl) ?_ (by rfl)<|oh _ x.length hp (by omega);refine aN ?_ bH;refine aL (by rfl) ?_;show some (D.int ((oth x x[d]).length:Int))=_;rw[hol]
   ·show qU (oth x x[d]) (n / (x.length:Int) % (x.length:Int))=_;rw[e',Li hv]
def Yy(kvs:List (D×D)):Option D:=match jE [.dct kvs] with
 | some (.lst ks)=>if (ks.all λk=>(mz (.dct kvs) k).isSome) then some (.tup (ks.map λk=>.tup [k,(mz (.dct kvs) k).getD .non])) else none
 | _=>none
def adl:cu:=bw (ao fX (aa (fY 6 7 (fU (ao jE (aa (bj 2) aj))) (aq 6) cL (ig (Zv 6 (aa (ak mz 2 (bj 6)) aj)))) aj))
theorem IK(h:jE [.dct kvs]=some (.lst ks)):ks.length<=64:=by
 obtain⟨zs,h1,h2⟩:=Qx2.mp h;split at h2
 ·rename_i hz;cases h2;rw[Qqj,(fW zs).length_eq];omega
 ·cases h2
theorem FQ(h:Yy kvs=some ch)(a b v3 v4 v5:OD):adl [a,b,Zt (.dct kvs),v3,v4,v5] = .rt false ch [a,b,Zt (.dct kvs),v3,v4,v5]:=by
 unfold Yy at h;split at h
 ·rename_i ks hs;split at h
  ·rename_i hall;cases h;obtain⟨env',h1,v6,rfl⟩:=M7 (g:=aq 6) (e:=ig<|Zv 6<|aa (ak mz 2<|bj 6) aj) (λenv=>∃v6,env=[a,b,Zt<|.dct kvs,v3,v4,v5,v6]) (λk=>.tup [k,(mz (.dct kvs) k).getD .non]) ks [a,b,Zt<|.dct kvs,v3,v4,v5,Zn] ⟨none,rfl⟩
    (λk hk env ⟨v6,he⟩=>by
     subst he;obtain⟨v,hv⟩:=Qjz.mp<|Qq5.mp hall k hk;refine⟨_,[a,b,Zt<|.dct kvs,v3,v4,v5,Zf k],rfl,?_,Zf k,rfl⟩;rw[hv];exact nM (aN (by rfl)<|aN (fM (by rfl) (by rfl) (by rfl) hv) bH) Ev.zz2)
   refine bY<|aL (ds:=[.lst (ks.map λk=>.tup [k,(mz (.dct kvs) k).getD .non])]) (aN ?_ bH) rfl;refine yN (n:=7) (aD:=[a,b,Zt<|.dct kvs,v3,v4,v5]) ?_ (by rfl) h1 ?_
   ·exact vL (aL (by rfl) hs) rfl
   ·rw[Qqj];exact Qq0 (IK hs) (by decide)
  ·cases h
 ·cases h
structure Gp(x:List Nat)(kvs:List (D×D))(zs:List Nat):Prop where
 keys:kvs.map (·.1)=zs.map λc=>D.str [c]
 nd:zs.Nodup
 mem:∀c∈zs,c∈x
 vals:∀k v,(k,v)∈kvs->∃c,k = .str [c]/\(c,v)∈PV x
theorem sG(h:strOf a=strOf b):a=b:=by
 have:=Qjq (λs:Str=>s.cps.toList) h
 simpa[strOf] using this
theorem wN(q)(d):∀kvs,(yw kvs q d).map (·.1)=kvs.map (·.1)
 | []=>rfl
 | (k,e)::r=>by
  unfold yw;rw[Qq7,Qq7,wN q d r];split<;>rfl
theorem Hj:∀{kvs} {k v},(k,v)∈yw kvs q d->(k,v)∈kvs\/(yD k=some q/\v=d)
 | [],_,_,h=>by simp[yw] at h
 | (k',e)::r,k,v,h=>by
  unfold yw at h;rcases Qq3.mp h with h|h
  ·split at h
   ·rename_i hk;cases h;exact .inr ⟨hk,rfl⟩
   ·cases h;exact .inl<|Qqk ..
  ·rcases Hj h with h|h
   ·exact .inl<|Qqw _ h
   ·exact .inr h
theorem wD:∀{kvs},wF kvs q=none->∀k v,(k,v)∈kvs->yD k≠some q
 | [],_,k,v,hm=>by simp at hm
 | (k',e)::r,h,k,v,hm=>by
  unfold wF at h;split at h
  ·cases h
  ·rename_i hk;rcases Qq3.mp hm with hm|hm
   ·cases hm;exact hk
   ·exact wD h k v hm
theorem wC:∀{kvs},wF kvs q=some d->∃k,(k,d)∈kvs/\yD k=some q
 | [],h=>by simp[wF] at h
 | (k',e)::r,h=>by
  unfold wF at h;split at h
  ·rename_i hk;cases h;exact⟨k',Qqk ..,hk⟩
  ·obtain⟨k,h1,h2⟩:=wC h;exact⟨k,Qqw _ h1,h2⟩
theorem Gp.put(h:Gp x kvs zs)(hp:p∈PV x)(hx:p.1∈x):∃zs',Gp x (abA kvs p) zs'/\0<zs'.length/\zs'.length<=zs.length+1:=by
 unfold abA putD;cases e:wF kvs (.inr<|strOf [p.1]) with
 | none=>
  simp[Option.isSome_none,Bool.false_eq_true,if_false];refine⟨zs++[p.1],⟨?_,?_,λc hc=>?_,λk v hm=>?_⟩,by simp,by simp⟩
  ·rw[Qz2,Qz2,h.keys];rfl
  ·refine List.nodup_append.mpr ⟨h.nd,Qkj.mpr ⟨Qxx,.nil⟩,λa ha b hb=>?_⟩;rcases Qwx.mp hb with rfl;rintro rfl;have hm:D.str [p.1]∈kvs.map (·.1):=by rw[h.keys];exact Qwk.mpr ⟨p.1,ha,rfl⟩
   obtain⟨⟨k,v⟩,h1,h2⟩:=Qwk.mp hm;have h2':=h2;subst h2';exact wD e _ _ h1 rfl
  ·rcases Qxv.mp hc with hc|hc
   ·exact h.mem c hc
   ·rw[Qwx.mp hc];exact hx
  ·rcases Qxv.mp hm with hm|hm
   ·exact h.vals k v hm
   ·have:=Qwx.mp hm;cases this;exact⟨p.1,rfl,hp⟩
 | some w=>
  simp[Option.isSome_some,if_true];obtain⟨k0,hk0,_⟩:=wC e;have hne:0<zs.length:=by have:=Qjq List.length h.keys;rw[Qqj,Qqj] at this;rw[<-this];exact List.length_pos_of_mem hk0
  refine⟨zs,⟨by rw[wN];exact h.keys,h.nd,h.mem,λk v hm=>?_⟩,hne,Qkq _⟩;rcases Hj hm with hm|⟨hk,rfl⟩
  ·exact h.vals k v hm
  ·have hin:k∈(yw kvs (.inr<|strOf [p.1]) p.2).map (·.1):=Qwk.mpr ⟨_,hm,rfl⟩;rw[wN,h.keys] at hin;obtain⟨c,hc,rfl⟩:=Qwk.mp hin;have:strOf [c]=strOf [p.1]:=by
    have:=Qw8 hk;exact Sum.inr.inj this
   have e2:=sG this;cases e2;exact⟨p.1,rfl,hp⟩
theorem Lr(h:p∈PV x):p.1∈x:=by unfold PV at h;obtain⟨c,hc,h⟩:=List.mem_flatMap.mp h;obtain⟨v,_,rfl⟩:=Qwk.mp h;exact hc
theorem kW(zs):fJ (zs.map D.str)=some zs:=by
 induction zs with
 | nil=>rfl
 | cons z r ih=>
  rw[Qq7];unfold fJ;rw[ih]
  rfl
theorem O9(h:Gp x kvs zs)(h4:zs.length<=4):jE [.dct kvs]=some (.lst ((dH (zs.map λc=>[c])).map .str)):=by
 have e:kvs.map (·.1)=(zs.map λc=>[c]).map D.str:=by rw[h.keys,Qw6];rfl
 show(fJ<|kvs.map (·.1)).bind _=_;rw[e,kW];show(if _ then _ else _)=_;rw[if_pos];refine⟨by rw[Qqj];omega,λz hz=>?_⟩;obtain⟨c,_,rfl⟩:=Qwk.mp hz;show 1<=sizeLine
 decide
def prs(kvs:List (D×D))(ks:List D):List D:=ks.map λk=>.tup [k,(mz (.dct kvs) k).getD .non]
theorem Fb(h:Gp x kvs zs)(k)(hk:k∈(dH (zs.map λc=>[c])).map D.str):∃c v,k = .str [c]/\mz (.dct kvs) k=some v/\(c,v)∈PV x:=by
 obtain⟨z,hz,rfl⟩:=Qwk.mp hk;obtain⟨c,hc,rfl⟩:=Qwk.mp<|(fW _).mem_iff.mp hz;have hm:D.str [c]∈kvs.map (·.1):=by rw[h.keys];exact Qwk.mpr ⟨c,hc,rfl⟩
 obtain⟨⟨k,v⟩,h1,h2⟩:=Qwk.mp hm;have h2':=h2;subst h2';cases e:wF kvs (.inr<|strOf [c]) with
 | none=>exact absurd rfl (wD e _ _ h1)
 | some w=>
  obtain⟨k',h3,h4⟩:=wC e;obtain⟨c',rfl,h5⟩:=h.vals k' w h3;have e2:=Sum.inr.inj<|Qw8 h4;cases sG e2;exact⟨c,w,rfl,e,h5⟩
theorem FT(h:Gp x kvs zs)(h4:zs.length<=4):Yy kvs=some (.tup (prs kvs ((dH (zs.map λc=>[c])).map D.str))):=by
 unfold Yy;rw[O9 h h4];simp only;rw[if_pos]
 ·rfl
 ·refine Qq5.mpr λk hk=>?_;obtain⟨c,v,_,e,_⟩:=Fb h k hk;rw[e];rfl
end uJ
namespace KX
open Ev PySem L2 PySem.Spec
theorem bQ(sep p q:List Nat)(ps:List (List Nat)):bG sep (p::q::ps)=p++sep++bG sep (q::ps):=by
 have h:∀(r:List (List Nat)) a b,r.foldl (λacc y=>acc++sep++y) (a++b)=a++r.foldl (λacc y=>acc++sep++y) b:=by
  intro r
  induction r with
  | nil=>intro a b;rfl
  | cons y r ih=>intro a b;rw[Qxy,Qxy,Qwy,Qwy,ih,<-Qwy b]
 show(q::ps).foldl (λacc y=>acc++sep++y) p=_;rw[Qxy];exact h ps (p++sep) q
open Ev PySem L2
open uJ (kW)
structure VP(xs:List (List Nat))(n m:Nat):Prop where
 len:xs.length<=n
 each:∀p∈xs,p.length<=m
theorem yV:∀(xs:List (List Nat)),(∀p∈xs,p.length<=m)->(xs.map List.length).sum<=xs.length*m
 | [],_=>by simp
 | p::xs,h=>by
  rw[Qq7,Qj0,Qq1,Nat.succ_mul,Nat.add_comm];exact Nat.add_le_add (yV xs λq hq=>h q<|Qqw _ hq)<|h p<|Qqk ..
theorem VP.sum(h:VP xs n m):(xs.map List.length).sum<=n*m:=
 Qq0 (yV xs h.each) (Nat.mul_le_mul_right _ h.len)
theorem Df(sep):∀xs,(bG sep xs).length<=(xs.map List.length).sum+xs.length*sep.length
 | []=>Qzz _
 | [p]=>by show p.length<=_;simp
 | p::q::r=>by
  have:=Df sep (q::r);rw[bQ,Qqz,Qqz,Qq7,Qj0,Qq1,Nat.succ_mul];omega
theorem VP.join(h:VP xs n m)(hs:sep.length<=2):(bG sep xs).length<=n*m+n*2:=
 Qq0 (Df sep xs) (Nat.add_le_add h.sum<|Nat.mul_le_mul h.len hs)
theorem VP.fits(h:VP xs n m)(hs:sep.length<=2)(hb:n*m+n*2<=100000):joinFits sep xs=true:=
 Qw2 (Qq0 (Qq0 (Nat.add_le_add h.sum<|Nat.mul_le_mul h.len hs) hb) (by decide))
theorem Fd(h:VP xs n m)(hs:sep.length<=2)(hb:n*m+n*2<=100000):lV (.str sep) (.lst (xs.map .str))=some (.str (bG sep xs)):=by show(match fJ (xs.map D.str) with|some xs=>if joinFits sep xs=true then some (D.str<|bG sep xs) else none|none=>none)=_;rw[kW];exact if_pos<|h.fits hs hb
theorem acM(h:VP xs n m)(hs:sep.length<=2)(hb:n*m+n*2<=100000):uD (.str sep) (.tup (xs.map .str))=some (.str (bG sep xs)):=by show(match fJ (xs.map D.str) with|some xs=>if joinFits sep xs=true then some (D.str<|bG sep xs) else none|none=>none)=_;rw[kW];exact if_pos<|h.fits hs hb
theorem xf:∀a b,z ∉ a->gP z (a++z::b)=some a.length
 | [],b,_=>by show(if z=z then _ else _)=_;rw[if_pos rfl];rfl
 | y::a,b,h=>by
  show(if y=z then some 0 else (gP z (a++z::b)).map (·+ 1))=_;rw[if_neg λe=>h (by rw[e];exact Qqk ..),xf a b λq=>h<|Qqw _ q]
  rfl
theorem adh{α:Type}(xs:List α)(k:Nat):cutD xs none (some k)=xs.take k:=by unfold cutD;rw[HT.sI];show(xs.drop 0).take (min k xs.length - 0)=_;rw[List.drop_zero,Nat.sub_zero];exact List.take_eq_take_min.symm
theorem vM{α:Type}(xs:List α)(k:Nat):cutD xs (some k) none=xs.drop k:=by
 unfold cutD;rw[HT.sI];show(xs.drop<|min k xs.length).take (xs.length - min k xs.length)=_;by_cases h:k<=xs.length
 ·rw[Nat.min_eq_left h,Qz8 (by rw[Qxz];omega)]
 ·rw[Nat.min_eq_right (by omega),List.drop_length,List.drop_of_length_le (by omega),List.take_nil]
end KX
namespace KP
open Ev PySem L2 PySem.Spec
theorem Ge(x y)(k):StrLaws.At (strOf x) (strOf y) (strOf x).length k↔k+y.length<=x.length/\(x.drop k).take y.length=y:=by
 show(k+(strOf y).length<=(strOf x).length/\Builtin.Str.subAt (strOf x) (strOf y) k=true)↔_;rw[StrLaws.subAt_eq,aO,aO,beq_iff_eq];have e:∀z,(strOf z).cps.toList=z:=λz=>by simp[strOf]
 rw[e,e]
theorem bQ(sep p q:List Nat)(ps:List (List Nat)):bG sep (p::q::ps)=p++sep++bG sep (q::ps):=by
 have h:∀(r:List (List Nat)) a b,r.foldl (λacc y=>acc++sep++y) (a++b)=a++r.foldl (λacc y=>acc++sep++y) b:=by
  intro r
  induction r with
  | nil=>intro a b;rfl
  | cons y r ih=>intro a b;rw[Qxy,Qxy,Qwy,Qwy,ih,<-Qwy b]
 show(q::ps).foldl (λacc y=>acc++sep++y) p=_;rw[Qxy];exact h ps (p++sep) q
def Np(sep p:List Nat):Prop:=∀k,k<p.length->((p++sep).drop k).take sep.length≠sep
theorem Np.of(h:c ∉ p):Np (c::r) p:=λk hk e=>by
 have:=Qjq List.head? e;rw[Qq1,List.head?_take,if_neg (by omega),List.head?_drop,Qw9 hk] at this;exact h<|Qjy this
theorem Np.last(h:Np sep p)(hs:0<sep.length)(hk:pre.length<=k):¬StrLaws.At (strOf (pre++p)) (strOf sep) (strOf (pre++p)).length k:=λe=>by
 obtain⟨h1,h2⟩:=(Ge _ sep k).mp e;obtain⟨j,rfl⟩:=Nat.exists_eq_add_of_le hk;rw[Qqz] at h1;rw[List.drop_append,List.drop_of_length_le<|Nat.le_add_right _ _,Qk6,Nat.add_sub_cancel_left] at h2;refine h j (by omega) ?_;rw[List.drop_append_of_le_length (by omega),List.take_append_of_le_length (by rw[Qxz];omega)];exact h2
theorem Np.mid{sep p pre rest:List Nat}(h:Np sep p)(hk:pre.length<=k)(hk2:k<pre.length+p.length):¬StrLaws.At (strOf (pre++(p++sep++rest))) (strOf sep) (strOf (pre++(p++sep++rest))).length k:=λe=>by
 obtain⟨h1,h2⟩:=(Ge _ sep k).mp e;obtain⟨j,rfl⟩:=Nat.exists_eq_add_of_le hk;rw[List.drop_append,List.drop_of_length_le<|Nat.le_add_right _ _,Qk6,Nat.add_sub_cancel_left] at h2;refine h j (by omega) ?_;rw[List.drop_append_of_le_length (by rw[Qqz];omega),List.take_append_of_le_length (by rw[Qxz,Qqz];omega)] at h2;exact h2
theorem Qz(h:StrLaws.ChainG x y hi a [] f):f=a:=by unfold StrLaws.ChainG at h;exact h
theorem zK(hs:0<sep.length):∀ps p pre cuts f x,x=pre++bG sep (p::ps)->(∀q∈p::ps,Np sep q)->
  StrLaws.ChainG (strOf x) (strOf sep) (strOf x).length pre.length cuts f->(∀k,f<=k->¬StrLaws.At (strOf x) (strOf sep) (strOf x).length k)->
  (StrLaws.partsFrom (strOf x) sep.length pre.length cuts).map (λs=>s.cps.toList)=p::ps
 | [],p,pre,cuts,f,x,hx,hp,hc,hf=>by
  have hx':x=pre++p:=hx;cases cuts with
  | nil=>
   show [(Builtin.Str.strSub (strOf x) pre.length (strOf x).length).cps.toList]=[p];rw[StrLaws.strSub_toList,aO];have e:(strOf x).cps.toList=x:=by simp[strOf]
   rw[e,hx',List.drop_left,Qqz,Nat.add_sub_cancel_left,List.take_length]
  | cons i cs=>
   have h:=hc;unfold StrLaws.ChainG at h;have h2:=h.2.1;rw[hx'] at h2;exact absurd h2<|(hp p<|Qqk ..).last hs h.1
 | q::ps,p,pre,cuts,f,x,hx,hp,hc,hf=>by
  rw[bQ] at hx;have hn:∀k,pre.length<=k->k<pre.length+p.length->¬StrLaws.At (strOf x) (strOf sep) (strOf x).length k:=λk hk hk2=>by
   rw[hx];exact(hp p<|Qqk ..).mid hk hk2
  have ha:StrLaws.At (strOf x) (strOf sep) (strOf x).length (pre.length+p.length):=by
   refine(Ge x sep _).mpr ⟨?_,?_⟩
   ·rw[hx,Qqz,Qqz,Qqz];omega
   ·have e:x=(pre++p)++(sep++bG sep (q::ps)):=by rw[hx];simp
    rw[e,<-Qqz,List.drop_left,List.take_left]
  cases cuts with
  | nil=>
   have h:=Qz hc;subst h;exact absurd ha<|hf _<|Nat.le_add_right _ _
  | cons i cs=>
   have h:=hc;unfold StrLaws.ChainG at h;obtain⟨h1,h2,h3,h4⟩:=h;have hi:i=pre.length+p.length:=by
    rcases Nat.lt_trichotomy i (pre.length+p.length) with l|l|l
    ·exact absurd h2<|hn i h1 l
    ·exact l
    ·exact absurd ha<|h3 _ (Nat.le_add_right _ _) l
   subst hi;show(Builtin.Str.strSub (strOf x) pre.length<|pre.length+p.length).cps.toList::(StrLaws.partsFrom (strOf x) sep.length (pre.length+p.length+sep.length) cs).map (λs=>s.cps.toList)=_;have e0:(strOf x).cps.toList=x:=by simp[strOf]
   have e1:(Builtin.Str.strSub (strOf x) pre.length<|pre.length+p.length).cps.toList=p:=by rw[StrLaws.strSub_toList,e0,hx,List.drop_left,Nat.add_sub_cancel_left,Qwy,List.take_left]
   have e2:pre.length+p.length+sep.length=(pre++p++sep).length:=by rw[Qqz,Qqz]
   have e3:(strOf sep).length=sep.length:=aO _;rw[e3,e2] at h4;rw[e1,e2,zK hs ps q (pre++p++sep) cs f x (by rw[hx];simp) (λz hz=>hp z<|Qqw _ hz) h4 hf]
theorem zb(hs:0<sep.length)(hk:Builtin.Str.strKind (strOf sep)=1)(p)(ps)(hp:∀q∈p::ps,Np sep q):cU (bG sep (p::ps)) sep=p::ps:=by
 have hk:∀z,¬Builtin.Str.strKind z<Builtin.Str.strKind (strOf sep):=λz=>by
  rw[hk];unfold Builtin.Str.strKind;split<;>(try split)<;>(try split)<;>omega
 unfold cU Txt.split;generalize hx:bG sep (p::ps)=x;obtain⟨f,h1,h2⟩:=StrLaws.occ_tight (strOf x) (strOf sep) (by rw[aO];omega);have key:=zK hs ps p [] _ f x (by rw[<-hx];rfl) hp h1 h2;split
 ·rename_i hc;have hl:x.length<sep.length:=by
   rcases Bool.or_eq_true_iff.mp hc with h|h
   ·have:=Qww h;rw[aO,aO] at this;exact this
   ·exact absurd (Qww h)<|hk _
  cases ps with
  | nil=>
   have:x=p:=hx.symm;rw[this];simp[strOf]
  | cons q ps=>
   rw[bQ] at hx;rw[<-hx,Qqz,Qqz] at hl;omega
 ·split
  ·rename_i h0 he;have e:=List.isEmpty_iff.mp he;rw[e] at key;have:[(Builtin.Str.strSub (strOf x) 0 (strOf x).length).cps.toList]=p::ps:=key;rw[<-this,StrLaws.strSub_toList];have e0:(strOf x).cps.toList=x:=by simp[strOf]
   rw[e0,aO];simp[e0]
  ·rw[StrLaws.partsBetween_eq,aO];exact key
theorem strs_map(zs):fJ (zs.map D.str)=some zs:=by
 induction zs with
 | nil=>rfl
 | cons z r ih=>rw[Qq7];show(fJ _).map _=_;rw[ih];rfl
def il(c:Nat):List Nat->List (List Nat)
 | []=>[[]]
 | a::t=>if a=c then []::il c t else match il c t with
  | []=>[[a]]
  | p::ps=>(a::p)::ps
theorem jY(c):∀t,∃p ps,il c t=p::ps
 | []=>⟨_,_,rfl⟩
 | a::t=>by
  obtain⟨p,ps,e⟩:=jY c t;unfold il;rw[e];split
  ·exact⟨_,_,rfl⟩
  ·exact⟨_,_,rfl⟩
theorem fP(c):∀t,bG [c] (il c t)=t
 | []=>rfl
 | a::t=>by
  have ih:=fP c t;obtain⟨p,ps,e⟩:=jY c t;unfold il;rw[e] at ih ⊢;split
  ·rename_i h;rw[bQ,ih,h]
   rfl
  ·show bG [c] ((a::p)::ps)=_;cases ps with
   | nil=>rw[<-ih];rfl
   | cons q ps=>rw[bQ] at ih ⊢;rw[<-ih];rfl
theorem rm(c):∀t,∀p∈il c t,c ∉ p
 | [],p,h=>by rcases Qwx.mp h with rfl;exact Qxx
 | a::t,p,h=>by
  obtain⟨q,qs,e⟩:=jY c t;have ih:=rm c t;unfold il at h;rw[e] at h ih;split at h
  ·rcases Qq3.mp h with rfl|h
   ·exact Qxx
   ·exact ih p h
  ·rename_i n;rcases Qq3.mp h with rfl|h
   ·intro hc;rcases Qq3.mp hc with rfl|hc
    ·exact n rfl
    ·exact ih q (Qqk ..) hc
   ·exact ih p<|Qqw _ h
theorem DX(c):∀ps p,(∀q∈p::ps,c ∉ q)->il c (bG [c] (p::ps))=p::ps:=by
 have one:∀p t,c ∉ p->il c (p++c::t)=p::il c t:=by
  intro p
  induction p with
  | nil=>intro t _;exact if_pos rfl
  | cons a p ih=>
   intro t h;have h2:a≠c:=λe=>h<|e ▸ Qqk ..;show(if a=c then []::il c (p++c::t) else match il c (p++c::t) with
    | []=>[[a]]
    | p::ps=>(a::p)::ps)=_
   rw[if_neg h2,ih t λhc=>h<|Qqw _ hc]
 have last:∀p,c ∉ p->il c p=[p]:=by
  intro p
  induction p with
  | nil=>intro _;rfl
  | cons a p ih=>
   intro h;have h2:a≠c:=λe=>h<|e ▸ Qqk ..;show(if a=c then []::il c p else match il c p with
    | []=>[[a]]
    | p::ps=>(a::p)::ps)=_
   rw[if_neg h2,ih λhc=>h<|Qqw _ hc]
 intro ps
 induction ps with
 | nil=>intro p h;exact last p<|h p<|Qqk ..
 | cons q ps ih=>
  intro p h;rw[bQ,Qwy];show il c (p++c::bG [c] (q::ps))=_;rw[one p _ (h p<|Qqk ..),ih q λz hz=>h z<|Qqw _ hz]
theorem join_le(sep):∀xs,∀q∈xs,q.length<=(bG sep xs).length
 | [],q,h=>nomatch h
 | [p],q,h=>by rcases Qwx.mp h with rfl;exact Qqy _
 | p::r::xs,q,h=>by
  rw[bQ,Qqz,Qqz];rcases Qq3.mp h with rfl|h
  ·omega
  ·have:=join_le sep (r::xs) q h;omega
theorem sV(hs:0<sep.length):∀xs,xs.length<=(bG sep xs).length+1
 | []=>Qzz _
 | [p]=>by show 1<=_;omega
 | p::r::xs=>by
  have:=sV hs (r::xs);rw[bQ,Qqz,Qqz,Qq1];omega
theorem O7(hs:0<sep.length)(hk:Builtin.Str.strKind (strOf sep)=1)(hp:∀q∈p::ps,Np sep q)(hl:(bG sep (p::ps)).length<=100000):dB (.str (bG sep (p::ps))) (.str sep)=some (.lst ((p::ps).map .str)):=by
 have e:=zb hs hk p ps hp;have hz:100001<=sizeLine:=by decide
 have h1:=sV hs (p::ps);show(if _ then some (D.lst<|(cU (bG sep (p::ps)) sep).map .str) else none)=_;rw[e];refine if_pos ⟨λz=>by rw[z] at hs;exact absurd hs (by decide),by omega,by omega,λq hq=>?_⟩;have:=join_le sep (p::ps) q hq;omega
theorem mV(hk:Builtin.Str.strKind (strOf [c])=1)(hl:t.length<=100000):dB (.str t) (.str [c])=some (.lst ((il c t).map .str)):=by
 obtain⟨p,ps,e⟩:=jY c t;have h:=fP c t;have hf:=rm c t;rw[e] at h hf ⊢;have:=O7 (by show 0<1;omega) hk (λq hq=>Np.of<|hf q hq) (by rw[h];exact hl)
 rwa [h] at this
theorem toL(z):(strOf z).cps.toList=z:=by simp[strOf]
theorem Wt(s):strOf s.cps.toList=s:=by cases s;simp[strOf]
theorem Hu(ha:0<a.length)(hp:∀q∈p::ps,Np a q):xR (bG a (p::ps)) a b=bG b (p::ps):=by
 unfold xR Txt.replace;generalize hx:bG a (p::ps)=x;obtain⟨f,h1,h2⟩:=StrLaws.occ_tight (strOf x) (strOf a) (by rw[aO];omega);have key:=zK ha ps p [] _ f x (by rw[<-hx];rfl) hp h1 h2;have hz:((strOf a).length == 0)=false:=by rw[aO];exact beq_false_of_ne (by omega)
 rw[hz,Bool.false_and,Bool.or_false];split
 ·rename_i he;have e:=List.isEmpty_iff.mp he;rw[e] at key;have k:[(Builtin.Str.strSub (strOf x) 0 (strOf x).length).cps.toList]=p::ps:=key;rw[StrLaws.strSub_toList,toL,aO] at k;rw[<-k,toL];show x=(List.take (x.length - 0)<|List.drop 0 x);simp
 ·rw[StrLaws.partsBetween_eq,aO];have key:=key;generalize StrLaws.partsFrom (strOf x) a.length 0 (Builtin.Str.occurrences (strOf x) (strOf a) 0 (strOf x).length<|(strOf x).length+1)=Z at key ⊢;have k2:=zY b (p::ps);rw[<-key,Qw6] at k2;have e3:Z.map (strOf ∘ λs=>s.cps.toList)=Z:=(Qx9 λs _=>Wt s).trans<|List.map_id _;rw[e3,key] at k2;have k3:=Qjq (λs:Str=>s.cps.toList) k2;exact k3.trans<|toL _
end KP
namespace dh
open Ev
section
def nA:Ev:=fY 1 2 (gJ (aa (au BV (ao cT (aa (bj 0) aj)) (Zi 1)) aj)) (aq 1) cL (au gLt (ak dC 0 (bj 1)) (ak dC 0 (ak bM 1 (Zi 1))))
def yP:cu:=bw (ao qw (aa (nA) aj))
def mJ:LD:=dO 1 yP
def pO:cu:=bw (ju (gk (xB "tuple") (aP 0)) (au jF (ao cT (aa (bj 0) aj)) (Zi 2)))
def pK:LD:=dO 1 pO
def j5:Ev:=fY 1 3 (fU (aP 0)) (gb 2 (bD (aq 1) (bD (aq 2) gC))) cL (aP 1)
def oJ:cu:=bw (ao fX (aa (j5) aj))
def lX:LD:=dO 1 oJ
def iK:Ev:=fY 4 5 (fU (aP 1)) (aq 4) cL (ak Bh 4 (bj 3))
def nu:Ev:=fY 2 4 (fU (aP 0)) (gb 2 (bD (aq 2) (bD (aq 3) gC))) (cC (ao qw (aa (iK) aj))) (aP 2)
def oK:cu:=bw (ao fX (aa (nu) aj))
def oG:LD:=dO 2 oK
def fO:cu:=aM (eQ (dX (cC (ao pK (Zv 1 aj)))) (bw (jr (.bl false))) bU) (aM (bz (aP 1) (gb 2 (bD (aq 2) (bD (aq 3) gC)))) (bw (ju (ak Bh 2 (bj 0)) (ju (Jh (ak Bh 3 (bj 0)) (ak jF 3 (Zw []))) (ak qJ 2 (bj 3))))))
def jG:LD:=dO 4 fO
def jw:cu:=bw (ju (ao pK (Zv 1 aj)) (ju (au jF (ak dC 1 (Zi 0)) (Zw [])) (au Bh (ak dC 1 (Zi 1)) (bj 0))))
def eG:LD:=dO 2 jw
def eV:Ev:=fY 2 3 (fU (aP 1)) (aq 2) cL (ao jG (Zv 0 (Zv 2 aj)))
def eU:Ev:=fY 2 4 (fU (aP 1)) (gb 2 (bD (aq 2) (bD (aq 3) gC))) cL (aP 2)
def jy:cu:=aM (eQ (du (dX (cC (gk (xB "tuple") (aP 1)))) (cC (au jF (ao cT (aa (bj 1) aj)) (Zi 0)))) (bw (jr (.bl false))) bU) (aM (eQ (iz (cC (au jF (ao cT (aa (bj 1) aj)) (Zi 1))) (cC (ao eG (Zv 0 (aa (ak dC 1 (Zi 0)) aj))))) (bw (jr (.bl true))) bU) (bw (ju (ao qw (aa (eV) aj)) (ao mJ (aa (eU) aj)))))
def lM:LD:=dO 2 jy
def iQ:Ev:=fY 2 3 (fU (aP 1)) (aq 2) cL (Jh (ak jF 2 (Zw [35])) (ak Bh 2 (bj 0)))
def oU:cu:=aM (eQ (cC (ak QZ 1 (jr .non))) (bw (jr (.bl true))) bU) (aM (eQ (du (dX (cC (gk (xB "tuple") (aP 1)))) (cC (au jF (ao cT (aa (bj 1) aj)) (Zi 0)))) (bw (jr (.bl false))) bU) (bw (ju (ao qw (aa (iQ) aj)) (ao mJ (Zv 1 aj)))))
def lY:LD:=dO 2 oU
def pN:cu:=aM (eQ (du (dX (cC (gk (xB "tuple") (aP 1)))) (cC (au qJ (ao cT (aa (bj 1) aj)) (Zi 4)))) (bw (jr (.bl false))) bU) (aM (bz (aP 1) (gb 4 (bD (aq 2) (bD (aq 3) (bD (aq 4) (bD (aq 5) gC)))))) (aM (bz (ao lX (Zv 0 aj)) (aq 6)) (bw (ju (ak Bh 2 (jr (.tup [(.str [111,110,99,101]),(.str [97,108,111,110,103])]))) (ju (ao lM (Zv 6 (Zv 3 aj))) (ju (ao lY (Zv 6 (Zv 4 aj))) (ao lY (Zv 6 (Zv 5 aj)))))))))
def jU:LD:=dO 7 pN
def oN:cu:=eQ (dX (cC (gk (xB "str") (aP 0)))) (DW) bU
def oH:LD:=dO 1 oN
def mK:cu:=eQ (dX (cC (gk (xB "str") (aP 0)))) (qZ (jr .non)) bU
def qW:LD:=Bw 1 mK
def mO:cu:=bw (K6 (cC (ak jF 0 (Zw []))) (Zw [48]) (aP 0))
def gR:LD:=dO 1 mO
def mQ:cu:=bw (K6 (cC (ak QZ 0 (jr .non))) (Zw [42]) (au uD (Zw []) (bj 0)))
def gU:LD:=dO 1 mQ
def iM:Ev:=fY 6 8 (fU (aP 2)) (gb 2 (bD (aq 6) (bD (aq 7) gC))) cL (Jj [62] (ao gR (Zv 6 aj)) (ao gR (Zv 7 aj)))
def oM:cu:=aM (bz (aP 0) (gb 4 (bD (aq 1) (bD (aq 2) (bD (aq 3) (bD (aq 4) gC)))))) (aM (jh 5 (iM)) (bw (au lV (Zw [32]) (au bM (au bM (cB (Zv 1 aj)) (bj 5)) (cB (aa (Zw [47]) (aa (ao gU (Zv 3 aj)) (aa (Zw [95]) (aa (ao gU (Zv 4 aj)) aj)))))))))
def iT:LD:=dO 6 oM
def j9:cu:=aM (eQ (cC (ak jF 0 (Zw []))) (bw (jr .non)) bU) (bw (K6 (cC (ak jF 0 (Zw [48]))) (Zw []) (aP 0)))
def j7:LD:=dO 1 j9
def jf:cu:=aM (eQ (cC (ak jF 1 (Zw [42]))) (bw (jr .non)) bU) (aM (eQ (du (dX (cC (au sY (aP 1) (Zw [91])))) (dX (cC (au Dl (aP 1) (Zw [93]))))) (bw (ao Iv (aa (bj 1) aj))) bU) (bw (ao oG (Zv 0 (aa (au dB (jV (aP 1) (o7 (Zi 1)) (o7 (gk IW (Zi 1)))) (Zw [32])) aj)))))
def d8:LD:=dO 2 jf
def jD:Ev:=fY 8 9 (fU (au dB (aP 7) (Zw [62]))) (aq 8) cL (ao j7 (Zv 8 aj))
def jC:Ev:=fY 7 8 (fU (jV (aP 2) (o7 (Zi 1)) (o7 (aP 3)))) (aq 7) cL (ao fX (aa (jD) aj))
def kh:cu:=aM (bz (au dB (aP 1) (Zw [32])) (aq 2)) (aM (eQ (du (cC (au gQ (Zw [47]) (bj 2))) (cC (au gQ (Zw [95]) (bj 2)))) (bw (jr .non)) bU) (aM (bz (au qu (aP 2) (Zw [47])) (aq 3)) (aM (bz (au qu (aP 2) (Zw [95])) (aq 4)) (aM (bz (ao fX (aa (jC) aj)) (aq 5)) (aM (bz (ao d8 (Zv 0 (aa (au lV (Zw [32]) (jV (aP 2) (o7 (ak bM 3 (Zi 1))) (o7 (aP 4)))) aj))) (aq 6)) (bw (ig (aa (ak dC 2 (Zi 0)) (Zv 5 (Zv 6 (aa (ao d8 (Zv 0 (aa (au lV (Zw [32]) (jV (aP 2) (o7 (ak bM 4 (Zi 1))) pL)) aj))) aj)))))))))))
def dF:LD:=dO 7 kh
def jW:cu:=aM (J7 (ao oH (Zv 1 aj))) (aM (bz (ao dF (Zv 0 (Zv 1 aj))) (aq 2)) (aM (eQ (dX (cC (ao jU (Zv 0 (Zv 2 aj))))) (DW) bU) (bw (aP 2))))
def jQ:LD:=dO 3 jW
def cP:cu:=aM (Ry (qx qW (Zv 1 aj)) (J7 (ao oH (Zv 1 aj)))) (aM (bz (ao dF (Zv 0 (Zv 1 aj))) (aq 2)) (aM (eQ (dX (cC (ao jU (Zv 0 (Zv 2 aj))))) (qZ (Zi 0)) bU) (bw (aP 2))))
def cZ:LD:=Bw 3 cP
def iV:cu:=aM (bz (ao vI (aa (ak dC 0 (Zi 0)) (aa (bj 1) aj))) (gb 2 (bD (Ye 0 (Zi 0)) (bD (aq 2) gC)))) (bw (aP 2))
def aW:List D->Option (D×D):=jl 3 iV
def fG:Ev:=fY 4 5 (gJ (aa (au bM (Zi 1) (dR aW 0 (aa (Zi 4) aj))) aj)) (aq 4) cL (ak dC 1 (au Qs (ak bM 2 (ak pJ 3 (bj 4))) (Zi 26)))
def gW:cu:=aM (bz (Zw [97,98,99,100,101,102,103,104,105,106,107,108,109,110,111,112,113,114,115,116,117,118,119,120,121,122]) (aq 1)) (aM (bz (ig (aa (dR aW 0 (aa (Zi 26) aj)) (aa (au bM (Zi 1) (dR aW 0 (aa (Zi 25) aj))) aj))) (gb 2 (bD (aq 2) (bD (aq 3) gC)))) (bw (au lV (Zw []) (gk jo (fG)))))
def fj:List D->Option (D×D):=jl 4 gW
def nC:Ev:=fY 7 8 (gJ (aa (Zi 5) aj)) (aq 7) (cC (au jF (au Jc (ak Fp 5 (bj 7)) (Zi 1)) (Zi 1))) (ak dC 2 (bj 7))
def iR:cu:=aM (bz (dR aW 0 (aa (Zi 32) aj)) (aq 5)) (aM (bz (ao jE (aa (nC) aj)) (aq 6)) (tR 3 (ig (Zv 4 (aa (ao fX (aa (BW (aP 6) pL (o7 (Zi 4))) aj)) aj)))))
def oO:cu:=aM (bz (dR fj 0 aj) (aq 1)) (aM (bz (cB (aa (Zw [115,116,111,112]) (aa (Zw [115,116,111,112,115]) (aa (Zw [115]) (aa (Zw [111,112,101,110]) (aa (Zw [97,98,99,100,101,102,103,104]) aj)))))) (aq 2)) (aM (jh 3 (cB aj)) (aM (jX (fU (aP 1)) (aq 4) (iR)) (bw (ao fX (aa (bj 3) aj))))))
def jR:List D->Option (D×D):=jl 7 oO
def nD:Ev:=fY 4 5 (gJ (aa (ao cT (aa (bj 3) aj)) aj)) (aq 4) (cC (au jF (au Jc (ak Fp 2 (bj 4)) (Zi 1)) (Zi 1))) (ak dC 3 (bj 4))
def gK:cu:=aM (eQ (cC (au jF (dR aW 0 (aa (Zi 2) aj)) (Zi 0))) (bw (jr .non)) bU) (aM (bz (au bM (Zi 1) (dR aW 0 (aa (au BV (au Qq (Zi 2) (ao cT (aa (bj 1) aj))) (Zi 1)) aj))) (aq 2)) (aM (bz (au bM (Zw [35]) (bj 1)) (aq 3)) (bw (ao fX (aa (nD) aj)))))
def dI:List D->Option (D×D):=jl 4 gK
def lD:Ev:=fY 6 7 (fU (au bM (ao Dj (aa (bj 1) aj)) (cB (aa (Zw []) aj)))) (aq 6) (cC (ak qJ 6 (bj 4))) (aP 6)
def lE:cu:=aM (bz (ak dC 1 (dR aW 0 (aa (ao cT (aa (bj 1) aj)) aj))) (aq 4)) (aM (jh 5 (lD)) (ue 2 (aP 4) (ak dC 5 (dR aW 0 (aa (ao cT (aa (bj 5) aj)) aj)))))
def lC:Ev:=fY 6 7 (fU (ao jE (aa (bj 2) aj))) (aq 6) cL (ig (Zv 6 (aa (ak mz 2 (bj 6)) aj)))
def eO:cu:=aM (eQ (cC (au jF (dR aW 0 (aa (Zi 5) aj)) (Zi 0))) (bw (ig (aa (ig (aa (Zw []) (aa (ak dC 1 (dR aW 0 (aa (ao cT (aa (bj 1) aj)) aj))) aj))) aj))) bU) (aM (jh 2 (Fx)) (aM (jX (gJ (aa (au bM (Zi 1) (dR aW 0 (aa (Zi 3) aj))) aj)) (aq 3) (lE)) (bw (ao fX (aa (lC) aj)))))
def eN:List D->Option (D×D):=jl 6 eO
def qC:cu:=aM (bz (au dC (cB (aa (Zw [111,110,99,101]) (aa (Zw [97,108,111,110,103]) aj))) (dR aW 0 (aa (Zi 2) aj))) (aq 2)) (aM (bz (dR eN 0 (Zv 1 aj)) (aq 3)) (bw (ig (Zv 2 (Zv 3 (aa (dR dI 0 (Zv 1 aj)) (aa (dR dI 0 (Zv 1 aj)) aj)))))))
def lF:List D->Option (D×D):=jl 4 qC
def gG:cu:=aM (eQ (cC (ak QZ 0 (jr .non))) (bw (Zw [42])) bU) (bw (au uD (Zw []) (bj 0)))
def cG:LD:=dO 1 gG
def cg:cu:=bz (au bM (au bM (au bM (ak bM 5 (Zw [32])) (au dC (ak bM 6 (Zw [48])) (Zi 0))) (Zw [62])) (au dC (ak bM 7 (Zw [48])) (Zi 0))) (aq 5)
def jJ:cu:=aM (bz (aP 0) (gb 4 (bD (aq 1) (bD (aq 2) (bD (aq 3) (bD (aq 4) gC)))))) (aM (bz (aP 1) (aq 5)) (aM (jX (fU (aP 2)) (gb 2 (bD (aq 6) (bD (aq 7) gC))) (cg)) (bw (au bM (au bM (au bM (ak bM 5 (Zw [32,47,32])) (ao cG (Zv 3 aj))) (Zw [32,95,32])) (ao cG (Zv 4 aj))))))
def fL:LD:=dO 8 jJ
end
open Ev PySem L2
open KP
def oD:Option (List Nat)->D
 | none=>.non
 | some z=>.str z
def xA(x:List Nat):Option (List Nat)->Bool
 | some [c]=>x.contains c
 | _=>false
theorem str1(a b):bu 59 (.str a) (.str b)=some (a == b):=rfl
theorem ag8(x)(a):Ff (oD a) (gj x)=some (xA x a):=by
 induction x with
 | nil=>
  show some false=some (xA [] a);unfold xA;split<;>rfl
 | cons c x ih=>
  show(match bu 59 (.str [c]) (oD a),Ff (oD a) (gj x) with|some a,some b=>some (a||b)|_,_=>none)=_;rw[ih];cases a with
  | none=>rfl
  | some z=>
   show(match bu 59 (.str [c]) (.str z),some (xA x<|some z) with|some a,some b=>some (a||b)|_,_=>none)=_;rw[str1];show some (([c] == z)||xA x (some z))=_
   congr 1
   match z with
   | []=>rfl
   | [d]=>
    show(([c] == [d])||x.contains d)=(c::x).contains d;rw[List.contains_cons,show([c] == [d])=(d == c) by rw[Bool.beq_comm];simp]
   | d::e::r=>
    show(([c] == d::e::r)||false)=false;rw[Bool.or_false,Qwv];intro h;exact absurd (Qjq List.length h) (by show 1≠r.length+2;omega)
theorem Nr(x)(a):Bh (oD a) (.tup (gj x))=some (.bl (xA x a)):=by
 show(Fv (oD a)<|.tup<|gj x).or _=_;have:Fv (oD a) (.tup<|gj x)=some (.bl<|xA x a):=by
  show(Ff (oD a)<|gj x).map D.bl=_;rw[ag8]
  rfl
 rw[this]
 rfl
theorem aag(a b):jF (oD a) (oD b)=some (.bl (a == b)):=by cases a<;>cases b<;>rfl
theorem afx(a b):qJ (oD a) (oD b)=some (.bl (!(a == b))):=by cases a<;>cases b<;>rfl
def cD(o:List (Option (List Nat))):D:=.tup (o.map oD)
theorem is_pair(o):pK [cD o]=some (.bl (o.length == 2)):=by
 match o with
 | []=>rfl
 | [_]=>rfl
 | [_,_]=>rfl
 | a::b::c::r=>
  refine bW (env:=[(Zf<|cD (a::b::c::r))]) ?_;unfold pO;refine bY<|(Fy rfl).trans ?_;refine aJ (x:=.int ((r.map oD).length+3)) rfl rfl ?_;rw[aah];rw[Qwv.mpr (by omega),Qwv.mpr (by rw[Qq1,Qq1,Qq1];omega)]
def vN(x:List Nat):List (Option (List Nat))->Bool
 | [a,b]=>xA x a&&((xA x b||b == some []) && !(a == b))
 | _=>false
theorem jt(h1:a env = .ok (.bl p) env)(h2:p=true->b env = .ok (.bl q) env):ju a b env = .ok (.bl (p&&q)) env:=by
 cases p with
 | true=>exact(Fy h1).trans<|h2 rfl
 | false=>exact NT h1
theorem Nz(h1:a env = .ok (.bl p) env)(h2:p=false->b env = .ok (.bl q) env):Jh a b env = .ok (.bl (p||q)) env:=by
 cases p with
 | true=>exact ac6 h1
 | false=>exact(ac7 h1).trans<|h2 rfl
theorem changes_sound(x)(o):jG [.tup (gj x),cD o]=some (.bl (vN x o)):=by
 have hp:=is_pair o;by_cases h2:o.length=2
 ·match o,h2 with
  | [a,b],_=>
   refine bW (env:=[(Zf<|.tup<|gj x),Zf<|cD [a,b],Zf<|oD a,Zf<|oD b]) ?_;unfold fO;refine(aB (e:=[(Zf<|.tup<|gj x),Zf<|cD [a,b],Zn,Zn]) ?_).trans ?_
   ·exact(dz<|jb<|bI<|aL rfl hp).trans rfl
   refine(aB (e:=[(Zf<|.tup<|gj x),Zf<|cD [a,b],Zf<|oD a,Zf<|oD b]) ?_).trans ?_
   ·rfl
   refine(bY ?_);refine jt (jc rfl rfl rfl (Nr x a)) λ_=>?_;refine jt (Nz (jc rfl rfl rfl (Nr x b)) λ_=>?_) λ_=>?_
   ·exact jc rfl rfl rfl (aag b<|some [])
   ·exact jc rfl rfl rfl (afx a b)
 ·have e:vN x o=false:=by
   unfold vN;split
   ·exact absurd rfl h2
   ·rfl
  rw[e];rw[Qwv.mpr h2] at hp;refine bW (env:=[(Zf<|.tup<|gj x),Zf<|cD o,Zn,Zn]) ?_;unfold fO;exact cI<|(gw<|jb<|bI<|aL rfl hp).trans rfl
def pu(x:List Nat):List (Option (List Nat))->Bool
 | [a,b]=>a == some []&&xA x b
 | _=>false
theorem puts_one_in(x)(o):eG [.tup (gj x),cD o]=some (.bl (pu x o)):=by
 have hp:=is_pair o;refine bW (env:=[(Zf<|.tup<|gj x),Zf<|cD o]) ?_;unfold jw;refine bY ?_;by_cases h2:o.length=2
 ·match o,h2 with
  | [a,b],_=>
   refine(Fy<|aL rfl hp).trans<|jt (aJ rfl rfl (aag a<|some [])) λ_=>?_;exact aJ rfl rfl (Nr x b)
 ·have e:pu x o=false:=by
   unfold pu;split
   ·exact absurd rfl h2
   ·rfl
  rw[e];rw[Qwv.mpr h2] at hp;exact NT<|aL rfl hp
def iw:List (List Nat)->Bool
 | []=>true
 | [_]=>true
 | x::y::r=>decide (x<y)&&iw (y::r)
theorem Mr:∀zs,((List.range (zs.length - 1)).all λi=>decide (zs.getD i []<zs.getD (i+1) []))=iw zs
 | []=>rfl
 | [_]=>rfl
 | x::y::r=>by
  have ih:=Mr (y::r);have e:(x::y::r).length - 1=(y::r).length - 1+1:=by simp
  rw[e,List.range_succ_eq_map,List.all_cons,List.all_map];show _=(decide (x<y)&&iw (y::r));rw[<-ih]
  rfl
theorem rises(t:List D->D)(ht:t = .tup\/t = .lst)(zs)(hz:zs.length<=1000):mJ [t (zs.map .str)]=some (.bl (iw zs)):=by
 unfold mJ yP nA;have hlen:cT [t (zs.map .str)]=some (.int zs.length):=by rcases ht with rfl|rfl<;>simp[cT]
 have hr:tK [.int ((zs.length:Int) - 1)]=some ((List.range<|zs.length - 1).map λ(i:Nat)=>D.int (i:Int)):=by
  cases zs with
  | nil=>rfl
  | cons z r=>
   have e:(((z::r).length:Int) - 1)=((r.length:Nat):Int):=by rw[Qq1];omega
   rw[e,aeg (by simp at hz;omega)]
   rfl
 have h4:=nO (lo:=1) (n:=2) (it:=gJ<|aa (au BV (ao cT<|aa (bj 0) aj)<|Zi 1) aj) (e:=au gLt (ak dC 0<|bj 1)<|ak dC 0<|ak bM 1<|Zi 1) (env:=[(Zf<|t<|zs.map .str)]) (List.range<|zs.length - 1) (λi=>.int (i:Nat)) (λi=>.bl<|decide (zs.getD i []<zs.getD (i+1) [])) (by(simp (maxSteps:=2000000) (disch:=(first|((try simp only[Qq1,Qz3,Qqz,Qqj,List.length_range,sizeLine,Nat.reducePow])<;>omega)|fail)) only[Yl,Jk,NQ,Jl,U9,gt0,rS,Z9,bR,M9,NB,Ij,Z8,lR,Us,aal,Nb,acW,hlen,hr]<;>try rfl)) rfl rfl (λi hi=>by
  have hi:=Qx6.mp hi;have g:∀j,j<zs.length->dC (t<|zs.map .str) (.int (j:Int))=some (.str<|zs.getD j []):=λj hj=>by
   rcases ht with rfl|rfl<;>simp[afB,afC,atN,hj]
  have g1:=g i (by omega);have g2:=g (i+1) (by omega);rw[show(((i+1:Nat):Int))=(i:Int)+1 from rfl] at g2
  (simp (maxSteps:=2000000) (disch:=(first|((try simp only[Qq1,Qz3,Qqz,Qqj,List.length_range,sizeLine,Nat.reducePow])<;>omega)|fail)) only[Qj4,Qk6,NQ,Vb,gt0,rS,X7,U9,gtS,Z9,bR,Uu,Ut,lR,Us,aal,ac2,Nb,afz,g,g2]<;>try rfl)) (by rw[List.length_range];exact Qq0 (show zs.length - 1<=1000 by omega) (by decide))
 have h5:=Ad (λi=>decide (zs.getD i []<zs.getD (i+1) []))<|List.range<|zs.length - 1;rw[Mr] at h5
 (simp (maxSteps:=2000000) (disch:=(first|((try simp only[Qq1,Qz3,Qqz,Qqj,List.length_range,sizeLine,Nat.reducePow])<;>omega)|fail)) only[abi,envOf,Qq7,Qk8,Qq1,Qz3,Nat.reduceAdd,Nat.reduceSub,List.replicate_zero,Qj4,Qk6,Wu,Jl,Jk,bR,M9,NB,Ij,Z8,lR,bO,acL,dRt,h4,h5]<;>try rfl)
def old:List (Option (List Nat))->List Nat
 | some z::_=>z
 | _=>[]
def xH(x:List Nat)(cs:List (List (Option (List Nat)))):Bool:=!cs.isEmpty&&((cs.length == 1&&cs.all (pu x))||(cs.all (vN x)&&iw (cs.map old)))
theorem U8(h:a env = .ok (.tup ds) env)(k):au jF (ao cT (aa a aj)) (jr (.int k)) env = .ok (.bl (ds.length == k)) env:=
 aJ (aL (aN h bH) rfl) rfl (aah _ _)
abbrev S3(x:List Nat)(cs:List (List (Option (List Nat)))):Ev.Env:=[(Zf (.tup (gj x))),(Zf (.tup (cs.map cD)))]
theorem all1(x)(cs)(hl:cs.length<=1000):eV (S3 x cs) = .ok (.lst (cs.map λo=>.bl (vN x o))) (S3 x cs):=
 nO cs cD (λo=>.bl<|vN x o) rfl rfl rfl (λo _=>aL rfl (changes_sound x o)) (Qq0 hl (by decide))
theorem Oa(h:vN x o=true):∃c b,o=[some [c],b]/\x.contains c=true:=by
 unfold vN at h;split at h
 ·rename_i a b;rw[Qq2] at h;have h1:=h.1;unfold xA at h1;split at h1
  ·exact⟨_,_,rfl,h1⟩
  ·cases h1
 ·cases h
theorem all2(x)(cs)(hl:cs.length<=1000)(h:cs.all (vN x)=true):eU (S3 x cs) = .ok (.lst ((cs.map old).map .str)) (S3 x cs):=by
 have h4:=rT (n:=4) (g:=gb 2<|bD (aq 2)<|bD (aq 3) gC) (e:=aP 2) (env:=(S3 x cs)) cs cD (λo=>[Zs (old o),(Zf<|oD<|(o.drop 1).headD none)]) (λ_=>true) (λo=>.str<|old o) rfl rfl (λo ho=>by
  obtain⟨c,b,rfl,_⟩:=Oa<|Qq5.mp h o ho;refine⟨rfl,λvs hv=>?_,rfl,λ_=>rfl⟩
  match vs,hv with
  | [_,_],_=>rfl) (Qq0 hl (by decide))
 rw[Qk0.mpr (λ_ _=>rfl)] at h4;rw[Qw6];exact h4
theorem are_changes(x)(cs)(hl:cs.length<=1000):lM [.tup (gj x),.tup (cs.map cD)]=some (.bl (xH x cs)):=by
 refine bW (env:=(S3 x cs)) ?_;show jy (S3 x cs) = .rt false _ (S3 x cs);unfold jy;have hn:∀k,au jF (ao cT<|aa (bj 1) aj) (jr<|.int k) (S3 x cs) = .ok (.bl<|((cs.length:Nat):Int) == k) (S3 x cs):=λk=>by
  have:=U8 (a:=bj 1) (env:=(S3 x cs)) (ds:=cs.map cD) rfl k
  rwa [Qqj] at this
 generalize hE:((S3 x cs):Ev.Env)=env at *;have a1:=all1 x cs hl;have a2:=all2 x cs hl;rw[hE] at a1 a2;have fin:bw (ju (ao qw<|aa (eV) aj)<|ao mJ<|aa (eU) aj) env = .rt false (.bl<|cs.all (vN x)&&iw (cs.map old)) env:=by refine bY<|jt (aL (aN a1 bH)<|Ad (vN x) cs) λh=>?_;exact aL (aN (a2 h) bH)<|rises .lst (.inr rfl) _ (by rw[Qqj];exact hl)
 have i1:dX (cC<|gk (xB "tuple")<|aP 1) env = .ok false env:=by rw[<-hE];rfl
 match cs with
 | []=>
  refine cI<|(gw (e:=env)<|(cR i1).trans<|bI<|hn 0).trans rfl
 | [o]=>
  refine(aB (e:=env) ?_).trans ?_
  ·exact(dz (e:=env)<|(cR i1).trans<|bI<|hn 0).trans rfl
  have hp:cC (ao eG<|Zv 0<|aa (ak dC 1<|Zi 0) aj) env = .ok (pu x o) env:=bI<|aL (ds:=[.tup (gj x),cD o]) (by rw[<-hE];rfl)<|puts_one_in x o;have ha:iz (cC<|au jF (ao cT<|aa (bj 1) aj)<|Zi 1) (cC<|ao eG<|Zv 0<|aa (ak dC 1<|Zi 0) aj) env = .ok (pu x o) env:=by have h1:cC (au jF (ao cT<|aa (bj 1) aj)<|Zi 1) env = .ok true env:=bI<|hn 1;unfold iz;rw[h1];exact hp
  cases e:pu x o with
  | true=>
   rw[e] at ha;refine cI<|(gw ha).trans ?_;have:xH x [o]=true:=by unfold xH;simp[e]
   rw[this]
   rfl
  | false=>
   rw[e] at ha;refine(aB<|(dz ha).trans rfl).trans<|fin.trans ?_;have:xH x [o]=([o].all (vN x)&&iw ([o].map old)):=by unfold xH;simp[e]
   rw[this]
 | o::o2::r=>
  have n0:((((o::o2::r).length:Nat):Int) == 0)=false:=Qwv.mpr (by rw[Qq1];omega);have n1:((((o::o2::r).length:Nat):Int) == 1)=false:=Qwv.mpr (by rw[Qq1,Qq1];omega);have h0:=hn 0;have h1:=hn 1;rw[n0] at h0;rw[n1] at h1;refine(aB (e:=env) ?_).trans ?_
  ·exact(dz (e:=env)<|(cR i1).trans<|bI h0).trans rfl
  have ha:iz (cC<|au jF (ao cT<|aa (bj 1) aj)<|Zi 1) (cC<|ao eG<|Zv 0<|aa (ak dC 1 (Zi 0)) aj) env = .ok false env:=by
   unfold iz;rw[bI h1]
   rfl
  refine(aB ((dz ha).trans rfl)).trans (fin.trans ?_);have:xH x (o::o2::r)=((o::o2::r).all (vN x)&&iw ((o::o2::r).map old)):=by
   unfold xH;have:((o::o2::r).length == 1)=false:=Qwv.mpr (by rw[Qq1,Qq1];omega);rw[this]
   rfl
  rw[this]
def gD:Option (List Nat)->D
 | none=>.non
 | some z=>.tup (gj z)
def ag(x:List Nat):Option (List Nat)->Bool
 | none=>true
 | some z=>!z.isEmpty&&(z.all (λc=>c == 35||x.contains c)&&iw (z.map λc=>[c]))
abbrev S2(x z:List Nat):Ev.Env:=[(Zf (.tup (gj x))),(Zf (.tup (gj z)))]
theorem are_signs(x)(g)(hl:∀z,g=some z->z.length<=1000):lY [.tup (gj x),gD g]=some (.bl (ag x g)):=by
 cases g with
 | none=>rfl
 | some z=>
  have hl:=hl z rfl;refine bW (env:=(S2 x z)) ?_;unfold oU;refine(aB (e:=(S2 x z)) ?_).trans ?_
  ·rfl
  have hn:au jF (ao cT<|aa (bj 1) aj) (Zi 0) (S2 x z) = .ok (.bl<|((z.length:Nat):Int) == 0) (S2 x z):=by
   have:=U8 (a:=bj 1) (env:=(S2 x z)) (ds:=gj z) rfl 0
   rwa [show(gj z).length=z.length from Qqj ..] at this
  have a1:iQ (S2 x z) = .ok (.lst<|z.map λc=>.bl<|c == 35||x.contains c) (S2 x z):=
   nO (lo:=2) (n:=3) z (λc=>.str [c]) (λc=>.bl<|c == 35||x.contains c) rfl rfl rfl (λc _=>Nz (jc (x:=.str [c]) (y:=.str [35]) rfl rfl rfl ((Dk _ _).trans (by congr 2;simp))) λ_=>jc (x:=.str [c]) (y:=.tup<|gj x) rfl rfl rfl (Nr x<|some [c])) (Qq0 hl (by decide))
  have i1:dX (cC<|gk (xB "tuple")<|aP 1) (S2 x z) = .ok false (S2 x z):=rfl;cases z with
  | nil=>exact cI<|(gw<|(cR i1).trans<|bI hn).trans rfl
  | cons c z=>
   have n0:((((c::z).length:Nat):Int) == 0)=false:=Qwv.mpr (by rw[Qq1];omega);rw[n0] at hn;refine(aB (e:=[(Zf<|.tup<|gj x),(Zf<|.tup (gj (c::z)))]) ?_).trans ?_
   ·exact(dz ((cR i1).trans (bI hn))).trans rfl
   refine bY (jt (aL (aN a1 bH) (Ad _ _)) λ_=>?_);have:=rises .tup (.inl rfl) ((c::z).map λc=>[c]) (by rw[Qqj];exact hl);rw[Qw6] at this;exact aL (ds:=[.tup (gj (c::z))]) rfl this
structure Q where
 w:List Nat
 cs:List (List (Option (List Nat)))
 l:Option (List Nat)
 r:Option (List Nat)
def qD(q:Q):D:=.tup [.str q.w,.tup (q.cs.map cD),gD q.l,gD q.r]
def way(w:List Nat):Bool:=w == [111,110,99,101]||w == [97,108,111,110,103]
def z7(x:List Nat)(q:Q):Bool:=way q.w&&(xH x q.cs&&(ag x q.l&&ag x q.r))
structure Sm(q:Q):Prop where
 c:q.cs.length<=1000
 l:∀z,q.l=some z->z.length<=1000
 r:∀z,q.r=some z->z.length<=1000
theorem aaZ(w):Bh (.str w) (.tup [(.str [111,110,99,101]),(.str [97,108,111,110,103])])=some (.bl (way w)):=by show some (D.bl<|([111,110,99,101] == w)||(([97,108,111,110,103] == w)||false))=_;unfold way;rw[Bool.or_false,Bool.beq_comm,Bool.beq_comm (a:=[97,108,111,110,103])]
theorem is_rule(hs:lX [T]=some (.tup (gj x)))(h:Sm q):jU [T,qD q]=some (.bl (z7 x q)):=by
 refine bW (env:=[Zf T,Zf<|qD q,Zs q.w,(Zf<|.tup<|q.cs.map cD),Zf<|gD q.l,Zf<|gD q.r,(Zf<|.tup<|gj x)]) ?_;unfold pN;refine(aB (e:=[Zf T,Zf<|qD q,Zn,Zn,Zn,Zn,Zn]) ?_).trans ?_
 ·rfl
 refine(aB (e:=[Zf T,Zf<|qD q,Zs q.w,(Zf<|.tup<|q.cs.map cD),Zf<|gD q.l,Zf<|gD q.r,Zn]) ?_).trans ?_
 ·rfl
 refine(aB (e:=[Zf T,Zf<|qD q,Zs q.w,(Zf<|.tup<|q.cs.map cD),Zf<|gD q.l,Zf<|gD q.r,(Zf<|.tup<|gj x)]) ?_).trans ?_
 ·exact(bJ (aL rfl hs) rfl)
 refine(bY ?_);refine jt (jc rfl rfl rfl (aaZ q.w)) λ_=>?_;refine jt (aL rfl (are_changes x q.cs h.c)) λ_=>?_;refine jt (aL rfl (are_signs x q.l h.l)) λ_=>?_;exact aL rfl (are_signs x q.r h.r)
def rs(z:List Nat):Option (List Nat):=if z=[] then none else if z=[48] then some [] else some z
theorem iu(h:a≠b):jF (.str a) (.str b)=some (.bl false):=by rw[Dk,Qwv.mpr h]
theorem read_sound(z):j7 [.str z]=some (oD (rs z)):=by
 unfold rs;by_cases h:z=[]
 ·subst h;rfl
 ·rw[if_neg h];refine bW (env:=[Zs z]) ?_;unfold j9;refine(aB (e:=[Zs z])<|(dz<|bI<|jc rfl rfl rfl (iu h)).trans rfl).trans<|bY ?_;by_cases h2:z=[48]
  ·subst h2;rfl
  ·rw[if_neg h2];unfold K6;have hc:cC (ak jF 0<|Zw [48]) [Zs z] = .ok false [Zs z]:=bI<|jc rfl rfl rfl (iu h2);rw[hc]
   rfl
theorem lcE{α:Type}(P:Ev.Env->Prop)(enc out):∀(l:List α) env,P env->(∀a∈l,∀env,P env->∃e1 e2,g (enc a) env=some e1/\e e1 = .ok (out a) e2/\P e2)->∃env',Gr g cL e (l.map enc) env = .ok (l.map out) env'/\P env'
 | [],env,hp,_=>⟨env,rfl,hp⟩
 | d::ds,env,hp,h=>by
  obtain⟨e1,e2,h1,h2,h3⟩:=h d (Qqk ..) env hp;obtain⟨e3,h4,h5⟩:=lcE P enc out ds e2 h3 λd' hd=>h d'<|Qqw _ hd;refine⟨e3,?_,h5⟩;rw[Qq7];unfold Gr;rw[h1];show bindR (e e1) _=_;rw[h2];show bindR (Gr g cL e (ds.map enc) e2) _=_;rw[h4]
  rfl
def ch(w:List Nat):List (Option (List Nat)):=(il 62 w).map rs
theorem ou(c)(t):(il c t).length<=t.length+1:=by
 have:=sV (sep:=[c]) (by show 0<1;omega)<|il c t
 rwa [fP] at this
theorem aa5(c)(t):∀q∈il c t,q.length<=t.length:=λq hq=>by
 have:=join_le [c] (il c t) q hq
 rwa [fP] at this
theorem Hw(hw:w.length<=1000)(A0 A1 A2 A3 A4 A5 A6:OD):ao fX (aa (jD) aj) [A0,A1,A2,A3,A4,A5,A6,Zs w] = .ok (cD (ch w)) [A0,A1,A2,A3,A4,A5,A6,Zs w]:=by have hs:dB (.str w) (.str [62])=some (.lst<|(il 62 w).map .str):=mV (by decide +kernel) (by omega);have h:=nO (e:=ao j7<|Zv 8 aj) (il 62 w) D.str (λz=>oD<|rs z) (vL (aJ (e1:=[A0,A1,A2,A3,A4,A5,A6,Zs w]) rfl rfl hs) rfl) rfl rfl (λz _=>aL rfl (read_sound z)) (Qq0 (ou 62 w)<|Qq0 (Nat.succ_le_succ hw) (by decide));refine aL (ds:=[.lst ((ch w).map oD)]) (aN ?_ bH) rfl;unfold ch;rw[Qw6];exact h
theorem vM{α:Type}(xs:List α)(k:Nat):cutD xs (some k) none=xs.drop k:=by
 unfold cutD;rw[HT.sI];show(xs.drop<|min k xs.length).take (xs.length - min k xs.length)=_;by_cases h:k<=xs.length
 ·rw[Nat.min_eq_left h,Qz8 (by rw[Qxz];omega)]
 ·rw[Nat.min_eq_right (by omega),List.drop_length,List.drop_of_length_le (by omega),List.take_nil]
theorem N8{α:Type}(xs:List α)(j k:Nat)(hj:j<=xs.length):cutD xs (some j) (some k)=(xs.drop j).take (k - j):=by
 unfold cutD;rw[HT.sI,HT.sI,Nat.min_eq_left hj];by_cases h:k<=xs.length
 ·rw[Nat.min_eq_left h]
 ·rw[Nat.min_eq_right (by omega),Qz8 (by rw[Qxz];omega),Qz8 (by rw[Qxz];omega)]
theorem Yu(W)(lo hi):cutD (W.map D.str) lo hi=(cutD W lo hi).map D.str:=by unfold cutD;rw[Qqj,<-List.map_drop,<-List.map_take]
theorem jq(h1:a env = .ok d e1)(h2:lo e1 = .ok l e2)(h3:hi e2 = .ok u e3)(h:U3 d l u=some v):jV a lo hi env = .ok v e3:=by
 unfold jV;rw[h1];show bindR (lo e1) _=_;rw[h2];show bindR (hi e2) _=_;rw[h3];show gB (U3 d l u) e3=_;rw[h]
 rfl
theorem vB(z):∀xs:List (List Nat),Ff (.str z) (xs.map .str)=some (decide (z∈xs))
 | []=>rfl
 | y::ys=>by
  show(match bu 59 (.str y) (.str z),Ff (.str z) (ys.map .str) with|some a,some b=>some (a||b)|_,_=>none)=_;rw[vB z ys,str1];show some ((y == z)||decide (z∈ys))=_
  congr 1
  rw[Qzv,Qx8,beq_iff_eq,decide_eq_true_eq,decide_eq_true_eq,Qq3];exact or_congr_left eq_comm
theorem vg(z)(xs:List (List Nat)):gQ (.str z) (.lst (xs.map .str))=some (.bl (!decide (z∈xs))):=by
 show(vH (.str z)<|.lst<|xs.map .str).or _=_;have:vH (.str z) (.lst<|xs.map .str)=some (.bl<|!decide (z∈xs)):=by
  show(Ff (.str z)<|xs.map .str).map (λb=>D.bl<|!b)=_;rw[vB]
  rfl
 rw[this]
 rfl
theorem Nh(h:gP z xs=some j):qu (.lst (xs.map .str)) (.str z)=some (.int j):=by
 show(fJ<|xs.map D.str).bind (λzs=>(gP z zs).map λj=>D.int (j:Nat))=_;rw[strs_map];show(gP z xs).map _=_;rw[h]
 rfl
theorem sU:∀{xs} {j},gP z xs=some j->z∈xs/\j<xs.length
 | [],j,h=>by cases h
 | y::ys,j,h=>by
  unfold gP at h;split at h
  ·rename_i e;cases h;exact⟨by rw[show y=z from by simpa using e];exact Qqk ..,Nat.succ_pos _⟩
  ·obtain⟨k,hk,rfl⟩:=Qw7.mp h;have:=sU hk;exact⟨Qqw _ this.1,Nat.succ_lt_succ this.2⟩
theorem yV:∀(xs:List (List Nat)),(∀p∈xs,p.length<=m)->(xs.map List.length).sum<=xs.length*m
 | [],_=>Qzz _
 | p::ps,h=>by
  have:=yV ps λq hq=>h q<|Qqw _ hq;have h1:=h p<|Qqk ..;rw[Qq7,Qj0,Qq1,Nat.succ_mul];omega
theorem Fd(h1:xs.length<=1001)(h2:∀q∈xs,q.length<=1000):lV (.str [32]) (.lst (xs.map .str))=some (.str (bG [32] xs)):=by show(match fJ (xs.map D.str) with|some xs=>if joinFits [32] xs=true then some (D.str<|bG [32] xs) else none|none=>none)=_;rw[strs_map];refine if_pos<|Qw2 ?_;have:=yV xs h2;have:xs.length*1000<=1001*1000:=Nat.mul_le_mul_right _ h1;show _+xs.length*1<=_;omega
def wj(t:List Nat):Nat:=(gP [47] (il 32 t)).getD 0
def wk(t:List Nat):Nat:=(gP [95] (il 32 t)).getD 0
def lw(t:List Nat):List Nat:=bG [32] (((il 32 t).drop (wj t+1)).take (wk t - (wj t+1)))
def uq(t:List Nat):List Nat:=bG [32] ((il 32 t).drop (wk t+1))
def cw(t:List Nat):List (List Nat):=((il 32 t).drop 1).take (wj t - 1)
def hw(t:List Nat):List Nat:=(il 32 t).headD []
def both(t:List Nat):Bool:=decide ([47]∈il 32 t)&&decide ([95]∈il 32 t)
theorem m7:∀{xs},z∈xs->∃j,gP z xs=some j
 | [],h=>nomatch h
 | y::ys,h=>by
  unfold gP;split
  ·exact⟨0,rfl⟩
  ·rename_i e;rcases Qq3.mp h with rfl|h
   ·exact absurd (by simp) e
   ·obtain⟨j,hj⟩:=m7 h;exact⟨j+1,by rw[hj];rfl⟩
abbrev E7(T:D)(t:List Nat)(W:List (List Nat))(a b c d:OD):Ev.Env:=[Zf T,Zs t,(Zf (.lst (W.map .str))),a,b,c,d]
abbrev Gu(T:D)(t:List Nat)(W CW:List (List Nat))(j k:Nat)(d:OD):Ev.Env:=E7 T t W (Zf (.int (j:Nat))) (Zf (.int (k:Nat))) (Zf (.tup (CW.map λw=>cD (ch w)))) d
abbrev Lw(T:D)(t:List Nat)(W:List (List Nat)):Ev.Env:=E7 T t W none none none none
theorem Pj(T)(hl:t.length<=1000)(h:both t=false):dF [T,.str t]=some .non:=by
 have hs:dB (.str t) (.str [32])=some (.lst<|(il 32 t).map .str):=mV (by decide +kernel) (by omega);have n1:=vg [47]<|il 32 t;have n2:=vg [95]<|il 32 t;unfold both at h;generalize il 32 t=W at *;refine bW (env:=(Lw T t W)) ?_;unfold kh;refine(aB (e:=(Lw T t W)) ?_).trans ?_
 ·exact bJ (aJ rfl rfl hs) rfl
 have g1:=bI<|aJ (e1:=(Lw T t W)) rfl rfl n1;have g2:=bI<|aJ (e1:=(Lw T t W)) rfl rfl n2;refine cI<|(gw ?_).trans rfl;cases e:decide ([47]∈W) with
 | false=>rw[e] at g1;exact jH g1
 | true=>
  rw[e] at g1 h;rw[Bool.true_and] at h;rw[h] at g2;exact(cR g1).trans g2
theorem read_parts(T)(hl:t.length<=1000)(h:both t=true){L R:D}(hL:d8 [T,.str (lw t)]=some L)(hR:d8 [T,.str (uq t)]=some R) :
  dF [T,.str t]=some (.tup [.str (hw t),.tup ((cw t).map λw=>cD (ch w)),L,R]):=by
 have hs:dB (.str t) (.str [32])=some (.lst<|(il 32 t).map .str):=mV (by decide +kernel) (by omega);unfold both at h;rw[Qq2,decide_eq_true_eq,decide_eq_true_eq] at h;obtain⟨j,hj⟩:=m7 h.1;obtain⟨k,hk⟩:=m7 h.2;have ej:wj t=j:=by unfold wj;rw[hj];rfl
 have ek:wk t=k:=by unfold wk;rw[hk];rfl
 have c0:dC (.lst<|(il 32 t).map .str) (.int 0)=some (.str<|hw t):=by obtain⟨p,ps,e⟩:=jY 32 t;unfold hw;rw[e];exact qF (j:=0) rfl
 have n1:=vg [47]<|il 32 t;have n2:=vg [95]<|il 32 t;rw[Qw2 h.1] at n1;rw[Qw2 h.2] at n2;have i1:=Nh hj;have i2:=Nh hk;have b1:=(sU hj).2;have b2:=(sU hk).2;have w1:=ou 32 t;have w2:=aa5 32 t;have c1:cutD (il 32 t) (some ((1:Nat):Int)) (some ((j:Nat):Int))=cw t:=by unfold cw;rw[ej];exact N8 _ _ _ (by omega)
 have c2:bG [32] (cutD (il 32 t) (some ((j+1:Nat):Int))<|some ((k:Nat):Int))=lw t:=by unfold lw;rw[ej,ek,N8 _ _ _ (by omega)]
 have c3:bG [32] (cutD (il 32 t) (some ((k+1:Nat):Int)) none)=uq t:=by unfold uq;rw[ek,vM]
 have m:∀lo hi,(cutD (il 32 t) lo hi).length<=1001/\∀q∈cutD (il 32 t) lo hi,q.length<=1000:=λlo hi=>by
  refine⟨?_,λq hq=>?_⟩
  ·unfold cutD;rw[Qx0,Qxz];omega
  ·have:=w2 q<|List.mem_of_mem_drop<|List.mem_of_mem_take hq;omega
 have hcw:∀q∈cw t,q.length<=1000:=by rw[<-c1];exact(m _ _).2
 have hcl:(cw t).length<=1001:=by rw[<-c1];exact(m _ _).1
 have j1:=Fd (m (some ((j+1:Nat):Int))<|some ((k:Nat):Int)).1 (m _ _).2;have j2:=Fd (m (some ((k+1:Nat):Int)) none).1 (m _ _).2;rw[c2] at j1;rw[c3] at j2;have cm:=λlo hi=>Yu (il 32 t) lo hi;generalize hC:cw t=CW at *;clear hC ej ek w1 w2 m h hj hk b1 b2 c2 c3;generalize il 32 t=W at *;refine bW (env:=(Gu T t W CW j k<|Zf L)) ?_;unfold kh;refine(aB (e:=(Lw T t W)) ?_).trans ?_
 ·exact bJ (e:=[Zf T,Zs t,Zn,Zn,Zn,Zn,Zn]) (aJ (x:=.str t) (y:=.str [32]) (e1:=[Zf T,Zs t,Zn,Zn,Zn,Zn,Zn]) rfl rfl hs) rfl
 refine(aB (e:=(Lw T t W)) ?_).trans ?_
 ·refine(dz (e:=(Lw T t W)) ?_).trans rfl;refine(cR (e:=(Lw T t W))<|bI<|aJ (x:=.str [47]) (y:=.lst<|W.map .str) (e1:=(Lw T t W)) rfl rfl n1).trans ?_;exact bI<|aJ (x:=.str [95]) (y:=.lst<|W.map .str) (e1:=(Lw T t W)) rfl rfl n2
 refine(aB (e:=(E7 T t W (Zf<|.int (j:Nat)) none none none)) ?_).trans ?_
 ·exact bJ (e:=(Lw T t W)) (aJ (x:=.lst<|W.map .str) (y:=.str [47]) (e1:=(Lw T t W)) rfl rfl i1) rfl
 refine(aB (e:=(E7 T t W (Zf<|.int (j:Nat)) (Zf<|.int (k:Nat)) none none)) ?_).trans ?_
 ·exact bJ (e:=(E7 T t W (Zf<|.int (j:Nat)) none none none)) (aJ (x:=.lst<|W.map .str) (y:=.str [95]) (e1:=(E7 T t W (Zf<|.int (j:Nat)) none none none)) rfl rfl i2) rfl
 refine(aB (e:=(Gu T t W CW j k none)) ?_).trans ?_
 ·refine bJ (d:=.tup<|CW.map λw=>cD<|ch w) (e:=(E7 T t W (Zf<|.int (j:Nat)) (Zf<|.int (k:Nat)) none none)) (aL (ds:=[.lst (CW.map λw=>cD<|ch w)]) (aN ?_ bH) rfl) rfl;have s0:jV (aP 2) (o7<|Zi 1) (o7<|aP 3) (E7 T t W (Zf<|.int (j:Nat)) (Zf<|.int (k:Nat)) none none) = .ok (.lst<|CW.map .str) (E7 T t W (Zf<|.int (j:Nat)) (Zf<|.int (k:Nat)) none none):=by
   refine jq (d:=.lst<|W.map .str) (l:=some ((1:Nat):Int)) (u:=some ((j:Nat):Int)) (e1:=(E7 T t W (Zf<|.int (j:Nat)) (Zf<|.int (k:Nat)) none none)) (e2:=(E7 T t W (Zf<|.int (j:Nat)) (Zf<|.int (k:Nat)) none none)) rfl rfl rfl ?_;show some (D.lst<|cutD (W.map D.str) (some ((1:Nat):Int)) (some ((j:Nat):Int)))=_;rw[cm,c1]
  exact nO (lo:=7) (n:=8) CW D.str (λw=>cD (ch w)) (vL s0 rfl) rfl rfl (λw hw=>Hw (hcw w hw) _ _ _ _ _ _ _) (Qq0 hcl (by decide))
 refine(aB (e:=(Gu T t W CW j k (Zf L))) ?_).trans ?_
 ·refine bJ (d:=L) (e:=(Gu T t W CW j k none)) ?_ rfl;have s0:jV (aP 2) (o7 (ak bM 3 (Zi 1))) (o7 (aP 4)) (Gu T t W CW j k none) = .ok (.lst ((cutD W (some ((j+1:Nat):Int)) (some ((k:Nat):Int))).map .str)) (Gu T t W CW j k none):=by
   refine jq (d:=.lst (W.map .str)) (l:=some ((j+1:Nat):Int)) (u:=some ((k:Nat):Int)) (e1:=(Gu T t W CW j k none)) (e2:=(Gu T t W CW j k none)) rfl rfl rfl ?_;show some (D.lst (cutD (W.map D.str) _ _))=_;rw[cm]
  exact aL (ds:=[T,.str (lw t)]) (aN (d:=T) (e1:=(Gu T t W CW j k none)) rfl (aN (aJ (x:=.str [32]) rfl s0 j1) bH)) hL
 have s0:jV (aP 2) (o7 (ak bM 4 (Zi 1))) pL (Gu T t W CW j k (Zf L)) = .ok (.lst ((cutD W (some ((k+1:Nat):Int)) none).map .str)) (Gu T t W CW j k (Zf L)):=by refine jq (d:=.lst (W.map .str)) (l:=some ((k+1:Nat):Int)) (u:=none) (e1:=(Gu T t W CW j k (Zf L))) (e2:=(Gu T t W CW j k (Zf L))) rfl rfl rfl ?_;show some (D.lst (cutD (W.map D.str) _ _))=_;rw[cm]
 refine bY (nM (aN (d:=.str (hw t)) (e1:=(Gu T t W CW j k (Zf L))) (jc (x:=.lst (W.map .str)) (y:=.int 0) rfl rfl rfl c0) (aN (d:=.tup (CW.map λw=>cD (ch w))) (e1:=(Gu T t W CW j k (Zf L))) rfl (aN (d:=L) (e1:=(Gu T t W CW j k (Zf L))) rfl (aN (d:=R) (e1:=(Gu T t W CW j k (Zf L))) ?_ bH)))) Ev.zz4);exact aL (ds:=[T,.str (uq t)]) (aN (d:=T) (e1:=(Gu T t W CW j k (Zf L))) rfl (aN (aJ (x:=.str [32]) rfl s0 j2) bH)) hR
abbrev Rn:=Nat×List (List Nat)
def row(r:Rn):D:=.tup [.str [r.1],.tup (r.2.map .str)]
def my(L:List Rn)(ms:List (List Nat)):List Nat:=(L.filter λr=>ms.all λm=>decide (m∈r.2)).map (·.1)
theorem Jb(m)(ws:List (List Nat)):Bh (.str m) (.tup (ws.map .str))=some (.bl (decide (m∈ws))):=by
 show(Fv (.str m)<|.tup<|ws.map .str).or _=_;have:Fv (.str m) (.tup<|ws.map .str)=some (.bl<|decide (m∈ws)):=by
  show(Ff (.str m)<|ws.map .str).map D.bl=_;rw[vB]
  rfl
 rw[this]
 rfl
theorem sounds_of{L:List Rn}(hl:L.length<=1000):lX [.tup (L.map row)]=some (.tup (gj (L.map (·.1)))):=by
 have h4:=rT (n:=3) (g:=gb 2<|bD (aq 1)<|bD (aq 2) gC) (e:=aP 1) (env:=[(Zf<|.tup<|L.map row)]) L row (λr=>[Zs [r.1],(Zf<|.tup<|r.2.map .str)]) (λ_=>true) (λr=>.str [r.1]) rfl rfl (λd hd=>by
  refine⟨rfl,λvs hv=>?_,rfl,λ_=>rfl⟩
  match vs,hv with
  | [_,_],_=>rfl) (Qq0 hl (by decide))
 rw[Qk0.mpr (λ_ _=>rfl)] at h4;refine bW<|bY<|aL (aN h4 bH) ?_;unfold gj;rw[Qw6]
 rfl
theorem sounds_by(hl:L.length<=1000)(hm:ms.length<=10000):oG [.tup (L.map row),.lst (ms.map .str)]=some (.tup (gj (my L ms))):=by
 have h1:∀r:Rn,iK [(Zf<|.tup<|L.map row),(Zf<|.lst<|ms.map .str),Zs [r.1],(Zf<|.tup<|r.2.map .str)] = .ok (.lst<|ms.map λm=>.bl<|decide (m∈r.2)) [(Zf<|.tup<|L.map row),(Zf<|.lst<|ms.map .str),Zs [r.1],(Zf<|.tup<|r.2.map .str)]:=λr=>
  nO ms D.str (λm=>.bl<|decide (m∈r.2)) rfl rfl rfl (λm _=>jc rfl rfl rfl (Jb m r.2)) (Qq0 hm (by decide))
 have h4:=rT (n:=4) (it:=fU<|aP 0) (g:=gb 2<|bD (aq 2)<|bD (aq 3) gC) (c:=cC<|ao qw<|aa (iK) aj) (e:=aP 2) (env:=[(Zf<|.tup<|L.map row),(Zf<|.lst<|ms.map .str)]) L row (λr=>[Zs [r.1],(Zf<|.tup<|r.2.map .str)]) (λr=>ms.all λm=>decide (m∈r.2)) (λr=>.str [r.1]) rfl rfl (λr hd=>by
  refine⟨rfl,λvs hv=>?_,?_,λ_=>rfl⟩
  ·match vs,hv with
   | [_,_],_=>rfl
  ·exact bI<|aL (aN (h1 r) bH)<|Ad _ ms) (Qq0 hl (by decide))
 refine bW<|bY<|aL (aN h4 bH) ?_;unfold gj my;rw[Qw6]
 rfl
theorem aea(z)(c k):Builtin.Str.subAt (strOf z) (strOf [c]) k=(((z.drop k).take 1) == [c]):=by
 rw[StrLaws.subAt_eq,toL,toL,aO]
 rfl
theorem starts(z)(c):sY (.str z) (.str [c])=some (.bl (z.head? == some c)):=by
 show some (D.bl<|decide (0+(strOf [c]).length<=(strOf z).length)&&Builtin.Str.subAt (strOf z) (strOf [c]) 0)=_;rw[aea,aO,aO];cases z with
 | nil=>rfl
 | cons a t=>
  rw[Qw2 (by show 0+1<=t.length+1;omega),Bool.true_and];show some (D.bl<|[a] == [c])=some (D.bl<|some a == some c)
  congr 2
  simp
theorem ends(z)(c):Dl (.str z) (.str [c])=some (.bl (z.getLast? == some c)):=by
 show some (D.bl<|decide (0+(strOf [c]).length<=(strOf z).length)&&Builtin.Str.subAt (strOf z) (strOf [c]) ((strOf z).length - (strOf [c]).length))=_;rw[aea,aO,aO];rcases List.eq_nil_or_concat z with rfl|⟨t,a,rfl⟩
 ·rfl
 ·rw[List.concat_eq_append,List.getLast?_append,Qqz];rw[Qw2 (by show 0+1<=t.length+1;omega),Bool.true_and];show some (D.bl<|(((t++[a]).drop<|t.length+1 - 1).take 1) == [c])=some (D.bl<|some a == some c);rw[Nat.add_sub_cancel,List.drop_left]
  congr 2
  simp
def brk(z:List Nat):Bool:=z.head? == some 91&&z.getLast? == some 93
def sg(L:List Rn)(z:List Nat):Option (List Nat):=if z=[42] then none else if brk z=true then some (my L (il 32 ((z.drop 1).take (z.length - 2)))) else some z
theorem K9(z:List Nat)(h:2<=z.length):cutD z (some 1) (some (-1))=(z.drop 1).take (z.length - 2):=by
 unfold cutD;have e1:HT.fK z.length 0 (some 1)=1:=by show HT.fK z.length 0 (some (1:Nat))=1;rw[HT.sI];omega
 have e2:HT.fK z.length z.length (some<|-1)=z.length - 1:=by unfold HT.fK;simp;omega
 rw[e1,e2]
 rfl
theorem vR(h:brk z=true):2<=z.length:=by
 unfold brk at h
 match z with
 | []=>simp at h
 | [a]=>
  simp at h;omega
 | _::_::r=>simp
abbrev E2(L:List Rn)(z:List Nat):Ev.Env:=[(Zf (.tup (L.map row))),Zs z]
theorem read_signs(hL:L.length<=1000)(hz:z.length<=9000):d8 [.tup (L.map row),.str z]=some (gD (sg L z)):=by
 unfold sg;by_cases h:z=[42]
 ·subst h;rfl
 rw[if_neg h];refine bW (env:=(E2 L z)) ?_;show jf (E2 L z)=_;unfold jf;refine(aB (e:=(E2 L z)) ?_).trans ?_
 ·exact(dz<|bI<|jc rfl rfl rfl (iu h)).trans rfl
 have g1:dX (cC<|au sY (aP 1)<|Zw [91]) (E2 L z) = .ok (!(z.head? == some 91)) (E2 L z):=jb<|bI<|aJ rfl rfl (starts z 91);have g2:dX (cC<|au Dl (aP 1)<|Zw [93]) (E2 L z) = .ok (!(z.getLast? == some 93)) (E2 L z):=jb<|bI<|aJ rfl rfl (ends z 93);have g:du (dX<|cC<|au sY (aP 1)<|Zw [91]) (dX<|cC<|au Dl (aP 1)<|Zw [93]) (E2 L z) = .ok (!brk z) (E2 L z):=by
  unfold brk;cases e:(z.head? == some 91) with
  | false=>rw[e] at g1;exact jH g1
  | true=>rw[e] at g1;exact(cR g1).trans g2
 cases e:brk z with
 | false=>
  rw[e] at g;rw[if_neg Qw3];exact cI<|(gw g).trans rfl
 | true=>
  rw[e] at g;rw[if_pos rfl];refine(aB (e:=(E2 L z)) ?_).trans ?_
  ·exact(dz g).trans rfl
  have hc:=K9 z<|vR e;have hlm:((z.drop 1).take<|z.length - 2).length<=9000:=by rw[Qx0,Qxz];omega
  have hs:dB (.str<|(z.drop 1).take<|z.length - 2) (.str [32])=some (.lst<|(il 32<|(z.drop 1).take<|z.length - 2).map .str):=mV (by decide +kernel) (by omega);have hsl:=ou 32<|(z.drop 1).take<|z.length - 2;refine bY<|aL (ds:=[.tup (L.map row),.lst<|(il 32<|(z.drop 1).take<|z.length - 2).map .str]) (aN (e1:=(E2 L z)) rfl (aN (e1:=(E2 L z)) (aJ (x:=.str<|(z.drop 1).take<|z.length - 2) (y:=.str [32]) (e1:=(E2 L z)) ?_ rfl hs) bH))<|sounds_by hL (by omega);refine jq (d:=.str z) (l:=some 1) (u:=some<|-1) (e1:=(E2 L z)) (e2:=(E2 L z)) rfl rfl rfl ?_;show some (D.str<|cutD z (some 1)<|some<|-1)=_;rw[hc]
theorem zX:∀xs,(bG [32] xs).length<=(xs.map λq=>q.length+1).sum
 | []=>Qzz _
 | [p]=>by show p.length<=p.length+1+0;omega
 | p::q::xs=>by
  have:=zX (q::xs);rw[bQ,Qqz,Qqz,Qq7,Qj0];show p.length+1+_<=_;omega
theorem qY:∀p xs,((p::xs).map λq=>q.length+1).sum<=(bG [32] (p::xs)).length+1
 | p,[]=>Qqy _
 | p,q::xs=>by
  have:=qY q xs;rw[bQ,Qqz,Qqz,Qq7,Qj0];show _<=p.length+1+_+1;omega
theorem Hc(xs:List (List Nat))(k):((xs.drop k).map λq=>q.length+1).sum<=(xs.map λq=>q.length+1).sum:=by
 induction xs generalizing k with
 | nil=>rw[List.drop_nil];exact Qqy _
 | cons x xs ih=>
  cases k with
  | zero=>exact Qqy _
  | succ k=>have:=ih k;rw[List.drop_succ_cons,Qq7,Qj0];omega
theorem Rr(xs:List (List Nat))(k):((xs.take k).map λq=>q.length+1).sum<=(xs.map λq=>q.length+1).sum:=by
 induction xs generalizing k with
 | nil=>rw[List.take_nil];exact Qqy _
 | cons x xs ih=>
  cases k with
  | zero=>exact Qzz _
  | succ k=>have:=ih k;rw[List.take_succ_cons,Qq7,Qq7,Qj0,Qj0];omega
theorem Mh(t):((il 32 t).map λq=>q.length+1).sum<=t.length+1:=by
 obtain⟨p,ps,e⟩:=jY 32 t;have h:=fP 32 t;rw[e] at h ⊢;have:=qY p ps
 rwa [h] at this
theorem Z3(t):(lw t).length<=t.length+1:=by unfold lw;exact Qq0 (zX _)<|Qq0 (Rr _ _)<|Qq0 (Hc _ _)<|Mh t
theorem rw_le(t):(uq t).length<=t.length+1:=by unfold uq;exact Qq0 (zX _)<|Qq0 (Hc _ _)<|Mh t
def rq(L:List Rn)(t:List Nat):Q:=⟨hw t,(cw t).map ch,sg L (lw t),sg L (uq t)⟩
def ok(L:List Rn)(t:List Nat):Bool:=both t&&z7 (L.map (·.1)) (rq L t)
theorem RP(hL:L.length<=1000)(hz:z.length<=1000)(h:sg L z=some y):y.length<=1000:=by
 unfold sg at h;split at h
 ·cases h
 ·split at h
  ·cases h;unfold my;rw[Qqj];exact Qq0 (List.length_filter_le _ _) hL
  ·cases h;exact hz
section
variable{L:List Rn}(hL:L.length<=1000){t:List Nat}(ht:t.length<=900)
include hL ht
theorem R4:Sm (rq L t):=by refine⟨?_,λz h=>RP hL (Qq0 (Z3 t) (by omega)) h,λz h=>RP hL (Qq0 (rw_le t) (by omega)) h⟩;show((cw t).map ch).length<=1000;have:=ou 32 t;rw[Qqj];unfold cw;rw[Qx0,Qxz];omega
theorem parts(h:both t=true):dF [.tup (L.map row),.str t]=some (qD (rq L t)):=by
 have:=read_parts (.tup<|L.map row) (by omega) h (read_signs hL<|Qq0 (Z3 t) (by omega))<|read_signs hL<|Qq0 (rw_le t) (by omega);rw[this];unfold rq qD;rw[Qw6]
 rfl
theorem read_rule(h:ok L t=true):jQ [.tup (L.map row),.str t]=some (qD (rq L t)):=by
 unfold ok at h;rw[Qq2] at h;have hi:=is_rule (sounds_of hL)<|R4 hL ht;rw[h.2] at hi;refine bW (env:=[(Zf<|.tup<|L.map row),Zs t,(Zf<|qD<|rq L t)]) ?_;unfold jW;refine(aB (e:=[(Zf<|.tup<|L.map row),Zs t,Zn]) ?_).trans ?_
 ·rfl
 refine(aB (e:=[(Zf<|.tup<|L.map row),Zs t,(Zf<|qD<|rq L t)]) ?_).trans ?_
 ·exact bJ (aL rfl (parts hL ht h.1)) rfl
 refine(aB (e:=[(Zf<|.tup<|L.map row),Zs t,(Zf<|qD<|rq L t)]) ?_).trans ?_
 ·exact(dz<|jb<|bI<|aL rfl hi).trans rfl
 ·rfl
theorem Ub(h:ok L t=false):cZ [.tup (L.map row),.str t]=some (.tup [.int 0]):=by
 have key:∀d,dF [.tup (L.map row),.str t]=some d->jU [.tup (L.map row),d]=some (.bl false)->cZ [.tup (L.map row),.str t]=some (.tup [.int 0]):=λd h1 h2=>by
  have k:cP (envOf 3 [.tup (L.map row),.str t]) = .rt true (.tup [.int 0]) [(Zf<|.tup<|L.map row),Zs t,Zf d]:=by
   unfold cP;refine(aB (e:=[(Zf<|.tup<|L.map row),Zs t,Zn]) ?_).trans ?_
   ·rfl
   refine(aB (e:=[(Zf<|.tup<|L.map row),Zs t,Zf d]) ?_).trans ?_
   ·exact bJ (aL rfl h1) rfl
   exact cI<|(gw<|jb<|bI<|aL rfl h2).trans rfl
  show Bw 3 cP _=_;unfold Bw;rw[k]
  rfl
 unfold ok at h;cases e:both t with
 | false=>exact key .non (Pj _ (by omega) e) rfl
 | true=>
  rw[e,Bool.true_and] at h;have hi:=is_rule (sounds_of hL)<|R4 hL ht;rw[h] at hi;exact key _ (parts hL ht e) hi
end
abbrev Pt:=List Nat×List Nat
def je(p:Pt):D:=.tup [.str p.1,.str p.2]
open KX (VP)
structure QR where
 w:List Nat
 ps:List Pt
 l:Option (List Nat)
 r:Option (List Nat)
def jd(q:QR):D:=.tup [.str q.w,.tup (q.ps.map je),gD q.l,gD q.r]
def xP:List Nat->List Nat
 | []=>[48]
 | c::t=>c::t
def wM:Option (List Nat)->List Nat
 | none=>[42]
 | some z=>z
def nQ(p:Pt):List Nat:=xP p.1++[62]++xP p.2
def Zy(q:QR):List (List Nat):=(q.w::q.ps.map nQ)++[47]::[wM q.l,[95],wM q.r]
def txt(q:QR):List Nat:=bG [32] (Zy q)
def pR(c:Nat):Prop:=97<=c/\c<=122
def wu(z:List Nat):Prop:=z=[]\/∃c,z=[c]/\pR c
def Sg(g:Option (List Nat)):Prop:=∀z,g=some z->z≠[]/\z.length<=5/\∀c∈z,c=35\/pR c
structure Jw(q:QR):Prop where
 w:q.w=[111,110,99,101]\/q.w=[97,108,111,110,103]
 n:q.ps.length<=4
 p:∀p∈q.ps,wu p.1/\wu p.2
 l:Sg q.l
 r:Sg q.r
theorem RL(h:wu z):∃a,xP z=[a]/\(a=48\/pR a)/\(z=[]↔a=48):=by
 rcases h with rfl|⟨c,rfl,h⟩
 ·exact⟨48,rfl,.inl rfl,by simp⟩
 ·exact⟨c,rfl,.inr h,⟨λe=>absurd e<|List.cons_ne_nil _ _,λe=>absurd h.1 (by omega)⟩⟩
theorem Aq(h:wu p.1/\wu p.2):∃a b,nQ p=[a,62,b]/\xP p.1=[a]/\xP p.2=[b]/\(a=48\/pR a)/\(b=48\/pR b):=by obtain⟨a,e1,h1,_⟩:=RL h.1;obtain⟨b,e2,h2,_⟩:=RL h.2;exact⟨a,b,by unfold nQ;rw[e1,e2];rfl,e1,e2,h1,h2⟩
theorem pX(h:Sg g):(wM g).length<=5/\∀c∈wM g,c=42\/c=35\/pR c:=by
 cases g with
 | none=>exact⟨by decide,λc hc=>.inl<|Qwx.mp hc⟩
 | some z=>exact⟨(h z rfl).2.1,λc hc=>.inr<|(h z rfl).2.2 c hc⟩
theorem w_is(h:w=[111,110,99,101]\/w=[97,108,111,110,103]):w.length<=5/\∀c∈w,pR c:=by
 rcases h with rfl|rfl
 ·exact⟨by decide,by unfold pR;decide⟩
 ·exact⟨by decide,by unfold pR;decide⟩
theorem LR(h:Jw q):VP (Zy q) 9 5:=by
 have hw:=(w_is h.w).1;have hl:=(pX h.l).1;have hr:=(pX h.r).1;have hn:=h.n;refine⟨?_,λz hz=>?_⟩
 ·unfold Zy;rw[Qqz,Qq1,Qqj];show q.ps.length+1+4<=9;omega
 ·unfold Zy at hz;rcases Qxv.mp hz with hz|hz
  ·rcases Qq3.mp hz with rfl|hz
   ·exact hw
   ·obtain⟨p,hp,rfl⟩:=Qwk.mp hz;obtain⟨a,b,e,_⟩:=Aq<|h.p p hp;rw[e];exact(by decide:3<=5)
  ·simp[Qq3,Qxx,Qk2] at hz;rcases hz with rfl|rfl|rfl|rfl
   ·decide
   ·exact hl
   ·decide
   ·exact hr
theorem Wm(h:Jw q):(txt q).length<=63:=Qq0 ((LR h).join (by decide)) (by decide)
theorem Va(h1:a env = .ok (.str u) e1)(h2:b e1 = .ok (.str v) e2)(hz:u.length+c.length+v.length<=sizeLine):Jj c a b env = .ok (.str (u++c++v)) e2:=by unfold Jj;rw[h1];show bindR (b e1) _=_;rw[h2];show(if u.length+c.length+v.length<=sizeLine then _ else _)=_;rw[if_pos hz]
theorem show_sound(z):gR [.str z]=some (.str (xP z)):=by cases z<;>rfl
theorem zZ:∀z,bG [] (z.map λc=>[c])=z
 | []=>rfl
 | [c]=>rfl
 | c::d::r=>by
  have:=zZ (d::r);rw[Qq7] at this;rw[Qq7,Qq7,KX.bQ,this]
  rfl
theorem Pb{z:List Nat}(h:z.length<=5):VP (z.map λc=>[c]) 5 1:=
 ⟨by rw[Qqj];exact h,λp hp=>by obtain⟨c,_,rfl⟩:=Qwk.mp hp;exact Qqy _⟩
theorem Ik(h:z.length<=5):uD (.str []) (.tup (gj z))=some (.str z):=by have e:=KX.acM (Pb h) (sep:=[]) (by decide) (by decide);rw[zZ,Qw6] at e;exact e
theorem show_signs(h:Sg g):gU [gD g]=some (.str (wM g)):=by
 cases g with
 | none=>rfl
 | some z=>
  refine bW (env:=[(Zf<|.tup<|gj z)])<|bY ?_;show(K6 _ _ _) [(Zf<|.tup<|gj z)]=_;unfold K6;show au uD (Zw []) (bj 0) [(Zf<|.tup<|gj z)]=_;exact aJ rfl rfl (Ik (h z rfl).2.1)
theorem rQ(h:Sg g):cG [gD g]=some (.str (wM g)):=by
 cases g with
 | none=>rfl
 | some z=>
  refine bW (env:=[(Zf<|.tup<|gj z)]) ?_;unfold gG;refine(aB rfl).trans<|bY ?_;exact aJ rfl rfl (Ik (h z rfl).2.1)
theorem M8{α:Type}(P:Ev.Env->Prop)(enc out):∀(l:List α) env,P env->(∀a∈l,∀env,P env->∃e1 e2,g (enc a) env=some e1/\e e1 = .ok (out a) e2/\P e2)->∃env',Gr g cL e (l.map enc) env = .ok (l.map out) env'/\P env'
 | [],env,hp,_=>⟨env,rfl,hp⟩
 | a::l,env,hp,h=>by
  obtain⟨e1,e2,h1,h2,h3⟩:=h a (Qqk ..) env hp;obtain⟨env',h4,h5⟩:=M8 P enc out l e2 h3 λb hb=>h b<|Qqw _ hb;refine⟨env',?_,h5⟩;rw[Qq7,Qq7];unfold Gr;rw[h1];show bindR (e e1) _=_;rw[h2];show bindR (Gr g cL e (l.map enc) e2) _=_;rw[h4]
  rfl
theorem agY(f)(ps:List Pt):ps.map (λp=>D.str (f p))=(ps.map f).map D.str:=by rw[Qw6];rfl
theorem show_rule(h:Jw q):iT [jd q]=some (.str (txt q)):=by
 have L:iM [Zf (jd q),Zs q.w,(Zf<|.tup<|q.ps.map je),Zf<|gD q.l,Zf<|gD q.r,Zn] = .ok (.lst<|(q.ps.map nQ).map .str) [Zf (jd q),Zs q.w,(Zf<|.tup<|q.ps.map je),Zf<|gD q.l,Zf<|gD q.r,Zn]:=by
  obtain⟨env',h1,v6,v7,rfl⟩:=M8 (g:=gb 2<|bD (aq 6)<|bD (aq 7) gC) (e:=Jj [62] (ao gR<|Zv 6 aj)<|ao gR<|Zv 7 aj)
   (λenv=>∃v6 v7,env=[Zf (jd q),Zs q.w,(Zf<|.tup<|q.ps.map je),Zf<|gD q.l,Zf<|gD q.r,Zn,v6,v7]) je (λp=>.str<|nQ p) q.ps [Zf (jd q),Zs q.w,(Zf<|.tup<|q.ps.map je),Zf<|gD q.l,Zf<|gD q.r,Zn,Zn,Zn] ⟨none,Zn,rfl⟩
   (λp hp env ⟨v6,v7,he⟩=>by
    subst he;obtain⟨a,b,_,e1,e2,_⟩:=Aq<|h.p p hp;refine⟨[Zf (jd q),Zs q.w,(Zf<|.tup<|q.ps.map je),Zf<|gD q.l,Zf<|gD q.r,Zn,Zs p.1,Zs p.2],[Zf (jd q),Zs q.w,(Zf<|.tup<|q.ps.map je),Zf<|gD q.l,Zf<|gD q.r,Zn,Zs p.1,Zs p.2],rfl,?_,_,_,rfl⟩;refine Va (aL (ds:=[.str p.1]) rfl (show_sound p.1)) (aL (ds:=[.str p.2]) rfl (show_sound p.2)) ?_;rw[e1,e2];show 3<=sizeLine
    decide)
  rw[agY] at h1;exact yN (lo:=6) (n:=8) (ds:=q.ps.map je) (ys:=(q.ps.map nQ).map .str) (aD:=[Zf (jd q),Zs q.w,(Zf<|.tup<|q.ps.map je),Zf<|gD q.l,Zf<|gD q.r,Zn]) rfl rfl h1 (by rw[Qqj,Qqj];exact Qq0 h.n (by decide))
 have h4:=h.n;refine bW (env:=[Zf (jd q),Zs q.w,(Zf<|.tup<|q.ps.map je),Zf<|gD q.l,Zf<|gD q.r,(Zl<|(q.ps.map nQ).map .str)]) ?_;unfold oM;refine(aB (e:=[Zf (jd q),Zs q.w,(Zf<|.tup<|q.ps.map je),Zf<|gD q.l,Zf<|gD q.r,Zn]) rfl).trans ?_;refine(aB<|ph L).trans ?_;refine bY<|aJ (x:=.str [32]) (y:=.lst<|(Zy q).map .str) (e1:=[Zf (jd q),Zs q.w,(Zf<|.tup<|q.ps.map je),Zf<|gD q.l,Zf<|gD q.r,(Zl<|(q.ps.map nQ).map .str)]) rfl ?_ (KX.Fd (LR h) (by decide) (by decide));refine aJ (x:=.lst<|(q.w::q.ps.map nQ).map .str) (y:=.lst<|[[47],wM q.l,[95],wM q.r].map .str) (e1:=[Zf (jd q),Zs q.w,(Zf<|.tup (q.ps.map je)),Zf (gD q.l),Zf (gD q.r),(Zl ((q.ps.map nQ).map .str))]) ?_ ?_ ?_
 ·refine aJ (x:=.lst [.str q.w]) (y:=.lst ((q.ps.map nQ).map .str)) (e1:=[Zf (jd q),Zs q.w,(Zf (.tup (q.ps.map je))),Zf (gD q.l),Zf (gD q.r),(Zl ((q.ps.map nQ).map .str))]) rfl rfl ?_;refine(vJ ?_).trans rfl;rw[Qqj,Qqj];show 1+q.ps.length<=sizeLine;exact Qq0 (Nat.add_le_add_left h4 1) (by decide)
 ·refine Ji (aN (d:=.str [47]) (e1:=[Zf (jd q),Zs q.w,(Zf (.tup (q.ps.map je))),Zf (gD q.l),Zf (gD q.r),(Zl ((q.ps.map nQ).map .str))]) rfl (aN (aL (ds:=[gD q.l]) (e:=[Zf (jd q),Zs q.w,(Zf (.tup (q.ps.map je))),Zf (gD q.l),Zf (gD q.r),(Zl ((q.ps.map nQ).map .str))]) rfl (show_signs h.l)) (aN (d:=.str [95]) (e1:=[Zf (jd q),Zs q.w,(Zf (.tup (q.ps.map je))),Zf (gD q.l),Zf (gD q.r),(Zl ((q.ps.map nQ).map .str))]) rfl (aN (aL (ds:=[gD q.r]) rfl (show_signs h.r)) bH)))) Ev.zz4
 ·refine(vJ ?_).trans ?_
  ·rw[Qqj,Qq1,Qqj];show q.ps.length+1+4<=sizeLine;exact Qq0 (Nat.add_le_add_right (Nat.add_le_add_right h4 1) 4) (by decide)
  ·unfold Zy;rw[Qz2]
theorem Je(xs ys)(a):bG [32] ((a::xs)++ys)=ys.foldl (λacc y=>acc++[32]++y) (bG [32] (a::xs)):=by
 show(xs++ys).foldl (λacc y=>acc++[32]++y) a=_;rw[List.foldl_append]
 rfl
theorem ix0(h:wu z):dC (.str (z++[48])) (.int 0)=some (.str (xP z)):=by rcases h with rfl|⟨c,rfl,h⟩<;>rfl
theorem o5(h:a.length+b.length<=100000):bM (.str a) (.str b)=some (.str (a++b)):=if_pos<|Qq0 h (by decide)
theorem Mq(A0 A1 A2 A3 A4:OD):∀(ps:List Pt) acc (v6 v7:OD),(∀p∈ps,wu p.1/\wu p.2)->acc.length+4*ps.length<=1000->
  ∃w6 w7,lW (gb 2 (bD (aq 6) (bD (aq 7) gC))) cg (ps.map je) [A0,A1,A2,A3,A4,Zs acc,v6,v7] = .nx [A0,A1,A2,A3,A4,(Zs ((ps.map nQ).foldl (λacc y=>acc++[32]++y) acc)),w6,w7]
 | [],acc,v6,v7,_,_=>⟨v6,v7,rfl⟩
 | p::ps,acc,v6,v7,h,hl=>by
  have hp:=h p<|Qqk ..;obtain⟨a,b,e,e1,e2,_⟩:=Aq hp;rw[Qq1] at hl;have hb:cg [A0,A1,A2,A3,A4,Zs acc,Zs p.1,Zs p.2] = .nx [A0,A1,A2,A3,A4,Zs<|acc++[32]++nQ p,Zs p.1,Zs p.2]:=by
   generalize hE:([A0,A1,A2,A3,A4,Zs acc,Zs p.1,Zs p.2]:Ev.Env)=env;have l1:p.1.length<=1:=by rcases hp.1 with z|⟨c,z,_⟩<;>rw[z]<;>simp
   have l2:p.2.length<=1:=by rcases hp.2 with z|⟨c,z,_⟩<;>rw[z]<;>simp
   have s1:ak bM 5 (Zw [32]) env = .ok (.str<|acc++[32]) env:=jc (x:=.str acc) (by rw[<-hE];rfl) rfl (by rw[<-hE];rfl) (o5 (by show acc.length+1<=_;omega));have s2:au dC (ak bM 6<|Zw [48]) (Zi 0) env = .ok (.str<|xP p.1) env:=aJ (y:=.int 0) (jc (x:=.str p.1) (by rw[<-hE];rfl) rfl (by rw[<-hE];rfl) (o5 (by show p.1.length+1<=_;omega))) rfl (ix0 hp.1);have s3:au dC (ak bM 7<|Zw [48]) (Zi 0) env = .ok (.str<|xP p.2) env:=aJ (y:=.int 0) (jc (x:=.str p.2) (by rw[<-hE];rfl) rfl (by rw[<-hE];rfl) (o5 (by show p.2.length+1<=_;omega))) rfl (ix0 hp.2);unfold cg;refine bJ (d:=.str<|acc++[32]++nQ p) (e:=env) ?_ (by rw[<-hE];rfl);refine aJ (x:=.str (acc++[32]++xP p.1++[62])) (aJ (x:=.str (acc++[32]++xP p.1)) (aJ s1 s2 (o5 ?_)) (y:=.str [62]) rfl (o5 ?_)) s3 ?_
   ·rw[e1,Qqz];show acc.length+1+1<=_;omega
   ·rw[e1,Qqz,Qqz];show acc.length+1+1+1<=_;omega
   ·refine(o5 ?_).trans ?_
    ·rw[e1,e2,Qqz,Qqz,Qqz];show acc.length+1+1+1+1<=_;omega
    ·unfold nQ;simp only[Qwy]
  obtain⟨w6,w7,hf⟩:=Mq A0 A1 A2 A3 A4 ps (acc++[32]++nQ p) (Zs p.1) (Zs p.2) (λq hq=>h q (Qqw _ hq)) (by rw[Qqz,Qqz,e];show acc.length+1+3+4*ps.length<=1000;omega);refine⟨w6,w7,?_⟩;rw[Qq7,Qq7,Qxy];unfold lW;show(match cg [A0,A1,A2,A3,A4,Zs acc,Zs p.1,Zs p.2] with|.nx e2=>lW _ cg (ps.map je) e2|.ct e2=>_|.bk e2=>_|.rt o d e2=>_|.stuck=>_)=_;rw[hb];exact hf
theorem BP(h:Jw q):fL [jd q]=some (.str (txt q)):=by
 have hw:=(w_is h.w).1;have hl:=(pX h.l).1;have hr:=(pX h.r).1;have h4:=h.n;obtain⟨w6,w7,hf⟩:=Mq (Zf<|jd q) (Zs q.w) (Zf<|.tup<|q.ps.map je) (Zf<|gD q.l) (Zf<|gD q.r) q.ps q.w none none h.p (by omega);have hj:(q.ps.map nQ).foldl (λacc y=>acc++[32]++y) q.w=bG [32] (q.w::q.ps.map nQ):=rfl;rw[hj] at hf;have ht:txt q=bG [32] (q.w::q.ps.map nQ)++[32,47,32]++wM q.l++[32,95,32]++wM q.r:=by unfold txt Zy;rw[Je];show bG [32] (q.w::q.ps.map nQ)++[32]++[47]++[32]++wM q.l++[32]++[95]++[32]++wM q.r=_;simp
 have hlen:(bG [32] (q.w::q.ps.map nQ)).length<=63:=by have:=Wm h;rw[ht] at this;simp only[Qqz] at this;omega
 generalize bG [32] (q.w::q.ps.map nQ)=J at hf ht hlen;refine bW (env:=[Zf (jd q),Zs q.w,(Zf<|.tup<|q.ps.map je),Zf<|gD q.l,Zf<|gD q.r,Zs J,w6,w7]) ?_;unfold jJ;refine(aB (e:=[Zf (jd q),Zs q.w,(Zf<|.tup<|q.ps.map je),Zf<|gD q.l,Zf<|gD q.r,Zn,Zn,Zn]) rfl).trans ?_;refine(aB (e:=[Zf (jd q),Zs q.w,(Zf<|.tup<|q.ps.map je),Zf<|gD q.l,Zf<|gD q.r,Zs q.w,Zn,Zn]) rfl).trans ?_;refine(aB<|(lO (ds:=q.ps.map je) rfl).trans hf).trans ?_;generalize hE:([Zf (jd q),Zs q.w,(Zf<|.tup<|q.ps.map je),Zf<|gD q.l,Zf<|gD q.r,Zs J,w6,w7]:Ev.Env)=env;have s1:ak bM 5 (Zw [32,47,32]) env = .ok (.str<|J++[32,47,32]) env:=jc (x:=.str J) (by rw[<-hE];rfl) rfl (by rw[<-hE];rfl) (o5 (by show J.length+3<=_;omega));have s2:ao cG (Zv 3 aj) env = .ok (.str<|wM q.l) env:=aL (ds:=[gD q.l]) (by rw[<-hE];rfl)<|rQ h.l;have s3:ao cG (Zv 4 aj) env = .ok (.str<|wM q.r) env:=aL (ds:=[gD q.r]) (by rw[<-hE];rfl)<|rQ h.r;rw[ht];refine bY<|aJ (x:=.str<|J++[32,47,32]++wM q.l++[32,95,32]) (aJ (x:=.str<|J++[32,47,32]++wM q.l) (aJ s1 s2<|o5 ?_) (y:=.str [32,95,32]) rfl (o5 ?_)) s3<|o5 ?_
 ·rw[Qqz];show J.length+3+_<=_;omega
 ·rw[Qqz,Qqz];show J.length+3+_+3<=_;omega
 ·rw[Qqz,Qqz,Qqz];show J.length+3+_+3+_<=_;omega
open uJ (nq mL XS yq VM sr Gi XOk known pg uQ mk Ul marks za SG sgR oh Gp round PV Lr prs FT FQ Fb)
theorem j8(h:a env = .ok x e)(h':g x=some d):gk g a env = .ok d e:=by
 unfold gk;rw[h];show gB (g x) e=_;rw[h']
 rfl
theorem K5(h:a env = .ok ds e)(h':tK ds=some ys):gJ a env = .ok ys e:=by
 unfold gJ;rw[h];show gB (tK ds) e=_;rw[h']
 rfl
def ABC:List Nat:=[97,98,99,100,101,102,103,104,105,106,107,108,109,110,111,112,113,114,115,116,117,118,119,120,121,122]
def lt(a b k:Nat):Nat:=97+(a+(1+b)*k) % 26
theorem adx:∀m:Nat,m<26->qU ABC m=some (97+m):=by
 have h:((List.range 26).all λm=>qU ABC m == some (97+m))=true:=by decide +kernel
 intro m hm;exact eq_of_beq<|Qq5.mp h m<|Qx6.mpr hm
def afG:Ev:=ak dC 1 (au Qs (ak bM 2 (ak pJ 3 (bj 4))) (Zi 26))
theorem elt(a b k:Nat)(hb:b<25)(hk:k<4)(v:OD):afG [v,Zs ABC,(Zf (.int a)),(Zf (.int (1+b))),(Zf (.int k))] = .ok (.str [lt a b k]) [v,Zs ABC,(Zf (.int a)),(Zf (.int (1+b))),(Zf (.int k))]:=by
 generalize hE:([v,Zs ABC,(Zf<|.int (a:Int)),(Zf<|.int<|1+(b:Int)),(Zf<|.int (k:Int))]:Ev.Env)=env;have m1:j4 (1+(b:Int)) (k:Int)=true:=nq (a:=8) (b:=8) (mL (by omega)) (mL (by omega)) (by decide);have e1:ak pJ 3 (bj 4) env = .ok (.int<|(1+(b:Int))*(k:Int)) env:=jc (x:=.int<|1+(b:Int)) (by rw[<-hE];rfl) (by rw[<-hE];rfl) (by rw[<-hE];rfl)<|Ft m1;have e2:ak bM 2 (ak pJ 3<|bj 4) env = .ok (.int<|(a:Int)+(1+(b:Int))*(k:Int)) env:=jc (x:=.int (a:Int)) (by rw[<-hE];rfl) e1 (by rw[<-hE];rfl) rfl;have e3:au Qs (ak bM 2<|ak pJ 3<|bj 4) (Zi 26) env = .ok (.int<|((a:Int)+(1+(b:Int))*(k:Int)) % 26) env:=aJ e2 (y:=.int 26) rfl rfl;have e4:((a:Int)+(1+(b:Int))*(k:Int)) % 26=(((a+(1+b)*k) % 26:Nat):Int):=by push_cast;rfl
 rw[e4] at e3;refine jc (x:=.str ABC) (by rw[<-hE];rfl) e3 (by rw[<-hE];rfl) ?_;show(qU ABC _).map _=_;rw[adx _ (Nat.mod_lt _ (by decide))]
 rfl
def Q5(a b m:Nat):List (List Nat):=(List.range m).map λk=>[lt a b k]
def yJ:List Nat->Bool
 | []=>true
 | [_]=>true
 | x::y::r=>decide (x<y)&&yJ (y::r)
def good(x:List Nat):Bool:=decide (1<=x.length)&&decide (x.length<=4)&&x.all (λc=>decide (97<=c)&&decide (c<=122))&&yJ x
def chk(a b m:Nat):Bool:=match (jo (.lst ((Q5 a b m).map .str))) with
 | some l=>(match lV (.str []) l with
  | some (.str x)=>good x
  | _=>false)
 | none=>false
theorem Yw:((List.range 26).all λa=>(List.range 25).all λb=>(List.range 4).all λm=>chk a b (m+1))=true:=by decide +kernel
theorem adk(ha:a<26)(hb:b<25)(hm:m<4):∃l x,jo (.lst ((Q5 a b (m+1)).map .str))=some l/\lV (.str []) l=some (.str x)/\good x=true:=by
 have h:=Qq5.mp (Qq5.mp (Qq5.mp Yw a<|Qx6.mpr ha) b<|Qx6.mpr hb) m<|Qx6.mpr hm;unfold chk at h;split at h
 ·rename_i l e;split at h
  ·rename_i x e2;exact⟨l,x,e,e2,h⟩
  ·cases h
 ·cases h
theorem drawn(n):∃x n',fj [.lst [.int n]]=some (.str x,.lst [.int n'])/\good x=true:=by
 obtain⟨a,ha,ea⟩:=dig n 26 (by decide);obtain⟨b,hb,eb⟩:=dig (n / 26) 25 (by decide);obtain⟨m,hm,em⟩:=dig (n / 26 / 25) 4 (by decide);obtain⟨l,x,h1,h2,h3⟩:=adk ha hb hm;refine⟨x,n / 26 / 25 / 4,jZ (env:=[Zl [.int (n / 26 / 25 / 4)],Zs ABC,(Zf<|.int (a:Int)),(Zf<|.int<|1+(b:Int))]) ?_ rfl,h3⟩;unfold gW;refine(aB (e:=[Zl [.int n],Zs ABC,Zn,Zn]) (by rfl)).trans ?_;refine(aB (e:=[Zl [.int (n / 26 / 25)],Zs ABC,(Zf (.int (n % (26:Nat)))),(Zf (.int (1+n / 26 % (25:Nat))))]) (by rfl)).trans ?_;rw[ea,eb];have hr:gJ (aa (au bM (Zi 1) (dR aW 0 (aa (Zi 4) aj))) aj) [Zl [.int (n / 26 / 25)],Zs ABC,(Zf (.int (a:Int))),(Zf (.int (1+(b:Int))))] = .ok ((List.range (m+1)).map λ(k:Nat)=>D.int (k:Int)) [Zl [.int (n / 26 / 25 / 4)],Zs ABC,(Zf (.int (a:Int))),(Zf (.int (1+(b:Int))))]:=by
  refine K5 (ds:=[.int (1+n / 26 / 25 % (4:Nat))]) (by rfl) ?_;rw[em];have hc:m=0\/m=1\/m=2\/m=3:=by omega
  rcases hc with rfl|rfl|rfl|rfl<;>rfl
 obtain⟨e',f1,v4,rfl⟩:=lcE (g:=aq 4) (e:=afG) (λenv=>∃v,env=[Zl [.int (n / 26 / 25 / 4)],Zs ABC,(Zf (.int (a:Int))),(Zf (.int (1+(b:Int)))),v]) (λ(k:Nat)=>D.int (k:Int)) (λk=>.str [lt a b k]) (List.range (m+1)) [Zl [.int (n / 26 / 25 / 4)],Zs ABC,(Zf (.int (a:Int))),(Zf (.int (1+(b:Int)))),Zn] ⟨_,rfl⟩
  (λk hk env ⟨v,he⟩=>by
   subst he;exact⟨_,_,rfl,elt a b k hb (by have:=Qx6.mp hk;omega) _,_,rfl⟩)
 have hz:(List.range (m+1)).map (λk=>D.str [lt a b k])=(Q5 a b (m+1)).map .str:=by unfold Q5;rw[Qw6];rfl
 rw[hz] at f1;have hl:=yN (lo:=4) (n:=5) hr rfl f1 (by unfold Q5;rw[Qqj,Qqj,List.length_range];exact Qq0 (Nat.succ_le_of_lt hm) (by decide));exact bY (aJ (x:=.str []) rfl (j8 hl h1) h2)
theorem Mm:∀{y z},gj y=gj z->y=z
 | [],[],_=>rfl
 | [],_::_,h=>by cases h
 | _::_,[],h=>by cases h
 | a::y,b::z,h=>by
  have h1:=h;injection h1 with h2 h3
  injection h2 with h4
  injection h4 with h5
  rw[h5,Mm h3]
theorem RM(y)(a):gj (y++[a])=gj y++[.str [a]]:=by unfold gj;rw[Qz2];rfl
theorem Wy{done rest:List D}(h:gj z=done++d::rest):∃a,d = .str [a]/\a∈z/\done.length<z.length:=by
 have hm:d∈gj z:=by rw[h];exact Qxq _<|Qqk ..
 obtain⟨a,ha,rfl⟩:=Qwk.mp hm;have:=Qjq List.length h;unfold gj at this;rw[Qqj,Qqz,Qq1] at this;exact⟨a,rfl,ha,by omega⟩
def adf:D->Option (List Nat)
 | .str z=>some z
 | _=>none
def Yq:List D->Option (List (List Nat))
 | []=>some []
 | d::r=>match adf d,Yq r with
  | some c,some z=>some (c::z)
  | _,_=>none
def adg:D->Option (List (List Nat))
 | .tup ds=>Yq ds
 | _=>none
theorem Yr(h:adf d=some z):d = .str z:=by
 unfold adf at h;split at h
 ·cases h;rfl
 ·cases h
theorem N6:∀{ds} {z},Yq ds=some z->ds=z.map .str
 | [],z,h=>by cases h;rfl
 | d::r,z,h=>by
  unfold Yq at h;split at h
  ·rename_i c y h1 h2;cases h;rw[Yr h1,N6 h2]
   rfl
  ·cases h
theorem Ys(h:adg d=some z):d = .tup (z.map .str):=by
 unfold adg at h;split at h
 ·rw[N6 h]
 ·cases h
def KN:List (List Nat):=[[115,116,111,112],[115,116,111,112,115],[115],[111,112,101,110],[97,98,99,100,101,102,103,104]]
def mok(ms:List (List Nat)):Bool:=ms.all λz=>KN.contains z
def mT(d:Nat):D:=match mk d with
 | .lst zs=>.tup (cutD zs none (some 4))
 | _=>.non
theorem acz:((List.range 32).all λd=>match adg (mT d) with|some ms=>mok ms|none=>false)=true:=by decide +kernel
theorem ae9(d)(hd:d<32):∃ms,mT d = .tup (ms.map .str)/\mok ms=true:=by
 have h1:=Qq5.mp acz d<|Qx6.mpr hd;split at h1
 ·rename_i ms e;exact⟨ms,Ys e,h1⟩
 ·cases h1
theorem YH:iR=pg:=rfl
theorem J5(n)(b v5 v6:OD)(acc)(s)(ha:acc.length<=10):∃ms v5' v6',mok ms=true/\pg [Zl [.int n],b,Zf known,Zl acc,Zf s,v5,v6] = .nx [Zl [.int (n / 32)],b,Zf known,Zl (acc++[.tup [s,.tup (ms.map .str)]]),Zf s,v5',v6']:=by
 obtain⟨d,hd,e⟩:=dig n 32 (by decide);obtain⟨zs,hz⟩:=Ul d hd;obtain⟨ms,hms,hmo⟩:=ae9 d hd;have hmt:D.tup (cutD zs none<|some 4) = .tup (ms.map .str):=by rw[<-hms];unfold mT;rw[hz]
 refine⟨ms,Zf<|.int d,Zf<|.lst zs,hmo,?_⟩;rw[<-hmt];unfold pg;refine(aB (e:=[Zl [.int (n / 32)],b,Zf known,Zl acc,Zf s,Zf<|.int<|n % (32:Nat),v6]) (by rfl)).trans ?_;rw[e];refine(aB<|marks d hd _ _ _ _ _).trans ?_;rw[hz];exact Ev.aeb (e:=[Zl [.int (n / 32)],b,Zf known,Zl acc,Zf s,Zf<|.int d,Zf<|.lst zs]) rfl rfl rfl (Qz0 ha (by decide))
structure xJ(L:List Rn):Prop where
 qP:good (L.map (·.1))=true
 mks:∀r∈L,mok r.2=true
theorem gF(h:good x=true):1<=x.length/\x.length<=4:=by unfold good at h;simp[Qq2,decide_eq_true_eq] at h;exact h.1.1
theorem stock(n):∃L n',xJ L/\jR [.lst [.int n]]=some (.tup (L.map row),.lst [.int n']):=by
 obtain⟨x,n1,h1,hx⟩:=drawn n;have hxl:=(gF hx).2;obtain⟨e',f1,n',rws,v4,v5,v6,rfl,hr,hmo⟩:=xD (g:=aq 4) (gj x) (λdone env=>∃n rws v4 v5 v6,env=[Zl [.int n],Zs x,Zf known,Zl<|rws.map row,v4,v5,v6]/\gj (rws.map (·.1))=done/\∀r∈rws,mok r.2=true)
  (λdone s rest hall env ⟨n,rws,v4,v5,v6,he,hr,hmo⟩=>by
   subst he;have hd:done.length<=4:=by have:=Qjq List.length hall;unfold gj at this;rw[Qqj,Qqz,Qq1] at this;omega
   obtain⟨a,rfl,_,_⟩:=Wy hall;have hrl:(rws.map row).length<=10:=by have:=Qjq List.length hr;unfold gj at this;rw[Qqj,Qqj] at this;rw[Qqj];omega
   obtain⟨ms,w5,w6,hm,hb⟩:=J5 n (Zs x) v5 v6 (rws.map row) (.str [a]) hrl;refine⟨_,_,rfl,hb,n / 32,rws++[(a,ms)],_,_,_,by rw[Qz2];rfl,by rw[Qz2,<-hr];exact RM _ _,λr hr'=>?_⟩;rcases Qxv.mp hr' with h|h
   ·exact hmo r h
   ·rw[Qwx.mp h];exact hm)
  [Zl [.int n1],Zs x,Zf known,Zl [],Zn,Zn,Zn] ⟨_,[],_,_,_,rfl,rfl,λr hr=>by simp at hr⟩
 have hrx:=Mm hr;refine⟨rws,n',⟨by rw[hrx];exact hx,hmo⟩,jZ (env:=[Zl [.int n'],Zs x,Zf known,Zl<|rws.map row,v4,v5,v6]) ?_ rfl⟩;unfold oO;rw[YH];refine(aB (e:=[Zl [.int n1],Zs x,Zn,Zn,Zn,Zn,Zn]) ?_).trans ?_
 ·exact bJ (iD rfl rfl rfl h1) rfl
 refine(aB (by rfl)).trans ?_;refine(aB (e:=[Zl [.int n1],Zs x,Zf known,Zl [],Zn,Zn,Zn]) (by rfl)).trans ?_;refine(aB (e:=[Zl [.int n'],Zs x,Zf known,Zl<|rws.map row,v4,v5,v6]) ?_).trans ?_
 ·exact(lO (ds:=gj x) (by rfl)).trans f1
 ·rfl
theorem wX:∀{x},yJ x=true->x.Pairwise (·< ·)
 | [],_=>.nil
 | [_],_=>by simp
 | a::b::r,h=>by
  unfold yJ at h;rw[Qq2,decide_eq_true_eq] at h;have ih:=wX h.2;refine Qw1.mpr ⟨λc hc=>?_,ih⟩;rcases Qq3.mp hc with rfl|hc
  ·exact h.1
  ·exact Nat.lt_trans h.1<|(Qw1.mp ih).1 c hc
theorem lt1:([a]:List Nat) < [b]↔a<b:=by rw[List.cons_lt_cons_iff];simp
theorem Kg:∀{zs},zs.Pairwise (·< ·)->iw zs=true
 | [],_=>rfl
 | [_],_=>rfl
 | a::b::r,h=>by
  unfold iw;rw[Qq2,decide_eq_true_eq];exact⟨(Qw1.mp h).1 b<|Qqk ..,Kg (Qw1.mp h).2⟩
section
variable{x:List Nat}(h:good x=true)
include h
theorem Fj:x.Pairwise (·< ·):=by unfold good at h;simp[Qq2] at h;exact wX h.2
theorem lU(hc:c∈x):pR c:=by unfold good at h;simp[Qq2,Qq5,decide_eq_true_eq] at h;exact h.1.2 c hc
theorem qt:x∈XS:=VM ⟨(gF h).2,(gF h).1,(Fj h).imp<|λh=>Qwj h,λhc=>by have:=lU h hc;unfold pR at this;omega⟩
end
theorem le1(h:([a]:List Nat)<=[b]):a<=b:=by apply Nat.le_of_not_lt;intro hl;exact h<|lt1.mpr hl
theorem RC{zs:List Nat}(hn:zs.Nodup):iw (dH (zs.map λc=>[c]))=true:=by
 have hp:=fW<|zs.map λc=>[c];have hs:=mF<|zs.map λc=>[c];have hnd:=hp.nodup_iff.mpr<|List.pairwise_map.mpr<|hn.imp λh e=>h (by simpa using e);refine Kg ?_;have hall:∀z∈dH (zs.map λc=>[c]),∃c,z=[c]:=λz hz=>by
  obtain⟨c,_,e⟩:=Qwk.mp<|hp.mem_iff.mp hz;exact⟨c,e.symm⟩
 have:=List.Pairwise.and hs hnd;refine List.Pairwise.imp_of_mem ?_ this;intro a b ha hb h;obtain⟨c,rfl⟩:=hall a ha;obtain⟨d,rfl⟩:=hall b hb;have h1:=le1 h.1;have h2:c≠d:=λe=>h.2 (by rw[e]);exact lt1.mpr (by omega)
open uJ (XS yq VM sr Gi SG sgR oh Gp round PV Lr prs FT FQ Fb oth)
theorem Lb:eN=uJ.eN:=rfl
theorem RK:dI=uJ.dI:=rfl
def c2(p:Pt):List (Option (List Nat)):=[some p.1,some p.2]
theorem adt(ps:List Pt):ps.map je=(ps.map c2).map cD:=by rw[Qw6];rfl
theorem abz(h:(c,v)∈PV x):c∈x/\∃z,v = .str z/\z≠[c]/\(z=[]\/∃b∈x,z=[b]):=by
 unfold PV at h;obtain⟨c',hc,h2⟩:=List.mem_flatMap.mp h;obtain⟨v',h3,h4⟩:=Qwk.mp h2;cases h4;unfold oth at h3;obtain⟨z,h5,rfl⟩:=Qwk.mp h3;obtain⟨h6,h7⟩:=List.mem_filter.mp h5;refine⟨hc,z,rfl,by simpa using h7,?_⟩;rcases Qxv.mp h6 with h|h
 ·obtain⟨b,hb,rfl⟩:=Qwk.mp h;exact .inr ⟨b,hb,rfl⟩
 ·exact .inl (by simpa using h)
structure Chs(x:List Nat)(ps:List Pt):Prop where
 n:0<ps.length/\ps.length<=4
 s:∀p∈ps,wu p.1/\wu p.2
 a:xH x (ps.map c2)=true
theorem Tf(h:c∈x)(hl:pR c):Chs x [([],[c])]:=by
 refine⟨⟨Nat.zero_lt_one,by show 1<=4;omega⟩,λp hp=>?_,?_⟩
 ·cases Qwx.mp hp;exact⟨.inl rfl,.inr ⟨c,rfl,hl⟩⟩
 ·unfold xH;have:pu x (c2 ([],[c]))=true:=by
   show((some ([]:List Nat) == some [])&&x.contains c)=true;simp[h]
  simp[this]
theorem zF:∀ks,(∀k∈ks.map D.str,∃c v,k = .str [c]/\mz (.dct kvs) k=some v/\(c,v)∈PV x)->
  ∃ps:List Pt,D.tup (prs kvs (ks.map .str)) = .tup (ps.map je)/\ps.map (·.1)=ks/\∀p∈ps,∃c z,p=([c],z)/\c∈x/\z≠[c]/\(z=[]\/∃b∈x,z=[b])
 | [],_=>⟨[],rfl,rfl,λp hp=>nomatch hp⟩
 | k::ks,h=>by
  obtain⟨ps,e1,e2,e3⟩:=zF ks λk' hk=>h k'<|Qqw _ hk;obtain⟨c,v,hk,hv,hp⟩:=h (.str k)<|Qqk ..;obtain⟨hc,z,rfl,hz,h2⟩:=abz hp;have hk':k=[c]:=by injection hk
  subst hk';refine⟨([c],z)::ps,?_,by rw[Qq7,e2],λp hp=>?_⟩
  ·injection e1 with e1
   show D.tup (.tup [.str [c],(mz (.dct kvs)<|.str [c]).getD .non]::prs kvs (ks.map .str))=_;rw[hv,e1]
   rfl
  ·rcases Qq3.mp hp with rfl|hp
   ·exact⟨c,z,rfl,hc,hz,h2⟩
   ·exact e3 p hp
theorem K8{x zs:List Nat}(hg:good x=true)(hn:zs.Nodup)(h0:0<zs.length)(h3:zs.length<=3){ps:List Pt}(hk:ps.map (·.1)=dH (zs.map λc=>[c]))(hp:∀p∈ps,∃c z,p=([c],z)/\c∈x/\z≠[c]/\(z=[]\/∃b∈x,z=[b])):Chs x ps:=by
 have hl:ps.length=zs.length:=by have:=Qjq List.length hk;rw[Qqj,(fW _).length_eq,Qqj] at this;exact this
 refine⟨by omega,λp hpp=>?_,?_⟩
 ·obtain⟨c,z,rfl,hc,_,h2⟩:=hp p hpp;refine⟨.inr ⟨c,rfl,lU hg hc⟩,?_⟩;rcases h2 with rfl|⟨b,hb,rfl⟩
  ·exact .inl rfl
  ·exact .inr ⟨b,rfl,lU hg hb⟩
 ·unfold xH;have e1:(ps.map c2).all (vN x)=true:=by
   rw[List.all_map,Qq5];intro p hpp;obtain⟨c,z,rfl,hc,hz,h2⟩:=hp p hpp;show(x.contains c&&((xA x (some z)||some z == some []) && !(some [c] == some z)))=true;have e:(some [c] == some z)=false:=by rw[Qwv];intro e;injection e with e;exact hz e.symm
   rw[e,List.contains_iff_mem.mpr hc];rcases h2 with rfl|⟨b,hb,rfl⟩
   ·simp
   ·show(true&&((x.contains b||_)&&true))=true;rw[List.contains_iff_mem.mpr hb]
    rfl
  have e2:(ps.map c2).map old=dH (zs.map λc=>[c]):=by
   rw[<-hk,Qw6]
   rfl
  have e3:(ps.map c2).isEmpty=false:=by
   cases ps with
   | nil=>simp at hl;omega
   | cons _ _=>rfl
  rw[e1,e2,e3,RC hn];simp
theorem changes(n)(x)(hg:good x=true):∃ps n',eN [.lst [.int n],.str x]=some (.tup (ps.map je),.lst [.int n'])/\Chs x ps:=by
 have hx:=qt hg;rw[Lb];obtain⟨d,hd,e⟩:=dig n 5 (by decide);have hp:=Gi x hx;have hl4:=sr x hx;have t:cC (au jF (dR uJ.aW 0<|aa (Zi 5) aj)<|Zi 0) [Zl [.int n],Zs x,Zn,Zn,Zn,Zn] = .ok ((d:Int) == 0) [Zl [.int (n / 5)],Zs x,Zn,Zn,Zn,Zn]:=by
  rw[<-e]
  rfl
 by_cases h0:d=0
 ·subst h0;obtain⟨j,hj,ej⟩:=dig (n / 5) x.length hp;refine⟨[([],[x[j]])],n / 5 / (x.length:Int),jZ (env:=[Zl [.int (n / 5 / (x.length:Int))],Zs x,Zn,Zn,Zn,Zn]) ?_ rfl,Tf (Qk1 hj)<|lU hg<|Qk1 hj⟩;unfold uJ.eO;refine(cI (d:=.tup [.tup [.str [],.str [x[j]]]]) (o:=false) (e:=[Zl [.int (n / 5 / (x.length:Int))],Zs x,Zn,Zn,Zn,Zn]) ?_).trans rfl;refine(gw t).trans ?_;refine bY<|nM (aN (nM (ds:=[.str [],.str [x[j]]]) (aN (d:=.str []) (by rfl)<|aN ?_ bH) Ev.zz2) bH) Ev.zz1;refine jc (x:=.str x) (y:=.int<|n / 5 % (x.length:Int)) (by rfl) ?_ (by rfl) ?_
  ·exact iD (x:=.lst [.int (n / 5)]) (x0:=.lst [.int (n / 5)]) (ds:=[.int (x.length:Int)]) (e1:=[Zl [.int (n / 5)],Zs x,Zn,Zn,Zn,Zn]) (by rfl) (by rfl) (by rfl)<|oh _ x.length hp (by omega)
  ·show(qU x<|n / 5 % (x.length:Int)).map _=_;rw[ej,Li hj]
   rfl
 ·have t0:((d:Int) == 0)=false:=by rw[Qwv];omega
  rw[t0] at t;obtain⟨j,hj,ej⟩:=dig (n / 5) 3 (by decide);obtain⟨ds,hds,hl1,hl2⟩:∃ds,tK [.int (1+(j:Int))]=some ds/\0<ds.length/\ds.length<=3:=by
   have hc:j=0\/j=1\/j=2:=by omega
   rcases hc with rfl|rfl|rfl
   ·exact⟨_,rfl,by decide,by decide⟩
   ·exact⟨_,rfl,by decide,by decide⟩
   ·exact⟨_,rfl,by decide,by decide⟩
  obtain⟨e',f1,n',kvs,zs,v3,v4,v5,rfl,hk,hz1,hz2⟩:=xD (g:=aq 3) (b:=aM uJ.one<|aM uJ.others uJ.Th) ds
   (λdone env=>∃n kvs zs v3 v4 v5,env=[Zl [.int n],Zs x,Zt<|.dct kvs,v3,v4,v5]/\Gp x kvs zs/\zs.length<=done.length/\(0<done.length->0<zs.length))
   (λdone s rest hall env ⟨n,kvs,zs,v3,v4,v5,he,hk,hz1,hz2⟩=>by
    subst he;have hdl:done.length<=3:=by have:=Qjq List.length hall;rw[Qqz,Qq1] at this;omega
    have hkl:kvs.length=zs.length:=by
     have:=Qjq List.length hk.keys
     rwa [Qqj,Qqj] at this
    obtain⟨p,n',w4,w5,hpv,hb⟩:=round n x hx kvs (by omega) (Zf s) v4 v5;obtain⟨zs',hk',z1,z2⟩:=hk.put hpv<|Lr hpv;exact⟨_,_,rfl,hb,n',_,zs',_,_,_,rfl,hk',by rw[Qqz,List.length_singleton];omega,λ_=>z1⟩)
   [Zl [.int (n / 5 / 3)],Zs x,Zt<|.dct [],Zn,Zn,Zn] ⟨_,[],[],_,_,_,rfl,⟨rfl,.nil,λc hc=>by simp at hc,λk v h=>by simp at h⟩,Qqy _,λh=>h⟩
  have hz3:zs.length<=3:=Qq0 hz1 hl2;obtain⟨ps,hps,hks,hpp⟩:=zF (x:=x) (kvs:=kvs) (dH<|zs.map λc=>[c])<|λk hk'=>Fb hk k hk';refine⟨ps,n',jZ (env:=[Zl [.int n'],Zs x,Zt<|.dct kvs,v3,v4,v5]) ?_ rfl,K8 hg hk.nd (hz2 hl1) hz3 hks hpp⟩;unfold uJ.eO;refine(aB (e:=[Zl [.int (n / 5)],Zs x,Zn,Zn,Zn,Zn])<|(dz t).trans rfl).trans ?_;refine(aB (e:=[Zl [.int (n / 5)],Zs x,Zt<|.dct [],Zn,Zn,Zn]) (by rfl)).trans ?_;refine(aB (e:=[Zl [.int n'],Zs x,Zt (.dct kvs),v3,v4,v5]) ?_).trans ?_
  ·refine(lO (ds:=ds) (e:=[Zl [.int (n / 5 / 3)],Zs x,Zt (.dct []),Zn,Zn,Zn]) ?_).trans f1;have a1:aa (au bM (Zi 1) (dR uJ.aW 0 (aa (Zi 3) aj))) aj [Zl [.int (n / 5)],Zs x,Zt (.dct []),Zn,Zn,Zn] = .ok [.int (1+n / 5 % 3)] [Zl [.int (n / 5 / 3)],Zs x,Zt (.dct []),Zn,Zn,Zn]:=by rfl
   unfold gJ;rw[a1];show gB (tK [.int (1+n / 5 % ((3:Nat):Int))]) _=_;rw[ej,hds]
   rfl
  ·have:=FQ (FT hk (by omega)) (Zl [.int n']) (Zs x) v3 v4 v5;rw[hps] at this;exact this
def SgX(x:List Nat)(g:Option (List Nat)):Prop:=Sg g/\ag x g=true
theorem Vy:([1,2,3,4].all λl=>(List.range (2*2^l - 1)).all λd=>!((List.range (l+1)).filter (uJ.bit d)).isEmpty)=true:=by decide +kernel
theorem O4(y)(p):(((List.range y.length).filter p).map λk=>y.getD k 0).Sublist y:=by
 have h:(List.range y.length).map (λk=>y.getD k 0)=y:=by
  refine List.ext_getElem (by rw[Qqj,List.length_range]) λi h1 h2=>?_;rw[List.getElem_map,List.getElem_range,Qx7,Qzq h2]
  rfl
 have:=(List.filter_sublist (l:=List.range y.length) (p:=p)).map λk=>y.getD k 0
 rwa [h] at this
theorem uX:∀{z:List Nat},z.Pairwise (·< ·)->iw (z.map λc=>[c])=true:=λh=>Kg<|List.pairwise_map.mpr<|h.imp λh=>lt1.mpr h
theorem Hf(hg:good x=true)(h:z.Sublist (35::x))(hz:z≠[]):SgX x (some z):=by
 have hp:(35::x).Pairwise (·< ·):=Qw1.mpr ⟨λc hc=>by have:=lU hg hc;unfold pR at this;omega,Fj hg⟩;have hm:∀c∈z,c=35\/c∈x:=λc hc=>Qq3.mp<|h.subset hc;refine⟨λz' e=>?_,?_⟩
 ·cases e;refine⟨hz,?_,λc hc=>(hm c hc).imp id<|lU hg⟩;have:=h.length_le;have:=(gF hg).2;simp at *;omega
 ·show(!z.isEmpty&&(z.all (λc=>c == 35||x.contains c)&&iw (z.map λc=>[c])))=true;rw[uX (hp.sublist h)];have:z.all (λc=>c == 35||x.contains c)=true:=Qq5.mpr λc hc=>by
   rcases hm c hc with rfl|h
   ·rfl
   ·rw[List.contains_iff_mem.mpr h,Bool.or_true]
  rw[this];cases z with
  | nil=>exact absurd rfl hz
  | cons _ _=>rfl
theorem signs(n)(x)(hg:good x=true):∃g n',dI [.lst [.int n],.str x]=some (gD g,.lst [.int n'])/\SgX x g:=by
 obtain⟨r,n',h1,h2⟩:=uJ.signs n x<|qt hg;rw[RK];unfold SG at h2;rcases Qq3.mp h2 with rfl|h2
 ·exact⟨none,n',h1,⟨λz e=>(by cases e),rfl⟩⟩
 ·obtain⟨d,hd,rfl⟩:=Qwk.mp h2;refine⟨some<|((List.range<|x.length+1).filter<|uJ.bit d).map λk=>(35::x).getD k 0,n',h1,Hf hg (O4 (35::x) _) λe=>?_⟩;have hl:=gF hg;have:=Qq5.mp (Qq5.mp Vy x.length (by
   have:x.length=1\/x.length=2\/x.length=3\/x.length=4:=by omega
   rcases this with h|h|h|h<;>rw[h]<;>decide)) d hd
  rw[List.map_eq_nil_iff.mp e] at this;cases this
def cq(q:QR):Q:=⟨q.w,q.ps.map c2,q.l,q.r⟩
theorem Vm(q):jd q=qD (cq q):=by unfold jd qD cq;rw[adt]
structure V5(x:List Nat)(q:QR):Prop where
 o:Jw q
 i:z7 x (cq q)=true
 n:0<q.ps.length
theorem rule(n)(x)(hg:good x=true):∃q n',lF [.lst [.int n],.str x]=some (jd q,.lst [.int n'])/\V5 x q:=by
 obtain⟨d,hd,e⟩:=dig n 2 (by decide);obtain⟨w,hw,h1⟩:∃w,(w=[111,110,99,101]\/w=[97,108,111,110,103])/\dC (.lst [.str [111,110,99,101],.str [97,108,111,110,103]]) (.int d)=some (.str w):=by
  have hc:d=0\/d=1:=by omega
  rcases hc with rfl|rfl
  ·exact⟨_,.inl rfl,rfl⟩
  ·exact⟨_,.inr rfl,rfl⟩
 obtain⟨ps,n1,h2,h3⟩:=changes (n / 2) x hg;obtain⟨l,n2,h5,h6⟩:=signs n1 x hg;obtain⟨r,n3,h7,h8⟩:=signs n2 x hg;have hww:way w=true:=by rcases hw with rfl|rfl<;>rfl
 refine⟨⟨w,ps,l,r⟩,n3,jZ (env:=[Zl [.int n3],Zs x,Zs w,Zf<|.tup<|ps.map je]) ?_ rfl,⟨hw,h3.n.2,h3.s,h6.1,h8.1⟩,?_,h3.n.1⟩
 ·unfold qC;refine(aB (e:=[Zl [.int (n / 2)],Zs x,Zs w,Zn]) ?_).trans ?_
  ·refine bJ (e:=[Zl [.int (n / 2)],Zs x,Zn,Zn]) ?_ rfl;refine aJ rfl rfl ?_;have e2:n % 2=d:=e;rw[e2];exact h1
  refine(aB (e:=[Zl [.int n1],Zs x,Zs w,Zf<|.tup<|ps.map je]) ?_).trans ?_
  ·exact bJ (iD rfl rfl rfl h2) rfl
  ·refine bY<|nM (aN rfl (aN rfl (aN (e1:=[Zl [.int n2],Zs x,Zs w,Zf<|.tup<|ps.map je]) ?_<|aN ?_ bH))) Ev.zz4
   ·exact iD (e1:=[Zl [.int n1],Zs x,Zs w,Zf<|.tup<|ps.map je]) rfl rfl rfl h5
   ·exact iD (e1:=[Zl [.int n2],Zs x,Zs w,Zf<|.tup<|ps.map je]) rfl rfl rfl h7
 ·show(way w&&(xH x (ps.map c2)&&(ag x l&&ag x r)))=true;rw[hww,h3.a,h6.2,h8.2]
  rfl
theorem shape(hs:il 32 t=hd::(cs++[47]::(l++[95]::r)))(h1:[47] ∉ hd::cs)(h2:[95] ∉ hd::(cs++[47]::l)) :
  both t=true/\hw t=hd/\cw t=cs/\lw t=bG [32] l/\uq t=bG [32] r:=by
 have ej:wj t=cs.length+1:=by
  unfold wj;rw[hs];have:=KX.xf (hd::cs) (l++[95]::r) h1;rw[Qj4] at this;rw[this]
  rfl
 have ek:wk t=cs.length+2+l.length:=by unfold wk;rw[hs];have:=KX.xf (hd::(cs++[47]::l)) r h2;rw[Qj4,Qwy,Qj4] at this;rw[this];show(cs++[47]::l).length+1=_;rw[Qqz,Qq1];omega
 refine⟨?_,?_,?_,?_,?_⟩
 ·unfold both;rw[hs];simp
 ·unfold hw;rw[hs];rfl
 ·unfold cw;rw[hs,ej];show(cs++_).take (cs.length+1 - 1)=cs;rw[Nat.add_sub_cancel,List.take_left]
 ·unfold lw;rw[hs,ej,ek];have e:hd::(cs++[47]::(l++[95]::r))=(hd::(cs++[[47]]))++(l++[95]::r):=by simp
  rw[e,List.drop_left' (by simp),show cs.length+2+l.length - (cs.length+1+1)=l.length by omega,List.take_left]
 ·unfold uq;rw[hs,ek];have e:hd::(cs++[47]::(l++[95]::r))=(hd::(cs++[47]::(l++[[95]])))++r:=by simp
  rw[e,List.drop_left' (by simp;omega)]
theorem Vx(h:c≠91):brk (c::z)=false:=by
 unfold brk;show((some c == some 91)&&_)=false;have:(some c == some 91)=false:=by rw[Qwv];intro e;injection e with e;exact h e
 rw[this,Bool.false_and]
def Qo(q:QR):List (List Nat):=q.w::q.ps.map nQ
def hdT(q:QR):List Nat:=bG [32] (Qo q)
section
variable{q:QR}(h:Jw q)
theorem Cw(ys):bG [32] (Qo q++ys)=hdT q++ys.flatMap (λy=>32::y):=by
 unfold Qo;rw[Je];show _=bG [32] (q.w::q.ps.map nQ)++_;generalize bG [32] (q.w::q.ps.map nQ)=a
 induction ys generalizing a with
 | nil=>simp
 | cons y ys ih=>rw[Qxy,ih,List.flatMap_cons,<-Qwy];simp
theorem Rk:txt q=hdT q++[32,47,32]++(wM q.l++[32,95,32]++wM q.r):=by have:=Cw (q:=q) [[47],wM q.l,[95],wM q.r];unfold txt Zy;rw[show(q.w::q.ps.map nQ)=Qo q from rfl,this];simp
include h
theorem acV:∀z∈Qo q,z≠[]/\∀c∈z,pR c\/c=62\/c=48:=λz hz=>by
 rcases Qq3.mp hz with rfl|hz
 ·refine⟨?_,λc hc=>.inl<|(w_is h.w).2 c hc⟩;rcases h.w with e|e<;>rw[e]<;>simp
 ·obtain⟨p,hp,rfl⟩:=Qwk.mp hz;obtain⟨a,b,e,_,_,h1,h2⟩:=Aq<|h.p p hp;rw[e];refine⟨by simp,λc hc=>?_⟩;simp[Qq3,Qxx,Qk2] at hc;rcases hc with rfl|rfl|rfl
  ·exact h1.elim (λe=>.inr<|.inr e) .inl
  ·exact .inr<|.inl rfl
  ·exact h2.elim (λe=>.inr<|.inr e) .inl
theorem aad(hd:¬pR d)(h1:d≠62)(h2:d≠48):∀z∈Qo q,d ∉ z:=λz hz hc=>by
 rcases(acV h z hz).2 d hc with e|e|e
 ·exact hd e
 ·exact h1 e
 ·exact h2 e
theorem aae(hd:¬pR d)(h1:d≠62)(h2:d≠48):[d] ∉ Qo q:=λhz=>aad h hd h1 h2 _ hz<|Qwx.mpr rfl
theorem Z7:∀c∈wM q.l,c=42\/c=35\/pR c:=(pX h.l).2
theorem aek:∀c∈wM q.r,c=42\/c=35\/pR c:=(pX h.r).2
theorem words(hy:∀y∈ys,32 ∉ y)(ht:t=hdT q++ys.flatMap (λy=>32::y)):il 32 t=q.w::(q.ps.map nQ++ys):=by
 rw[ht,<-Cw];have:Qo q++ys=q.w::(q.ps.map nQ++ys):=rfl;rw[this];refine DX 32 _ _ λz hz=>?_;rw[<-this] at hz;rcases Qxv.mp hz with hz|hz
 ·exact aad h (by unfold pR;omega) (by decide) (by decide) z hz
 ·exact hy z hz
theorem ae2:32 ∉ wM q.l:=λhc=>by have:=Z7 h 32 hc;unfold pR at this;omega
theorem ae1:32 ∉ wM q.r:=λhc=>by have:=aek h 32 hc;unfold pR at this;omega
theorem ae0:[47] ∉ q.w::q.ps.map nQ:=aae h (by unfold pR;omega) (by decide) (by decide)
theorem aeZ(l)(hl:[95] ∉ l):[95] ∉ q.w::(q.ps.map nQ++[47]::l):=λhz=>by
 have:q.w::(q.ps.map nQ++[47]::l)=Qo q++[47]::l:=rfl;rw[this] at hz;rcases Qxv.mp hz with hz|hz
 ·exact aae h (by unfold pR;omega) (by decide) (by decide) hz
 ·rcases Qq3.mp hz with hz|hz
  ·cases hz
  ·exact hl hz
theorem ae5:wM q.l≠[95]:=λe=>by have:=Z7 h 95 (by rw[e];exact Qwx.mpr rfl);unfold pR at this;omega
theorem afK(hp:p∈q.ps):ch (nQ p)=c2 p:=by
 obtain⟨a,b,e,e1,e2,h1,h2⟩:=Aq<|h.p p hp;unfold ch;have hs:il 62 (nQ p)=[xP p.1,xP p.2]:=by
  have:=DX 62 [xP p.2] (xP p.1) (λz hz=>by
   unfold pR at h1 h2;rw[e1,e2] at hz;simp[Qq3,Qxx,Qk2] at hz;rcases hz with rfl|rfl
   ·intro c;have:=Qwx.mp c;omega
   ·intro c;have:=Qwx.mp c;omega)
  exact this
 rw[hs];have r1:∀{z},wu z->rs (xP z)=some z:=λ{z} hz=>by
  rcases hz with rfl|⟨c,rfl,hc⟩
  ·rfl
  ·unfold rs xP;unfold pR at hc;rw[if_neg (by simp),if_neg (by simp;omega)]
 show [rs (xP p.1),rs<|xP p.2]=[some p.1,some p.2];rw[r1 (h.p p hp).1,r1 (h.p p hp).2]
theorem Vo:(q.ps.map nQ).map ch=q.ps.map c2:=by rw[Qw6];exact Qx9 λp hp=>afK h hp
omit h in
theorem RN(h:Sg g)(L):sg L (wM g)=g:=by
 cases g with
 | none=>rfl
 | some z=>
  obtain⟨hz,_,hc⟩:=h z rfl;cases z with
  | nil=>exact absurd rfl hz
  | cons c t=>
   have hc:=hc c<|Qqk ..;unfold pR at hc;show(if c::t=[42] then none else if brk (c::t)=true then _ else some (c::t))=_;rw[if_neg (λe=>by have:=(List.cons.inj e).1;omega),Vx (by omega),if_neg Qw3]
theorem sides(hl:32 ∉ l)(hr:32 ∉ r)(h95:l≠[95])(ht:t=hdT q++[32,47,32]++(l++[32,95,32]++r))(L):both t=true/\rq L t=⟨q.w,q.ps.map c2,sg L l,sg L r⟩:=by
 have hs:=words h (ys:=[[47],l,[95],r]) (λy hy=>by
  simp[Qq3,Qxx,Qk2] at hy;rcases hy with rfl|rfl|rfl|rfl
  ·decide
  ·exact hl
  ·decide
  ·exact hr) (t:=t) (by rw[ht];simp)
 obtain⟨b,e1,e2,e3,e4⟩:=shape hs (ae0 h)<|aeZ h [l] λhz=>h95 (Qwx.mp hz).symm;refine⟨b,?_⟩;unfold rq;rw[e1,e2,e3,e4,Vo h]
 rfl
theorem Rj(L):both (txt q)=true/\rq L (txt q)=cq q:=by have:=sides h (ae2 h) (ae1 h) (ae5 h) Rk L;rw[RN h.l,RN h.r] at this;exact this
end
theorem Wv(h0:W≠[])(h:∀z∈W,32 ∉ z):il 32 (bG [32] W)=W:=by
 cases W with
 | nil=>exact absurd rfl h0
 | cons p ps=>exact DX 32 ps p h
open uJ (za)
theorem Nu(h1:g d env=some e1)(h2:b e1 = .nx e2):lW g b (d::ds) env=lW g b ds e2:=by show(match g d env with|none=>_|some e1=>_)=_;rw[h1];show(match b e1 with|.nx e2=>_|.ct e2=>_|.bk e2=>_|.rt o d e2=>_|.stuck=>_)=_;rw[h2]
abbrev tl:List Nat:=[32,47,32,42,32,95,32,42]
abbrev on:List Nat:=[111,110,99,101,32]
def o1(a:Nat):List (List Nat):=[[111,110,99,101],on,on++[a],on++[a]++[62],[111,110,99,101,32,62]++[a],[111,110,99,101,32,48,62,48]]++[on++[a]++[62]++[a]]
def o2(a o:Nat):List (List Nat):=[[a]++[62]++[o],[o]++[62]++[a],[a]++[45,62,48],[a]++[62,62,48],[a]++[62,35],[35,62]++[a]]++[[a]++[62,48,32]++[a]++[62,48]]++[[a]++[32,62,48]]
def f1(z:List Nat):List Nat:=z++tl
def f2(z:List Nat):List Nat:=on++z++tl
def f3(a:Nat)(z:List Nat):List (List Nat):=[on++[a]++[62,48,32,47,32]++z++[32,95,32,42],on++[a]++[62,48,32,47,32,42,32,95,32]++z]
def ltr(c:Nat):Bool:=decide (97<=c)&&decide (c<=122)
def adv(o:Nat):Option (List Nat)->Bool
 | some [c]=>!ltr c||c == o
 | _=>true
def aht(o:Nat):List (Option (List Nat))->Bool
 | [p,r]=>!(p == some [])||adv o r
 | _=>true
def Vz(o:Nat):List (Option (List Nat))->Bool
 | [p,r]=>adv o p||(adv o r && !(r == some []))||p == r
 | _=>true
def ahu(o:Nat)(cs:List (List (Option (List Nat)))):Bool:=cs.isEmpty||((!(cs.length == 1)||cs.any (aht o))&&(cs.any (Vz o) || !iw (cs.map old)))
def afP(o:Nat)(z:List Nat):Bool:=!(z == [42])&&(if brk z=true then (il 32 ((z.drop 1).take (z.length - 2))).any (λm=>!KN.contains m) else z.isEmpty||(z.any (λc=>!(c == 35)&&(!ltr c||c == o)) || !iw (z.map λc=>[c])))
def sb(o:Nat)(t:List Nat):Bool:=!both t||(!way (hw t)||(ahu o ((cw t).map ch)||(afP o (lw t)||afP o (uq t))))
theorem other:∀(x S:List Nat),S.Nodup->x.length<S.length->∃o∈S,o ∉ x
 | [],S,_,hl=>by
  cases S with
  | nil=>exact absurd hl (by decide)
  | cons o S=>exact⟨o,Qqk ..,Qxx⟩
 | a::x,S,hn,hl=>by
  rw[Qq1] at hl;obtain⟨o,h1,h2⟩:=other x (S.erase a) (hn.erase a) (by rw[List.length_erase];split<;>omega);rw[hn.mem_erase_iff] at h1;refine⟨o,h1.2,λh=>?_⟩;rcases Qq3.mp h with e|h
  ·exact h1.1 e
  ·exact h2 h
theorem M4(c)(z):gQ (.str [c]) (.str z)=some (.bl (!decide (c∈z))):=rfl
theorem zP(h:b ∉ p)(hab:a≠b):Np [a,b,c] p:=λk hk e=>by
 have e1:=Qjq (λl:List Nat=>l[1]?) e;have e2:((p++[a,b,c]).drop k)[1]? = some b:=by
  have:(List.take 3<|(p++[a,b,c]).drop k)[1]? = some b:=e1
  rwa [List.getElem?_take,if_pos (by decide)] at this
 rw[List.getElem?_drop] at e2;by_cases hk1:k+1<p.length
 ·rw[Qw9 hk1] at e2;exact h<|Qjy e2
 ·have:k+1=p.length:=by omega
  rw[this,Qx1<|Qqy _,Nat.sub_self] at e2;injection e2 with e2
  exact hab e2
theorem Dm:∀ps p,(p::ps).flatMap (λy=>32::y)=32::bG [32] (p::ps)
 | [],p=>by simp[bG]
 | q::ps,p=>by
  rw[List.flatMap_cons,Dm ps q,bQ];simp
theorem Jg(l):(il 32 l).flatMap (λy=>32::y)=32::l:=by obtain⟨p,ps,e⟩:=jY 32 l;have:=fP 32 l;rw[e] at this ⊢;rw[Dm,this]
theorem aa9(h:Jw q)(h95:[95] ∉ il 32 l)(ht:t=hdT q++[32,47,32]++(l++[32,95,32]++r))(L):both t=true/\rq L t=⟨q.w,q.ps.map c2,sg L l,sg L r⟩:=by
 have hs:=words h (ys:=[47]::(il 32 l++[95]::il 32 r)) (λy hy=>by
  rcases Qq3.mp hy with rfl|hy
  ·decide
  ·rcases Qxv.mp hy with hy|hy
   ·exact rm 32 l y hy
   ·rcases Qq3.mp hy with rfl|hy
    ·decide
    ·exact rm 32 r y hy) (t:=t) (by
  rw[ht,List.flatMap_cons,List.flatMap_append,List.flatMap_cons,Jg,Jg];simp)
 obtain⟨b,e1,e2,e3,e4⟩:=shape hs (ae0 h)<|aeZ h _ h95;refine⟨b,?_⟩;unfold rq;rw[e1,e2,e3,e4,Vo h,fP,fP]
def told(ms:List (List Nat)):List Nat:=[91]++bG [32] ms++[93]
def mOk(ms:List (List Nat)):Bool:=brk (told ms)&&(il 32 (((told ms).drop 1).take ((told ms).length - 2)) == ms) && !decide ([95]∈il 32 (told ms)) && !(told ms == [42])&&decide (ms.length<=10)&&ms.all (λm=>decide (m.length<=10))&&decide ((told ms).length<=60)
section
variable{L:List Rn}(hL:xJ L)
theorem tU(h:xJ L):L.length<=4:=by have:=(gF h.qP).2;rwa [Qqj] at this
include hL
theorem Vh(h0:my L ms≠[]):ag (L.map (·.1)) (some (my L ms))=true:=by refine(Hf hL.qP ?_ h0).2;refine List.Sublist.cons _ ?_;unfold my;exact List.filter_sublist.map _
omit hL in
theorem FJ(h0:my L ms=[])(x):ag x (some (my L ms))=false:=by rw[h0];rfl
end
theorem Dh(h:z7 x q=true):way q.w=true/\xH x q.cs=true/\ag x q.l=true/\ag x q.r=true:=by unfold z7 at h;simp[Qq2] at h;exact⟨h.1,h.2.1,h.2.2.1,h.2.2.2⟩
def tx(q:QR)(A B:List Nat):List Nat:=hdT q++[32,47,32]++(A++[32,95,32]++B)
theorem aef(h:c≠0/\c.natAbs<1073741824/\Builtin.Range.small i j c=true):tK [.int i,.int j,.int c]=some (jK i c (Builtin.Range.rangeSize i j c).toNat):=by unfold tK;simp only;rw[if_pos h]
theorem abk{j:Nat}(h:j<17):∃ds,tK [.int 0,.int j,.int 2]=some ds/\∀d∈ds,∃k,d = .int k/\0<=k/\k<=400:=by
 have hall:((List.range 17).all λj=>Builtin.Range.small 0 j 2&&decide ((Builtin.Range.rangeSize 0 j 2).toNat<=20))=true:=by decide +kernel
 have hj:=Qq5.mp hall j<|Qx6.mpr h;rw[Qq2] at hj;have hsz:=Qww hj.2;refine⟨jK 0 2 (Builtin.Range.rangeSize 0 j 2).toNat,aef ⟨by decide,by decide,hj.1⟩,λd hd=>?_⟩;unfold jK at hd;obtain⟨i,hi,rfl⟩:=Qwk.mp hd;have:=Qx6.mp hi;exact⟨0+i*2,rfl,by omega,by omega⟩
def q4:QR:=⟨[97,108,111,110,103],[([97],[98]),([98],[]),([99],[100]),([100],[97])],some [35,97],none⟩
end dh
namespace gH
open Ev PySem L2
open KP
open dh (Rn row rq ok qD Q z7 iu both iw)
theorem wX:∀zs,iw zs=true↔zs.Pairwise (·< ·)
 | []=>by simp[iw]
 | [x]=>by simp[iw]
 | x::y::r=>by
  have ih:=wX (y::r);show(decide (x<y)&&iw (y::r))=true↔_;rw[Qq2,decide_eq_true_eq,ih,Qw1 (a:=x)];constructor
  ·rintro⟨h1,h2⟩;refine⟨λz hz=>?_,h2⟩;rcases Qq3.mp hz with rfl|hz
   ·exact h1
   ·exact List.lt_trans h1<|(Qw1.mp h2).1 z hz
  ·rintro⟨h1,h2⟩;exact⟨h1 y<|Qqk ..,h2⟩
theorem ae6{zs:List (List Nat)}(h:zs.Pairwise (·< ·)):zs.Nodup:=h.imp λh e=>by subst e;exact List.lt_irrefl _ h
theorem YW(h:ys.Nodup)(x):(SX.yG ys x).Nodup:=by
 unfold SX.yG;split
 ·exact h
 ·rename_i hx;exact List.nodup_append.mpr ⟨h,List.pairwise_singleton _ _,λa ha b hb e=>hx (by rw[<-Qwx.mp hb,<-e];exact ha)⟩
theorem GK:∀(zs:List (List Nat)) {ys},ys.Nodup->(zs.foldl SX.yG ys).Nodup
 | [],_,h=>h
 | z::zs,_,h=>GK zs<|YW h z
theorem GP:∀(zs ys:List (List Nat)),(ys++zs).Nodup->zs.foldl SX.yG ys=ys++zs
 | [],ys,_=>(Qx4 _).symm
 | z::zs,ys,h=>by
  have e:SX.yG ys z=ys++[z]:=by unfold SX.yG;rw[if_neg λhz=>(List.nodup_append.mp h).2.2 z hz z (Qqk ..) rfl]
  rw[Qxy,e,GP zs (ys++[z]) (by rw[Qwy];exact h),Qwy]
  rfl
theorem Hh:∀{zs},zs.Pairwise (·< ·)->dH zs=zs
 | [],_=>rfl
 | x::r,h=>by
  obtain⟨h1,h2⟩:=Qw1.mp h;unfold dH;rw[Hh h2];cases r with
  | nil=>rfl
  | cons y r=>
   unfold KY;rw[if_neg λhy=>List.lt_irrefl _<|List.lt_trans hy<|h1 y<|Qqk ..]
theorem afc{a b:List Nat}(h:a<=b)(hn:a≠b):a<b:=by
 rcases Decidable.em (a<b) with h1|h1
 ·exact h1
 ·exact absurd (List.le_antisymm h<|List.not_lt.mp h1) hn
theorem Ww(zs):(dH (SX.n8 zs)=zs)↔iw zs=true:=by
 rw[wX];constructor
 ·intro e;have h1:=mF<|SX.n8 zs;have h2:(dH<|SX.n8 zs).Nodup:=(fW _).nodup_iff.mpr<|GK zs .nil;rw[e] at h1 h2;exact List.Pairwise.imp₂ (λa b h h'=>afc h h') h1 h2
 ·intro h;unfold SX.n8;rw[GP zs [] (ae6 h)];exact Hh h
theorem kW:∀zs,fJ (zs.map .str)=some zs
 | []=>rfl
 | z::zs=>by
  have:=kW zs;simp only[Qq7,fJ,this]
  rfl
theorem IV(h1:zs.length<64)(h2:∀z∈zs,z.length<=1000):jo (.lst (zs.map .str))=some (.lst ((dH (SX.n8 zs)).map .str)):=by show(fJ<|zs.map .str).bind _=_;rw[show fJ (zs.map .str)=some zs from kW zs,Option.bind_some,if_pos ⟨h1,λz hz=>Qq0 (h2 z hz) (by decide)⟩]
theorem YX(h:ys.Nodup)(x):(SI.jz ys x).Nodup:=by
 unfold SI.jz;split
 ·exact h
 ·rename_i hx;exact List.nodup_append.mpr ⟨h,List.pairwise_singleton _ _,λa ha b hb e=>hx (by rw[<-Qwx.mp hb,<-e];exact ha)⟩
theorem GR:∀(zs:List Int) {ys},ys.Nodup->(zs.foldl SI.jz ys).Nodup
 | [],_,h=>h
 | z::zs,_,h=>GR zs<|YX h z
theorem GX:∀(zs ys:List Int),(ys++zs).Nodup->zs.foldl SI.jz ys=ys++zs
 | [],ys,_=>(Qx4 _).symm
 | z::zs,ys,h=>by
  have e:SI.jz ys z=ys++[z]:=by unfold SI.jz;rw[if_neg λhz=>(List.nodup_append.mp h).2.2 z hz z (Qqk ..) rfl]
  rw[Qxy,e,GX zs (ys++[z]) (by rw[Qwy];exact h),Qwy]
  rfl
theorem Hi:∀{zs},zs.Pairwise (·< ·)->SI.sortI zs=zs
 | [],_=>rfl
 | x::r,h=>by
  obtain⟨h1,h2⟩:=Qw1.mp h;unfold SI.sortI;rw[Hi h2];cases r with
  | nil=>rfl
  | cons y r=>
   unfold SI.insI;rw[if_pos (Int.le_of_lt<|h1 y<|Qqk ..)]
theorem RB(zs):(SI.sortI (SI.dY zs)=zs)↔zs.Pairwise (·< ·):=by
 constructor
 ·intro e;have h1:=SI.zg<|SI.dY zs;have h2:(SI.sortI<|SI.dY zs).Nodup:=(SI.sortI_perm _).nodup_iff.mpr<|GR zs .nil;rw[e] at h1 h2;exact List.Pairwise.imp₂ (λa b h h'=>Int.lt_iff_le_and_ne.mpr ⟨h,h'⟩) h1 h2
 ·intro h;unfold SI.dY;rw[GX zs [] (h.imp λh e=>by subst e;exact Int.lt_irrefl _ h)];exact Hi h
open dh (Rn row rq ok qD Q z7 iu both iw QR Jw V5 jd cq c2 wu pR Sg vN pu xH ag xA old good gD other)
theorem rM(hg:good x=true)(h:x.contains c=true):pR c:=by unfold good at hg;simp[Qq2,Qq5,decide_eq_true_eq] at hg;exact hg.1.2 c<|List.contains_iff_mem.mp h
theorem Fe(h:xA x a=true):∃c,a=some [c]/\x.contains c=true:=by
 unfold xA at h;split at h
 ·exact⟨_,rfl,h⟩
 ·cases h
theorem Vq(hg:good x=true)(h:vN x o=true\/pu x o=true):∃p:List Nat×List Nat,o=c2 p/\wu p.1/\wu p.2:=by
 rcases h with h|h
 ·unfold vN at h;split at h
  ·rename_i a b;rw[Qq2,Qq2,Qx8] at h;obtain⟨h1,h2,_⟩:=h;obtain⟨c,rfl,hc⟩:=Fe h1;rcases h2 with h2|h2
   ·obtain⟨d,rfl,hd⟩:=Fe h2;exact⟨([c],[d]),rfl,.inr ⟨c,rfl,rM hg hc⟩,.inr ⟨d,rfl,rM hg hd⟩⟩
   ·rw[eq_of_beq h2];exact⟨([c],[]),rfl,.inr ⟨c,rfl,rM hg hc⟩,.inl rfl⟩
  ·cases h
 ·unfold pu at h;split at h
  ·rename_i a b;rw[Qq2] at h;obtain⟨h1,h2⟩:=h;obtain⟨d,rfl,hd⟩:=Fe h2;rw[eq_of_beq h1];exact⟨([],[d]),rfl,.inl rfl,.inr ⟨d,rfl,rM hg hd⟩⟩
  ·cases h
theorem Oh(hg:good x=true):∀{cs},(∀o∈cs,vN x o=true\/pu x o=true)->∃ps:List (List Nat×List Nat),cs=ps.map c2/\∀p∈ps,wu p.1/\wu p.2
 | [],_=>⟨[],rfl,λp hp=>by cases hp⟩
 | o::cs,h=>by
  obtain⟨p,rfl,h1⟩:=Vq hg<|h o<|Qqk ..;obtain⟨ps,rfl,h2⟩:=Oh hg λo ho=>h o<|Qqw _ ho;exact⟨p::ps,rfl,λz hz=>by
   rcases Qq3.mp hz with rfl|hz
   ·exact h1
   ·exact h2 z hz⟩
theorem aca{a b:Nat}(h:[a] < [b]):a<b:=by
 rcases List.cons_lt_cons_iff.mp h with h|⟨_,h⟩
 ·exact h
 ·exact absurd h<|List.lt_irrefl _
theorem acB{a b:Nat}(h:a<b):[a] < [b]:=List.cons_lt_cons_iff.mpr<|.inl h
theorem uX{z:List Nat}:iw (z.map λc=>[c])=true↔z.Pairwise (·< ·):=by rw[wX,List.pairwise_map];exact⟨λh=>h.imp aca,λh=>h.imp acB⟩
theorem acv{z:List Nat}(h:z.Pairwise (·< ·)):z.Nodup:=h.imp λh e=>by subst e;exact Qz1 _ h
theorem few{x z:List Nat}(h:z.Pairwise (·< ·))(hx:∀c∈z,c∈x):z.length<=x.length:=by refine Nat.le_of_not_lt λhl=>?_;obtain⟨o,h1,h2⟩:=other x z (acv h) hl;exact h2<|hx o h1
theorem VF(hg:good x=true)(h:ag x g=true):Sg g:=by
 intro z e;subst e;unfold ag at h;rw[Qq2,Qq2,uX] at h;obtain⟨h1,h2,h3⟩:=h;have h2':=λc hc=>by
  have:=Qq5.mp h2 c hc;rw[Qx8] at this;exact this.imp eq_of_beq id
 refine⟨λe=>(by rw[e] at h1;cases h1),?_,λc hc=>(h2' c hc).imp id<|rM hg⟩;have:=few h3 (x:=35::x) λc hc=>by
  rcases h2' c hc with rfl|h
  ·exact Qqk ..
  ·exact Qqw _<|List.contains_iff_mem.mp h
 have h4:=(dh.gF hg).2;rw[Qq1] at this;omega
theorem olds:∀{cs:List (List (Option (List Nat)))},(∀o∈cs,vN x o=true)->∃z:List Nat,cs.map old=z.map (λc=>[c])/\∀c∈z,c∈x
 | [],_=>⟨[],rfl,λc hc=>by cases hc⟩
 | o::cs,h=>by
  obtain⟨c,b,rfl,hc⟩:=dh.Oa<|h o<|Qqk ..;obtain⟨z,e,hz⟩:=olds λo ho=>h o<|Qqw _ ho;exact⟨c::z,by rw[Qq7,e];rfl,λd hd=>by
   rcases Qq3.mp hd with rfl|hd
   ·exact List.contains_iff_mem.mp hc
   ·exact hz d hd⟩
theorem Gh(hg:good x=true)(h:xH x cs=true):cs.length<=4/\0<cs.length/\∀o∈cs,vN x o=true\/pu x o=true:=by
 unfold xH at h;rw[Qq2,Qx8,Qq2,Qq2] at h;obtain⟨h0,h1⟩:=h;have h0':0<cs.length:=by
  cases cs with
  | nil=>cases h0
  | cons a b=>exact Nat.succ_pos _
 rcases h1 with ⟨h1,h2⟩|⟨h1,h2⟩
 ·have:=eq_of_beq h1;exact⟨by omega,h0',λo ho=>.inr<|Qq5.mp h2 o ho⟩
 ·refine⟨?_,h0',λo ho=>.inl<|Qq5.mp h1 o ho⟩;obtain⟨z,e,hz⟩:=olds<|Qq5.mp h1;rw[e,uX] at h2;have:=few h2 hz;have h3:=Qjq List.length e;rw[Qqj,Qqj] at h3;have h4:=(dh.gF hg).2;omega
theorem abj(hg:good x=true)(h:z7 x q=true):∃p,V5 x p/\q=cq p:=by obtain⟨h1,h2,h3,h4⟩:=dh.Dh h;obtain⟨a1,a2,a3⟩:=Gh hg h2;obtain⟨ps,e,hp⟩:=Oh hg a3;obtain⟨w,cs,l,r⟩:=q;dsimp only at h1 h2 h3 h4 a1 a2 e;subst e;rw[Qqj] at a1 a2;refine⟨⟨w,ps,l,r⟩,⟨⟨?_,a1,hp,VF hg h3,VF hg h4⟩,h,a2⟩,rfl⟩;unfold dh.way at h1;rw[Qx8] at h1;exact h1.imp eq_of_beq eq_of_beq
open dh (Rn row rq ok qD Q z7 iu both iw QR Jw V5 jd cq c2 wu pR Sg vN pu xH ag xA old good gD other rs ch)
def o8(a:Nat):List Nat:=if a=48 then [] else [a]
def GF(x:List Nat):List Nat->Bool
 | [a,g,b]=>g == 62&&(!(a == b)&&(decide (a∈x++[48])&&decide (b∈x++[48])))
 | _=>false
def wP:List Nat->List Nat×List Nat
 | [a,_,b]=>(o8 a,o8 b)
 | _=>([],[])
theorem R1(a):rs [a]=some (o8 a):=by
 unfold rs o8;rw[if_neg (by simp)];by_cases h:a=48
 ·rw[if_pos (by rw[h]),if_pos h]
 ·rw[if_neg (by simpa using h),if_neg h]
theorem Yb(hg:good x=true)(h:a∈x++[48]):a≠62/\(a=48\/(a∈x/\a≠48)):=by
 rcases Qxv.mp h with h|h
 ·have:=rM hg<|List.contains_iff_mem.mpr h;unfold pR at this;exact⟨by omega,.inr ⟨h,by omega⟩⟩
 ·rw[Qwx.mp h];exact⟨by decide,.inl rfl⟩
theorem Rh(h:GF x w=true):∃a b,w=[a,62,b]/\a≠b/\a∈x++[48]/\b∈x++[48]:=by
 unfold GF at h;split at h
 ·rename_i a g b;simp only[Qq2,decide_eq_true_eq,Bool.not_eq_true',Qwv,beq_iff_eq] at h;obtain⟨rfl,h1,h2,h3⟩:=h;exact⟨a,b,rfl,h1,h2,h3⟩
 ·cases h
theorem Vr(ha:a≠62)(hb:b≠62):ch [a,62,b]=[some (o8 a),some (o8 b)]:=by
 unfold ch;have:il 62 [a,62,b]=[[a],[b]]:=DX 62 [[b]] [a] λq hq=>by
  rcases Qq3.mp hq with rfl|hq
  ·simpa using λh=>ha h.symm
  ·rw[Qwx.mp hq]
   simpa using λh=>hb h.symm
 rw[this];show [rs [a],rs [b]]=_;rw[R1,R1]
theorem Oc(hg:good x=true)(h:GF x w=true):ch w=c2 (wP w)/\((wP w).1=[]->pu x (ch w)=true/\vN x (ch w)=false)/\((wP w).1≠[]->vN x (ch w)=true/\pu x (ch w)=false):=by
 obtain⟨a,b,rfl,hab,ha,hb⟩:=Rh h;obtain⟨a1,a2⟩:=Yb hg ha;obtain⟨b1,b2⟩:=Yb hg hb;rw[Vr a1 b1];refine⟨rfl,λe=>?_,λe=>?_⟩
 ·have e:o8 a=[]:=e;have ha:a=48:=by
   rcases a2 with h|⟨_,h⟩
   ·exact h
   ·unfold o8 at e;rw[if_neg h] at e;cases e
  subst ha;rcases b2 with h|⟨h1,h2⟩
  ·exact absurd h.symm hab
  ·have e2:o8 b=[b]:=if_neg h2;rw[e2];exact⟨show(true&&x.contains b)=true by rw[List.contains_iff_mem.mpr h1];rfl,rfl⟩
 ·have e:=e;rcases a2 with h|⟨h1,h2⟩
  ·rw[h] at e;exact absurd rfl e
  ·have e1:o8 a=[a]:=if_neg h2;rw[e1];refine⟨?_,rfl⟩;show(x.contains a&&((xA x (some<|o8 b)||some (o8 b) == some []) && !(some [a] == some (o8 b))))=true;rw[List.contains_iff_mem.mpr h1];rcases b2 with h|⟨h3,h4⟩
   ·rw[h]
    rfl
   ·have e2:o8 b=[b]:=if_neg h4;rw[e2];have e3:xA x (some [b])=true:=List.contains_iff_mem.mpr h3;have e4:((some [a]) == some [b])=false:=Qwv.mpr λh=>hab (by simpa using h);rw[e3,e4]
    rfl
theorem R0(h:rs z=some y)(hy:y=[]\/∃c,y=[c]):∃a,z=[a]/\o8 a=y:=by
 unfold rs at h;split at h
 ·cases h
 ·split at h
  ·rename_i h1 h2;cases h;exact⟨48,h2,rfl⟩
  ·rename_i h1 h2;cases h;rcases hy with h|⟨c,rfl⟩
   ·exact absurd h h1
   ·exact⟨c,rfl,if_neg λe=>h2 (by rw[e])⟩
theorem Yx(hg:good x=true)(h:vN x (ch w)=true\/pu x (ch w)=true):GF x w=true:=by
 obtain⟨p,e,hp⟩:=Vq hg h;have e':(il 62 w).map rs=[some p.1,some p.2]:=e;obtain⟨u,v,hw,h1,h2⟩:∃u v,il 62 w=[u,v]/\rs u=some p.1/\rs v=some p.2:=by
  match hs:il 62 w with
  | []=>rw[hs] at e';cases e'
  | [_]=>rw[hs] at e';simp at e'
  | [u,v]=>
   rw[hs] at e';simp[Qq7,Qk8,List.cons.injEq,and_true] at e';exact⟨u,v,rfl,e'.1,e'.2⟩
  | _::_::_::_=>rw[hs] at e';simp at e'
 have s1:∀{y},wu y->y=[]\/∃c,y=[c]:=λh=>h.imp id λ⟨c,e,_⟩=>⟨c,e⟩;obtain⟨a,rfl,ea⟩:=R0 h1<|s1 hp.1;obtain⟨b,rfl,eb⟩:=R0 h2<|s1 hp.2;have hj:=fP 62 w;rw[hw] at hj;have hj:=hj.symm;have hc:∀{c},xA x (some<|o8 c)=true->c∈x:=λ{c} h=>by
  obtain⟨d,e,hd⟩:=Fe h;unfold o8 at e;split at e
  ·cases e
  ·cases e;exact List.contains_iff_mem.mp hd
 have hz:∀{c},o8 c=[]->c=48:=λ{c} e=>by
  unfold o8 at e;split at e
  ·assumption
  ·cases e
 have hch:ch w=[some (o8 a),some<|o8 b]:=by
  rw[e,ea,eb]
  rfl
 have key:a≠b/\a∈x++[48]/\b∈x++[48]:=by
  rw[hch] at h;rcases h with h|h
  ·have h:(xA x (some<|o8 a)&&((xA x (some<|o8 b)||some (o8 b) == some []) && !(some (o8 a) == some (o8 b))))=true:=h;rw[Qq2,Qq2,Qx8] at h;obtain⟨h1,h2,h3⟩:=h;refine⟨λe=>?_,Qkx _<|hc h1,?_⟩
   ·subst e;rw[show(some (o8 a) == some (o8 a))=true from beq_self_eq_true _] at h3;cases h3
   ·rcases h2 with h2|h2
    ·exact Qkx _<|hc h2
    ·rw[hz (Qw8<|eq_of_beq h2)];exact Qxq _<|Qqk ..
  ·have h:((some (o8 a) == some [])&&xA x (some<|o8 b))=true:=h;rw[Qq2] at h;have ha:=hz<|Qw8<|eq_of_beq h.1;have hb:=hc h.2;refine⟨λe=>?_,by rw[ha];exact Qxq _<|Qqk ..,Qkx _ hb⟩;have:=rM hg<|List.contains_iff_mem.mpr hb;unfold pR at this;omega
 rw[hj];show(62 == 62&&(!(a == b)&&(decide (a∈x++[48])&&decide (b∈x++[48]))))=true;rw[Qw2 key.2.1,Qw2 key.2.2,Qwv.mpr key.1]
 rfl
def eZ(ws:List (List Nat)):List (List Nat):=ws.map λw=>(wP w).1
def rP(x:List Nat)(ws:List (List Nat)):Bool:=ws.all (GF x)&&(!ws.isEmpty&&(decide (ws.length<=4)&&(iw (eZ ws) && !(decide ([]∈eZ ws)&&decide (1<ws.length)))))
theorem Ez(hg:good x=true)(h:∀w∈ws,GF x w=true):ws.map ch=(ws.map wP).map c2/\(ws.map ch).map old=eZ ws:=by
 have h1:=λw hw=>(Oc hg<|h w hw).1;constructor
 ·rw[Qw6];exact Qx9 h1
 ·rw[Qw6];exact Qx9 λw hw=>by rw[Function.comp,h1 w hw];rfl
theorem VH(hg:good x=true)(ws):xH x (ws.map ch)=rP x ws:=by
 refine Qzv.mpr ⟨λh=>?_,λh=>?_⟩
 ·obtain⟨h4,h0,hc⟩:=Gh hg h;rw[Qqj] at h4 h0;have hw:∀w∈ws,GF x w=true:=λw hw=>Yx hg<|hc _<|List.mem_map_of_mem hw;obtain⟨m1,m2⟩:=Ez hg hw;have key:iw (eZ ws)=true/\¬([]∈eZ ws/\1<ws.length):=by
   unfold xH at h;rw[Qq2,Qx8,Qq2,Qq2] at h;rcases h.2 with ⟨h1,h2⟩|⟨h1,h2⟩
   ·have:=eq_of_beq h1;rw[Qqj] at this
    match ws,this with
    | [w],_=>exact⟨rfl,λh=>absurd h.2 (by simp)⟩
   ·rw[m2] at h2;refine⟨h2,λh=>?_⟩;obtain⟨w,hm,e⟩:=Qwk.mp h.1;have:=((Oc hg<|hw w hm).2.1 e).2;rw[Qq5.mp h1 _ (List.mem_map_of_mem hm)] at this;cases this
  unfold rP;rw[Qq5.mpr hw,Qw2 h4,key.1];have e1:ws.isEmpty=false:=by
   cases ws with
   | nil=>cases h0
   | cons=>rfl
  have e2:(decide ([]∈eZ ws)&&decide (1<ws.length))=false:=by rw[Bool.eq_false_iff];intro h;rw[Qq2,decide_eq_true_eq,decide_eq_true_eq] at h;exact key.2 h
  rw[e1,e2]
  rfl
 ·unfold rP at h;rw[Qq2,Qq2,Qq2,Qq2] at h;obtain⟨h1,h2,h3,h4,h5⟩:=h;have hw:=Qq5.mp h1;obtain⟨m1,m2⟩:=Ez hg hw;unfold xH;have e0:(ws.map ch).isEmpty=false:=by
   cases ws with
   | nil=>cases h2
   | cons=>rfl
  rw[e0];show(true&&_)=true;rw[Bool.true_and,Qx8,Qq2,Qq2];by_cases hn:[]∈eZ ws
  ·left
   rw[Qw2 hn,Bool.true_and,Bool.not_eq_true',decide_eq_false_iff_not] at h5
   match ws,h2,h5,hn,hw with
   | [w],_,_,hn,hw=>
    have e:=(Qwx.mp hn).symm;refine⟨rfl,?_⟩;show(pu x (ch w)&&true)=true;rw[((Oc hg<|hw w<|Qqk ..).2.1 e).1]
    rfl
   | _::_::_,_,h5,_,_=>exact absurd (by simp) h5
  ·right
   rw[m2];refine⟨Qq5.mpr λo ho=>?_,h4⟩;obtain⟨w,hm,rfl⟩:=Qwk.mp ho;exact((Oc hg<|hw w hm).2.2 λe=>hn<|Qwk.mpr ⟨w,hm,e⟩).1
theorem X6(hg:good x=true)(h:rP x ws=true):ws.map ch=(ws.map wP).map c2:=by unfold rP at h;rw[Qq2] at h;exact(Ez hg<|Qq5.mp h.1).1
theorem agP:∀x,1<=x.length->x.length<=4->c∈k::x->d7 (.str (k::x)) (.str [c])=some (.int ((k::x).idxOf c)):=by
 intro x h0 hl hc
 match x,h0,hl,hc with
 | [a],_,_,hc=>
  by_cases h1:k=c
  ·simp[d7,Builtin.Str.occurrences,Builtin.Str.subAt,strOf,List.idxOf_cons,Str.length,List.range'_succ,cond_eq_ite,h1]
  ·obtain rfl:a=c:=by simp at hc;omega
   simp[d7,Builtin.Str.occurrences,Builtin.Str.subAt,strOf,List.idxOf_cons,Str.length,List.range'_succ,cond_eq_ite,h1]
 | [a,b],_,_,hc=>
  by_cases h1:k=c
  ·simp[d7,Builtin.Str.occurrences,Builtin.Str.subAt,strOf,List.idxOf_cons,Str.length,List.range'_succ,cond_eq_ite,h1]
  ·by_cases h2:a=c
   ·simp[d7,Builtin.Str.occurrences,Builtin.Str.subAt,strOf,List.idxOf_cons,Str.length,List.range'_succ,cond_eq_ite,h1,h2]
   ·obtain rfl:b=c:=by simp at hc;omega
    simp[d7,Builtin.Str.occurrences,Builtin.Str.subAt,strOf,List.idxOf_cons,Str.length,List.range'_succ,cond_eq_ite,h1,h2]
 | [a,b,d],_,_,hc=>
  by_cases h1:k=c
  ·simp[d7,Builtin.Str.occurrences,Builtin.Str.subAt,strOf,List.idxOf_cons,Str.length,List.range'_succ,cond_eq_ite,h1]
  ·by_cases h2:a=c
   ·simp[d7,Builtin.Str.occurrences,Builtin.Str.subAt,strOf,List.idxOf_cons,Str.length,List.range'_succ,cond_eq_ite,h1,h2]
   ·by_cases h3:b=c
    ·simp[d7,Builtin.Str.occurrences,Builtin.Str.subAt,strOf,List.idxOf_cons,Str.length,List.range'_succ,cond_eq_ite,h1,h2,h3]
    ·obtain rfl:d=c:=by simp at hc;omega
     simp[d7,Builtin.Str.occurrences,Builtin.Str.subAt,strOf,List.idxOf_cons,Str.length,List.range'_succ,cond_eq_ite,h1,h2,h3]
 | [a,b,d,e],_,_,hc=>
  by_cases h1:k=c
  ·simp[d7,Builtin.Str.occurrences,Builtin.Str.subAt,strOf,List.idxOf_cons,Str.length,List.range'_succ,cond_eq_ite,h1]
  ·by_cases h2:a=c
   ·simp[d7,Builtin.Str.occurrences,Builtin.Str.subAt,strOf,List.idxOf_cons,Str.length,List.range'_succ,cond_eq_ite,h1,h2]
   ·by_cases h3:b=c
    ·simp[d7,Builtin.Str.occurrences,Builtin.Str.subAt,strOf,List.idxOf_cons,Str.length,List.range'_succ,cond_eq_ite,h1,h2,h3]
    ·by_cases h4:d=c
     ·simp[d7,Builtin.Str.occurrences,Builtin.Str.subAt,strOf,List.idxOf_cons,Str.length,List.range'_succ,cond_eq_ite,h1,h2,h3,h4]
     ·obtain rfl:e=c:=by simp at hc;omega
      simp[d7,Builtin.Str.occurrences,Builtin.Str.subAt,strOf,List.idxOf_cons,Str.length,List.range'_succ,cond_eq_ite,h1,h2,h3,h4]
open dh (Rn row rq ok qD Q z7 iu both iw QR Jw V5 jd cq c2 wu pR Sg vN pu xH ag xA old good gD other rs ch xJ my sg brk)
def mk1(m:List Nat):Bool:=Ay m&&(zT m&&decide (m.length<9))
theorem afe:(dh.KN.all λm=>mk1 m && !m.isEmpty)=true:=by decide +kernel
theorem aan(hL:xJ L)(h:my L ms≠[]):∀m∈ms,mk1 m=true/\m≠[]:=λm hm=>by
 obtain⟨c,hc⟩:=List.exists_mem_of_ne_nil _ h;unfold my at hc;obtain⟨r,hr,rfl⟩:=Qwk.mp hc;obtain⟨hr1,hr2⟩:=List.mem_filter.mp hr;have h1:=Qww<|Qq5.mp hr2 m hm;have h2:=Qq5.mp (hL.mks r hr1) m h1;have h3:=Qq5.mp afe m<|List.contains_iff_mem.mp h2;rw[Qq2] at h3;exact⟨h3.1,λe=>by rw[e] at h3;cases h3.2⟩
theorem Uz{p:List Nat}(hp:p.Pairwise (·< ·))(ha:a∈p)(hb:b∈p):p.idxOf a<p.idxOf b↔a<b:=by
 have la:=List.idxOf_lt_length_of_mem ha;have lb:=List.idxOf_lt_length_of_mem hb;have ea:=List.getElem_idxOf la;have eb:=List.getElem_idxOf lb;have mono:∀{i j} (hi:i<p.length) (hj:j<p.length),i<j->p[i]<p[j]:=λhi hj h=>List.pairwise_iff_getElem.mp hp _ _ hi hj h;constructor
 ·intro h;have:=mono la lb h
  rwa [ea,eb] at this
 ·intro h;refine Nat.lt_of_not_le λhle=>?_;rcases Nat.lt_or_eq_of_le hle with h1|h1
  ·have:=mono lb la h1;rw[ea,eb] at this;omega
  ·have:p[p.idxOf b]=p[p.idxOf a]:=by congr 1
   rw[ea,eb] at this;omega
def pl(p:List Nat)(z:List Nat):List Int:=z.map λc=>((p.idxOf c:Nat):Int)
theorem aeG(hp:p.Pairwise (·< ·))(hz:∀c∈z,c∈p):(pl p z).Pairwise (·< ·)↔z.Pairwise (·< ·):=by
 unfold pl;rw[List.pairwise_map];constructor
 ·intro h;exact h.imp_of_mem λ{a b} ha hb h=>(Uz hp (hz a ha)<|hz b hb).mp<|Int.ofNat_lt.mp h
 ·intro h;exact h.imp_of_mem λ{a b} ha hb h=>Int.ofNat_lt.mpr<|(Uz hp (hz a ha)<|hz b hb).mpr h
def inn(z:List Nat):List (List Nat):=il 32 ((z.drop 1).take (z.length - 2))
def sgB(x z:List Nat):Bool:=!z.isEmpty&&(z.all (λc=>decide (c∈35::x))&&decide (SI.sortI (SI.dY (pl (35::x) z))=pl (35::x) z))
def kE(L:List Rn)(z:List Nat):Option (Option (List Nat)):=
 if z=[42] then some none
 else if (decide (2<z.length)&&brk z)=true then (if ((inn z).all mk1 && !(my L (inn z)).isEmpty)=true then some (some (my L (inn z))) else none)
 else if sgB (L.map (·.1)) z=true then some (some z) else none
theorem aba(hg:good x=true)(z):sgB x z=ag x (some z):=by
 have hp:(35::x).Pairwise (·< ·):=Qw1.mpr ⟨λc hc=>by have:=dh.lU hg hc;unfold pR at this;omega,dh.Fj hg⟩;unfold sgB;show _=(!z.isEmpty&&(z.all (λc=>c == 35||x.contains c)&&iw (z.map λc=>[c])));have e1:(z.all λc=>decide (c∈35::x))=z.all λc=>c == 35||x.contains c:=by
  congr 1
  funext c
  rw[Qzv,decide_eq_true_eq,Qx8,beq_iff_eq,List.contains_iff_mem,Qq3]
 rw[e1]
 congr 1
 cases h:z.all λc=>c == 35||x.contains c with
 | false=>rfl
 | true=>
  rw[Bool.true_and,Bool.true_and,Qzv,decide_eq_true_eq,uX,RB];rw[<-e1] at h;exact aeG hp λc hc=>Qww<|Qq5.mp h c hc
theorem yI(hL:xJ L)(z):kE L z=if ag (L.map (·.1)) (sg L z)=true then some (sg L z) else none:=by
 unfold kE sg;by_cases h1:z=[42]
 ·rw[if_pos h1,if_pos h1]
  rfl
 ·rw[if_neg h1,if_neg h1];cases hb:brk z with
  | false=>
   rw[Bool.and_false];show(if sgB (L.map (·.1)) z=true then some (some z) else none)=if ag (L.map (·.1)) (some z)=true then some (some z) else none
   rw[aba hL.qP]
  | true=>
   rw[if_pos rfl];have h2:=dh.vR hb;by_cases h3:2<z.length
   ·rw[Qw2 h3];show(if ((inn z).all mk1 && !(my L<|inn z).isEmpty)=true then some (some<|my L<|inn z) else none)=if ag _ (some<|my L<|inn z)=true then some (some<|my L<|inn z) else none
    by_cases h4:my L (inn z)=[]
    ·rw[dh.FJ h4,h4];simp
    ·have e1:=Qq5.mpr λm hm=>(aan hL h4 m hm).1;have e2:(my L<|inn z).isEmpty=false:=by
      cases h:my L (inn z) with
      | nil=>exact absurd h h4
      | cons=>rfl
     rw[e1,e2,dh.Vh hL h4]
     rfl
   ·have hl:z.length=2:=by omega
    rw[Qw5 h3,Bool.false_and];have hi:inn z=[[]]:=by
     unfold inn;rw[hl]
     rfl
    have h4:my L (inn z)=[]:=Decidable.byContradiction λh=>(aan hL h [] (by rw[hi];exact Qqk ..)).2 rfl;show(if sgB (L.map (·.1)) z=true then some (some z) else none)=if ag _ (some<|my L<|inn z)=true then some (some<|my L<|inn z) else none
    rw[dh.FJ h4];refine if_neg λh=>?_;unfold brk at hb;rw[Qq2] at hb
    match z,hl,hb with
    | [a,b],_,hb=>
     have ha:a=91:=by simpa using hb.1
     unfold sgB at h;rw[Qq2,Qq2] at h;have:=Qww<|Qq5.mp h.2.1 a<|Qqk ..;rcases Qq3.mp this with e|e
     ·omega
     ·have:=dh.lU hL.qP e;unfold pR at this;omega
theorem toL(z):(strOf z).cps.toList=z:=by simp[strOf]
theorem zL(s)(w a)(cuts):∃p ps,(StrLaws.partsFrom s w a cuts).map (λs=>s.cps.toList)=p::ps:=by
 cases cuts with
 | nil=>exact⟨_,_,rfl⟩
 | cons i cs=>exact⟨_,_,rfl⟩
theorem zM:∀cuts a f,a<=x.length->StrLaws.ChainG (strOf x) (strOf sep) (strOf x).length a cuts f->
  bG sep ((StrLaws.partsFrom (strOf x) sep.length a cuts).map λs=>s.cps.toList)=x.drop a
 | [],a,f,ha,_=>by
  show(Builtin.Str.strSub (strOf x) a (strOf x).length).cps.toList=_;rw[StrLaws.strSub_toList,toL,aO];exact Qz8 (by rw[Qxz];omega)
 | i::cs,a,f,ha,h=>by
  unfold StrLaws.ChainG at h;obtain⟨h1,h2,h3,h4⟩:=h;obtain⟨b1,b2⟩:=(Ge x sep i).mp h2;rw[aO] at h4;have ih:=zM cs (i+sep.length) f b1 h4;obtain⟨p,ps,e⟩:=zL (strOf x) sep.length (i+sep.length) cs;show bG sep ((Builtin.Str.strSub (strOf x) a i).cps.toList::(StrLaws.partsFrom (strOf x) sep.length (i+sep.length) cs).map λs=>s.cps.toList)=_;rw[e] at ih ⊢;rw[bQ,ih,StrLaws.strSub_toList,toL];have e1:x.drop i=sep++x.drop (i+sep.length):=by have:=List.take_append_drop sep.length<|x.drop i;rw[b2,List.drop_drop] at this;exact this.symm
  have e2:=List.take_append_drop (i - a)<|x.drop a;rw[List.drop_drop,show a+(i - a)=i by omega,e1] at e2;rw[Qwy];exact e2
theorem pW(hs:0<sep.length)(x):bG sep (cU x sep)=x/\cU x sep≠[]:=by
 unfold cU Txt.split;obtain⟨f,h1,h2⟩:=StrLaws.occ_tight (strOf x) (strOf sep) (by rw[aO];omega);have one:bG sep ([strOf x].map λs=>s.cps.toList)=x/\([strOf x].map λs:Str=>s.cps.toList)≠[]:=⟨toL x,by simp⟩;split
 ·exact one
 ·split
  ·exact one
  ·rw[StrLaws.partsBetween_eq,aO];have:=zM _ 0 f (Qzz _) h1;refine⟨this,?_⟩;obtain⟨p,ps,e⟩:=zL (strOf x) sep.length 0<|Builtin.Str.occurrences (strOf x) (strOf sep) 0 (strOf x).length<|(strOf x).length+1;rw[e];exact List.cons_ne_nil _ _
theorem Aa(hs:0<sep.length)(hl:t.length<=100000):dB (.str t) (.str sep)=some (.lst ((cU t sep).map .str)):=by
 obtain⟨e,_⟩:=pW hs t;have hz:100001<=sizeLine:=by decide
 have h1:=sV hs<|cU t sep;have h2:=join_le sep<|cU t sep;rw[e] at h1 h2;show(if _ then some (D.lst<|(cU t sep).map .str) else none)=_;refine if_pos ⟨λz=>by rw[z] at hs;exact absurd hs (by decide),by omega,by omega,λq hq=>?_⟩;have:=h2 q hq;omega
open dh (Rn row rq ok qD Q z7 iu both iw QR Jw V5 jd cq c2 wu pR Sg vN pu xH ag xA old good gD other rs ch xJ my sg brk hw cw lw uq wj wk way hdT Qo nQ zP)
theorem wZ:∀{xs} {j},gP z xs=some j->xs=xs.take j++z::xs.drop (j+1)
 | [],j,h=>by cases h
 | a::xs,j,h=>by
  unfold gP at h;split at h
  ·rename_i e;cases h;subst e
   rfl
  ·cases hp:gP z xs with
   | none=>rw[hp] at h;cases h
   | some i=>
    rw[hp] at h;cases h;have ih:=wZ hp;show a::xs=a::(xs.take i++z::xs.drop (i+1));rw[<-ih]
theorem rR(hb:b≠[]):∀{a},a≠[]->bG [32] (a++b)=bG [32] a++32::bG [32] b
 | [],h=>absurd rfl h
 | [x],_=>by
  cases b with
  | nil=>exact absurd rfl hb
  | cons y b=>
   show bG [32] (x::y::b)=_;rw[bQ,Qwy]
   rfl
 | x::y::a,_=>by
  have ih:=rR hb (a:=y::a)<|List.cons_ne_nil _ _;show bG [32] (x::y::(a++b))=_;rw[bQ,bQ,show y::(a++b)=y::a++b from rfl,ih];simp
theorem afd:(dh.KN.all λm=>m.all λc=>decide (c≠47)&&decide (c≠95))=true:=by decide +kernel
theorem afM(hL:xJ L)(h:my L ms≠[]):∀m∈ms,∀c∈m,c≠47/\c≠95:=λm hm=>by
 obtain⟨c,hc⟩:=List.exists_mem_of_ne_nil _ h;unfold my at hc;obtain⟨r,hr,rfl⟩:=Qwk.mp hc;obtain⟨hr1,hr2⟩:=List.mem_filter.mp hr;have h1:=Qww<|Qq5.mp hr2 m hm;have h2:=Qq5.mp (hL.mks r hr1) m h1;have h3:=Qq5.mp afd m<|List.contains_iff_mem.mp h2;intro c hc;have:=Qq5.mp h3 c hc;rw[Qq2,decide_eq_true_eq,decide_eq_true_eq] at this;exact this
theorem mem_join:∀{xs},c∈bG [32] xs->c=32\/∃m∈xs,c∈m
 | [],h=>by cases h
 | [x],h=>.inr ⟨x,Qqk ..,h⟩
 | x::y::xs,h=>by
  rw[bQ] at h;rcases Qxv.mp h with h|h
  ·rcases Qxv.mp h with h|h
   ·exact .inr ⟨x,Qqk ..,h⟩
   ·exact .inl<|Qwx.mp h
  ·rcases mem_join h with h|⟨m,h1,h2⟩
   ·exact .inl h
   ·exact .inr ⟨m,Qqw _ h1,h2⟩
theorem uR(hL:xJ L)(h:ag (L.map (·.1)) (sg L z)=true):47 ∉ z/\95 ∉ z/\z≠[]:=by
 have key:(∀c∈z,c≠47/\c≠95)/\z≠[]:=by
  unfold sg at h;by_cases h1:z=[42]
  ·rw[h1];exact⟨λc hc=>by rw[Qwx.mp hc];decide,by decide⟩
  ·rw[if_neg h1] at h;cases hb:brk z with
   | true=>
    rw[hb,if_pos rfl] at h;have h2:=dh.vR hb;refine⟨?_,λe=>by rw[e] at h2;exact absurd h2 (by decide)⟩;have h4:my L (il 32<|(z.drop 1).take<|z.length - 2)≠[]:=λe=>by rw[dh.FJ e] at h;cases h
    have hk:=afM hL h4;unfold brk at hb;rw[Qq2] at hb
    match z,h2,hb with
    | a::z,h2,hb=>
     have ha:a=91:=by simpa using hb.1
     have hz:z≠[]:=λe=>by rw[e,Qq1,Qz3] at h2;omega
     have hl:z.getLast hz=93:=by
      have:=hb.2;rw[List.getLast?_cons,beq_iff_eq] at this;have h5:=Qw8 this;rw[<-h5,List.getLast?_eq_some_getLast hz]
      rfl
     have e:z=z.take (z.length - 1)++[93]:=by rw[<-hl,<-List.dropLast_eq_take,List.dropLast_concat_getLast hz]
     intro c hc;rcases Qq3.mp hc with rfl|hc
     ·rw[ha];decide
     ·rw[e] at hc;rcases Qxv.mp hc with hc|hc
      ·have hm:(a::z).length - 2=z.length - 1:=by rw[Qq1];omega
       have hj:=fP 32<|z.take<|z.length - 1;rw[<-hj] at hc;rcases mem_join hc with hc|⟨m,h6,h7⟩
       ·rw[hc];decide
       ·refine hk m ?_ c h7;rw[hm];exact h6
      ·rw[Qwx.mp hc];decide
   | false=>
    rw[hb,if_neg (by decide)] at h;obtain⟨h5,_,h6⟩:=VF hL.qP h z rfl;exact⟨λc hc=>by
     rcases h6 c hc with rfl|h7
     ·decide
     ·unfold pR at h7;omega,h5⟩
 exact⟨λh=>(key.1 47 h).1 rfl,λh=>(key.1 95 h).2 rfl,key.2⟩
open dh (Rn row rq ok qD Q z7 iu both iw QR Jw V5 jd cq c2 wu pR Sg vN pu xH ag xA old good gD other rs ch xJ my sg brk hw cw lw uq wj wk way hdT Qo nQ zP xP)
theorem adi(hL:xJ L)(h:ok L t=true):∃p0,t=p0++[32,47,32]++(lw t++[32,95,32]++uq t)/\il 32 p0=hw t::cw t/\way (hw t)=true/\rP (L.map (·.1)) (cw t)=true/\ag (L.map (·.1)) (sg L (lw t))=true/\ag (L.map (·.1)) (sg L (uq t))=true:=by
 unfold ok at h;rw[Qq2] at h;obtain⟨hb,hi⟩:=h;obtain⟨h1,h2,h3,h4⟩:=dh.Dh hi;have h1:way (hw t)=true:=h1;have h2:xH (L.map (·.1)) ((cw t).map ch)=true:=h2;have h3:ag (L.map (·.1)) (sg L<|lw t)=true:=h3;have h4:ag (L.map (·.1)) (sg L<|uq t)=true:=h4;obtain⟨_,h20,_⟩:=Gh hL.qP h2;rw[Qqj] at h20;rw[VH hL.qP] at h2;unfold both at hb;rw[Qq2,decide_eq_true_eq,decide_eq_true_eq] at hb;obtain⟨j,hj⟩:=dh.m7 hb.1;obtain⟨k,hk⟩:=dh.m7 hb.2;have ej:wj t=j:=by unfold wj;rw[hj];rfl
 have ek:wk t=k:=by unfold wk;rw[hk];rfl
 have cj:=wZ hj;have ck:=wZ hk;have ljk:=(dh.sU hk).2;have afp:=fP 32 t;have hfree:=rm 32 t;have n3:=(uR hL h3).2.2;have n4:=(uR hL h4).2.2;unfold lw at n3 h3 ⊢;unfold uq at n4 h4 ⊢;unfold cw at h20 h2 ⊢;unfold hw at h1 ⊢;rw[ej] at h20 h2;rw[ej,ek] at n3 h3;rw[ek] at n4 h4;rw[ej,ek];clear ej ek hi;generalize il 32 t=W at *;have hM:(W.drop<|j+1).take (k - (j+1))≠[]:=λe=>n3 (by rw[e];rfl);have hR:W.drop (k+1)≠[]:=λe=>n4 (by rw[e];rfl);have hjk:j+1<k:=by
  refine Nat.lt_of_not_le λhle=>hM ?_;rw[show k - (j+1)=0 by omega]
  rfl
 have hj1:1<=j:=by rw[Qx0] at h20;omega
 have e1:W.drop (j+1)=(W.drop<|j+1).take (k - (j+1))++[95]::W.drop (k+1):=by
  conv=>lhs;rw[ck]
  rw[List.drop_append_of_le_length (by rw[Qx0];omega),List.drop_take]
 obtain⟨a,W',rfl⟩:∃a W',W=a::W':=by
  cases W with
  | nil=>cases ljk
  | cons a W'=>exact⟨a,W',rfl⟩
 have e0:(a::W').take j=a::W'.take (j - 1):=by
  obtain⟨i,rfl⟩:∃i,j=i+1:=⟨j - 1,by omega⟩
  rfl
 refine⟨bG [32]<|(a::W').take j,?_,?_,h1,h2,h3,h4⟩
 ·have hne:(a::W').take j≠[]:=by rw[e0];exact List.cons_ne_nil _ _
  rw[<-afp];generalize a::W'=V at *;generalize(V.drop<|j+1).take (k - (j+1))=M at *;generalize V.drop (k+1)=R at *;generalize V.take j=P at *;rw[cj,e1,rR (List.cons_ne_nil _ _) hne];have f1:bG [32] ([47]::(M++[95]::R))=[47]++32::bG [32] (M++[95]::R):=rR (a:=[[47]]) (by simp)<|List.cons_ne_nil _ _;have f2:bG [32] ([95]::R)=[95]++32::bG [32] R:=rR (a:=[[95]]) hR<|List.cons_ne_nil _ _;rw[f1,rR (List.cons_ne_nil _ _) hM,f2];simp
 ·rw[dh.Wv (by rw[e0];exact List.cons_ne_nil _ _) λz hz=>hfree z<|List.mem_of_mem_take hz,e0]
  rfl
def hd0(p:List Nat):List Nat:=(il 32 p).headD []
def Zx(p:List Nat):List (List Nat):=(il 32 p).drop 1
def Vi(L:List Rn)(p:List Nat)(g g':Option (Option (List Nat))):Option Q:=
 if (way (hd0 p)&&rP (L.map (·.1)) (Zx p))=true then (match g,g' with
  | some g,some g'=>some ⟨hd0 p,(Zx p).map ch,g,g'⟩
  | _,_=>none) else none
def Yo(L:List Rn)(p:List Nat):List (List Nat)->Option Q
 | [s0,s1]=>Vi L p (kE L s0) (kE L s1)
 | _=>none
def Jp(L:List Rn)(t:List Nat):Option Q:=match cU t [32,47,32] with
 | [p,r]=>Yo L p (cU r [32,95,32])
 | _=>none
theorem Vs(hg:good x=true)(h:GF x w=true):nQ (wP w)=w/\wu (wP w).1/\wu (wP w).2/\47 ∉ w:=by
 obtain⟨a,b,rfl,hab,ha,hb⟩:=Rh h;obtain⟨a1,a2⟩:=Yb hg ha;obtain⟨b1,b2⟩:=Yb hg hb;have one:∀{c},(c=48\/(c∈x/\c≠48))->xP (o8 c)=[c]/\wu (o8 c)/\c≠47:=λ{c} h=>by
  rcases h with rfl|⟨h1,h2⟩
  ·exact⟨rfl,.inl rfl,by decide⟩
  ·have e:o8 c=[c]:=if_neg h2;have hl:=rM hg<|List.contains_iff_mem.mpr h1;rw[e];refine⟨rfl,.inr ⟨c,rfl,hl⟩,?_⟩;unfold pR at hl;omega
 obtain⟨c1,c2,c3⟩:=one a2;obtain⟨d1,d2,d3⟩:=one b2;refine⟨?_,c2,d2,?_⟩
 ·show xP (o8 a)++[62]++xP (o8 b)=_;rw[c1,d1]
  rfl
 ·simp only[Qq3,Qxx,Qk2,not_or];exact⟨λe=>c3 e.symm,by decide,λe=>d3 e.symm⟩
theorem k1:Builtin.Str.strKind (strOf [32,47,32])=1:=by decide +kernel
theorem k2:Builtin.Str.strKind (strOf [32,95,32])=1:=by decide +kernel
theorem Rz(hs:s≠32)(hk:Builtin.Str.strKind (strOf [32,s,32])=1)(hp:s ∉ p)(hr:s ∉ r):cU (p++[32,s,32]++r) [32,s,32]=[p,r]:=by
 have:=zb (by show 0<3;omega) hk p [r] λq hq=>by
  rcases Qq3.mp hq with rfl|hq
  ·exact zP hp λe=>hs e.symm
  ·rw[Qwx.mp hq];exact zP hr λe=>hs e.symm
 rwa [bQ] at this
theorem Rg(h:rP x ws=true):(∀w∈ws,GF x w=true)/\ws.length<=4:=by unfold rP at h;simp only[Qq2,decide_eq_true_eq] at h;exact⟨Qq5.mp h.1,h.2.2.1⟩
theorem Yn(hL:xJ L)(h:ok L t=true):Jp L t=some (rq L t):=by
 obtain⟨p,e,hs,h1,h2,h3,h4⟩:=adi hL h;obtain⟨a1,a2,_⟩:=uR hL h3;obtain⟨b1,b2,_⟩:=uR hL h4;have hw0:hd0 p=hw t:=by unfold hd0;rw[hs];rfl
 have hw1:Zx p=cw t:=by unfold Zx;rw[hs];rfl
 have hp:47 ∉ p:=λhc=>by
  rw[<-fP 32 p,hs] at hc;rcases mem_join hc with hc|⟨m,hm,hc⟩
  ·exact absurd hc (by decide)
  ·rcases Qq3.mp hm with rfl|hm
   ·unfold way at h1;rw[Qx8] at h1;rcases h1 with h1|h1
    ·rw[eq_of_beq h1] at hc;exact absurd hc (by decide)
    ·rw[eq_of_beq h1] at hc;exact absurd hc (by decide)
   ·exact(Vs hL.qP<|(Rg h2).1 m hm).2.2.2 hc
 have hr:47 ∉ lw t++[32,95,32]++uq t:=λhc=>by
  rcases Qxv.mp hc with hc|hc
  ·rcases Qxv.mp hc with hc|hc
   ·exact a1 hc
   ·exact absurd hc (by decide)
  ·exact b1 hc
 unfold Jp;have s1:cU t [32,47,32]=[p,lw t++[32,95,32]++uq t]:=by
  conv=>lhs;rw[e]
  exact Rz (by decide) k1 hp hr
 rw[s1];show Yo L p (cU (lw t++[32,95,32]++uq t) [32,95,32])=_;rw[Rz (by decide) k2 a2 b2];show Vi L p (kE L<|lw t) (kE L<|uq t)=_;rw[yI hL,yI hL,if_pos h3,if_pos h4];unfold Vi;rw[hw0,hw1,h1,h2]
 rfl
theorem Vg(hL:xJ L)(h:Jp L t=some q):ok L t=true:=by
 unfold Jp at h;split at h
 ·rename_i p r hs;obtain⟨e1,_⟩:=pW (sep:=[32,47,32]) (by show 0<3;omega) t;rw[hs] at e1;unfold Yo at h;split at h
  ·rename_i s0 s1 hr;obtain⟨e2,_⟩:=pW (sep:=[32,95,32]) (by show 0<3;omega) r;rw[hr] at e2;unfold Vi at h;split at h
   ·rename_i hc;rw[Qq2] at hc;rw[yI hL,yI hL] at h;have h3:=Decidable.byContradiction λhn=>by rw[if_neg hn] at h;cases h
    have h4:=Decidable.byContradiction λhn=>by rw[if_pos h3,if_neg hn] at h;cases h
    obtain⟨hw1,hw2⟩:=Rg hc.2;obtain⟨a,W,hp⟩:=jY 32 p;have ea:hd0 p=a:=by unfold hd0;rw[hp];rfl
    have eW:Zx p=W:=by unfold Zx;rw[hp];rfl
    rw[eW] at hc hw1 hw2;rw[ea] at hc;have hm:(W.map wP).map nQ=W:=by
     rw[Qw6]
     conv=>rhs;rw[<-List.map_id W]
     exact Qx9 λw hw=>(Vs hL.qP<|hw1 w hw).1
    have hq:Jw ⟨a,W.map wP,none,none⟩:=⟨by
     have h1:=hc.1;unfold way at h1;rw[Qx8] at h1;exact h1.imp eq_of_beq eq_of_beq,by rw[Qqj];exact hw2,λz hz=>by
      obtain⟨w,hw,rfl⟩:=Qwk.mp hz;obtain⟨_,c1,c2,_⟩:=Vs hL.qP<|hw1 w hw;exact⟨c1,c2⟩,λz e=>(by cases e),λz e=>(by cases e)⟩
    have hT:hdT ⟨a,W.map wP,none,none⟩=p:=by show bG [32] (a::(W.map wP).map nQ)=p;rw[hm,<-hp,fP]
    have h95:[95] ∉ il 32 s0:=λhm=>by
     have hj:=fP 32 s0;refine(uR hL h3).2.1 ?_;rw[<-hj];generalize il 32 s0=V at hm ⊢;clear hj
     induction V with
     | nil=>cases hm
     | cons v V ih=>
      cases V with
      | nil=>rw[<-Qwx.mp hm];exact Qqk ..
      | cons u V=>
       rw[bQ];rcases Qq3.mp hm with rfl|hm
       ·simp
       ·exact Qxq _<|ih hm
    have e3:t=hdT ⟨a,W.map wP,none,none⟩++[32,47,32]++(s0++[32,95,32]++s1):=by
     rw[hT,<-e1,<-e2]
     rfl
    obtain⟨b1,b2⟩:=dh.aa9 hq h95 e3 L;unfold ok;rw[b1,b2];unfold z7;show(true&&(way a&&(xH (L.map (·.1)) ((W.map wP).map c2)&&(ag (L.map (·.1)) (sg L s0)&&ag (L.map (·.1)) (sg L s1)))))=true;rw[<-(Ez hL.qP hw1).1,VH hL.qP,hc.1,hc.2,h3,h4]
    rfl
   ·cases h
  ·cases h
 ·cases h
theorem ac8(hL:xJ L)(t):Jp L t=if ok L t=true then some (rq L t) else none:=by
 by_cases h:ok L t=true
 ·rw[if_pos h,Yn hL h]
 ·rw[if_neg h];cases e:Jp L t with
  | none=>rfl
  | some q=>exact absurd (Vg hL e) h
open dh (Rn row rq ok qD Q z7 iu both xJ)
theorem R3:jQ=dh.jQ:=rfl
theorem TQ:dF=dh.dF:=rfl
theorem Uw:jU=dh.jU:=rfl
theorem Q7:cZ=dh.cZ:=rfl
section
variable{L:List Rn}(hL:L.length<=1000){t:List Nat}(ht:t.length<=900)
include hL ht
theorem aaJ(h:ok L t=true):cZ [.tup (L.map row),.str t]=none:=by
 unfold ok at h;rw[Qq2] at h;have hi:=dh.is_rule (dh.sounds_of hL)<|dh.R4 hL ht;rw[h.2,<-Uw] at hi;have hp:=dh.parts hL ht h.1;rw[<-TQ] at hp;have k:cP (envOf 3 [.tup (L.map row),.str t]) = .rt false (qD<|rq L t) [(Zf<|.tup<|L.map row),Zs t,(Zf<|qD<|rq L t)]:=by
  unfold cP;refine(aB (e:=[(Zf<|.tup<|L.map row),Zs t,Zn]) ?_).trans ?_
  ·rfl
  refine(aB (e:=[(Zf<|.tup<|L.map row),Zs t,(Zf<|qD<|rq L t)]) ?_).trans ?_
  ·exact bJ (aL rfl hp) rfl
  refine(aB (e:=[(Zf<|.tup<|L.map row),Zs t,(Zf<|qD<|rq L t)]) ?_).trans ?_
  ·exact(dz<|jb<|bI<|aL rfl hi).trans rfl
  ·rfl
 show Bw 3 cP _=_;unfold Bw;rw[k]
def dq(L:List Rn)(t:List Nat):D:=if ok L t=true then qD (rq L t) else .non
theorem told:nJ [.tup (L.map row),.str t]=some (dq L t):=by
 by_cases h:ok L t=true
 ·have e1:=aaJ hL ht h;have e2:=dh.read_rule hL ht h;rw[<-R3] at e2;unfold dq;rw[if_pos h];refine bW (env:=[(Zf<|.tup<|L.map row),Zs t,(Zf<|qD<|rq L t),Zn]) ?_;show nR [(Zf<|.tup<|L.map row),Zs t,Zn,Zn]=_;unfold nR;refine(aB (e:=[(Zf<|.tup<|L.map row),Zs t,Zf<|.non,Zn]) (by rfl)).trans ?_;refine(aB (e:=[(Zf<|.tup<|L.map row),Zs t,(Zf<|qD<|rq L t),Zn]) ?_).trans rfl;unfold wK;have e:qx cZ (Zv 0<|Zv 1 aj) [(Zf<|.tup<|L.map row),Zs t,Zf<|.non,Zn] = .stuck:=by
   show(match cZ [.tup (L.map row),.str t] with|some d=>R.ok d _|none=>.stuck)=_;rw[e1]
  rw[e];exact bJ (aL (ds:=[.tup (L.map row),.str t]) rfl e2) rfl
 ·have e1:=dh.Ub hL ht<|Bool.eq_false_iff.mpr h;rw[<-Q7] at e1;unfold dq;rw[if_neg h];refine bW (env:=[(Zf<|.tup<|L.map row),Zs t,Zf<|.non,Zn]) ?_;show nR [(Zf<|.tup<|L.map row),Zs t,Zn,Zn]=_;unfold nR;refine(aB (e:=[(Zf<|.tup<|L.map row),Zs t,Zf<|.non,Zn]) (by rfl)).trans ?_;refine(aB (e:=[(Zf<|.tup<|L.map row),Zs t,Zf<|.non,Zn]) ?_).trans rfl;unfold wK;have e:qx cZ (Zv 0<|Zv 1 aj) [(Zf<|.tup<|L.map row),Zs t,Zf<|.non,Zn] = .ok (.tup [.int 0]) [(Zf<|.tup<|L.map row),Zs t,Zf<|.non,Zn]:=by
   show(match cZ [.tup (L.map row),.str t] with|some d=>R.ok d _|none=>.stuck)=_;rw[e1]
  rw[e]
  rfl
end
open dh (Rn row rq ok qD Q z7 iu both xJ tU good qt)
theorem uA(hS:xJ L):gV [.tup (L.map row)]=some (.str (L.map λr:Rn=>r.1)):=by
 have h4:=rT (n:=3) (g:=gb 2<|bD (aq 1)<|bD (aq 2) gC) (e:=aP 1) (env:=[(Zf<|.tup<|L.map row)]) L row (λr=>[Zs [r.1],(Zf<|.tup<|r.2.map .str)]) (λ_=>true) (λr=>.str [r.1]) rfl rfl (λd hd=>by
  refine⟨rfl,λvs hv=>?_,rfl,λ_=>rfl⟩
  match vs,hv with
  | [_,_],_=>rfl) (Qq0 (tU hS) (by decide))
 rw[Qk0.mpr (λ_ _=>rfl)] at h4;have hj:=uJ.join_eq (L.map λr:Rn=>r.1)<|qt hS.qP;unfold gj at hj;rw[Qw6] at hj;exact bW<|bY<|aJ rfl h4 hj
def PC:List (List Nat):=[[],[32],[62],[47],[95],[42],[35],[97],[48],[91,115,116,111,112,93],[91,115,93],[98],[32,97,62,48],[97,108,111,110,103],[109],[32,32]]
theorem abT:∀p∈PC,p.length<=6:=by decide
theorem Mg:aW=uJ.aW:=rfl
abbrev EB(n:Int)(t:List Nat)(a b:OD):Ev.Env:=[Zl [.int n],Zs t,a,b]
theorem take1(n)(t)(a b)(h0:0<m)(h1:m<=1000)(hl:l (EB n t a b) = .ok [.int m] (EB n t a b)):∃d,d<m/\dR aW 0 l (EB n t a b) = .ok (.int (d:Nat)) (EB (n / m) t a b):=by obtain⟨d,hd,e⟩:=dig n m h0;refine⟨d,hd,?_⟩;rw[<-e];exact iD (by rfl) hl (by rfl) (by rw[Mg];exact uJ.oh n m (by omega) (by omega))
theorem ahs(n)(ht:t.length<=900):∃t' n',uF [.lst [.int n],.str t]=some (.str t',.lst [.int n'])/\t'.length<=t.length+6:=by
 obtain⟨i,hi,e1⟩:=take1 n t none none (m:=t.length+1) (by omega) (by omega) (l:=aa (au bM (ao cT<|aa (bj 1) aj)<|Zi 1) aj)<|aN (aJ (x:=.int (t.length:Nat)) (y:=.int 1) (by rfl) (by rfl) (by rfl)) bH;have hz:(3000:Nat)<=sizeLine:=by decide
 generalize hn1:n / ((t.length+1:Nat):Int)=n1 at e1;obtain⟨j,hj,e2⟩:=take1 n1 t (Zf<|.int (i:Nat)) (Zf<|.lst<|PC.map .str) (m:=16) (by decide) (by decide) (l:=aa (Zi 16) aj) rfl;generalize hn2:n1 / ((16:Nat):Int)=n2 at e2;obtain⟨k,hk,e3⟩:=take1 n2 t (Zf<|.int (i:Nat)) (Zf<|.lst<|PC.map .str) (m:=3) (by decide) (by decide) (l:=aa (Zi 3) aj) rfl;generalize hn3:n2 / ((3:Nat):Int)=n3 at e3;obtain⟨p,hp,e4⟩:∃p∈PC,dC (.lst<|PC.map .str) (.int (j:Nat))=some (.str p):=by
  have:((List.range 16).all λj=>match dC (.lst<|PC.map .str) (.int (j:Nat)) with|some (.str p)=>decide (p∈PC)|_=>false)=true:=by decide +kernel
  have:=Qq5.mp this j (Qx6.mpr hj);split at this
  ·rename_i p h;exact⟨p,Qww this,h⟩
  ·cases this
 have hp6:=abT p hp;have c1:(cutD t none<|some ((i:Nat):Int)).length<=i:=by rw[KX.adh,Qx0];omega
 have c2:(cutD t (some<|((i:Nat):Int)+((k:Nat):Int)) none).length<=t.length - i:=by rw[show((i:Nat):Int)+((k:Nat):Int)=((i+k:Nat):Int) by omega,KX.vM,Qxz];omega
 refine⟨cutD t none (some ((i:Nat):Int))++p++cutD t (some<|((i:Nat):Int)+((k:Nat):Int)) none,n3,jZ (env:=EB n3 t (Zf<|.int (i:Nat))<|Zf<|.lst<|PC.map .str) ?_ rfl,by rw[Qqz,Qqz];omega⟩;show uI (EB n t none none)=_;unfold uI;refine(aB (e:=EB n1 t (Zf<|.int (i:Nat)) none)<|bJ e1 (by rfl)).trans ?_;refine(aB (e:=EB n1 t (Zf<|.int (i:Nat))<|Zf<|.lst<|PC.map .str) (by rfl)).trans ?_;refine bY (aJ (aJ (e1:=EB n1 t (Zf (.int (i:Nat))) (Zf (.lst (PC.map .str)))) (dh.jq rfl rfl rfl (K3 _ _ _)) (fM (by rfl) e2 (by rfl) e4) (yM (by omega))) (dh.jq (l:=some (((i:Nat):Int)+((k:Nat):Int))) (u:=none) (e1:=EB n2 t (Zf (.int (i:Nat))) (Zf (.lst (PC.map .str)))) (e2:=EB n3 t (Zf (.int (i:Nat))) (Zf (.lst (PC.map .str)))) rfl ?_ rfl (K3 _ _ _)) (yM (by rw[Qqz];omega)));have e5:ak bM 2 (dR aW 0 (aa (Zi 3) aj)) (EB n2 t (Zf (.int (i:Nat))) (Zf (.lst (PC.map .str)))) = .ok (.int (((i:Nat):Int)+((k:Nat):Int))) (EB n3 t (Zf (.int (i:Nat))) (Zf (.lst (PC.map .str)))):=fM (by rfl) e3 (by rfl) rfl;unfold o7;rw[e5]
 rfl
open dh (Rn row rq ok qD Q z7 iu both xJ tU good qt my Jb j8)
abbrev ES(L:List Rn)(z:List Nat)(a2 a3 a4 a5 a6:OD):Ev.Env:=[(Zf (.tup (L.map row))),Zs z,a2,a3,a4,a5,a6]
section
variable{L:List Rn}{z:List Nat}{a2 a3 a4 a5 a6:OD}
theorem WM(m):Iw Ay (.str m)=some (.bl (Ay m)):=rfl
theorem WK(m):Iw zT (.str m)=some (.bl (zT m)):=rfl
theorem agR(m:List Nat):gLt (.int m.length) (.int 9)=some (.bl (decide (m.length<9))):=by
 show some (D.bl<|decide ((m.length:Int)<9))=_
 congr 3
 exact propext (by omega)
theorem lc1(ms:List (List Nat))(hm:ms.length<=1000):lB (ES L z a2 (Zf (.lst (ms.map .str))) a4 a5 a6) = .ok (.lst (ms.map λm=>.bl (mk1 m))) (ES L z a2 (Zf (.lst (ms.map .str))) a4 a5 a6):=
 nO ms D.str (λm=>.bl<|mk1 m) rfl rfl rfl (λm _=>by
  unfold mk1;refine dh.jt (j8 rfl (WM m)) λ_=>dh.jt (j8 rfl (WK m)) λ_=>?_;exact aJ rfl rfl (agR m)) (Qq0 hm (by decide))
theorem lc3(ms)(hl:L.length<=1000)(hm:ms.length<=1000):lz (ES L z a2 (Zf (.lst (ms.map .str))) a4 a5 a6) = .ok (.lst (gj (my L ms))) (ES L z a2 (Zf (.lst (ms.map .str))) a4 a5 a6):=by
 have h1:∀r:Rn,lA (ES L z a2 (Zf<|.lst<|ms.map .str) a4 a5 a6++[Zs [r.1],(Zf<|.tup<|r.2.map .str)]) = .ok (.lst<|ms.map λm=>.bl<|decide (m∈r.2)) (ES L z a2 (Zf<|.lst<|ms.map .str) a4 a5 a6++[Zs [r.1],(Zf<|.tup<|r.2.map .str)]):=λr=>
  nO ms D.str (λm=>.bl<|decide (m∈r.2)) rfl rfl rfl (λm _=>jc rfl rfl rfl (Jb m r.2)) (Qq0 hm (by decide))
 have h4:=rT (lo:=7) (n:=9) (it:=fU<|aP 0) (g:=gb 2<|bD (aq 7)<|bD (aq 8) gC) (c:=cC<|ao qw<|aa (lA) aj) (e:=aP 7) (env:=ES L z a2 (Zf<|.lst<|ms.map .str) a4 a5 a6) L row (λr=>[Zs [r.1],(Zf<|.tup<|r.2.map .str)]) (λr=>ms.all λm=>decide (m∈r.2)) (λr=>.str [r.1]) rfl rfl (λr hd=>by
  refine⟨rfl,λvs hv=>?_,?_,λ_=>rfl⟩
  ·match vs,hv with
   | [_,_],_=>rfl
  ·exact bI<|aL (aN (h1 r) bH)<|Ad _ ms) (Qq0 hl (by decide))
 unfold lz;rw[h4];unfold gj my;rw[Qw6]
 rfl
theorem lc4(y)(hz:z.length<=1000):lu (ES L z a2 a3 a4 (Zs y) a6) = .ok (.lst (z.map λc=>.bl (decide (c∈y)))) (ES L z a2 a3 a4 (Zs y) a6):=
 nO z (λc=>.str [c]) (λc=>.bl<|decide (c∈y)) rfl rfl rfl (λc _=>jc rfl rfl rfl rfl) (Qq0 hz (by decide))
theorem lc5(x)(h0:1<=x.length)(h4:x.length<=4)(hz:z.length<=1000)(hx:∀c∈z,c∈35::x):pH (ES L z a2 a3 a4 (Zs (35::x)) a6) = .ok (.lst ((pl (35::x) z).map .int)) (ES L z a2 a3 a4 (Zs (35::x)) a6):=by have:=nO (e:=au d7 (aP 5)<|bj 7) (env:=ES L z a2 a3 a4 (Zs (35::x)) a6) z (λc=>.str [c]) (λc=>.int ((35::x).idxOf c)) rfl rfl rfl (λc hc=>aJ rfl rfl (agP x h0 h4<|hx c hc)) (Qq0 hz (by decide));unfold pl;rw[Qw6];exact this
end
open dh (Rn row rq ok qD Q z7 iu both xJ tU good gF qt my Jb j8 brk gD K9 vR ou)
def oA:Option (Option (List Nat))->D
 | none=>.lst []
 | some g=>.lst [gD g]
theorem Vc(n):∀a b:List Int,tV (bu (n+1)) (a.map .int) (b.map .int)=some (a == b)
 | [],[]=>rfl
 | [],_::_=>rfl
 | _::_,[]=>rfl
 | x::a,y::b=>by
  rw[Qq7,Qq7];unfold tV;rw[Vc n a b]
  rfl
theorem ac1(a b:List Int):jF (.lst (a.map .int)) (.lst (b.map .int))=some (.bl (a == b)):=by
 unfold jF;show(tV (bu 59) (a.map .int)<|b.map .int).map D.bl=_;rw[Vc 58 a b]
 rfl
theorem T5(d)(b:Bool):U3 (.lst [d]) none (some (if b then 1 else 0))=some (.lst (if b then [d] else [])):=by cases b<;>rfl
theorem Yd(h:2<z.length):∃a b,dC (.str z) (.int 0)=some (.str [a])/\dC (.str z) (.int (-1))=some (.str [b])/\brk z=(a == 91&&b == 93):=by
 rcases List.eq_nil_or_concat z with rfl|⟨t,b,rfl⟩
 ·exact absurd h (by decide)
 ·cases t with
  | nil=>exact absurd h (by simp)
  | cons a t=>
   refine⟨a,b,?_,?_,?_⟩
   ·rw[List.concat_eq_append];show((qU ((a::t)++[b]) (0:Nat)).map λc=>D.str [c])=_;rw[qF rfl]
    rfl
   ·rw[List.concat_eq_append];show((qU ((a::t)++[b])<|-1).map λc=>D.str [c])=_;have:qU ((a::t)++[b]) (-1)=some b:=by
     unfold qU V1;rw[if_neg (by decide),if_pos (by rw[Qqz];show -((_+1:Nat):Int) <= -1;omega)];show((a::t)++[b])[_]? = _;rw[show((-1:Int)+(((a::t)++[b]).length)).toNat=(a::t).length by rw[Qqz];show((-1)+((_+1:Nat):Int)).toNat=_;omega];simp
    rw[this]
    rfl
   ·unfold brk;rw[List.concat_eq_append,List.getLast?_append];show((some a == some 91)&&(some b == some 93))=_;simp
section
variable{L:List Rn}(hS:xJ L){z:List Nat}(hz:z.length<64)
include hS hz
theorem aec:bM (.str [35]) (.str (L.map λr:Rn=>r.1))=some (.str (35::L.map λr:Rn=>r.1)):=yM (by
 have:=tU hS;rw[Qqj];exact Qq0 (show 1+L.length<=5 by omega) (by decide))
theorem side:o6 [.tup (L.map row),.str z]=some (oA (kE L z)):=by
 have hl:=tU hS;have hx:(L.map λr:Rn=>r.1).length=L.length:=Qqj ..;have hs1:=uA hS;unfold kE;by_cases h1:z=[42]
 ·rw[if_pos h1];subst h1;refine bW (env:=ES L [42] (Zs (L.map λr:Rn=>r.1)) none none none none) ?_;show jx (ES L [42] none none none none none)=_;unfold jx;refine(aB (e:=ES L [42] (Zs (L.map λr:Rn=>r.1)) none none none none)<|bJ (aL (ds:=[.tup (L.map row)]) rfl hs1) rfl).trans ?_;exact cI rfl
 rw[if_neg h1];have start:∀{o} {env} {rest},rest (ES L z (Zs (L.map λr:Rn=>r.1)) none none none none) = .rt false (oA o) env->
   aM (bz (ao gV<|Zv 0 aj)<|aq 2) (aM (eQ (cC<|ak jF 1<|Zw [42]) (bw<|cB<|aa (jr .non) aj) bU) rest) (ES L z none none none none none) = .rt false (oA o) env:=λ{o env rest} h=>by
  refine(aB (e:=ES L z (Zs (L.map λr:Rn=>r.1)) none none none none)<|bJ (aL (ds:=[.tup (L.map row)]) rfl hs1) rfl).trans ?_;refine(aB (e:=ES L z (Zs (L.map λr:Rn=>r.1)) none none none none) ?_).trans h;exact(dz<|bI<|jc (x:=.str z) (y:=.str [42]) rfl rfl rfl (iu h1)).trans rfl
 have hgt:cC (au V2 (ao cT<|aa (bj 1) aj)<|Zi 2) (ES L z (Zs (L.map λr:Rn=>r.1)) none none none none) = .ok (decide (2<z.length)) (ES L z (Zs (L.map λr:Rn=>r.1)) none none none none):=by
  refine bI<|aJ (x:=.int (z.length:Nat)) (y:=.int 2) (e1:=ES L z (Zs (L.map λr:Rn=>r.1)) none none none none) rfl rfl ?_;show some (D.bl<|decide (((z.length:Nat):Int) > 2))=_
  congr 3
  exact propext (by omega)
 have htest:iz (cC<|au V2 (ao cT<|aa (bj 1) aj)<|Zi 2) (iz (cC<|au jF (ak dC 1<|Zi 0)<|Zw [91])<|cC<|au jF (ak dC 1<|gk IW<|Zi 1)<|Zw [93]) (ES L z (Zs (L.map λr:Rn=>r.1)) none none none none) = .ok (decide (2<z.length)&&brk z) (ES L z (Zs (L.map λr:Rn=>r.1)) none none none none):=by
  unfold iz;rw[hgt];by_cases h2:2<z.length
  ·obtain⟨c,d,a1,a2,eb⟩:=Yd h2;rw[Qw2 h2,Bool.true_and,eb];have q1:cC (au jF (ak dC 1<|Zi 0)<|Zw [91]) (ES L z (Zs (L.map λr:Rn=>r.1)) none none none none) = .ok (c == 91) (ES L z (Zs (L.map λr:Rn=>r.1)) none none none none):=
    bI (aJ (x:=.str [c]) (y:=.str [91]) (e1:=ES L z (Zs (L.map λr:Rn=>r.1)) none none none none) (jc (x:=.str z) (y:=.int 0) rfl rfl rfl a1) rfl (by rw[Dk];congr 2;simp))
   have q2:cC (au jF (ak dC 1<|gk IW<|Zi 1)<|Zw [93]) (ES L z (Zs (L.map λr:Rn=>r.1)) none none none none) = .ok (d == 93) (ES L z (Zs (L.map λr:Rn=>r.1)) none none none none):=
    bI (aJ (x:=.str [d]) (y:=.str [93]) (e1:=ES L z (Zs (L.map λr:Rn=>r.1)) none none none none) (jc (x:=.str z) (y:=.int<|-1) rfl rfl rfl a2) rfl (by rw[Dk];congr 2;simp))
   show bindR (cC _ _) _=_;rw[q1];cases c == 91 with
   | false=>rfl
   | true=>exact q2
  ·rw[Qw5 h2]
   rfl
 cases e:(decide (2<z.length)&&brk z) with
 | true=>
  rw[e] at htest;rw[if_pos rfl];have hb:brk z=true:=(Qq2 .. ▸ e:_/\_).2;have hc:=K9 z<|vR hb;have hlm:((z.drop 1).take<|z.length - 2).length<=63:=by rw[Qx0,Qxz];omega
  have hs:dB (.str<|(z.drop 1).take<|z.length - 2) (.str [32])=some (.lst<|(inn z).map .str):=mV (by decide +kernel) (by omega);have hsl:(inn z).length<=64:=Qq0 (ou 32<|(z.drop 1).take (z.length - 2)) (by omega);have body:∀env',env'=ES L z (Zs (L.map λr:Rn=>r.1)) (Zf (.lst ((inn z).map .str))) none none none->True:=λ_ _=>trivial;have sp:bz (au dB (jV (aP 1) (o7 (Zi 1)) (o7 (gk IW (Zi 1)))) (Zw [32])) (aq 3) (ES L z (Zs (L.map λr:Rn=>r.1)) none none none none) = .nx (ES L z (Zs (L.map λr:Rn=>r.1)) (Zf (.lst ((inn z).map .str))) none none none):=by refine bJ (aJ (x:=.str ((z.drop 1).take (z.length - 2))) (y:=.str [32]) (e1:=ES L z (Zs (L.map λr:Rn=>r.1)) none none none none) ?_ rfl hs) rfl;refine dh.jq (d:=.str z) (l:=some 1) (u:=some (-1)) (e1:=ES L z (Zs (L.map λr:Rn=>r.1)) none none none none) (e2:=ES L z (Zs (L.map λr:Rn=>r.1)) none none none none) rfl rfl rfl ?_;rw[K3,hc]
  have ht:dX (cC (ao qw (aa (lB) aj))) (ES L z (Zs (L.map λr:Rn=>r.1)) (Zf (.lst ((inn z).map .str))) none none none) = .ok (!(inn z).all mk1) (ES L z (Zs (L.map λr:Rn=>r.1)) (Zf (.lst ((inn z).map .str))) none none none):=jb (bI (aL (aN (lc1 (inn z) (by omega)) bH) (Ad mk1 (inn z))));cases ea:(inn z).all mk1 with
  | false=>
   rw[ea] at ht;rw[Bool.false_and,if_neg Qw3];refine bW (env:=ES L z (Zs (L.map λr:Rn=>r.1)) (Zf (.lst ((inn z).map .str))) none none none) ?_;refine start (o:=none) (cI ((gw htest).trans ((aB sp).trans (cI ?_))));exact(gw ht).trans rfl
  | true=>
   rw[ea] at ht;rw[Bool.true_and];refine bW (env:=ES L z (Zs (L.map λr:Rn=>r.1)) (Zf (.lst ((inn z).map .str))) (Zf (.tup (gj (my L (inn z))))) none none) ?_;have hr:∀o,o=(if (!(my L (inn z)).isEmpty)=true then some (some (my L (inn z))) else none)->jx (ES L z none none none none none) = .rt false (oA o) (ES L z (Zs (L.map λr:Rn=>r.1)) (Zf (.lst ((inn z).map .str))) (Zf (.tup (gj (my L (inn z))))) none none):=λo ho=>by
    refine start (o:=o) (cI ((gw htest).trans ((aB sp).trans ((aB (e:=ES L z (Zs (L.map λr:Rn=>r.1)) (Zf (.lst ((inn z).map .str))) none none none) ?_).trans ((aB (e:=ES L z (Zs (L.map λr:Rn=>r.1)) (Zf (.lst ((inn z).map .str))) (Zf (.tup (gj (my L (inn z))))) none none) ?_).trans ?_)))))
    ·exact(dz ht).trans rfl
    ·exact bJ (aL (aN (lc3 (inn z) (by omega) (by omega)) bH) rfl) rfl
    ·have hn:ak qJ 4 (ig aj) (ES L z (Zs (L.map λr:Rn=>r.1)) (Zf (.lst ((inn z).map .str))) (Zf (.tup (gj (my L (inn z))))) none none) = .ok (.bl (!(my L (inn z)).isEmpty)) (ES L z (Zs (L.map λr:Rn=>r.1)) (Zf (.lst ((inn z).map .str))) (Zf (.tup (gj (my L (inn z))))) none none):=by
      refine jc (x:=.tup (gj (my L (inn z)))) (y:=.tup []) rfl rfl rfl ?_;cases my L (inn z)<;>rfl
     refine bY (dh.jq (d:=.lst [.tup (gj (my L (inn z)))]) (l:=none) (u:=some (if (!(my L (inn z)).isEmpty) then 1 else 0)) (e1:=ES L z (Zs (L.map λr:Rn=>r.1)) (Zf (.lst ((inn z).map .str))) (Zf (.tup (gj (my L (inn z))))) none none) (e2:=ES L z (Zs (L.map λr:Rn=>r.1)) (Zf (.lst ((inn z).map .str))) (Zf (.tup (gj (my L (inn z))))) none none) rfl rfl ?_ ?_)
     ·unfold o7;rw[aL (aN hn bH) (show Ac _=_ from rfl)]
      rfl
     ·rw[T5,ho];cases(!(my L (inn z)).isEmpty)<;>rfl
   exact hr _ rfl
 | false=>
  rw[e] at htest;rw[if_neg Qw3];have hx4:1<=(L.map λr:Rn=>r.1).length/\(L.map λr:Rn=>r.1).length<=4:=gF hS.qP;have hsh:=aec hS hz;unfold sgB;generalize hX:(L.map λr:Rn=>r.1)=x at hx4 start htest hsh ⊢;have hor:du (cC (ak jF 1 (Zw []))) (dX (cC (ao qw (aa (lu) aj)))) (ES L z (Zs x) none none (Zs (35::x)) none) = .ok (z.isEmpty || !(z.all λc=>decide (c∈35::x))) (ES L z (Zs x) none none (Zs (35::x)) none):=by
   have q1:cC (ak jF 1 (Zw [])) (ES L z (Zs x) none none (Zs (35::x)) none) = .ok z.isEmpty (ES L z (Zs x) none none (Zs (35::x)) none):=bI (jc (x:=.str z) (y:=.str []) rfl rfl rfl (by rw[Dk];cases z<;>rfl));have q2:=jb (bI (aL (aN (lc4 (L:=L) (z:=z) (a2:=(Zs x)) (a3:=none) (a4:=none) (a6:=none) (35::x) (by omega)) bH) (Ad (λc=>decide (c∈35::x)) z)));cases hzE:z.isEmpty with
   | true=>rw[hzE] at q1;exact jH q1
   | false=>rw[hzE] at q1;exact(cR q1).trans q2
  have pre:∀{o} {env} {rest},rest (ES L z (Zs x) none none (Zs (35::x)) none) = .rt false (oA o) env->aM (bz (au bM (Zw [35]) (bj 2)) (aq 5)) rest (ES L z (Zs x) none none none none) = .rt false (oA o) env:=λh=>
   (aB (bJ (aJ (x:=.str [35]) (y:=.str x) (e1:=ES L z (Zs x) none none none none) rfl rfl hsh) rfl)).trans h
  cases eo:(z.isEmpty || !(z.all λc=>decide (c∈35::x))) with
  | true=>
   rw[eo] at hor;have:(!z.isEmpty&&((z.all λc=>decide (c∈35::x))&&decide (SI.sortI (SI.dY (pl (35::x) z))=pl (35::x) z)))=false:=by revert eo;cases z.isEmpty<;>cases(z.all λc=>decide (c∈35::x))<;>simp
   rw[this,if_neg Qw3];refine bW (env:=ES L z (Zs x) none none (Zs (35::x)) none) ?_;refine start (o:=none) ((aB ((dz htest).trans rfl)).trans (pre (cI ((gw hor).trans rfl))))
  | false=>
   rw[eo] at hor;have h2:z.isEmpty=false/\(z.all λc=>decide (c∈35::x))=true:=by revert eo;cases z.isEmpty<;>cases(z.all λc=>decide (c∈35::x))<;>simp
   rw[h2.1,h2.2,Bool.not_false,Bool.true_and,Bool.true_and];have hin:∀c∈z,c∈35::x:=λc hc=>Qww (Qq5.mp h2.2 c hc);have hp:(pl (35::x) z).length<64:=by unfold pl;rw[Qqj];exact hz
   have l5:=lc5 (L:=L) (z:=z) (a2:=(Zs x)) (a3:=none) (a4:=none) (a6:=none) x hx4.1 hx4.2 (by omega) hin;generalize pl (35::x) z=P at hp l5 ⊢;refine bW (env:=ES L z (Zs x) none none (Zs (35::x)) (Zf (.lst (P.map .int)))) ?_;have hn:ak jF 6 (gk sZ (aP 6)) (ES L z (Zs x) none none (Zs (35::x)) (Zl (P.map .int))) = .ok (.bl (decide (SI.sortI (SI.dY P)=P))) (ES L z (Zs x) none none (Zs (35::x)) (Zf (.lst (P.map .int)))):=by
    refine fM (o:=false) (o':=true) (x:=.lst (P.map .int)) (x0:=.lst (P.map .int)) (y:=.lst ((SI.sortI (SI.dY P)).map .int)) rfl (j8 (x:=.lst (P.map .int)) rfl ?_) rfl ?_
    ·show((z9 (P.map .int)).bind _)=_;rw[Ip];exact if_pos hp
    ·rw[ac1]
     congr 2
     rw[Qzv,beq_iff_eq,decide_eq_true_eq];exact eq_comm
   have hr:∀o,o=(if decide (SI.sortI (SI.dY P)=P)=true then some (some z) else none)->jx (ES L z none none none none none) = .rt false (oA o) (ES L z (Zs x) none none (Zs (35::x)) (Zf (.lst (P.map .int)))):=λo ho=>by
    refine start (o:=o) ((aB ((dz htest).trans rfl)).trans (pre ((aB ((dz hor).trans rfl)).trans ((aB (ph (i:=6) l5)).trans ?_))));refine bY (dh.jq (d:=.lst [.tup (signs z)]) (l:=none) (u:=some (if decide (SI.sortI (SI.dY P)=P) then 1 else 0)) (e1:=ES L z (Zs x) none none (Zs (35::x)) (Zl (P.map .int))) (e2:=ES L z (Zs x) none none (Zs (35::x)) (Zl (P.map .int))) rfl rfl ?_ ?_)
    ·unfold o7;rw[aL (aN hn bH) (show Ac _=_ from rfl)]
     rfl
    ·rw[T5,ho];cases decide (SI.sortI (SI.dY P)=P)<;>rfl
   exact hr _ rfl
end
open dh (Rn row rq ok qD Q z7 iu both xJ tU good gF qt my Jb j8 gD iw)
def enc(w:List Nat):D:=.tup [.str (wP w).1,.str (wP w).2]
abbrev EC(L:List Rn)(ws:List (List Nat))(x:List Nat)(fd:List D)(a4 a5:OD):Ev.Env:=[(Zf (.tup (L.map row))),(Zf (.lst (ws.map .str))),Zs x,Zl fd,a4,a5]
abbrev EC3(L:List Rn)(ws:List (List Nat))(x:List Nat)(fd:List D)(a4 a5:OD):Ev.Env:=[(Zf (.tup (L.map row))),(Zf (.lst (ws.map .str))),Zs x,Zf (.lst fd),a4,a5]
theorem Yj(h1:g d env=some e1)(h2:b e1 = .rt o x e2):lW g b (d::ds) env = .rt o x e2:=by show(match g d env with|none=>_|some e1=>_)=_;rw[h1];show(match b e1 with|.nx e2=>_|.ct e2=>_|.bk e2=>_|.rt o d e2=>_|.stuck=>_)=_;rw[h2]
theorem Dn(h1:a env = .ok p env)(h2:b env = .ok q env):iz a b env = .ok (p&&q) env:=by
 unfold iz;rw[h1];cases p with
 | false=>rfl
 | true=>exact h2
theorem ZK(a):Ab [48] [] (.str [a])=some (.str (o8 a)):=by
 have e:xR [a] [48] []=o8 a:=by
  unfold o8;by_cases h:a=48
  ·subst h;exact Hu (a:=[48]) (p:=[]) (ps:=[[]]) (by decide) (λq hq=>by
    have:q=[]:=by simpa using hq
    subst this;exact Np.of (by decide))
  ·rw[if_neg h];exact Hu (a:=[48]) (b:=[]) (p:=[a]) (ps:=[]) (by decide) (λq hq=>by
    rw[Qwx.mp hq];exact Np.of<|λhc=>h (Qwx.mp hc).symm)
 show(if _ then some (D.str<|xR [a] [48] []) else none)=_;rw[e,if_pos];refine⟨by show 1+(1+1)*0<=16777216;decide,?_⟩;unfold o8;split
 ·decide
 ·show 1<=sizeLine;decide
section
variable{L:List Rn}{V:List (List Nat)}{x:List Nat}(hx:x.length<=4){fd:List D}(hf:fd.length<=100){a5:OD}
include hx hf
theorem T4(w):bF (EC L V x fd (Zs w) a5)=if GF x w=true then .nx (EC L V x (fd++[enc w]) (Zs w) a5) else .rt false .non (EC L V x fd (Zs w) a5):=by
 have other (h:w.length≠3) (h':GF x w=false):bF (EC L V x fd (Zs w) a5)=if GF x w=true then .nx (EC L V x (fd++[enc w]) (Zs w) a5) else .rt false .non (EC L V x fd (Zs w) a5):=by
  rw[h',if_neg Qw3];unfold bF;refine cI<|(gw<|jH<|bI<|aJ (x:=.int (w.length:Nat)) (y:=.int 3) (e1:=EC L V x fd (Zs w) a5) rfl rfl ?_).trans rfl;rw[aaf]
  congr 2
  rw[Bool.not_eq_true',Qwv];omega
 match w with
 | []=>exact other (by decide) rfl
 | [_]=>exact other (by simp) rfl
 | [_,_]=>exact other (by simp) rfl
 | _::_::_::_::_=>exact other (by simp) rfl
 | [a,g,b]=>
  clear other;have wk:GF x [a,g,b]=(g == 62&&(!(a == b)&&(decide (a∈x++[48])&&decide (b∈x++[48])))):=rfl;generalize hE:EC L V x fd (Zs [a,g,b]) a5=env;have t1:cC (au qJ (ao cT<|aa (bj 4) aj)<|Zi 3) env = .ok false env:=by rw[<-hE];rfl
  have i0:ak dC 4 (Zi 0) env = .ok (.str [a]) env:=by rw[<-hE];rfl
  have i1:ak dC 4 (Zi 1) env = .ok (.str [g]) env:=by rw[<-hE];rfl
  have i2:ak dC 4 (Zi 2) env = .ok (.str [b]) env:=by rw[<-hE];rfl
  have add:ak bM 2 (Zw [48]) env = .ok (.str<|x++[48]) env:=jc (x:=.str x) (y:=.str [48]) (by rw[<-hE];rfl) rfl (by rw[<-hE];rfl) (yM (Qq0 (show x.length+1<=5 by omega) (by decide)));have t2:cC (au qJ (ak dC 4 (Zi 1)) (Zw [62])) env = .ok (!(g == 62)) env:=bI (aJ i1 rfl (by rw[afw];congr 3;simp));have t3:cC (au jF (ak dC 4 (Zi 0)) (ak dC 4 (Zi 2))) env = .ok (a == b) env:=bI (aJ i0 i2 (by rw[Dk];congr 2;simp));have t4:cC (au gQ (ak dC 4 (Zi 0)) (ak bM 2 (Zw [48]))) env = .ok (!decide (a∈x++[48])) env:=bI (aJ i0 add (dh.M4 a _));have t5:cC (au gQ (ak dC 4 (Zi 2)) (ak bM 2 (Zw [48]))) env = .ok (!decide (b∈x++[48])) env:=bI (aJ i2 add (dh.M4 b _));have Vz (h:(!(g == 62)||(a == b))=true):bF env = .rt false .non env:=by
   refine cI ((gw (e:=env) ((cR t1).trans ?_)).trans rfl);cases e:(g == 62) with
   | false=>rw[e] at t2;exact jH t2
   | true=>
    rw[e] at t2 h;rw[Bool.not_true,Bool.false_or] at h;rw[h] at t3;exact(cR t2).trans t3
  have go (h:(!(g == 62)||(a == b))=false):eQ (du (cC (au qJ (ao cT (aa (bj 4) aj)) (Zi 3))) (du (cC (au qJ (ak dC 4 (Zi 1)) (Zw [62]))) (cC (au jF (ak dC 4 (Zi 0)) (ak dC 4 (Zi 2)))))) (bw (jr .non)) bU env = .nx env:=by rw[Bool.or_eq_false_iff] at h;rw[h.1] at t2;rw[h.2] at t3;exact(dz ((cR t1).trans ((cR t2).trans t3))).trans rfl
  have bad2 (h:(!(g == 62)||(a == b))=false) (h2:(!decide (a∈x++[48]) || !decide (b∈x++[48]))=true):bF env = .rt false .non env:=by
   refine(aB (go h)).trans (cI ((gw (e:=env) ?_).trans rfl));cases e:decide (a∈x++[48]) with
   | false=>rw[e] at t4;exact jH t4
   | true=>
    rw[e] at t4 h2;rw[Bool.not_true,Bool.false_or] at h2;rw[h2] at t5;exact(cR t4).trans t5
  have fine (h:(!(g == 62)||(a == b))=false) (h2:(!decide (a∈x++[48]) || !decide (b∈x++[48]))=false):bF env = .nx (EC L V x (fd++[enc [a,g,b]]) (Zs [a,g,b]) a5):=by
   rw[Bool.or_eq_false_iff] at h2;rw[h2.1] at t4;rw[h2.2] at t5;refine(aB (go h)).trans ((aB ((dz ((cR t4).trans t5)).trans rfl)).trans ?_);have:=uJ.za (i:=3) (a:=ig (aa (gk (Ab [48] []) (ak dC 4 (Zi 0))) (aa (gk (Ab [48] []) (ak dC 4 (Zi 2))) aj))) (env:=env) (e:=env) (d:=enc [a,g,b]) (xs:=fd) (x0:=fd) (by rw[<-hE];rfl) (nM (aN (j8 i0 (ZK a)) (aN (j8 i2 (ZK b)) bH)) Ev.zz2) (by rw[<-hE];rfl) (Qz0 hf (by decide));rw[this,<-hE]
   rfl
  rw[wk];revert Vz bad2 fine;cases g == 62<;>cases a == b<;>cases decide (a∈x++[48])<;>cases decide (b∈x++[48])<;>intro Vz bad2 fine<;>first|exact Vz rfl|exact bad2 rfl rfl|exact fine rfl rfl
end
theorem GC{V:List (List Nat)}(hx:x.length<=4):∀(ws:List (List Nat)) fd a4,fd.length+ws.length<=100->
  (ws.all (GF x)=true->∃v4,lW (aq 4) bF (ws.map .str) (EC L V x fd a4 a5) = .nx (EC L V x (fd++ws.map enc) v4 a5))/\(ws.all (GF x)=false->∃env,lW (aq 4) bF (ws.map .str) (EC L V x fd a4 a5) = .rt false .non env)
 | [],fd,a4,_=>⟨λ_=>⟨a4,by rw[Qk8,Qk8,Qx4];rfl⟩,λh=>(by cases h)⟩
 | w::ws,fd,a4,hl=>by
  rw[Qq1] at hl;have h1:=T4 (L:=L) (V:=V) (x:=x) hx (fd:=fd) (by omega) (a5:=a5) w;rw[Qq7,List.all_cons];cases e:GF x w with
  | false=>
   rw[e,if_neg Qw3] at h1;rw[Bool.false_and];exact⟨λh=>(by cases h),λ_=>⟨_,Yj rfl h1⟩⟩
  | true=>
   rw[e,if_pos rfl] at h1;rw[Bool.true_and];obtain⟨i1,i2⟩:=GC (L:=L) (V:=V) hx (a5:=a5) ws (fd++[enc w]) (Zs w) (by rw[Qqz];show fd.length+1+_<=_;omega);refine⟨λh=>?_,λh=>?_⟩
   ·obtain⟨v4,k⟩:=i1 h;refine⟨v4,(dh.Nu rfl h1).trans ?_⟩;rw[k,Qwy]
    rfl
   ·obtain⟨env,k⟩:=i2 h;exact⟨env,(dh.Nu rfl h1).trans k⟩
def Q0(x:List Nat)(ws:List (List Nat)):D:=if rP x ws=true then .tup (ws.map enc) else .non
theorem ag9(m)(ws:List (List Nat)):Bh (.str m) (.lst (ws.map .str))=some (.bl (decide (m∈ws))):=by
 show(Fv (.str m)<|.lst<|ws.map .str).or _=_;have:Fv (.str m) (.lst<|ws.map .str)=some (.bl<|decide (m∈ws)):=by
  show(Ff (.str m)<|ws.map .str).map D.bl=_;rw[dh.vB]
  rfl
 rw[this]
 rfl
theorem U5(a b:List (List Nat)):qJ (.lst (a.map .str)) (.lst (b.map .str))=some (.bl (!(a == b))):=by
 have h:=U6 a b;unfold jF at h;unfold qJ;cases e:bu 60 (.lst<|a.map .str) (.lst<|b.map .str) with
 | none=>rw[e] at h;cases h
 | some c=>
  rw[e] at h;cases h
  rfl
theorem La(hS:xJ L)(hw:ws.length<=64):iZ [.tup (L.map row),.lst (ws.map .str)]=some (Q0 (L.map λr:Rn=>r.1) ws):=by
 have hs1:=uA hS;have hx:(L.map λr:Rn=>r.1).length<=4:=(gF hS.qP).2;generalize(L.map λr:Rn=>r.1)=x at hs1 hx ⊢;obtain⟨y1,y2⟩:=GC (L:=L) (V:=ws) hx (a5:=none) ws [] none (by show 0+_<=_;omega);have pre:∀{o:D} {env:Ev.Env} {rest:cu},aM (jX (fU (aP 1)) (aq 4) (bF)) rest (EC L ws x [] none none) = .rt false o env->
   aM (bz (ao gV (Zv 0 aj)) (aq 2)) (aM (jh 3 (cB aj)) (aM (jX (fU (aP 1)) (aq 4) (bF)) rest)) [(Zf (.tup (L.map row))),(Zf (.lst (ws.map .str))),Zn,Zn,Zn,Zn] = .rt false o env:=λh=>by
  refine(aB (e:=[(Zf (.tup (L.map row))),(Zf (.lst (ws.map .str))),Zs x,Zn,Zn,Zn]) (bJ (aL (ds:=[.tup (L.map row)]) rfl hs1) rfl)).trans ?_;exact(aB (e:=EC L ws x [] none none) rfl).trans h
 have afr:∀{r:Out},lW (aq 4) bF (ws.map .str) (EC L ws x [] none none)=r->jX (fU (aP 1)) (aq 4) (bF) (EC L ws x [] none none)=r:=λh=>(lO (ds:=ws.map .str) rfl).trans h;unfold Q0;cases e:ws.all (GF x) with
 | false=>
  obtain⟨env,k⟩:=y2 e;have:rP x ws=false:=by unfold rP;rw[e];rfl
  rw[this,if_neg Qw3];exact bW (env:=env) (pre (cI (afr k)))
 | true=>
  obtain⟨v4,k⟩:=y1 e;rw[Qk6] at k;have hlc:jj (EC L ws x (ws.map enc) v4 none) = .ok (.lst ((eZ ws).map .str)) (EC3 L ws x (ws.map enc) v4 none):=by
   have h4:=rT (lo:=6) (n:=8) (it:=fU (aP 3)) (g:=gb 2 (bD (aq 6) (bD (aq 7) gC))) (c:=cL) (e:=aP 6) (env:=EC L ws x (ws.map enc) v4 none) (aD:=EC3 L ws x (ws.map enc) v4 none) ws enc (λw=>[(Zs ((wP w).1)),(Zs ((wP w).2))]) (λ_=>true) (λw=>.str (wP w).1) rfl rfl (λd hd=>by
    refine⟨rfl,λvs hv=>?_,rfl,λ_=>rfl⟩
    match vs,hv with
    | [_,_],_=>rfl) (Qq0 hw (by decide))
   rw[Qk0.mpr (λ_ _=>rfl)] at h4;unfold jj eZ;rw[h4,Qw6]
   rfl
  have q1 (b:Bool):cC (ak jF 3 (cB aj)) (EC3 L ws x (ws.map enc) v4 (some (b,.lst ((eZ ws).map .str)))) = .ok ws.isEmpty (EC3 L ws x (ws.map enc) v4 (some (b,.lst ((eZ ws).map .str)))):=by refine bI (jc (x:=.lst (ws.map enc)) (y:=.lst []) rfl rfl rfl ?_);cases ws<;>rfl
  have len (b:Bool) (n:Nat):cC (au V2 (ao cT (aa (bj 3) aj)) (jr (.int (n:Nat)))) (EC3 L ws x (ws.map enc) v4 (some (b,.lst ((eZ ws).map .str)))) = .ok (decide (n<ws.length)) (EC3 L ws x (ws.map enc) v4 (some (b,.lst ((eZ ws).map .str)))):=by
   refine bI (aJ (x:=.int (ws.length:Nat)) (y:=.int (n:Nat)) (e1:=EC3 L ws x (ws.map enc) v4 (some (b,.lst ((eZ ws).map .str)))) ?_ rfl ?_)
   ·show R.ok (D.int ((ws.map enc).length:Nat)) _=_;rw[Qqj]
   ·show some (D.bl (decide (((ws.length:Nat):Int) > ((n:Nat):Int))))=_
    congr 3
    exact propext (by omega)
  have q3:ws.length<=4->cC (ak qJ 5 (gk jo (aP 5))) (EC3 L ws x (ws.map enc) v4 (Zl ((eZ ws).map .str))) = .ok (!iw (eZ ws)) (EC3 L ws x (ws.map enc) v4 (Zf (.lst ((eZ ws).map .str)))):=λh4=>by
   refine bI (fM (o:=false) (o':=true) (x:=.lst ((eZ ws).map .str)) (x0:=.lst ((eZ ws).map .str)) (y:=.lst ((dH (SX.n8 (eZ ws))).map .str)) rfl (j8 (x:=.lst ((eZ ws).map .str)) rfl (IV ?_ ?_)) rfl ?_)
   ·unfold eZ;rw[Qqj];omega
   ·intro z hz;obtain⟨w,_,rfl⟩:=Qwk.mp hz;have:(wP w).1.length<=1:=by
     unfold wP;split
     ·show(o8 _).length<=1;unfold o8;split
      ·decide
      ·exact Qqy 1
     ·decide
    omega
   ·rw[U5]
    congr 3
    rw[Qzv,beq_iff_eq,<-Ww];exact eq_comm
  have q4:cC (au Bh (Zw []) (bj 5)) (EC3 L ws x (ws.map enc) v4 (Zf (.lst ((eZ ws).map .str)))) = .ok (decide ([]∈eZ ws)) (EC3 L ws x (ws.map enc) v4 (Zf (.lst ((eZ ws).map .str)))):=bI (aJ (x:=.str []) (y:=.lst ((eZ ws).map .str)) (e1:=EC3 L ws x (ws.map enc) v4 (Zf (.lst ((eZ ws).map .str)))) rfl rfl (ag9 [] _));have q5:=Dn q4 (len false 1);obtain⟨b,test⟩:∃b,du (cC (ak jF 3 (cB aj))) (du (cC (au V2 (ao cT (aa (bj 3) aj)) (Zi 4))) (du (cC (ak qJ 5 (gk jo (aP 5)))) (iz (cC (au Bh (Zw []) (bj 5))) (cC (au V2 (ao cT (aa (bj 3) aj)) (Zi 1)))))) (EC3 L ws x (ws.map enc) v4 (Zl ((eZ ws).map .str))) = .ok (!rP x ws) (EC3 L ws x (ws.map enc) v4 (some (b,.lst ((eZ ws).map .str)))):=by
   have q1:=q1 true;unfold rP;rw[e,Bool.true_and];cases e1:ws.isEmpty with
   | true=>rw[e1] at q1;exact⟨true,jH q1⟩
   | false=>
    rw[e1] at q1;have l4:=len true 4;by_cases h4:ws.length<=4
    ·rw[Qw5 (by omega)] at l4;rw[Qw2 h4,Bool.not_false,Bool.true_and,Bool.true_and,Bool.not_and,Bool.not_not];have q3:=q3 h4;refine⟨false,(cR q1).trans ((cR l4).trans ?_)⟩;cases e3:iw (eZ ws) with
     | false=>rw[e3] at q3;exact jH q3
     | true=>rw[e3] at q3;exact(cR q3).trans q5
    ·rw[Qw2 (by omega)] at l4;rw[Qw5 h4];exact⟨true,(cR q1).trans (jH l4)⟩
  refine bW (env:=EC3 L ws x (ws.map enc) v4 (some (b,.lst ((eZ ws).map .str)))) (pre ((aB (afr k)).trans ((aB (ph (i:=5) hlc)).trans ?_)));cases el:rP x ws with
  | false=>
   rw[el] at test;exact cI ((gw test).trans rfl)
  | true=>
   rw[el] at test;exact(aB ((dz test).trans rfl)).trans rfl
open dh (Rn row rq ok qD Q z7 iu both xJ tU good gF my j8 gD iw way ou cD c2)
abbrev ED(L:List Rn)(t:List Nat)(a2 a3 a4 a5:OD):Ev.Env:=[(Zf (.tup (L.map row))),Zs t,a2,a3,a4,a5]
def dD:Option Q->D
 | none=>.non
 | some q=>qD q
theorem cDs(hg:good x=true)(h:rP x ws=true):(ws.map dh.ch).map cD=ws.map enc:=by rw[X6 hg h,Qw6,Qw6];exact Qx9 λw _=>rfl
theorem Ma(h:cU t [32,s,32]=[p,r]):p.length+3+r.length=t.length:=by
 obtain⟨e,_⟩:=pW (sep:=[32,s,32]) (by show 0<3;omega) t;rw[h,bQ] at e;rw[<-e];show _=(p++[32,s,32]++r).length;rw[Qqz,Qqz]
 rfl
theorem M3{l:List (List Nat)}(hn:∀p r,l=[p,r]->False):l.length≠2:=λh=>by
 match l,h with
 | [p,r],_=>exact hn p r rfl
theorem Rm(ds:List D)(h:ds.length≠2):qJ (.int ds.length) (.int 2)=some (.bl true):=by
 rw[aaf]
 congr 2
 rw[Bool.not_eq_true',Qwv];omega
section
variable{L:List Rn}(hS:xJ L){t:List Nat}(ht:t.length<64)
include hS ht
theorem due:jT [.tup (L.map row),.str t]=some (dD (Jp L t)):=by
 have hs:=Aa (sep:=[32,47,32]) (by show 0<3;omega) (t:=t) (by omega);have pre:∀{o:D} {env:Ev.Env} {rest:cu},rest (ED L t (Zf (.lst ((cU t [32,47,32]).map .str))) none none none) = .rt false o env->aM (bz (au dB (aP 1) (Zw [32,47,32])) (aq 2)) rest (ED L t none none none none) = .rt false o env:=λh=>
  (aB (bJ (aJ (x:=.str t) (y:=.str [32,47,32]) (e1:=ED L t none none none none) rfl rfl hs) rfl)).trans h
 unfold Jp;have bad (h:(cU t [32,47,32]).length≠2):jT [.tup (L.map row),.str t]=some .non:=by refine bW (env:=ED L t (Zf (.lst ((cU t [32,47,32]).map .str))) none none none) (pre (cI ((gw (jH (bI (aJ (x:=.int (((cU t [32,47,32]).map D.str).length:Nat)) (y:=.int 2) (e1:=ED L t (Zf (.lst ((cU t [32,47,32]).map .str))) none none none) rfl rfl (Rm _ (by rw[Qqj];exact h)))))).trans rfl)))
 split
 case h_2 hn=>exact bad (M3 hn)
 case h_1 p r hpr=>
 clear bad;have hl:=Ma hpr;rw[hpr] at hs pre;have hr:=Aa (sep:=[32,95,32]) (by show 0<3;omega) (t:=r) (by omega);generalize hE:ED L t (Zf (.lst ([p,r].map .str))) none none none=env at pre;have i0:ak dC 2 (Zi 0) env = .ok (.str p) env:=by rw[<-hE];rfl
 have i1:ak dC 2 (Zi 1) env = .ok (.str r) env:=by rw[<-hE];rfl
 have t1:cC (au qJ (ao cT (aa (bj 2) aj)) (Zi 2)) env = .ok false env:=by rw[<-hE];rfl
 have s1:au dB (ak dC 2 (Zi 1)) (Zw [32,95,32]) env = .ok (.lst ((cU r [32,95,32]).map .str)) env:=aJ i1 rfl hr;have n1:ao cT (aa (au dB (ak dC 2 (Zi 1)) (Zw [32,95,32])) aj) env = .ok (.int (((cU r [32,95,32]).map D.str).length:Nat)) env:=aL (aN s1 bH) rfl;unfold Yo;have bad (h:(cU r [32,95,32]).length≠2):jT [.tup (L.map row),.str t]=some .non:=
  bW (env:=env) (pre (cI ((gw ((cR t1).trans (bI (aJ n1 rfl (Rm _ (by rw[Qqj];exact h)))))).trans rfl)))
 split
 case h_2 hn=>exact bad (M3 hn)
 case h_1 s0 s1' hss=>
 clear bad;have hl2:=Ma hss;rw[hss] at s1 n1;have hsp:dB (.str p) (.str [32])=some (.lst ((il 32 p).map .str)):=mV (by decide +kernel) (by omega);obtain⟨a,W,hp⟩:=jY 32 p;have ea:hd0 p=a:=by unfold hd0;rw[hp];rfl
 have eW:Zx p=W:=by unfold Zx;rw[hp];rfl
 have hpl:=ou 32 p;rw[hp] at hsp hpl;rw[Qq1] at hpl;unfold Vi;rw[ea,eW];have hc:=La hS (ws:=W) (by omega);have hg:=hS.qP;have v0:=side hS (z:=s0) (by omega);have v1:=side hS (z:=s1') (by omega)
 -- the steps
 have g1:eQ (du (cC (au qJ (ao cT (aa (bj 2) aj)) (Zi 2))) (cC (au qJ (ao cT (aa (au dB (ak dC 2 (Zi 1)) (Zw [32,95,32])) aj)) (Zi 2)))) (bw (jr .non)) bU env = .nx env:=
  (dz ((cR t1).trans (bI (aJ n1 rfl rfl)))).trans rfl
 have g2:bz (au dB (ak dC 2 (Zi 0)) (Zw [32])) (aq 3) env = .nx (ED L t (Zf (.lst ([p,r].map .str))) (Zf (.lst ((a::W).map .str))) none none):=by rw[<-hE] at i0 ⊢;exact bJ (aJ i0 rfl hsp) rfl
 have g3:bz (ao iZ (Zv 0 (aa (jV (aP 3) (o7 (Zi 1)) pL) aj))) (aq 4) (ED L t (Zf (.lst ([p,r].map .str))) (Zf (.lst ((a::W).map .str))) none none) = .nx (ED L t (Zf (.lst ([p,r].map .str))) (Zf (.lst ((a::W).map .str))) (Zf (Q0 (L.map λr:Rn=>r.1) W)) none):=by
  refine bJ (aL (ds:=[.tup (L.map row),.lst (W.map .str)]) (aN (e1:=ED L t (Zf (.lst ([p,r].map .str))) (Zf (.lst ((a::W).map .str))) none none) rfl (aN (dh.jq (d:=.lst ((a::W).map .str)) (l:=some 1) (u:=none) (e1:=ED L t (Zf (.lst ([p,r].map .str))) (Zf (.lst ((a::W).map .str))) none none) (e2:=ED L t (Zf (.lst ([p,r].map .str))) (Zf (.lst ((a::W).map .str))) none none) rfl rfl rfl ?_) bH)) hc) rfl;show some (D.lst (cutD ((a::W).map D.str) (some ((1:Nat):Int)) none))=_;rw[KX.vM]
  rfl
 have g4:vm (ED L t (Zf (.lst ([p,r].map .str))) (Zf (.lst ((a::W).map .str))) (Zf (Q0 (L.map λr:Rn=>r.1) W)) none) = .ok (.lst [oA (kE L s0),oA (kE L s1')]) (ED L t (Zf (.lst ([p,r].map .str))) (Zf (.lst ((a::W).map .str))) (Zf (Q0 (L.map λr:Rn=>r.1) W)) none):=by
  refine nO (lo:=6) (n:=7) (aD:=ED L t (Zf (.lst ([p,r].map .str))) (Zf (.lst ((a::W).map .str))) (Zf (Q0 (L.map λr:Rn=>r.1) W)) none) [s0,s1'] D.str (λs=>oA (kE L s)) ?_ rfl rfl (λs hs=>?_) Ev.zz2
  ·refine vL (aJ (x:=.str r) (y:=.str [32,95,32]) (e1:=ED L t (Zf (.lst ([p,r].map .str))) (Zf (.lst ((a::W).map .str))) (Zf (Q0 (L.map λr:Rn=>r.1) W)) none) rfl rfl hr) ?_;rw[hss]
   rfl
  ·refine aL (ds:=[.tup (L.map row),.str s]) rfl ?_;rcases Qq3.mp hs with rfl|hs
   ·exact v0
   ·rw[Qwx.mp hs];exact v1
 generalize hF:ED L t (Zf (.lst ([p,r].map .str))) (Zf (.lst ((a::W).map .str))) (Zf (Q0 (L.map λr:Rn=>r.1) W)) (Zl [oA (kE L s0),oA (kE L s1')])=F;have all:∀{o:D} {env':Ev.Env},aM (eQ (du (cC (au gQ (ak dC 3 (Zi 0)) (cB (aa (Zw [111,110,99,101]) (aa (Zw [97,108,111,110,103]) aj))))) (du (cC (ak QZ 4 (jr .non))) (cC (au Bh (cB aj) (bj 5))))) (bw (jr .non)) bU) (bw (ig (aa (ak dC 3 (Zi 0)) (Zv 4 (aa (au dC (ak dC 5 (Zi 0)) (Zi 0)) (aa (au dC (ak dC 5 (Zi 1)) (Zi 0)) aj)))))) F = .rt false o env'->jT [.tup (L.map row),.str t]=some o:=λ{o env'} h=>
  bW (env:=env') (pre ((aB g1).trans ((aB g2).trans ((aB g3).trans ((aB ((ph (i:=5) g4).trans (Qjq Out.nx hF))).trans h)))))
 have i3:ak dC 3 (Zi 0) F = .ok (.str a) F:=jc (x:=.lst ((a::W).map .str)) (y:=.int 0) (by rw[<-hF];rfl) rfl (by rw[<-hF];rfl) (qF (j:=0) rfl);have f1:cC (au gQ (ak dC 3 (Zi 0)) (cB (aa (Zw [111,110,99,101]) (aa (Zw [97,108,111,110,103]) aj)))) F = .ok (!way a) F:=by
  refine bI (aJ (x:=.str a) (y:=.lst ([[111,110,99,101],[97,108,111,110,103]].map .str)) (e1:=F) i3 rfl ?_);rw[dh.vg]
  congr 3
  unfold way;rw[Qzv];simp
 have bad {c:Bool} (hc:c=true) (f:du (cC (au gQ (ak dC 3 (Zi 0)) (cB (aa (Zw [111,110,99,101]) (aa (Zw [97,108,111,110,103]) aj))))) (du (cC (ak QZ 4 (jr .non))) (cC (au Bh (cB aj) (bj 5)))) F = .ok c F):jT [.tup (L.map row),.str t]=some .non:=by rw[hc] at f;exact all (env':=F) (cI ((gw f).trans rfl))
 cases e1:way a with
 | false=>
  rw[e1] at f1;rw[Bool.false_and,if_neg Qw3];exact bad rfl (jH f1)
 | true=>
  rw[e1] at f1;rw[Bool.true_and];cases e2:rP (L.map λr:Rn=>r.1) W with
  | false=>
   rw[if_neg Qw3];refine bad rfl ((cR f1).trans (jH (bI (jc (x:=.non) (y:=.non) ?_ rfl ?_ rfl))))
   ·rw[<-hF];unfold Q0;rw[e2];rfl
   ·rw[<-hF];unfold Q0;rw[e2];rfl
  | true=>
   rw[if_pos rfl];have hch:Q0 (L.map λr:Rn=>r.1) W = .tup (W.map enc):=by unfold Q0;rw[e2];rfl
   have f2:cC (ak QZ 4 (jr .non)) F = .ok false F:=bI (jc (x:=.tup (W.map enc)) (y:=.non) (by rw[<-hF,hch];rfl) rfl (by rw[<-hF,hch];rfl) rfl);have f3:∀{c:Bool},Bh (.lst []) (.lst [oA (kE L s0),oA (kE L s1')])=some (.bl c)->du (cC (au gQ (ak dC 3 (Zi 0)) (cB (aa (Zw [111,110,99,101]) (aa (Zw [97,108,111,110,103]) aj))))) (du (cC (ak QZ 4 (jr .non))) (cC (au Bh (cB aj) (bj 5)))) F = .ok c F:=λh=>
    (cR f1).trans ((cR f2).trans (bI (aJ (x:=.lst []) (e1:=F) rfl (by rw[<-hF];rfl) h)))
   cases e3:kE L s0 with
   | none=>exact bad rfl (f3 (by rw[e3];rcases kE L s1' with _|(_|_)<;>rfl))
   | some g=>
    cases e4:kE L s1' with
    | none=>exact bad rfl (f3 (by rw[e3,e4];cases g<;>rfl))
    | some g'=>
     refine all (env':=F) ((aB ((dz (f3 (c:=false) ?_)).trans rfl)).trans ?_)
     ·rw[e3,e4];cases g<;>cases g'<;>rfl
     ·refine bY (e:=F) (nM (ds:=[.str a,.tup (W.map enc),gD g,gD g']) ?_ Ev.zz4) |>.trans ?_
      ·refine aN i3 ?_;rw[<-hF,hch,e3,e4]
       rfl
      ·show _=Out.rt false (qD ⟨a,W.map dh.ch,g,g'⟩) F;unfold qD;rw[cDs hg e2]
end
open dh (Rn row rq ok qD Q QR jd cq Vm z7 V5 xJ good txt Rj hdT Qo nQ xP wu wM pX w_is Jw)
theorem Xq:lG=uJ.lG:=rfl
theorem Rx:jR=dh.jR:=rfl
theorem WN:lF=dh.lF:=rfl
theorem Wn:fL=dh.fL:=rfl
theorem Wx:iT=dh.iT:=rfl
theorem Il{w:List Nat}:∀(ps:List (List Nat)),(∀p∈ps,p.length=3)->(bG [32] (w::ps)).length=w.length+4*ps.length
 | [],_=>by simp[bG]
 | p::ps,h=>by
  have:=Il (w:=p) ps λq hq=>h q (Qqw _ hq);rw[bQ,Qqz,Qqz,this,h p (Qqk ..),Qq1];show w.length+1+(3+4*ps.length)=w.length+4*(ps.length+1);omega
theorem Ml{z:List Nat}(h:wu z):(xP z).length=1:=by rcases h with rfl|⟨c,rfl,_⟩<;>rfl
theorem ZC{q:QR}(h:Jw q):(txt q).length<=37:=by
 have h1:(hdT q).length=q.w.length+4*q.ps.length:=by
  have:=Il (w:=q.w) (q.ps.map nQ) λp hp=>by
   obtain⟨c,hc,rfl⟩:=Qwk.mp hp;unfold nQ;rw[Qqz,Qqz,Ml (h.p c hc).1,Ml (h.p c hc).2]
   rfl
  rw[Qqj] at this;exact this
 rw[dh.Rk];simp only[Qqz,Qq1,Qz3];have:=(w_is h.w).1;have:=(pX h.l).1;have:=(pX h.r).1;have:=h.n;omega
theorem okQ(n:Nat)(q:Q):okN (n+4) (qD q)=true:=by
 have h1:okN (n+3) (.tup (q.cs.map dh.cD))=true:=by show(q.cs.map dh.cD).all (okN (n+2))=true;refine Qq5.mpr λd hd=>?_;obtain⟨c,_,rfl⟩:=Qwk.mp hd;show(c.map dh.oD).all (okN (n+1))=true;refine Qq5.mpr λd hd=>?_;obtain⟨o,_,rfl⟩:=Qwk.mp hd;cases o<;>rfl
 have hG:∀g,okN (n+3) (dh.gD g)=true:=λg=>by
  cases g with
  | none=>rfl
  | some z=>
   show(gj z).all (okN (n+2))=true;refine Qq5.mpr λd hd=>?_;obtain⟨c,_,rfl⟩:=Qwk.mp hd
   rfl
 show [D.str q.w,.tup (q.cs.map dh.cD),dh.gD q.l,dh.gD q.r].all (okN (n+3))=true;rw[List.all_cons,List.all_cons,List.all_cons,List.all_cons,h1,hG,hG]
 rfl
theorem afy(L:List Rn)(t:List Nat):qJ (dq L t) (dq L t)=some (.bl false):=by
 have:okN 60 (dq L t)=true:=by
  unfold dq;split
  ·exact okQ 56 _
  ·rfl
 unfold qJ;rw[Ah 60 _ this]
 rfl
abbrev EL(S:D)(a1:OD)(n:Int)(L:List Rn)(t:List Nat)(a5 a6 a7 a8:OD):Ev.Env:=[Zf S,a1,Zl [.int n],(Zf (.tup (L.map row))),Zs t,a5,a6,a7,a8]
section
variable{S:D}{a1:OD}{L:List Rn}(hS:xJ L){t:List Nat}
include hS
theorem ac9{z:List Nat}(hz:z.length<64):jT [.tup (L.map row),.str z]=some (dq L z):=by rw[due hS hz,ac8 hS];unfold dq;split<;>rfl
omit hS in
theorem YK(n:Int)(a5 a7 a8:OD){z:List Nat}(hz:z.length<=900):∃z' n',zW (EL S a1 n L t a5 (Zs z) a7 a8) = .nx (EL S a1 n' L t a5 (Zs z') a7 a8)/\z'.length<=z.length+6:=by obtain⟨z',n',h,hl⟩:=ahs n hz;exact⟨z',n',bJ (iD (ds:=[.str z]) (x:=.lst [.int n]) (x0:=.lst [.int n]) (e1:=EL S a1 n L t a5 (Zs z) a7 a8) rfl rfl rfl h) rfl,hl⟩
theorem turn(ht:t.length<=37)(n:Int)(a5 a6 a7 a8:OD):∃n' b6 b7 b8,vp (EL S a1 n L t a5 a6 a7 a8) = .nx (EL S a1 n' L t a5 b6 b7 b8):=by
 obtain⟨d,hd,e⟩:=dig n 2 (by decide);have htk:=uJ.oh n 2 (by decide) (by decide);rw[e,<-Mg] at htk;generalize hn:n / ((2:Nat):Int)=n1 at htk;obtain⟨ds,hr,hdl⟩:∃ds,tK [.int (1+(d:Int))]=some ds/\ds.length<=2:=by
  have:d=0\/d=1:=by omega
  rcases this with rfl|rfl
  ·exact⟨[.int 0],rfl,by decide⟩
  ·exact⟨[.int 0,.int 1],rfl,by decide⟩
 obtain⟨e',f1,z,n2,v7,rfl,hz⟩:=xD (g:=aq 7) (b:=zW) ds (λdone env=>∃z n v7,env=EL S a1 n L t a5 (Zs z) v7 a8/\z.length<=37+6*done.length)
  (λdone d rest hall env ⟨z,n,v7,he,hl⟩=>by
   subst he;have hdone:done.length<=2:=by rw[hall,Qqz] at hdl;omega
   obtain⟨z',n',h,hl'⟩:=YK (S:=S) (a1:=a1) (L:=L) (t:=t) n a5 (Zf d) a8 (z:=z) (by omega);exact⟨_,_,rfl,h,z',n',_,rfl,by rw[Qqz];show _<=37+6*(done.length+1);omega⟩)
  (EL S a1 n1 L t a5 (Zs t) a7 a8) ⟨t,n1,a7,rfl,by show _<=37+6*0;omega⟩
 have hz:z.length<64:=by omega
 have ahg:=ac9 hS hz;have afn:=told (L:=L) (by have:=dh.tU hS;omega) (t:=z) (by omega);have hne:=afy L z;generalize hE:EL S a1 n2 L t a5 (Zs z) v7 (Zf (dq L z))=env;refine⟨n2,Zs z,v7,Zf (dq L z),?_⟩;rw[hE];unfold vp;refine(aB (e:=EL S a1 n L t a5 (Zs t) a7 a8) rfl).trans ?_;refine(aB (e:=EL S a1 n2 L t a5 (Zs z) v7 a8) ?_).trans ?_
 ·refine(lO (ds:=ds) (e:=EL S a1 n1 L t a5 (Zs t) a7 a8) ?_).trans f1;refine dh.K5 (ds:=[.int (1+(d:Int))]) (aN (aJ (x:=.int 1) (y:=.int (d:Nat)) (e1:=EL S a1 n L t a5 (Zs t) a7 a8) rfl (iD (ds:=[.int 2]) (x:=.lst [.int n]) (x0:=.lst [.int n]) (e1:=EL S a1 n L t a5 (Zs t) a7 a8) rfl rfl rfl htk) rfl) rfl) hr
 refine(aB (e:=env) ?_).trans ?_
 ·rw[<-hE];exact bJ (aL (ds:=[.tup (L.map row),.str z]) rfl ahg) rfl
 have r8:bj 8 env = .ok (dq L z) env:=by rw[<-hE];rfl
 refine(aB (e:=env) ?_).trans ?_
 ·exact(dz (bI (aJ (aL (ds:=[.tup (L.map row),.str z]) (by rw[<-hE];rfl) afn) r8 hne))).trans rfl
 by_cases ho:ok L z=true
 ·have hd:dq L z=qD (rq L z):=by unfold dq;rw[if_pos ho]
  have hi:z7 (L.map (·.1)) (rq L z)=true:=by unfold ok at ho;rw[Qq2] at ho;exact ho.2
  obtain⟨q,hq,eq⟩:=abj hS.qP hi;obtain⟨b,e1⟩:=Rj hq.o L;have hok:ok L (txt q)=true:=by
   unfold ok;rw[b,e1,hq.i]
   rfl
  have h37:=ZC hq.o;have hsh:=dh.show_rule hq.o;rw[Vm,<-eq,<-hd,<-Wx] at hsh;have ht2:=told (L:=L) (by have:=dh.tU hS;omega) (t:=txt q) (by omega);have hd2:dq L (txt q)=dq L z:=by rw[hd];unfold dq;rw[if_pos hok,e1,eq]
  rw[hd2] at ht2;have c1:cC (ak xC 8 (jr .non)) env = .ok true env:=by refine bI (jc (x:=qD (rq L z)) (y:=.non) (by rw[<-hE,hd];rfl) rfl (by rw[<-hE,hd];rfl) rfl)
  have c2:cC (au qJ (ao nJ (Zv 3 (aa (ao iT (Zv 8 aj)) aj))) (bj 8)) env = .ok false env:=by refine bI (aJ (aL (ds:=[.tup (L.map row),.str (txt q)]) (aN (e1:=env) (by rw[<-hE];rfl) (aN (aL (ds:=[dq L z]) (by rw[<-hE];rfl) hsh) bH)) ht2) r8 hne)
  exact(dz (Dn c1 c2)).trans rfl
 ·have hd:dq L z = .non:=by unfold dq;rw[if_neg ho]
  have c1:cC (ak xC 8 (jr .non)) env = .ok false env:=by refine bI (jc (x:=.non) (y:=.non) (by rw[<-hE,hd];rfl) rfl (by rw[<-hE,hd];rfl) rfl)
  refine(dz (e:=env) ?_).trans rfl;unfold iz;rw[c1]
  rfl
end
abbrev EW(S:D)(a1 a2 a3 a4 a5 a6 a7 a8:OD):Ev.Env:=[Zf S,a1,a2,a3,a4,a5,a6,a7,a8]
theorem Uq(ns:List Int)(hl:ns.length<=63)(hb:Lx ns)(k:Int)(h0:0<=k)(h1:k<=400)(b2 b3 b4 b5 b6 b7 b8:OD) :
  ∃c2 c3 c4 c5 c6 c7 c8,vo (EW (.arr (ns.map .int)) (Zf (.int k)) b2 b3 b4 b5 b6 b7 b8) = .nx (EW (.arr (ns.map .int)) (Zf (.int k)) c2 c3 c4 c5 c6 c7 c8):=by
 obtain⟨p,hp⟩:=uJ.pack ns hl hb k h0 (by omega);obtain⟨L,n,hS,hst⟩:=dh.stock p;obtain⟨q,n1,hq,hR⟩:=dh.rule n _ hS.qP;have htx:=dh.BP hR.o;have h37:=ZC hR.o;rw[<-Rx] at hst;rw[<-WN] at hq;rw[<-Wn] at htx;generalize D.arr (ns.map .int)=S at hp ⊢;obtain⟨e',f1,n2,v5,v6,v7,v8,rfl⟩:=Af (g:=aq 5) (b:=vp) (λenv=>∃n v5 v6 v7 v8,env=EL S (Zf (.int k)) n L (txt q) v5 v6 v7 v8) ((List.range 6).map λ(i:Nat)=>D.int (i:Nat))
  (λd hd env ⟨n,v5,v6,v7,v8,he⟩=>by
   subst he;obtain⟨n',w6,w7,w8,h⟩:=turn (S:=S) (a1:=(Zf (.int k))) hS h37 n (Zf d) v6 v7 v8;exact⟨_,_,rfl,h,_,_,_,_,_,rfl⟩)
  (EL S (Zf (.int k)) n1 L (txt q) b5 b6 b7 b8) ⟨_,_,_,_,_,rfl⟩
 refine⟨(Zl [.int n2]),(Zf (.tup (L.map row))),Zs (txt q),v5,v6,v7,v8,?_⟩;unfold vo;refine(aB (e:=EW S (Zf (.int k)) (Zl [.int p]) b3 b4 b5 b6 b7 b8) ?_).trans ?_
 ·exact ph (i:=2) (aL (ds:=[S,.int k]) (e:=EW S (Zf (.int k)) b2 b3 b4 b5 b6 b7 b8) rfl (by rw[Xq];exact hp))
 refine(aB (e:=EW S (Zf (.int k)) (Zl [.int n]) (Zf (.tup (L.map row))) b4 b5 b6 b7 b8) ?_).trans ?_
 ·exact bJ (iD (e1:=EW S (Zf (.int k)) (Zl [.int p]) b3 b4 b5 b6 b7 b8) rfl rfl rfl hst) rfl
 refine(aB (e:=EL S (Zf (.int k)) n1 L (txt q) b5 b6 b7 b8) ?_).trans ?_
 ·refine bJ (aL (ds:=[jd q]) (aN (iD (ds:=[.str (L.map λr:Rn=>r.1)]) (x:=.lst [.int n]) (x0:=.lst [.int n]) (e1:=EW S (Zf (.int k)) (Zl [.int n]) (Zf (.tup (L.map row))) b4 b5 b6 b7 b8) rfl (aN (aL (ds:=[.tup (L.map row)]) rfl (uA hS)) rfl) rfl hq) bH) htx) rfl
 exact(lO (ds:=(List.range 6).map λ(i:Nat)=>D.int (i:Nat)) rfl).trans f1
theorem Rp(ns:List Int)(hl:ns.length<=63)(hb:Lx ns):Nx [.arr (ns.map .int)]=some (.bl true):=by
 have hlen:ao cT (aa (bj 0) aj) (EW (.arr (ns.map .int)) none none none none none none none none) = .ok (.int (ns.length:Int)) (EW (.arr (ns.map .int)) none none none none none none none none):=by show R.ok (D.int ((ns.map D.int).length:Int)) _=_;rw[Qqj]
 obtain⟨ds,hds,hk⟩:∃ds,gJ (aa (Zi 0) (aa (ao Qu (aa (Zi 1) (aa (ao Qt (aa (ao cT (aa (bj 0) aj)) (aa (Zi 16) aj))) aj))) (aa (Zi 2) aj))) (EW (.arr (ns.map .int)) none none none none none none none none) = .ok ds (EW (.arr (ns.map .int)) none none none none none none none none)/\∀d∈ds,∃k:Int,d = .int k/\0<=k/\k<=400:=by
  generalize hE:EW (.arr (ns.map .int)) none none none none none none none none=env at hlen ⊢;have a1:aa (Zi 0) (aa (ao Qu (aa (Zi 1) (aa (ao Qt (aa (ao cT (aa (bj 0) aj)) (aa (Zi 16) aj))) aj))) (aa (Zi 2) aj)) env = .ok [.int 0,.int (if (if (16:Int)<ns.length then 16 else (ns.length:Int)) > 1 then (if (16:Int)<ns.length then 16 else (ns.length:Int)) else 1),.int 2] env:=
   aN (d:=.int 0) (by rfl) (aN (aL (ds:=[.int 1,.int (if (16:Int)<ns.length then 16 else (ns.length:Int))]) (aN (d:=.int 1) (by rfl) (aN (aL (ds:=[.int (ns.length:Int),.int 16]) (aN hlen (by rfl)) (by rfl)) bH)) (by rfl)) (by rfl))
  generalize hm:(if (if (16:Int)<ns.length then 16 else (ns.length:Int)) > 1 then (if (16:Int)<ns.length then 16 else (ns.length:Int)) else 1)=m at a1;have hm1:1<=m/\m<=16:=by rw[<-hm];split<;>split<;>omega
  obtain⟨j,rfl⟩:∃j:Nat,m=(j:Int):=⟨m.toNat,by omega⟩;obtain⟨ds,h1,h2⟩:=dh.abk (j:=j) (by omega);exact⟨ds,dh.K5 a1 h1,h2⟩
 obtain⟨e',f1,c1,c2,c3,c4,c5,c6,c7,c8,rfl⟩:=Af (g:=aq 1) (b:=vo) (λenv=>∃c1 c2 c3 c4 c5 c6 c7 c8,env=EW (.arr (ns.map .int)) c1 c2 c3 c4 c5 c6 c7 c8) ds
  (λd hd env ⟨c1,c2,c3,c4,c5,c6,c7,c8,he⟩=>by
   subst he;obtain⟨k,rfl,h0,h1⟩:=hk d hd;obtain⟨x2,x3,x4,x5,x6,x7,x8,hb⟩:=Uq ns hl hb k h0 h1 c2 c3 c4 c5 c6 c7 c8;exact⟨_,_,rfl,hb,_,_,_,_,_,_,_,_,rfl⟩)
  (EW (.arr (ns.map .int)) none none none none none none none none) ⟨_,_,_,_,_,_,_,_,rfl⟩
 generalize D.arr (ns.map .int)=S at hds f1 ⊢;exact bW (env:=EW S c1 c2 c3 c4 c5 c6 c7 c8) ((aB ((lO hds).trans f1)).trans rfl)
open PySem PySem.Spec PyProof.Rows L2 Ev
theorem Ga{K:Fg}{h:Heap}{mg:Str->Option Value}{x t qual:Str}{st:Stmt}{c S fI:Addr}(F:XG K x t qual st c S fI)(X:K.In h)(G:h.Ns mainGlobals mg)(ty:PySem.W.typeIn K (.ref c)=some (.type "type"))(sub:PySem.W.mroIn K c (.ref c)=some true):Below K mg x x (V3 K x):=by rw[Vn F.nm];exact⟨⟨c,PySem.W.mg_of X G F.nm,F.cl,ty,sub⟩,F.nm⟩
theorem Q8{K:Fg}{cW QL xi:Addr}{aaK x_q:Str}{x_N:Addr}{aaW Q9:List Value}{aaF:List Str}{aaY:Bool}{Rf:Option Bool}{aaU:Option Addr}{aaS aaR aaQ aaP aaO:Option Value}{aaI aaN Rb aaG Gz aaV:Value}{aaH aaX:Option Addr}{Ra:Array (Option Value)}(ni:PySem.W.nsIn K mainGlobals "NoText" = some (some (.ref cW)))(xo:K.lookup cW=some (excClassObj aaK x_q cW x_N aaW (.ref QL::XC.YJ) true aaF Q9 aaY Rf aaU aaS aaR aaQ aaP aaO "ValueError.__new__"))(xsa:PySem.W.findIn K (.ref cW) "__setattr__" = some (some (.builtin "object.__setattr__")))(xno:PySem.W.findIn K (.ref cW) "part" = some none)(xu:PySem.W.excIn K QL [.type "ValueError",.type "Exception",.type "BaseException",.type "object"] "ValueError.__new__" = true)(xin:PySem.W.findIn K (.ref cW) "__init__" = some (some (.ref xi)))(xty:PySem.W.typeIn K (.ref xi)=some (.type "function"))(xfn:K.lookup xi=some ⟨aaI,aaH,.func (PySem.W.fnOf "__init__" "NoText.__init__" (gm rG) (cH rG) (aG rG) .none aaN Rb aaG aaX Gz aaV),Ra⟩)(xcd:PySem.W.codeIn K Gz "NoText.__init__" = true)(xkp:PySem.W.keepIn K (.ref xi)=true)(kO:XC.Cl K cW):XG K "NoText" "part" "NoText.__init__" rG cW QL xi:=
 ⟨ni,⟨_,_,_,_,_,_,_,_,_,_,_,_,_,_,xo⟩,kO,xsa,xno,xu,xin,xty,⟨_,_,_,_,_,_,_,_,_,xfn,xcd⟩,xkp⟩
theorem all_mk{P:Program}{w:World}{K:Fg}{h:Heap}{mg:Str->Option Value}{fa:Addr}(X:K.In h)(G:h.Ns mainGlobals mg)(hfa:mg "law" = some (.ref fa))
  {cW QL:Addr} {xi:Addr} {aaK x_q:Str} {x_N:Addr} {aaW Q9:List Value} {aaF:List Str} {aaY:Bool} {Rf:Option Bool} {aaU:Option Addr} {aaS aaR aaQ aaP aaO:Option Value} {aaI aaN Rb aaG Gz aaV:Value} {aaH aaX:Option Addr} {Ra:Array (Option Value)} {J4:Tok} {aa2:Tok} {J3:Tok} {Nm:Addr} {Yg:Nat} {UT:Array (Option Value)} {UL UJ:Tok}
  (Zq:PySem.W.nsIn K mainGlobals "all" = some none) (Gw:PySem.W.nsIn K mainGlobals "divmod" = some none) (Zo:PySem.W.nsIn K mainGlobals "int" = some none) (uK:PySem.W.nsIn K mainGlobals "isinstance" = some none) (Zm:PySem.W.nsIn K mainGlobals "len" = some none) (Q6:PySem.W.nsIn K mainGlobals "list" = some none) (Zk:PySem.W.nsIn K mainGlobals "max" = some none) (Zj:PySem.W.nsIn K mainGlobals "min" = some none) (Lz:PySem.W.nsIn K mainGlobals "range" = some none) (Zh:PySem.W.nsIn K mainGlobals "set" = some none) (Gv:PySem.W.nsIn K mainGlobals "sorted" = some none) (Zg:PySem.W.nsIn K mainGlobals "str" = some none) (Ly:PySem.W.nsIn K mainGlobals "tuple" = some none) (sW:∀d:D,PySem.W.kitOne K (.type (Wl d)) (.type "str")=some (vz d "str")) (jP:∀d:D,PySem.W.kitOne K (.type (Wl d)) (.type "tuple")=some (vz d "tuple")) (ni:PySem.W.nsIn K mainGlobals "NoText" = some (some (.ref cW))) (xo:K.lookup cW=some (excClassObj aaK x_q cW x_N aaW (.ref QL::XC.YJ) true aaF Q9 aaY Rf aaU aaS aaR aaQ aaP aaO "ValueError.__new__")) (xsa:PySem.W.findIn K (.ref cW) "__setattr__" = some (some (.builtin "object.__setattr__"))) (xno:PySem.W.findIn K (.ref cW) "part" = some none) (xu:PySem.W.excIn K QL [.type "ValueError",.type "Exception",.type "BaseException",.type "object"] "ValueError.__new__" = true) (xin:PySem.W.findIn K (.ref cW) "__init__" = some (some (.ref xi))) (xty:PySem.W.typeIn K (.ref xi)=some (.type "function")) (xfn:K.lookup xi=some ⟨aaI,aaH,.func (PySem.W.fnOf "__init__" "NoText.__init__" (gm rG) (cH rG) (aG rG) .none aaN Rb aaG aaX Gz aaV),Ra⟩) (xcd:PySem.W.codeIn K Gz "NoText.__init__" = true) (xkp:PySem.W.keepIn K (.ref xi)=true) (kO:XC.Cl K cW) (wy:PySem.W.typeIn K (.ref cW)=some (.type "type")) (wA:PySem.W.mroIn K cW (.ref cW)=some true) (uC:PySem.W.nsIn K mainGlobals "ALL_FITS" = some (some (.str "*" J4))) (K1:PySem.W.nsIn K mainGlobals "EDGE" = some (some (.str "#" aa2))) (uB:PySem.W.nsIn K mainGlobals "NO_SOUND" = some (some (.str "0" J3))) (KZ:PySem.W.nsIn K mainGlobals "WAYS" = some (some (.ref Nm))) (mH:K.lookup Nm=some ⟨.type "tuple",none,.seq #[.str "once" UL,.str "along" UJ] Yg,UT⟩) (Oi:FA K "rises" Ej) (Dw:FA K "is_pair" wW) (yd:FA K "sounds_of" rn) (ye:FA K "sounds_by" rz) (qL:FA K "changes_sound" mj) (tW:FA K "puts_one_in" oW) (t6:FA K "are_changes" oZ) (yo:FA K "are_signs" rJ) (Dv:FA K "is_rule" wV) (yh:FA K "need_text" rC) (vU:FA K "show_sound" pY) (vV:FA K "show_signs" pZ) (yf:FA K "show_rule" rA) (vW:FA K "read_sound" p6) (vX:FA K "read_signs" p7) (vY:FA K "read_parts" p8) (yg:FA K "read_rule" rB) (ym:FA K "_law_mixed" rF) (Bd:FA K "_law_pack" um) (Bb:FA K "_law_take" ug) (nT:FA K "_law_drawn_sounds" jL) (yj:FA K "_law_stock" rD) (vZ:FA K "_law_sounds" qb) (yl:FA K "_law_signs" rE) (tZ:FA K "_law_changes" oY) (Bc:FA K "_law_rule" uh) (pP:FA K "_law_signs_text" kY) (qK:FA K "_law_rule_text" lZ) (Be:FA K "_law_bent" uo) (tY:FA K "_law_side_of" oX) (pQ:FA K "_law_changes_of" kZ) (Du:FA K "_law_due" wU) (Ba:FA K "_law_told" uf) (aat:FA K "law" RW) :
  ∃fd:FuncData,(∀(s:Shared) (v:Value),BindsTo s fd ⟨[v],[]⟩ [("_law_script",v)])/\∀base:Heap,K.In base->base.Ns mainGlobals mg->n6 P w K mg base Cp 7 fa fd ["_law_script"] (qT K 1 Nx):=
 aat.law X G hfa (λs v=>.of_eq rfl) λbase F=>ac4 ⟨xq X G Zq,
  xq X G Gw,
  xq X G Zo,
  xq X G uK,
  xq X G Zm,
  xq X G Q6,
  xq X G Zk,
  xq X G Zj,
  xq X G Lz,
  xq X G Zh,
  xq X G Gv,
  xq X G Zg,
  xq X G Ly,
  sW,
  jP,
  XG.raises (Q8 ni xo xsa xno xu xin xty xfn xcd xkp kO) X G (fun|[_,_],_=>rfl) WD rfl,
  XG.part (Q8 ni xo xsa xno xu xin xty xfn xcd xkp kO),
  Ga (Q8 ni xo xsa xno xu xin xty xfn xcd xkp kO) X G wy wA,
  Fo X G uC (by decide +kernel) (by decide),
  Fo X G K1 (by decide +kernel) (by decide),
  Fo X G uB (by decide +kernel) (by decide),
  UW X G KZ mH (.str (by decide +kernel) (by decide)) (.str (by decide +kernel) (by decide)),
  Oi.at X G (fun|[_],_=>rfl),
  Dw.at X G (fun|[_],_=>rfl),
  yd.at X G (fun|[_],_=>rfl),
  ye.at X G (fun|[_,_],_=>rfl),
  qL.at X G (fun|[_,_],_=>rfl),
  tW.at X G (fun|[_,_],_=>rfl),
  t6.at X G (fun|[_,_],_=>rfl),
  yo.at X G (fun|[_,_],_=>rfl),
  Dv.at X G (fun|[_,_],_=>rfl),
  yh.at X G (fun|[_],_=>rfl),
  vU.at X G (fun|[_],_=>rfl),
  vV.at X G (fun|[_],_=>rfl),
  yf.at X G (fun|[_],_=>rfl),
  vW.at X G (fun|[_],_=>rfl),
  vX.at X G (fun|[_,_],_=>rfl),
  vY.at X G (fun|[_,_],_=>rfl),
  yg.at X G (fun|[_,_],_=>rfl),
  ym.at X G (fun|[_],_=>rfl),
  Bd.at X G (fun|[_,_],_=>rfl),
  Bb.at X G (fun|[_,_],_=>rfl),
  nT.at X G (fun|[_],_=>rfl),
  yj.at X G (fun|[_],_=>rfl),
  vZ.at X G (fun|[_],_=>rfl),
  yl.at X G (fun|[_,_],_=>rfl),
  tZ.at X G (fun|[_,_],_=>rfl),
  Bc.at X G (fun|[_,_],_=>rfl),
  pP.at X G (fun|[_],_=>rfl),
  qK.at X G (fun|[_],_=>rfl),
  Be.at X G (fun|[_,_],_=>rfl),
  tY.at X G (fun|[_,_],_=>rfl),
  pQ.at X G (fun|[_,_],_=>rfl),
  Du.at X G (fun|[_,_],_=>rfl),
  Ba.at X G (fun|[_,_],_=>rfl)⟩ F
end gH
theorem PySem.W.Fast.tw18357405987847173061:True:=trivial
theorem PySem.W.Fast.tw17774328738741286529:True:=trivial
theorem PySem.W.Fast.tw5932545270371376960:True:=trivial
theorem PySem.W.Fast.tw16314427616303222798:True:=trivial
theorem PySem.W.Fast.tw13144885547808454961:True:=trivial
theorem PySem.W.Fast.tw17626539006745310166:True:=trivial
theorem PySem.W.Fast.tw278603511640186730:True:=trivial
theorem PySem.W.Fast.tw4454000470300749930:True:=trivial
theorem PySem.W.Fast.tw10781170672340664392:True:=trivial
theorem PySem.W.Fast.tw14592701185761847250:True:=trivial
theorem PySem.W.Fast.tw2553672255439037433:True:=trivial
theorem PySem.W.Fast.tw1121558057607481412:True:=trivial
theorem PySem.W.Fast.tw5908237134411557154:True:=trivial
theorem PySem.W.Fast.tw17386304855574163186:True:=trivial
theorem PySem.W.Fast.tw1479177020973132821:True:=trivial
theorem PySem.W.Fast.tw1760383062880417599:True:=trivial
theorem PySem.W.Fast.tw6179516722762100655:True:=trivial
theorem PySem.W.Fast.tw140421377093021941:True:=trivial
theorem PySem.W.Fast.tw8561555711199442735:True:=trivial
theorem PySem.W.Fast.tw2238457500568940978:True:=trivial
theorem PySem.W.Fast.tw17751551484736945022:True:=trivial
theorem PySem.W.Fast.tw9102574863541353732:True:=trivial
theorem PySem.W.Fast.tw3905476363928472477:True:=trivial
theorem PySem.W.Fast.tw11038638636839398737:True:=trivial
theorem PySem.W.Fast.tw12105889297430090820:True:=trivial
theorem PySem.W.Fast.tw9531888881779898626:True:=trivial
theorem PySem.W.Fast.tw2018607893581392464:True:=trivial
theorem PySem.W.Fast.tw6455989955084553913:True:=trivial
theorem PySem.W.Fast.tw14685810166015707785:True:=trivial
theorem PySem.W.Fast.tw12607984494374559153:True:=trivial
theorem PySem.W.Fast.tw17968060737619106002:True:=trivial
theorem PySem.W.Fast.tw10650230647363223574:True:=trivial
theorem PySem.W.Fast.tw15610758675876972159:True:=trivial
theorem PySem.W.Fast.tw7011278313356585603:True:=trivial
theorem PySem.W.Fast.tw3539858681850423551:True:=trivial
theorem PySem.W.Fast.tw2799853751769541422:True:=trivial
theorem PySem.W.Fast.tw11646117010749879562:True:=trivial
theorem PySem.W.Fast.tw15283087087798173848:True:=trivial
theorem PySem.W.Fast.tw16203686542304076219:True:=trivial
theorem PySem.W.Fast.tw1158729898857258819:True:=trivial
theorem PySem.W.Fast.tw3283196919208213431:True:=trivial
theorem PySem.W.Fast.tw10710247338111287811:True:=trivial
theorem PySem.W.Fast.tw16379824263208518411:True:=trivial
theorem PySem.W.Fast.tw4873438258290261080:True:=trivial
open PySem PySem.W PyProof.Rows
set_option maxRecDepth 100000 in
set_option maxHeartbeats 0 in
theorem PySem.Challenge.cw_soundrules_k75_whole_texts_of_rules_holds : PySem.Challenge.rw_soundrules_k75_whole_texts_of_rules.Holds := by
 w_on;o_law;k_head;(case hw=>w_witness2)
 k_fill
 refine Ev.adY (l:=PySem.Challenge.rw_soundrules_k75_whole_texts_of_rules) (k:=7) (x:="_law_script") (f:=gH.Nx) rfl (by decide) rfl ⟨rfl,by decide,by decide⟩ (λw h Y=>PySem.W.kIn_of Y) gH.Rp ?F
 case F=>
  intro w mg fa h KX G hmg
  refine' gH.all_mk KX G hmg ?Zq ?Gw ?Zo ?uK ?Zm ?Q6 ?Zk ?Zj ?Lz ?Zh ?Gv ?Zg ?Ly ?sW ?jP ?ni ?xo ?xsa ?xno ?xu ?xin ?xty ?xfn ?xcd ?xkp ?kO ?wy ?wA ?uC ?K1 ?uB ?KZ ?mH ?Oi ?Dw ?yd ?ye ?qL ?tW ?t6 ?yo ?Dv ?yh ?vU ?vV ?yf ?vW ?vX ?vY ?yg ?ym ?Bd ?Bb ?nT ?yj ?vZ ?yl ?tZ ?Bc ?pP ?qK ?Be ?tY ?pQ ?Du ?Ba ?aat
  (case sW=>(intro d;cases d with|clo=>(show PySem.W.kitOne _ (.type "NoneType") (.type "str")=some false;kit_is)|non=>(show PySem.W.kitOne _ (.type "NoneType") (.type "str")=some false;kit_is)|bl=>(show PySem.W.kitOne _ (.type "bool") (.type "str")=some false;kit_is)|int=>(show PySem.W.kitOne _ (.type "int") (.type "str")=some false;kit_is)|str=>(show PySem.W.kitOne _ (.type "str") (.type "str")=some true;kit_is)|tup=>(show PySem.W.kitOne _ (.type "tuple") (.type "str")=some false;kit_is)|lst=>(show PySem.W.kitOne _ (.type "list") (.type "str")=some false;kit_is)|arr=>(show PySem.W.kitOne _ (.type "list") (.type "str")=some false;kit_is)|dct=>(show PySem.W.kitOne _ (.type "dict") (.type "str")=some false;kit_is)|mZ=>(show PySem.W.kitOne _ (.type "dict") (.type "str")=some false;kit_is)))
  (case jP=>(intro d;cases d with|clo=>(show PySem.W.kitOne _ (.type "NoneType") (.type "tuple")=some false;kit_is)|non=>(show PySem.W.kitOne _ (.type "NoneType") (.type "tuple")=some false;kit_is)|bl=>(show PySem.W.kitOne _ (.type "bool") (.type "tuple")=some false;kit_is)|int=>(show PySem.W.kitOne _ (.type "int") (.type "tuple")=some false;kit_is)|str=>(show PySem.W.kitOne _ (.type "str") (.type "tuple")=some false;kit_is)|tup=>(show PySem.W.kitOne _ (.type "tuple") (.type "tuple")=some true;kit_is)|lst=>(show PySem.W.kitOne _ (.type "list") (.type "tuple")=some false;kit_is)|arr=>(show PySem.W.kitOne _ (.type "list") (.type "tuple")=some false;kit_is)|dct=>(show PySem.W.kitOne _ (.type "dict") (.type "tuple")=some false;kit_is)|mZ=>(show PySem.W.kitOne _ (.type "dict") (.type "tuple")=some false;kit_is)))
  (case ni=>k_is)
  (case xo=>k_is)
  (case xsa=>k_is)
  (case xno=>k_is)
  (case xu=>k_exc)
  (case xin=>k_is)
  (case xty=>k_is)
  (case xfn=>k_is)
  (case xcd=>k_is)
  (case xkp=>k_is)
  (case kO=>(refine' XC.Cl.mk ?afu ?aft ?afJ ?aeU ?afO<;>k_is))
  (case wy=>k_is)
  (case wA=>k_is)
  (case uC=>k_is)
  (case K1=>k_is)
  (case uB=>k_is)
  (case KZ=>k_is)
  (case mH=>k_is)
  all_goals first|k_is|(refine' Ev.FA.mk ?a ?l ?c ?k;(case a=>k_is);(case l=>k_is);(case c=>k_is);(case k=>k_is))|(refine' Ev.FC.mk ?a ?l ?c ?k ?lc ?v;(case a=>k_is);(case l=>k_is);(case c=>k_is);(case k=>k_is);(case lc=>k_is);(case v=>exact rfl))

