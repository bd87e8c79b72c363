import PyProof.Rows.All
import Wide.All
import OpenK.AllK
import Wide.FinOn
import Lean
import PyProof.EqAt
import PyProof.EqKinds
import PyProof.TupleCall
import PyProof.TupleKey
import PyProof.DictRoadsH
import PyProof.FactsAll.bool_1
import PyProof.AttrMissHeap
import KE.KDictOf
import PyProof.ListMulRoad
import PyProof.FactsAll.tuple_2
import KE.KSortTup
import PyProof.TupleOfSeq
import PyProof.ListRange
import PyProof.DictTable
import PyProof.Rows.TupTab
import PyProof.FactsAll.range_1
import KE.KDictList
import PyProof.SetRoads
import PyProof.DictTruth
import PySem.Challenge.RW_soundrules_k21_least_machines_make_the_s
noncomputable section
set_option Elab.async false
set_option linter.all false
set_option maxRecDepth 100000
set_option maxHeartbeats 4000000
def Qv4:=@if_pos
def Qv5:=@if_neg
def Qv6:=@List.range'_succ
def Qv7:=@List.idxOf_cons
def Qv8:=@List.take_succ_eq_append_getElem
def Qv9:=@PySem.W.kia_one
def Qyq:=@List.take_append_of_le_length
def Qyx:=@PyProof.Rows.F.plain_set_update_loop
def Qyz:=@PySem.F.slot_tuple_iterator_next
def Qyj:=@List.getElem?_cons_succ
def Qyk:=@PySem.tupleKind_room_in1
def Qyv:=@PySem.wpAny_callSpecialIfBoundUnlessNone?_slot
def Qyw:=@PySem.wpAny_specialOf
def Qyy:=@PySem.F.slot_int_rmul
def Qy0:=@List.getElem?_zip_eq_some
def Qy1:=@PyProof.Rows.F.entry_set_update_loop
def Qy2:=@beq_self_eq_true
def Qy3:=@PySem.sizeLine_eq
def Qy4:=@Nat.mul_le_mul_left
def Qy5:=@PySem.wpAny_rule
def Qy6:=@PySem.wpAny_typeOf
def Qy7:=@PySem.F.args_tuple_add_2
def Qy8:=@List.length_erase_of_mem
def Qy9:=@PySem.plainId_quiet
def Qbq:=@List.sum_cons
def Qbx:=@PySem.SeqAt.EqAt.same
def Qbz:=@Nat.two_pow_pos
def Qbj:=@List.nil_append
def Qbk:=@List.length_zip
def Qbv:=@PySem.wpAny_pyIter_tuple
def Qbw:=@PySem.SeqAt.EqAt.str_int
def Qby:=@PySem.SeqAt.EqAt.int_str
def Qb0:=@List.map_inj_right
def Qb1:=@Int.natCast_nonneg
def Qb2:=@PySem.F.entry_tuple_add
def Qb3:=@Nat.le_mul_of_pos_right
def Qb4:=@PySem.W.cellsFrom_some
def Qb5:=@PySem.F.slot_tuple_add
def Qb6:=@PySem.Calls.callWith_builtin
def Qb7:=@PySem.call_meets
def Qb8:=@List.length_range
def Qb9:=@Nat.mul_le_mul
def Qhq:=@not_or
def Qhx:=@Nat.pow_succ
def Qhz:=@Nat.lt_trans
def Qhj:=@PySem.F.slot_dict_get
def Qhk:=@PySem.Heap.get?_update_self
def Qhv:=@if_true
def Qhw:=@PySem.wpAny_pyIter_zip
def Qhy:=@List.prefix_refl
def Qh0:=@List.cons_append
def Qh1:=@PySem.wpAny_updateSeq_pair
def Qh2:=@PySem.SeqAt.EqAt.bool_bool
def Qh3:=@List.reverse_reverse
def Qh4:=@List.prefix_cons_inj
def Qh5:=@List.mem_of_mem_drop
def Qh6:=@List.mem_erase_of_ne
def Qh7:=@PySem.Calls.evalArgs_plain
def Qh8:=@Nat.mul_assoc
def Qh9:=@Int.ofNat.inj
def Qdq:=@List.dropLast_concat_getLast
def Qdx:=@PySem.F.args_tuple_iterator_next_1
def Qdz:=@Nat.le_succ
def Qdj:=@PySem.wpAny_execs_nil
def Qdk:=@beq_false_of_ne
def Qdv:=@Option.map_some
def Qdw:=@PySem.F.slot_zip_next
def Qdy:=@Bool.or_eq_true
def Qd0:=@PySem.SeqAt.EqAt.str_bool
def Qd1:=@PySem.SeqAt.EqAt.int_bool
def Qd2:=@PySem.SeqAt.EqAt.bool_str
def Qd3:=@PySem.SeqAt.EqAt.bool_int
def Qd4:=@Nat.add_le_add_left
def Qd5:=@PySem.Heap.SameBut.update
def Qd6:=@PySem.F.entry_tuple_iterator_next
def Qd7:=@Int.fmod_eq_emod_of_nonneg
def Qd8:=@Int.fdiv_eq_ediv_of_nonneg
def Qd9:=@PySem.Calls.Name_function_global
def Qfq:=@PySem.codeAny_mono
def Qfx:=@Nat.zero_add
def Qfz:=@Nat.min_self
def Qfj:=@PySem.wpAny_Call_Name_kw
def Qfk:=@PySem.SeqAt.EqAt.str_str
def Qfv:=@PySem.SeqAt.EqAt.of_refs
def Qfw:=@PySem.SeqAt.EqAt.int_int
def Qfy:=@Option.isSome_some
def Qf0:=@Nat.one_le_two_pow
def Qf1:=@Nat.mul_right_comm
def Qf2:=@PySem.Calls.spliced_cons
def Qf3:=@Bool.false_eq_true
def Qf4:=@PySem.wpAny_letOwnedTupleGo_zip
def Qf5:=@PySem.wpAny_binaryOp_repeat_ref
def Qf6:=@List.getElem?_eq_none_iff
def Qf7:=@PySem.Calls.call_function_entry
def Qf8:=@PySem.Draws.list
def Qf9:=@PySem.eqIsQuiet_byValue
def Qgq:=@PySem.SeqAt.RcAt.tuples
def Qgx:=@List.foldl_append
def Qgz:=@List.flatten_cons
def Qgj:=@PySem.F.args_tuple_mul_2
def Qgk:=@PySem.wpAny_standAt
def Qgv:=@PySem.wpAny_onRaise
def Qgw:=@PySem.W.mg_of
def Qgy:=@PySem.Paired.length
def Qg0:=@PySem.F.plainAttrs_list
def Qg1:=@PySem.F.entry_tuple_mul
def Qg2:=@PySem.F.args_int_rmul_2
def Qg3:=@PySem.F.args_dict_get_3
def Qg4:=@List.pairwise_singleton
def Qg5:=@List.length_eq_zero_iff
def Qg6:=@PySem.noFill_tuple_add
def Qg7:=@Nat.succ_le_succ
def Qg8:=@List.take_length
def Qg9:=@List.mem_flatten
def Q0q:=@List.drop_length
def Q0x:=@PySem.F.slot_tuple_mul
def Q0z:=@PySem.F.plainAttrs_str
def Q0j:=@PySem.F.entry_int_rmul
def Q0k:=@PySem.F.entry_dict_get
def Q0v:=@PyProof.noPylong_small
def Q0w:=@Nat.le_mul_of_pos_left
def Q0y:=@List.range_succ_eq_map
def Q00:=@List.length_eq_one_iff
def Q01:=@PySem.wpAny_ret_mkInt
def Q02:=@PySem.PassesOwn.never
def Q03:=@List.mem_filter
def Q04:=@PySem.F.plain_set_new
def Q05:=@PySem.F.fills_int_mul
def Q06:=@PyProof.Rows.boot_zip
def Q07:=@List.set_append_right
def Q08:=@PySem.typeIs_str
def Q09:=@PySem.typeIs_int
def Q1q:=@List.mem_of_mem_take
def Q1x:=@List.mem_iff_getElem
def Q1z:=@List.getElem?_zipIdx
def Q1j:=@List.tail_drop
def Q1k:=@List.drop_zero
def Q1v:=@PySem.wpAny_letGo
def Q1w:=@List.length_flatten
def Q1y:=@if_false
def Q10:=@Nat.add_assoc
def Q11:=@List.any_cons
def Q12:=@List.all_cons
def Q13:=@Bool.and_true
def Q14:=@Nat.sub_self
def Q15:=@List.all_map
def Q16:=@Sum.inr.inj
def Q17:=@Nat.add_mul
def Qqq:=@PySem.wpAny_bind
def Qqx:=@List.length_map
def Qqz:=@PySem.Heap.get?_push_of_some
def Qqj:=@List.mem_cons_self
def Qqk:=@List.mem_cons_of_mem
def Qqv:=@List.length_append
def Qqw:=@List.mem_singleton
def Qqy:=@List.length_cons
def Qq0:=@Nat.le_refl
def Qq1:=@Nat.le_trans
def Qq2:=@PySem.wpAny_pure
def Qq3:=@List.size_toArray
def Qq4:=@List.mem_cons
def Qq5:=@List.getElem?_eq_some_iff
def Qq6:=@List.getD_eq_getElem?_getD
def Qq7:=@List.getElem?_eq_getElem
def Qq8:=@List.map_cons
def Qq9:=@PySem.Heap.lt_size
def Qwq:=@List.mem_map
def Qwx:=@Nat.lt_of_lt_of_le
def Qwz:=@Option.map_eq_some_iff
def Qwj:=@List.length_singleton
def Qwk:=@List.mem_of_getElem?
def Qwv:=@PySem.Heap.get?_push_size
def Qww:=@List.mem_append
def Qwy:=@decide_eq_false
def Qw0:=@decide_eq_true
def Qw1:=@List.getElem?_map
def Qw2:=@Bool.false_ne_true
def Qw3:=@Nat.lt_of_le_of_lt
def Qw4:=@Option.some.inj
def Qw5:=@List.getElem?_set_ne
def Qw6:=@List.not_mem_nil
def Qw7:=@List.map_append
def Qw8:=@List.append_nil
def Qw9:=@List.getElem?_set_self
def Qxq:=@Nat.ne_of_lt
def Qxx:=@List.append_assoc
def Qxz:=@Nat.zero_le
def Qxj:=@List.getElem?_append_left
def Qxk:=@List.map_map
def Qxv:=@Option.some.injEq
def Qxw:=@List.mem_append_right
def Qxy:=@of_decide_eq_true
def Qx0:=@Option.bind_eq_some_iff
def Qx1:=@congrArg
def Qx2:=@List.length_nil
def Qx3:=@List.nodup_cons
def Qx4:=@List.flatten_append
def Qx5:=@PySem.Heap.size_push
def Qx6:=@List.getElem?_append_right
def Qx7:=@List.map_congr_left
def Qx8:=@Nat.pow_le_pow_right
def Qx9:=@List.all_eq_true
def Qzq:=@PyProof.Rows.callWith_type1
def Qzx:=@List.length_set
def Qzz:=@beq_eq_false_iff_ne
def Qzj:=@PySem.wpAny_holding
def Qzk:=@List.lookup_cons
def Qzv:=@List.length_take
def Qzw:=@List.getElem_mem
def Qzy:=@List.mem_append_left
def Qz0:=@Nat.lt_irrefl
def Qz1:=@Option.isSome_iff_exists
def Qz2:=@Array.length_toList
def Qz3:=@List.length_replicate
def Qz4:=@List.find?_cons
def Qz5:=@List.length_drop
def Qz6:=@PySem.wpAny_callSpecial?_slot
def Qz7:=@Nat.ne_of_gt
def Qz8:=@List.take_of_length_le
def Qz9:=@or_false
def Qjq:=@PySem.wpAny_call_entry
def Qjx:=@Bool.and_eq_true
def Qjz:=@List.getElem?_take_of_lt
def Qjj:=@PySem.wpAny_field
def Qjk:=@List.getElem?_replicate
def Qjv:=@List.cons.inj
def Qjw:=@Nat.mul_le_mul_right
def Qjy:=@PySem.Around.under_plainId
def Qj0:=@List.mem_flatMap
def Qj1:=@List.length_pos_of_mem
def Qj2:=@PySem.wpAny_mono
def Qj3:=@PyProof.Rows.slot_tuple_getitem
def Qj4:=@Int.toNat_natCast
def Qj5:=@List.foldl_cons
def Qj6:=@List.getElem?_toArray
def Qj7:=@Nat.le_of_ble_eq_true
def Qj8:=@List.getElem?_eq_none
def Qj9:=@Nat.le_add_right
def Qkq:=@List.eq_nil_of_length_eq_zero
def Qkx:=@Bool.and_eq_true_iff
def Qkz:=@PySem.wpAny_seqItems
def Qkj:=@List.mem_range
def Qkk:=@PySem.wpAny_newObj_type
def Qkv:=@PySem.wpAny_truthy_bool
def Qkw:=@Array.getD_eq_getD_getElem?
def Qky:=@List.length_reverse
def Qk0:=@PySem.codeAny_builtin
def Qk1:=@PySem.wpAny_setField_rec
def Qk2:=@Array.getElem?_toList
def Qk3:=@List.forIn_nil
def Qk4:=@List.drop_eq_getElem_cons
def Qk5:=@PySem.wpAny_passesOwn
def Qk6:=@Nat.not_lt_zero
def Qk7:=@List.nil_prefix
def Qk8:=@PySem.wpAny_pyIter_list
def Qk9:=@PySem.mem_of_lookup
def Qvq:=@List.filter_eq_self
def Qvx:=@List.filterMap_cons
def Qvz:=@List.mem_reverse
def Qvj:=@List.pairwise_cons
def Qvk:=@List.forIn_cons
def Qvv:=@Bool.eq_iff_iff
def Qvw:=@List.of_mem_zip
def Qvy:=@Option.isSome_map
def Qv0:=@Nat.lt_succ_of_lt
def Qv1:=@Nat.le_of_succ_le
def Qv2:=@Nat.le_of_lt
def Qv3:=@List.map_nil
abbrev qT(x:PySem.Str):Prop:=(x == ("__debug__" : PySem.Str))=false
abbrev Bb(x:PySem.Str):Prop:=(x == ("__classdict__" : PySem.Str))=false
open PySem PySem.Spec PyProof.Rows in
abbrev IK(e:Expr)(E:PySem.Env):Prop:=starEach [e] E=(false,eval e E)::starEach [] E
namespace L2
open PySem PySem.Spec PyProof.Rows
inductive NK where
 |num (i:Int)|txt (x:Str)|tup (xs:List NK)
noncomputable instance:DecidableEq NK:=λ_ _=>Classical.propDecidable _
mutual
def Hn(h:Heap):NK->Value->Prop
 |.num i,v=>(∃t,v=.int i t)\/∃b:Bool,v=.bool b/\i=if b then 1 else 0|.txt x,v=>∃t,v=.str x t|.tup ks,v=>∃a o items n,v=.ref a/\h.get? a=some o/\o.cls=.type "tuple"/\o.data=.seq items n/\sG h ks items.toList
def sG(h:Heap):List NK->List Value->Prop
 |[],vs=>vs=[]|k::ks,vs=>∃v r,vs=v::r/\Hn h k v/\sG h ks r
end
mutual
def NK.dep:NK->Nat
 |.num _=>0|.txt _=>0|.tup ks=>1+NK.qW ks
def NK.qW:List NK->Nat
 |[]=>0|k::ks=>max (NK.dep k) (NK.qW ks)
end
mutual
def NK.draws:NK->Nat
 |.num _=>1|.txt _=>1|.tup ks=>NK.uz ks+1
def NK.uz:List NK->Nat
 |[]=>0|k::ks=>NK.draws k+NK.uz ks
end
section
variable(P:Program)(w:World)
mutual
def NK.hash:NK->Int
 |.num i=>hashInt i|.txt x=>(strKind P w).hash x|.tup ks=>reduceHash (Builtin.Tuple.tupleHashOf (NK.hashes ks))
def NK.hashes:List NK->List Int
 |[]=>[]|k::ks=>NK.hash k::NK.hashes ks
end
end
def sG.length:∀{ks} {vs},sG h ks vs->vs.length=ks.length
 |[],_,e=>by cases e;rfl|k::ks,_,e=>by obtain⟨v,r,rfl,_,q⟩:=e;rw[Qqy,Qqy,q.length]
def sG.get:∀{ks} {vs} {j:Nat} {v},sG h ks vs->vs[j]?=some v->∃k,ks[j]?=some k/\Hn h k v
 |[],_,_,_,e,g=>by cases e;simp at g
 |k::ks,_,j,v,e,g=>by
  obtain⟨u,r,rfl,h1,h2⟩:=e;cases j with
  |zero=>simp at g;subst g;exact⟨k,rfl,h1⟩|succ j=>obtain⟨k',e1,e2⟩:=sG.get h2 (j:=j) (by simpa using g);exact⟨k',by simpa using e1,e2⟩
def NK.GF:∀{ks} {j:Nat} {k},ks[j]?=some k->k.dep<=NK.qW ks
 |[],_,_,e=>by simp at e
 |c::ks,j,k,e=>by
  unfold NK.qW;cases j with
  |zero=>simp at e;subst e;exact Nat.le_max_left _ _|succ j=>exact Qq1 (NK.GF (j:=j) (by simpa using e)) (Nat.le_max_right _ _)
mutual
theorem Hn.inj{h:Heap}:∀{x y:NK} {v:Value},Hn h x v->Hn h y v->x=y
 |.num i,.num j,v,a,b=>by
  rcases a with ⟨t,rfl⟩|⟨c,rfl,rfl⟩
  .rcases b with ⟨t',e⟩|⟨c,e,_⟩
   .cases e;rfl
   .cases e
  .rcases b with ⟨t',e⟩|⟨c,e,rfl⟩
   .cases e
   .cases e;rfl
 |.num i,.txt x,v,a,b=>by obtain⟨t,rfl⟩:=b;rcases a with ⟨t',e⟩|⟨c,e,_⟩<;>cases e
 |.num i,.tup ks,v,a,b=>by obtain⟨_,_,_,_,rfl,_⟩:=b;rcases a with ⟨t',e⟩|⟨c,e,_⟩<;>cases e
 |.txt x,.num i,v,a,b=>by obtain⟨t,rfl⟩:=a;rcases b with ⟨t',e⟩|⟨c,e,_⟩<;>cases e
 |.txt x,.txt y,v,a,b=>by obtain⟨t,rfl⟩:=a;obtain⟨t',e⟩:=b;cases e;rfl|.txt x,.tup ks,v,a,b=>by obtain⟨t,rfl⟩:=a;obtain⟨_,_,_,_,e,_⟩:=b;cases e|.tup ks,.num i,v,a,b=>by obtain⟨_,_,_,_,rfl,_⟩:=a;rcases b with ⟨t',e⟩|⟨c,e,_⟩<;>cases e
 |.tup ks,.txt y,v,a,b=>by obtain⟨_,_,_,_,rfl,_⟩:=a;obtain⟨t',e⟩:=b;cases e
 |.tup ks,.tup ls,v,a,b=>by
  obtain⟨p,o,items,n,rfl,h1,_,h3,h4⟩:=a;obtain⟨p',o',items',n',e,h1',_,h3',h4'⟩:=b;cases e;rw[h1] at h1';cases h1';rw[h3] at h3';cases h3';rw[sG.inj h4 h4']
theorem sG.inj{h:Heap}:∀{x y:List NK} {v:List Value},sG h x v->sG h y v->x=y
 |[],[],_,_,_=>rfl|[],k::ks,_,a,b=>by cases a;obtain⟨_,_,e,_⟩:=b;cases e|k::ks,[],_,a,b=>by cases b;obtain⟨_,_,e,_⟩:=a;cases e
 |k::ks,l::ls,_,a,b=>by
  obtain⟨v,r,rfl,h1,h2⟩:=a;obtain⟨v',r',e,h1',h2'⟩:=b;cases e;rw[Hn.inj h1 h1',sG.inj h2 h2']
end
mutual
theorem Hn.keeps{h h':Heap}{d:Addr}{o:Obj}{es ep}(ho:h.get? d=some o)(hd:o.data=.dict es ep)(hs:Heap.SameBut d h h'):∀{k:NK} {v:Value},Hn h k v->Hn h' k v
 |.num _,_,e=>e|.txt _,_,e=>e
 |.tup ks,_,e=>by
  obtain⟨a,o',items,n,rfl,h1,h2,h3,h4⟩:=e;have hne:a≠d:=by rintro rfl;rw[h1] at ho;cases ho;rw[h3] at hd;cases hd
  exact⟨a,o',items,n,rfl,(hs.2 a hne).trans h1,h2,h3,sG.keeps ho hd hs h4⟩
theorem sG.keeps{h h':Heap}{d:Addr}{o:Obj}{es ep}(ho:h.get? d=some o)(hd:o.data=.dict es ep)(hs:Heap.SameBut d h h'):∀{ks:List NK} {vs:List Value},sG h ks vs->sG h' ks vs
 |[],_,e=>e|k::ks,_,e=>by obtain⟨v,r,rfl,h1,h2⟩:=e;exact⟨v,r,rfl,Hn.keeps ho hd hs h1,sG.keeps ho hd hs h2⟩
end
section
variable{P:Program}{w:World}
def Wf(h:Q (hashInt (if b then 1 else 0)) { s with toks:=s.toks+1 }):wpAny (model P w) A (pyHash (.bool b)) Q E s:=by
 have hT:s.TypeIs (.bool b) "bool":=rfl;have hr:=rawHash_range (if b then 1 else 0);unfold pyHash;have hv:[Value.bool b].any Value.onHeap=false:=rfl;refine Qqq ?_;rw[cRoomFor,Qv5 (by rw[hv];exact Qw2)];refine Qq2 ?_;refine Qqq (Qyw hT F.slot_bool_hash.lookup ?_);show wpAny _ _ (if (some (Value.builtin "int.__hash__") == some Value.none)=true then _ else _) Q E s;rw[Qv5 (by rw[beq_builtin_none];exact Qw2)];refine Qqq (Qyw hT F.slot_bool_hash.lookup ?_);show wpAny _ _ (callSpecialIfBoundUnlessNone? (.bool b) "__hash__" _ >>= _) Q E s;refine Qqq (Qyv hT F.slot_bool_hash
  (Qjq F.slot_bool_hash hT entry_int_hash
   (show wpAny _ _ (do ret (<-mkInt (rawHash (if b then 1 else 0)))) _ _ s from Q01 ?_) (args_int_hash _)))
 show wpAny _ _ (if (decide (-(2:Int)^63<=rawHash (if b then 1 else 0))&&decide (rawHash (if b then 1 else 0)<2^63))=true then _ else _) Q E _;rw[Qv4 (by rw[Qw0 hr.1,Qw0 hr.2];rfl)];exact Qq2 h
mutual
theorem ZF:∀(k:NK) (v:Value) (A:Around) (E:Value->Shared->Prop) (s:Shared) (Q:Int->Shared->Prop),A.units+k.dep<cLine->Hn s.heap k v->Q (k.hash P w) { s with toks:=s.toks+k.draws }->wpAny (model P w) A (pyHash v) Q E s
 |.num i,v,A,E,s,Q,hu,e,h=>by
  rcases e with ⟨t,rfl⟩|⟨b,rfl,rfl⟩
  .exact wpAny_pyHash_int h
  .exact Wf h
 |.txt x,v,A,E,s,Q,hu,e,h=>by
  obtain⟨t,rfl⟩:=e;exact wpAny_pyHash_str h
 |.tup ks,v,A,E,s,Q,hu,e,h=>by
  obtain⟨a,o,items,n,rfl,ho,hc,hd,hi⟩:=e;have hT:s.TypeIs (.ref a) "tuple":=⟨o,ho,hc⟩;have ags:(NK.tup ks).dep=1+NK.qW ks:=by rw[NK.dep]
  rw[ags] at hu;have hu0:A.units<cLine:=by omega
  have hin:A.in1.units+NK.qW ks<cLine:=by show A.units+1+NK.qW ks<cLine;omega
  unfold pyHash
  first|unfold pyHashByItsType|skip
  first|refine Qqq (wpAny_cRoomFor_or (.inr hu0) ?_)|skip
  refine Qqq (Qyw hT F.slot_tuple_hash.lookup ?_);show wpAny _ _ (if (some (Value.builtin "tuple.__hash__") == some Value.none)=true then _ else _) Q E s;rw[Qv5 (by rw[beq_builtin_none];exact Qw2)];refine Qqq (Qyw hT F.slot_tuple_hash.lookup ?_);show wpAny _ _ (callSpecialIfBoundUnlessNone? (.ref a) "__hash__" _ >>= _) Q E s;refine Qqq (Qyv hT F.slot_tuple_hash (Qjq F.slot_tuple_hash hT F.entry_tuple_hash ?_ (F.args_tuple_hash_1 _)));show wpAny _ _ (Builtin.Tuple.tupleItemsOf (.ref a) >>= _) _ _ s;refine Qqq (wpAny_tupleItemsOf ho hd ?_);refine Qqq ?_;rw[<-Array.forIn_toList];refine Ob ks items.toList A.in1 _ s _ _ #[] hin hi (λx b s' R q=>?_) ?_
  .first
    |exact Qqq (Qj2 q (λz s2 hz=>Qq2 hz) λ_ _ z=>z)|exact Qqq (Qj2 q (λz s2 hz=>Qqq (Qq2 (Qq2 hz))) λ_ _ z=>z)
  .show wpAny _ _ (retInt (Builtin.Tuple.tupleHashOf ((#[]:Array Int).toList++NK.hashes P w ks))) _ _ _;have hh:(NK.tup ks).hash P w=reduceHash (Builtin.Tuple.tupleHashOf (NK.hashes P w ks)):=by rw[NK.hash]
   have hdr:(NK.tup ks).draws=NK.uz ks+1:=by rw[NK.draws]
   rw[hh,hdr] at h;rw[show(#[]:Array Int).toList++NK.hashes P w ks=NK.hashes P w ks from rfl];refine Q01 ?_;show wpAny _ _ (if (decide (-(2:Int)^63<=Builtin.Tuple.tupleHashOf (NK.hashes P w ks))&&decide (Builtin.Tuple.tupleHashOf (NK.hashes P w ks)<2^63))=true then _ else _) Q E _;unfold reduceHash at h;by_cases hr:(decide (-(2:Int)^63<=Builtin.Tuple.tupleHashOf (NK.hashes P w ks))&&decide (Builtin.Tuple.tupleHashOf (NK.hashes P w ks)<2^63))=true
   .rw[Qv4 hr];rw[Qv4 hr] at h;exact Qq2 (by simpa[Q10] using h)
   .rw[Qv5 hr];rw[Qv5 hr] at h;exact Qqq (Qy5 (Qq2 (by simpa[Q10] using h)))
theorem Ob:∀(ks:List NK) (vs:List Value) (A:Around) (E:Value->Shared->Prop) (s:Shared) (body:Value->Array Int->Sem (ForInStep (Array Int))) (Q:Array Int->Shared->Prop) (acc:Array Int),A.units+NK.qW ks<cLine->sG s.heap ks vs->
  (∀x b s' (R:ForInStep (Array Int)->Shared->Prop),wpAny (model P w) A (pyHash x) (λz s2=>R (.yield (b.push z)) s2) E s'->wpAny (model P w) A (body x b) R E s')->
  Q (acc.toList++NK.hashes P w ks).toArray { s with toks:=s.toks+NK.uz ks }->wpAny (model P w) A (forIn vs acc body) Q E s
 |[],vs,A,E,s,body,Q,acc,hu,e,hb,q=>by
  cases e;rw[Qk3];refine Qq2 ?_;have:(acc.toList++NK.hashes P w []).toArray=acc:=by rw[NK.hashes];simp
  rw[this] at q;have e0:NK.uz []=0:=by rw[NK.uz]
  rw[e0] at q;exact q
 |k::ks,vs,A,E,s,body,Q,acc,hu,e,hb,q=>by
  obtain⟨v,r,rfl,h1,h2⟩:=e;have ags:NK.qW (k::ks)=max k.dep (NK.qW ks):=by rw[NK.qW]
  rw[ags] at hu;rw[Qvk];refine Qqq (hb v acc s _ (ZF k v A E s _ (by omega) h1 ?_));refine Ob ks r A E { s with toks:=s.toks+k.draws } body Q (acc.push (k.hash P w)) (by omega) h2 hb ?_;have e1:NK.hashes P w (k::ks)=k.hash P w::NK.hashes P w ks:=by rw[NK.hashes]
  have e2:NK.uz (k::ks)=k.draws+NK.uz ks:=by rw[NK.uz]
  rw[e1,e2] at q
  simpa[Q10] using q
end
theorem aiM:∀n x y u v A s,x.dep<=n->A.units+n+1<cLine->Hn s.heap x u->Hn s.heap y v->SeqAt.EqAt A s u v (decide (x=y))
 |n,.num i,.num j,u,v,A,s,hn,hu,hx,hy=>by
  have e:decide (NK.num i=NK.num j)=(i == j):=by rw[Qvv];simp
  rw[e];rcases hx with ⟨t,rfl⟩|⟨b,rfl,rfl⟩;rcases hy with ⟨t',rfl⟩|⟨c,rfl,rfl⟩;exact Qfw i t j t';exact Qd1 i t c;rcases hy with ⟨t',rfl⟩|⟨c,rfl,rfl⟩;exact Qd3 b j t';have:((if b then (1:Int) else 0) == (if c then 1 else 0))=(b == c):=by cases b<;>cases c<;>rfl
  rw[this];exact Qh2 b c
 |n,.num i,.txt z,u,v,A,s,hn,hu,hx,hy=>by
  rw[Qwy (λe=>by cases e)];obtain⟨t,rfl⟩:=hy;rcases hx with ⟨t',rfl⟩|⟨b,rfl,rfl⟩;exact Qby i t' _ t;exact Qd2 b _ t
 |n,.num i,.tup ks,u,v,A,s,hn,hu,hx,hy=>by
  rw[Qwy (λe=>by cases e)];obtain⟨a,o,items,m,rfl,h1,h2,h3,_⟩:=hy;have p:s.heap.IsTuple a items:=⟨o,h1,h2,m,h3⟩;rcases hx with ⟨t',rfl⟩|⟨b,rfl,rfl⟩;exact SeqAt.EqAt.int_tuple i t' p (by omega);exact SeqAt.EqAt.bool_tuple b p (by omega)
 |n,.txt z,.num i,u,v,A,s,hn,hu,hx,hy=>by
  rw[Qwy (λe=>by cases e)];obtain⟨t,rfl⟩:=hx;rcases hy with ⟨t',rfl⟩|⟨b,rfl,rfl⟩;exact Qbw _ t i t';exact Qd0 _ t b
 |n,.txt z,.txt z',u,v,A,s,hn,hu,hx,hy=>by
  have e:decide (NK.txt z=NK.txt z')=(z == z'):=by rw[Qvv];simp
  rw[e];obtain⟨t,rfl⟩:=hx;obtain⟨t',rfl⟩:=hy;exact Qfk _ t _ t'
 |n,.txt z,.tup ks,u,v,A,s,hn,hu,hx,hy=>by
  rw[Qwy (λe=>by cases e)];obtain⟨t,rfl⟩:=hx;obtain⟨a,o,items,m,rfl,h1,h2,h3,_⟩:=hy;have p:s.heap.IsTuple a items:=⟨o,h1,h2,m,h3⟩;exact SeqAt.EqAt.str_tuple _ t p (by omega)
 |n,.tup ks,.num i,u,v,A,s,hn,hu,hx,hy=>by
  rw[Qwy (λe=>by cases e)];obtain⟨a,o,items,m,rfl,h1,h2,h3,_⟩:=hx;have p:s.heap.IsTuple a items:=⟨o,h1,h2,m,h3⟩;rcases hy with ⟨t',rfl⟩|⟨b,rfl,rfl⟩;exact SeqAt.EqAt.tuple_int i t' p (by omega);exact SeqAt.EqAt.tuple_bool b p (by omega)
 |n,.tup ks,.txt z,u,v,A,s,hn,hu,hx,hy=>by
  rw[Qwy (λe=>by cases e)];obtain⟨a,o,items,m,rfl,h1,h2,h3,_⟩:=hx;have p:s.heap.IsTuple a items:=⟨o,h1,h2,m,h3⟩;obtain⟨t,rfl⟩:=hy;exact SeqAt.EqAt.tuple_str _ t p (by omega)
 |0,.tup ks,.tup ls,u,v,A,s,hn,hu,hx,hy=>by
  rw[NK.dep] at hn;omega
 |n+1,.tup ks,.tup ls,u,v,A,s,hn,hu,hx,hy=>by
  have hx0:=hx;have hy0:=hy;obtain⟨a,o,items,m,rfl,h1,h2,h3,h4⟩:=hx;obtain⟨a',o',items',m',rfl,h1',h2',h3',h4'⟩:=hy;have p:s.heap.IsTuple a items:=⟨o,h1,h2,m,h3⟩;have p':s.heap.IsTuple a' items':=⟨o',h1',h2',m',h3'⟩;rw[NK.dep] at hn;by_cases haa:a=a';subst haa;rw[Qw0 (Hn.inj hx0 hy0)];exact Qbx _;refine Qfv haa ?_;have l1:=h4.length;have l2:=h4'.length;rw[Qz2] at l1 l2;have hu0:A.units<cLine:=by omega
  have:=Qgq (e:=λj=>decide (ks[j]?=ls[j]?)) p p' hu0 λj q1 q2=>?_;have e:((List.range (min items.size items'.size)).all (λj=>decide (ks[j]?=ls[j]?))&&items.size == items'.size)=decide (NK.tup ks=NK.tup ls):=by
   rw[Qvv];simp only[Qjx,Qx9,Qkj,decide_eq_true_eq,beq_iff_eq,NK.tup.injEq];constructor;rintro⟨g1,g2⟩;apply List.ext_getElem?;intro j;by_cases hj:j<min items.size items'.size;exact g1 j hj;rw[Qj8 (by omega),Qj8 (by omega)];rintro rfl;exact⟨λ_ _=>rfl,by omega⟩
  rw[<-e];exact this;have g1:items.toList[j]?=some items[j]:=by simp
  have g2:items'.toList[j]?=some items'[j]:=by simp
  obtain⟨k,r1,r2⟩:=h4.get g1;obtain⟨l,r3,r4⟩:=h4'.get g2;have e:decide (ks[j]?=ls[j]?)=decide (k=l):=by rw[r1,r3];simp
  rw[e];exact aiM n k l _ _ A.in1 s (Qq1 (NK.GF r1) (by omega)) (by show A.units+1+n+1<cLine;omega) r2 r4
theorem TV:∀n k v A E s Q,k.dep<=n->Hn s.heap k v->Q true s->wpAny (model P w) A (eqIsQuiet n v) Q E s
 |n,.num i,v,A,E,s,Q,hn,e,h=>by
  rcases e with ⟨t,rfl⟩|⟨b,rfl,rfl⟩;rw[Qf9 n rfl];exact Qq2 h;rw[Qf9 n rfl];exact Qq2 h
 |n,.txt x,v,A,E,s,Q,hn,e,h=>by
  obtain⟨t,rfl⟩:=e;rw[Qf9 n rfl];exact Qq2 h
 |0,.tup ks,v,A,E,s,Q,hn,e,h=>by
  rw[NK.dep] at hn;omega
 |n+1,.tup ks,v,A,E,s,Q,hn,e,h=>by
  obtain⟨a,o,items,m,rfl,ho,hc,hd,hi⟩:=e;rw[NK.dep] at hn;have hT:s.TypeIs (.ref a) "tuple":=⟨o,ho,hc⟩;unfold eqIsQuiet;refine Qqq (Qyw hT F.slot_tuple_eq.lookup ?_);show wpAny _ _ (isInstance (.ref a) (.type "tuple") >>= _) _ _ s;refine Qqq (wpAny_isInstance hT isSubtype_tuple_tuple ?_);simp only[Bool.not_true,Qf3,Q1y];refine Qqq (Qkz ho hd ?_);refine Qqq ?_;show wpAny _ _ (forIn items _ _) _ _ s;rw[<-Array.forIn_toList];refine wpAny_forIn_list _ (λrest r s'=>r.1=none/\s'=s/\∀v∈rest,∃k:NK,k.dep<=n/\Hn s.heap k v) _ ?_ ?_ _ _ ⟨rfl,rfl,λv hv=>?_⟩;rintro v rest r s' ⟨hr,rfl,hall⟩;obtain⟨k,hk1,hk2⟩:=hall v Qqj;refine Qqq (TV n k v A E _ _ hk1 hk2 ?_);simp only[Bool.not_true,Qf3,Q1y];exact Qq2 ⟨rfl,rfl,λu hu'=>hall u (Qqk _ hu')⟩;rintro⟨r1,r2⟩ s' ⟨hr,rfl,_⟩;simp only at hr;subst hr;exact Qq2 h;obtain⟨j,hj,rfl⟩:=Q1x.mp hv;obtain⟨k,r1,r2⟩:=hi.get (Qq7 hj);exact⟨k,Qq1 (NK.GF r1) (by omega),r2⟩
noncomputable def qt(P:Program)(w:World):HeapKind P w NK where
 is:=λh k a=>Hn h k (.ref a)/\k.dep<=8
 hash:=NK.hash P w
 draws:=NK.draws
 room:=λA=>A.units+10<cLine
 inj:=λhx hy=>hx.1.inj hy.1
 keeps:=λx ho hd hs=>⟨x.1.keeps ho hd hs,x.2⟩
 pyHash:=λhu hk h=>ZF _ _ _ _ _ _ (by have:=hk.2;omega) hk.1 h
 eqBool:=λhu hx hy h=>aiM 8 _ _ _ _ _ _ hx.2 (by omega) hx.1 hy.1 P w _ _ h
 quiet:=λhk h=>TV 8 _ _ _ _ _ _ hk.2 hk.1 h
end
abbrev Key:=Sum Int Str
def Gf:Key->Value->Bool
 |.inl k,v=>Value.isInt k v|.inr x,v=>Value.isStrOf x v
def akH(w:World):Key->Int
 |.inl k=>hashInt k|.inr x=>hashStr w x
def gJ:∀{k} {v},Gf k v=true->(∃i t,k=Sum.inl i/\v=Value.int i t)\/(∃x t,k=Sum.inr x/\v=Value.str x t)
 |.inl i,v,h=>by
  obtain⟨t,e⟩:=Value.isInt_shape (k:=i) (v:=v) h;exact .inl ⟨i,t,rfl,e⟩
 |.inr x,v,h=>by
  obtain⟨t,e⟩:=Value.isStrOf_shape (x:=x) (v:=v) h;exact .inr ⟨x,t,rfl,e⟩
def V8(i)(t):Gf (.inl i) (.int i t)=true:=by simp[Gf,Value.isInt]
def V7(x)(t):Gf (.inr x) (.str x t)=true:=by simp[Gf,Value.isStrOf]
def agf(a b):decide ((Sum.inl a:Key)=Sum.inl b)=(a == b):=by
 by_cases e:a=b;subst e;simp;have h:¬(Sum.inl a:Key)=Sum.inl b:=λq=>e<|Sum.inl.inj q;rw[Qwy h];exact(Qzz.mpr e).symm
def agc(a b):decide ((Sum.inr a:Key)=Sum.inr b)=decide (a=b):=by
 by_cases e:a=b;subst e;simp;have h:¬(Sum.inr a:Key)=Sum.inr b:=λq=>e<|Q16 q;rw[Qwy h,Qwy e]
def age(a)(b):decide ((Sum.inl a:Key)=Sum.inr b)=false:=Qwy<|λq=>nomatch q
def agd(a)(b):decide ((Sum.inr a:Key)=Sum.inl b)=false:=Qwy<|λq=>nomatch q
def fB(prog:Program)(w:World):PySem.KeyKind prog w Key where
 is:=Gf
 hash:=akH w;inj:=λv a b ha hb=>by
  rcases gJ ha with ⟨i,t,rfl,rfl⟩|⟨x,t,rfl,rfl⟩;rcases gJ hb with ⟨j,u,rfl,e⟩|⟨y,u,rfl,e⟩;injection e with e1 _;rw[e1]
  exact nomatch e;rcases gJ hb with ⟨j,u,rfl,e⟩|⟨y,u,rfl,e⟩;exact nomatch e;injection e with e1 _;rw[e1]
 byValue:=λk v h=>by
  rcases gJ h with ⟨i,t,rfl,rfl⟩|⟨x,t,rfl,rfl⟩<;>rfl
 pyHash:=λhv h=>by
  rcases gJ hv with ⟨i,t,rfl,rfl⟩|⟨x,t,rfl,rfl⟩;exact wpAny_pyHash_int h;exact wpAny_pyHash_str h
 eqBool:=λhu hv h=>by
  rcases gJ hu with ⟨i,t,rfl,rfl⟩|⟨x,t,rfl,rfl⟩;rcases gJ hv with ⟨j,u,rfl,rfl⟩|⟨y,u,rfl,rfl⟩;rw[agf] at h;exact wpAny_eqBool_int h;rw[age] at h;exact Qby i t y u _ _ _ _ h;rcases gJ hv with ⟨j,u,rfl,rfl⟩|⟨y,u,rfl,rfl⟩;rw[agd] at h;exact Qbw x t j u _ _ _ _ h;rw[agc] at h;exact wpAny_eqBool_str h
 «strs»:=λk x t v h=>by
  rcases gJ h with ⟨i,u,rfl,e⟩|⟨y,u,rfl,e⟩;exact nomatch e;injection e with e1 _
  subst e1;cases v<;>rfl
def Oh(prog)(w)(i)(t):(fB prog w).is (.inl i) (.int i t)=true:=V8 i t
def Og(prog)(w)(x)(t):(fB prog w).is (.inr x) (.str x t)=true:=V7 x t
inductive V where
 |non|bl (b:Bool)|int (i:Int)|str (x:Str)|byt (b:Array UInt8)|flt (b:UInt64)|ref (a:Addr)|ty (n:String)
 deriving DecidableEq
def RelV:V->Value->Prop
 |.non,u=>u=Value.none|.bl b,u=>u=Value.bool b|.int i,u=>∃t,u=Value.int i t|.str x,u=>∃t,u=Value.str x t|.byt b,u=>∃t,u=Value.bytes b t|.flt b,u=>∃t,u=Value.float b t|.ref a,u=>u=Value.ref a|.ty n,u=>u=Value.type n
abbrev Vals:List V->List Value->Prop:=Paired RelV
def Vals.length(r:Vals xs us):xs.length=us.length:=Qgy r
def Vals.get:∀{xs} {us} {i:Nat} {x},Vals xs us->xs[i]?=some x->∃u,us[i]?=some u/\RelV x u
 |_,_,_,_,.nil,e=>by simp at e|_,_,0,_,.cons r _,e=>by simp at e;subst e;exact⟨_,rfl,r⟩
 |_,_,i+1,x,.cons _ t,e=>by
  obtain⟨u,h1,h2⟩:=Vals.get t (by simpa using e);exact⟨u,by simpa using h1,h2⟩
def Vals.set(r:RelV x u):∀{xs} {us} i,Vals xs us->Vals (xs.set i x) (us.set i u)
 |_,_,_,.nil=>.nil|_,_,0,.cons _ t=>.cons r t|_,_,i+1,.cons q t=>.cons q<|Vals.set r i t
def Vals.append:∀{xs ys} {us ws},Vals xs us->Vals ys ws->Vals (xs++ys) (us++ws)
 |_,_,_,_,.nil,s=>s|_,_,_,_,.cons r t,s=>.cons r<|Vals.append t s
def Vals.take:∀{xs} {us} n,Vals xs us->Vals (xs.take n) (us.take n)
 |_,_,0,_=>.nil|_,_,_+1,.nil=>.nil|_,_,n+1,.cons r t=>.cons r<|Vals.take n t
def Vals.drop:∀{xs} {us} n,Vals xs us->Vals (xs.drop n) (us.drop n)
 |_,_,0,r=>r|_,_,_+1,.nil=>.nil|_,_,n+1,.cons _ t=>Vals.drop n t
def zT:Option V->Option Value->Prop
 |some v,some u=>RelV v u|none,none=>True|_,_=>False
def KV{κ:Type}:List (κ×V)->List (κ×Value)->Prop:=Paired λ(p:κ×V) (q:κ×Value)=>p.1=q.1/\RelV p.2 q.2
def kV:Key->V
 |.inl i=>.int i|.inr x=>.str x
inductive HO where
 /-- a list -/
 |lst (xs:List V)
 /-- a tuple (never changes) -/
 |tup (xs:List V)
 /-- a dict whose keys are ints and texts;one whose keys are tuples of ints and texts (the empty one is both) -/
 |dK (kvs:List (Key×V))|dT (kvs:List (List Key×V))|dN (kvs:List (NK×V×V))
 /-- a set of ints: its members,its size -/
 |set (S:Int->Bool) (n:Nat)
 /-- an instance of the class at C,its dict at dx,its attributes -/
 |ins (C dx:Addr) (fs:List (Str×V))
 /-- the dict of the instance at x -/
 |own (x:Addr)
 /-- the dict of an exception -/
 |xd (fs:List (Str×V))
 /-- a bound method,f of x -/
 |met (f x:Addr)
 /-- a range object lo,lo+1,.. below hi -/
 |rng (lo hi:Int)
 /-- a thing that is known to the object (the script;a dict while a loop walks it): read,never written while it is so -/
 |O5 (o:Obj) (u:HO)
 /-- a code object's table -/
 |tbl (ps:Array Value)
 /-- a code object's table: whatever it holds,the codes made at these places are known and bear these names -/
 |tab (qs:List (Pos×Str))
 /-- any other thing,by what is true of its one object (a def of one's own: aaW a S n:=HO.ext λh=>..) -/
 |ext (φ:Heap->Prop)
abbrev Hp:=Addr->Option HO
def upd(H:Hp)(a:Addr)(o:HO):Hp:=λb=>if b=a then some o else H b
def bA:upd H a o a=some o:=by unfold upd;rw[Qv4 rfl]
def cj(h:b≠a):upd H a o b=H b:=by unfold upd;rw[Qv5 h]
def abk:upd (upd H a o) a u=upd H a u:=by funext b;unfold upd;split<;>rfl
def aiK{H:Hp}(h:H a=some o)(h':H b=some u)(d:o≠u):a≠b:=by intro e;subst e;rw[h] at h';exact d<|Qw4 h'
def gw{H:Hp}(h:H a=some o)(h':H b=none):a≠b:=by intro e;subst e;rw[h] at h';cases h'
def Hj(h:Heap)(a:Addr)(items:Array Value):Prop:=∃o,h.get? a=some o/\o.cls=.type "tuple"/\(∃n,o.data=.seq items n)/\o.dict=none
def Hj.is(x:Hj h a items):IsTup h a items:=let ⟨o,h1,h2,h3,_⟩:=x;⟨o,h1,h2,h3⟩
def Hj.new(h:Heap)(items):Hj (h.push { cls:=.type "tuple",data:=.seq items }) h.objs.size items:=⟨_,Qwv _ rfl,rfl,⟨_,rfl⟩,rfl⟩
section
variable(P:Program)(w:World)
def jx(H:Hp)(h:Heap)(a:Addr):HO->Prop
 |.lst xs=>xs.length<=sizeLine/\∃(its:List Value) (n:Nat),Vals xs its/\h.get? a=some { cls:=.type "list",data:=.seq its.toArray n }|.tup xs=>xs.length<=sizeLine/\∃its:List Value,Vals xs its/\Hj h a its.toArray|.dK kvs=>kvs.length<=sizeLine/\(a == sysModules)=false/\∃vs,KV kvs vs/\h.DictOf (fB P w) a vs
 |.dT kvs=>kvs.length<=sizeLine/\(a == sysModules)=false/\∃xs:List (List Key×Addr×Value),
   Paired (λ(p:List Key×V) (q:List Key×Addr×Value)=>p.1=q.1/\H q.2.1=some (.tup (p.1.map kV))/\RelV p.2 q.2.2) kvs xs/\
   ∃o es ep,h.get? a=some o/\o.ExactDict/\o.data=.dict es ep/\es.toList=xs.map (entryOfKey (tupleKind (fB P w)))/\(xs.map (·.1)).Nodup
 |.dN kvs=>kvs.length<=sizeLine/\(a == sysModules)=false/\∃xs:List (NK×Addr×Value),
   Paired (λ(p:NK×V×V) (q:NK×Addr×Value)=>p.1=q.1/\p.2.1=.ref q.2.1/\RelV p.2.2 q.2.2) kvs xs/\
   ∃o es ep,h.get? a=some o/\o.ExactDict/\o.data=.dict es ep/\es.toList=xs.map (entryOfKey (qt P w))/\(xs.map (·.1)).Nodup
 |.set S n=>h.SetOf (intKind P w) a S n
 |.ins C dx fs=>H dx=some (.own a)/\fs.length<=1000/\dx≠a/\h.get? a=some (PySem.W.instObj C dx)/\
   ∃mA,h.Ns1 dx mA/\(∀f,zT (fs.lookup f) (mA f))/\PySem.Within mA (fs.map (·.1))
 |.own _=>∃o,h.get? a=some o|.xd fs=>∃mA,h.Ns1 a mA/\∀f,zT (fs.lookup f) (mA f)|.rng lo hi=>∃t u v,h.get? a=some { cls:=.type "range",data:=.fields #[.int lo t,.int hi u,.int 1 v] }|.O5 o u=>h.get? a=some o/\jx H h a u|.tbl ps=>h.get? a=some { cls:=.none,data:=.fields ps }|.tab qs=>∃ps:Array Value,h.get? a=some { cls:=.none,data:=.fields ps }/\TriplesOk ps.toList/\∀q∈qs,codeAmong q.1 ps.toList=none\/∃(c:Addr) (o:Obj) (u:HO) (vs:Array Value) (t:Tok),codeAmong q.1 ps.toList=some (.ref c)/\H c=some (.O5 o u)/\o.data=.fields vs/\vs[1]?=some (.str q.2 t)|.met f x=>h.get? a=some (PySem.W.methodObj (.ref f) (.ref x))|.ext φ=>φ h/\(∃o,h.get? a=some o)/\∀h1 h2:Heap,φ h1->(∀o,h1.get? a=some o->h2.get? a=some o)->φ h2
def zW(H:Hp)(h:Heap):Prop:=∀a o,H a=some o->jx P w H h a o
end
section
variable{P:Program}{w:World}{H H':Hp}{h h':Heap}{a:Addr}{o:HO}
def jx.lt(x:jx P w H h a o):a<h.objs.size:=by
 cases o with
 |lst xs=>obtain⟨_,_,_,_,e⟩:=x;exact Qq9 e|tup xs=>obtain⟨_,_,_,p⟩:=x;exact p.is.lt|dK kvs=>obtain⟨_,_,_,_,o,_,_,e,_⟩:=x;exact Qq9 e|dT kvs=>obtain⟨_,_,_,_,o,_,_,e,_⟩:=x;exact Qq9 e|dN kvs=>obtain⟨_,_,_,_,o,_,_,e,_⟩:=x;exact Qq9 e|set S n=>obtain⟨o,_,_,_,e,_⟩:=x;exact Qq9 e|ins C dx fs=>obtain⟨_,_,_,e,_⟩:=x;exact Qq9 e|own y=>obtain⟨_,e⟩:=x;exact Qq9 e|xd fs=>obtain⟨_,⟨_,_,_,e,_⟩,_⟩:=x;exact Qq9 e|rng lo hi=>obtain⟨_,_,_,e⟩:=x;exact Qq9 e|O5 ob u=>obtain⟨e,_⟩:=x;exact Qq9 e|tbl ps=>exact Qq9<|show h.get? a=some _ from x|tab qs=>obtain⟨_,e,_⟩:=x;exact Qq9 e|met f y=>exact Qq9<|show h.get? a=some _ from x|ext φ=>obtain⟨_,⟨_,e⟩,_⟩:=x;exact Qq9 e
def Paired.af8{α β:Type}{F G:α->β->Prop}:∀{l₁} {l₂},Paired F l₁ l₂->(∀a b,F a b->G a b)->Paired G l₁ l₂
 |_,_,.nil,_=>.nil|_,_,.cons r t,f=>.cons (f _ _ r)<|Paired.af8 t f
def jx.stay(x:jx P w H h a o)(k:∀b u,(b=a\/H b=some (.own a))->h.get? b=some u->h'.get? b=some u)
  (ho:∀b,H b=some (.own a)->H' b=some (.own a)) (ht:∀b xs,H b=some (.tup xs)->H' b=some (.tup xs))
  (hz:∀b o u vs,o.data=.fields vs->H b=some (.O5 o u)->H' b=some (.O5 o u):=by intro _ _ _ _ _ q;exact q):jx P w H' h' a o:=by
 induction o with
 |lst xs=>obtain⟨z,its,n,r,e⟩:=x;exact⟨z,its,n,r,k _ _ (.inl rfl) e⟩|tup xs=>obtain⟨z,its,r,ob,e,c⟩:=x;exact⟨z,its,r,ob,k _ _ (.inl rfl) e,c⟩|dK kvs=>obtain⟨z,y,vs,r,ob,es,ep,e,c⟩:=x;exact⟨z,y,vs,r,ob,es,ep,k _ _ (.inl rfl) e,c⟩|dT kvs=>obtain⟨z,y,xs,r,ob,es,ep,e,c⟩:=x;exact⟨z,y,xs,Paired.af8 r λp q z=>⟨z.1,ht _ _ z.2.1,z.2.2⟩,ob,es,ep,k _ _ (.inl rfl) e,c⟩|dN kvs=>obtain⟨z,y,xs,r,ob,es,ep,e,c⟩:=x;exact⟨z,y,xs,r,ob,es,ep,k _ _ (.inl rfl) e,c⟩|set S n=>obtain⟨ob,es,ep,t,e,c⟩:=x;exact⟨ob,es,ep,t,k _ _ (.inl rfl) e,c⟩|ins C dx fs=>obtain⟨d,z,ne,e,mA,⟨od,es,ep,e2,c⟩,r⟩:=x;exact⟨ho _ d,z,ne,k _ _ (.inl rfl) e,mA,⟨od,es,ep,k _ _ (.inr d) e2,c⟩,r⟩|own y=>obtain⟨ob,e⟩:=x;exact⟨ob,k _ _ (.inl rfl) e⟩|xd fs=>obtain⟨mA,⟨od,es,ep,e,c⟩,r⟩:=x;exact⟨mA,⟨od,es,ep,k _ _ (.inl rfl) e,c⟩,r⟩|rng lo hi=>obtain⟨t,u,v,e⟩:=x;exact⟨t,u,v,k _ _ (.inl rfl) e⟩|O5 ob u ih=>obtain⟨e,q⟩:=x;exact⟨k _ _ (.inl rfl) e,ih q⟩|tbl ps=>have e:=x;exact k a _ (.inl rfl) e
 |tab qs=>
  obtain⟨ps,e,t,r⟩:=x;refine⟨ps,k a _ (.inl rfl) e,t,λq hq=>?_⟩;rcases r q hq with z|⟨c,o,u,vs,t,h1,h2,h3,h4⟩
  .exact .inl z
  .exact .inr ⟨c,o,u,vs,t,h1,hz c o u vs h3 h2,h3,h4⟩
 |met f y=>have e:=x;show h'.get? a=some (PySem.W.methodObj (.ref f)<|.ref y);exact k a _ (.inl rfl) e|ext φ=>obtain⟨p,⟨o,e⟩,st⟩:=x;exact⟨st _ _ p λo q=>k _ _ (.inl rfl) q,⟨o,k _ _ (.inl rfl) e⟩,st⟩
def zW.lt(x:zW P w H h)(e:H a=some o):a<h.objs.size:=(x a o e).lt
def zW.fresh(x:zW P w H h)(e:h.objs.size<=a):H a=none:=by
 cases q:H a with
 |none=>rfl|some u=>exact absurd (Qwx (x.lt q) e)<|Qz0 _
def zW.kept(x:zW P w H h)(k:∀b u,h.get? b=some u->h'.get? b=some u):zW P w H h':=λa o e=>
 (x a o e).stay (λb u _ q=>k b u q) (λ_ q=>q) λ_ _ q=>q
def zW.laid(x:zW P w H h)(k:∀b u,h.get? b=some u->h'.get? b=some u)(hp:h.objs.size<=a)(new:jx P w (upd H a o) h' a o):zW P w (upd H a o) h':=λb u e=>by
 have hn:=x.fresh hp;by_cases hb:b=a;subst hb;rw[bA] at e;cases e;exact new;rw[cj hb] at e;exact(x b u e).stay (λc v _ q=>k c v q) (λc q=>by rw[cj (gw q hn)];exact q) (λc xs q=>by rw[cj (gw q hn)];exact q) λc _ _ _ _ q=>by rw[cj (gw q hn)];exact q
end
def Rd(H:Hp)(a:Addr)(u:HO):Prop:=H a=some u\/∃o,H a=some (.O5 o u)
def Rd.ok(r:Rd H a u)(x:zW P w H h):jx P w H h a u:=by
 rcases r with r|⟨o,r⟩;exact x a u r;obtain⟨_,q⟩:=x a _ r;exact q
def Mut:Option HO->Prop
 |some (.lst _)=>True|some (.dK _)=>True|some (.dT _)=>True|some (.dN _)=>True|some (.set _ _)=>True|some (.ins _ _ _)=>True|some (.ext _)=>True|_=>False
section
variable{P:Program}{w:World}{H:Hp}{h h':Heap}{x e:Addr}{o':HO}
def zW.write(ok:zW P w H h)(mu:Mut (H x))(he:e=x\/H e=some (.own x))(k:∀b u,b≠e->h.get? b=some u->h'.get? b=some u)(heo:∃u,h'.get? e=some u)
  (new:jx P w (upd H x o') h' x o'):zW P w (upd H x o') h':=λb u q=>by
 have aiG:∀c y,H c=some (.own y)->c≠x:=λc y r z=>by subst z;rw[r] at mu;exact mu
 have akD:∀c xs,H c=some (.tup xs)->c≠x:=λc xs r z=>by subst z;rw[r] at mu;exact mu
 by_cases hb:b=x;subst hb;rw[bA] at q;cases q;exact new;rw[cj hb] at q;by_cases hbe:b=e;have q':H b=some (.own x):=by
  rcases he with z|z;exact absurd (hbe.trans z) hb;rw[hbe];exact z
 rw[q] at q';cases q';obtain⟨v,hv⟩:=heo;exact⟨v,by rw[hbe];exact hv⟩;refine(ok b u q).stay (λc v hc r=>k c v ?_ r) (λc r=>by rw[cj (aiG c b r)];exact r) (λc xs r=>by rw[cj (akD c xs r)];exact r) λc _ _ _ _ r=>by rw[cj (λz=>by subst z;rw[r] at mu;exact mu)];exact r
 rcases hc with rfl|hc;exact hbe;rintro rfl;rcases he with z|z;exact aiG c b hc z;rw[hc] at z;cases z;exact hb rfl
end
structure Un(fs ex:List Addr)(H H':Hp)(h h':Heap):Prop where
 keep:∀b o,h.get? b=some o->H b=none->b ∉ fs->b ∉ ex->h'.get? b=some o
 slot:∀b o,h.get? b=some o->H b=none->b∈fs->b ∉ ex->∃sl,h'.get? b=some { o with slots:=sl }
 free:∀b o,h.get? b=some o->H b=none->b ∉ ex->H' b=none
 there:∀b o,h.get? b=some o->b ∉ ex->∃o',h'.get? b=some o'
 tups:∀b xs,H b=some (.tup xs)->H' b=some (.tup xs)
 Gk:∀b o u,H b=some (.O5 o u)->H' b=some (.O5 o u)
 Mq:∀b ps,H b=some (.tbl ps)->∃more,H' b=some (.tbl (ps++more))
 tabs:∀b qs,H b=some (.tab qs)->H' b=some (.tab qs)
section
variable{fs fs' ex ex':List Addr}{H H1 H2:Hp}{h h1 h2 h':Heap}{a x e:Addr}{o:HO}
def Un.any(u:Un fs ex H H1 h h1)(q:h.get? b=some ob)(n:H b=none)(hx:b ∉ ex):∃sl,h1.get? b=some { ob with slots:=sl }:=by
 by_cases hb:b∈fs;exact u.slot b ob q n hb hx;exact⟨ob.slots,u.keep b ob q n hb hx⟩
def Un.kept(k:∀b u,h.get? b=some u->h'.get? b=some u):Un fs ex H H h h':=
 ⟨λb ob q _ _ _=>k b ob q,λb ob q _ _ _=>⟨ob.slots,k b ob q⟩,λ_ _ _ n _=>n,λb ob q _=>⟨ob,k b ob q⟩,λ_ _ q=>q,λ_ _ _ q=>q,λ_ ps q=>⟨#[],by rw[q];simp⟩,λ_ _ q=>q⟩
def Un.refl:Un fs ex H H h h:=Un.kept λ_ _ q=>q
def Un.laid(k:∀b u,h.get? b=some u->h'.get? b=some u)(hp:h.objs.size<=a)(hn:H a=none):Un fs ex H (upd H a o) h h' where
 keep:=λb u q _ _ _=>k b u q
 slot:=λb u q _ _ _=>⟨u.slots,k b u q⟩
 free:=λb u q n _=>by rw[cj (Qxq<|Qwx (Qq9 q) hp)];exact n
 there:=λb u q _=>⟨u,k b u q⟩
 tups:=λb xs q=>by rw[cj (gw q hn)];exact q
 Gk:=λb u xs q=>by rw[cj (gw q hn)];exact q
 Mq:=λb ps q=>⟨#[],by rw[cj (gw q hn),q];simp⟩
 tabs:=λb qs q=>by rw[cj (gw q hn)];exact q
def Un.write(mu:Mut (H x))(he:e=x\/H e=some (.own x))(k:∀b u,b≠e->h.get? b=some u->h'.get? b=some u)(heo:∃u,h'.get? e=some u):Un fs ex H (upd H x o) h h':=by
 have hx:∀b,H b=none->b≠x:=λb n z=>by subst z;rw[n] at mu;exact mu
 have hb:∀b,H b=none->b≠e:=λb n z=>by
  subst z;rcases he with r|r;exact hx b n r;rw[n] at r;cases r
 have hm:∀b u,H b=some u->¬Mut (some u)->b≠x:=λb u q nm z=>by subst z;rw[q] at mu;exact nm mu
 refine⟨λb u q n _ _=>k b u (hb b n) q,λb u q n _ _=>⟨u.slots,k b u (hb b n) q⟩,λb u q n _=>by rw[cj (hx b n)];exact n,λb u q _=>?_,
  λb xs q=>by rw[cj (hm b _ q λz=>z)];exact q,λb u xs q=>by rw[cj (hm b _ q λz=>z)];exact q,λb ps q=>⟨#[],by rw[cj (hm b _ q λz=>z),q];simp⟩,λb qs q=>by rw[cj (hm b _ q λz=>z)];exact q⟩
 by_cases hbe:b=e;subst hbe;exact heo;exact⟨u,k b u hbe q⟩
end
def trk(h:Heap)(H:Hp):List Addr:=(List.range h.objs.size).filter λa=>(H a).isSome
def KQ(h:Heap)(H:Hp):Heap:=PySem.W.hideAll h (trk h H)
def We(h)(H):(KQ h H).objs.size=h.objs.size:=PySem.W.hideAll_size _ _
def aae(e:h.get? b=some o)(n:H b=none):(KQ h H).get? b=some o:=
 PySem.W.hideAll_get _ e λhm=>by
  have q:=(Q03.mp hm).2;rw[n] at q;simp at q
def acb(e:(KQ h H).get? b=some o):h.get? b=some o/\H b=none:=by
 have e':=PySem.W.of_hideAll (trk h H) e;refine⟨e',?_⟩;cases q:H b with
 |none=>rfl|some x=>have hm:b∈trk h H:=Q03.mpr ⟨Qkj.mpr<|Qq9 e',by simp[q]⟩;have z:(KQ h H).get? b=none:=PySem.W.hideAll_none (trk h H) hm;rw[z] at e;cases e
def ac7(g h:Heap)(L:Addr):List (Addr×Obj):=(List.range h.objs.size).filterMap λa=>if a=L\/(g.get? a).isSome=true then none else (h.get? a).map λo=>(a,o)
def rest(g h:Heap)(L d:Addr):List (Addr×Obj):=(ac7 g h L).filter λp=>decide (p.1≠d)
structure Mod(K:PySem.W.Frag)(mg:Str->Option Value)(base:Heap):Prop where
 V5:K.In base
 glob:base.Ns mainGlobals mg
 blt:∃mb,base.Ns builtinsNs mb/\∀x:Str,x ≠ "__name__"->mb x=bootBuiltins x
 nolimit:base.NoLimit
structure Cx where
 prog:Program
 w:World
 K:PySem.W.Frag
 mg:Str->Option Value
 base:Heap
 A:Around
 N:List Str
 s₀:Shared
 H₀:Hp
 env:Env
 outer:List Env
 stack:List Env
 ex:List Addr
 fn:Str->Bool
 calm:Bool
 pn:List (Addr×Obj)
 xe:Value->Shared->Prop
def frs(l:List Env):List Addr:=l.filterMap (·.frame)
abbrev Cx.fs(X:Cx):List Addr:=frs X.outer
def zR(sc:Scope)(x:Str):Prop:=sc.names.lookup x=some .local\/sc.names.lookup x=some .cell\/sc.names.lookup x=some .free
def Loc(sc:Scope)(x:Str):Prop:=sc.names.lookup x=some .local\/sc.names.lookup x=some .cell
def Look(env:Env)(h:Heap)(m:Str->Option Value)(x:Str)(u:Value):Prop:=
 (env.kindOf x=some .local/\m x=some u)\/((env.kindOf x=some .cell\/env.kindOf x=some .free)/\∃c,env.cells.lookup x=some c/\h.IsCell c (some u))
structure Cx.Ok(X:Cx):Prop where
 mod:Mod X.K X.mg X.base
 kind:X.env.scope.kind=.function
 glob:X.env.globals=mainGlobals
 blt:X.env.builtins=builtinsNs
 above:X.s₀.heap.objs.size<=X.env.locals
 inj:∀x y c,X.env.cells.lookup x=some c->X.env.cells.lookup y=some c->x=y
 has:∀x,(X.env.kindOf x=some .cell\/X.env.kindOf x=some .free)->∃c,X.env.cells.lookup x=some c
 cab:∀x c,X.fn x=true->X.env.cells.lookup x=some c->X.s₀.heap.objs.size<=c
 hd:X.calm=true->X.A.handled=none
 frames:X.A.frames=some X.stack
 p6:X.stack=X.outer\/(X.stack=X.env::X.outer/\X.env.frame=some X.env.locals)
 exf:∀b∈X.ex,b≠X.env.locals/\∀x c,X.env.cells.lookup x=some c->c≠b
 bs:∀b o,X.base.get? b=some o->X.s₀.heap.get? b=some o/\X.H₀ b=none
 bsz:X.base.objs.size<=X.s₀.heap.objs.size
 Zr:∀b o,X.base.get? b=some o->b ∉ X.ex
 aaq:∀b∈X.ex,b ∉ X.fs
 Gj:X.s₀.heap.FunFrames X.base X.outer
 frf:∀b∈X.fs,X.H₀ b=none
structure Inv(X:Cx)(pins:List (Addr×Obj))(σ:List (Option V))(H:Hp)(s:Shared):Prop where
 ok:X.Ok
 os:s.os=X.s₀.os
 bare:AllBare s.gens
 base:Un X.fs X.ex X.H₀ H X.s₀.heap s.heap
 loc:∃m,s.heap.Ns X.env.locals m/\∀(i:Nat) (x:Str) (v:V),X.N[i]?=some x->σ[i]?=some (some v)->zR X.env.scope x->∃u,RelV v u/\Look X.env s.heap m x u
 cell:∀x c,X.env.cells.lookup x=some c->∃v,s.heap.IsCell c v
 free:H X.env.locals=none
 zx:∀x c,X.env.cells.lookup x=some c->H c=none\/(X.fn x=false/\∃o u,H c=some (.O5 o u))
 pin:∀p∈X.pn++pins,s.heap.get? p.1=some p.2/\H p.1=none/\p.1≠X.env.locals/\p.1 ∉ X.fs/\∀v,p.2.data ≠ .cell v
 hok:zW X.prog X.w H s.heap
 len:σ.length=X.N.length
section
variable{X:Cx}{pins:List (Addr×Obj)}{σ:List (Option V)}{H H':Hp}{s:Shared}{h':Heap}
def Cx.Ok.akF(ok:X.Ok)(e:X.base.get? b=some o):b ∉ X.fs:=λhb=>by
 have:=(ok.Gj.mem hb).1;rw[e] at this;cases this
def Inv.bs(I:Inv X pins σ H s):∀b o,X.base.get? b=some o->s.heap.get? b=some o/\H b=none:=λb o e=>
 ⟨I.base.keep b o (I.ok.bs b o e).1 (I.ok.bs b o e).2 (I.ok.akF e)<|I.ok.Zr b o e,I.base.free b o (I.ok.bs b o e).1 (I.ok.bs b o e).2<|I.ok.Zr b o e⟩
def Inv.bk(I:Inv X pins σ H s):∀b o,X.base.get? b=some o->s.heap.get? b=some o:=λb o e=>(I.bs b o e).1
def Inv.mod(I:Inv X pins σ H s):Mod X.K X.mg X.base:=I.ok.mod
def Inv.kIn(I:Inv X pins σ H s):X.K.In s.heap:=I.ok.mod.V5.keeps I.bk
def Inv.lt(I:Inv X pins σ H s):X.env.locals<s.heap.objs.size:=let ⟨_,hn,_⟩:=I.loc;hn.lt
def Inv.sz(I:Inv X pins σ H s):X.s₀.heap.objs.size<=s.heap.objs.size:=Qq1 I.ok.above<|Qv2 I.lt
def Inv.akE(I:Inv X pins σ H s){a:Addr}(h:s.heap.objs.size<=a):a ∉ X.fs:=λhb=>by
 obtain⟨_,o,ho,_⟩:=I.ok.Gj.mem hb;exact absurd (Qwx (Qq9 ho)<|Qq1 I.sz h)<|Qz0 _
def Inv.cne(I:Inv X pins σ H s):∀x c,X.env.cells.lookup x=some c->c≠X.env.locals:=λx c e z=>by
 obtain⟨v,o,ho,hd⟩:=I.cell x c e;obtain⟨m,⟨o',es,ep,ho',hd',_⟩,_⟩:=I.loc;rw[z,ho'] at ho;cases ho;rw[hd'] at hd;cases hd
def Inv.Gj(I:Inv X pins σ H s):s.heap.FunFrames X.base X.outer:=by
 have all:∀l,(∀b∈frs l,b∈X.fs)->X.s₀.heap.FunFrames X.base l->s.heap.FunFrames X.base l:=by
  intro l
  induction l with
  |nil=>intro _ _;trivial|cons env r ih=>intro hs hl;obtain⟨hk,⟨L,o,hf,hn,ho,hd⟩,hr⟩:=hl;have hL:=hs L (by unfold frs;rw[Qvx,hf];exact Qqj);obtain⟨sl,e⟩:=I.base.slot L o ho (I.ok.frf L hL) hL λz=>I.ok.aaq L z hL;exact⟨hk,⟨L,_,hf,hn,e,hd⟩,ih (λb hb=>hs b (by unfold frs;rw[Qvx,hf];exact Qqk _ hb)) hr⟩
 exact all X.outer (λ_ hb=>hb) I.ok.Gj
def Inv.stack(I:Inv X pins σ H s):s.heap.FunFrames X.base X.stack:=by
 rcases I.ok.p6 with e|⟨e,hf⟩;rw[e];exact I.Gj;rw[e];obtain⟨m,hn,_⟩:=I.loc;refine .cons (by rw[I.ok.kind];decide) hf hn ?_ I.Gj;exact Heap.get?_none_of_le<|Qq1 I.ok.bsz I.ok.above
def Inv.QT(I:Inv X pins σ H s):∀b∈frs X.stack,b∈X.env.locals::X.fs:=λb hb=>by
 rcases I.ok.p6 with e|⟨e,hf⟩;rw[e] at hb;exact Qqk _ hb;rw[e] at hb;unfold frs at hb;rw[Qvx,hf] at hb;exact hb
def Inv.SQ(I:Inv X pins σ H s):∀b∈frs X.stack,H b=none:=λb hb=>by
 rcases Qq4.mp (I.QT b hb) with e|hb;rw[e];exact I.free;obtain⟨_,o,ho,_⟩:=I.ok.Gj.mem hb;exact I.base.free b o ho (I.ok.frf b hb) λz=>I.ok.aaq b z hb
def Inv.step{ch:List Addr}(I:Inv X pins σ H s)
  (hch:∀b∈ch,(b∈X.ex\/X.s₀.heap.objs.size<=b)/\b≠X.env.locals/\(∀x c,X.env.cells.lookup x=some c->c≠b)/\∀p∈X.pn++pins,p.1≠b)
  (keep:∀b o,b≠X.env.locals->b ∉ X.fs->b ∉ ch->s.heap.get? b=some o->H b=none->h'.get? b=some o)
  (slot:∀b o,b≠X.env.locals->b∈X.fs->b ∉ ch->s.heap.get? b=some o->H b=none->∃sl,h'.get? b=some { o with slots:=sl }) (free:∀b o,b ∉ ch->s.heap.get? b=some o->H b=none->H' b=none)
  (there:∀b o,b ∉ ch->s.heap.get? b=some o->∃o',h'.get? b=some o')
  (tups:∀b xs,H b=some (.tup xs)->H' b=some (.tup xs)) (Gk:∀b o u,H b=some (.O5 o u)->H' b=some (.O5 o u)) (Mq:∀b ps,H b=some (.tbl ps)->∃more,H' b=some (.tbl (ps++more)))
  (ns:∀m,s.heap.Ns X.env.locals m->h'.Ns X.env.locals m) (hok:zW X.prog X.w H' h') (hg:AllBare g')
  (tabs:∀b qs,H b=some (.tab qs)->H' b=some (.tab qs):=by intro _ _ q;exact q) :
  Inv X pins σ H' { s with heap:=h',gens:=g',drawn:=d',toks:=t' }:=by
 have neL:∀b o,X.s₀.heap.get? b=some o->b≠X.env.locals:=λb o e=>Qxq<|Qwx (Qq9 e) I.ok.above;have neC:∀b o,X.s₀.heap.get? b=some o->b ∉ X.ex->b ∉ ch:=λb o e hx hb=>by
  rcases(hch b hb).1 with z|z
  .exact hx z
  .exact absurd (Qwx (Qq9 e) z)<|Qz0 _
 have cellK:∀x c,X.env.cells.lookup x=some c->∀v,s.heap.IsCell c v->h'.IsCell c v:=λx c e v ⟨o,ho,hd⟩=>by
  have nch:=λz=>(hch c z).2.2.1 x c e rfl;rcases I.zx x c e with hn|⟨_,fo,fu,hz⟩
  .by_cases hc:c∈X.fs
   .obtain⟨sl,q⟩:=slot c o (I.cne x c e) hc nch ho hn;exact⟨_,q,hd⟩
   .exact⟨o,keep c o (I.cne x c e) hc nch ho hn,hd⟩
  .have e1:=(I.hok c _ hz).1;rw[ho] at e1;cases e1;exact⟨o,(hok c _<|Gk c o fu hz).1,hd⟩
 refine⟨I.ok,I.os,hg,⟨λb o e n hb hx=>?_,λb o e n hb hx=>?_,λb o e n hx=>?_,λb o e hx=>?_,λb xs e=>tups b xs<|I.base.tups b xs e,λb o xs e=>Gk b o xs<|I.base.Gk b o xs e,λb ps e=>?_,λb qs e=>tabs b qs<|I.base.tabs b qs e⟩,?_,λx c e=>?_,?_,λx c e=>?_,λp hp=>?_,hok,I.len⟩
 .exact keep b o (neL b o e) hb (neC b o e hx) (I.base.keep b o e n hb hx)<|I.base.free b o e n hx
 .obtain⟨sl,e1⟩:=I.base.slot b o e n hb hx;obtain⟨sl',e2⟩:=slot b _ (neL b o e) hb (neC b o e hx) e1<|I.base.free b o e n hx;exact⟨sl',e2⟩
 .obtain⟨o',e1⟩:=I.base.there b o e hx;exact free b o' (neC b o e hx) e1<|I.base.free b o e n hx
 .obtain⟨o',e1⟩:=I.base.there b o e hx;exact there b o' (neC b o e hx) e1
 .obtain⟨m1,e1⟩:=I.base.Mq b ps e;obtain⟨m2,e2⟩:=Mq b _ e1;exact⟨m1++m2,by rw[e2,Array.append_assoc]⟩
 .obtain⟨m,hn,hl⟩:=I.loc;refine⟨m,ns m hn,λi x v e1 e2 e3=>?_⟩;obtain⟨u,r,l⟩:=hl i x v e1 e2 e3;refine⟨u,r,?_⟩;rcases l with l|⟨k,c,e,z⟩
  .exact .inl l
  .exact .inr ⟨k,c,e,cellK x c e _ z⟩
 .obtain⟨v,z⟩:=I.cell x c e;exact⟨v,cellK x c e v z⟩
 .obtain⟨m,⟨o,_,_,ho,_⟩,_⟩:=I.loc;exact free _ o (λz=>(hch _ z).2.1 rfl) ho I.free
 .rcases I.zx x c e with hn|⟨h1,fo,fu,hz⟩
  .obtain⟨v,o,ho,hd⟩:=I.cell x c e;exact .inl<|free c o (λz=>(hch c z).2.2.1 x c e rfl) ho hn
  .exact .inr ⟨h1,fo,fu,Gk c fo fu hz⟩
 .obtain⟨e,n,ne,nf,d⟩:=I.pin p hp;have nch:=λz=>(hch p.1 z).2.2.2 p hp rfl;exact⟨keep p.1 p.2 ne nf nch e n,free p.1 p.2 nch e n,ne,nf,d⟩
def Inv.un(I:Inv X pins σ H s)(u:Un X.fs [] H H' s.heap h')(hok:zW X.prog X.w H' h'):Inv X pins σ H' { s with heap:=h',toks:=t' }:=by
 obtain⟨m,⟨o,es,ep,ho,r⟩,_⟩:=id I.loc;obtain⟨sl,hL⟩:=u.any ho I.free (by simp);exact I.step (ch:=[]) (λ_ z=>nomatch z) (λb o _ hb _ e n=>u.keep b o e n hb (by simp)) (λb o _ hb _ e n=>u.slot b o e n hb (by simp)) (λb o _ e n=>u.free b o e n (by simp)) (λb o _ e=>u.there b o e (by simp)) u.tups u.Gk u.Mq (λm' hm=>by
  obtain⟨o',es',ep',ho',r'⟩:=hm;rw[ho] at ho';cases ho';exact⟨_,es',ep',hL,r'⟩) hok I.bare u.tabs
def Inv.call(I:Inv X pins σ H s)(u:Un (frs X.stack) ch H H' s.heap h')(hok:zW X.prog X.w H' h')(hg:AllBare g')
  (hch:∀b∈ch,(b∈X.ex\/X.s₀.heap.objs.size<=b)/\b≠X.env.locals/\(∀x c,X.env.cells.lookup x=some c->c≠b)/\∀p∈X.pn++pins,p.1≠b) :
  Inv X pins σ H' { s with heap:=h',gens:=g',drawn:=d',toks:=t' }:=by
 obtain⟨m,⟨o,es,ep,ho,r⟩,_⟩:=id I.loc;obtain⟨sl,hL⟩:=u.any ho I.free λz=>(hch _ z).2.1 rfl;exact I.step hch (λb o hL hb hc e n=>u.keep b o e n (λz=>(Qq4.mp<|I.QT b z).elim hL hb) hc) (λb o _ _ hc e n=>u.any e n hc) (λb o hc e n=>u.free b o e n hc) (λb o hc e=>u.there b o e hc) u.tups u.Gk u.Mq (λm' hm=>by
  obtain⟨o',es',ep',ho',r'⟩:=hm;rw[ho] at ho';cases ho';exact⟨_,es',ep',hL,r'⟩) hok hg u.tabs
def Inv.turned(I:Inv X pins σ H s)(k:∀b o,b≠it->s.heap.get? b=some o->h'.get? b=some o)(hn:H it=none)(hL:it≠X.env.locals)
  (h1:it∈X.ex\/X.s₀.heap.objs.size<=it) (h2:∀x c,X.env.cells.lookup x=some c->c≠it) (h3:∀p∈X.pn++pins,p.1≠it):Inv X pins σ H { s with heap:=h',toks:=t' }:=by
 have nit:∀b u,H b=some u->b≠it:=λb u e z=>by rw[z,hn] at e;cases e
 refine I.step (ch:=[it]) (λb hb=>?_) (λb o _ _ hc e _=>k b o (λz=>hc (by simp[z])) e) (λb o _ _ hc e _=>⟨o.slots,k b o (λz=>hc (by simp[z])) e⟩) (λ_ _ _ _ n=>n)
  (λb o hc e=>⟨o,k b o (λz=>hc (by simp[z])) e⟩) (λ_ _ e=>e) (λ_ _ _ e=>e) (λb ps e=>⟨#[],by rw[e];simp⟩) (λm hm=>?_) (λb u e=>?_) I.bare
 have e:b=it:=by simpa using hb
 subst e;exact⟨h1,hL,h2,h3⟩;obtain⟨o,es,ep,ho,r⟩:=hm;exact⟨o,es,ep,k _ o (Ne.symm hL) ho,r⟩;refine(I.hok b u e).stay (λc v hc q=>k c v ?_ q) (λ_ q=>q) λ_ _ q=>q;rcases hc with z|z;rw[z];exact nit b u e;exact nit c _ z
def Inv.tok(I:Inv X pins σ H s)(t):Inv X pins σ H { s with toks:=t }:=I.un Un.refl I.hok
def Inv.kept(I:Inv X pins σ H s)(k:∀b u,s.heap.get? b=some u->h'.get? b=some u):Inv X pins σ H { s with heap:=h',toks:=t' }:=I.un (Un.kept k)<|I.hok.kept k
def Inv.laid{a:Addr}(I:Inv X pins σ H s)(k:∀b u,s.heap.get? b=some u->h'.get? b=some u)(hp:s.heap.objs.size<=a)(new:jx X.prog X.w (upd H a o) h' a o) :
  Inv X pins σ (upd H a o) { s with heap:=h',toks:=t' }:=I.un (Un.laid k hp<|I.hok.fresh hp)<|I.hok.laid k hp new
def Inv.write(I:Inv X pins σ H s)(mu:Mut (H x))(he:e=x\/H e=some (.own x))(k:∀b u,b≠e->s.heap.get? b=some u->h'.get? b=some u)(heo:∃u,h'.get? e=some u)
  (new:jx X.prog X.w (upd H x o) h' x o):Inv X pins σ (upd H x o) { s with heap:=h',toks:=t' }:=I.un (Un.write mu he k heo)<|I.hok.write mu he k heo new
def Inv.Tt(I:Inv X pins σ H s)(h:∀p∈adO,s.heap.get? p.1=some p.2/\H p.1=none/\p.1≠X.env.locals/\p.1 ∉ X.fs/\∀v,p.2.data ≠ .cell v):Inv X adO σ H s:=
 ⟨I.ok,I.os,I.bare,I.base,I.loc,I.cell,I.free,I.zx,λp hp=>(Qww.mp hp).elim (λz=>I.pin p<|Qzy _ z)<|h p,I.hok,I.len⟩
def N8{N:List Str}(hN:N.Nodup){i j:Nat}(a:N[i]?=some x)(b:N[j]?=some x):i=j:=by obtain⟨h1,e1⟩:=Qq5.mp a;obtain⟨h2,e2⟩:=Qq5.mp b;exact(List.getElem_inj hN).mp<|e1.trans e2.symm
def Ip(I:Inv X pins σ H s)(hN:X.N.Nodup)(hi:X.N[i]?=some x)(hx:Loc X.env.scope x)(r:RelV v u)
  (h:∀s',Inv X pins (σ.set i (some v)) H s'->(∃a,Heap.SameBut a s.heap s'.heap/\(a=X.env.locals\/X.env.cells.lookup x=some a))->Q () s') (hf:X.fn x=true\/X.env.scope.names.lookup x=some .local:=by first|exact .inl rfl|exact .inr rfl|assumption):wpAny M A (storeName X.env x u) Q E s:=by
 obtain⟨m,hn,hl⟩:=id I.loc;have hcls:(X.env.scope.kind == .class||(X.env.scope.kind == .module&&X.env.locals != X.env.globals))=false:=by rw[I.ok.kind];rfl
 have hiσ:i<σ.length:=by rw[I.len];exact(Qq5.mp hi).1
 have cne:=I.cne;have tracked:∀{a} {h'},(∃o,s.heap.get? a=some o/\H a=none)->Heap.SameBut a s.heap h'->zW X.prog X.w H h':=λ{a h'} ha hs b ob e=>by
  obtain⟨_,_,hfree⟩:=ha;refine(I.hok b ob e).stay (λc w' hc q=>(hs.2 c ?_).trans q) (λ_ q=>q) λ_ _ q=>q;rintro rfl;rcases hc with rfl|hc;rw[hfree] at e;cases e;rw[hfree] at hc;cases hc
 rcases hx with hk|hk;refine wpAny_storeName_local hk hn (λh' hn' hs=>?_) hcls;obtain⟨oL,_,_,hoL,_⟩:=id hn;refine h _ ⟨I.ok,I.os,I.bare,⟨λb o e n hb hx=>?_,λb o e n hb hx=>?_,I.base.free,λb o e hx=>?_,I.base.tups,I.base.Gk,I.base.Mq,I.base.tabs⟩,⟨_,hn',λj y v' e1 e2 e3=>?_⟩,λy c e=>?_,I.free,I.zx,λp hp=>?_,tracked ⟨oL,hoL,I.free⟩ hs,by simpa using I.len⟩ ⟨_,hs,.inl rfl⟩;exact(hs.2 b<|Qxq<|Qwx (Qq9 e) I.ok.above).trans<|I.base.keep b o e n hb hx;obtain⟨sl,e1⟩:=I.base.slot b o e n hb hx;exact⟨sl,(hs.2 b<|Qxq<|Qwx (Qq9 e) I.ok.above).trans e1⟩;obtain⟨o',e1⟩:=I.base.there b o e hx;exact⟨o',(hs.2 b<|Qxq<|Qwx (Qq9 e) I.ok.above).trans e1⟩;by_cases hj:j=i;subst hj;rw[hi] at e1;cases e1;rw[Qw9 hiσ] at e2;cases e2;exact⟨u,r,.inl ⟨hk,by simp⟩⟩;rw[Qw5 (Ne.symm hj)] at e2;obtain⟨u',r',q⟩:=hl j y v' e1 e2 e3;refine⟨u',r',?_⟩;rcases q with ⟨k,e⟩|⟨k,c,e,z⟩;refine .inl ⟨k,?_⟩;have:y≠x:=λe=>hj<|N8 hN e1<|e ▸ hi;simp[this,e];exact .inr ⟨k,c,e,z.sameBut hs<|cne y c e⟩;obtain⟨w',z⟩:=I.cell y c e;exact⟨w',z.sameBut hs<|cne y c e⟩;obtain⟨e,n,ne,nf,d⟩:=I.pin p hp;exact⟨(hs.2 p.1 ne).trans e,n,ne,nf,d⟩;have hfn:X.fn x=true:=by
  rcases hf with z|z;exact z;rw[z] at hk;cases hk
 obtain⟨c,hc⟩:=I.ok.has x<|.inl hk;obtain⟨w',z⟩:=I.cell x c hc;refine wpAny_storeName_cell I.ok.kind hk hc z<|λh' hc' hs=>?_;obtain⟨oc,hoc,akU⟩:=id z;refine h { s with heap:=h' } ⟨I.ok,I.os,I.bare,⟨λb o e n hb hx=>?_,λb o e n hb hx=>?_,I.base.free,λb o e hx=>?_,I.base.tups,I.base.Gk,I.base.Mq,I.base.tabs⟩,⟨m,hn.sameBut hs<|Ne.symm<|cne x c hc,λj y v' e1 e2 e3=>?_⟩,λy c' e=>?_,I.free,I.zx,λp hp=>?_,tracked ⟨oc,hoc,(I.zx x c hc).resolve_right λz=>by rw[hfn] at z;cases z.1⟩ hs,by simpa using I.len⟩ ⟨c,hs,.inr hc⟩;exact(hs.2 b<|Qxq<|Qwx (Qq9 e)<|I.ok.cab x c hfn hc).trans<|I.base.keep b o e n hb hx;obtain⟨sl,e1⟩:=I.base.slot b o e n hb hx;exact⟨sl,(hs.2 b<|Qxq<|Qwx (Qq9 e)<|I.ok.cab x c hfn hc).trans e1⟩;obtain⟨o',e1⟩:=I.base.there b o e hx;exact⟨o',(hs.2 b<|Qxq<|Qwx (Qq9 e)<|I.ok.cab x c hfn hc).trans e1⟩;by_cases hj:j=i;subst hj;rw[hi] at e1;cases e1;rw[Qw9 hiσ] at e2;cases e2;exact⟨u,r,.inr ⟨.inl hk,c,hc,hc'⟩⟩;rw[Qw5 (Ne.symm hj)] at e2;obtain⟨u',r',q⟩:=hl j y v' e1 e2 e3;refine⟨u',r',?_⟩;rcases q with q|⟨k,c',e,z'⟩;exact .inl q;refine .inr ⟨k,c',e,z'.sameBut hs ?_⟩;rintro rfl;exact hj<|N8 hN e1<|I.ok.inj _ _ _ e hc ▸ hi;by_cases hcc:c'=c;subst hcc;exact⟨_,hc'⟩;obtain⟨w2,z2⟩:=I.cell y c' e;exact⟨w2,z2.sameBut hs hcc⟩;obtain⟨e,n,ne,nf,d⟩:=I.pin p hp;refine⟨(hs.2 p.1 ?_).trans e,n,ne,nf,d⟩;intro q;rw[q,hoc] at e;exact d w' (by rw[<-(Qw4 e)];exact akU)
def Eh(I:Inv X pins σ H s)(hN:X.N.Nodup)(hi:X.N[i]?=some x)(hx:Loc X.env.scope x)(r:RelV v u)
  (h:∀s',Inv X pins (σ.set i (some v)) H s'->Q () s') (hf:X.fn x=true\/X.env.scope.names.lookup x=some .local:=by first|exact .inl rfl|exact .inr rfl|assumption):wpAny M A (storeName X.env x u) Q E s:=
 Ip I hN hi hx r (λs' I' _=>h s' I') hf
def Inv.call'(I:Inv X pins σ H s)(ho:s'.os=s.os)(u:Un (frs X.stack) ch H H' s.heap s'.heap)(hok:zW X.prog X.w H' s'.heap)(hg:AllBare s'.gens)
  (hch:∀b∈ch,(b∈X.ex\/X.s₀.heap.objs.size<=b)/\b≠X.env.locals/\(∀x c,X.env.cells.lookup x=some c->c≠b)/\∀p∈X.pn++pins,p.1≠b):Inv X pins σ H' s':=by
 obtain⟨h',g',d',t',o'⟩:=s';subst ho;exact I.call u hok hg hch
end
abbrev XK:=Value->Option Addr->Hp->Prop
abbrev St:=List (Option V)
abbrev VK:=V->Hp->Prop
abbrev TE:=St->Hp->VK->Prop
abbrev TT:=St->Hp->(Bool->Hp->Prop)->Prop
abbrev TA:=St->Hp->(List V->Hp->Prop)->Prop
structure Ends where
 nx:St->Hp->Prop
 rt:VK
 bk:St->Hp->Prop:=λ_ _=>False
 ct:St->Hp->Prop:=λ_ _=>False
abbrev TS:=Ends->St->Hp->Prop
def EP(X:Cx)(pins:List (Addr×Obj))(σ:St)(Q:VK)(u:Value)(s':Shared):Prop:=∃v H',Inv X pins σ H' s'/\RelV v u/\Q v H'
def TP(X:Cx)(pins:List (Addr×Obj))(σ:St)(Q:Bool->Hp->Prop)(b:Bool)(s':Shared):Prop:=∃H',Inv X pins σ H' s'/\Q b H'
def AP(X:Cx)(pins:List (Addr×Obj))(σ:St)(Q:List V->Hp->Prop)(us:List Value)(s':Shared):Prop:=∃vs H',Inv X pins σ H' s'/\Vals vs us/\Q vs H'
def SP(X:Cx)(pins:List (Addr×Obj))(D:Ends)(f:Flow)(s':Shared):Prop:=
 match f with
 |.next=>∃σ' H',Inv X pins σ' H' s'/\D.nx σ' H'|.brk=>∃σ' H',Inv X pins σ' H' s'/\D.bk σ' H'|.cont=>∃σ' H',Inv X pins σ' H' s'/\D.ct σ' H'|.ret u=>∃v σ' H',Inv X pins σ' H' s'/\RelV v u/\D.rt v H'
def PE(X:Cx)(e:Expr)(t:TE):Prop:=
 ∀(pins:List (Addr×Obj)) (s:Shared) (σ:St) (H:Hp) (Q:VK),Inv X pins σ H s->t σ H Q->wpAny (model X.prog X.w) X.A (eval e X.env) (EP X pins σ Q) X.xe s
def PT(X:Cx)(e:Expr)(t:TT):Prop:=
 ∀(pins:List (Addr×Obj)) (s:Shared) (σ:St) (H:Hp) (Q:Bool->Hp->Prop),Inv X pins σ H s->t σ H Q->wpAny (model X.prog X.w) X.A (isTrue e X.env (eval e X.env)) (TP X pins σ Q) X.xe s
def PW(X:Cx)(e:Expr)(t:TT):Prop:=
 ∀(whole:Sem Value) (pins:List (Addr×Obj)) (s:Shared) (σ:St) (H:Hp) (Q:Bool->Hp->Prop),Inv X pins σ H s->t σ H Q->wpAny (model X.prog X.w) X.A (isTrue e X.env whole) (TP X pins σ Q) X.xe s
def PW.pt(h:PW X e t):PT X e t:=h _
def PA(X:Cx)(es:List Expr)(t:TA):Prop:=
 ∀(pos:Pos) (pins:List (Addr×Obj)) (s:Shared) (σ:St) (H:Hp) (Q:List V->Hp->Prop),Inv X pins σ H s->t σ H Q->wpAny (model X.prog X.w) X.A (spliced (backTo pos (starEach es X.env))) (AP X pins σ Q) X.xe s
def PS(X:Cx)(st:Stmt)(t:TS):Prop:=
 ∀(pins:List (Addr×Obj)) (s:Shared) (σ:St) (H:Hp) (D:Ends),Inv X pins σ H s->t D σ H->wpAny (model X.prog X.w) X.A (exec st X.env) (SP X pins D) X.xe s
def Qj(X:Cx)(st:List Stmt)(t:TS):Prop:=
 ∀(pins:List (Addr×Obj)) (s:Shared) (σ:St) (H:Hp) (D:Ends),Inv X pins σ H s->t D σ H->wpAny (model X.prog X.w) X.A (execs st X.env) (SP X pins D) X.xe s
def gR{α:Type}{t:Sem α}{Q Q':α->Shared->Prop}(h:wpAny M A t Q E s)(hQ:∀a s,Q a s->Q' a s):wpAny M A t Q' E s:=Qj2 h hQ λ_ _ x=>x
section
variable{X:Cx}
def ahF(i:Nat):TE:=λσ H Q=>∃v,σ[i]?=some (some v)/\Q v H
def tC(v:V):TE:=λ_ H Q=>Q v H
def mj{pos:Pos}(hN:X.N[i]? = some x)(hv:zR X.env.scope x)(hd:qT x:=by decide)(hcd:Bb x:=by decide):PE X (.Name x pos) (ahF i):=by
 intro pins s σ H Q I h;obtain⟨v,e,h⟩:=h;obtain⟨m,hn,hl⟩:=I.loc;obtain⟨u,r,l⟩:=hl i x v hN e hv;have fin:EP X pins σ Q u s:=⟨v,H,I,r,h⟩;rcases l with ⟨hk,hm⟩|⟨hk,c,hc,hcell⟩;exact wpAny_Name (wpAny_loadName_local I.ok.kind hk hn hm fin) hd;rcases hk with hk|hk;exact wpAny_Name (wpAny_loadName_cell I.ok.kind hk hc hcell fin) hd;exact wpAny_Name (wpAny_loadName_free I.ok.kind hk hc hcell fin hcd) hd
def YT{i j pos}:PE X (.Constant (.int i) j pos) (tC (.int i)):=λ_ _ _ H _ I h=>wpAny_Constant_int ⟨.int i,H,I.tok _,⟨_,rfl⟩,h⟩
def ais{b j pos}:PE X (.Constant (.bool b) j pos) (tC (.bl b)):=λ_ _ _ H _ I h=>Constant_bool ⟨.bl b,H,I,rfl,h⟩
def afp{j pos}:PE X (.Constant .none j pos) (tC .non):=λ_ _ _ H _ I h=>Constant_none ⟨.non,H,I,rfl,h⟩
def afn{x j pos}:PE X (.Constant (.str x) j pos) (tC (.str x)):=λ_ _ _ H _ I h=>Calls.Constant_str ⟨.str x,H,I.tok _,⟨_,rfl⟩,h⟩
def Gl(X:Cx)(x:Str):Prop:=X.env.kindOf x=some .globalImplicit
def T3{σ:St}(I:Inv X pins σ H s)(hg:Gl X x)(hm:X.mg x=some u)(h:Q u s)
  (hd:qT x:=by decide):wpAny (model X.prog X.w) X.A (eval (.Name x pos) X.env) Q E s:=
 Qd9 I.ok.kind hg (Calls.loadGlobal_global (by rw[I.ok.glob];exact I.mod.glob.keeps I.bk) hm h) hd
def uo{E:Value->Shared->Prop}{σ:St}{pos:Pos}(I:Inv X pins σ H s)(hg:Gl X x)(hm:X.mg x=none)(hv:bootBuiltins x=some u)(h:Q u s)
  (hn:x ≠ "__name__":=by decide) (hd:qT x:=by decide):wpAny (model X.prog X.w) X.A (eval (.Name x pos) X.env) Q E s:=by
 obtain⟨mb,h1,h2⟩:=I.mod.blt;exact Qd9 I.ok.kind hg (Calls.loadGlobal_builtin (by rw[I.ok.glob];exact I.mod.glob.keeps I.bk) hm (by rw[I.ok.blt];exact h1.keeps I.bk) ((h2 x hn).trans hv) h) hd
def ab0(hg:Gl X x)(hm:X.mg x=some u)(r:RelV v u)(hd:qT x:=by decide):PE X (.Name x pos) (tC v):=
 λ_ _ _ H _ I h=>T3 I hg hm ⟨v,H,I,r,h⟩ hd
def ab4{pos:Pos}(hg:Gl X x)(hm:X.mg x=none)(hv:bootBuiltins x=some u)(r:RelV v u)(hn:x ≠ "__name__":=by decide)(hd:qT x:=by decide):PE X (.Name x pos) (tC v):=
 λ_ _ _ H _ I h=>uo I hg hm hv ⟨v,H,I,r,h⟩ hn hd
variable{a b:Expr}{ta tb:TE}{pos:Pos}
def tB(t:TE):TT:=λσ H Q=>t σ H λx H1=>∃c,x=.bl c/\Q c H1
def afb(h:PE X e t)(he:∀whole,isTrue e X.env whole=(do let v <-whole;standAt e.pos;holding [v] (truthy v)):=by intro _;rfl):PT X e (tB t):=by intro pins s σ H Q I hw;refine isTrue_plain (gR (h pins s σ H _ I hw) λv s1 ⟨x,H1,I1,r1,q1⟩=>?_)<|he _;obtain⟨d,rfl,q⟩:=q1;cases r1;exact Qkv ⟨H1,I1,q⟩
variable{tA tB':TT}{rest:List Expr}
def akr(t u:TT):TT:=λσ H Q=>t σ H λc H1=>if c=true then u σ H1 Q else Q false H1
def tOr(t u:TT):TT:=λσ H Q=>t σ H λc H1=>if c=true then Q true H1 else u σ H1 Q
def aki(t:TT):TT:=λσ H Q=>t σ H λc H1=>Q (!c) H1
def pw_and1(ha:PT X a tA):PW X (.BoolOp .And [a] pos) tA:=by
 intro wh pins s σ H Q I h;refine isTrue_and<|gR (ha pins s σ H Q I h) λc s1 e=>?_;cases c with
 |true=>exact isTrue_and_nil e|false=>exact e
def pw_or1(ha:PT X a tA):PW X (.BoolOp .Or [a] pos) tA:=by
 intro wh pins s σ H Q I h;refine isTrue_or<|gR (ha pins s σ H Q I h) λc s1 e=>?_;cases c with
 |false=>exact isTrue_or_nil e|true=>exact e
def pw_and(ha:PT X a tA)(hb:PW X (.BoolOp .And (b::rest) pos) tB'):PW X (.BoolOp .And (a::b::rest) pos) (akr tA tB'):=by
 intro wh pins s σ H Q I h;refine isTrue_and<|gR (ha pins s σ H _ I h) λc s1 ⟨H1,I1,q1⟩=>?_;cases c with
 |true=>exact hb wh pins s1 σ H1 Q I1 q1|false=>exact⟨H1,I1,q1⟩
def pw_or(ha:PT X a tA)(hb:PW X (.BoolOp .Or (b::rest) pos) tB'):PW X (.BoolOp .Or (a::b::rest) pos) (tOr tA tB'):=by
 intro wh pins s σ H Q I h;refine isTrue_or<|gR (ha pins s σ H _ I h) λc s1 ⟨H1,I1,q1⟩=>?_;cases c with
 |true=>exact⟨H1,I1,q1⟩|false=>exact hb wh pins s1 σ H1 Q I1 q1
def afc(ha:PT X a tA):PT X (.UnaryOp .Not a pos) (aki tA):=by intro pins s σ H Q I h;exact isTrue_not<|ha pins s σ H (λc H1=>Q (!c) H1) I h
def ahN(ta tb:TE):TE:=λσ H Q=>ta σ H λx H1=>∃c,x=.bl c/\if c=true then tb σ H1 Q else Q (.bl false) H1
def akh(ta tb:TE):TE:=λσ H Q=>ta σ H λx H1=>∃c,x=.bl c/\if c=true then Q (.bl true) H1 else tb σ H1 Q
def Rm{op}(h:PE X a t):PE X (.BoolOp op [a] pos) t:=λpins s σ H Q I hw=>BoolOp_one<|h pins s σ H Q I hw
def afs(ha:PE X a ta)(hb:PE X (.BoolOp .And (b::rest) pos) tb):PE X (.BoolOp .And (a::b::rest) pos) (ahN ta tb):=by
 intro pins s σ H Q I h;refine BoolOp_and<|gR (ha pins s σ H _ I h) λv s1 ⟨x,H1,I1,r1,q1⟩=>?_;obtain⟨c,rfl,q1⟩:=q1;cases r1;refine Qkv ?_;cases c with
 |true=>exact hb pins s1 σ H1 Q I1 q1|false=>exact⟨.bl false,H1,I1,rfl,q1⟩
def aiq(ha:PE X a ta)(hb:PE X (.BoolOp .Or (b::rest) pos) tb):PE X (.BoolOp .Or (a::b::rest) pos) (akh ta tb):=by
 intro pins s σ H Q I h;refine BoolOp_or<|gR (ha pins s σ H _ I h) λv s1 ⟨x,H1,I1,r1,q1⟩=>?_;obtain⟨c,rfl,q1⟩:=q1;cases r1;refine Qkv ?_;cases c with
 |false=>exact hb pins s1 σ H1 Q I1 q1|true=>exact⟨.bl true,H1,I1,rfl,q1⟩
def tIf(t:TT)(ta tb:TE):TE:=λσ H Q=>t σ H λc H1=>if c=true then ta σ H1 Q else tb σ H1 Q
def YW(hc:PT X c tA)(ha:PE X a ta)(hb:PE X b tb):PE X (.IfExp c a b pos) (tIf tA ta tb):=by
 intro pins s σ H Q I h;refine wpAny_IfExp<|gR (hc pins s σ H _ I h) λd s1 ⟨H1,I1,q1⟩=>?_;cases d with
 |true=>exact ha pins s1 σ H1 Q I1 q1|false=>exact hb pins s1 σ H1 Q I1 q1
end
def lK(K:PySem.W.Frag)(H:Hp)(a:Addr)(xs:List V):Prop:=
 Rd H a (.lst xs)\/
  ∃(o:Obj) (its:Array Value) (n:Nat),K.lookup a=some o/\o.cls=.type "list"/\o.dict=none/\o.data=.seq its n/\its.size<=sizeLine/\Vals xs its.toList
def pg(K:PySem.W.Frag)(H:Hp)(a:Addr)(xs:List V):Prop:=
 Rd H a (.tup xs)\/
  ∃(o:Obj) (its:Array Value) (n:Nat),K.lookup a=some o/\o.cls=.type "tuple"/\o.dict=none/\o.data=.seq its n/\its.size<=sizeLine/\Vals xs its.toList
def alf:Value->Option V
 |.none=>some .non|.bool b=>some (.bl b)|.int i _=>some (.int i)|.str x _=>some (.str x)|.bytes b _=>some (.byt b)|.float b _=>some (.flt b)|.ref a=>some (.ref a)|.type n=>some (.ty n)|_=>none
def RelV.abs(r:RelV x u):alf u=some x:=by
 cases x with
 |non=>cases r;rfl|bl _=>cases r;rfl|int _=>obtain⟨t,rfl⟩:=r;rfl|str _=>obtain⟨t,rfl⟩:=r;rfl|byt _=>obtain⟨t,rfl⟩:=r;rfl|flt _=>obtain⟨t,rfl⟩:=r;rfl|ref _=>cases r;rfl|ty _=>cases r;rfl
def RelV.inj(r:RelV x u)(q:RelV y u):x=y:=Qw4<|r.abs.symm.trans q.abs
def Vals.inj:∀{xs ys} {us},Vals xs us->Vals ys us->xs=ys
 |_,_,_,.nil,.nil=>rfl|_,_,_,.cons r t,.cons r' t'=>by rw[r.inj r',Vals.inj t t']
section
variable{X:Cx}{pins:List (Addr×Obj)}{σ:St}{H:Hp}{s:Shared}{a:Addr}{xs ys:List V}
theorem lK.of{K:PySem.W.Frag}(h:H a=some (.lst xs)):lK K H a xs:=.inl<|.inl h
theorem pg.of{K:PySem.W.Frag}(h:H a=some (.tup xs)):pg K H a xs:=.inl<|.inl h
def Inv.list(I:Inv X pins σ H s)(h:lK X.K H a xs):∃its,Vals xs its/\PlainL s.heap a its.toArray/\xs.length<=sizeLine:=by
 rcases h with h|⟨o,its,n,hk,hc,hd,hs,hz,r⟩;obtain⟨z,its,n,r,e⟩:=h.ok I.hok;exact⟨its,r,⟨_,n,e,rfl,rfl,rfl⟩,z⟩;refine⟨its.toList,r,⟨o,n,I.kIn a o hk,hc,hd,by simpa using hs⟩,?_⟩;have e:=r.length;simp[Qz2] at e;omega
def Inv.tuple(I:Inv X pins σ H s)(h:pg X.K H a xs):∃its,Vals xs its/\IsTup s.heap a its.toArray/\xs.length<=sizeLine:=by
 rcases h with h|⟨o,its,n,hk,hc,hdn,hs,hz,r⟩;obtain⟨z,its,r,p⟩:=h.ok I.hok;exact⟨its,r,p.is,z⟩;refine⟨its.toList,r,⟨o,I.kIn a o hk,hc,n,by simpa using hs⟩,?_⟩;have e:=r.length;simp[Qz2] at e;omega
def Inv.yV(I:Inv X pins σ H s)(h:lK X.K H a xs)(h':lK X.K H a ys):xs=ys:=by
 obtain⟨its,r,⟨o,n,e,_,_,d⟩,_⟩:=I.list h;obtain⟨its',r',⟨o',n',e',_,_,d'⟩,_⟩:=I.list h';rw[e] at e';cases e';rw[d] at d';injection d' with d1 _
 have:its=its':=by simpa using Qx1 Array.toList d1
 subst this;exact r.inj r'
def Inv.z8(I:Inv X pins σ H s)(h:pg X.K H a xs)(h':pg X.K H a ys):xs=ys:=by
 obtain⟨its,r,⟨o,e,_,n,d⟩,_⟩:=I.tuple h;obtain⟨its',r',⟨o',e',_,n',d'⟩,_⟩:=I.tuple h';rw[e] at e';cases e';rw[d] at d';injection d' with d1 _
 have:its=its':=by simpa using Qx1 Array.toList d1
 subst this;exact r.inj r'
end
abbrev Cx.wish(X:Cx)(E:Value->Shared->Prop):Cx:={ X with xe:=E }
abbrev Cx.nox(X:Cx):Cx:=X.wish λ_ _=>False
def Cx.Ok.wish{X:Cx}(ok:X.Ok)(E):(X.wish E).Ok:=
 ⟨ok.mod,ok.kind,ok.glob,ok.blt,ok.above,ok.inj,ok.has,ok.cab,ok.hd,ok.frames,ok.p6,ok.exf,ok.bs,ok.bsz,ok.Zr,ok.aaq,ok.Gj,ok.frf⟩
def Cx.Ok.vd{X:Cx}(ok:(X.wish E).Ok):X.Ok:=
 ⟨ok.mod,ok.kind,ok.glob,ok.blt,ok.above,ok.inj,ok.has,ok.cab,ok.hd,ok.frames,ok.p6,ok.exf,ok.bs,ok.bsz,ok.Zr,ok.aaq,ok.Gj,ok.frf⟩
section
variable{X:Cx}{pins:List (Addr×Obj)}{σ:St}{H:Hp}{s:Shared}{E:Value->Shared->Prop}
def Inv.wish(I:Inv X pins σ H s)(E):Inv (X.wish E) pins σ H s:=⟨I.ok.wish E,I.os,I.bare,I.base,I.loc,I.cell,I.free,I.zx,I.pin,I.hok,I.len⟩
def Inv.vd(I:Inv (X.wish E) pins σ H s):Inv X pins σ H s:=⟨I.ok.vd,I.os,I.bare,I.base,I.loc,I.cell,I.free,I.zx,I.pin,I.hok,I.len⟩
def SP.vd(h:SP (X.wish E) pins D f s'):SP X pins D f s':=by
 cases f with
 |next=>obtain⟨σ',H',I,q⟩:=h;exact⟨σ',H',I.vd,q⟩|brk=>obtain⟨σ',H',I,q⟩:=h;exact⟨σ',H',I.vd,q⟩|cont=>obtain⟨σ',H',I,q⟩:=h;exact⟨σ',H',I.vd,q⟩|ret u=>obtain⟨v,σ',H',I,r,q⟩:=h;exact⟨v,σ',H',I.vd,r,q⟩
def Qj.nox{st:List Stmt}(h:Qj X.nox st t):Qj X st t:=λpins s σ H D I hw=>
 Qj2 (h pins s σ H D (I.wish _) hw) (λ_ _ q=>q.vd) λ_ _ z=>False.elim z
end
section
variable{X:Cx}{st:Stmt}{rest:List Stmt}{t u:TS}{e:Expr}{te:TE}{pos:Pos}
def ahI:TS:=λD σ H=>D.nx σ H
def akc(t u:TS):TS:=λD σ H=>t { D with nx:=u D } σ H
def abR:Qj X [] ahI:=λ_ _ σ H _ I h=>Qdj ⟨σ,H,I,h⟩
def Yy(h1:PS X st t)(h2:Qj X rest u):Qj X (st::rest) (akc t u):=by
 intro pins s σ H D I h;refine wpAny_execs_cons<|gR (h1 pins s σ H { D with nx:=u D } I h) λf s1 q=>?_;cases f with
 |next=>obtain⟨σ',H',I',q⟩:=q;exact h2 pins s1 σ' H' D I' q|ret v=>exact q|brk=>exact q|cont=>exact q
def abQ(h1:PS X st t):Qj X [st] t:=by
 intro pins s σ H D I h;refine wpAny_execs_cons<|gR (h1 pins s σ H D I h) λf s1 q=>?_;cases f with
 |next=>exact Qdj q|ret v=>exact q|brk=>exact q|cont=>exact q
def Inv.quiet{σ:St}(I:Inv X pins σ H s):interactive X.env=false:=by simp[interactive,I.ok.kind]
def ahJ(te:TE):TS:=λD σ H=>te σ H λ_ H1=>D.nx σ H1
def Tr(he:PE X e te)(hs:swapsWith e none pos.line X.env=pure false:=by rfl):PS X (.Expr e pos) (ahJ te):=by intro pins s σ H D I h;exact wpAny_Expr_any (gR (he pins s σ H _ I h) λv s1 ⟨x,H1,I1,r1,q1⟩=>⟨σ,H1,I1,q1⟩) I.quiet hs
def akf(te:TE):TS:=λD σ H=>te σ H D.rt
def YD(he:PE X e te):PS X (.Return (some e) pos) (akf te):=by intro pins s σ H D I h;exact wpAny_Return_some<|gR (he pins s σ H _ I h) λv s1 ⟨x,H1,I1,r1,q1⟩=>⟨x,σ,H1,I1,r1,q1⟩
def akm(c:TT)(t u:TS):TS:=λD σ H=>c σ H λb H1=>if b=true then t D σ H1 else u D σ H1
def aio(hc:PT X c tc)(ha:Qj X a t)(hb:Qj X b u):PS X (.If c a b pos) (akm tc t u):=by
 intro pins s σ H D I h;refine wpAny_If<|gR (hc pins s σ H _ I h) λd s1 ⟨H1,I1,q1⟩=>?_;cases d with
 |true=>exact ha pins s1 σ H1 D I1 q1|false=>exact hb pins s1 σ H1 D I1 q1
end
abbrev TG:=V->St->Hp->(St->Hp->Prop)->Prop
abbrev TGs:=List V->St->Hp->(St->Hp->Prop)->Prop
def PG(X:Cx)(target:Expr)(t:TG):Prop:=
 ∀(pins:List (Addr×Obj)) (s:Shared) (σ:St) (H:Hp) (v:V) (u:Value) (Q:St->Hp->Prop),Inv X pins σ H s->RelV v u->t v σ H Q->
  wpAny (model X.prog X.w) X.A (assign target X.env u) (λ_ s'=>∃σ' H',Inv X pins σ' H' s'/\Q σ' H') X.xe s
def PGs(X:Cx)(ts:List Expr)(t:TGs):Prop:=
 ∀(pins:List (Addr×Obj)) (s:Shared) (σ:St) (H:Hp) (vs:List V) (us:List Value) (Q:St->Hp->Prop),Inv X pins σ H s->Vals vs us->t vs σ H Q->
  wpAny (model X.prog X.w) X.A (assignInOrder ((assignEach ts X.env).map (·.2)) us) (λ_ s'=>∃σ' H',Inv X pins σ' H' s'/\Q σ' H') X.xe s
abbrev xZ:=V->V->V->Hp->(Hp->Prop)->Prop
def ajz(X:Cx)(t:xZ):Prop:=
 ∀(pins:List (Addr×Obj)) (s:Shared) (σ:St) (H:Hp) (o i v:V) (ov iv u:Value) (Q:Hp->Prop),Inv X pins σ H s->RelV o ov->RelV i iv->RelV v u->t o i v H Q->
  wpAny (model X.prog X.w) X.A (setItem ov iv u) (λ_ s'=>∃H',Inv X pins σ H' s'/\Q H') X.xe s
abbrev TIp:=V->V->Hp->VK->Prop
def PIp(X:Cx)(op:Operator)(t:TIp):Prop:=
 ∀(pins:List (Addr×Obj)) (s:Shared) (σ:St) (H:Hp) (x y:V) (v u:Value) (Q:VK),Inv X pins σ H s->RelV x v->RelV y u->t x y H Q->
  wpAny (model X.prog X.w) X.A (inplaceOp op v u) (EP X pins σ Q) X.xe s
section
variable{X:Cx}{pos:Pos}
def O3(i:Nat):TG:=λv σ H Q=>Q (σ.set i (some v)) H
def abZ(hN:X.N.Nodup)(hi:X.N[i]?=some x)(hx:Loc X.env.scope x)(hf:X.fn x=true\/X.env.scope.names.lookup x=some .local:=by first|exact .inl rfl|exact .inr rfl|assumption):PG X (.Name x pos) (O3 i):=by intro pins s σ H v u Q I r h;exact wpAny_assign_Name<|Eh I hN hi hx r (λs' I'=>⟨_,H,I',h⟩) hf
def ak9:TGs:=λvs σ H Q=>vs=[]/\Q σ H
def ajf(t:TG)(u:TGs):TGs:=λvs σ H Q=>∃v r,vs=v::r/\t v σ H λσ' H'=>u r σ' H' Q
def abY:PGs X [] ak9:=by intro pins s σ H vs us Q I r h;obtain⟨e,h⟩:=h;subst e;cases r;exact assignInOrder_nil ⟨σ,H,I,h⟩
def YQ(h1:PG X e t)(h2:PGs X es u)
  (hs:(assignEach (e::es) X.env).map (·.2)=assign e X.env::(assignEach es X.env).map (·.2):=by rfl):PGs X (e::es) (ajf t u):=by
 intro pins s σ H vs us Q I r h;obtain⟨v,vr,e1,h⟩:=h;subst e1;cases r with
 |cons r rr=>rw[hs];refine assignInOrder_cons<|gR (h1 pins s σ H _ _ _ I r h) λ_ s1 ⟨σ1,H1,I1,q1⟩=>?_;exact h2 pins s1 σ1 H1 _ _ Q I1 rr q1
def ak4(K:PySem.W.Frag)(n:Nat)(t:TGs):TG:=λv σ H Q=>∃a xs,v=.ref a/\pg K H a xs/\xs.length=n/\t xs σ H Q
def afk{k:Nat}(hc:X.calm=true)(h:PGs X es t)
  (hn:(assignEach es X.env).length=n:=by rfl) (hst:(assignEach es X.env).findIdx? (·.1)=none:=by rfl):PG X (.Tuple es k pos) (ak4 X.K n t):=by
 intro pins s σ H v u Q I r hw;obtain⟨a,xs,e1,hq,hl,hw⟩:=hw;subst e1;cases r;obtain⟨its,rv,ht,hz⟩:=I.tuple hq;refine assign_Tuple_tuple (I.ok.hd hc) ht (by simp[hn,<-hl,rv.length]) hst λh' hx=>?_;have I1:Inv X pins σ H { s with heap:=h' }:=I.kept λb o e=>hx b o (Qxq<|Qq9 e) e;exact h pins _ σ H xs _ Q I1 (by simpa using rv) hw
def uX(to ti:TE)(t:xZ):TG:=λv σ H Q=>to σ H λo H1=>ti σ H1 λi H2=>t o i v H2 λH3=>Q σ H3
def afl(ho:PE X o to)(hi:PE X i ti)(hs:ajz X t)
  (ha:∀v,assign (.Subscript o i pos) X.env v=(do
   let ov <-holding [v] (eval o X.env)
   let iv <-holding [v,ov] (eval i X.env)
   standAt pos
   holding [v,ov,iv] (setItem ov iv v)
   release [v,ov,iv] []):=by intro _;rfl):PG X (.Subscript o i pos) (uX to ti t):=by
 intro pins s σ H v u Q I r h;rw[ha];refine Qqq<|Qzj<|gR (ho pins s σ H _ I h) λov s1 ⟨x,H1,I1,r1,q1⟩=>?_;refine Qqq<|Qzj<|gR (hi pins s1 σ H1 _ I1 q1) λiv s2 ⟨y,H2,I2,r2,q2⟩=>?_;refine Qqq<|Qgk<|Qqq<|Qzj<|gR (hs pins s2 σ H2 x y v ov iv u _ I2 r1 r2 r q2) λ_ s3 ⟨H3,I3,q3⟩=>?_;exact wpAny_release ⟨σ,H3,I3,q3⟩
def abp(te:TE)(g:TG):TS:=λD σ H=>te σ H λx H1=>g x σ H1 D.nx
def afg(he:PE X e te)(hg:PG X tg g)(hs:swapsWithSole [tg] e pos.line X.env=pure false:=by rfl)(hw:swappedStores [tg] e X.env=pure none:=by rfl)
  (h1:(assignEach [tg] X.env).map (·.2)=[assign tg X.env]:=by rfl):PS X (.Assign [tg] e pos) (abp te g):=by
 intro pins s σ H D I h;refine wpAny_Assign_stores (gR (he pins s σ H _ I h) λv s1 ⟨x,H1,I1,r1,q1⟩=>?_) hs hw;rw[h1];exact gR (hg pins s1 σ H1 x v _ I1 r1 q1) λ_ s2 q=>q
def YC(hN:X.N.Nodup)(hi:X.N[i]?=some x)(hx:Loc X.env.scope x)(he:PE X e te)(hs:swapsWith e (some (.Name x pos')) pos.line X.env=pure false:=by rfl)(hf:X.fn x=true\/X.env.scope.names.lookup x=some .local:=by first|exact .inl rfl|exact .inr rfl|assumption) :
  PS X (.Assign [.Name x pos'] e pos) (abp te (O3 i)):=by
 intro pins s σ H D I h;refine wpAny_Assign_Name (gR (he pins s σ H _ I h) λv s1 ⟨y,H1,I1,r1,q1⟩=>?_) hs;exact Eh I1 hN hi hx r1 (λs2 I2=>⟨_,H1,I2,q1⟩) hf
def akq(i:Nat)(te:TE)(ti:TIp):TS:=λD σ H=>∃x,σ[i]?=some (some x)/\te σ H λy H1=>ti x y H1 λz H2=>D.nx (σ.set i (some z)) H2
def afe(hN:X.N.Nodup)(hi:X.N[i]?=some x)(hx:Loc X.env.scope x)(he:PE X e te)(ho:PIp X op ti)(hf:X.fn x=true\/X.env.scope.names.lookup x=some .local:=by first|exact .inl rfl|exact .inr rfl|assumption) :
  PS X (.AugAssign (.Name x pos') op e pos) (akq i te ti):=by
 intro pins s σ H D I h;obtain⟨v,e1,h⟩:=h;obtain⟨m,hn,hl⟩:=I.loc;have vis:zR X.env.scope x:=by rcases hx with k|k;exact .inl k;exact .inr<|.inl k
 obtain⟨u,r,l⟩:=hl i x v hi e1 vis;refine wpAny_AugAssign_Name ?_;have go:wpAny (model X.prog X.w) X.A (eval e X.env) (λw s₂=>wpAny (model X.prog X.w) X.A (inplaceOp op u w) (λr s₃=>wpAny (model X.prog X.w) X.A (storeName X.env x r) (λ_=>SP X pins D .next) X.xe s₃) X.xe s₂) X.xe s:=by refine gR (he pins s σ H _ I h) λw s1 ⟨y,H1,I1,r1,q1⟩=>?_;refine gR (ho pins s1 σ H1 v y u w _ I1 r r1 q1) λz s2 ⟨zv,H2,I2,r2,q2⟩=>?_;exact Eh I2 hN hi hx r2 (λs3 I3=>⟨_,H2,I3,q2⟩) hf
 rcases l with ⟨hk,hm⟩|⟨hk,c,hc,hcell⟩;exact wpAny_loadName_local I.ok.kind hk hn hm go;rcases hk with hk|hk;exact wpAny_loadName_cell I.ok.kind hk hc hcell go;rcases hx with k|k;have:X.env.scope.names.lookup x=some .free:=hk;rw[k] at this;cases this;have:X.env.scope.names.lookup x=some .free:=hk;rw[k] at this;cases this
def ipI(f:Int->Int->Int):TIp:=λx y H Q=>∃i j,x=.int i/\y=.int j/\Q (.int (f i j)) H
def agm:PIp X .Add (ipI λi j=>i+j):=by intro pins s σ H x y v u Q I r1 r2 h;obtain⟨i,j,e1,e2,q⟩:=h;subst e1;subst e2;obtain⟨t,rfl⟩:=r1;obtain⟨t',rfl⟩:=r2;exact iadd_int ⟨.int _,H,I.tok _,⟨_,rfl⟩,q⟩
def aeE(c:TT)(tb:TS):TS:=λD σ H=>∃W:Nat->St->Hp->Prop,(∃m,W m σ H)/\∀m σ H,W m σ H->
 c σ H λb H1=>if b=true then ∃N:St->Hp->Prop,(∀σ' H',N σ' H'->∃m',m'<m/\W m' σ' H')/\tb { D with nx:=N,ct:=N,bk:=D.nx } σ H1 else D.nx σ H1
def Yz(hp:PassesOwn (model X.prog X.w) X.A X.env X.xe)(hc:PT X c tc)(hb:Qj X body tb):PS X (.While c body [] pos) (aeE tc tb):=by
 intro pins s σ H D I h;obtain⟨W,⟨m0,w0⟩,turn⟩:=h;refine wpAny_While<|codeAny_whileLoop (λn s'=>∃σ' H',Inv X pins σ' H' s'/\W n σ' H') ?_ m0 ⟨σ,H,I,w0⟩;rintro n s1 ⟨σ1,H1,I1,w1⟩;refine Qk5 hp<|gR (hc pins s1 σ1 H1 _ I1<|turn n σ1 H1 w1) λb s2 ⟨H2,I2,q2⟩=>?_;cases b with
 |true=>
  obtain⟨N,hN,q2⟩:=q2;rw[Qv4 rfl];refine Qk5 hp<|gR (hb pins s2 σ1 H2 _ I2 q2) λf s3 q3=>?_;cases f with
  |next=>obtain⟨σ3,H3,I3,n3⟩:=q3;obtain⟨m',hm,w3⟩:=hN σ3 H3 n3;exact⟨m',hm,σ3,H3,I3,w3⟩|cont=>obtain⟨σ3,H3,I3,n3⟩:=q3;obtain⟨m',hm,w3⟩:=hN σ3 H3 n3;exact⟨m',hm,σ3,H3,I3,w3⟩|brk=>exact q3|ret v=>exact q3
 |false=>rw[Qv5 Qw2];exact Qdj ⟨σ1,H2,I2,q2⟩
end
structure It where
 go:Nat->Hp->Prop
 yld:Nat->Hp->V->Hp->Prop
 stop:Nat->Hp->Prop
def wK(X:Cx)(pins:List (Addr×Obj))(H:Hp)(b:Addr):Prop:=
 H b=none/\b≠X.env.locals/\b ∉ X.fs/\(b∈X.ex\/X.s₀.heap.objs.size<=b)/\(∀x c,X.env.cells.lookup x=some c->c≠b)/\∀p∈X.pn++pins,p.1≠b
def Inv.RN{σ:St}{b:Addr}(I:Inv X pins σ H s)(hb:s.heap.objs.size<=b)(hn:H' b=none):wK X pins H' b:=by
 refine⟨hn,Qz7<|Qwx I.lt hb,I.akE hb,.inr<|Qq1 I.sz hb,λx c e z=>?_,λp hp z=>?_⟩;obtain⟨v,q⟩:=I.cell x c e;exact absurd (Qwx q.lt (by rw[z];exact hb))<|Qz0 _;exact absurd (Qwx (Qq9 (I.pin p hp).1) (by rw[z];exact hb))<|Qz0 _
structure Turn(P:Program)(w:World)(K:PySem.W.Frag)(tg:Expr)(J:It)(fp:List Addr)(it:Addr)(tn:Nat->Heap->Prop):Prop where
 mem:it∈fp
 obj:∀i h,tn i h->∀b∈fp,∃o,h.get? b=some o/\∀v,o.data ≠ .cell v
 keep:∀i h h',tn i h->(∀b∈fp,∀o,h.get? b=some o->h'.get? b=some o)->tn i h'
 item:∀(X:Cx),X.prog=P->X.w=w->X.K=K->X.calm=true->∀(i:Nat) (pins:List (Addr×Obj)) (s:Shared) (σ:St) (H:Hp) (E:Value->Shared->Prop),Inv X pins σ H s->(∀b∈fp,wK X pins H b)->tn i s.heap->J.go i H->
  wpAny (model P w) X.A (pyNext (.ref it)) (λr s1=>∃u,r=some u/\
   wpAny (model P w) X.A (letOwnedTupleGo tg (.ref it) u) (λ_ s2=>∃x H',Inv X pins σ H' s2/\RelV x u/\J.yld i H x H'/\tn (i+1) s2.heap/\∀b∈fp,H' b=none) E s1) E s
 done:∀(X:Cx),X.prog=P->X.w=w->X.K=K->X.calm=true->∀(i:Nat) (pins:List (Addr×Obj)) (s:Shared) (σ:St) (H:Hp) (E:Value->Shared->Prop),Inv X pins σ H s->(∀b∈fp,wK X pins H b)->tn i s.heap->J.stop i H->
  wpAny (model P w) X.A (pyNext (.ref it)) (λr s1=>r=none/\Inv X pins σ H s1) E s
 self:∀(A:Around) (i:Nat) (s:Shared) (Q:Value->Shared->Prop) (E:Value->Shared->Prop),tn i s.heap->Q (.ref it) s->wpAny (model P w) A (pyIter (.ref it)) Q E s
abbrev TI:=St->Hp->(It->Hp->Prop)->Prop
def PIE(X:Cx)(pins:List (Addr×Obj))(σ:St)(tg:Expr)(R:It->Hp->Prop)(itv:Value)(s2:Shared):Prop:=
 ∃(it:Addr) (fp:List Addr) (tn:Nat->Heap->Prop) (J:It) (H':Hp),itv=.ref it/\Inv X pins σ H' s2/\Turn X.prog X.w X.K tg J fp it tn/\tn 0 s2.heap/\(∀b∈fp,wK X pins H' b)/\R J H'
def PI(X:Cx)(tg iter:Expr)(wi:TI):Prop:=
 ∀(pins:List (Addr×Obj)) (s:Shared) (σ:St) (H:Hp) (R:It->Hp->Prop),Inv X pins σ H s->wi σ H R->
  wpAny (model X.prog X.w) X.A (eval iter X.env) (λv s1=>wpAny (model X.prog X.w) X.A (pyIter v) (PIE X pins σ tg R) X.xe s1) X.xe s
def Jp(ho : s.heap.get? it = some o)(hc : o.cls = .type n)(hd : o.data = .fields vs)
    (hn : ["enumerate", "zip", "dict_itemiterator", "dict_reverseitemiterator", "odict_iterator", "itertools.zip_longest", "itertools.pairwise"].contains n = false) (hQ : Q () s) : wpAny M A (letOwnedTupleGo tg (.ref it) u) Q E s := by
  unfold letOwnedTupleGo;cases tg <;> first
    | exact Qq2 hQ
    | (cases u <;> first
        | exact Qq2 hQ
        | (refine Qqq<|wpAny_load ho ?_
           rw [hc, hd];show wpAny M A (if (["enumerate", "zip", "dict_itemiterator", "dict_reverseitemiterator", "odict_iterator", "itertools.zip_longest", "itertools.pairwise"].contains n && vs[0]? == some (rawInt _)) = true then _ else _) Q E s;rw [Qv5 (by intro h; rw [hn, Bool.false_and] at h; cases h)];exact Qq2 hQ))
def Itl(K:PySem.W.Frag)(a:Addr):It:=
 ⟨λi H=>∃xs x,lK K H a xs/\xs[i]?=some x,λi H x H'=>H'=H/\∀xs,lK K H a xs->xs[i]?=some x,λi H=>∃xs,lK K H a xs/\xs.length<=i⟩
def Itt(K:PySem.W.Frag)(a:Addr):It:=
 ⟨λi H=>∃xs x,pg K H a xs/\xs[i]?=some x,λi H x H'=>H'=H/\∀xs,pg K H a xs->xs[i]?=some x,λi H=>∃xs,pg K H a xs/\xs.length<=i⟩
def Itr(lo:Int)(n:Nat):It:=⟨λi _=>i<n,λi H x H'=>H'=H/\x=.int (lo+i),λi _=>n<=i⟩
def U9{K:PySem.W.Frag}(a it):Turn P w K tg (Itl K a) [it] it (λi h=>h.IsListIter it a i) where
 mem:=by simp
 obj:=λi h st b hb=>by
  have e:b=it:=by simpa using hb
  subst e;obtain⟨o,e,c,d⟩:=st;exact⟨o,e,λv z=>by rw[d] at z;cases z⟩
 keep:=λi h h' st k=>st.at λo e=>k it (by simp) o e
 item:=by intro X hP hw hK hc i pins s σ H E I hf st hg;subst hP hw hK;obtain⟨xs,x,hq,hx⟩:=hg;obtain⟨its,rv,p,hz⟩:=I.list hq;obtain⟨u,hu,ru⟩:=rv.get hx;obtain⟨f0,f1,f2,f3,f4,f5⟩:=hf it (by simp);refine wpAny_pyNext_list_item st p.isList (by simpa using hu) λh' st' sb=>?_;have I1:Inv X pins σ H { s with heap:=h' }:=I.turned (λb o hb e=>(sb.2 b hb).trans e) f0 f1 f3 f4 f5;obtain⟨o,e,c,d⟩:=id st';exact⟨u,rfl,Jp e c d (by decide) ⟨x,H,I1,ru,⟨rfl,λys hy=>by rw[I.yV hy hq];exact hx⟩,st',λb hb=>(hf b hb).1⟩⟩
 done:=by intro X hP hw hK hc i pins s σ H E I hf st hg;subst hP hw hK;obtain⟨xs,hq,hx⟩:=hg;obtain⟨its,rv,p,hz⟩:=I.list hq;obtain⟨f0,f1,f2,f3,f4,f5⟩:=hf it (by simp);have hl:=rv.length;exact wpAny_pyNext_list_end (I.ok.hd hc) st p.isList (by simp;omega) λh' eb=>⟨rfl,I.turned (λb o hb e=>eb b o hb e) f0 f1 f3 f4 f5⟩
 self:=λ_ _ _ _ _ st h=>wpAny_pyIter_listiter st h
def Qw{K:PySem.W.Frag}(a it):Turn P w K tg (Itt K a) [it] it (λi h=>h.IsTupleIter it a i) where
 mem:=by simp
 obj:=λi h st b hb=>by
  have e:b=it:=by simpa using hb
  subst e;obtain⟨o,e,c,d⟩:=st;exact⟨o,e,λv z=>by rw[d] at z;cases z⟩
 keep:=λi h h' st k=>st.at λo e=>k it (by simp) o e
 item:=by intro X hP hw hK hc i pins s σ H E I hf st hg;subst hP hw hK;obtain⟨xs,x,hq,hx⟩:=hg;obtain⟨its,rv,p,hz⟩:=I.tuple hq;obtain⟨u,hu,ru⟩:=rv.get hx;obtain⟨f0,f1,f2,f3,f4,f5⟩:=hf it (by simp);refine wpAny_pyNext_tuple_item st p (by simpa using hu) λh' st' sb=>?_;have I1:Inv X pins σ H { s with heap:=h' }:=I.turned (λb o hb e=>(sb.2 b hb).trans e) f0 f1 f3 f4 f5;obtain⟨o,e,c,d⟩:=id st';exact⟨u,rfl,Jp e c d (by decide) ⟨x,H,I1,ru,⟨rfl,λys hy=>by rw[I.z8 hy hq];exact hx⟩,st',λb hb=>(hf b hb).1⟩⟩
 done:=by intro X hP hw hK hc i pins s σ H E I hf st hg;subst hP hw hK;obtain⟨xs,hq,hx⟩:=hg;obtain⟨its,rv,p,hz⟩:=I.tuple hq;obtain⟨f0,f1,f2,f3,f4,f5⟩:=hf it (by simp);have hl:=rv.length;exact wpAny_pyNext_tuple_end (I.ok.hd hc) st p (by simp;omega) λh' eb=>⟨rfl,I.turned (λb o hb e=>eb b o hb e) f0 f1 f3 f4 f5⟩
 self:=λ_ _ _ _ _ st h=>wpAny_pyIter_tupleiter st h
def Qx{K:PySem.W.Frag}(it)(lo)(n):Turn P w K tg (Itr lo n) [it] it (λi h=>IsRangeIter h it (lo+i*1) (n - i) 1) where
 mem:=by simp
 obj:=λi h st b hb=>by
  have e:b=it:=by simpa using hb
  subst e;exact⟨_,st,λv z=>by
   have z':=z;cases z'⟩
 keep:=λi h h' st k=>k it (by simp) _ st
 item:=by intro X hP hw hK hc i pins s σ H E I hf st hg;subst hP hw hK;obtain⟨f0,f1,f2,f3,f4,f5⟩:=hf it (by simp);refine (Walks.range (prog:=X.prog) (w:=X.w) (I.ok.hd hc) it lo 1 n).item i s _ _ hg st λv h' tk hv st' kk=>?_;obtain⟨t,rfl⟩:=hv;have I1:Inv X pins σ H { s with heap:=h',toks:=tk }:=I.turned (λb o hb e=>kk b o (by simpa using hb) e) f0 f1 f3 f4 f5;refine⟨_,rfl,Jp st' rfl rfl (by decide) ⟨.int<|lo+i,H,I1,⟨t,?_⟩,⟨rfl,rfl⟩,st',λb hb=>(hf b hb).1⟩⟩;rw[Int.mul_one]
 done:=by intro X hP hw hK hc i pins s σ H E I hf st hg;subst hP hw hK;obtain⟨f0,f1,f2,f3,f4,f5⟩:=hf it (by simp);exact wpAny_pyNext_range_end (I.ok.hd hc) st (by have:n<=i:=hg;omega) λh' eb=>⟨rfl,I.turned (λb o hb e=>eb b o hb e) f0 f1 f3 f4 f5⟩
 self:=λ_ _ _ _ _ st h=>wpAny_pyIter_rangeiter st h
section
variable{X:Cx}{tg:Expr}
def Nq{σ:St}{lo hi:Int}(I:Inv X pins σ H s)(h1 : -(2^62)<=lo)(h2:lo<2^62)(h3 : -(2^62)<=hi)(h4:hi<2^62)
  (q:R (Itr lo (hi - lo).toNat) H):wpAny (model X.prog X.w) X.A (pyIter (.ref s.heap.objs.size)) (PIE X pins σ tg R) E { s with heap:=s.heap.push { cls:=.type "range",data:=.fields #[.int lo t,.int hi u,.int 1 v] },toks:=tk }:=by
 refine wpAny_pyIter_range (IsRange.new ..) (small_one h1 h2 h3 h4) ?_;have I1:Inv X pins σ H { s with heap:=s.heap.push { cls:=.type "range",data:=.fields #[.int lo t,.int hi u,.int 1 v] },toks:=tk }:=I.kept λb o e=>Qqz _ e;refine⟨(s.heap.push { cls:=.type "range",data:=.fields #[.int lo t,.int hi u,.int 1 v] }).objs.size,[(s.heap.push { cls:=.type "range",data:=.fields #[.int lo t,.int hi u,.int 1 v] }).objs.size],_,_,H,rfl,
  I1.kept λb o e=>Qqz _ e,Qx _ lo (hi - lo).toNat,?_,λb hb=>?_,q⟩
 have e1:lo+(0:Nat)*1=lo:=by simp
 have e2:((hi - lo).toNat) - (0:Nat)=Builtin.Range.rangeSize lo hi 1:=by rw[rangeSize_one];split<;>omega
 show IsRangeIter _ _ (lo+(0:Nat)*1) (((hi - lo).toNat) - (0:Nat)) 1;rw[e1,e2];exact Qwv _ rfl;have e:b=(s.heap.push { cls:=.type "range",data:=.fields #[.int lo t,.int hi u,.int 1 v] }).objs.size:=by simpa using hb
 subst e;exact I1.RN (Qq0 _)<|I1.hok.fresh<|Qq0 _
def ai6(ta:TA):TI:=λσ H R=>ta σ H λvs H1=>∃j:Int,vs=[.int j]/\-(2^62)<=j/\j<2^62/\R (Itr 0 j.toNat) H1
def ai5(ta:TA):TI:=λσ H R=>ta σ H λvs H1=>∃i j:Int,vs=[.int i,.int j]/\(-(2^62)<=i/\i<2^62/\-(2^62)<=j/\j<2^62)/\R (Itr i (j - i).toNat) H1
def VD(hg:Gl X "range")(hm:X.mg "range"=none)(ha:PA X [a] ta)(hs:starEach [a] X.env=[(false,eval a X.env)]:=by rfl):PI X tg (.Call (.Name "range" p) [a] [] pos) (ai6 ta):=by
 intro pins s σ H R I h;refine Call_<|uo I hg hm boot_range<|Qzq (gR (ha pos pins s σ H _ I h) λus s1 ⟨vs,H1,I1,r1,q1⟩=>?_) hs rfl;obtain⟨j,e,q1,q2,q⟩:=q1;subst e;cases r1 with
 |cons r rr=>cases rr;obtain⟨t,rfl⟩:=r;exact call_range_1<|Nq I1 (by omega) (by omega) q1 q2 (by simpa using q)
def VB{p pos:Pos}(hg:Gl X "range")(hm:X.mg "range" = none)(ha:PA X [a,b] ta)(hs:starEach [a,b] X.env=[(false,eval a X.env),(false,eval b X.env)]:=by rfl)(hs2:starEach [b] X.env=[(false,eval b X.env)]:=by rfl) :
  PI X tg (.Call (.Name "range" p) [a,b] [] pos) (ai5 ta):=by
 intro pins s σ H R I h;refine Call_<|uo I hg hm boot_range<|Qzq (gR (ha pos pins s σ H _ I h) λus s1 ⟨vs,H1,I1,r1,q1⟩=>?_) (by rw[hs,hs2]) (by rw[hs2];rfl);obtain⟨i,j,e,⟨q1,q2,q3,q4⟩,q⟩:=q1;subst e;cases r1 with
 |cons r rr=>
  cases rr with
  |cons r' rr=>cases rr;obtain⟨t,rfl⟩:=r;obtain⟨t',rfl⟩:=r';exact call_range_2<|Nq I1 q1 q2 q3 q4 q
def akn(wi:TI)(g:TG)(tb:TS):TS:=λD σ H=>wi σ H λJ H1=>∃W:Nat->Nat->St->Hp->Prop,(∃m,W 0 m σ H1)/\∀i m σ H,W i m σ H->
 (J.stop i H/\D.nx σ H)\/(J.go i H/\∃N:St->Hp->Prop,(∀σ' H',N σ' H'->∃m',m'<m/\W (i+1) m' σ' H')/\∀x H',J.yld i H x H'->g x σ H' λσ2 H2=>tb { D with nx:=N,ct:=N,bk:=D.nx } σ2 H2)
def Fl(fp:List Addr)(h:Heap):List (Addr×Obj):=fp.filterMap λb=>(h.get? b).map λo=>(b,o)
def uh(hb:b∈fp)(e:h.get? b=some o):(b,o)∈Fl fp h:=List.mem_filterMap.mpr ⟨b,hb,by rw[e];rfl⟩
def VL(hp:p∈Fl fp h):p.1∈fp/\h.get? p.1=some p.2:=by
 obtain⟨b,hb,e⟩:=List.mem_filterMap.mp hp;cases q:h.get? b with
 |none=>rw[q] at e;cases e|some o=>rw[q] at e;have e':=Qw4 e;subst e';exact⟨hb,q⟩
def Inv.pinned{σ:St}(I:Inv X pins σ H s)(hf:∀b∈fp,wK X pins H b)(ho:∀b∈fp,∃o,s.heap.get? b=some o/\∀v,o.data ≠ .cell v):Inv X (pins++Fl fp s.heap) σ H s:=
 I.Tt λp hp=>(Qww.mp hp).elim (λz=>I.pin p<|Qxw _ z) λz=>by
  obtain⟨hb,e⟩:=VL z;obtain⟨f0,f1,f2,_⟩:=hf p.1 hb;obtain⟨o,e',d⟩:=ho p.1 hb;rw[e] at e';cases e';exact⟨e,f0,f1,f2,d⟩
def Inv.yo{σ:St}(I:Inv X (pins++pl) σ H s):Inv X pins σ H s:=I.Tt λp hp=>I.pin p<|Qxw _<|Qzy _ hp
def afd(hp:PassesOwn (model X.prog X.w) X.A X.env X.xe)(hc:X.calm=true)(hi:PI X tg iter wi)(hg:PG X tg g)(hb:Qj X body tb)
  (hs:∀x,foldedSetIterable iter X.env x=pure x:=by intro _;rfl):PS X (.For tg iter body [] pos) (akn wi g tb):=by
 intro pins s σ H D I h;refine wpAny_For (gR (hi pins s σ H _ I h) λv s1 h1=>gR h1 λitv s2 h2=>?_) hs;obtain⟨it,fp,tn,J,H2,e,I2,T,st2,f2,W,⟨m0,w0⟩,turn⟩:=h2;subst e
 -- what stays true of the iterator's objects through the loop
 have stat:∀{H'},(∀b∈fp,H' b=none)->∀b∈fp,wK X pins H' b:=λhn b hb=>⟨hn b hb,(f2 b hb).2⟩;refine codeAny_forLoop_any (λn s'=>∃i σ' H',Inv X pins σ' H' s'/\tn i s'.heap/\(∀b∈fp,H' b=none)/\W i n σ' H') ?_ m0 ⟨0,σ,H2,I2,st2,λb hb=>(f2 b hb).1,w0⟩;rintro n s3 ⟨i,σ3,H3,I3,st3,fr3,w3⟩;rcases turn i n σ3 H3 w3 with ⟨stop,qn⟩|⟨go,N,hN,step⟩
 .refine Qk5 hp<|gR (T.done X rfl rfl rfl hc i pins s3 σ3 H3 X.xe I3 (stat fr3) st3 stop) λr s4 ⟨hr,I4⟩=>?_;subst hr;exact Qdj ⟨σ3,H3,I4,qn⟩
 .refine Qk5 hp<|gR (T.item X rfl rfl rfl hc i pins s3 σ3 H3 X.xe I3 (stat fr3) st3 go) λr s4 ⟨u,hr,h4⟩=>?_;subst hr;refine Qk5 hp<|gR h4 λ_ s5 ⟨x,H5,I5,r5,y5,st5,fr5⟩=>?_;refine Qk5 hp<|gR (hg _ s5 σ3 H5 x u _ (I5.pinned (stat fr5)<|T.obj _ _ st5) r5<|step x H5 y5) λ_ s6 ⟨σ6,H6,I6,q6⟩=>?_;refine Qk5 hp<|gR (hb _ s6 σ6 H6 _ I6 q6) λf s7 q7=>?_;have again:∀{σ7} {H7},Inv X (pins++Fl fp s5.heap) σ7 H7 s7->N σ7 H7->∃m,m<n/\∃i σ' H',Inv X pins σ' H' s7/\tn i s7.heap/\(∀b∈fp,H' b=none)/\W i m σ' H':=λ{σ7 H7} I7 n7=>by
   obtain⟨m',hm,w7⟩:=hN σ7 H7 n7;refine⟨m',hm,i+1,σ7,H7,I7.yo,T.keep _ _ _ st5 λb hb o e=>(I7.pin (b,o)<|Qxw _<|Qxw _<|uh hb e).1,λb hb=>?_,w7⟩;obtain⟨o,e,d⟩:=T.obj _ _ st5 b hb;exact(I7.pin (b,o)<|Qxw _<|Qxw _<|uh hb e).2.1
  cases f with
  |next=>obtain⟨σ7,H7,I7,n7⟩:=q7;exact again I7 n7|cont=>obtain⟨σ7,H7,I7,n7⟩:=q7;exact again I7 n7|brk=>obtain⟨σ7,H7,I7,q7⟩:=q7;exact⟨σ7,H7,I7.yo,q7⟩|ret v=>obtain⟨x7,σ7,H7,I7,r7,q7⟩:=q7;exact⟨x7,σ7,H7,I7.yo,r7,q7⟩
end
abbrev R2:=V->V->Hp->VK->Prop
def qN(X:Cx)(f:Value->Value->Sem Value)(r:R2):Prop:=
 ∀(pins:List (Addr×Obj)) (s:Shared) (σ:St) (H:Hp) (x y:V) (v u:Value) (Q:VK),Inv X pins σ H s->RelV x v->RelV y u->r x y H Q->
  wpAny (model X.prog X.w) X.A (f v u) (EP X pins σ Q) X.xe s
def UnR(X:Cx)(f:Value->Sem Value)(r:V->Hp->VK->Prop):Prop:=
 ∀(pins:List (Addr×Obj)) (s:Shared) (σ:St) (H:Hp) (x:V) (v:Value) (Q:VK),Inv X pins σ H s->RelV x v->r x H Q->
  wpAny (model X.prog X.w) X.A (f v) (EP X pins σ Q) X.xe s
def jQ(X:Cx)(f:Value)(r:List V->Hp->VK->Prop):Prop:=
 ∀(pins:List (Addr×Obj)) (s:Shared) (σ:St) (H:Hp) (xs:List V) (us:List Value) (Q:VK),Inv X pins σ H s->Vals xs us->r xs H Q->
  wpAny (model X.prog X.w) X.A (call f us) (EP X pins σ Q) X.xe s
def tOp(r:R2)(ta tb:TE):TE:=λσ H Q=>ta σ H λx H1=>tb σ H1 λy H2=>r x y H2 Q
def tUn(r:V->Hp->VK->Prop)(ta:TE):TE:=λσ H Q=>ta σ H λx H1=>r x H1 Q
def rI(C:Int->Int->Prop)(g:Int->Int->V):R2:=λx y H Q=>∃i j,x=.int i/\y=.int j/\C i j/\Q (g i j) H
def Ql(g:Int->Int->V):R2:=λx y H Q=>∃i j,x=.int i/\y=.int j/\Q (g i j) H
def rU(g:Int->V):V->Hp->VK->Prop:=λx H Q=>∃i,x=.int i/\Q (g i) H
section
variable{X:Cx}{a b c:Expr}{ta tb tc:TE}{pos:Pos}
def agX(ha:PE X a ta)(hb:PE X b tb){σ:St}{R:V->V->Hp->Prop}(I:Inv X pins σ H s)
  (h:ta σ H λx H1=>tb σ H1 λy H2=>R x y H2) {f:Value->Value->Sem Value}
  (hf:∀v u s2 x y H2,Inv X pins σ H2 s2->RelV x v->RelV y u->R x y H2->wpAny (model X.prog X.w) X.A (f v u) Q X.xe s2) :
  wpAny (model X.prog X.w) X.A (eval a X.env) (λv s₁=>wpAny (model X.prog X.w) X.A (eval b X.env) (λu s₂=>wpAny (model X.prog X.w) X.A (f v u) Q X.xe s₂) X.xe s₁) X.xe s:=by
 refine gR (ha pins s σ H _ I h) λv s1 ⟨x,H1,I1,r1,q1⟩=>?_;refine gR (hb pins s1 σ H1 _ I1 q1) λu s2 ⟨y,H2,I2,r2,q2⟩=>?_;exact hf v u s2 x y H2 I2 r1 r2 q2
def YS(ho:qN X (binaryOp op) r)(ha:PE X a ta)(hb:PE X b tb):PE X (.BinOp a op b pos) (tOp r ta tb):=by intro pins s σ H Q I h;exact wpAny_BinOp<|agX ha hb I h λv u s2 x y H2 I2 rx ry q=>ho pins s2 σ H2 x y v u Q I2 rx ry q
def adP(ho:UnR X (unaryOp op) r)(ha:PE X a ta):PE X (.UnaryOp op a pos) (tUn r ta):=by intro pins s σ H Q I h;exact UnaryOp_<|gR (ha pins s σ H _ I h) λv s1 ⟨x,H1,I1,r1,q1⟩=>ho pins s1 σ H1 x v Q I1 r1 q1
def opI{g:Int->Int->Int}
  (rule:∀i j t u s Q E,C i j->Q (.int (g i j) s.toks) { s with toks:=s.toks+1 }->wpAny (model X.prog X.w) X.A (f (.int i t) (.int j u)) Q E s) :
  qN X f (rI C λi j=>.int (g i j)):=by
 intro pins s σ H x y v u Q I rx ry h;obtain⟨i,j,rfl,rfl,hc,q⟩:=h;obtain⟨t,rfl⟩:=rx;obtain⟨t',rfl⟩:=ry;exact rule i j t t' s _ _ hc ⟨.int<|g i j,H,I.tok _,⟨_,rfl⟩,q⟩
def afJ{g:Int->Int->Int}
  (rule:∀i j t u s Q E,Q (.int (g i j) s.toks) { s with toks:=s.toks+1 }->wpAny (model X.prog X.w) X.A (f (.int i t) (.int j u)) Q E s) :
  qN X f (Ql λi j=>.int (g i j)):=by
 intro pins s σ H x y v u Q I rx ry h;obtain⟨i,j,rfl,rfl,q⟩:=h;obtain⟨t,rfl⟩:=rx;obtain⟨t',rfl⟩:=ry;exact rule i j t t' s _ _ ⟨.int<|g i j,H,I.tok _,⟨_,rfl⟩,q⟩
def afK{g:Int->Int->Bool}
  (rule:∀i j t u s Q E,Q (.bool (g i j)) s->wpAny (model X.prog X.w) X.A (f (.int i t) (.int j u)) Q E s) :
  qN X f (Ql λi j=>.bl (g i j)):=by
 intro pins s σ H x y v u Q I rx ry h;obtain⟨i,j,rfl,rfl,q⟩:=h;obtain⟨t,rfl⟩:=rx;obtain⟨t',rfl⟩:=ry;exact rule i j t t' s _ _ ⟨.bl<|g i j,H,I,rfl,q⟩
def ajF(i j:Int):Prop:=0<j/\j<1073741824
def adq(i j:Int):Prop:=0<=j/\j<=1000000/\i.natAbs<2^64
def Qu(k):(0:Int)<=2^k:=by rw[two_pow_cast];exact Qb1 _
def afI:qN X (binaryOp .Add) (Ql λi j=>.int (i+j)):=afJ λ_ _ _ _ _ _ _ q=>add_int q
def afv:qN X (binaryOp .Sub) (Ql λi j=>.int (i - j)):=afJ λ_ _ _ _ _ _ _ q=>sub_int q
def afA:qN X (binaryOp .Mod) (rI (λ_ j=>0<j) λi j=>.int (i % j)):=opI λi j _ _ _ _ _ hc q=>by
 have h1:=hc;exact mod_int' (by omega) (by rw[Qd7 i (by omega)];exact q)
def afy:qN X (binaryOp .Pow) (rI adq λi j=>.int (i^j.toNat)):=opI λ_ _ _ _ _ _ _ hc q=>pow_int_small hc.1 hc.2.1 hc.2.2 q
def afx:qN X (binaryOp .LShift) (rI adq λi j=>.int (i*2^j.toNat)):=opI λ_ _ _ _ _ _ _ hc q=>lshift_int_small hc.1 hc.2.1 hc.2.2 q
def afw:qN X (binaryOp .RShift) (rI (λ_ j=>0<=j) λi j=>.int (i / 2^j.toNat)):=opI λi j _ _ _ _ _ hc q=>
 rshift_int hc (by rw[Qd8 i (Qu _)];exact q)
def afH:qN X (binaryOp .BitAnd) (Ql λi j=>.int (Builtin.bitAnd i j)):=afJ λ_ _ _ _ _ _ _ q=>and_int q
def unI{g:Int->Int}
  (rule:∀i t s Q E,Q (.int (g i) s.toks) { s with toks:=s.toks+1 }->wpAny (model X.prog X.w) X.A (f (.int i t)) Q E s) :
  UnR X f (rU λi=>.int (g i)):=by
 intro pins s σ H x v Q I rx h;obtain⟨i,rfl,q⟩:=h;obtain⟨t,rfl⟩:=rx;exact rule i t s _ _ ⟨.int<|g i,H,I.tok _,⟨_,rfl⟩,q⟩
def Xc:UnR X (unaryOp .USub) (rU λi=>.int (-i)):=unI λ_ _ _ _ _ q=>neg_int q
end
def agJ:decide (V.bl i=V.bl j)=(i == j):=by rw[Qvv];simp
section
variable{X:Cx}{a b c:Expr}{ta tb tc:TE}{pos:Pos}
def K3{σ:St}(I:Inv X pins σ H s)(q:Q (.bl k) H)(e:k=k'):EP X pins σ Q (.bool k') s:=by subst e;exact⟨.bl k,H,I,rfl,q⟩
def ait:qN X (compareOp .Lt) (Ql λi j=>.bl (decide (i<j))):=afK λ_ _ _ _ _ _ _ q=>lt_int q
def aiu:qN X (compareOp .LtE) (Ql λi j=>.bl (decide (i<=j))):=afK λ_ _ _ _ _ _ _ q=>le_int q
def aiv:qN X (compareOp .Gt) (Ql λi j=>.bl (decide (j<i))):=afK λ_ _ _ _ _ _ _ q=>gt_int q
def VH:qN X (compareOp .Lt) (λx y H Q=>∃i j,x=.str i/\y=.str j/\Q (.bl (decide (i.cps.toList<j.cps.toList))) H):=by intro pins s σ H x y v u Q I rx ry h;obtain⟨i,j,rfl,rfl,q⟩:=h;obtain⟨t,rfl⟩:=rx;obtain⟨t',rfl⟩:=ry;exact lt_str<|K3 I q rfl
def VJ:qN X (compareOp .In) (λx y H Q=>∃i j,x=.str i/\y=.str j/\Q (.bl (!(Builtin.Str.occurrences j i 0 j.length 1).isEmpty)) H):=by intro pins s σ H x y v u Q I rx ry h;obtain⟨i,j,rfl,rfl,q⟩:=h;obtain⟨t,rfl⟩:=rx;obtain⟨t',rfl⟩:=ry;exact in_str<|K3 I q rfl
def afC:qN X (compareOp .Is) (λx y H Q=>y=.non/\Q (.bl (decide (x=.non))) H):=by
 intro pins s σ H x y v u Q I rx ry h;obtain⟨rfl,q⟩:=h;cases ry;refine is_none_gen<|K3 I q ?_;cases x<;>first
  |(cases rx;rfl)|(obtain⟨t,rfl⟩:=rx;rfl)
def qN.or(h:qN X f r)(h':qN X f r'):qN X f (λx y H Q=>r x y H Q\/r' x y H Q):=by
 intro pins s σ H x y v u Q I rx ry q;rcases q with q|q;exact h pins s σ H x y v u Q I rx ry q;exact h' pins s σ H x y v u Q I rx ry q
def Tu(ho:qN X (compareOp op) r)(ha:PE X a ta)(hb:PE X b tb)(hm:behindInMarks op b=false):PE X (.Compare a [op] [b] pos) (tOp r ta tb):=by intro pins s σ H Q I h;exact wpAny_Compare1 (agX ha hb I h λv u s2 x y H2 I2 rx ry q=>ho pins s2 σ H2 x y v u Q I2 rx ry q) hm
def adE(t:TE):TT:=λσ H Q=>t σ H λx H'=>∃k,x=.bl k/\Q k H'
def Tq(ho:qN X (compareOp op) r)(ha:PE X a ta)(hb:PE X b tb)(hm:behindInMarks op b=false):PT X (.Compare a [op] [b] pos) (adE (tOp r ta tb)):=by
 intro pins s σ H Q I h;refine wpAny_isTrue_Compare1 (gR (ha pins s σ H _ I h) λv s1 ⟨x,H1,I1,r1,q1⟩=>gR (hb pins s1 σ H1 _ I1 q1) λu s2 ⟨y,H2,I2,r2,q2⟩=>
  gR (ho pins s2 σ H2 x y v u _ I2 r1 r2 q2) λc s3 ⟨z,H3,I3,r3,k,e,q3⟩=>?_) hm
 subst e;cases r3;exact Qkv ⟨H3,I3,q3⟩
def Xl(r r':R2)(ta tb tc:TE):TE:=λσ H Q=>ta σ H λx H1=>tb σ H1 λy H2=>r x y H2 λz H3=>∃k,z=.bl k/\
 (if k=true then tc σ H3 λw' H4=>r' y w' H4 Q else Q (.bl false) H3)
def Yx(ho:qN X (compareOp op) r)(ho':qN X (compareOp op') r')(ha:PE X a ta)(hb:PE X b tb)(hc:PE X c tc)
  (hm:lastMarks [op,op'] [b,c]=false:=by with_unfolding_all rfl):PT X (.Compare a [op,op'] [b,c] pos) (adE (Xl r r' ta tb tc)):=by
 intro pins s σ H Q I h;refine isTrue_chain (gR (ha pins s σ H _ I h) λv s1 ⟨x,H1,I1,r1,q1⟩=>test_link (gR (hb pins s1 σ H1 _ I1 q1) λu s2 ⟨y,H2,I2,r2,q2⟩=>
  gR (ho pins s2 σ H2 x y v u _ I2 r1 r2 q2) λd s3 ⟨z,H3,I3,r3,k,e,q3⟩=>?_)) hm
 subst e;cases r3;refine Qkv ?_;cases k with
 |false=>obtain⟨k',e',q'⟩:=q3;cases e';exact ite_ff ⟨H3,I3,q'⟩|true=>refine ite_tt<|test_last<|gR (hc pins s3 σ H3 _ I3 q3) λw' s4 ⟨z',H4,I4,r4,q4⟩=>gR (ho' pins s4 σ H4 y z' u w' _ I4 r2 r4 q4) λd' s5 ⟨z2,H5,I5,r5,k2,e2,q5⟩=>?_;subst e2;cases r5;exact Qkv ⟨H5,I5,q5⟩
def agk{κ:Type}{kvs:List (κ×V)}{vs:List (κ×Value)}(r:KV kvs vs):(!vs.isEmpty) = !kvs.isEmpty:=by cases r<;>rfl
def agj(r:Vals xs its):(!its.toArray.isEmpty)=!xs.isEmpty:=by cases r<;>simp
def FT:sizeLine<2^63:=by rw[Qy3];decide
def Ro:qN X (binaryOp .Add) (λx y H Q=>∃i j,x=.str i/\y=.str j/\i.length+j.length<=sizeLine/\Q (.str (i++j)) H):=by intro pins s σ H x y v u Q I rx ry h;obtain⟨i,j,rfl,rfl,hz,q⟩:=h;obtain⟨t,rfl⟩:=rx;obtain⟨t',rfl⟩:=ry;exact add_str (λt' tk=>⟨.str<|i++j,H,I.tok _,⟨_,rfl⟩,q⟩) hz
def vals1(r:Vals [x] us):∃u,us=[u]/\RelV x u:=by
 cases r with
 |cons r1 r2=>cases r2;exact⟨_,rfl,r1⟩
def vals2(r:Vals [x,y] us):∃u w',us=[u,w']/\RelV x u/\RelV y w':=by
 cases r with
 |cons r1 r2=>
  cases r2 with
  |cons r3 r4=>cases r4;exact⟨_,_,rfl,r1,r3⟩
def Wy(hc:X.calm=true):jQ X (.builtin "max") (λxs H Q=>∃i j,xs=[.int i,.int j]/\Q (.int (if j > i then j else i)) H):=by
 intro pins s σ H xs us Q I r h;obtain⟨i,j,rfl,q⟩:=h;obtain⟨u,w',rfl,⟨t,rfl⟩,⟨t',rfl⟩⟩:=vals2 r;refine max_two_ints (I.ok.hd hc) λh' tk k=>⟨_,H,I.kept k,?_,q⟩;by_cases hj:j > i;rw[Qv4 hj,Qv4 hj];exact⟨_,rfl⟩;rw[Qv5 hj,Qv5 hj];exact⟨_,rfl⟩
def Wx(hc:X.calm=true):jQ X (.builtin "min") (λxs H Q=>∃i j,xs=[.int i,.int j]/\Q (.int (if j<i then j else i)) H):=by
 intro pins s σ H xs us Q I r h;obtain⟨i,j,rfl,q⟩:=h;obtain⟨u,w',rfl,⟨t,rfl⟩,⟨t',rfl⟩⟩:=vals2 r;refine min_two_ints (I.ok.hd hc) λh' tk k=>⟨_,H,I.kept k,?_,q⟩;by_cases hj:j<i;rw[Qv4 hj,Qv4 hj];exact⟨_,rfl⟩;rw[Qv5 hj,Qv5 hj];exact⟨_,rfl⟩
def ajC(K:PySem.W.Frag)(x:V)(H:Hp)(n:Nat):Prop:=
 match x with
 |.str y=>y.length<=sizeLine/\n=y.length|.byt y=>y.size<=sizeLine/\n=y.size|.ref p=>(∃xs,lK K H p xs/\n=xs.length)\/∃xs,pg K H p xs/\n=xs.length|_=>False
def aaJ:jQ X (.builtin "len") (λxs H Q=>∃x n,xs=[x]/\ajC X.K x H n/\Q (.int n) H):=by
 intro pins s σ H xs us Q I r h;obtain⟨x,n,rfl,e,q⟩:=h;obtain⟨u,rfl,rx⟩:=vals1 r;have hl:=FT;have hs:=Qy3;cases x with
 |str y=>obtain⟨t,rfl⟩:=rx;obtain⟨hy,e'⟩:y.length<=sizeLine/\n=y.length:=e;subst e';exact len_str (by omega) ⟨.int _,H,I.tok _,⟨_,rfl⟩,q⟩|byt y=>obtain⟨t,rfl⟩:=rx;obtain⟨hy,e'⟩:y.size<=sizeLine/\n=y.size:=e;subst e';exact PySem.W.len_bytes (by omega) ⟨.int _,H,I.tok _,⟨_,rfl⟩,q⟩|ref p=>cases rx;have e':=e;rcases e' with ⟨xs,hx,e'⟩|⟨xs,hx,e'⟩;subst e';obtain⟨its,r',pl,hz⟩:=I.list hx;have hlen:=r'.length;exact Calls.call_len_list pl.isList (by simp[Qq3];omega) ⟨.int xs.length,H,I.tok _,⟨_,by simp only[Qq3];rw[hlen]⟩,q⟩;subst e';obtain⟨its,r',pl,hz⟩:=I.tuple hx;have hlen:=r'.length;exact len_tuple pl (by simp[Qq3];omega) ⟨.int xs.length,H,I.tok _,⟨_,by simp only[Qq3];rw[hlen]⟩,q⟩
 |_=>exact e.elim
def PK:jQ X (.builtin "divmod") (λxs H Q=>∃i j,xs=[.int i,.int j]/\ajF i j/\∀p,H p=none->Q (.ref p) (upd H p (.tup [.int (i / j),.int (i % j)]))):=by intro pins s σ H xs us Q I r h;obtain⟨i,j,rfl,⟨h1,h2⟩,q⟩:=h;obtain⟨u,w',rfl,⟨t,rfl⟩,⟨t',rfl⟩⟩:=vals2 r;refine divmod_int (by omega) ?_<|.inl<|Q0v (by omega);rw[Qd8 i (by omega),Qd7 i (by omega)];refine⟨.ref s.heap.objs.size,_,?_,rfl,q _ (I.hok.fresh<|Qq0 _)⟩;refine I.laid (λb o e=>Qqz _ e) (Qq0 _) ⟨by simp[Qqy,Qx2];rw[Qy3];decide,[.int (i / j) s.toks,.int (i % j)<|s.toks+1],.cons ⟨_,rfl⟩<|.cons ⟨_,rfl⟩ .nil,?_⟩;exact⟨_,Qwv s.heap rfl,rfl,⟨0,rfl⟩,rfl⟩
end
def zT.some_of(r:zT (some v) o):∃u,o=some u/\RelV v u:=by
 cases o with
 |none=>exact r.elim|some u=>exact⟨u,rfl,r⟩
structure mH(k:Nat)(A:Around):Prop where
 hd:A.handled=none
 dp:A.depth+3*k+5<recursionLimit
 un:A.units+16*k+200<cLine
def mH.mono(r:mH k A)(h:j<=k):mH j A:=⟨r.hd,by have:=r.dp;omega,by have:=r.un;omega⟩
def mH.deeper(r:mH (k+1) A)(env):mH k (A.deeper env):=
 ⟨r.hd,by have:=r.dp;show A.depth+1+3*k+5<_;omega,by have:=r.un;show A.units+3+16*k+200<_;omega⟩
def mH.depth(r:mH k A):A.depth<recursionLimit:=by have:=r.dp;omega
def mH.units(r:mH k A):A.units+64<cLine:=by have:=r.un;omega
def akj:TA:=λ_ H Q=>Q [] H
def ahL(ta:TE)(tr:TA):TA:=λσ H Q=>ta σ H λx H1=>tr σ H1 λxs H2=>Q (x::xs) H2
section
variable{X:Cx}{e:Expr}{es:List Expr}{te:TE}{t:TA}{pos:Pos}
def rT:PA X [] akj:=λ_ _ _ _ H Q I h=>Calls.spliced_nil ⟨[],H,I,.nil,h⟩
def j7(ha:PE X e te)(hr:PA X es t)(hs:starEach (e::es) X.env=(false,eval e X.env)::starEach es X.env:=by rfl):PA X (e::es) (ahL te t):=by intro pos pins s σ H Q I h;rw[hs];show wpAny _ _ (spliced ((false,eval e X.env)::backTo pos (starEach es X.env))) _ _ s;refine Qf2<|gR (ha pins s σ H _ I h) λu s1 ⟨x,H1,I1,r1,q1⟩=>?_;exact gR (hr pos pins s1 σ H1 _ I1 q1) λus s2 ⟨xs,H2,I2,r2,q2⟩=>⟨x::xs,H2,I2,.cons r1 r2,q2⟩
def akb(t:TA):TE:=λσ H Q=>t σ H λxs H1=>xs.length<=sizeLine/\∀p,H1 p=none->Q (.ref p) (upd H1 p (.tup xs))
def akk(t:TA):TE:=λσ H Q=>t σ H λxs H1=>xs.length<=sizeLine/\∀p,H1 p=none->Q (.ref p) (upd H1 p (.lst xs))
def afm{x1}(h:PA X es t):PE X (.Tuple es x1 pos) (akb t):=by intro pins s σ H Q I hq;refine wpAny_Tuple_spliced<|gR (h pos pins s σ H _ I hq) λus s1 ⟨xs,H1,I1,r,z,q⟩=>⟨by rw[<-r.length];exact z,?_⟩;refine⟨.ref s1.heap.objs.size,upd H1 s1.heap.objs.size<|.tup xs,I1.laid (λb u e=>Qqz _ e) (Qq0 _) ?_,rfl,q _ (I1.hok.fresh<|Qq0 _)⟩;exact⟨z,us,r,Hj.new _ _⟩
def afq(h:PA X es t):PE X (.List es pos) (akk t):=by intro pins s σ H Q I hq;refine wpAny_List_spliced<|gR (h pos pins s σ H _ I hq) λus s1 ⟨xs,H1,I1,r,z,q⟩=>⟨by rw[<-r.length];exact z,?_⟩;refine⟨.ref s1.heap.objs.size,upd H1 s1.heap.objs.size<|.lst xs,I1.laid (λb u e=>Qqz _ e) (Qq0 _) ?_,rfl,q _ (I1.hok.fresh<|Qq0 _)⟩;exact⟨z,us,0,r,Qwv _ rfl⟩
end
abbrev Sp:=List V->Hp->VK->XK->Prop
abbrev CXT:=List Env->Hp->Shared->XK->Value->Shared->Prop
structure ado(P:Program)(w:World)(K:PySem.W.Frag)(mg:Str->Option Value)(base:Heap)(A:Around)(outer:List Env)(s:Shared)(H:Hp):Prop where
 frames:A.frames=some outer
 mod:Mod K mg base
 bs:∀b o,base.get? b=some o->s.heap.get? b=some o/\H b=none
 bsz:base.objs.size<=s.heap.objs.size
 Gj:s.heap.FunFrames base outer
 frf:∀b∈frs outer,H b=none
 hok:zW P w H s.heap
 bare:AllBare s.gens
def CE(outer:List Env)(P:Program)(w:World)(H:Hp)(s:Shared)(Q:VK)(u:Value)(s':Shared):Prop:=
 ∃v H',s'.os=s.os/\AllBare s'.gens/\Un (frs outer) [] H H' s.heap s'.heap/\zW P w H' s'.heap/\RelV v u/\Q v H'
def CR(CX:CXT)(outer:List Env)(P:Program)(w:World)(H:Hp)(s:Shared)(Q:VK)(E:XK)(r:Result)(s':Shared):Prop:=
 match r with
 |.ok (.ret u)=>CE outer P w H s Q u s'|.ok _=>False|.error e=>CX outer H s E e s'
structure sH(P:Program)(w:World)(K:PySem.W.Frag)(mg:Str->Option Value)(base:Heap)(CX:CXT)(k:Nat)(f:Addr)(fd:FuncData)(ps:List Str)(sp:Sp):Prop where
 len:∀vs H Q E,sp vs H Q E->vs.length=ps.length
 run:∀(A:Around) (outer:List Env) (s:Shared) (H:Hp) (args:Args) (us:List Value) (vs:List V) (Q:VK) (E:XK),mH k A->ado P w K mg base A outer s H->BindsTo s fd args (ps.zip us)->Vals vs us->sp vs H Q E->
  codeAny (model P w) A (.call (.ref f) args) (CR CX outer P w H s Q E) s
section
variable{X:Cx}{pins:List (Addr×Obj)}{σ:St}{H:Hp}{s s':Shared}
def Inv.env0(I:Inv X pins σ H s):ado X.prog X.w X.K X.mg X.base X.A X.stack s H:=
 ⟨I.ok.frames,I.ok.mod,I.bs,Qq1 I.ok.bsz I.sz,I.stack,I.SQ,I.hok,I.bare⟩
def Inv.after(I:Inv X pins σ H s)(h:CE X.stack X.prog X.w H s Q u s'):EP X pins σ Q u s':=by obtain⟨v,H',os,bare,un,hok,r,q⟩:=h;obtain⟨hh,g,d,t,os'⟩:=s';obtain rfl:os'=s.os:=os;exact⟨v,H',I.call un hok bare<|λb z=>absurd z (by simp),r,q⟩
end
def ahM(sp:Sp)(dvs:List V)(E:XK)(t:TA):TE:=λσ H Q=>t σ H λvs H1=>sp (vs++dvs) H1 Q E
def Binds(K:PySem.W.Frag)(fd:FuncData)(ps:List Str)(ds:List Value):Prop:=
 ∀(s:Shared) (us:List Value),K.In s.heap->(us++ds).length=ps.length->BindsTo s fd ⟨us,[]⟩ (ps.zip (us++ds))
def Binds.all{K:PySem.W.Frag}(h:∀us,us.length=ps.length->bindArgs fd ⟨us,[]⟩=pure (ps.zip us)):Binds K fd ps []:=λs us _ hl=>by
 rw[Qw8] at hl ⊢;exact .of_eq<|h us hl
def Passes(CX:CXT)(X:Cx)(E:XK):Prop:=∀(pins:List (Addr×Obj)) (σ:St) (H:Hp) (s:Shared) (e:Value) (s':Shared),Inv X pins σ H s->CX X.stack H s E e s'->X.xe e s'
section
variable{X:Cx}{CX:CXT}{k:Nat}{f C:Addr}{fd:FuncData}{ps:List Str}{sp:Sp}{dvs:List V}{ds:List Value}{E:XK}{x m:Str}{p pos apos:Pos}{e o:Expr}{es:List Expr}{ta:TE}{t:TA}
def aeV{σ:St}(F:sH X.prog X.w X.K X.mg X.base CX k f fd ps sp)(hr:mH k X.A)(hb:Binds X.K fd ps ds)(hd:Vals dvs ds)(hx:Passes CX X E)
  (I:Inv X pins σ H s) (r:Vals vs us) (h:sp (vs++dvs) H Q E):wpAny (model X.prog X.w) X.A (call (.ref f) us) (EP X pins σ Q) X.xe s:=by
 have r2:=r.append hd;have hl:(us++ds).length=ps.length:=by rw[<-r2.length];exact F.len _ _ _ _ h
 refine wpAny_call<|Qfq (F.run X.A X.stack s H ⟨us,[]⟩ (us++ds) (vs++dvs) Q E hr I.env0 (hb s us I.kIn hl) r2 h) λr s' hq=>?_;cases r with
 |error e=>exact hx pins σ H s e s' I hq
 |ok fl=>
  cases fl with
  |ret u=>exact I.after hq|next=>exact False.elim hq|brk=>exact False.elim hq|cont=>exact False.elim hq
def Dl(F:sH X.prog X.w X.K X.mg X.base CX k f fd ps sp)(hr:mH k X.A)(hg:Gl X x)(hm:X.mg x=some (.ref f))(hk:PySem.W.keepIn X.K (.ref f)=true)(hb:Binds X.K fd ps ds)(hd:Vals dvs ds)(hx:Passes CX X E)
  (ha:PA X (e::es) t) (hdb:qT x:=by decide) (he:starEach (e::es) X.env=(false,eval e X.env)::starEach es X.env:=by rfl) (hpl:(backTo pos (starEach es X.env)).any (·.1)=false:=by rfl) :
  PE X (.Call (.Name x p) (e::es) [] pos) (ahM sp dvs E t):=by
 intro pins s σ H Q I h;refine Qfj<|T3 I hg hm ?_ hdb;refine PySem.W.callWith_K I.ok.mod.V5 hk (gR (ha pos pins s σ H _ I h) λus s1 ⟨vs,H1,I1,r,q⟩=>⟨I1.kIn,?_⟩) he hpl;exact aeV F hr hb hd hx I1 r q
end
structure bI(N P:List Str)(sc:Scope):Prop where
 kind:sc.kind=.function
 co:sc.isCoroutine=false
 gen:sc.isGenerator=false
 nd:N.Nodup
 pre:N.take P.length=P
 par:∀x∈P,sc.names.lookup x=some .local\/sc.names.lookup x=some .cell
 afX:∀y∈sc.names,y.2 ≠ .free
theorem Jz{kindOf:Str->Option NameKind}:∀{binds} {m},(∀v,(x,v) ∉ binds)->bindL kindOf binds m x=m x
 |[],_,_=>rfl
 |(n,v)::r,m,h=>by
  unfold bindL;rw[Jz λw hw=>h w<|Qqk _ hw];split;have:x≠n:=by rintro rfl;exact h v Qqj
  simp[this];rfl
theorem JC{kindOf:Str->Option NameKind}:∀{binds} {m},(∀v,(x,v) ∉ binds)->bindC kindOf binds m x=m x
 |[],_,_=>rfl
 |(n,v)::r,m,h=>by
  unfold bindC;rw[JC λw hw=>h w<|Qqk _ hw];split;rfl;have:x≠n:=by rintro rfl;exact h v Qqj
  simp[this]
theorem JB{kindOf:Str->Option NameKind}:∀{P:List Str} {vs} {i:Nat} {m},P.Nodup->P[i]?=some x->vs[i]?=some v->kindOf x=some .local->
  bindL kindOf (P.zip vs) m x=some v
 |[],_,_,_,_,h,_,_=>by simp at h|_::_,[],_,_,_,_,h,_=>by simp at h
 |p::P,w::vs,0,m,nd,h1,h2,hk=>by
  simp at h1 h2;subst h1;subst h2;show bindL kindOf ((p,w)::P.zip vs) m p=_;unfold bindL;rw[Jz λv hv=>(Qx3.mp nd).1 (Qvw hv).1,Qv4 hk];simp
 |p::P,w::vs,i+1,m,nd,h1,h2,hk=>by
  show bindL kindOf ((p,w)::P.zip vs) m x=_;unfold bindL;exact JB (Qx3.mp nd).2 (by simpa using h1) (by simpa using h2) hk
theorem JD{kindOf:Str->Option NameKind}:∀{P:List Str} {vs} {i:Nat} {m},P.Nodup->P[i]?=some x->vs[i]?=some v->kindOf x≠some .local->
  bindC kindOf (P.zip vs) m x=some v
 |[],_,_,_,_,h,_,_=>by simp at h|_::_,[],_,_,_,_,h,_=>by simp at h
 |p::P,w::vs,0,m,nd,h1,h2,hk=>by
  simp at h1 h2;subst h1;subst h2;show bindC kindOf ((p,w)::P.zip vs) m p=_;unfold bindC;rw[JC λv hv=>(Qx3.mp nd).1 (Qvw hv).1,Qv5 hk];simp
 |p::P,w::vs,i+1,m,nd,h1,h2,hk=>by
  show bindC kindOf ((p,w)::P.zip vs) m x=_;unfold bindC;exact JD (Qx3.mp nd).2 (by simpa using h1) (by simpa using h2) hk
def start(N:List Str)(vs:List V):St:=vs.map some++List.replicate (N.length - vs.length) none
def RT(CX:CXT)(P:Program)(w:World)(K:PySem.W.Frag)(mg:Str->Option Value)(base:Heap)(N:List Str)(qual:Str)(scope:Scope)(f:Addr)(cd:Value)(A:Around)(outer:List Env)(s:Shared)(H:Hp)(E:XK):Cx where
 prog:=P
 w:=w
 K:=K
 mg:=mg
 base:=base
 A:=A.deeper (envOfC qual scope s.heap.objs.size f cd)
 N:=N
 s₀:=s
 H₀:=H
 env:=envOfC qual scope s.heap.objs.size f cd
 outer:=outer
 stack:=envOfC qual scope s.heap.objs.size f cd::outer
 ex:=[]
 calm:=true
 fn:=λ_=>true
 pn:=[]
 xe:=λe s'=>wpAny (model P w) (A.deeper (envOfC qual scope s.heap.objs.size f cd)) (leaving (envOfC qual scope s.heap.objs.size f cd) e) (λ_ s''=>CX outer H s E e s'') (λe' s''=>CX outer H s E e' s'') s'
def GQ{sc:Scope}(h:sc.names.lookup x=some .cell):∃c,(cellsFrom n sc.names []).lookup x=some c:=by exact Qz1.mp (Qb4 sc.names n []<|.inl h)
theorem Wa{K:PySem.W.Frag}
  (S:bI N ps scope) (hd:A.handled=none) (e0:ado P w K mg base A outer s H) (hl:vs.length=ps.length) (r:Vals vs us)
  (x:InCallC s s.heap.objs.size (bindL (envOfC qual scope s.heap.objs.size f cd).kindOf (ps.zip us) λ_=>none) (cellsFrom (s.heap.objs.size+1) scope.names []) (bindC (envOfC qual scope s.heap.objs.size f cd).kindOf (ps.zip us) λ_=>none) s1) :
  Inv (RT CX P w K mg base N qual scope f cd A outer s H E) [] (start N vs) H s1:=by
 have hpl:ps.length<=N.length:=by have:=Qx1 List.length S.pre;rw[Qzv] at this;omega
 obtain⟨h1,tk,rfl,hk⟩:=x.done;have noA:∀b,b ∉ (RT CX P w K mg base N qual scope f cd A outer s H E).ex:=λb z=>absurd (show b∈[] from z) (by simp);refine⟨⟨e0.mod,S.kind,rfl,rfl,Qq0 _,λy z c h1 h2=>?_,λy hy=>?_,λy c _ h=>?_,λ_=>hd,Around.frames_deeper e0.frames,.inr ⟨rfl,rfl⟩,λb z=>absurd z<|noA b,e0.bs,e0.bsz,λb _ _=>noA b,λb z=>absurd z<|noA b,e0.Gj,e0.frf⟩,
  rfl,e0.bare,Un.kept hk,⟨_,x.toInCall.ns,λi y v h1 h2 h3=>?_⟩,λy c h=>⟨_,x.cell y c h⟩,e0.hok.fresh<|Qq0 _,λy c h=>?_,λp hp=>absurd (show p∈[] from hp) (by simp),e0.hok.kept hk,?_⟩
 exact name_of_addr x.apart (Qk9 h1)<|Qk9 h2;have hy:=hy;rcases hy with hy|hy;exact GQ hy;exact absurd rfl (S.afX _<|Qk9 hy);exact Qv2<|x.above y c<|Qk9 h;have hi:i<vs.length:=by
  unfold start at h2;by_cases hi:i<vs.length;exact hi;rw[Qx6 (by simpa using hi)] at h2;rw[Qjk] at h2;split at h2<;>cases h2
 have ha:vs[i]?=some v:=by
  unfold start at h2;rw[Qxj (by simpa using hi),Qw1] at h2;cases e:vs[i]? with
  |none=>rw[e] at h2;cases h2|some a=>rw[e] at h2;cases h2;rfl
 obtain⟨u,hu,rv⟩:=r.get ha;have hp:ps[i]?=some y:=by rw[<-S.pre,Qjz (by omega)];exact h1
 have ndP:ps.Nodup:=by rw[<-S.pre];exact S.nd.sublist<|List.take_sublist _ _
 refine⟨u,rv,?_⟩;rcases S.par y (Qwk hp) with k|k;exact .inl ⟨k,JB ndP hp hu k⟩;obtain⟨c,e⟩:=GQ k;refine .inr ⟨.inl k,c,e,?_⟩;have q:=x.cell y c e;rw[JD ndP hp hu (by show scope.names.lookup y≠_;rw[k];decide)] at q;exact q;exact .inl<|e0.hok.fresh<|Qv2<|x.above y c<|Qk9 h;unfold start;show _=N.length;rw[Qqv,Qqx,Qz3];omega
theorem ajh{K:PySem.W.Frag}{dV kV doc pm cdv ct oc:Value}
  (lk:K.lookup f=some ⟨oc,od,.func (PySem.W.fnOf name qual params body scope dV kV doc pm an cdv ct),osl⟩) (hcd:PySem.W.codeIn K cdv qual=true) (S:bI N ps scope)
  (len:∀vs H Q E,sp vs H Q E->vs.length=ps.length)
  (hbody:∀A outer s H vs Q E,mH k (A.deeper (envOfC qual scope s.heap.objs.size f cdv))->sp vs H Q E->
   ∃t,Qj (RT CX P w K mg base N qual scope f cdv A outer s H E) body t/\t { nx:=λ_ H'=>Q .non H',rt:=Q } (start N vs) H) :
  sH P w K mg base CX (k+1) f (PySem.W.fnOf name qual params body scope dV kV doc pm an cdv ct) ps sp:=by
 refine⟨len,λA outer s H args us vs Q E hr e0 hb r hsp=>?_⟩;have KX:=e0.mod.V5.keeps λb o e=>(e0.bs b o e).1;have hkind:∀y∈ps.zip us,scope.names.lookup y.1=some .local\/(scope.names.lookup y.1=some .cell/\((cellsFrom (s.heap.objs.size+1) scope.names []).lookup y.1).isSome=true):=λ⟨n,v⟩ hy=>by
  rcases S.par n (Qvw hy).1 with q|q;exact .inl q;exact .inr ⟨q,Qb4 _ _ _<|.inl q⟩
 refine codeAny_call_function hr.depth (KX _ _ lk) rfl S.co S.gen rfl (PySem.W.codeRec_of KX hcd) (hb _ _ _ _ ?_);refine wpAny_newFunctionEnv_cells S.kind hkind λenv he s1 x=>?_;subst he;refine⟨(e0.mod.nolimit.keeps λb o e=>(e0.bs b o e).1).keeps x.toInCall.keep,codeAny_func ?_⟩;obtain⟨t,ht,hq⟩:=hbody A outer s H vs Q E (hr.deeper _) hsp;have I:Inv (RT CX P w K mg base N qual scope f cdv A outer s H E) [] (start N vs) H s1:=Wa S hr.hd e0 (len _ _ _ _ hsp) r x;refine Qj2 (ht [] s1 (start N vs) H _ I hq) (λfl s' hs=>?_) λe s' hs=>hs;have fin:∀{σ'} {H'} {v} {u},Inv (RT CX P w K mg base N qual scope f cdv A outer s H E) [] σ' H' s'->RelV v u->Q v H'->CE outer P w H s Q u s':=
  λ{σ' H' v u} J rv q=>⟨v,H',J.os,J.bare,J.base,J.hok,rv,q⟩
 cases fl with
 |ret u=>obtain⟨v,σ',H',J,rv,q⟩:=hs;exact fin J rv q|next=>obtain⟨σ',H',J,q⟩:=hs;exact fin (v:=V.non) J rfl q|brk=>obtain⟨_,_,_,q⟩:=hs;exact False.elim q|cont=>obtain⟨_,_,_,q⟩:=hs;exact False.elim q
section
variable{X:Cx}{x:Str}{p pos:Pos}{e:Expr}{es:List Expr}{t:TA}{id T:String}{r:List V->Hp->VK->Prop}
def tCB(r:List V->Hp->VK->Prop)(t:TA):TE:=λσ H Q=>t σ H λvs H1=>r vs H1 Q
def Fp(hc:jQ X (.builtin id) r)(hg:Gl X x)(hm:X.mg x=none)(hv:bootBuiltins x=some (.builtin id))(ha:PA X (e::es) t)(hn:x ≠ "__name__":=by decide)(hdb:qT x:=by decide)
  (he:starEach (e::es) X.env=(false,eval e X.env)::starEach es X.env:=by rfl) (hpl:(backTo pos (starEach es X.env)).any (·.1)=false:=by rfl):PE X (.Call (.Name x p) (e::es) [] pos) (tCB r t):=by
 intro pins s σ H Q I h;refine Qfj<|uo I hg hm hv ?_ hn hdb;exact PyProof.Rows.callWith_builtin1 (gR (ha pos pins s σ H _ I h) λus s1 ⟨vs,H1,I1,r1,q1⟩=>hc pins s1 σ H1 vs us Q I1 r1 q1) he hpl
def Aw(hc:jQ X (.type T) r)(hg:Gl X x)(hm:X.mg x=none)(hv:bootBuiltins x=some (.type T))(ha:PA X (e::es) t)(hn:x ≠ "__name__":=by decide)(hdb:qT x:=by decide)
  (he:starEach (e::es) X.env=(false,eval e X.env)::starEach es X.env:=by rfl) (hpl:(backTo pos (starEach es X.env)).any (·.1)=false:=by rfl):PE X (.Call (.Name x p) (e::es) [] pos) (tCB r t):=by
 intro pins s σ H Q I h;refine Qfj<|uo I hg hm hv ?_ hn hdb;exact Qzq (gR (ha pos pins s σ H _ I h) λus s1 ⟨vs,H1,I1,r1,q1⟩=>hc pins s1 σ H1 vs us Q I1 r1 q1) he hpl
end
end L2
namespace HT
open PySem PyProof.Rows
section
variable{prog:Program}{w:World}{A:Around}{E:Value->Shared->Prop}{s:Shared}
def ac3(ht:IsTup s.heap t vs.toArray)(hb:IsTup s.heap b ws.toArray)(hv:vs≠[])
  (h1:ws=[]->Q (.ref t) s) (h2:ws≠[]->Q (.ref s.heap.objs.size) { s with heap:=s.heap.push { cls:=.type "tuple",data:=.seq (vs++ws).toArray } })
  (hsz:vs.length+ws.length<=sizeLine):wpAny (model prog w) A (binaryOp .Add (.ref t) (.ref b)) Q E s:=by
 obtain⟨⟨cls,dd,data,sl⟩,ho,hc,n,hd⟩:=id ht;obtain⟨⟨cls2,dd2,data2,sl2⟩,ho2,hc2,n2,hd2⟩:=id hb;simp at hc hd hc2 hd2;subst hc hd hc2 hd2;have e:vs.toArray++ws.toArray=(vs++ws).toArray:=by simp
 by_cases hw:ws=[];exact concat_meets ⟨_,ho,rfl⟩ ⟨_,ho2,rfl⟩ Qg6 seq_tuple_add Qb5 Qb2 (Qy7 _ _)
  (tuple_addW1 t b vs.toArray ws.toArray n n2 dd dd2 sl sl2 (by simpa using hv) (by simp[hw])) ⟨ho,ho2,h1 hw⟩
 refine concat_meets ⟨_,ho,rfl⟩ ⟨_,ho2,rfl⟩ Qg6 seq_tuple_add Qb5 Qb2 (Qy7 _ _)
  (tuple_addW2 t b vs.toArray ws.toArray n n2 dd dd2 sl sl2 (by simpa using hv) (by simpa using hw) (by rw[Qq3,Qq3];exact hsz)) ⟨ho,ho2,?_⟩
 rw[e];exact h2 hw
def iB(n d:Nat):Option Int->Nat
 |none=>d|some v=>if v<0 then (v+(n:Int)).toNat else min v.toNat n
def Td(n d k:Nat):iB n d (some k)=min k n:=by show(if k<0 then (k+(n:Int)).toNat else min (k:Int).toNat n)=min k n;rw[Qv5 (by omega),Qj4]
def Ke(n d)(hd:d<=n)(o):iB n d o<=n:=by
 cases o with
 |none=>exact hd|some v=>show(if v<0 then (v+n).toNat else min v.toNat n)<=n;by_cases hv:v<0;rw[Qv4 hv];omega;rw[Qv5 hv];exact Nat.min_le_right _ _
def Uv(v)(n d:Nat):(if v<0 then max (v+(n:Int)) 0 else min v n)=(iB n d (some v)):=by
 show(if v<0 then max (v+n) 0 else min v n)=(if v<0 then (v+n).toNat else min v.toNat n);by_cases hv:v<0;simp only[Qv4 hv];omega;simp[Qv5 hv];omega
def R7(lo hi)(n:Nat):Builtin.Slice.sliceAdjust lo hi 1 n=(((iB n 0 lo):Int),((iB n n hi):Int)):=by
 have h1:¬(1<0):=by omega
 unfold Builtin.Slice.sliceAdjust;simp only[h1,Q1y];refine Prod.ext ?_ ?_;cases lo with
 |none=>rfl|some v=>exact Uv v n 0
 cases hi with
 |none=>rfl|some v=>exact Uv v n n
def Rj(i j:Nat):Builtin.Slice.slicePlaces i j 1=j - i:=by
 unfold Builtin.Slice.slicePlaces;have h1:1 > 0:=by omega
 simp[h1,Qhv,Int.ediv_one];split<;>omega
def El(p:IsPart v o)(h:Q o s):wpAny (model prog w) A (Builtin.Slice.slicePartIndex v) Q E s:=by
 cases p with
 |none=>exact slicePart_none h|int i t=>exact slicePart_int h
def sJ{lo hi:Option Int}{Q:Int×Int×Nat->Shared->Prop}(hs:s.heap.IsSliceOf sl vl vu .none)(pl:IsPart vl lo)(pu:IsPart vu hi)
  (h:Q ((iB n 0 lo),1,iB n n hi - iB n 0 lo) s):wpAny (model prog w) A (Builtin.Slice.sliceApplied (.ref sl) (pure n)) Q E s:=by
 obtain⟨os,hos,hcs,hds⟩:=id hs;unfold Builtin.Slice.sliceApplied Builtin.Slice.sliceFields;refine Qqq<|Qqq<|Qjj hos hds rfl (Qqq<|Qjj hos hds rfl (Qqq<|Qjj hos hds rfl (Qq2 ?_)));refine Qqq<|slicePart_none ?_;show wpAny _ _ (if (1 == 0)=true then _ else _) _ _ s;rw[Qv5 (by decide)];refine Qqq<|El pl<|Qqq<|El pu<|Qqq<|Qq2 ?_;show wpAny _ _ (match Builtin.Slice.sliceAdjust lo hi 1 n with|(lo,hi)=>pure (lo,(1:Int),Builtin.Slice.slicePlaces lo hi 1)) _ _ s;rw[R7 lo hi n];show wpAny _ _ (pure (((iB n 0 lo):Int),1,Builtin.Slice.slicePlaces (iB n 0 lo) (iB n n hi) 1)) _ _ s;rw[Rj];exact Qq2 h
def YL(xs:Array Value)(i k:Nat):((List.range k).filterMap λ(m:Nat)=>xs[(i+(m:Int)*1).toNat]?).toArray=((xs.toList.drop i).take k).toArray:=by
 have e:(λ(m:Nat)=>xs[(i+(m:Int)*1).toNat]?)=λm=>xs[i+m]?:=by
  funext m
  have:(i+(m:Int)*1).toNat=i+m:=by omega
  rw[this]
 rw[e];have:=pick_run xs i k;rw[List.filterMap_map] at this;have e2:((λx=>xs[x]?) ∘ λx=>i+x)=λm=>xs[i+m]?:=rfl;rw[e2] at this;rw[this]
def zp{lo hi:Option Int}(ht:IsTup s.heap t items)(hs:s.heap.IsSliceOf sl vl vu .none)(pl:IsPart vl lo)(pu:IsPart vu hi)
  (hw:¬(iB items.size 0 lo=0/\iB items.size items.size hi=items.size))
  (h:Q (.ref s.heap.objs.size) { s with heap:=s.heap.push { cls:=.type "tuple",data:=.seq ((items.toList.drop (iB items.size 0 lo)).take (iB items.size items.size hi - iB items.size 0 lo)).toArray } })
  (hsz:items.size<=sizeLine):wpAny (model prog w) A (getItem (.ref t) (.ref sl)) Q E s:=by
 have Ue:sizeOk (.seq ((items.toList.drop<|iB items.size 0 lo).take<|iB items.size items.size hi - iB items.size 0 lo).toArray):=by show((items.toList.drop<|iB items.size 0 lo).take<|iB items.size items.size hi - iB items.size 0 lo).toArray.size<=sizeLine;rw[Qq3,Qzv,Qz5,Qz2];omega
 have hj:iB items.size items.size hi<=items.size:=Ke _ _ (Qq0 _) hi;obtain⟨os,hos,hcs,hds⟩:=id hs;have hTs:s.TypeIs (.ref sl) "slice":=⟨os,hos,hcs⟩;unfold getItem
 try with_reducible refine Qzj ?_
 first|refine Qqq (Qq2 ?_)|skip
 refine Qqq<|wpAny_sequenceKey ht.typeIs (by decide) ?_;refine Qqq (Qz6 ht.typeIs Qj3
  (Qjq Qj3 ht.typeIs entry_tuple_getitem ?_<|args_tuple_getitem _ _))
 show wpAny _ _ (Builtin.Tuple.tupleItemsOf (.ref t) >>= _) _ _ s;refine Qqq<|tupleItemsOf_ ht ?_;refine Qqq<|Qy6 hTs ?_;rw[Qv4 (by decide)];refine Qqq<|sJ hs pl pu ?_;have hno:¬((((iB items.size 0 lo):Int) == 0&&(1:Int) == 1&&(iB items.size items.size hi - iB items.size 0 lo) == items.size)=true):=by intro q;rw[Qjx,Qjx] at q;have q1:=eq_of_beq q.1.1;have q2:=eq_of_beq q.2;exact hw ⟨by omega,by omega⟩
 show wpAny _ _ (if (((iB items.size 0 lo):Int) == 0&&1 == 1&&(iB items.size items.size hi - iB items.size 0 lo) == items.size)=true then _ else _) _ _ s;rw[Qv5 hno,YL]
 first
  |exact Qqq<|Qkk (Qq2 ⟨_,rfl,Qq2 h⟩) Ue|exact Qqq<|Qkk (Qqq<|Qq2<|Qq2 ⟨_,rfl,Qq2 h⟩) Ue|exact Qqq<|Qqq<|Qkk (Qq2<|Qq2 ⟨_,rfl,Qq2 h⟩) Ue|exact Qqq<|Qqq<|Qkk (Qq2 ⟨_,rfl,Qq2 h⟩) Ue
end
end HT
namespace L2
open PySem PySem.Spec PyProof.Rows
abbrev TO:=St->Hp->(Option Int->Hp->Prop)->Prop
def PO(X:Cx)(e:Option Expr)(t:TO):Prop:=
 ∀(pins:List (Addr×Obj)) (s:Shared) (σ:St) (H:Hp) (Q:Option Int->Hp->Prop),Inv X pins σ H s->t σ H Q->
  wpAny (model X.prog X.w) X.A (evalPart e X.env) (λu s'=>∃o H',Inv X pins σ H' s'/\IsPart u o/\Q o H') X.xe s
def abo:TO:=λ_ H Q=>Q none H
def ahH(t:TE):TO:=λσ H Q=>t σ H λx H1=>∃i,x=.int i/\Q (some i) H1
def intsAre_of:∀{us},Vals (ns.map V.int) us->IntsAre us ns:=by
 induction ns with
 |nil=>intro us r;rw[Qv3] at r;cases r;exact .nil
 |cons n ns ih=>
  intro us r;rw[Qq8] at r;cases r with
  |cons r1 r2=>obtain⟨t,e⟩:=r1;subst e;exact .cons n t<|ih r2
section
variable{X:Cx}{e:Expr}{te:TE}{lo hi:Option Expr}{tl th:TO}{pos p2:Pos}
def abV:PO X none abo:=by intro pins s σ H Q I h;rw[evalPart_none];exact Qq2 ⟨none,H,I,.none,h⟩
def abU(h:PE X e te):PO X (some e) (ahH te):=by intro pins s σ H Q I hw;rw[evalPart_some];refine gR (h pins s σ H _ I hw) λu s1 ⟨x,H1,I1,r1,q1⟩=>?_;obtain⟨i,rfl,q⟩:=q1;obtain⟨t,rfl⟩:=r1;exact⟨some i,H1,I1,.int i t,q⟩
def UT(X:Cx)(r:V->Option Int->Option Int->Hp->VK->Prop):Prop:=
 ∀(pins:List (Addr×Obj)) (s:Shared) (σ:St) (H:Hp) (x:V) (v vl vu:Value) (lo hi:Option Int) (sl:Addr) (Q:VK),Inv X pins σ H s->RelV x v->s.heap.IsSliceOf sl vl vu .none->IsPart vl lo->IsPart vu hi->r x lo hi H Q->
  ∃T id,typeLookup (.type T) "__getitem__"=pure (some (.builtin id))/\s.TypeIs v T/\wpAny (model X.prog X.w) X.A (getItem v (.ref sl)) (EP X pins σ Q) X.xe s
def UT.or(h:UT X r)(h':UT X r'):UT X (λx lo hi H Q=>r x lo hi H Q\/r' x lo hi H Q):=by
 intro pins s σ H x v vl vu lo hi sl Q I rx hs pl pu q;rcases q with q|q;exact h pins s σ H x v vl vu lo hi sl Q I rx hs pl pu q;exact h' pins s σ H x v vl vu lo hi sl Q I rx hs pl pu q
def tSl(r:V->Option Int->Option Int->Hp->VK->Prop)(te:TE)(tl th:TO):TE:=λσ H Q=>te σ H λx H1=>tl σ H1 λl H2=>th σ H2 λu H3=>r x l u H3 Q
def Fo(hr:UT X r)(he:PE X e te)(hl:PO X lo tl)(hu:PO X hi th):PE X (.Subscript e (.Slice lo hi none p2) pos) (tSl r te tl th):=by intro pins s σ H Q I h;refine Subscript_<|gR (he pins s σ H _ I h) λv s1 ⟨x,H1,I1,r1,q1⟩=>?_;refine wpAny_Slice<|gR (hl pins s1 σ H1 _ I1 q1) λvl s2 ⟨l,H2,I2,pl,q2⟩=>gR (hu pins s2 σ H2 _ I2 q2) λvu s3 ⟨u,H3,I3,pu,q3⟩=>?_;rw[evalPart_none];refine Qq2 ?_;have I4:Inv X pins σ H3 { s3 with heap:=s3.heap.push { cls:=.type "slice",data:=.fields #[vl,vu,.none] } }:=I3.kept λb ob q=>Qqz _ q;obtain⟨T,id,hT,ht,hg⟩:=hr pins { s3 with heap:=s3.heap.push { cls:=.type "slice",data:=.fields #[vl,vu,.none] } } σ H3 x v vl vu l u s3.heap.objs.size Q I4 r1 (Heap.IsSliceOf.new ..) pl pu q3;show wpAny (model X.prog X.w) X.A (subscriptTail e (.Slice lo hi none p2) v<|.ref s3.heap.objs.size) (EP X pins σ Q) X.xe { s3 with heap:=s3.heap.push { cls:=.type "slice",data:=.fields #[vl,vu,.none] } };exact tail_any ht hT hg (by with_unfolding_all rfl)
def Dc(xs:List V)(lo hi:Option Int):List V:=(xs.drop (HT.iB xs.length 0 lo)).take (HT.iB xs.length xs.length hi - HT.iB xs.length 0 lo)
def BZ(xs)(lo hi):(Dc xs lo hi).length<=xs.length:=by unfold Dc;rw[Qzv,Qz5];omega
def aeY(K:PySem.W.Frag):V->Option Int->Option Int->Hp->VK->Prop:=λx lo hi H Q=>∃a xs,x=.ref a/\pg K H a xs/\
 ¬(HT.iB xs.length 0 lo=0/\HT.iB xs.length xs.length hi=xs.length)/\∀p,H p=none->Q (.ref p) (upd H p (.tup (Dc xs lo hi)))
def QX:UT X (aeY X.K):=by
 intro pins s σ H x v vl vu lo hi sl Q I rx hs pl pu h;obtain⟨a,xs,rfl,hx,hw,q⟩:=h;cases rx;obtain⟨its,r,ht,hz⟩:=I.tuple hx;have hlen:its.toArray.size=xs.length:=by rw[Qq3];exact r.length.symm
 refine⟨"tuple",_,PyProof.Rows.slot_tuple_getitem.lookup,ht.typeIs,?_⟩;refine HT.zp ht hs pl pu (by rw[hlen];exact hw) ?_ (by rw[hlen];exact hz);rw[hlen];refine⟨.ref s.heap.objs.size,_,I.laid (λb ob q=>Qqz _ q) (Qq0 _) ?_,rfl,q _<|I.hok.fresh<|Qq0 _⟩;exact⟨Qq1 (BZ xs lo hi) hz,_,(r.drop<|HT.iB xs.length 0 lo).take<|HT.iB xs.length xs.length hi - HT.iB xs.length 0 lo,Hj.new _ _⟩
def adN(K:PySem.W.Frag):R2:=λx y H Q=>∃a b xs ys,x=.ref a/\y=.ref b/\pg K H a xs/\pg K H b ys/\xs≠[]/\xs.length+ys.length<=sizeLine/\
 (ys=[]->Q (.ref a) H)/\(ys≠[]->∀p,H p=none->Q (.ref p) (upd H p (.tup (xs++ys))))
def Vals.Dm(r:Vals xs us):us=[]↔xs=[]:=by
 cases r with
 |nil=>simp|cons _ _=>simp
def ab9:qN X (binaryOp .Add) (adN X.K):=by intro pins s σ H x y v u Q I rx ry h;obtain⟨a,b,xs,ys,rfl,rfl,ha,hb,hx,hz,q1,q2⟩:=h;cases rx;cases ry;obtain⟨its,r1,p1,_⟩:=I.tuple ha;obtain⟨its2,r2,p2,_⟩:=I.tuple hb;refine HT.ac3 p1 p2 (λz=>hx<|r1.Dm.mp z) (λz=>⟨.ref a,H,I,rfl,q1<|r2.Dm.mp z⟩) (λz=>?_) (by rw[<-r1.length,<-r2.length];exact hz);refine⟨.ref s.heap.objs.size,_,I.laid (λb ob q=>Qqz _ q) (Qq0 _) ?_,rfl,q2 (λw=>z<|r2.Dm.mpr w) _<|I.hok.fresh<|Qq0 _⟩;exact⟨by rw[Qqv];exact hz,_,r1.append r2,Hj.new _ _⟩
end
def ixN(n:Nat)(i:Int):Option Nat:=if 0<=i then (if i<n then some i.toNat else none) else if -(n:Int)<=i then some (i+n).toNat else none
def uN{α:Type}(xs:List α)(i:Int):Option α:=(ixN xs.length i).bind λj=>xs[j]?
def Ua(h:ixN n i=some j):seqIndex? i n=some j/\j<n/\-n<=i/\i<n:=by
 unfold ixN at h;by_cases h0:0<=i;rw[Qv4 h0] at h;by_cases h1:i<n;rw[Qv4 h1] at h;have e:=Qw4 h;exact⟨by rw[seqIndex_of h0 h1,e],by omega,by omega,h1⟩;rw[Qv5 h1] at h;cases h;rw[Qv5 h0] at h;by_cases h1 : -n<=i;rw[Qv4 h1] at h;have e:=Qw4 h;exact⟨by rw[seqIndex_neg (by omega) h1,e],by omega,h1,by omega⟩;rw[Qv5 h1] at h;cases h
def Ln{α:Type}{xs:List α}{v:α}(h:uN xs i=some v):∃j,seqIndex? i xs.length=some j/\xs[j]?=some v/\j<xs.length/\-xs.length<=i/\i<xs.length:=by
 unfold uN at h;cases e:ixN xs.length i with
 |none=>rw[e] at h;cases h|some j=>rw[e] at h;obtain⟨h1,h2,h3,h4⟩:=Ua e;exact⟨j,h1,h,h2,h3,h4⟩
def je{α:Type}{xs:List α}{j:Nat}{v:α}(h:xs[j]?=some v):uN xs j=some v:=by
 have hj:=(Qq5.mp h).1;have e:ixN xs.length j=some j:=by unfold ixN;rw[Qv4 (by omega),Qv4 (by omega)];simp
 unfold uN;rw[e];exact h
def zU(b:Expr):Prop:=∀o i,subscripted b false o i=operate [o,i] (getItem o i)
def IxR(X:Cx)(r:R2):Prop:=
 ∀(value slice:Expr) (pins:List (Addr×Obj)) (s:Shared) (σ:St) (H:Hp) (x y:V) (v u:Value) (Q:VK),Inv X pins σ H s->RelV x v->RelV y u->r x y H Q->
  subscripted slice false v u=operate [v,u] (getItem v u)->wpAny (model X.prog X.w) X.A (subscriptTail value slice v u) (EP X pins σ Q) X.xe s
def MtR(X:Cx)(id:String)(r:V->List V->Hp->VK->Prop):Prop:=
 ∀(pins:List (Addr×Obj)) (s:Shared) (σ:St) (H:Hp) (x:V) (xs:List V) (v:Value) (us:List Value) (Q:VK),Inv X pins σ H s->RelV x v->Vals xs us->r x xs H Q->
  wpAny (model X.prog X.w) X.A (call (.builtin id) (v::us)) (EP X pins σ Q) X.xe s
section
variable{X:Cx}{a b:Expr}{ta tb:TE}{pos:Pos}
def IxR.or(h:IxR X r)(h':IxR X r'):IxR X (λx y H Q=>r x y H Q\/r' x y H Q):=by
 intro value slice pins s σ H x y v u Q I rx ry q hs;rcases q with q|q;exact h value slice pins s σ H x y v u Q I rx ry q hs;exact h' value slice pins s σ H x y v u Q I rx ry q hs
def adQ(hr:IxR X r)(ha:PE X a ta)(hb:PE X b tb)(hs:zU b):PE X (.Subscript a b pos) (tOp r ta tb):=by intro pins s σ H Q I h;exact Subscript_<|agX ha hb I h λv u s2 x y H2 I2 rx ry q=>hr a b pins s2 σ H2 x y v u Q I2 rx ry q<|hs _ _
def ah7(K:PySem.W.Frag):R2:=λx y H Q=>∃p xs i v,x=.ref p/\y=.int i/\lK K H p xs/\uN xs i=some v/\Q v H
def ah5(K:PySem.W.Frag):R2:=λx y H Q=>∃p xs i v,x=.ref p/\y=.int i/\pg K H p xs/\uN xs i=some v/\Q v H
def ah6:R2:=λx y H Q=>∃z i c,x=.str z/\y=.int i/\z.length<=sizeLine/\uN z.cps.toList i=some c/\Q (.str ⟨#[c]⟩) H
def acz:IxR X (ah7 X.K):=by
 intro value slice pins s σ H x y v u Q I rx ry h hs;obtain⟨p,xs,i,z,rfl,rfl,hq,he,q⟩:=h;cases rx;obtain⟨t,rfl⟩:=ry;obtain⟨its,r,pl,hz⟩:=I.list hq;obtain⟨j,h1,h2,h3,h4,h5⟩:=Ln he;obtain⟨w,ew,Q5⟩:=r.get h2;have hl:=r.length;have hn:=FT;have fin:EP X pins σ Q w s:=⟨z,H,I,Q5,q⟩;by_cases h0:0<=i;have hj:i.toNat=j:=by
  rw[seqIndex_of h0 h5] at h1;exact Qw4 h1
 exact item_listR pl.isList h0 (by omega) (by rw[hj];simpa using ew) fin hs;have hj:(i+(its.toArray.size:Int)).toNat=j:=by
  rw[seqIndex_neg (by omega) h4] at h1;rw[Qq3,<-hl];exact Qw4 h1
 exact subscriptTail_builtinR (x:=w) pl.isList.typeIs slot_list_getitem.lookup
  (wpAny_getItem_list_neg (Q:=λr s'=>r=w/\EP X pins σ Q r s') pl.isList (by omega) (by rw[Qq3]<;>omega) (by omega) (by rw[hj];simpa using ew) ⟨rfl,fin⟩) hs
def agg:IxR X (ah5 X.K):=by
 intro value slice pins s σ H x y v u Q I rx ry h hs;obtain⟨p,xs,i,z,rfl,rfl,hq,he,q⟩:=h;cases rx;obtain⟨t,rfl⟩:=ry;obtain⟨its,r,pl,hz⟩:=I.tuple hq;obtain⟨j,h1,h2,h3,h4,h5⟩:=Ln he;obtain⟨w,ew,Q5⟩:=r.get h2;have hn:=FT;have fin:EP X pins σ Q w s:=⟨z,H,I,Q5,q⟩;exact subscriptTail_builtinR (x:=w) pl.typeIs slot_tuple_getitem.lookup
  (getItem_tuple (j:=j) (Q:=λr s'=>r=w/\EP X pins σ Q r s') pl (by omega) (by omega) (by rw[Qq3,<-r.length];exact h1) (by simpa using ew) ⟨rfl,fin⟩) hs
def agh:IxR X ah6:=by
 intro value slice pins s σ H x y v u Q I rx ry h hs;obtain⟨z,i,c,rfl,rfl,hz,he,q⟩:=h;obtain⟨t,rfl⟩:=rx;obtain⟨t',rfl⟩:=ry;obtain⟨j,h1,h2,h3,h4,h5⟩:=Ln he;have hl:z.cps.toList.length=z.length:=by simp[Str.length]
 rw[hl] at h1 h4 h5;have hn:=FT;exact tail_any (Q08 s z t) slot_str_getitem.lookup (getItem_str (c:=c) (by
  have e1:decide (i < -(2^63:Int))=false:=Qwy (by omega);have e2:decide (i ≥ 2^63)=false:=Qwy (by omega);rw[e1,e2,Bool.or_false]) (by rw[h1];simpa using h2) ⟨.str ⟨#[c]⟩,H,I.tok _,⟨_,rfl⟩,q⟩) hs
def rIx(K:PySem.W.Frag):R2:=λx y H Q=>ah7 K x y H Q\/ah5 K x y H Q\/ah6 x y H Q
def Z5:IxR X (rIx X.K):=acz.or<|agg.or agh
def Ry(its:List Value)(n j)(u):Obj.mapSeq (·.setIfInBounds j u) { cls:=.type "list",data:=.seq its.toArray n }={ cls:=.type "list",data:=.seq (its.set j u).toArray n }:=by simp[Obj.mapSeq]
def Inv.lst{σ:St}(I:Inv X pins σ H s)(h:H p=some (.lst xs)) :
  ∃its n,Vals xs its/\s.heap.get? p=some { cls:=.type "list",data:=.seq its.toArray n }/\xs.length<=sizeLine:=by
 obtain⟨z,its,n,r,e⟩:=I.hok p _ h;exact⟨its,n,r,e,z⟩
def Inv.agb{σ:St}{its its':List Value}(I:Inv X pins σ H s)(h:H p=some (.lst xs))
  (ho:s.heap.get? p=some { cls:=.type "list",data:=.seq its.toArray n }) (hf:f { cls:=.type "list",data:=.seq its.toArray n } = { cls:=.type "list",data:=.seq its'.toArray n' }) (r:Vals ys its') (hz:ys.length<=sizeLine) (t) :
  Inv X pins σ (upd H p (.lst ys)) { s with heap:=s.heap.update p f,toks:=t }:=by
 have e:(s.heap.update p f).get? p=some { cls:=.type "list",data:=.seq its'.toArray n' }:=by rw[Qhk f ho (by rw[hf]<;>rfl),hf]
 refine I.write (by rw[h];trivial) (.inl rfl) (λb u hb q=>(Heap.get?_update_other _ _<|Ne.symm hb).trans q) ⟨_,e⟩ ?_;exact⟨hz,its',n',r,e⟩
def Ti:V->V->V->Hp->(Hp->Prop)->Prop:=λo i v H Q=>∃p xs k j,o=.ref p/\i=.int k/\H p=some (.lst xs)/\ixN xs.length k=some j/\Q (upd H p (.lst (xs.set j v)))
def set_list:ajz X Ti:=by
 intro pins s σ H o i v ov iv u Q I ro ri rv h;obtain⟨p,xs,k,j,rfl,rfl,hp,hj,q⟩:=h;cases ro;obtain⟨t,rfl⟩:=ri;obtain⟨its,n,r,ho,hz⟩:=I.lst hp;obtain⟨h1,h2,h3,h4⟩:=Ua hj;have hl:=r.length;have hn:=FT;have I':=
  I.agb hp ho (Ry its n j u) (r.set rv j) (by rw[Qzx];exact hz) s.toks
 by_cases h0:0<=k;have hk:k.toNat=j:=by
  rw[seqIndex_of h0 h4] at h1;exact Qw4 h1
 exact PySem.W.ki_setAt ho h0 (by omega) (by rw[Qq3,<-hl];exact h4) (by rw[hk];exact⟨_,I',q⟩);have hk:(k+its.toArray.size).toNat=j:=by
  rw[seqIndex_neg (by omega) h3] at h1;rw[Qq3,<-hl];exact Qw4 h1
 exact PySem.W.ki_setBack ho (by omega) (by rw[Qq3,<-hl];exact h3) (by omega) (by rw[hk];exact⟨_,I',q⟩)
def J3(lo hi)(n):(sliceBounds lo hi none n).1=(HT.iB n 0 lo)/\(sliceBounds lo hi none n).2.1=(HT.iB n n hi)/\(sliceBounds lo hi none n).2.2=1:=by
 refine⟨?_,?_,rfl⟩;cases lo with
 |none=>simp[sliceBounds,HT.iB]|some i=>simp[sliceBounds,HT.iB,Option.getD_none,show(1:Int) > 0 by decide,Qhv];by_cases h:i<0;simp[h,Qhv]<;>omega;simp[h,Q1y]<;>omega
 cases hi with
 |none=>simp[sliceBounds,HT.iB]|some i=>simp[sliceBounds,HT.iB,Option.getD_none,show(1:Int) > 0 by decide,Qhv];by_cases h:i<0;simp[h,Qhv]<;>omega;simp[h,Q1y]<;>omega
def Hv(its:List Value)(lo hi):slicePick its.toArray lo hi none=((its.drop (HT.iB its.length 0 lo)).take (HT.iB its.length its.length hi - HT.iB its.length 0 lo)).toArray:=by obtain⟨h1,h2,h3⟩:=J3 lo hi its.toArray.size;unfold slicePick;rw[h1,h2,h3];simp only[sliceRange_one,pick_run,Qq3]<;>rfl
def ah1(K:PySem.W.Frag):V->Option Int->Option Int->Hp->VK->Prop:=λx lo hi H Q=>∃a xs,x=.ref a/\lK K H a xs/\∀p,H p=none->Q (.ref p) (upd H p (.lst (Dc xs lo hi)))
def S7:UT X (ah1 X.K):=by intro pins s σ H x v vl vu lo hi sl Q I rx hs pl pu h;obtain⟨a,xs,rfl,hx,q⟩:=h;cases rx;obtain⟨its,r,ht,hz⟩:=I.list hx;have hlen:=r.length;refine⟨"list",_,slot_list_getitem.lookup,ht.isList.typeIs,?_⟩;refine wpAny_getItem_list_slice ht.isList hs pl pu .none (by simp) ?_ (by rw[Qq3]<;>omega);rw[Hv,<-hlen];refine⟨.ref s.heap.objs.size,_,I.laid (λb ob q=>Qqz _ q) (Qq0 _) ?_,rfl,q _<|I.hok.fresh<|Qq0 _⟩;exact⟨Qq1 (BZ xs lo hi) hz,_,0,(r.drop<|HT.iB xs.length 0 lo).take<|HT.iB xs.length xs.length hi - HT.iB xs.length 0 lo,Qwv _ rfl⟩
def ad8:V->Bool
 |.non=>true|.bl _=>true|.int _=>true|.str _=>true|_=>false
def eqV:V->V->Bool
 |.non,.non=>true|.bl a,.bl b=>a == b|.bl a,.int b=>(if a then 1 else 0) == b|.int a,.bl b=>a == (if b then 1 else 0)|.int a,.int b=>a == b|.str a,.str b=>a == b|_,_=>false
def agF(ry:RelV y u)(rx:RelV x v)(fy:ad8 y=true)(fx:ad8 x=true):SeqAt.EqAt A s u v (eqV y x):=by
 cases y with
 |non=>
  cases ry;cases x with
  |non=>cases rx;exact Qbx _|bl b=>cases rx;exact SeqAt.EqAt.none_bool b|int b=>obtain⟨t,rfl⟩:=rx;exact SeqAt.EqAt.none_int b t|str b=>obtain⟨t,rfl⟩:=rx;exact SeqAt.EqAt.none_str b t|_=>exact absurd fx Qw2
 |bl a=>
  cases ry;cases x with
  |non=>cases rx;exact SeqAt.EqAt.bool_none a|bl b=>cases rx;exact Qh2 a b|int b=>obtain⟨t,rfl⟩:=rx;exact Qd3 a b t|str b=>obtain⟨t,rfl⟩:=rx;exact Qd2 a b t|_=>exact absurd fx Qw2
 |int a=>
  obtain⟨t',rfl⟩:=ry;cases x with
  |non=>cases rx;exact SeqAt.EqAt.int_none a t'|bl b=>cases rx;exact Qd1 a t' b|int b=>obtain⟨t,rfl⟩:=rx;exact Qfw a t' b t|str b=>obtain⟨t,rfl⟩:=rx;exact Qby a t' b t|_=>exact absurd fx Qw2
 |str a=>
  obtain⟨t',rfl⟩:=ry;cases x with
  |non=>cases rx;exact SeqAt.EqAt.str_none a t'|bl b=>cases rx;exact Qd0 a t' b|int b=>obtain⟨t,rfl⟩:=rx;exact Qbw a t' b t|str b=>obtain⟨t,rfl⟩:=rx;exact Qfk a t' b t|_=>exact absurd fx Qw2
 |_=>exact absurd fy Qw2
def jQ.or(h:jQ X f r)(h':jQ X f r'):jQ X f (λxs H Q=>r xs H Q\/r' xs H Q):=by
 intro pins s σ H xs us Q I rs q;rcases q with q|q;exact h pins s σ H xs us Q I rs q;exact h' pins s σ H xs us Q I rs q
def Lh:jQ X (.type "list") (λxs H Q=>∃p ys,xs=[.ref p]/\(lK X.K H p ys\/pg X.K H p ys)/\∀l,H l=none->Q (.ref l) (upd H l (.lst ys))):=by
 intro pins s σ H xs us Q I r h;obtain⟨p,ys,rfl,hq,q⟩:=h;obtain⟨u,rfl,rx⟩:=vals1 r;cases rx;have fin:∀its,Vals ys its->ys.length<=sizeLine->∀h' c',(∀b o',s.heap.get? b=some o'->h'.get? b=some o')->
   h'.get? s.heap.objs.size=some { cls:=.type "list",dict:=none,data:=.seq its.toArray c',slots:=#[] }->EP X pins σ Q (.ref s.heap.objs.size) { s with heap:=h' }:=λits r' hz h' c' kp e=>
  ⟨.ref s.heap.objs.size,_,I.laid kp (Qq0 _)<|show jx X.prog X.w _ h' _ (.lst ys) from⟨hz,its,c',r',e⟩,rfl,q _<|I.hok.fresh<|Qq0 _⟩
 rcases hq with hq|hq;obtain⟨its,r',pl,hz⟩:=I.list hq;have hlen:=r'.length;obtain⟨o,ho,hc,n,hd⟩:=pl.isList;exact call_list_seq p (.inl rfl) ho hc hd (λh' c' kp e=>fin its r' hz h' c' kp e) (by simp[Qq3]<;>omega);obtain⟨its,r',pl,hz⟩:=I.tuple hq;have hlen:=r'.length;obtain⟨o,ho,hc,n,hd⟩:=pl;exact call_list_seq p (.inr rfl) ho hc hd (λh' c' kp e=>fin its r' hz h' c' kp e) (by simp[Qq3]<;>omega)
def Ie:jQ X (.type "tuple") (λxs H Q=>∃p ys,xs=[.ref p]/\((lK X.K H p ys/\∀l,H l=none->Q (.ref l) (upd H l (.tup ys)))\/(pg X.K H p ys/\Q (.ref p) H))):=by
 intro pins s σ H xs us Q I r h;obtain⟨p,ys,rfl,h⟩:=h;obtain⟨u,rfl,rx⟩:=vals1 r;cases rx;rcases h with ⟨hq,q⟩|⟨hq,q⟩;obtain⟨its,r',pl,hz⟩:=I.list hq;have hlen:=r'.length;refine call_tuple_list pl.isList (λh' kp=>?_) (by simp[Qq3]<;>omega);have I1:Inv X pins σ H { s with heap:=h' }:=I.kept kp;have I2:Inv X pins σ (upd H h'.objs.size<|.tup ys) { s with heap:=h'.push { cls:=.type "tuple",data:=.seq its.toArray } }:=
  I1.laid (λb o e=>Qqz _ e) (Qq0 _) (show jx X.prog X.w _ _ _ (.tup ys) from⟨hz,its,r',Hj.new _ _⟩)
 exact⟨.ref h'.objs.size,_,I2,rfl,q _<|I1.hok.fresh<|Qq0 _⟩;obtain⟨its,r',pl,hz⟩:=I.tuple hq;exact call_tuple_same pl ⟨.ref p,H,I,rfl,q⟩
def tyV(K:PySem.W.Frag)(T:String)(x:V)(H:Hp):Prop:=match x with
 |.str _=>T="str"|.int _=>T="int"
 |.ref p=>(T="list"/\∃xs,lK K H p xs)\/(T="tuple"/\∃o,K.lookup p=some o/\o.cls=.type "tuple"/\o.dict=none)\/
   (T="dict"/\((∃kvs,H p=some (.dK kvs))\/∃kvs,H p=some (.dT kvs)))\/(T="set"/\∃S n,H p=some (.set S n))
 |_=>False
def aeA{σ:St}(I:Inv X pins σ H s)(r:RelV x v)(ty:tyV X.K T x H) :
  s.TypeIs v T/\∀a,v = .ref a->∃ob,s.heap.get? a=some ob/\ob.dict=none:=by
 cases x with
 |str z=>obtain⟨t,rfl⟩:=r;cases ty;exact⟨Q08 s z t,λ_ e=>nomatch e⟩|int i=>obtain⟨t,rfl⟩:=r;cases ty;exact⟨Q09 s i t,λ_ e=>nomatch e⟩
 |ref p=>
  cases r;rcases ty with ⟨rfl,xs,hq⟩|⟨rfl,o,hk,hc,hd⟩|⟨rfl,hk⟩|⟨rfl,S,n,hk⟩;obtain⟨its,_,pl,_⟩:=I.list hq;refine⟨pl.isList.typeIs,λa e=>?_⟩;cases e;obtain⟨o,n,e,c,hd,_⟩:=pl;exact⟨o,e,hd⟩;refine⟨⟨o,I.kIn p o hk,hc⟩,λa e=>?_⟩;cases e;exact⟨o,I.kIn _ o hk,hd⟩;have z:∃o,s.heap.get? p=some o/\o.ExactDict:=by
   rcases hk with ⟨kvs,hk⟩|⟨kvs,hk⟩;obtain⟨_,_,_,_,o,_,_,e,ex,_⟩:=I.hok p _ hk;exact⟨o,e,ex⟩;obtain⟨_,_,_,_,o,_,_,e,ex,_⟩:=I.hok p _ hk;exact⟨o,e,ex⟩
  obtain⟨o,e,ex⟩:=z;refine⟨⟨o,e,ex.1⟩,λa e2=>?_⟩;cases e2;exact⟨o,e,ex.2.1⟩;obtain⟨o,_,_,_,e,ex,_⟩:=I.hok p _ hk;refine⟨⟨o,e,ex.1⟩,λa e2=>?_⟩;cases e2;exact⟨o,e,ex.2.1⟩
 |_=>exact False.elim ty
def tBM(K:PySem.W.Frag)(T:String)(r:V->List V->Hp->VK->Prop)(to:TE)(t:TA):TE:=λσ H Q=>to σ H λx H1=>tyV K T x H1/\t σ H1 λxs H2=>r x xs H2 Q
variable{o e:Expr}{es:List Expr}{to:TE}{t:TA}{name:Str}{apos cpos:Pos}{T id:String}{r:V->List V->Hp->VK->Prop}
def Tv(pa:PlainAttrs T)(slot:Slot T name id)(hty:typeOf (.builtin id)=pure (.type "method_descriptor"))(hm:MtR X id r)(ho:PE X o to)(ha:PA X (e::es) t)
  (hbase:attributeBase o name X.env (eval o X.env)=eval o X.env:=by rfl)
  (hfew:((backTo cpos (starEach (e::es) X.env)).all (λx=>!x.1)&&(backToKw cpos (keywordEach [] X.env)).all (λx=>x.1.isSome)
   && decide ((e::es).length+([]:List Keyword).length+(if ([]:List Keyword).isEmpty then 0 else 1)<30))=true:=by rfl)
  (hline:(apos.endLine == cpos.line)=true:=by rfl) (hs:starEach (e::es) X.env=(false,eval e X.env)::starEach es X.env:=by rfl) (hplain:(backTo cpos (starEach es X.env)).any (·.1)=false:=by rfl) :
  PE X (.Call (.Attribute o name apos) (e::es) [] cpos) (tBM X.K T r to t):=by
 intro pins s σ H Q I h;refine wpAny_Call_method_late hbase hfew hline rfl (gR (ho pins s σ H _ I h) λv s1 ⟨x,H1,I1,r1,ty,q1⟩=>?_);obtain⟨h1,h2⟩:=aeA I1 r1 ty;refine⟨T,id,pa,slot,hty,h1,h2,?_⟩;have hA:=ha cpos pins s1 σ H1 _ I1 q1;rw[hs] at hA ⊢;refine Qb6 (by show(false||(backTo cpos<|starEach es X.env).any (·.1))=false;rw[hplain]<;>rfl)<|Qh7 ?_;exact gR hA λus s2 ⟨vs,H2,I2,r2,q2⟩=>hm pins s2 σ H2 x vs v us Q I2 r1 r2 q2
end
def MtM(X:Cx)(id:String)(r:V->List V->Hp->VK->Prop):Prop:=
 ∀(pins:List (Addr×Obj)) (s:Shared) (σ:St) (H:Hp) (x:V) (xs:List V) (v:Value) (us:List Value) (Q:VK),Inv X pins σ H s->RelV x v->Vals xs us->r x xs H Q->
  wpAny (model X.prog X.w) X.A (call (.builtin id) (v::us)) (EP X pins σ Q) X.xe s
def Vals.one:∀{x} {us},Vals [x] us->∃u,us=[u]/\RelV x u
 |_,_,.cons r .nil=>⟨_,rfl,r⟩
def Vals.two:∀{x y} {us},Vals [x,y] us->∃u v,us=[u,v]/\RelV x u/\RelV y v
 |_,_,_,.cons r (.cons q .nil)=>⟨_,_,rfl,r,q⟩
section
variable{X:Cx}{pins:List (Addr×Obj)}{σ:St}{H:Hp}{s:Shared}{l b:Addr}{xs ys zs:List V}
def Inv.aiP{its its':List Value}(I:Inv X pins σ H s)(hH:H l=some (.lst xs))
  (e:s.heap.get? l=some { cls:=.type "list",data:=.seq its.toArray n }) (hf:f its.toArray=its'.toArray) (hv:Vals ys its') (hz:ys.length<=sizeLine) :
  Inv X pins σ (upd H l (.lst ys)) { s with heap:=s.heap.update l (Obj.mapSeq f),toks:=t' }:=by
 have q:=PySem.IsL.update e f;rw[hf] at q;refine I.write (by rw[hH];exact trivial) (.inl rfl) (λb' u hb hu=>(Heap.get?_update_other s.heap (Obj.mapSeq f)<|Ne.symm hb).trans hu) ⟨_,q⟩ ?_;exact⟨hz,its',_,hv,q⟩
def Inv.aiQ(I:Inv X pins σ H s)(hv:Vals ys its)(hz:ys.length<=sizeLine) :
  Inv X pins σ (upd H s.heap.objs.size (.lst ys)) { s with heap:=s.heap.push { cls:=.type "list",data:=.seq its.toArray },toks:=t' }:=
 I.laid (λ_ _ q=>Qqz _ q) (Qq0 _) ⟨hz,its,0,hv,Qwv _ rfl⟩
def Inv.fresh(I:Inv X pins σ H s):H s.heap.objs.size=none:=I.hok.fresh<|Qq0 _
def Inv.ZK(I:Inv X pins σ H s)(hH:H l=some (.lst xs)):xs.length<=sizeLine/\∃its n,Vals xs its/\xs.length=its.length/\s.heap.get? l=some { cls:=.type "list",data:=.seq its.toArray n }:=by obtain⟨z,its,n,r,e⟩:=I.hok l _ hH;exact⟨z,its,n,r,r.length,e⟩
def Zq(h:n<=sizeLine):Builtin.List.listTooLong n=false:=by unfold Builtin.List.listTooLong;exact Qwy (by omega)
end
section
variable{X:Cx}{prog:Program}{w:World}{A:Around}{E:Value->Shared->Prop}{s:Shared}
def abD:V->List V->Hp->VK->Prop:=λx vs H Q=>∃l xs y,x=.ref l/\vs=[y]/\H l=some (.lst xs)/\xs.length<sizeLine/\Q .non (upd H l (.lst (xs++[y])))
def Jk:MtM X "list.append" abD:=by intro pins s σ H x vs v us Q I rx rv h;obtain⟨l,xs,y,rfl,rfl,hH,hz,q⟩:=h;cases rx;obtain⟨u,rfl,ru⟩:=rv.one;obtain⟨z,its,n,r,hl,e⟩:=I.ZK hH;refine Qb7 F.slot_list_append ⟨_,e,rfl⟩ F.entry_list_append (F.args_list_append_2 _ _) (PySem.list_append l its.toArray n u (by rw[Qq3];omega)) ⟨e,?_⟩;refine⟨.non,_,I.aiP hH e (by simp) (r.append<|.cons ru .nil) ?_,rfl,q⟩;rw[Qqv,Qwj];omega
def abC:V->List V->Hp->VK->Prop:=λx vs H Q=>∃l b xs zs,x=.ref l/\vs=[.ref b]/\H l=some (.lst xs)/\H b=some (.lst zs)/\xs.length+zs.length<=sizeLine/\Q .non (upd H l (.lst (xs++zs)))
def V1:MtM X "list.extend" abC:=by
 intro pins s σ H x vs v us Q I rx rv h;obtain⟨l,b,xs,zs,rfl,rfl,hH,hB,hz,q⟩:=h;cases rx;obtain⟨u,rfl,ru⟩:=rv.one;cases ru;obtain⟨z,its,n,r,hl,e⟩:=I.ZK hH;obtain⟨z2,its2,n2,r2,hl2,e2⟩:=I.ZK hB;have hsz:its.toArray.size+its2.toArray.size<=sizeLine:=by rw[Qq3,Qq3];omega
 have ai7:¬(!its.toArray.isEmpty&&Builtin.List.listTooLong (its.toArray.size+its2.toArray.size))=true:=by rw[Zq hsz,Bool.and_false];exact Qw2
 refine Qb7 F.slot_list_extend ⟨_,e,rfl⟩ F.entry_list_extend (F.args_list_extend_2 _ _)
  (AutoSeq1.list_extend_list_list_0 l its.toArray n b its2.toArray n2 ai7 (by rw[Qq3];omega) (by omega)) ⟨e,e2,?_⟩
 refine⟨.non,_,I.aiP hH e (by simp) (r.append r2) ?_,rfl,q⟩;rw[Qqv];omega
def aic:R2:=λx y H Q=>∃l b xs zs,x=.ref l/\y=.ref b/\H l=some (.lst xs)/\H b=some (.lst zs)/\xs.length+zs.length<=sizeLine/\∀p,H p=none->Q (.ref p) (upd H p (.lst (xs++zs)))
def Zd:qN X (binaryOp .Add) aic:=by
 intro pins s σ H x y v u Q I rx ry h;obtain⟨l,b,xs,zs,rfl,rfl,hH,hB,hz,q⟩:=h;cases rx;cases ry;obtain⟨z,its,n,r,hl,e⟩:=I.ZK hH;obtain⟨z2,its2,n2,r2,hl2,e2⟩:=I.ZK hB;refine PySem.P.add_list e e2 ?_ (by rw[Qq3,Qq3];omega);have ea:its.toArray++its2.toArray=(its++its2).toArray:=by simp
 rw[ea];exact⟨.ref _,_,I.aiQ (r.append r2) (by rw[Qqv];omega),rfl,q _ I.fresh⟩
set_option maxRecDepth 100000 in
end
end L2
namespace Att
open PySem PySem.W PySem.Calls PyProof.Rows
def CW:∀ns vs,WellAll P h vs (ns.map WData.int)->IntsAre vs ns:=by
 intro ns
 induction ns with
 |nil=>intro vs w;rw[Qv3] at w;cases w;exact .nil
 |cons n ns ih=>
  intro vs w;rw[Qq8] at w;cases w with
  |cons a b=>cases a;exact .cons _ _<|ih _ b
def Vj{l:OpenLaw}(hn:l.most=some n)
  (hpre:l.row.toRowW.claim.pre args=true) (hwl:WellAll P h vals args) :
  ∃a vs ns,vals=[Value.ref a]/\args=[WData.list (ns.map WData.int)]/\h.get? a=some { cls:=.type "list",data:=.seq vs.toArray }/\IntsAre vs ns/\ns.length<=n:=by
 have hc:l.pre.holds [] { args:=args }=true:=(pre_splitW hpre).2;obtain⟨d,r,rfl,h1,h2⟩:=hasAllW_cons ((pre_splitW hpre).1);obtain rfl:=hasAllW_nil h2;obtain⟨xs,rfl,h3⟩:=hasW_list h1;obtain⟨ns,rfl⟩:=items_int h3;have hlen:ns.length<=n:=by
  unfold OpenLaw.pre at hc;have h4:(WTm.not<|.lt (.lit<|.int n)<|.len<|.arg 0).holds [] { args:=[.list (ns.map .int)] }=true:=by have h4:=(holds_andW hc).1;rw[hn] at h4;exact h4
  have h5:=condW_of h4<|w_not<|w_lt w_lit<|w_len_list<|w_arg rfl;rw[Qqx] at h5;refine Nat.le_of_not_lt λq=>?_;have q':n<ns.length:=by omega
  first
   |(rw[Qw0 q'] at h5;exact absurd h5 (by decide))|(simp at h5;omega)
 cases hwl with
 |cons w1 w2=>
  cases w2;cases w1 with
  |list ho hall=>exact⟨_,_,ns,rfl,rfl,ho,CW ns _ hall,hlen⟩
def Vx(l:OpenLaw)(args):l.row.toRowW.claim.post args (.bool true) args=true:=
 postW_of
  (show WShape.has [] (.bool true) .bool=true by first|rfl|decide|simp[WShape.has,WShape.arms,WShape.armsAll])
  (show(WTm.eq .res<|.lit<|.bool true).value [] { args:=args,res:=some<|.bool true,after:=args }=some (.bool<|true == true) from w_eq_bool (w_res rfl) w_lit) rfl
end Att
namespace L2
open PySem PySem.Spec PyProof.Rows
theorem Io:∀{vs} {ns},IntsAre vs ns->Vals (ns.map V.int) vs
 |_,_,.nil=>.nil|_,_,.cons n t h=>.cons ⟨t,rfl⟩<|Io h
def Only(H:Hp):Prop:=∀b,H b=none\/∃o xs,H b=some (.O5 o (.lst xs))
theorem ZZ{K:PySem.W.Frag}
  (KX:K.In s₁.heap) (hns:s₁.heap.Ns mainGlobals mg) (hb:s₁.heap.Ns builtinsNs mb) (hbb:∀x:Str,x ≠ "__name__"->mb x=bootBuiltins x) (hlim:s₁.heap.NoLimit) (hg:s₁.gens=#[])
  (ha:s₁.heap.get? a=some { cls:=.type "list",data:=.seq vs.toArray }) (hi:IntsAre vs ns) (hl:ns.length<=sizeLine) (hr:mH k callerA)
  (F:∀base,K.In base->base.Ns mainGlobals mg->sH P w K mg base CX k fa fd [x] sp) (hbind:∀s u,BindsTo s fd ⟨[u],[]⟩ [(x,u)])
  (hsp:∀H,Only H->lK K H a (ns.map V.int)->sp [.ref a] H (λv _=>v=.bl true) λ_ _ _=>False)
  (hCX:∀H e s',CX [] H s₁ (λ_ _ _=>False) e s'->False) :
  codeAny (model P w) callerA (.call (.ref fa) ⟨[.ref a],[]⟩) (λr s'=>r=.ok (.ret (.bool true))/\OldK s₁.heap s'.heap/\s'.os=s₁.os/\AllBare s'.gens) s₁:=by
 have rv:=Io hi;have lenV:=hi.length
 -- from an abstract heap in which nothing but the script may be tracked
 have core:∀H,Only H->lK K H a (ns.map V.int)->zW P w H s₁.heap->(∀b,H b≠none->b=a)->(H a≠none->K.lookup a=none)->
   codeAny (model P w) callerA (.call (.ref fa) ⟨[.ref a],[]⟩) (λr s'=>r=.ok (.ret<|.bool true)/\OldK s₁.heap s'.heap/\s'.os=s₁.os/\AllBare s'.gens) s₁:=by
  intro H hO hS hok hA hK;have UG:∀{b} {o},s₁.heap.get? b=some o->H b=none->(KQ s₁.heap H).get? b=some o:=λe n=>aae e n;have noA:∀{b} {o} {es} {ep},s₁.heap.get? b=some o->o.data=.dict es ep->H b=none:=λ{b o es ep} e d=>by
   cases q:H b with
   |none=>rfl|some u=>have e':=hA b (by rw[q];simp);subst e';rw[ha] at e;cases e;cases d
  have nsK:∀{b} {m},s₁.heap.Ns b m->(KQ s₁.heap H).Ns b m:=λ{b m} ⟨o,es,ep,e,d,r⟩=>⟨o,es,ep,UG e<|noA e d,d,r⟩;have hKb:=λb o e=>UG (KX b o e) (by
   cases q:H b with
   |none=>rfl|some u=>have e':=hA b (by rw[q];simp);subst e';rw[hK (by rw[q];simp)] at e;cases e)
  have hM:Mod K mg (KQ s₁.heap H):=⟨hKb,nsK hns,⟨mb,nsK hb,hbb⟩,let ⟨mc,h1,h2⟩:=hlim;⟨mc,nsK h1,h2⟩⟩;have e0:ado P w K mg (KQ s₁.heap H) callerA [] s₁ H:=⟨rfl,hM,λb o e=>acb e,Nat.le_of_eq<|We _ _,trivial,λb hb=>absurd (show b∈[] from hb) (by simp),hok,.of_eq hg⟩;refine Qfq ((F _ hKb<|nsK hns).run callerA [] s₁ H ⟨[.ref a],[]⟩ [.ref a] [.ref a] _ _ hr e0 (hbind s₁<|.ref a) (.cons rfl .nil)<|hsp H hO hS) λr s' h=>?_;cases r with
  |error e=>exact(hCX H e s' h).elim
  |ok fl=>
   cases fl with
   |next=>exact False.elim h|brk=>exact False.elim h|cont=>exact False.elim h
   |ret u=>
    obtain⟨v,H',os,bare,un,hok',r',q⟩:=h;subst q;obtain rfl:u=Value.bool true:=r';refine⟨rfl,OldK.of_keep λb o e=>?_,os,bare⟩;cases q:H b with
    |none=>exact un.keep b o e q (by intro z;exact absurd (show b∈[] from z) (by simp)) (by simp)
    |some u=>
     rcases hO b with z|⟨ob,xs,z⟩
     .rw[q] at z;cases z
     .obtain⟨e1,_⟩:=hok b _ z;obtain⟨e2,_⟩:=hok' b _ (un.Gk b ob _ z);rw[e] at e1;cases e1;exact e2
 cases hk:K.lookup a with
 |some o=>
  -- the script is one of the module's own objects
  have e:=KX a o hk;rw[ha] at e;cases e;refine core (λ_=>none) (λ_=>.inl rfl) (.inr ⟨_,vs.toArray,_,hk,rfl,rfl,rfl,by rw[Qq3,lenV];exact hl,by simpa using rv⟩) (λb u z=>by have z':=z;cases z') (λb z=>absurd rfl z) λz=>absurd rfl z
 |none=>
  refine core (λb=>if b=a then some (.O5 { cls:=.type "list",data:=.seq vs.toArray } (.lst<|ns.map V.int)) else none) (λb=>?_) (.inl<|.inr ⟨{ cls:=.type "list",data:=.seq vs.toArray },Qv4 rfl⟩) (λb u z=>?_) (λb z=>?_) λ_=>hk
  .by_cases hb:b=a
   .exact .inr ⟨_,_,Qv4 hb⟩
   .exact .inl<|Qv5 hb
  .by_cases hb:b=a
   .have z':=(Qv4 hb).symm.trans z;cases z';subst hb;exact⟨ha,by rw[Qqx];exact hl,vs,_,rv,ha⟩
   .have z':=(Qv5 hb).symm.trans z;cases z'
  .by_cases hb:b=a
   .exact hb
   .exact absurd (Qv5 hb) z
def nQ(s:Stmt):Arguments:=match s with
 |.FunctionDef _ a _ _ _ _ _ _ _ _=>a|_=>{ posonlyargs:=[],args:=[],vararg:=none,kwonlyargs:=[],kw_defaults:=[],kwarg:=none,defaults:=[] }
def iz(s:Stmt):List Stmt:=match s with
 |.FunctionDef _ _ b _ _ _ _ _ _ _=>b|_=>[]
def aV(s:Stmt):Scope:=match s with
 |.FunctionDef _ _ _ _ _ _ sc _ _ _=>sc|_=>{ kind:=.function,names:=[],isGenerator:=false,isCoroutine:=false }
abbrev JN:CXT:=λ_ _ _ _ _ _=>False
abbrev E0:XK:=λ_ _ _=>False
def Tz:Passes JN X E0:=λ_ _ _ _ _ _ _ h=>h.elim
structure Fun(K:PySem.W.Frag)(x qual:Str)(st:Stmt)(f:Addr)(fd:FuncData):Prop where
 ex:∃(oc:Value) (od:Option Addr) (kV doc pm:Value) (an:Option Addr) (cdv ct:Value) (osl:Array (Option Value)),
  fd=PySem.W.fnOf x qual (nQ st) (iz st) (aV st) .none kV doc pm an cdv ct/\K.lookup f=some ⟨oc,od,.func fd,osl⟩/\PySem.W.codeIn K cdv qual=true
 kp:PySem.W.keepIn K (.ref f)=true
section
variable{P:Program}{w:World}{K:PySem.W.Frag}{mg:Str->Option Value}{base:Heap}
def Fun.ok{st:Stmt}(F:Fun K x qual st f fd)(S:bI N ps (aV st))(len:∀vs H Q E,sp vs H Q E->vs.length=ps.length)
  (hbody:∀cdv A outer s H vs Q E,mH k (A.deeper (envOfC qual (aV st) s.heap.objs.size f cdv))->sp vs H Q E->
   ∃t,Qj (RT JN P w K mg base N qual (aV st) f cdv A outer s H E).nox (iz st) t/\t { nx:=λ_ H'=>Q .non H',rt:=Q } (start N vs) H):sH P w K mg base JN (k+1) f fd ps sp:=by
 obtain⟨oc,od,kV,doc,pm,an,cdv,ct,osl,rfl,lk,hcd⟩:=F.ex;refine ajh lk hcd S len λA outer s H vs Q E hr hsp=>?_;obtain⟨t,h,q⟩:=hbody cdv A outer s H vs Q E hr hsp;exact⟨t,h.nox,q⟩
def Fun.binds{st:Stmt}(F:Fun K x qual st f fd)
  (h:∀kV doc pm an cdv ct us,us.length=ps.length->bindArgs (PySem.W.fnOf x qual (nQ st) (iz st) (aV st) .none kV doc pm an cdv ct) ⟨us,[]⟩=pure (ps.zip us)):Binds K fd ps []:=by
 obtain⟨oc,od,kV,doc,pm,an,cdv,ct,osl,rfl,lk,hcd⟩:=F.ex;exact .all<|h kV doc pm an cdv ct
def RM{st:Stmt}{kV doc pm cdv ct:Value}(l:K.lookup f=some ⟨oc,od,.func (PySem.W.fnOf x qual (nQ st) (iz st) (aV st) .none kV doc pm an cdv ct),osl⟩)
  (c:PySem.W.codeIn K cdv qual=true) (k:PySem.W.keepIn K (.ref f)=true):Fun K x qual st f (PySem.W.fnOf x qual (nQ st) (iz st) (aV st) .none kV doc pm an cdv ct):=⟨⟨oc,od,kV,doc,pm,an,cdv,ct,osl,rfl,l,c⟩,k⟩
end
def ai1{A B:Prop}(h:B):if false=true then A else B:=by rw[Qv5 Qw2];exact h
def ai0{A B:Prop}(h:A):if true=true then A else B:=by rw[Qv4 rfl];exact h
def bu(H H':Hp):Prop:=∀b o,H b=some o->H' b=some o
def bu.refl(H):bu H H:=λ_ _ h=>h
def bu.trans(a:bu H H1)(b:bu H1 H2):bu H H2:=λc o h=>b c o<|a c o h
def bu.free(e:bu H H')(h:H' l=Option.none):H l=Option.none:=by
 cases q:H l with
 |none=>rfl|some o=>rw[e l o q] at h;cases h
def bu.seq{K:PySem.W.Frag}(e:bu H H')(h:lK K H a xs):lK K H' a xs:=by
 rcases h with (h|⟨o,h⟩)|h;exact .inl<|.inl<|e _ _ h;exact .inl<|.inr ⟨o,e _ _ h⟩;exact .inr h
section
variable{κ:Type}[DecidableEq κ]
def uZ(kvs:List (κ×V))(k:κ):Option V:=(kvs.find? λkv=>decide (kv.1=k)).map (·.2)
def putK(kvs:List (κ×V))(k:κ)(v:V):List (κ×V):=
 if (kvs.any λkv=>decide (kv.1=k))=true then kvs.map (λkv=>if kv.1=k then (kv.1,v) else kv) else kvs++[(k,v)]
def yl{k:κ}(e:p.1=k):uZ (p::r) k=some p.2:=by simp[uZ,Qz4,e]
def ym{k:κ}(e:¬p.1=k):uZ (p::r) k=uZ r k:=by simp[uZ,Qz4,e]
theorem Ec(k:κ):∀kvs,(kvs.any λkv=>decide (kv.1=k))=(uZ kvs k).isSome
 |[]=>rfl
 |p::r=>by
  rw[Q11];by_cases e:p.1=k;simp[yl e,Qw0 e,Bool.true_or,Qfy];rw[ym e,Qwy e,Bool.false_or];exact Ec k r
def rA(kvs)(k:κ)(v):(putK kvs k v).length<=kvs.length+1:=by
 unfold putK;split;rw[Qqx];omega;rw[Qqv,Qqy,Qx2];omega
def zT.oG(r:zT o u):o.isSome=u.isSome:=by
 cases o with
 |none=>cases u with
  |none=>rfl|some _=>exact r.elim
 |some _=>cases u with
  |none=>exact r.elim|some _=>rfl
def zT.getD(r:zT o u)(rd:RelV d d'):RelV (o.getD d) (u.getD d'):=by
 cases o with
 |none=>cases u with
  |none=>exact rd|some _=>exact r.elim
 |some _=>cases u with
  |none=>exact r.elim|some _=>exact r
def KV.val(r:KV kvs vs)(k:κ):zT (uZ kvs k) (valueAt vs k):=by
 unfold KV at r;induction r with
 |nil=>exact True.intro
 |@cons p q ps qs h t ih=>
  obtain⟨h1,h2⟩:=h;by_cases e:p.1=k;have e':=h1.symm.trans e;have b:valueAt (q::qs) k=some q.2:=by simp[valueAt,Qz4,e']
  rw[yl e,b];exact h2;have e':¬q.1=k:=λz=>e<|h1.trans z;have b:valueAt (q::qs) k=valueAt qs k:=by simp[valueAt,Qz4,e']
  rw[ym e,b];exact ih
def KV.any(r:KV kvs vs)(k:κ):(kvs.any λkv=>decide (kv.1=k))=vs.any λkv=>decide (kv.1=k):=by
 unfold KV at r
 induction r with
 |nil=>rfl|cons h t ih=>rw[Q11,Q11,ih,h.1]
def KV.repl(r:KV kvs vs)(k:κ)(ry:RelV y u) :
  KV (kvs.map λkv=>if kv.1=k then (kv.1,y) else kv) (vs.map λkv=>if kv.1=k then (kv.1,u) else kv):=by
 unfold KV at r ⊢;induction r with
 |nil=>exact .nil|@cons p q ps qs h t ih=>rw[Qq8,Qq8];refine .cons ?_ ih;obtain⟨h1,h2⟩:=h;by_cases e:p.1=k;rw[Qv4 e,Qv4<|h1.symm.trans e];exact⟨h1,ry⟩;rw[Qv5 e,Qv5<|λz=>e<|h1.trans z];exact⟨h1,h2⟩
def KV.put(r:KV kvs vs)(k:κ)(ry:RelV y u):KV (putK kvs k y) (stored vs k u):=by
 unfold putK stored;rw[r.any k];by_cases e:(vs.any λkv=>decide (kv.1=k))=true;rw[Qv4 e,Qv4 e];exact r.repl k ry;rw[Qv5 e,Qv5 e];exact Paired.snoc r ⟨rfl,ry⟩
def KV.keys{vs:List (κ×Value)}(r:KV kvs vs):kvs.map (·.1)=vs.map (·.1):=by
 unfold KV at r;induction r with
 |nil=>rfl|cons h t ih=>rw[Qq8,Qq8,ih,h.1]
def KV.length{vs:List (κ×Value)}(r:KV kvs vs):kvs.length=vs.length:=Qgy r
end
def BR(r:RelV (kV k) u):(fB P w).is k u=true:=by
 cases k with
 |inl i=>obtain⟨t,e⟩:=(show ∃t,u=Value.int i t from r);subst e;exact Oh P w i t|inr x=>obtain⟨t,e⟩:=(show ∃t,u=Value.str x t from r);subst e;exact Og P w x t
theorem Jm:∀{ks} {us},Vals (ks.map kV) us->ItemsAre (fB P w) ks us
 |[],_,r=>by rw[Qv3] at r;cases r;exact .nil
 |k::ks,_,r=>by
  rw[Qq8] at r;cases r with
  |cons h t=>exact .cons (BR h)<|Jm t
abbrev KT(H:Hp):List (List Key×V)->List (List Key×Addr×Value)->Prop:=Paired λp q=>p.1=q.1/\H q.2.1=some (.tup (p.1.map kV))/\RelV p.2 q.2.2
def KT.val(r:KT H kvs xs)(k):zT (uZ kvs k) ((atKey xs k).map (·.2)):=by
 induction r with
 |nil=>exact True.intro
 |@cons p q ps qs h t ih=>
  obtain⟨h1,_,h2⟩:=h;by_cases e:p.1=k;have e':=h1.symm.trans e;have b:atKey (q::qs) k=some q.2:=by simp[atKey,Qz4,e']
  rw[yl e,b];exact h2;have e':¬q.1=k:=λz=>e<|h1.trans z;have b:atKey (q::qs) k=atKey qs k:=by simp[atKey,Qz4,e']
  rw[ym e,b];exact ih
def KT.repl(r:KT H kvs xs)(k)(ry:RelV y u) :
  KT H (kvs.map λkv=>if kv.1=k then (kv.1,y) else kv) (xs.map (putAt k u)):=by
 induction r with
 |nil=>exact .nil|@cons p q ps qs h t ih=>rw[Qq8,Qq8];refine .cons ?_ ih;obtain⟨h1,h2,h3⟩:=h;unfold putAt;by_cases e:p.1=k;rw[Qv4 e,Qv4<|h1.symm.trans e];exact⟨h1,h2,ry⟩;rw[Qv5 e,Qv5<|λz=>e<|h1.trans z];exact⟨h1,h2,h3⟩
def KT.put(r:KT H kvs xs)(k)(hb:H b=some (.tup (k.map kV)))(ry:RelV y u) :
  KT H (putK kvs k y) (storedH xs k b u):=by
 have e:(kvs.any λkv=>decide (kv.1=k))=(atKey xs k).isSome:=by rw[Ec,(r.val k).oG,Qvy]
 unfold putK storedH;rw[e];by_cases q:(atKey xs k).isSome=true;rw[Qv4 q,Qv4 q];exact r.repl k ry;rw[Qv5 q,Qv5 q];exact Paired.snoc r ⟨rfl,hb,ry⟩
def KT.keeps(r:KT H kvs xs)(ht:∀b ys,H b=some (.tup ys)->H' b=some (.tup ys)):KT H' kvs xs:=
 Paired.af8 r λ_ _ z=>⟨z.1,ht _ _ z.2.1,z.2.2⟩
section
variable{P:Program}{w:World}{H:Hp}{h:Heap}{a:Addr}
def adK(ok:zW P w H h)(e:Rd H a u):jx P w H h a u:=e.ok ok
def BX(ok:zW P w H h)(e:Rd H a (.dK kvs)):kvs.length<=sizeLine/\(a == sysModules)=false/\∃vs,KV kvs vs/\h.DictOf (fB P w) a vs:=
 show jx P w H h a (.dK kvs) from adK ok e
def aeb(ok:zW P w H h)(e:H a=some (.dK kvs)):kvs.length<=sizeLine/\(a == sysModules)=false/\∃vs,KV kvs vs/\h.DictOf (fB P w) a vs:=BX ok<|.inl e
def Bk(ok:zW P w H h)(e:H a=some (.tup (ks.map kV))):(tupleKind (fB P w)).is h ks a:=by obtain⟨_,its,r,o,h1,h2,⟨n,h3⟩,_⟩:=(show jx P w H h a (.tup<|ks.map kV) from ok a _ e);exact⟨o,its.toArray,n,h1,h2,h3,by simpa using Jm r⟩
def GC(ok:zW P w H h)(e:Rd H a (.dT kvs)):kvs.length<=sizeLine/\(a == sysModules)=false/\
  ∃xs,KT H kvs xs/\h.DictOfH (tupleKind (fB P w)) a xs:=by
 obtain⟨z,y,xs,r,o,es,ep,h1,h2,h3,h4,h5⟩:=(show jx P w H h a (.dT kvs) from adK ok e);refine⟨z,y,xs,r,o,es,ep,h1,h2,h3,h4,λx hx=>?_,h5⟩;have all:∀{l} {m},KT H l m->∀x∈m,(tupleKind<|fB P w).is h x.1 x.2.1:=by
  intro l m q;induction q with
  |nil=>intro x hx;exact nomatch hx|@cons p q ps qs hq t ih=>intro x hx;rcases Qq4.mp hx with e|hx;subst e;exact Bk ok (by rw[<-hq.1];exact hq.2.1);exact ih x hx
 exact all r x hx
def ajk(ok:zW P w H h)(e:H a=some (.dT kvs)):kvs.length<=sizeLine/\(a == sysModules)=false/\
  ∃xs,KT H kvs xs/\h.DictOfH (tupleKind (fB P w)) a xs:=GC ok<|.inl e
end
def Ij(H:Hp)(a:Addr)(y:V)(r:Option V):Prop:=
 (∃kvs k,Rd H a (.dK kvs)/\y=kV k/\r=uZ kvs k)\/∃kvs k b,Rd H a (.dT kvs)/\y=.ref b/\H b=some (.tup (k.map kV))/\r=uZ kvs k
def aa5(H:Hp)(a:Addr)(y v:V)(H':Hp):Prop:=
 (∃kvs k,H a=some (.dK kvs)/\y=kV k/\kvs.length<sizeLine/\H'=upd H a (.dK (putK kvs k v)))\/
 ∃kvs k b,H a=some (.dT kvs)/\y=.ref b/\H b=some (.tup (k.map kV))/\kvs.length<sizeLine/\H'=upd H a (.dT (putK kvs k v))
theorem aa5.k{k:Key}(e:H a=some (.dK kvs))(hl:kvs.length<sizeLine):aa5 H a (kV k) v (upd H a (.dK (putK kvs k v))):=.inl ⟨kvs,k,e,rfl,hl,rfl⟩
section
variable{X:Cx}{pins:List (Addr×Obj)}{σ:St}{H:Hp}{s:Shared}{a:Addr}{y v:V}{u r:Value}{o:Option V}{A:Around}{E:Value->Shared->Prop}
def Inv.big(I:Inv X pins σ H s):sysModules<s.heap.objs.size:=by exact Qhz (by decide) ((I.mod.glob.keeps I.bk).lt)
def Wr(hu:A.units+1<cLine)(I:Inv X pins σ H s)(g:Ij H a y (some v))(ry:RelV y u)(h:∀w' s',Inv X pins σ H s'->RelV v w'->Q w' s') :
  wpAny (model X.prog X.w) A (getItem (.ref a) u) Q E s:=by
 rcases g with ⟨kvs,k,e,ey,l⟩|⟨kvs,k,b,e,ey,eb,l⟩;subst ey;obtain⟨z,hd,vs,rel,dd⟩:=BX I.hok e;obtain⟨w',hw,Q5⟩:=zT.some_of (by rw[l];exact rel.val k);exact wpAny_getItem_of (BR ry) dd.mapOf hw<|h w' _ (I.tok _) Q5;subst ey;cases ry;obtain⟨z,hd,xs,rel,dd⟩:=GC I.hok e;obtain⟨w',hw,Q5⟩:=zT.some_of (by rw[l];exact rel.val k);obtain⟨p,hp,hp2⟩:=Qwz.mp hw;refine wpAny_getItem_heap (Qyk hu) (Bk I.hok eb) dd hp ?_;rw[hp2];exact h w' _ (I.tok _) Q5
def alc(hu:A.units+1<cLine)(I:Inv X pins σ H s)(g:Ij H a y o)(ry:RelV y u)(h:∀s',Inv X pins σ H s'->Q (.bool o.isSome) s') :
  wpAny (model X.prog X.w) A (compareOp .In u (.ref a)) Q E s:=by
 rcases g with ⟨kvs,k,e,ey,l⟩|⟨kvs,k,b,e,ey,eb,l⟩;subst ey;obtain⟨z,hd,vs,rel,dd⟩:=BX I.hok e;refine wpAny_in_of (BR ry) hd dd.mapOf ?_;rw[<-(rel.val k).oG,<-l];exact h _<|I.tok _;subst ey;cases ry;obtain⟨z,hd,xs,rel,dd⟩:=GC I.hok e;refine wpAny_in_heap (Qyk hu) (Bk I.hok eb) hd dd ?_;have q:=(rel.val k).oG;rw[Qvy] at q;rw[<-q,<-l];exact h _<|I.tok _
def acT(hu:A.units+1<cLine)(I:Inv X pins σ H s)(g:Ij H a y o)(ry:RelV y u)(h:∀s',Inv X pins σ H s'->Q (.bool (!o.isSome)) s') :
  wpAny (model X.prog X.w) A (compareOp .NotIn u (.ref a)) Q E s:=by
 rcases g with ⟨kvs,k,e,ey,l⟩|⟨kvs,k,b,e,ey,eb,l⟩;subst ey;obtain⟨z,hd,vs,rel,dd⟩:=BX I.hok e;refine wpAny_notIn_of (BR ry) hd dd.mapOf ?_;rw[<-(rel.val k).oG,<-l];exact h _<|I.tok _;subst ey;cases ry;obtain⟨z,hd,xs,rel,dd⟩:=GC I.hok e;refine wpAny_notIn_heap (Qyk hu) (Bk I.hok eb) hd dd ?_;have q:=(rel.val k).oG;rw[Qvy] at q;rw[<-q,<-l];exact h _<|I.tok _
def zH(I:Inv X pins σ H s)(mu:Mut (H a))(hs:Heap.SameBut a s.heap h')(he:∃q,h'.get? a=some q)(new:jx X.prog X.w (upd H a ob) h' a ob) :
  Inv X pins σ (upd H a ob) { s with heap:=h',toks:=t' }:=
 I.write mu (.inl rfl) (λb q hb z=>(hs.2 b hb).trans z) he new
def aax(z:kvs.length<=sizeLine)(hd:(a == sysModules)=false)(rel:KV kvs vs)(dd:h'.DictOf (fB P w) a vs) :
  jx P w H' h' a (.dK kvs):=⟨z,hd,vs,rel,dd⟩
def Wq(hu:A.units+1<cLine)(I:Inv X pins σ H s)(g:aa5 H a y v H')(ry:RelV y u)(rv:RelV v r)(h:∀s',Inv X pins σ H' s'->Q () s') :
  wpAny (model X.prog X.w) A (setItem (.ref a) u r) Q E s:=by
 rcases g with ⟨kvs,k,e,ey,l,eH⟩|⟨kvs,k,b,e,ey,eb,l,eH⟩;subst ey eH;obtain⟨z,hd,vs,rel,dd⟩:=aeb I.hok e;have hz:vs.length<=sizeLine:=by rw[<-rel.length];exact z
 have hl:(putK kvs k v).length<=sizeLine:=by have:=rA kvs k v;omega
 refine wpAny_setItem_pairs (BR ry) dd λh' dd' hs=>h _ ?_;have he:∃q,h'.get? a=some q:=let ⟨q,_,_,hq,_⟩:=dd';⟨q,hq⟩;exact zH I (by rw[e];exact True.intro) hs he<|aax hl hd (rel.put k rv) dd';subst ey eH;cases ry;obtain⟨z,hd,xs,rel,dd⟩:=ajk I.hok e;have hz:xs.length<=sizeLine:=by rw[<-Qgy rel];exact z
 have hl:(putK kvs k v).length<=sizeLine:=by have:=rA kvs k v;omega
 refine wpAny_setItem_heap (Qyk hu) (Bk I.hok eb) dd λh' dd' hs=>h _ ?_;obtain⟨q,es,ep,hq,h2,h3,h4,_,h5⟩:=dd';refine zH I (by rw[e];exact True.intro) hs ⟨q,hq⟩ ⟨hl,hd,_,(rel.put k eb rv).keeps λc ys ec=>?_,q,es,ep,hq,h2,h3,h4,h5⟩;rw[cj (aiK ec e<|λz=>nomatch z)];exact ec
end
def WT(i:Expr):Prop:=∀ov iv,subscripted i false ov iv=operate [ov,iv] (getItem ov iv)
def SM{T id:String}
  (hl:typeLookup (.type T) "__getitem__"=pure (some (.builtin id))) (hs:WT slice)
  (h:wpAny (model prog w) A (eval value env) (λo s₁=>wpAny (model prog w) A (eval slice env) (λi s₂=>s₂.TypeIs o T/\wpAny (model prog w) A (getItem o i) Q E s₂) E s₁) E s) :
  wpAny (model prog w) A (eval (.Subscript value slice pos) env) Q E s:=by
 refine Subscript_<|Qj2 h (λo s₁ h₁=>Qj2 h₁ (λi s₂ h₂=>?_) λ_ _ x=>x) λ_ _ x=>x;obtain⟨hT,h₂⟩:=h₂;unfold subscriptTail;refine Qqq ?_;rw[getitemInPython_of_ne hT.not_modules];refine Qqq<|Qyw hT hl ?_;have fin:wpAny (model prog w) A (subscripted slice false o i) (λr s₃=>wpAny (model prog w) A (letTemporaryGo value o r >>= λ_=>pure r) Q E s₃) E s₂:=by rw[hs o i];exact wpAny_operating<|Qj2 h₂ (λr s₃ h₃=>Qqq<|wpAny_letTemporaryGo<|Qq2 h₃) λ_ _ x=>x
 first
  |exact Qq2<|Qqq fin|exact Qqq<|Qq2<|Qqq fin|exact Qqq fin
def Pu{σ:St}(I:Inv X pins σ H s)(g:Ij H a y o):s.TypeIs (.ref a) "dict":=by
 rcases g with ⟨kvs,k,e,_,_⟩|⟨kvs,k,b,e,_,_,_⟩;obtain⟨_,_,vs,_,dd⟩:=BX I.hok e;exact dd.typeIs;obtain⟨_,_,xs,_,dd⟩:=GC I.hok e;exact dd.typeIs
def ahK(td ty:TE):TE:=λσ H Q=>td σ H λx H1=>ty σ H1 λy H2=>∃a v,x=.ref a/\Ij H2 a y (some v)/\Q v H2
def ahS(td ty tv:TE):TS:=λD σ H=>tv σ H λv H1=>td σ H1 λx H2=>ty σ H2 λy H3=>∃a H4,x=.ref a/\aa5 H3 a y v H4/\D.nx σ H4
section
variable{X:Cx}{o i e value:Expr}{pos pos' tpos:Pos}{td ty tv:TE}
def ab3(hu:X.A.units+1<cLine)(ho:PE X o td)(hi:PE X i ty)(hs:WT i):PE X (.Subscript o i pos) (ahK td ty):=by intro pins s σ H Q I h;refine SM PySem.F.slot_dict_getitem.lookup hs<|gR (ho pins s σ H _ I h) λu s1 ⟨x,H1,I1,rx,q1⟩=>gR (hi pins s1 σ H1 _ I1 q1) λiv s2 ⟨y,H2,I2,ry,a,v,ex,g,q2⟩=>?_;subst ex;obtain rfl:u=Value.ref a:=rx;exact⟨Pu I2 g,Wr hu I2 g ry λw' s3 I3 Q5=>⟨v,H2,I3,Q5,q2⟩⟩
def abS(hu:X.A.units+1<cLine)(ho:PE X o td)(hi:PE X i ty)(hv:PE X value tv)(hs:swapsWith value (some (.Subscript o i pos')) pos.line X.env=pure false) :
  PS X (.Assign [.Subscript o i pos'] value pos) (ahS td ty tv):=by
 intro pins s σ H D I h;refine wpAny_Assign_Subscript (gR (hv pins s σ H _ I h) λr s1 ⟨v,H1,I1,rv,q1⟩=>gR (ho pins s1 σ H1 _ I1 q1) λu s2 ⟨x,H2,I2,rx,q2⟩=>gR (hi pins s2 σ H2 _ I2 q2) λiv s3 ⟨y,H3,I3,ry,a,H4,ex,g,q3⟩=>?_) hs;subst ex;obtain rfl:u=Value.ref a:=rx;exact Wq hu I3 g ry rv λs4 I4=>⟨σ,H4,I4,q3⟩
end
def Pq(h:Heap)(hb:sysModules<h.objs.size):jx P w H (h.push { cls:=.type "dict",data:=.dict #[] }) h.objs.size (.dK []):=
 ⟨Qxz _,Qzz.mpr<|Ne.symm<|Qxq hb,[],.nil,Heap.DictOf.new h⟩
def aeH:TE:=λ_ H Q=>∀p,H p=none->Q (.ref p) (upd H p (.dK []))
section
variable{X:Cx}{pos:Pos}
def Y0:PE X (.Dict [] [] pos) aeH:=λpins s σ H Q I h=>
 wpAny_Dict_empty ⟨.ref s.heap.objs.size,_,I.laid (λ_ _ q=>Qqz _ q) (Qq0 _)<|Pq s.heap I.big,rfl,h _<|I.hok.fresh<|Qq0 _⟩
end
def QR:List (TE×TE)->St->Hp->(List (V×V)->Hp->Prop)->Prop
 |[],_,H,Q=>Q [] H|(tk,tv)::r,σ,H,Q=>tk σ H λx H1=>tv σ H1 λy H2=>QR r σ H2 λps H3=>Q ((x,y)::ps) H3
abbrev VV:List (V×V)->List (Value×Value)->Prop:=Paired λp q=>RelV p.1 q.1/\RelV p.2 q.2
def PPs(X:Cx)(pos:Pos)(keys:List (Option Expr))(values:List Expr)(trs:List (TE×TE)):Prop:=
 ∀(pins:List (Addr×Obj)) (s:Shared) (σ:St) (H:Hp) (Q:List (V×V)->Hp->Prop),Inv X pins σ H s->QR trs σ H Q->
  wpAny (model X.prog X.w) X.A (evalPairs (pairTrees keys values X.env pos)) (λvs s'=>∃ps H',Inv X pins σ H' s'/\VV ps vs/\Q ps H') X.xe s
def abT:PPs X pos [] [] []:=λpins s σ H Q I h=>pairTrees_nil_walk ⟨[],H,I,.nil,h⟩
def YG(hk:PE X k tk)(hv:PE X v tv)(hr:PPs X pos ks vs trs) :
  PPs X pos (some k::ks) (v::vs) ((tk,tv)::trs):=λpins s σ H Q I h=>
 pairTrees_cons_walk (gR (hk pins s σ H _ I h) λu s1 ⟨x,H1,I1,rx,q1⟩=>gR (hv pins s1 σ H1 _ I1 q1) λw2 s2 ⟨y,H2,I2,ry,q2⟩=>
  gR (hr pins s2 σ H2 _ I2 q2) λws s3 ⟨ps,H3,I3,rel,q3⟩=>⟨(x,y)::ps,H3,I3,.cons ⟨rx,ry⟩ rel,q3⟩)
def Bc(kvs more:List (Key×V)):List (Key×V):=more.foldl (λacc kv=>putK acc kv.1 kv.2) kvs
def KV.merge:∀{more} {rs} {kvs} {vs},KV more rs->KV kvs vs->KV (Bc kvs more) (merged vs rs):=by
 intro more rs kvs vs r;unfold KV at r
 induction r generalizing kvs vs with
 |nil=>intro q;exact q
 |@cons p q ps qs h t ih=>
  intro r0;have e:KV (putK kvs p.1 p.2) (stored vs q.1 q.2):=by have:=r0.put p.1 h.2;rw[<-h.1];exact this
  exact ih e
theorem wO:∀more kvs,(Bc kvs more).length<=kvs.length+more.length
 |[],kvs=>by show kvs.length<=kvs.length+0;omega
 |p::r,kvs=>by
  have h1:=wO r<|putK kvs p.1 p.2;have h2:=rA kvs p.1 p.2;show(Bc (putK kvs p.1 p.2) r).length<=_;rw[Qqy];omega
theorem GR:∀{kvs} {ws},VV (kvs.map λkv=>(kV kv.1,kv.2)) ws->∃rs,Carries (fB P w) ws rs/\KV kvs rs
 |[],_,r=>by rw[Qv3] at r;cases r;exact⟨[],True.intro,.nil⟩
 |p::kvs,_,r=>by
  rw[Qq8] at r;cases r with
  |@cons a b as bs h t=>obtain⟨rs,c,q⟩:=GR t;obtain⟨b1,b2⟩:=b;exact⟨(p.1,b2)::rs,⟨BR h.1,rfl,c⟩,.cons ⟨rfl,h.2⟩ q⟩
def adF(trs:List (TE×TE)):TE:=λσ H Q=>∀p,H p=none->QR trs σ (upd H p (.dK [])) λps H2=>H2 p=some (.dK [])/\∃kvs:List (Key×V),ps=kvs.map (λkv=>(kV kv.1,kv.2))/\kvs.length<=15/\Q (.ref p) (upd H2 p (.dK (Bc [] kvs)))
def ab2(h:PPs X pos keys values trs)(hall:keys.all (·.isSome)=true)(hl:keys.length=values.length)(h0:keys≠[])
  (h15:keys.length<=15):PE X (.Dict keys values pos) (adF trs):=by
 intro pins s σ H Q I q;refine wpAny_Dict_walk (knd:=fB X.prog X.w) hall hl h0 h15<|gR (h pins _ σ _ _ (I.laid (a:=s.heap.objs.size) (o:=.dK []) (h':=s.heap.push { cls:=.type "dict",data:=.dict #[] }) (t':=s.toks) (λ_ _ q=>Qqz _ q) (Qq0 _) (Pq s.heap I.big))<|q _ (I.hok.fresh (Qq0 s.heap.objs.size))) λws s2 ⟨ps,H2,I2,rel,e,kvs,ep,lk,q2⟩=>?_;subst ep;obtain⟨rs,c,rk⟩:=GR (P:=X.prog) (w:=X.w) rel;obtain⟨z,hd,vs0,r0,dd⟩:=aeb I2.hok e;cases r0;refine⟨rs,c,dd,λh' dd' hs=>⟨.ref s.heap.objs.size,_,?_,rfl,q2⟩⟩;have hz:(Bc [] kvs).length<=sizeLine:=by have h1:=wO kvs [];rw[Qx2] at h1;rw[Qy3];omega
 have he:∃q,h'.get? s.heap.objs.size=some q:=let ⟨q,_,_,hq,_⟩:=dd';⟨q,hq⟩;exact zH I2 (by rw[e];exact True.intro) hs he<|aax hz hd (rk.merge .nil) dd'
structure M2(X:Cx)(o:Expr)(m:Str)(apos:Pos)(e f:Expr)(cpos:Pos):Prop where
 base:attributeBase o m X.env (eval o X.env)=eval o X.env
 few:((backTo cpos (starEach [e,f] X.env)).all (λx=>!x.1)&&(backToKw cpos (keywordEach [] X.env)).all (λx=>x.1.isSome)
  && decide (([e,f]:List Expr).length+([]:List Keyword).length+(if ([]:List Keyword).isEmpty then 0 else 1)<30))=true
 line:(apos.endLine == cpos.line)=true
 trees:backTo cpos (starEach [e,f] X.env)=[(false,eval e X.env),(false,eval f X.env)]
def IsD(H:Hp)(a:Addr):Prop:=(∃kvs,Rd H a (.dK kvs))\/∃kvs,Rd H a (.dT kvs)
def agl{σ:St}(I:Inv X pins σ H s)(d:IsD H a) :
  s.TypeIs (.ref a) "dict"/\(∀b,Value.ref a = .ref b->∃ob,s.heap.get? b=some ob/\ob.dict=none)/\(a == sysModules)=false:=by
 rcases d with ⟨kvs,e⟩|⟨kvs,e⟩;obtain⟨_,hd,vs,_,dd⟩:=BX I.hok e;refine⟨dd.typeIs,λb q=>?_,hd⟩;cases q;obtain⟨ob,_,_,h1,h2,_⟩:=dd;exact⟨ob,h1,h2.2.1⟩;obtain⟨_,hd,xs,_,dd⟩:=GC I.hok e;refine⟨dd.typeIs,λb q=>?_,hd⟩;cases q;obtain⟨ob,_,_,h1,h2,_⟩:=dd;exact⟨ob,h1,h2.2.1⟩
section
variable{X:Cx}{pins:List (Addr×Obj)}{σ:St}{H:Hp}{s:Shared}{a:Addr}{y d:V}{u r:Value}{o:Option V}{A:Around}{E:Value->Shared->Prop}
def agM(hu:A.units+1<cLine)(I:Inv X pins σ H s)(g:Ij H a y o)(ry:RelV y u)(rd:RelV d r)(h:∀w' s',Inv X pins σ H s'->RelV (o.getD d) w'->Q w' s') :
  wpAny (model X.prog X.w) A (call (.builtin "dict.get") [.ref a,u,r]) Q E s:=by
 rcases g with ⟨kvs,k,e,ey,l⟩|⟨kvs,k,b,e,ey,eb,l⟩;subst ey;obtain⟨z,hd,vs,rel,dd⟩:=BX I.hok e;refine call_meetsIn Qhj dd.typeIs Q0k (Qg3 _ _ _) (meets_dict_get_default (fB X.prog X.w) a (BR ry) hd r) ⟨_,dd.mapOf,h _ _ (I.tok _) ?_⟩;rw[l];exact(rel.val k).getD rd;subst ey;cases ry;obtain⟨z,hd,xs,rel,dd⟩:=GC I.hok e;refine call_meetsIn Qhj dd.typeIs Q0k (Qg3 _ _ _) (meetsH_dict_get_default (tupleKind<|fB X.prog X.w) a b hd r) ⟨Qyk hu,k,xs,Bk I.hok eb,dd,h _ _ (I.tok _) ?_⟩;rw[l];exact(rel.val k).getD rd
end
def aeI(td ty tx:TE):TE:=λσ H Q=>td σ H λx H1=>∃a,x=.ref a/\IsD H1 a/\ty σ H1 λy H2=>tx σ H2 λz H3=>∃o,Ij H3 a y o/\Q (o.getD z) H3
section
variable{X:Cx}{o e f:Expr}{apos cpos:Pos}{td ty tx:TE}
def Y5(hu:X.A.units+1<cLine)(ho:PE X o td)(he:PE X e ty)(hf:PE X f tx)(m:M2 X o "get" apos e f cpos):PE X (.Call (.Attribute o "get" apos) [e,f] [] cpos) (aeI td ty tx):=by
 intro pins s σ H Q I h;refine wpAny_Call_method m.base m.few m.line PySem.F.plainAttrs_dict Qhj PySem.F.type_dict_get<|gR (ho pins s σ H _ I h) λu s1 ⟨x,H1,I1,rx,a,ex,d,q1⟩=>?_;subst ex;obtain rfl:u=Value.ref a:=rx;obtain⟨t1,t2,_⟩:=agl I1 d;refine⟨t1,t2,?_⟩;rw[m.trees];refine Qb6 rfl (Qh7 (Qf2 (gR (he pins s1 σ H1 _ I1 q1) λiv s2 ⟨y,H2,I2,ry,q2⟩=>
  Qf2 (gR (hf pins s2 σ H2 _ I2 q2) λfv s3 ⟨z,H3,I3,rz,ov,g,q3⟩=>Calls.spliced_nil ?_))))
 exact agM hu I3 g ry rz λw' s4 I4 Q5=>⟨_,H3,I4,Q5,q3⟩
end
def qX(env:Env):List (Str×NameKind)->List (Str×Addr)->List (Str×Addr)
 |[],acc=>acc|(n,k)::r,acc=>if k == .free then qX env r ((n,(env.cells.lookup n).getD 0)::acc) else qX env r acc
theorem GK(f)
  (hf:∀n k cs,f (n,k) cs=if k == .free then (do let a <-cellOf env n;pure (.yield ((n,a)::cs))) else pure (.yield cs)) :
  ∀names acc,(∀n,(n,NameKind.free)∈names->∃c,env.cells.lookup n=some c)->forIn names acc f=pure (qX env names acc)
 |[],acc,_=>by rw[Qk3];rfl
 |(n,k)::r,acc,h=>by
  have ih:=GK f hf r;have hr:=λm hm=>h m<|Qqk _ hm;rw[Qvk,hf];cases hk:k == NameKind.free with
  |true=>
   have hk':k=.free:=by simpa using hk
   obtain⟨c,hc⟩:=h n (by rw[hk'];exact Qqj);rw[Qv4 rfl];unfold cellOf;rw[hc];simp[pure_bind];rw[ih _ hr]
   conv=>rhs;unfold qX
   rw[Qv4 hk,hc]
   rfl
  |false=>
   rw[Qv5 (by simp)];simp[pure_bind];rw[ih _ hr]
   conv=>rhs;unfold qX
   rw[Qv5 (by simp[hk])]
def GP(h:∀n,(n,NameKind.free)∈scope.names->∃c,env.cells.lookup n=some c):closureFor scope env=pure (qX env scope.names []):=by
 simp only[closureFor];rw[GK _ (λn k cs=>by cases hk:k == NameKind.free<;>simp[hk]) _ _ h]
 rfl
theorem zK:∀names acc x c,(∀n,(n,NameKind.free)∈names->∃c,env.cells.lookup n=some c)->
  (∀y d,acc.lookup y=some d->env.cells.lookup y=some d)->(qX env names acc).lookup x=some c->env.cells.lookup x=some c
 |[],acc,x,c,_,ha,h=>ha x c h
 |(n,k)::r,acc,x,c,hn,ha,h=>by
  have hr:=λm hm=>hn m<|Qqk _ hm;unfold qX at h;split at h;rename_i hk;have hk':k=.free:=by simpa using hk
  obtain⟨d,hd⟩:=hn n (by rw[hk'];exact Qqj);refine zK r _ x c hr (λy e he=>?_) h;rw[Qzk] at he;cases hy:y == n with
  |true=>
   rw[hy] at he;have e1:y=n:=by simpa using hy
   rw[e1,hd];rw[hd] at he;exact he
  |false=>rw[hy] at he;exact ha y e he
  exact zK r acc x c hr ha h
theorem Br:∀names acc x,(acc.lookup x).isSome=true->((qX env names acc).lookup x).isSome=true
 |[],acc,x,h=>h
 |(n,k)::r,acc,x,h=>by
  unfold qX;split;refine Br r _ x ?_;rw[Qzk];split;rfl;exact h;exact Br r acc x h
theorem zJ:∀names acc x,(x,NameKind.free)∈names->((qX env names acc).lookup x).isSome=true
 |[],acc,x,h=>nomatch h
 |(n,k)::r,acc,x,h=>by
  unfold qX;rcases Qq4.mp h with e|h;obtain⟨e1,e2⟩:=Prod.mk.inj e;subst e1 e2;rw[Qv4 (by rfl)];refine Br r _ x ?_;rw[Qzk];simp;split;exact zJ r _ x h;exact zJ r acc x h
theorem iW:∀names n acc,cellsFrom n names acc=cellsFrom n names []++acc
 |[],n,acc=>rfl
 |(x,k)::r,n,acc=>by
  unfold cellsFrom;split;rw[iW r (n+1) ((x,n)::acc),iW r (n+1) [(x,n)],Qxx];rfl;exact iW r n acc
theorem rZ:∀names n x c,(x,c)∈cellsFrom n names []->(x,NameKind.cell)∈names
 |[],n,x,c,h=>nomatch h
 |(y,k)::r,n,x,c,h=>by
  unfold cellsFrom at h;split at h;rename_i hk;have hk':k=.cell:=by simpa using hk
  rw[iW] at h;rcases Qww.mp h with h|h;exact Qqk _<|rZ r _ x c h;cases (Qqw.mp h);rw[hk'];exact Qqj;exact Qqk _<|rZ r _ x c h
theorem um{α:Type}:∀(l m:List (Str×α)) x,(l++m).lookup x=match l.lookup x with|some v=>some v|none=>m.lookup x
 |[],m,x=>rfl
 |(k,v)::r,m,x=>by
  rw[Qh0,Qzk,Qzk];cases h:x == k with
  |true=>rfl|false=>exact um r m x
theorem vL{α:Type}:∀(l:List (Str×α)) x,(∀v,(x,v) ∉ l)->l.lookup x=none
 |[],x,_=>rfl
 |(k,v)::r,x,h=>by
  rw[Qzk];cases e:x == k with
  |true=>
   have e':x=k:=by simpa using e
   exact absurd (by rw[e'];exact Qqj)<|h v
  |false=>exact vL r x λw hw=>h w<|Qqk _ hw
theorem lookup_mem{α:Type}:∀(l:List (Str×α)) x v,l.lookup x=some v->(x,v)∈l
 |[],x,v,h=>nomatch h
 |(k,w)::r,x,v,h=>by
  rw[Qzk] at h;cases e:x == k with
  |true=>
   rw[e] at h;cases h;have e':x=k:=by simpa using e
   rw[e'];exact Qqj
  |false=>rw[e] at h;exact Qqk _<|lookup_mem r x v h
theorem lN{α:Type}:∀(l:List (Str×α)) x v,(l.map (·.1)).Nodup->(x,v)∈l->l.lookup x=some v
 |[],x,v,_,h=>nomatch h
 |(k,w)::r,x,v,nd,h=>by
  rw[Qzk];have nd':=Qx3.mp nd;rcases Qq4.mp h with e|h;cases e;simp;have hne:¬x=k:=λe=>nd'.1 (by rw[<-e];exact Qwq.mpr ⟨(x,v),h,rfl⟩);have hb:(x == k)=false:=by simpa using hne
  rw[hb];exact lN r x v nd'.2 h
def Oa
  (hQ:∀h',h'.Ns s.heap.objs.size (λ_=>none)->(∀b o,s.heap.get? b=some o->h'.get? b=some o)->CellsOk h' (s.heap.objs.size+1) (cellsFrom (s.heap.objs.size+1) scope.names [])->
   Q { scope,locals:=s.heap.objs.size,globals,cells:=cellsFrom (s.heap.objs.size+1) scope.names cl,qual,func:=none,code:=outer.code,frame:=outer.frame,builtins:=outer.builtins } { s with heap:=h' }) :
  wpAny M A (newFunctionEnv scope globals cl [] qual none .none (some outer)) Q E s:=by
 simp only[newFunctionEnv,Qfy,Qhv];refine Qqq<|wpAny_alloc ?_;refine Qqq<|wpAny_layCells _ (λname kind cells=>by cases hkc:kind == NameKind.cell<;>simp[hkc]) _ _ _ _ ?_;have ok:=cellsFrom_ok scope.names (s.heap.push { cls:=.type "dict",data:=.dict #[] }) (s.heap.objs.size+1) [] ⟨λ_ _ hm=>(nomatch hm),List.Pairwise.nil⟩ (by rw[Qx5];exact Qq0 _);rw[Qx5] at ok;rw[show({ s with heap:=s.heap.push { cls:=.type "dict",data:=.dict #[] } }:Shared).heap.objs.size=s.heap.objs.size+1 from Qx5 ..];refine Qqq ?_;rw[Qk3];refine Qq2<|Qq2<|hQ _ ?_ ?_ ?_;exact(Heap.Ns.new s.heap<|.type "dict").keeps<|pushCells_keeps _ _;exact λb o e=>pushCells_keeps _ _ b o<|Qqz _ e;exact ok
def cxC(X:Cx)(scope:Scope)(N':List Str)(cells:List (Str×Addr))(C:Addr)(s0:Shared)(H0:Hp)(fp:List Addr):Cx:=
 { X with N:=N',s₀:=s0,H₀:=H0,env:=compEnvC scope cells C X.env,outer:=X.stack,stack:=X.stack,ex:=fp,fn:=λx=>decide (scope.names.lookup x=some .cell),pn:=[],xe:=λ_ _=>False }
theorem vK{env:Env}:∀(names:List (Str×NameKind)) x,
  (names.map λ(n,k)=>if (k == NameKind.free&&env.scope.kind == .function&&env.kindOf n == some .cell) then (n,NameKind.cell) else (n,k)).lookup x =
   (names.lookup x).map λk=>if (k == NameKind.free&&env.scope.kind == .function&&env.kindOf x == some .cell) then NameKind.cell else k
 |[],x=>rfl
 |(n,k)::r,x=>by
  show List.lookup x ((if (k == NameKind.free&&env.scope.kind == .function&&env.kindOf n == some .cell)=true then (n,NameKind.cell) else (n,k))::_)=_;cases hx:x == n with
  |true=>
   have e:x=n:=by simpa using hx
   subst e;simp[Qzk,hx,Qdv];split<;>simp[Qzk]
  |false=>simp only[Qzk,hx];rw[<-vK r x];split<;>simp[Qzk,hx]
def aaF(names:List (Str×NameKind)):List Str->List Str->Bool
 |_,[]=>true|[],_::_=>false|x'::N',x::N=>((names.lookup x').isNone||(x' == x&&names.lookup x' == some .free))&&aaF names N' N
theorem PB:∀{N' N},aaF names N' N=true->∀i x,i<N.length->N'[i]?=some x->(names.lookup x).isSome=true->N[i]?=some x/\names.lookup x=some .free
 |_,[],_,i,x,h,_,_=>absurd h<|Qk6 _|[],_::_,h,_,_,_,_,_=>by cases h
 |x'::N',y::N,h,i,x,hi,e,hs=>by
  unfold aaF at h;cases i with
  |zero=>
   have e':x'=x:=by simpa using e
   subst e';rcases Bool.or_eq_true_iff.mp ((Qkx.mp h).1) with q|q;cases z:names.lookup x' with
   |none=>rw[z] at hs;cases hs|some k=>rw[z] at q;cases q
   have e1:x'=y:=by simpa using ((Qkx.mp q).1)
   have e2:names.lookup x'=some .free:=by simpa using ((Qkx.mp q).2)
   exact⟨by rw[e1];rfl,e2⟩
  |succ i=>exact PB ((Qkx.mp h).2) i x (by simpa using hi) (by simpa using e) hs
structure qP(X:Cx)(scope:Scope)(N':List Str):Prop where
 kind:scope.kind=.function
 nd:(scope.names.map (·.1)).Nodup
 free:∀x∈scope.names,x.2=.free->X.env.kindOf x.1=some .cell\/X.env.kindOf x.1=some .free
 chk:aaF scope.names N' X.N=true
 len:X.N.length<=N'.length
def PIf(X:Cx)(ifs:List Expr)(t:TT):Prop:=
 ∀(pins:List (Addr×Obj)) (s:Shared) (σ:St) (H:Hp) (Q:Bool->Hp->Prop),Inv X pins σ H s->t σ H Q->
  wpAny (model X.prog X.w) X.A (forIn ifs true λc r=>if r=true then do let ok <-isTrue c X.env (eval c X.env);pure (ForInStep.yield ok) else pure (ForInStep.yield r)) (TP X pins σ Q) X.xe s
def abX:PIf X [] (λ_ H Q=>Q true H):=λpins s σ H Q I h=>by
 rw[Qk3];exact Qq2 ⟨H,I,h⟩
def abW(h:PT X c t):PIf X [c] t:=λpins s σ H Q I hw=>by
 rw[Qvk,Qv4 rfl];refine Qqq<|Qqq<|gR (h pins s σ H Q I hw) λb s' q=>?_;refine Qq2 ?_;show wpAny _ _ (forIn [] b _) _ _ _;rw[Qk3];exact Qq2 q
def yL(n:Nat)(σ:St):St:=σ++List.replicate n none
def tLC(n:Nat)(wi:TI)(g:TG)(tc:TT)(te:TE):TE:=λσ H Q=>wi σ H λJ H1=>∀d,H1 d=none->∃W:Nat->Nat->St->Hp->Prop,(∃m,W 0 m (yL (n - σ.length) σ) (upd H1 d (.lst [])))/\∀i m σ' H',W i m σ' H'->
 (J.stop i H'/\Q (.ref d) H')\/(J.go i H'/\∃N:St->Hp->Prop,(∀σ2 H2,N σ2 H2->∃m',m'<m/\W (i+1) m' σ2 H2)/\∀x H2,J.yld i H' x H2->g x σ' H2 λσ3 H3=>tc σ3 H3 λb H4=>
  if b=true then te σ3 H4 λy H5=>∃ys,H5 d=some (.lst ys)/\ys.length<sizeLine/\N σ3 (upd H5 d (.lst (ys++[y]))) else N σ3 H4)
section
variable{prog:Program}{w:World}{A:Around}{R:Result->Shared->Prop}{s:Shared}
def Le(I:Nat->Shared->Prop)
  (turn:∀n s,I n s->wpAny (model prog w) A (pyNext it) (λr s₁=>match r with
   |none=>R (.ok .next) s₁
   |some v=>wpAny (model prog w) A (letOwnedTupleGo target it v) (λ_ s₁'=>wpAny (model prog w) A (assign target env v) (λ_ s₂=>
     wpAny (model prog w) A (forIn ifs true λc r=>if r=true then do let ok <-isTrue c env (eval c env);pure (ForInStep.yield ok) else pure (ForInStep.yield r)) (λok s₃=>
      if ok=true then wpAny (model prog w) A (eval elt env) (λx s₄=>
       wpAny (model prog w) A (call (.builtin "list.append") [acc,x]) (λ_ s₅=>∃m,m<n/\I m s₅) (λ_ _=>False) s₄) (λ_ _=>False) s₃
      else ∃m,m<n/\I m s₃) (λ_ _=>False) s₂) (λ_ _=>False) s₁') (λ_ _=>False) s₁) (λ_ _=>False) s)
  (n) (h:I n s) :
  codeAny (model prog w) A (.compLoop (.ListComp elt [⟨target,iter,ifs,0⟩] scope pos) 0 it acc env) R s:=by
 refine codeAny_loop rfl I (λn s hI=>?_) n h;show wpAny _ A ((compTurn (.ListComp elt [⟨target,iter,ifs,0⟩] scope pos) 0 it acc env).onRaise<|λx=>do noteFrame x env;theTreesLotGoes x) _ _ s;refine wpAny_noted ?_;rw[compTurn_list];refine Qqq<|Qgk<|Qqq<|Qj2 (turn n s hI) (λr s₁ h₁=>?_) λ_ _ h'=>h'.elim;cases r with
 |none=>exact Qq2 h₁
 |some v=>
  refine Qqq<|Qj2 h₁ (λ_ s₁' h₁'=>?_) λ_ _ h'=>h'.elim;refine Qqq<|Qj2 h₁' (λ_ s₂ h₂=>Qqq<|Qj2 h₂ (λok s₃ h₃=>?_) λ_ _ h'=>h'.elim) λ_ _ h'=>h'.elim;cases ok with
  |false=>exact Qq2 ⟨rfl,h₃⟩|true=>exact Qqq<|Qqq<|Qj2 h₃ (λx s₄ h₄=>Qqq<|Qj2 h₄ (λ_ s₅ h₅=>Qq2<|Qq2 ⟨rfl,h₅⟩) λ_ _ h'=>h'.elim) λ_ _ h'=>h'.elim
end
def Z8{σ:St}{fp:List Addr}(ok:qP X scope N')(I:Inv X pins σ H s)(hf:∀b∈fp,wK X pins H b)(hlt:∀b∈fp,b<s.heap.objs.size)
  (hn:h'.Ns s.heap.objs.size (λ_=>none)) (hk:∀b o,s.heap.get? b=some o->h'.get? b=some o) (co:CellsOk h' (s.heap.objs.size+1) (cellsFrom (s.heap.objs.size+1) scope.names [])) :
  Inv (cxC X scope N' (cellsFrom (s.heap.objs.size+1) scope.names (qX X.env scope.names [])) s.heap.objs.size s H fp) [] (yL (N'.length - σ.length) σ) H { s with heap:=h' }:=by
 have hfree:∀n,(n,NameKind.free)∈scope.names->∃c,X.env.cells.lookup n=some c:=λn hm=>I.ok.has n<|ok.free _ hm rfl
 -- the cells by name
 have uB:∀x c,(cellsFrom (s.heap.objs.size+1) scope.names<|qX X.env scope.names []).lookup x=some c->
   ((x,c)∈cellsFrom (s.heap.objs.size+1) scope.names []/\(cellsFrom (s.heap.objs.size+1) scope.names []).lookup x=some c)\/((cellsFrom (s.heap.objs.size+1) scope.names []).lookup x=none/\X.env.cells.lookup x=some c):=λx c e=>by
  rw[iW,um] at e;cases q:(cellsFrom (s.heap.objs.size+1) scope.names []).lookup x with
  |some d=>rw[q] at e;cases e;exact .inl ⟨lookup_mem _ _ _ q,rfl⟩|none=>rw[q] at e;exact .inr ⟨rfl,zK _ _ x c hfree (λy d h=>by simp at h) e⟩
 have Ft:=λx c h=>(co.empty x c h).2;have Y7:=λx c h=>let ⟨v,q⟩:=I.cell x c h;q.lt
 have Ky:∀x,(relabel scope X.env).names.lookup x=(scope.names.lookup x).map λk=>if (k == NameKind.free&&X.env.scope.kind == .function&&X.env.kindOf x == some .cell) then NameKind.cell else k:=λx=>vK _ _
 have OJ:∀x,(x,NameKind.cell)∈scope.names->∃c,(cellsFrom (s.heap.objs.size+1) scope.names []).lookup x=some c:=λx hx=>by
  have q:=Qb4 scope.names (s.heap.objs.size+1) []<|.inl<|lN _ _ _ ok.nd hx;exact Qz1.mp q
 have fpC:∀b∈fp,∀x c,(cellsFrom (s.heap.objs.size+1) scope.names<|qX X.env scope.names []).lookup x=some c->c≠b:=λb hb x c e=>by
  rcases uB x c e with ⟨h1,_⟩|⟨_,h2⟩
  .have h4:=hlt b hb;rintro rfl;exact absurd (Qwx h4<|Qv1 (Ft x c h1))<|Qz0 _
  .exact(hf b hb).2.2.2.2.1 x c h2
 refine⟨⟨I.ok.mod,ok.kind,I.ok.glob,I.ok.blt,Qq0 _,λx y c h1 h2=>?_,λx hx=>?_,λx c hx e=>?_,I.ok.hd,I.ok.frames,.inl rfl,λb hb=>⟨Qxq<|hlt b hb,λx c e=>fpC b hb x c e⟩,I.bs,Qq1 I.ok.bsz I.sz,λb o e hb=>?_,λb hb=>?_,I.stack,I.SQ⟩,
  rfl,I.bare,Un.kept hk,⟨_,hn,λi x v e1 e2 e3=>?_⟩,λx c e=>?_,I.hok.fresh<|Qq0 _,λx c e=>?_,λp hp=>absurd (show p∈[] from hp) (by simp),I.hok.kept hk,?_⟩
 .-- one name a cell
  rcases uB x c h1 with ⟨p1,_⟩|⟨_,p2⟩
  .rcases uB y c h2 with ⟨q1,_⟩|⟨_,q2⟩
   .exact name_of_addr co.apart p1 q1
   .exact absurd (Qwx (Y7 y c q2)<|Qv1<|Ft x c p1)<|Qz0 _
  .rcases uB y c h2 with ⟨q1,_⟩|⟨_,q2⟩
   .exact absurd (Qwx (Y7 x c p2)<|Qv1<|Ft y c q1)<|Qz0 _
   .exact I.ok.inj x y c p2 q2
 .-- each cell name has one
  show ∃c,(cellsFrom (s.heap.objs.size+1) scope.names<|qX X.env scope.names []).lookup x=some c;have hx:(relabel scope X.env).names.lookup x=some .cell\/(relabel scope X.env).names.lookup x=some .free:=hx;rw[Ky] at hx;cases q:scope.names.lookup x with
  |none=>rw[q] at hx;rcases hx with hx|hx<;>cases hx
  |some k=>
   rw[q] at hx;rw[iW,um];cases z:(cellsFrom (s.heap.objs.size+1) scope.names []).lookup x with
   |some d=>exact⟨d,rfl⟩
   |none=>
    have hkf:k=.free:=by
     cases k with
     |free=>rfl|cell=>obtain⟨c,hc⟩:=OJ x<|lookup_mem _ _ _ q;rw[hc] at z;cases z|_=>rcases hx with hx|hx<;>simp at hx
    subst hkf;exact Qz1.mp<|zJ _ _ x<|lookup_mem _ _ _ q
 .-- its own cells are new
  rcases uB x c e with ⟨p1,_⟩|⟨p1,_⟩
  .exact Qv1<|Ft x c p1
  .obtain⟨d,hd⟩:=OJ x<|lookup_mem _ _ _ (Qxy hx);rw[hd] at p1;cases p1
 .rcases(hf b hb).2.2.2.1 with z|z
  .exact I.ok.Zr b o e z
  .have h1:=Qq9 e;have h2:=I.ok.bsz;exact absurd (Qwx h1<|Qq1 h2 z)<|Qz0 _
 .intro hm;rcases Qq4.mp (I.QT b hm) with z|z
  .exact(hf b hb).2.1 z
  .exact(hf b hb).2.2.1 z
 .-- the names
  have hiσ:i<σ.length:=by
   by_cases hi:i<σ.length
   .exact hi
   .unfold yL at e2;rw[Qx6 (by omega),Qjk] at e2;split at e2<;>cases e2
  have e2':σ[i]?=some (some v):=by
   unfold yL at e2
   rwa [Qxj hiσ] at e2
  have vis:(scope.names.lookup x).isSome=true:=by
   have e3:(relabel scope X.env).names.lookup x=some .local\/(relabel scope X.env).names.lookup x=some .cell\/(relabel scope X.env).names.lookup x=some .free:=e3;rw[Ky] at e3;cases q:scope.names.lookup x with
   |none=>rw[q] at e3;rcases e3 with z|z|z<;>cases z
   |some k=>rfl
  obtain⟨hN,hfr⟩:=PB ok.chk i x (by rw[<-I.len];exact hiσ) e1 vis;have hm:=lookup_mem _ _ _ hfr;have hkk:=ok.free _ hm rfl;obtain⟨m,hns,hl⟩:=I.loc;obtain⟨u,ru,lk⟩:=hl i x v hN e2'<|hkk.elim (λz=>.inr<|.inl z) λz=>.inr<|.inr z;refine⟨u,ru,.inr ⟨?_,?_⟩⟩
  .show(relabel scope X.env).names.lookup x=some .cell\/(relabel scope X.env).names.lookup x=some .free;rw[Ky,hfr];by_cases hc:(NameKind.free == NameKind.free&&X.env.scope.kind == .function&&X.env.kindOf x == some .cell)=true
   .left;rw[Qdv,Qv4 hc]
   .right;rw[Qdv,Qv5 hc]
  .rcases lk with ⟨hl1,_⟩|⟨_,c,hc,hcell⟩
   .rcases hkk with z|z<;>(rw[z] at hl1;cases hl1)
   .refine⟨c,?_,hcell.keeps hk⟩;show(cellsFrom (s.heap.objs.size+1) scope.names<|qX X.env scope.names []).lookup x=some c;rw[iW,um];have hno:(cellsFrom (s.heap.objs.size+1) scope.names []).lookup x=none:=vL _ _ λd hd=>by
     have h1:=lN _ _ _ ok.nd<|rZ _ _ _ _ hd;rw[hfr] at h1;cases h1
    rw[hno];obtain⟨d,hd⟩:=Qz1.mp<|zJ scope.names [] x hm;have h2:=zK _ _ x d hfree (λy d h=>by simp at h) hd;rw[hc] at h2;show(qX X.env scope.names []).lookup x=some c;rw[hd,h2]
 .rcases uB x c e with ⟨p1,_⟩|⟨_,p2⟩
  .exact⟨_,(co.empty x c p1).1⟩
  .obtain⟨v,q⟩:=I.cell x c p2;exact⟨v,q.keeps hk⟩
 .rcases uB x c e with ⟨p1,_⟩|⟨p0,p2⟩
  .exact .inl<|I.hok.fresh<|Qv1<|Ft x c p1
  .rcases I.zx x c p2 with z|⟨_,z⟩
   .exact .inl z
   .refine .inr ⟨?_,z⟩;show decide (scope.names.lookup x=some .cell)=false;refine Qwy λq=>?_;obtain⟨d,hd⟩:=GQ q;rw[p0] at hd;cases hd
 .show(yL (N'.length - σ.length) σ).length=N'.length;unfold yL;rw[Qqv,Qz3];have h1:=ok.len;have h2:=I.len;omega
abbrev nW(X:Cx)(scope:Scope)(N':List Str)(X':Cx):Prop:=
 ∃(cells:List (Str×Addr)) (C:Addr) (s0:Shared) (H0:Hp) (fp:List Addr),X'=cxC X scope N' cells C s0 H0 fp
def Jy
  (ok:qP X scope N') (hc:X.calm=true)
  (bg:∀X',nW X scope N' X'->PG X' tg g) (bc:∀X',nW X scope N' X'->PIf X' ifs tc) (be:∀X',nW X scope N' X'->PE X' elt te)
  {σ:St} {Q:VK} (I2:Inv X pins σ H2 s2) (T:Turn X.prog X.w X.K tg J fp it tn) (st2:tn 0 s2.heap) (f2:∀b∈fp,wK X pins H2 b)
  (q:∀d,H2 d=none->∃W:Nat->Nat->St->Hp->Prop,(∃m,W 0 m (yL (N'.length - σ.length) σ) (upd H2 d (.lst [])))/\∀i m σ' H',W i m σ' H'->
   (J.stop i H'/\Q (.ref d) H')\/(J.go i H'/\∃N:St->Hp->Prop,(∀σ2 H2,N σ2 H2->∃m',m'<m/\W (i+1) m' σ2 H2)/\∀x H2,J.yld i H' x H2->g x σ' H2 λσ3 H3=>tc σ3 H3 λb H4=>
    if b=true then te σ3 H4 λy H5=>∃ys,H5 d=some (.lst ys)/\ys.length<sizeLine/\N σ3 (upd H5 d (.lst (ys++[y]))) else N σ3 H4))
  (fin:∀d C m s' H',Inv X pins σ H' s'->Q (.ref d) H'->s'.heap.Ns C m->H' C=none->C≠X.env.locals->X.s₀.heap.objs.size<=C->(∀x c,X.env.cells.lookup x=some c->c≠C)->(∀p∈X.pn++pins,p.1≠C)->
   compPost (model X.prog X.w) X.A X.xe use QQ (.ref d) C (.ok .next) s') :
  wpAny (model X.prog X.w) X.A (newList []) (λacc s₃=>wpAny (model X.prog X.w) X.A (newFunctionEnv scope X.env.globals (qX X.env scope.names []) [] X.env.qual none .none (some X.env)) (λcenv s₄=>
   codeAny (model X.prog X.w) X.A (.compStart (.ListComp elt [⟨tg,iter,ifs,0⟩] scope pos) 0 (.ref it) acc { cenv with scope:=relabel scope X.env }) (compPost (model X.prog X.w) X.A X.xe use QQ acc cenv.locals) s₄) X.xe s₃) X.xe s2:=by
 refine Qkk<|Oa λh' hns hkeep hco=>?_
 -- the state behind the list
 obtain⟨W,⟨m0,w0⟩,turn⟩:=q s2.heap.objs.size I2.fresh;have I3:Inv X pins σ (upd H2 s2.heap.objs.size<|.lst []) { s2 with heap:=s2.heap.push { cls:=.type "list",data:=.seq [].toArray } }:=I2.aiQ .nil<|Qxz _;have TX:∀b∈fp,b<s2.heap.objs.size:=λb hb=>by
  obtain⟨o,e,_⟩:=T.obj _ _ st2 b hb;exact Qq9 e
 have f3:∀b∈fp,wK X pins (upd H2 s2.heap.objs.size<|.lst []) b:=λb hb=>by
  refine⟨?_,(f2 b hb).2⟩;rw[cj (Qxq<|TX b hb)];exact(f2 b hb).1
 have lt3:∀b∈fp,b<{ s2 with heap:=s2.heap.push { cls:=.type "list",data:=.seq [].toArray } }.heap.objs.size:=λb hb=>by
  show b<(s2.heap.push _).objs.size;rw[Qx5];exact Qv0<|TX b hb
 have st3:=T.keep _ _ _ st2 λb hb o e=>hkeep b o<|Qqz _ e;have I4:=Z8 ok I3 f3 lt3 hns hkeep hco;generalize hs3:{ s2 with heap:=s2.heap.push { cls:=.type "list",data:=.seq [].toArray } }=s3 at *;have sz3:s3.heap.objs.size=s2.heap.objs.size+1:=by rw[<-hs3];exact Qx5 ..
 generalize hX':cxC X scope N' (cellsFrom (s3.heap.objs.size+1) scope.names<|qX X.env scope.names []) s3.heap.objs.size s3 (upd H2 s2.heap.objs.size<|.lst []) fp=X' at I4;have at':nW X scope N' X':=⟨_,_,_,_,_,hX'.symm⟩;have eP:X'.prog=X.prog:=by rw[<-hX'];rfl
 have eW:X'.w=X.w:=by rw[<-hX'];rfl
 have eK:X'.K=X.K:=by rw[<-hX'];rfl
 have eA:X'.A=X.A:=by rw[<-hX'];rfl
 have eC:X'.calm=true:=by rw[<-hX'];exact hc
 have eX:X'.xe=λ_ _=>False:=by rw[<-hX'];rfl
 have ePn:X'.pn=[]:=by rw[<-hX'];rfl
 have eEx:X'.ex=fp:=by rw[<-hX'];rfl
 have eL:X'.env.locals=s3.heap.objs.size:=by rw[<-hX'];rfl
 have eFs:X'.fs=frs X.stack:=by rw[<-hX'];rfl
 have alb:compEnvC scope (cellsFrom (s3.heap.objs.size+1) scope.names<|qX X.env scope.names []) s3.heap.objs.size X.env=X'.env:=by rw[<-hX'];rfl
 have eS0:X'.s₀=s3:=by rw[<-hX'];rfl
 have eH0:X'.H₀=upd H2 s2.heap.objs.size (.lst []):=by rw[<-hX'];rfl
 -- what is true of the iterator's objects in the block
 have stat:∀{H'},(∀b∈fp,H' b=none)->∀b∈fp,wK X' [] H' b:=λ{H'} hn b hb=>by
  refine⟨hn b hb,?_,?_,.inl (by rw[eEx];exact hb),λx c e=>?_,λp hp=>?_⟩
  .rw[eL];exact Qxq<|lt3 b hb
  .have:=I4.ok.aaq b (by rw[eEx];exact hb);exact this
  .exact(I4.ok.exf b (by rw[eEx];exact hb)).2 x c e
  .rw[ePn] at hp;exact absurd hp (by simp)
 -- the outer context again
 have back:∀σ' H' s',Inv X' [] σ' H' s'->Inv X pins σ H' s':=λσ' H' s' J'=>by
  have hb:=J'.base;rw[eFs,eEx,eS0,eH0] at hb;have hos:=J'.os;rw[eS0] at hos;have hok:=J'.hok;rw[eP,eW] at hok;exact I3.call' hos hb hok J'.bare λb hbm=>⟨(f3 b hbm).2.2.2.1,(f3 b hbm).2.1,(f3 b hbm).2.2.2.2.1,(f3 b hbm).2.2.2.2.2⟩
 have loop:∀s4,s4={ s3 with heap:=h' }->codeAny (model X.prog X.w) X.A (.compLoop (.ListComp elt [⟨tg,iter,ifs,0⟩] scope pos) 0 (.ref it) (.ref s2.heap.objs.size) X'.env) (compPost (model X.prog X.w) X.A X.xe use QQ (.ref s2.heap.objs.size) s3.heap.objs.size) s4:=by
  rintro s4 rfl;refine Le (λn s'=>∃i σ' H',Inv X' [] σ' H' s'/\tn i s'.heap/\(∀b∈fp,H' b=none)/\W i n σ' H') ?_ m0 ⟨0,_,_,I4,st3,λb hb=>(f3 b hb).1,w0⟩;rintro n s5 ⟨i,σ5,H5,I5,st5,fr5,w5⟩;rcases turn i n σ5 H5 w5 with ⟨stop,qn⟩|⟨go,N,hN,step⟩
  .have td:=T.done X' eP eW eK eC i [] s5 σ5 H5 (λ_ _=>False) I5 (stat fr5) st5 stop;rw[eA] at td;refine gR td λr s6 ⟨hr,I6⟩=>?_;subst hr;obtain⟨mC,hnC,_⟩:=id I6.loc;rw[eL] at hnC;have lc:X.env.locals<s3.heap.objs.size:=by
    have:=I3.lt;exact this
   refine fin _ _ mC s6 H5 (back _ _ _ I6) qn hnC ?_ (Qz7 lc) I3.sz (λx c e=>?_)<|λp hp=>?_
   .have:=I6.free;rw[eL] at this;exact this
   .obtain⟨v,z⟩:=I3.cell x c e;exact Qxq z.lt
   .exact Qxq<|Qq9 (I3.pin p hp).1
  .have ti:=T.item X' eP eW eK eC i [] s5 σ5 H5 (λ_ _=>False) I5 (stat fr5) st5 go;rw[eA] at ti;refine gR ti λr s6 ⟨u,hr,h6⟩=>?_;subst hr;refine gR h6 λ_ s7 ⟨x,H7,I7,r7,y7,st7,fr7⟩=>?_;have hg':=(bg X' at') _ s7 σ5 H7 x u _ (I7.pinned (stat fr7)<|T.obj _ _ st7) r7<|step x H7 y7;rw[eP,eW,eA,eX] at hg';refine gR hg' λ_ s8 ⟨σ8,H8,I8,q8⟩=>?_;have ai9:=(bc X' at') _ s8 σ8 H8 _ I8 q8;rw[eP,eW,eA,eX] at ai9;refine gR ai9 λb s9 ⟨H9,I9,q9⟩=>?_;have again:∀{σz} {Hz} {sz},Inv X' ([]++Fl fp s7.heap) σz Hz sz->N σz Hz->∃m,m<n/\∃i σ' H',Inv X' [] σ' H' sz/\tn i sz.heap/\(∀b∈fp,H' b=none)/\W i m σ' H':=λ{σz Hz sz} Iz nz=>by
    obtain⟨m',hm,wz⟩:=hN σz Hz nz;refine⟨m',hm,i+1,σz,Hz,Iz.yo,T.keep _ _ _ st7 λb hb o e=>(Iz.pin (b,o)<|Qxw _<|Qxw _<|uh hb e).1,λb hb=>?_,wz⟩;obtain⟨o,e,d⟩:=T.obj _ _ st7 b hb;exact(Iz.pin (b,o)<|Qxw _<|Qxw _<|uh hb e).2.1
   cases b with
   |false=>rw[Qv5 Qw2] at q9 ⊢;exact again I9 q9|true=>rw[Qv4 rfl] at q9 ⊢;have he':=(be X' at') _ s9 σ8 H9 _ I9 q9;rw[eP,eW,eA,eX] at he';refine gR he' λy sa ⟨yv,Ha,Ia,ra,ys,hys,hlen,qa⟩=>?_;have ap:=Jk _ sa σ8 Ha (.ref s2.heap.objs.size) [yv] (.ref s2.heap.objs.size) [y] (λv H'=>v=.non/\N σ8 H') Ia rfl (.cons ra .nil) ⟨_,ys,yv,rfl,rfl,hys,hlen,rfl,qa⟩;rw[eP,eW,eA,eX] at ap;refine gR ap λ_ sb ⟨vb,Hb,Ib,rb,_,nb⟩=>?_;exact again Ib nb
 show codeAny _ _ (.compStart _ 0 (.ref it) (.ref s2.heap.objs.size)<|compEnvC scope (cellsFrom (s3.heap.objs.size+1) scope.names<|qX X.env scope.names []) s3.heap.objs.size X.env) (compPost (model X.prog X.w) X.A X.xe use QQ (.ref s2.heap.objs.size) s3.heap.objs.size) _;rw[alb];exact codeAny_compStart_list (loop _ rfl)<|T.self X.A 0 _ _ _ st3<|loop _ rfl
def air
  (ok:qP X scope N') (hc:X.calm=true) (hi:PI X tg iter wi)
  (bg:∀X',nW X scope N' X'->PG X' tg g) (bc:∀X',nW X scope N' X'->PIf X' ifs tc) (be:∀X',nW X scope N' X'->PE X' elt te)
  (hs:∀x,foldedSetIterable iter X.env x=pure x:=by intro _;rfl) :
  PE X (.ListComp elt [⟨tg,iter,ifs,0⟩] scope pos) (tLC N'.length wi g tc te):=by
 intro pins s σ H Q I h;rw[eval_ListComp];have hfree:∀n,(n,NameKind.free)∈scope.names->∃c,X.env.cells.lookup n=some c:=λn hm=>I.ok.has n<|ok.free _ hm rfl;refine wpAny_comprehension_free (use:=none) rfl hs (GP hfree) ok.kind (λx hx hl=>lN _ _ _ ok.nd (by rw[<-hl];exact hx)) ?_;refine gR (hi pins s σ H _ I h) λv s1 h1=>gR h1 λitv s2 h2=>?_;obtain⟨it,fp,tn,J,H2,e,I2,T,st2,f2,q⟩:=h2;subst e;refine Jy ok hc bg bc be I2 T st2 f2 q λd C m s' H' I' hq hn hC hL h0 hcell hpin=>?_;refine⟨m,hn,λh' hs'=>?_⟩;have I'':Inv X pins σ H' { s' with heap:=h',toks:=s'.toks }:=I'.turned (it:=C) (λb o hb e=>(hs'.2 b hb).trans e) hC hL (.inr h0) hcell hpin;exact⟨.ref d,H',I'',rfl,hq⟩
def YB{pos spos py:Pos}
  (ok:qP X scope N') (hc:X.calm=true) (hi:PI X tg iter wi)
  (bg:∀X',nW X scope N' X'->PG X' tg g) (bc:∀X',nW X scope N' X'->PIf X' ifs tc) (be:∀X',nW X scope N' X'->PE X' elt te)
  (hN:X.N.Nodup) (hy:X.N[i]? = some y) (hx:Loc X.env.scope y)
  (hsw:swapsWith (.ListComp elt [⟨tg,iter,ifs,0⟩] scope pos) (some (.Name y py)) spos.line X.env=pure true)
  (hf:X.fn y=true\/X.env.scope.names.lookup y=some .local:=by first|exact .inl rfl|exact .inr rfl|assumption)
  (hs:∀x,foldedSetIterable iter X.env x=pure x:=by intro _;rfl) :
  PS X (.Assign [.Name y py] (.ListComp elt [⟨tg,iter,ifs,0⟩] scope pos) spos) (abp (tLC N'.length wi g tc te) (O3 i)):=by
 intro pins s σ H D I h;rw[exec_Assign_Name_used _ _ _ _ hsw];refine Qqq<|Qgk<|Qqq ?_;have hfree:∀n,(n,NameKind.free)∈scope.names->∃c,X.env.cells.lookup n=some c:=λn hm=>I.ok.has n<|ok.free _ hm rfl;show wpAny _ X.A (do let _ <-comprehension (.ListComp elt [⟨tg,iter,ifs,0⟩] scope pos) scope X.env _ (newList []) false (eval iter X.env) (some<|assign (.Name y py) X.env)) _ _ s;refine Qqq<|Qj2 (wpAny_comprehension_free rfl hs (GP hfree) ok.kind (λx hx hl=>lN _ _ _ ok.nd (by rw[<-hl];exact hx)) ?_) (λ_ s' hq=>Qq2<|Qq2 hq) λ_ _ e=>e;refine gR (hi pins s σ H _ I h) λv s1 h1=>gR h1 λitv s2 h2=>?_;obtain⟨it,fp,tn,J,H2,e,I2,T,st2,f2,q⟩:=h2;subst e;refine Jy (Q:=λx H1=>O3 i x σ H1 D.nx) ok hc bg bc be I2 T st2 f2 q λd C m s' H' I' hq hn hC hL h0 hcell hpin=>?_;refine wpAny_assign_Name<|Ip (v:=.ref d) I' hN hy hx rfl (λs'' I'' sb=>?_) hf;obtain⟨a,hsb,ha⟩:=sb;have haC:C≠a:=by
  rcases ha with z|z;rw[z];exact hL;exact(hcell y a z).symm
 refine⟨m,hn.sameBut hsb haC,λh' hs'=>?_⟩;have I3:Inv X pins (σ.set i<|some<|.ref d) H' { s'' with heap:=h',toks:=s''.toks }:=I''.turned (λb o hb e=>(hs'.2 b hb).trans e) hC hL (.inr h0) hcell hpin;exact⟨_,H',I3,hq⟩
end L2
namespace Ev
open PySem PySem.Spec PyProof.Rows L2
inductive D where
 |non|bl (b:Bool)|int (i:Int)|str (x:List Nat)|tup (xs:List D)|lst (xs:List D)|arr (xs:List D)|dct (kvs:List (D×D))|iY (kvs:List (D×D))|clo (st:Stmt) (ds:List D)
 deriving Inhabited
abbrev Fg:=PySem.W.Frag
def strOf(x:List Nat):Str:=⟨x.toArray⟩
def pP:D->Option Key
 |.int i=>some (.inl i)|.str x=>some (.inr (strOf x))|_=>none
mutual
def uW:D->Option NK
 |.int i=>some (.num i)|.bl b=>some (.num (if b then 1 else 0))|.str x=>some (.txt (strOf x))|.tup xs=>(uV xs).map .tup|_=>none
def uV:List D->Option (List NK)
 |[]=>some []
 |d::ds=>match uW d,uV ds with
  |some k,some ks=>some (k::ks)|_,_=>none
end
def defName(s:Stmt):Str:=match s with
 |.FunctionDef n _ _ _ _ _ _ _ _ _=>n|_=>""
def freeOf(s:Stmt):List Str:=(((aV s).names.filter (·.2 == .free)).map (·.1)).reverse
def ahn(F:Hp)(c:Addr)(v:V):Prop:=∃(o:Obj) (u:HO) (w:Value),F c=some (.O5 o u)/\o.data=.cell (some w)/\RelV v w
def DQ(F:Hp):List (Str×Addr)->List V->Prop
 |[],vs=>vs=[]|(_,c)::r,vs=>∃v vs',vs=v::vs'/\ahn F c v/\DQ F r vs'
def ahm(F:Hp)(c:Addr)(q:Str):Prop:=∃(o:Obj) (u:HO) (vs:Array Value) (t:Tok),F c=some (.O5 o u)/\o.data=.fields vs/\vs[1]?=some (.str q t)
def Clo(F:Hp)(st:Stmt)(a:Addr)(vs:List V):Prop:=∃(u:HO) (q:Str) (cl:List (Str×Addr)) (doc pm ctv:Value) (c:Addr),
 F a=some (.O5 (PySem.W.fnMade (defName st) q (nQ st) (iz st) (aV st) cl doc pm c ctv) u)/\ahm F c q/\cl.map (·.1)=freeOf st/\(cl.map (·.2)).Nodup/\DQ F cl vs
def bu.cells(e:bu F F'):∀{cl} {vs},DQ F cl vs->DQ F' cl vs
 |[],_,h=>h|(_,c)::r,_,⟨v,vs',h0,⟨o,u,w,h1,h2⟩,h3⟩=>⟨v,vs',h0,⟨o,u,w,e _ _ h1,h2⟩,bu.cells e h3⟩
def bu.clo{st:Stmt}(e:bu F F')(h:Clo F st a vs):Clo F' st a vs:=by obtain⟨u,q,cl,doc,pm,ctv,c,h1,⟨o,u2,ws,t,h2,h3⟩,h4,h5,h6⟩:=h;exact⟨u,q,cl,doc,pm,ctv,c,e _ _ h1,⟨o,u2,ws,t,e _ _ h2,h3⟩,h4,h5,bu.cells e h6⟩
mutual
def Rep(K:Fg)(F:Hp):D->V->Prop
 |.non,v=>v=.non|.bl b,v=>v=.bl b|.int i,v=>v=.int i|.str x,v=>v=.str (strOf x)/\x.length<=sizeLine|.tup xs,v=>xs.length<=sizeLine/\∃a vs,v=.ref a/\pg K F a vs/\cN K F xs vs|.lst xs,v=>xs.length<=sizeLine/\∃a vs,v=.ref a/\F a=some (.lst vs)/\cN K F xs vs|.arr xs,v=>xs.length<=sizeLine/\∃a vs,v=.ref a/\lK K F a vs/\cN K F xs vs|.dct kvs,v=>kvs.length<=sizeLine/\∃a ks,v=.ref a/\Rd F a (.dK ks)/\fQ K F kvs ks|.iY kvs,v=>kvs.length<=sizeLine/\∃a ks,v=.ref a/\Rd F a (.dN ks)/\eU K F kvs ks|.clo st ds,v=>∃a vs,v=.ref a/\Clo F st a vs/\cN K F ds vs
def cN(K:Fg)(F:Hp):List D->List V->Prop
 |[],vs=>vs=[]|d::ds,vs=>∃v r,vs=v::r/\Rep K F d v/\cN K F ds r
def fQ(K:Fg)(F:Hp):List (D×D)->List (Key×V)->Prop
 |[],vs=>vs=[]|(k,d)::ds,vs=>∃q v r,vs=(q,v)::r/\pP k=some q/\Rep K F d v/\fQ K F ds r
def eU(K:Fg)(F:Hp):List (D×D)->List (NK×V×V)->Prop
 |[],vs=>vs=[]|(k,d)::ds,vs=>∃q u v r,vs=(q,u,v)::r/\uW k=some q/\q.dep<=8/\Rep K F k u/\Rep K F d v/\eU K F ds r
end
def bu.rd(e:bu F F')(h:Rd F a u):Rd F' a u:=by
 rcases h with h|⟨o,h⟩;exact .inl<|e _ _ h;exact .inr ⟨o,e _ _ h⟩
def bu.tupK{K:Fg}(e:bu F F')(h:pg K F a xs):pg K F' a xs:=by
 rcases h with h|h;exact .inl<|bu.rd e h;exact .inr h
mutual
theorem Rep.mono{K:Fg}{F F':Hp}(e:bu F F'):∀(d:D) (v:V),Rep K F d v->Rep K F' d v
 |.non,_,h=>h|.bl _,_,h=>h|.int _,_,h=>h|.str _,_,h=>h
 |.tup xs,v,h=>by
  obtain⟨z,a,vs,rfl,h1,h2⟩:=h;exact⟨z,a,vs,rfl,bu.tupK e h1,cN.mono e xs vs h2⟩
 |.lst xs,v,h=>by
  obtain⟨z,a,vs,rfl,h1,h2⟩:=h;exact⟨z,a,vs,rfl,e _ _ h1,cN.mono e xs vs h2⟩
 |.arr xs,v,h=>by
  obtain⟨z,a,vs,rfl,h1,h2⟩:=h;exact⟨z,a,vs,rfl,e.seq h1,cN.mono e xs vs h2⟩
 |.dct kvs,v,h=>by
  obtain⟨z,a,ks,rfl,h1,h2⟩:=h;exact⟨z,a,ks,rfl,bu.rd e h1,fQ.mono e kvs ks h2⟩
 |.iY kvs,v,h=>by
  obtain⟨z,a,ks,rfl,h1,h2⟩:=h;exact⟨z,a,ks,rfl,bu.rd e h1,eU.mono e kvs ks h2⟩
 |.clo st ds,v,h=>by
  obtain⟨a,vs,rfl,h1,h2⟩:=h;exact⟨a,vs,rfl,bu.clo e h1,cN.mono e ds vs h2⟩
theorem cN.mono{K:Fg}{F F':Hp}(e:bu F F'):∀(ds:List D) (vs:List V),cN K F ds vs->cN K F' ds vs
 |[],_,h=>h
 |d::ds,vs,h=>by
  obtain⟨v,r,rfl,h1,h2⟩:=h;exact⟨v,r,rfl,Rep.mono e d v h1,cN.mono e ds r h2⟩
theorem fQ.mono{K:Fg}{F F':Hp}(e:bu F F'):∀(ds:List (D×D)) (vs:List (Key×V)),fQ K F ds vs->fQ K F' ds vs
 |[],_,h=>h
 |(k,d)::ds,vs,h=>by
  obtain⟨q,v,r,rfl,h0,h1,h2⟩:=h;exact⟨q,v,r,rfl,h0,Rep.mono e d v h1,fQ.mono e ds r h2⟩
theorem eU.mono{K:Fg}{F F':Hp}(e:bu F F'):∀(ds:List (D×D)) (vs:List (NK×V×V)),eU K F ds vs->eU K F' ds vs
 |[],_,h=>h
 |(k,d)::ds,vs,h=>by
  obtain⟨q,u,v,r,rfl,h0,h3,h4,h1,h2⟩:=h;exact⟨q,u,v,r,rfl,h0,h3,Rep.mono e k u h4,Rep.mono e d v h1,eU.mono e ds r h2⟩
end
def cN.length{K:Fg}:∀{ds} {vs},cN K F ds vs->vs.length=ds.length
 |[],_,h=>by cases h;rfl
 |d::ds,vs,h=>by
  obtain⟨v,r,rfl,_,h2⟩:=h;rw[Qqy,Qqy,h2.length]
def cN.get{K:Fg}:∀{ds} {vs} {i:Nat} {d},cN K F ds vs->ds[i]?=some d->∃v,vs[i]?=some v/\Rep K F d v
 |[],_,_,_,_,e=>by simp at e
 |c::ds,vs,i,d,h,e=>by
  obtain⟨v,r,rfl,h1,h2⟩:=h;cases i with
  |zero=>simp at e;subst e;exact⟨v,rfl,h1⟩|succ i=>obtain⟨u,e1,e2⟩:=cN.get h2 (by simpa using e);exact⟨u,by simpa using e1,e2⟩
def cN.append{K:Fg}:∀{ds es} {vs ws},cN K F ds vs->cN K F es ws->cN K F (ds++es) (vs++ws)
 |[],es,vs,ws,h,g=>by cases h;exact g
 |d::ds,es,vs,ws,h,g=>by
  obtain⟨v,r,rfl,h1,h2⟩:=h;exact⟨v,r++ws,rfl,h1,cN.append h2 g⟩
def cN.drop{K:Fg}:∀n {ds} {vs},cN K F ds vs->cN K F (ds.drop n) (vs.drop n)
 |0,_,_,h=>h|_+1,[],_,h=>by cases h;exact rfl
 |n+1,d::ds,vs,h=>by
  obtain⟨v,r,rfl,_,h2⟩:=h;exact cN.drop n h2
def cN.take{K:Fg}:∀n {ds} {vs},cN K F ds vs->cN K F (ds.take n) (vs.take n)
 |0,_,_,_=>rfl|_+1,[],_,h=>by cases h;exact rfl
 |n+1,d::ds,vs,h=>by
  obtain⟨v,r,rfl,h1,h2⟩:=h;exact⟨v,r.take n,rfl,h1,cN.take n h2⟩
def cN.set{K:Fg}(hd:Rep K F d v):∀i {ds} {vs},cN K F ds vs->cN K F (ds.set i d) (vs.set i v)
 |_,[],_,h=>by cases h;exact rfl
 |0,c::ds,vs,h=>by
  obtain⟨u,r,rfl,_,h2⟩:=h;exact⟨v,r,rfl,hd,h2⟩
 |i+1,c::ds,vs,h=>by
  obtain⟨u,r,rfl,h1,h2⟩:=h;exact⟨u,r.set i v,rfl,h1,cN.set hd i h2⟩
def cN.one{K:Fg}(h:Rep K F d v):cN K F [d] [v]:=⟨v,[],rfl,h,rfl⟩
abbrev Env:=List (Option (Bool×D))
inductive R (α:Type) where
 |ok (a:α) (env:Env)|stuck
abbrev Ev:=Env->R D
abbrev iC:=Env->R Bool
abbrev eZ:=Env->R (List D)
structure Cfg where
 K:Fg
 fx:Nat->Option Addr
def pG(K:Fg)(F H:Hp):D->Addr->Prop
 |.lst xs,a=>xs.length<=sizeLine/\∃vs,H a=some (.lst vs)/\cN K F xs vs|.dct kvs,a=>kvs.length<=sizeLine/\∃ks,H a=some (.dK ks)/\fQ K F kvs ks|.iY kvs,a=>kvs.length<=sizeLine/\∃ks,H a=some (.dN ks)/\eU K F kvs ks|_,_=>False
def pG.mono{K:Fg}(e:bu F F')(k:H' a=H a)(h:pG K F H d a):pG K F' H' d a:=by
 cases d with
 |lst xs=>obtain⟨z,vs,h1,h2⟩:=h;exact⟨z,vs,k.trans h1,cN.mono e _ _ h2⟩|dct kvs=>obtain⟨z,ks,h1,h2⟩:=h;exact⟨z,ks,k.trans h1,fQ.mono e _ _ h2⟩|iY kvs=>obtain⟨z,ks,h1,h2⟩:=h;exact⟨z,ks,k.trans h1,eU.mono e _ _ h2⟩|_=>exact h
theorem pG.some{K:Fg}(h:pG K F H d a):∃o,H a=some o:=by
 cases d with
 |lst xs=>obtain⟨z,vs,h1,h2⟩:=h;exact⟨_,h1⟩|dct kvs=>obtain⟨z,ks,h1,h2⟩:=h;exact⟨_,h1⟩|iY kvs=>obtain⟨z,ks,h1,h2⟩:=h;exact⟨_,h1⟩|_=>exact h.elim
def jt(K:Fg)(F H:Hp)(d:D)(v:V):Prop:=Rep K F d v\/∃a,v=.ref a/\pG K F H d a
def jt.rep{K:Fg}(s:bu F H)(h:jt K F H d v):Rep K H d v:=by
 rcases h with h|⟨a,rfl,h⟩;exact Rep.mono s d v h;cases d with
 |lst xs=>obtain⟨z,vs,h1,h2⟩:=h;exact⟨z,a,vs,rfl,h1,cN.mono s _ _ h2⟩|dct kvs=>obtain⟨z,ks,h1,h2⟩:=h;exact⟨z,a,ks,rfl,.inl h1,fQ.mono s _ _ h2⟩|iY kvs=>obtain⟨z,ks,h1,h2⟩:=h;exact⟨z,a,ks,rfl,.inl h1,eU.mono s _ _ h2⟩|_=>exact h.elim
def jt.lst{K:Fg}(s:bu F H)(h:jt K F H (.lst xs) v):xs.length<=sizeLine/\∃a vs,v = .ref a/\H a=some (.lst vs)/\cN K F xs vs:=by
 rcases h with ⟨z,a,vs,rfl,h1,h2⟩|⟨a,rfl,z,vs,h1,h2⟩;exact⟨z,a,vs,rfl,s _ _ h1,h2⟩;exact⟨z,a,vs,rfl,h1,h2⟩
def jt.arr{K:Fg}(s:bu F H)(h:jt K F H (.arr xs) v):xs.length<=sizeLine/\∃a vs,v=.ref a/\lK K H a vs/\cN K F xs vs:=by
 rcases h with ⟨z,a,vs,rfl,h1,h2⟩|⟨a,rfl,h⟩;exact⟨z,a,vs,rfl,s.seq h1,h2⟩;exact h.elim
def jt.tup{K:Fg}(s:bu F H)(h:jt K F H (.tup xs) v):xs.length<=sizeLine/\∃a vs,v=.ref a/\pg K H a vs/\pg K F a vs/\cN K F xs vs:=by
 rcases h with ⟨z,a,vs,rfl,h1,h2⟩|⟨a,rfl,h⟩;exact⟨z,a,vs,rfl,bu.tupK s h1,h1,h2⟩;exact h.elim
def jt.int{K:Fg}(h:jt K F H (.int i) v):v=.int i:=by
 rcases h with h|⟨a,rfl,h⟩;exact h;exact h.elim
def jt.bl{K:Fg}(h:jt K F H (.bl i) v):v=.bl i:=by
 rcases h with h|⟨a,rfl,h⟩;exact h;exact h.elim
def jt.non{K:Fg}(h:jt K F H .non v):v=.non:=by
 rcases h with h|⟨a,rfl,h⟩;exact h;exact h.elim
def jt.str{K:Fg}(h:jt K F H (.str x) v):v=.str (strOf x)/\x.length<=sizeLine:=by
 rcases h with h|⟨a,rfl,h⟩;exact h;exact h.elim
structure Rel(C:Cfg)(Pr F:Hp)(env:Env)(σ:L2.St)(H:Hp):Prop where
 pr:bu Pr H
 fr:bu F H
 len:env.length=σ.length
 val:∀(i:Nat) (d:D),env[i]?=some (some (false,d))->∃v,σ[i]?=some (some v)/\Rep C.K F d v
 own:∀(i:Nat) (d:D),env[i]?=some (some (true,d))->∃a,σ[i]?=some (some (V.ref a))/\pG C.K F H d a/\F a=none/\Pr a=none
 apart:∀(i j:Nat) (d e:D) (a:Addr),env[i]?=some (some (true,d))->env[j]?=some (some (true,e))->σ[i]?=some (some (V.ref a))->σ[j]?=some (some (V.ref a))->i=j
 dj:∀b o,F b=some o->Pr b=none
 fix:∀i a,C.fx i=some a->σ[i]?=some (some (V.ref a))
def N7(h:upd H a o b=none):H b=none:=by
 by_cases hb:b=a;subst hb;rw[bA] at h;cases h;rw[cj hb] at h;exact h
def qe(h:H a=none):bu H (upd H a o):=λb u e=>by
 rw[cj (gw e h)];exact e
def Rel.new(r:Rel C Pr F env σ H)(h:H a=none):Rel C Pr (upd F a o) env σ (upd H a o)/\bu F (upd F a o):=by
 have s1:bu F (upd F a o):=qe (r.fr.free h);refine⟨⟨r.pr.trans<|qe h,λb u e=>?_,r.len,λi d e1=>?_,λi d e1=>?_,r.apart,λb u e=>?_,r.fix⟩,s1⟩;by_cases hb:b=a;subst hb;rw[bA] at e ⊢;exact e;rw[cj hb] at e ⊢;exact r.fr b u e;obtain⟨v,h1,h2⟩:=r.val i d e1;exact⟨v,h1,Rep.mono s1 d v h2⟩;obtain⟨b,h1,h2,h3,h4⟩:=r.own i d e1;obtain⟨u,hu⟩:=h2.some;have hb:=gw hu h;exact⟨b,h1,h2.mono s1<|cj hb,by rw[cj hb];exact h3,h4⟩;by_cases hb:b=a;subst hb;exact r.pr.free h;rw[cj hb] at e;exact r.dj b u e
def Rel.fresh(r:Rel C Pr F env σ H)(h:H a=none):Rel C Pr F env σ (upd H a o):=by refine⟨r.pr.trans<|qe h,r.fr.trans<|qe h,r.len,r.val,λi d e1=>?_,r.apart,r.dj,r.fix⟩;obtain⟨b,h1,h2,h3,h4⟩:=r.own i d e1;obtain⟨u,hu⟩:=h2.some;exact⟨b,h1,h2.mono (bu.refl F)<|cj (gw hu h),h3,h4⟩
def Rel.aside(r:Rel C Pr F env σ H)(h:H a=none):Rel C (upd Pr a o) F env σ (upd H a o):=by
 have r':=r.fresh (o:=o) h;refine⟨λb u e=>?_,r'.fr,r.len,r.val,λi d e1=>?_,r.apart,λb u e=>?_,r.fix⟩;by_cases hb:b=a;subst hb;rw[bA] at e ⊢;exact e;rw[cj hb] at e ⊢;exact r.pr b u e;obtain⟨b,h1,h2,h3,h4⟩:=r'.own i d e1;obtain⟨b',h1',h2',_⟩:=r.own i d e1;rw[h1] at h1';cases h1';obtain⟨u,hu⟩:=h2'.some;have hb:=gw hu h;exact⟨b,h1,h2,h3,by rw[cj hb];exact h4⟩;have hb:b≠a:=λz=>by rw[z,(r.fr.free h)] at e;cases e
 rw[cj hb];exact r.dj b u e
def Rel.turn(r:Rel C Pr F env σ H)(h:Pr a=some o):Rel C (upd Pr a u) F env σ (upd H a u):=by
 have hF:F a=none:=by
  cases e:F a with
  |none=>rfl|some w=>have:=r.dj a w e;rw[h] at this;cases this
 refine⟨λb w e=>?_,λb w e=>?_,r.len,r.val,λi d e1=>?_,r.apart,λb w e=>?_,r.fix⟩;by_cases hb:b=a;subst hb;rw[bA] at e ⊢;exact e;rw[cj hb] at e ⊢;exact r.pr b w e;have hb:b≠a:=λz=>by rw[z,hF] at e;cases e
 rw[cj hb];exact r.fr b w e;obtain⟨b,h1,h2,h3,h4⟩:=r.own i d e1;have hb:b≠a:=λz=>by rw[z,h] at h4;cases h4
 exact⟨b,h1,h2.mono (bu.refl F)<|cj hb,h3,by rw[cj hb];exact h4⟩;have hb:b≠a:=λz=>by rw[z,hF] at e;cases e
 rw[cj hb];exact r.dj b w e
def Rel.less(r:Rel C Pr F env σ H)(s:bu Pr' Pr):Rel C Pr' F env σ H:=
 ⟨s.trans r.pr,r.fr,r.len,r.val,λi d e=>let ⟨b,h1,h2,h3,h4⟩:=r.own i d e;⟨b,h1,h2,h3,s.free h4⟩,r.apart,λb o e=>s.free<|r.dj b o e,r.fix⟩
def Rel.freeze(r:Rel C Pr F env σ H)(h:env[i]?=some (some (true,d))) :
  ∃F' v,Rel C Pr F' (env.set i (some (false,d))) σ H/\bu F F'/\σ[i]?=some (some v)/\Rep C.K F' d v:=by
 obtain⟨a,h1,h2,h3,h4⟩:=r.own i d h;obtain⟨o,ho⟩:=h2.some;have s1:bu F (upd F a o):=qe h3;have hi:=(Qq5.mp h).1;have rep:Rep C.K (upd F a o) d (.ref a):=by
  cases d with
  |lst xs=>obtain⟨z,vs,g1,g2⟩:=h2;rw[ho] at g1;cases g1;exact⟨z,a,vs,rfl,bA,cN.mono s1 _ _ g2⟩|dct kvs=>obtain⟨z,ks,g1,g2⟩:=h2;rw[ho] at g1;cases g1;exact⟨z,a,ks,rfl,.inl bA,fQ.mono s1 _ _ g2⟩|iY kvs=>obtain⟨z,ks,g1,g2⟩:=h2;rw[ho] at g1;cases g1;exact⟨z,a,ks,rfl,.inl bA,eU.mono s1 _ _ g2⟩|_=>exact h2.elim
 refine⟨upd F a o,.ref a,⟨r.pr,λb u e=>?_,by rw[Qzx];exact r.len,λj e he=>?_,λj e he=>?_,λj k e f b hj hk g1 g2=>?_,λb u e=>?_,r.fix⟩,s1,h1,rep⟩;by_cases hb:b=a;subst hb;rw[bA] at e;cases e;exact ho;rw[cj hb] at e;exact r.fr b u e;by_cases hj:j=i;subst hj;rw[Qw9 hi] at he;cases he;exact⟨_,h1,rep⟩;rw[Qw5 (Ne.symm hj)] at he;obtain⟨v,g1,g2⟩:=r.val j e he;exact⟨v,g1,Rep.mono s1 e v g2⟩;by_cases hj:j=i;subst hj;rw[Qw9 hi] at he;cases he;rw[Qw5 (Ne.symm hj)] at he;obtain⟨b,g1,g2,g3,g4⟩:=r.own j e he;have hb:b≠a:=λz=>hj<|r.apart j i e d a he h (by rw[<-z];exact g1) h1;exact⟨b,g1,g2.mono s1 rfl,by rw[cj hb];exact g3,g4⟩;have nj:j≠i:=λz=>by subst z;rw[Qw9 hi] at hj;cases hj
 have nk:k≠i:=λz=>by subst z;rw[Qw9 hi] at hk;cases hk
 rw[Qw5 (Ne.symm nj)] at hj;rw[Qw5 (Ne.symm nk)] at hk;exact r.apart j k e f b hj hk g1 g2;by_cases hb:b=a;subst hb;exact h4;rw[cj hb] at e;exact r.dj b u e
def tE(C:Cfg)(ev:Ev):TE:=λσ H Q=>∃(Pr F:Hp) (env env':Env) (d:D),Rel C Pr F env σ H/\ev env=.ok d env'/\
 ∀v H' F',Rel C Pr F' env' σ H'->bu F F'->Rep C.K F' d v->Q v H'
def tRd(C:Cfg)(ev:Ev):TE:=λσ H Q=>∃(Pr F:Hp) (env env':Env) (d:D),Rel C Pr F env σ H/\ev env=.ok d env'/\
 ∀v H' F',Rel C Pr F' env' σ H'->bu F F'->jt C.K F' H' d v->Q v H'
def tT(C:Cfg)(ev:iC):TT:=λσ H Q=>∃(Pr F:Hp) (env env':Env) (b:Bool),Rel C Pr F env σ H/\ev env=.ok b env'/\
 ∀H' F',Rel C Pr F' env' σ H'->bu F F'->Q b H'
def tA(C:Cfg)(ev:eZ):TA:=λσ H Q=>∃(Pr F:Hp) (env env':Env) (ds:List D),Rel C Pr F env σ H/\ev env=.ok ds env'/\
 ∀vs H' F',Rel C Pr F' env' σ H'->bu F F'->cN C.K F' ds vs->Q vs H'
def PX(X:Cx)(C:Cfg)(e:Expr)(ev:Ev):Prop:=PE X e (tE C ev)
def PXB(X:Cx)(C:Cfg)(e:Expr)(ev:Ev):Prop:=PE X e (tRd C ev)
def PXT(X:Cx)(C:Cfg)(e:Expr)(ev:iC):Prop:=PT X e (tT C ev)
def W3(X:Cx)(C:Cfg)(es:List Expr)(ev:eZ):Prop:=PA X es (tA C ev)
def _root_.L2.PE.imp(h:PE X e t)(i:∀σ H Q,t' σ H Q->t σ H Q):PE X e t':=λpins s σ H Q I q=>h pins s σ H Q I<|i σ H Q q
def _root_.L2.PT.imp(h:PT X e t)(i:∀σ H Q,t' σ H Q->t σ H Q):PT X e t':=λpins s σ H Q I q=>h pins s σ H Q I<|i σ H Q q
def _root_.L2.PW.imp(h:PW X e t)(i:∀σ H Q,t' σ H Q->t σ H Q):PW X e t':=λwhole pins s σ H Q I q=>h whole pins s σ H Q I<|i σ H Q q
def _root_.L2.PA.imp(h:PA X e t)(i:∀σ H Q,t' σ H Q->t σ H Q):PA X e t':=λpos pins s σ H Q I q=>h pos pins s σ H Q I<|i σ H Q q
def _root_.L2.PS.imp(h:PS X e t)(i:∀D σ H,t' D σ H->t D σ H):PS X e t':=λpins s σ H D I q=>h pins s σ H D I<|i D σ H q
def _root_.L2.Qj.imp(h:Qj X e t)(i:∀D σ H,t' D σ H->t D σ H):Qj X e t':=λpins s σ H D I q=>h pins s σ H D I<|i D σ H q
def bindR{α β:Type}(x:R α)(f:α->Env->R β):R β:=match x with
 |.ok a env=>f a env|.stuck=>.stuck
def jj{α:Type}(o:Option α)(env:Env):R α:=match o with
 |some a=>.ok a env|none=>.stuck
def bf{α β:Type}{x:R α}{f:α->Env->R β}{b:β}(h:bindR x f=.ok b env'):∃a aR,x=.ok a aR/\f a aR=.ok b env':=by
 cases x with
 |ok a aR=>exact⟨a,aR,rfl,h⟩|stuck=>cases h
def d7{α:Type}{o:Option α}{a:α}(h:jj o env=.ok a env'):o=some a/\env'=env:=by
 cases o with
 |some b=>cases h;exact⟨rfl,rfl⟩|none=>cases h
section
variable{X:Cx}{C:Cfg}{pos:Pos}
def aM(i:Nat):Ev:=λenv=>match env[i]? with
 |some (some (false,d))=>.ok d env|some (some (true,d))=>.ok d (env.set i (some (false,d)))|_=>.stuck
def ae4(i)(hN:X.N[i]?=some x)(hv:zR X.env.scope x)(hd:qT x:=by decide)(hcd:Bb x:=by decide):PX X C (.Name x pos) (aM i):=by
 refine(mj hN hv hd hcd).imp λσ H Q h=>?_;obtain⟨Pr,F,env,env',d,r,e,q⟩:=h;unfold aM at e;split at e;rename_i d' hd';cases e;obtain⟨v,h1,h2⟩:=r.val i d hd';exact⟨v,h1,q v H F r (bu.refl F) h2⟩;rename_i d' hd';cases e;obtain⟨F',v,r',s',h1,h2⟩:=r.freeze hd';exact⟨v,h1,q v H F' r' s' h2⟩;cases e
def PX.b(h:PX X C e ev):PXB X C e ev:=PE.imp h λσ H Q hq=>by
 obtain⟨Pr,F,env,env',d,r,e,q⟩:=hq;exact⟨Pr,F,env,env',d,r,e,λv H' F' r' s' p'=>q v H' F' r' s'<|.inl p'⟩
def aU(i:Nat):Ev:=λenv=>match env[i]? with
 |some (some (_,d))=>.ok d env|_=>.stuck
def Rel.rd(r:Rel C Pr F env σ H){i:Nat}(h:env[i]?=some (some (o,d))):∃v,σ[i]?=some (some v)/\jt C.K F H d v:=by
 cases o with
 |true=>obtain⟨a,h1,h2,_⟩:=r.own i d h;exact⟨_,h1,.inr ⟨a,rfl,h2⟩⟩|false=>obtain⟨v,h1,h2⟩:=r.val i d h;exact⟨v,h1,.inl h2⟩
def abN(i)(hN:X.N[i]?=some x)(hv:zR X.env.scope x)(hd:qT x:=by decide)(hcd:Bb x:=by decide):PXB X C (.Name x pos) (aU i):=by
 refine(mj hN hv hd hcd).imp λσ H Q h=>?_;obtain⟨Pr,F,env,env',d,r,e,q⟩:=h;unfold aU at e;split at e;rename_i o' d' hd';cases e;obtain⟨v,h1,h2⟩:=r.rd hd';exact⟨v,h1,q v H F r (bu.refl F) h2⟩;cases e
def tU(d:D):Ev:=λenv=>.ok d env
def ae9:PX X C (.Constant (.int i) j pos) (tU (.int i)):=YT.imp λσ H Q h=>by
 obtain⟨Pr,F,env,env',d,r,e,q⟩:=h;cases e;exact q _ _ F r (bu.refl F) rfl
def ail:PX X C (.Constant (.bool b) j pos) (tU (.bl b)):=ais.imp λσ H Q h=>by
 obtain⟨Pr,F,env,env',d,r,e,q⟩:=h;cases e;exact q _ _ F r (bu.refl F) rfl
def ae7:PX X C (.Constant .none j pos) (tU .non):=afp.imp λσ H Q h=>by
 obtain⟨Pr,F,env,env',d,r,e,q⟩:=h;cases e;exact q _ _ F r (bu.refl F) rfl
def aj:eZ:=λenv=>.ok [] env
def aa(a:Ev)(r:eZ):eZ:=λenv=>bindR (a env) λd aR=>bindR (r aR) λds eQ=>.ok (d::ds) eQ
def Tn:W3 X C [] aj:=rT.imp λσ H Q h=>by
 obtain⟨Pr,F,env,env',d,r,e,q⟩:=h;cases e;exact q _ _ F r (bu.refl F) rfl
def Nr(ha:PX X C e a)(hr:W3 X C es r)(hs:starEach (e::es) X.env=(false,eval e X.env)::starEach es X.env:=by rfl):W3 X C (e::es) (aa a r):=
 (j7 ha hr hs).imp λσ H Q h=>by
  obtain⟨Pr,F,env,env',ds,rl,e,q⟩:=h;obtain⟨d1,aR,e1,e2⟩:=bf e;obtain⟨ds2,eQ,e3,e4⟩:=bf e2;cases e4;refine⟨Pr,F,env,aR,d1,rl,e1,λv H1 F1 r1 s1 p1=>?_⟩;refine⟨Pr,F1,aR,env',ds2,r1,e3,λvs H2 F2 r2 s2 p2=>?_⟩;exact q _ H2 F2 r2 (s1.trans s2) ⟨v,vs,rfl,Rep.mono s2 d1 v p1,p2⟩
def bK(r:eZ):Ev:=λenv=>bindR (r env) λds aR=>if ds.length<=sizeLine then .ok (.tup ds) aR else .stuck
def cB(r:eZ):Ev:=λenv=>bindR (r env) λds aR=>if ds.length<=sizeLine then .ok (.lst ds) aR else .stuck
def aN(g:D->D->Option D)(a b:Ev):Ev:=λenv=>bindR (a env) λx aR=>bindR (b aR) λy eQ=>jj (g x y) eQ
def kh(g:D->Option D)(a:Ev):Ev:=λenv=>bindR (a env) λx aR=>jj (g x) aR
def tV(C:Cfg)(r:R2)(g:D->D->Option D):Prop:=∀(Pr F:Hp) (env:Env) (σ:L2.St) (H:Hp) (x y d:D) (vx vy:V) (Q:VK),Rel C Pr F env σ H->jt C.K F H x vx->jt C.K F H y vy->g x y=some d->
 (∀v H' F',Rel C Pr F' env σ H'->bu F F'->Rep C.K F' d v->Q v H')->r vx vy H Q
def UnD(C:Cfg)(r:V->Hp->VK->Prop)(g:D->Option D):Prop:=∀(Pr F:Hp) (env:Env) (σ:L2.St) (H:Hp) (x d:D) (vx:V) (Q:VK),Rel C Pr F env σ H->jt C.K F H x vx->g x=some d->
 (∀v H' F',Rel C Pr F' env σ H'->bu F F'->Rep C.K F' d v->Q v H')->r vx H Q
def Li(o:tV C r g)(σ)(H)(Q)(h:tE C (aN g a b) σ H Q):tOp r (tE C a) (tRd C b) σ H Q:=by obtain⟨Pr,F,env,env',d,rl,e,q⟩:=h;obtain⟨x,aR,e1,e2⟩:=bf e;obtain⟨y,eQ,e3,e4⟩:=bf e2;obtain⟨e5,rfl⟩:=d7 e4;refine⟨Pr,F,env,aR,x,rl,e1,λvx H1 F1 r1 s1 p1=>⟨Pr,F1,aR,env',y,r1,e3,λvy H2 F2 r2 s2 p2=>?_⟩⟩;exact o Pr F2 env' σ H2 x y d vx vy Q r2 (.inl<|Rep.mono s2 x vx p1) p2 e5 λv H3 F3 r3 s3 p3=>q v H3 F3 r3 ((s1.trans s2).trans s3) p3
def aq(g:D->D->Option D)(i:Nat)(b:Ev):Ev:=λenv=>match env[i]? with
 |some (some (_,_))=>bindR (b env) λy eQ=>(match eQ[i]? with
  |some (some (_,x))=>jj (g x y) eQ|_=>.stuck)
 |_=>.stuck
def wD(o:tV C r g)(σ)(H)(Q)(h:tE C (aq g i b) σ H Q):tOp r (ahF i) (tRd C b) σ H Q:=by
 obtain⟨Pr,F,env,env',d,rl,e,q⟩:=h;unfold aq at e;split at e;rename_i o0 d0 h0;obtain⟨v,hv,_⟩:=rl.rd h0;obtain⟨y,eQ,e1,e2⟩:=bf e;split at e2;rename_i o2 x h2;obtain⟨e5,rfl⟩:=d7 e2;refine⟨v,hv,Pr,F,env,env',y,rl,e1,λvy H2 F2 r2 s2 p2=>?_⟩;obtain⟨v',hv',p⟩:=r2.rd h2;rw[hv] at hv';cases hv';exact o Pr F2 env' σ H2 x y d v vy Q r2 p p2 e5 λv H3 F3 r3 s3 p3=>q v H3 F3 r3 (s2.trans s3) p3;cases e2;cases e
def aii(ho:qN X (binaryOp op) r)(o:tV C r g)(ha:PX X C x a)(hb:PXB X C y b):PX X C (.BinOp x op y pos) (aN g a b):=
 (YS ho ha hb).imp (Li o)
def ae6{px:Pos}(i)(hN:X.N[i]? = some x)(hv:zR X.env.scope x)(ho:qN X (binaryOp op) r)(o:tV C r g)(hb:PXB X C y b)
  (hd:qT x:=by decide) (hcd:Bb x:=by decide):PX X C (.BinOp (.Name x px) op y pos) (aq g i b):=
 (YS ho (mj hN hv hd hcd) hb).imp (wD o)
def afa(ho:qN X (compareOp op) r)(o:tV C r g)(ha:PX X C x a)(hb:PXB X C y b)(hm:behindInMarks op y=false):PX X C (.Compare x [op] [y] pos) (aN g a b):=
 (Tu ho ha hb hm).imp (Li o)
def aif(ho:UnR X (unaryOp op) r)(o:UnD C r g)(ha:PX X C x a):PX X C (.UnaryOp op x pos) (kh g a):=
 (adP ho ha).imp λσ H Q h=>by
  obtain⟨Pr,F,env,env',d,rl,e,q⟩:=h;obtain⟨x,aR,e1,e2⟩:=bf e;obtain⟨e3,rfl⟩:=d7 e2;exact⟨Pr,F,env,env',x,rl,e1,λvx H1 F1 r1 s1 p1=>o Pr F1 env' σ H1 x d vx Q r1 (.inl p1) e3 λv H3 F3 r3 s3 p3=>q v H3 F3 r3 (s1.trans s3) p3⟩
def cR(a:Ev):iC:=λenv=>bindR (a env) λd aR=>match d with
 |.bl b=>.ok b aR|_=>.stuck
def SJ(h:tT C (cR a) σ H Q):tE C a σ H λx H'=>∃k,x=.bl k/\Q k H':=by
 obtain⟨Pr,F,env,env',b,rl,e,q⟩:=h;obtain⟨d,aR,e1,e2⟩:=bf e;refine⟨Pr,F,env,aR,d,rl,e1,λv H1 F1 r1 s1 p1=>?_⟩;cases d with
 |bl c=>cases e2;exact⟨_,p1,q H1 F1 r1 s1⟩|_=>cases e2
def abE(ho:qN X (compareOp op) r)(o:tV C r g)(ha:PX X C x a)(hb:PXB X C y b)(hm:behindInMarks op y=false):PXT X C (.Compare x [op] [y] pos) (cR (aN g a b)):=
 (Tq ho ha hb hm).imp λσ H Q h=>by
  exact Li o σ H _ (SJ h)
def gb(a:iC):iC:=λenv=>bindR (a env) λb aR=>.ok (!b) aR
def di(a b:iC):iC:=λenv=>bindR (a env) λc aR=>if c=true then b aR else .ok false aR
def j8(a b:iC):iC:=λenv=>bindR (a env) λc aR=>if c=true then .ok true aR else b aR
def PXW(X:Cx)(C:Cfg)(e:Expr)(ev:iC):Prop:=PW X e (tT C ev)
def PXW.pt(h:PXW X C e a):PXT X C e a:=PW.pt h
def Pg(a b:Ev):Ev:=λenv=>bindR (a env) λc aR=>match c with
 |.bl true=>b aR|.bl false=>.ok (.bl false) aR|_=>.stuck
def K4(a b:Ev):Ev:=λenv=>bindR (a env) λc aR=>match c with
 |.bl true=>.ok (.bl true) aR|.bl false=>b aR|_=>.stuck
def RP(t:iC)(a b:Ev):Ev:=λenv=>bindR (t env) λc aR=>if c=true then a aR else b aR
end
def zE(f:D->D->Option Bool):List D->List D->Option Bool
 |[],[]=>some true
 |x::xs,y::ys=>match f x y,zE f xs ys with
  |some a,some b=>some (a&&b)|_,_=>none
 |[],_::_=>some false|_::_,[]=>some false
def bO:Nat->D->D->Option Bool
 |0,_,_=>none|n+1,.tup xs,.tup ys=>zE (bO n) xs ys|n+1,.lst xs,.lst ys=>zE (bO n) xs ys|_+1,.dct _,_=>none|_+1,.iY _,_=>none|_+1,.clo _ _,_=>none|_+1,_,.dct _=>none|_+1,_,.iY _=>none|_+1,_,.clo _ _=>none|_+1,.arr _,_=>none|_+1,_,.arr _=>none|_+1,.non,.non=>some true|_+1,.bl a,.bl b=>some (a == b)|_+1,.bl a,.int b=>some ((if a then 1 else 0) == b)|_+1,.int a,.bl b=>some (a == (if b then 1 else 0))|_+1,.int a,.int b=>some (a == b)|_+1,.str a,.str b=>some (a == b)|_+1,_,_=>some false
mutual
def Sh(h:Heap):D->Value->Prop
 |.non,u=>u=.none|.bl b,u=>u=.bool b|.int i,u=>∃t,u=.int i t|.str x,u=>∃t,u=.str (strOf x) t|.tup xs,u=>∃a its,u=.ref a/\IsTup h a its.toArray/\JL h xs its|.lst xs,u=>∃a its,u=.ref a/\PlainL h a its.toArray/\JL h xs its|.arr xs,u=>∃a its,u=.ref a/\PlainL h a its.toArray/\JL h xs its|.dct _,u=>∃a o,u=.ref a/\h.get? a=some o/\o.ExactDict|.iY _,u=>∃a o,u=.ref a/\h.get? a=some o/\o.ExactDict|.clo _ _,u=>∃a,u=.ref a
def JL(h:Heap):List D->List Value->Prop
 |[],us=>us=[]|d::ds,us=>∃u r,us=u::r/\Sh h d u/\JL h ds r
end
def JL.length:∀{ds} {us},JL h ds us->us.length=ds.length
 |[],_,e=>by cases e;rfl|d::ds,us,e=>by obtain⟨u,r,rfl,_,h2⟩:=e;rw[Qqy,Qqy,h2.length]
section
variable{X:Cx}{pins:List (Addr×Obj)}{σ:L2.St}{H:Hp}{s:Shared}
mutual
theorem Rep.sh(I:Inv X pins σ H s):∀(d:D) (v:V) (u:Value),Rep X.K H d v->RelV v u->Sh s.heap d u
 |.non,_,_,h,r=>by cases h;exact r|.bl _,_,_,h,r=>by cases h;exact r|.int _,_,_,h,r=>by cases h;exact r|.str _,_,_,h,r=>by obtain⟨h,_⟩:=h;cases h;exact r
 |.tup xs,v,u,h,r=>by
  obtain⟨z,a,vs,rfl,h1,h2⟩:=h;cases r;obtain⟨its,rv,p,_⟩:=I.tuple h1;exact⟨a,its,rfl,p,cN.sh I xs vs its h2 rv⟩
 |.lst xs,v,u,h,r=>by
  obtain⟨z,a,vs,rfl,h1,h2⟩:=h;cases r;obtain⟨its,rv,p,_⟩:=I.list (lK.of h1);exact⟨a,its,rfl,p,cN.sh I xs vs its h2 rv⟩
 |.arr xs,v,u,h,r=>by
  obtain⟨z,a,vs,rfl,h1,h2⟩:=h;cases r;obtain⟨its,rv,p,_⟩:=I.list h1;exact⟨a,its,rfl,p,cN.sh I xs vs its h2 rv⟩
 |.dct kvs,v,u,h,r=>by
  obtain⟨z,a,ks,rfl,h1,h2⟩:=h;cases r;obtain⟨_,_,vs,_,o,_,_,e,ex,_⟩:=h1.ok I.hok;exact⟨a,o,rfl,e,ex⟩
 |.iY kvs,v,u,h,r=>by
  obtain⟨z,a,ks,rfl,h1,h2⟩:=h;cases r;obtain⟨_,_,vs,_,o,_,_,e,ex,_⟩:=h1.ok I.hok;exact⟨a,o,rfl,e,ex⟩
 |.clo st ds,v,u,h,r=>by
  obtain⟨a,vs,rfl,h1,h2⟩:=h;cases r;exact⟨a,rfl⟩
theorem cN.sh(I:Inv X pins σ H s):∀(ds:List D) (vs:List V) (us:List Value),cN X.K H ds vs->Vals vs us->JL s.heap ds us
 |[],_,_,h,r=>by cases h;cases r;exact rfl
 |d::ds,vs,us,h,r=>by
  obtain⟨v,rr,rfl,h1,h2⟩:=h;cases r with
  |cons q qs=>exact⟨_,_,rfl,Rep.sh I d v _ h1 q,cN.sh I ds rr _ h2 qs⟩
end
end
def Sx(p:IsTup h a xs)(q:IsTup h a ys):xs=ys:=by obtain⟨o,e,_,n,d⟩:=p;obtain⟨o',e',_,n',d'⟩:=q;rw[e] at e';cases e';rw[d] at d';cases d';rfl
def TY(p:PlainL h a xs)(q:PlainL h a ys):xs=ys:=by obtain⟨o,e,_,n,d⟩:=p.isList;obtain⟨o',e',_,n',d'⟩:=q.isList;rw[e] at e';cases e';rw[d] at d';cases d';rfl
def Df(p:IsTup h a xs)(q:PlainL h a ys):False:=by obtain⟨o,e,c,n,d⟩:=p;obtain⟨o',e',c',n',d'⟩:=q.isList;rw[e] at e';cases e';rw[c] at c';simp at c'
theorem Gx:∀n d e u b,Sh h d u->Sh h e u->bO n d e=some b->b=true
 |0,_,_,_,_,_,_,hb=>by simp[bO] at hb
 |n+1,d,e,u,b,hd,he,hb=>by
  have all:∀xs ys us b,JL h xs us->JL h ys us->zE (bO n) xs ys=some b->b=true:=by
   intro xs
   induction xs with
   |nil=>
    intro ys us b h1 h2 hb;cases h1;cases ys with
    |nil=>simp[zE] at hb;exact hb|cons y ys=>obtain⟨u,r,q,_⟩:=h2;cases q
   |cons x xs ih=>
    intro ys us b h1 h2 hb;obtain⟨u,r,rfl,h3,h4⟩:=h1;cases ys with
    |nil=>cases h2
    |cons y ys=>
     obtain⟨u',r',q,h5,h6⟩:=h2;cases q;unfold zE at hb;cases q1:bO n x y with
     |none=>rw[q1] at hb;simp at hb
     |some c=>
      cases q2:zE (bO n) xs ys with
      |none=>rw[q1,q2] at hb;simp at hb|some c'=>rw[q1,q2] at hb;have e1:=Gx n x y u c h3 h5 q1;have e2:=ih ys r c' h4 h6 q2;subst e1 e2;simp at hb;exact hb
  cases d with
  |non=>cases hd;cases e<;>simp[Sh] at he;simp[bO] at hb;exact hb|bl c=>cases hd;cases e<;>simp[Sh] at he;subst he;simp[bO] at hb;exact hb|int i=>obtain⟨t,rfl⟩:=hd;cases e<;>simp[Sh] at he;subst he;simp[bO] at hb;exact hb
  |str x=>
   obtain⟨t,rfl⟩:=hd;cases e with
   |str y=>
    obtain⟨t',q⟩:=he;injection q with q1 _
    unfold strOf at q1;injection q1 with q2
    have q3:=Qx1 Array.toList q2;simp at q3;subst q3;simp[bO] at hb;exact hb
   |_=>simp[Sh] at he
  |tup xs=>
   obtain⟨a,its,rfl,p,hs⟩:=hd;cases e with
   |tup ys=>
    obtain⟨a',its',q,p',hs'⟩:=he;cases q;have e2:its=its':=by simpa using Sx p p'
    subst e2;exact all xs ys its b hs hs' (by simpa only[bO] using hb)
   |lst ys=>obtain⟨a',its',q,p',hs'⟩:=he;cases q;exact(Df p p').elim|dct kvs=>simp[bO] at hb|iY kvs=>simp[bO] at hb|clo _ _=>simp[bO] at hb|arr kvs=>simp[bO] at hb|_=>simp[Sh] at he
  |lst xs=>
   obtain⟨a,its,rfl,p,hs⟩:=hd;cases e with
   |lst ys=>
    obtain⟨a',its',q,p',hs'⟩:=he;cases q;have e2:its=its':=by simpa using TY p p'
    subst e2;exact all xs ys its b hs hs' (by simpa only[bO] using hb)
   |tup ys=>obtain⟨a',its',q,p',hs'⟩:=he;cases q;exact(Df p' p).elim|dct kvs=>simp[bO] at hb|iY kvs=>simp[bO] at hb|clo _ _=>simp[bO] at hb|arr kvs=>simp[bO] at hb|_=>simp[Sh] at he
  |dct kvs=>cases e<;>simp[bO] at hb|iY kvs=>cases e<;>simp[bO] at hb|clo _ _=>cases e<;>simp[bO] at hb|arr kvs=>cases e<;>simp[bO] at hb
theorem Us:∀n d d' e u b b',Sh h d u->Sh h d' u->bO n d e=some b->bO n d' e=some b'->b=b'
 |0,_,_,_,_,_,_,_,_,hb,_=>by simp[bO] at hb
 |n+1,d,d',e,u,b,b',hd,hd',hb,hb'=>by
  have all:∀xs xs' ys us b b',JL h xs us->JL h xs' us->zE (bO n) xs ys=some b->zE (bO n) xs' ys=some b'->b=b':=by
   intro xs
   induction xs with
   |nil=>
    intro xs' ys us b b' h1 h2 hb hb';cases h1;cases xs' with
    |nil=>rw[hb] at hb';exact Qw4 hb'|cons y ys=>obtain⟨u,r,q,_⟩:=h2;cases q
   |cons x xs ih=>
    intro xs' ys us b b' h1 h2 hb hb';obtain⟨u,r,rfl,h3,h4⟩:=h1;cases xs' with
    |nil=>cases h2
    |cons x' xs'=>
     obtain⟨u',r',q,h5,h6⟩:=h2;cases q;cases ys with
     |nil=>simp[zE] at hb hb';rw[hb,hb']
     |cons y ys=>
      unfold zE at hb hb';cases q1:bO n x y with
      |none=>rw[q1] at hb;simp at hb
      |some c=>
       cases q2:zE (bO n) xs ys with
       |none=>rw[q1,q2] at hb;simp at hb
       |some c2=>
        cases q3:bO n x' y with
        |none=>rw[q3] at hb';simp at hb'
        |some c3=>
         cases q4:zE (bO n) xs' ys with
         |none=>rw[q3,q4] at hb';simp at hb'|some c4=>rw[q1,q2] at hb;rw[q3,q4] at hb';have e1:=Us n x x' y u c c3 h3 h5 q1 q3;have e2:=ih xs' ys r c2 c4 h4 h6 q2 q4;subst e1 e2;simp at hb hb';rw[<-hb,<-hb']
  cases d with
  |non=>cases hd;cases d'<;>simp[Sh] at hd';rw[hb] at hb';exact Qw4 hb'|bl c=>cases hd;cases d'<;>simp[Sh] at hd';subst hd';rw[hb] at hb';exact Qw4 hb'|int i=>obtain⟨t,rfl⟩:=hd;cases d'<;>simp[Sh] at hd';subst hd';rw[hb] at hb';exact Qw4 hb'
  |str x=>
   obtain⟨t,rfl⟩:=hd;cases d' with
   |str y=>
    obtain⟨t',q⟩:=hd';injection q with q1 _
    unfold strOf at q1;injection q1 with q2
    have q3:=Qx1 Array.toList q2;simp at q3;subst q3;rw[hb] at hb';exact Qw4 hb'
   |_=>simp[Sh] at hd'
  |tup xs=>
   obtain⟨a,its,rfl,p,hs⟩:=hd;cases d' with
   |tup xs'=>
    obtain⟨a',its',q,p',hs'⟩:=hd';cases q;have e2:its=its':=by simpa using Sx p p'
    subst e2;cases e with
    |tup ys=>exact all xs xs' ys its b b' hs hs' (by simpa only[bO] using hb) (by simpa only[bO] using hb')|_=>first|(simp[bO] at hb;done)|(simp only[bO,Qxv] at hb hb';rw[<-hb,<-hb'])
   |lst ys=>obtain⟨a',its',q,p',hs'⟩:=hd';cases q;exact(Df p p').elim|dct kvs=>cases e<;>simp[bO] at hb'|iY kvs=>cases e<;>simp[bO] at hb'|clo _ _=>cases e<;>simp[bO] at hb'|arr kvs=>cases e<;>simp[bO] at hb'|_=>simp[Sh] at hd'
  |lst xs=>
   obtain⟨a,its,rfl,p,hs⟩:=hd;cases d' with
   |lst xs'=>
    obtain⟨a',its',q,p',hs'⟩:=hd';cases q;have e2:its=its':=by simpa using TY p p'
    subst e2;cases e with
    |lst ys=>exact all xs xs' ys its b b' hs hs' (by simpa only[bO] using hb) (by simpa only[bO] using hb')|_=>first|(simp[bO] at hb;done)|(simp only[bO,Qxv] at hb hb';rw[<-hb,<-hb'])
   |tup ys=>obtain⟨a',its',q,p',hs'⟩:=hd';cases q;exact(Df p' p).elim|dct kvs=>cases e<;>simp[bO] at hb'|iY kvs=>cases e<;>simp[bO] at hb'|clo _ _=>cases e<;>simp[bO] at hb'|arr kvs=>cases e<;>simp[bO] at hb'|_=>simp[Sh] at hd'
  |dct kvs=>cases e<;>simp[bO] at hb|iY kvs=>cases e<;>simp[bO] at hb|clo _ _=>cases e<;>simp[bO] at hb|arr kvs=>cases e<;>simp[bO] at hb
def Ae(x y):(strOf x == strOf y)=(x == y):=by
 rw[Qvv];simp[beq_iff_eq];constructor;intro e;unfold strOf at e;injection e with e
 simpa using Qx1 Array.toList e;intro e;rw[e]
theorem DG:∀{f} {xs ys},xs.length≠ys.length->∀b,zE f xs ys=some b->b=false
 |f,[],[],h,b,e=>absurd rfl h|f,[],_::_,_,b,e=>by simp[zE] at e;exact e|f,_::_,[],_,b,e=>by simp[zE] at e;exact e
 |f,x::xs,y::ys,h,b,e=>by
  unfold zE at e;cases h1:f x y with
  |none=>rw[h1] at e;simp at e
  |some c=>
   cases h2:zE f xs ys with
   |none=>rw[h1,h2] at e;simp at e|some d=>rw[h1,h2] at e;have:=DG (by simpa using h) d h2;subst this;simp at e;exact e
theorem xW:∀{f} xs ys b,zE f xs ys=some b->∃e,(∀j x y,xs[j]?=some x->ys[j]?=some y->f x y=some (e j))/\b=((List.range (min xs.length ys.length)).all e&&xs.length == ys.length)
 |f,[],ys,b,h=>by
  refine⟨λ_=>true,λj x y hx=>by simp at hx,?_⟩;cases ys with
  |nil=>simp[zE] at h;simp[h.symm]|cons y ys=>simp[zE] at h;simp[h.symm]
 |f,x::xs,[],b,h=>by
  refine⟨λ_=>true,λj x y _ hy=>by simp at hy,?_⟩;simp[zE] at h;simp[h.symm]
 |f,x::xs,y::ys,b,h=>by
  unfold zE at h;cases h1:f x y with
  |none=>rw[h1] at h;simp at h
  |some c=>
   cases h2:zE f xs ys with
   |none=>rw[h1,h2] at h;simp at h
   |some d=>
    rw[h1,h2] at h;obtain⟨e,he,hd⟩:=xW xs ys d h2;refine⟨λj=>match j with|0=>c|j+1=>e j,λj x' y' hx hy=>?_,?_⟩;cases j with
    |zero=>simp at hx hy;subst hx hy;exact h1|succ j=>exact he j x' y' (by simpa using hx) (by simpa using hy)
    have hb:b=(c&&d):=by simpa using h.symm
    have hm:min (x::xs).length (y::ys).length=min xs.length ys.length+1:=by simp only[Qqy];omega
    rw[hb,hd,hm,Q0y,Q12,Q15,Bool.and_assoc];have hl:((x::xs).length == (y::ys).length)=(xs.length == ys.length):=by simp
    rw[hl];rfl
theorem qZ:∀{ds} {us} {j:Nat} {u},JL h ds us->us[j]?=some u->∃d,ds[j]?=some d/\Sh h d u
 |[],_,_,_,e,g=>by cases e;simp at g
 |d::ds,us,j,u,e,g=>by
  obtain⟨v,r,rfl,h1,h2⟩:=e;cases j with
  |zero=>simp at g;subst g;exact⟨d,rfl,h1⟩|succ j=>obtain⟨c,e1,e2⟩:=qZ h2 (by simpa using g);exact⟨c,by simpa using e1,e2⟩
theorem Lb:∀n d e u v b A s,Sh s.heap d u->Sh s.heap e v->bO n d e=some b->A.units+n<cLine->SeqAt.EqAt A s u v b
 |0,_,_,_,_,_,_,_,_,_,h,_=>by simp[bO] at h
 |n+1,d,e,u,v,b,A,s,hd,he,h,hu=>by
  have hu0:A.units<cLine:=by omega
  have hin:A.in1.units+n<cLine:=by show A.units+1+n<cLine;omega
  cases d with
  |non=>
   cases hd;cases e with
   |non=>cases he;simp[bO] at h;subst h;exact Qbx _|bl c=>cases he;simp[bO] at h;subst h;exact SeqAt.EqAt.none_bool c|int i=>obtain⟨t,rfl⟩:=he;simp[bO] at h;subst h;exact SeqAt.EqAt.none_int i t|str x=>obtain⟨t,rfl⟩:=he;simp[bO] at h;subst h;exact SeqAt.EqAt.none_str _ t|tup ys=>obtain⟨a,its,rfl,p,_⟩:=he;simp[bO] at h;subst h;exact SeqAt.EqAt.none_tuple p hu0|lst ys=>obtain⟨a,its,rfl,p,_⟩:=he;simp[bO] at h;subst h;exact SeqAt.EqAt.none_list p.isList hu0|_=>simp[bO] at h
  |bl c=>
   cases hd;cases e with
   |non=>cases he;simp[bO] at h;subst h;exact SeqAt.EqAt.bool_none c|bl c'=>cases he;simp[bO,Qxv] at h;subst h;exact Qh2 c c'|int i=>obtain⟨t,rfl⟩:=he;simp[bO,Qxv] at h;subst h;exact Qd3 c i t|str x=>obtain⟨t,rfl⟩:=he;simp[bO] at h;subst h;exact Qd2 c _ t|tup ys=>obtain⟨a,its,rfl,p,_⟩:=he;simp[bO] at h;subst h;exact SeqAt.EqAt.bool_tuple c p hu0|lst ys=>obtain⟨a,its,rfl,p,_⟩:=he;simp[bO] at h;subst h;exact SeqAt.EqAt.bool_list c p.isList hu0|_=>simp[bO] at h
  |int i=>
   obtain⟨t',rfl⟩:=hd;cases e with
   |non=>cases he;simp[bO] at h;subst h;exact SeqAt.EqAt.int_none i t'|bl c'=>cases he;simp[bO,Qxv] at h;subst h;exact Qd1 i t' c'|int j=>obtain⟨t,rfl⟩:=he;simp[bO,Qxv] at h;subst h;exact Qfw i t' j t|str x=>obtain⟨t,rfl⟩:=he;simp[bO] at h;subst h;exact Qby i t' _ t|tup ys=>obtain⟨a,its,rfl,p,_⟩:=he;simp[bO] at h;subst h;exact SeqAt.EqAt.int_tuple i t' p hu0|lst ys=>obtain⟨a,its,rfl,p,_⟩:=he;simp[bO] at h;subst h;exact SeqAt.EqAt.int_list i t' p.isList hu0|_=>simp[bO] at h
  |str x=>
   obtain⟨t',rfl⟩:=hd;cases e with
   |non=>cases he;simp[bO] at h;subst h;exact SeqAt.EqAt.str_none _ t'|bl c'=>cases he;simp[bO] at h;subst h;exact Qd0 _ t' c'|int j=>obtain⟨t,rfl⟩:=he;simp[bO] at h;subst h;exact Qbw _ t' j t|str y=>obtain⟨t,rfl⟩:=he;simp[bO,Qxv] at h;subst h;rw[<-Ae];exact Qfk _ t' _ t|tup ys=>obtain⟨a,its,rfl,p,_⟩:=he;simp[bO] at h;subst h;exact SeqAt.EqAt.str_tuple _ t' p hu0|lst ys=>obtain⟨a,its,rfl,p,_⟩:=he;simp[bO] at h;subst h;exact SeqAt.EqAt.str_list _ t' p.isList hu0|_=>simp[bO] at h
  |tup xs=>
   obtain⟨a,its,rfl,p,hs⟩:=hd;cases e with
   |non=>cases he;simp[bO] at h;subst h;exact SeqAt.EqAt.tuple_none p hu0|bl c'=>cases he;simp[bO] at h;subst h;exact SeqAt.EqAt.tuple_bool c' p hu0|int j=>obtain⟨t,rfl⟩:=he;simp[bO] at h;subst h;exact SeqAt.EqAt.tuple_int j t p hu0|str y=>obtain⟨t,rfl⟩:=he;simp[bO] at h;subst h;exact SeqAt.EqAt.tuple_str _ t p hu0
   |tup ys=>
    obtain⟨a',its',rfl,p',hs'⟩:=he;by_cases haa:a=a';subst haa;have:=Gx (n+1) (.tup xs) (.tup ys) (.ref a) b ⟨a,its,rfl,p,hs⟩ ⟨a,its',rfl,p',hs'⟩ h;subst this;exact Qbx _;simp[bO] at h;obtain⟨f,hf,hb⟩:=xW xs ys b h;have l1:=hs.length;have l2:=hs'.length;refine Qfv haa ?_;have:=Qgq (e:=f) p p' hu0 λj h1 h2=>?_;rw[hb];simp[Qq3] at this;rw[l1,l2] at this;exact this;have g1:its[j]?=some its.toArray[j]:=by simp at h1 ⊢
    have g2:its'[j]?=some its'.toArray[j]:=by simp at h2 ⊢
    obtain⟨x,q1,q2⟩:=qZ hs g1;obtain⟨y,q3,q4⟩:=qZ hs' g2;exact Lb n x y _ _ _ A.in1 s q2 q4 (hf j x y q1 q3) hin
   |lst ys=>obtain⟨a',its',rfl,p',_⟩:=he;simp[bO] at h;subst h;exact SeqAt.EqAt.tuple_list p p'.isList hu0|_=>simp[bO] at h
  |lst xs=>
   obtain⟨a,its,rfl,p,hs⟩:=hd;cases e with
   |non=>cases he;simp[bO] at h;subst h;exact SeqAt.EqAt.list_none p.isList hu0|bl c'=>cases he;simp[bO] at h;subst h;exact SeqAt.EqAt.list_bool c' p.isList hu0|int j=>obtain⟨t,rfl⟩:=he;simp[bO] at h;subst h;exact SeqAt.EqAt.list_int j t p.isList hu0|str y=>obtain⟨t,rfl⟩:=he;simp[bO] at h;subst h;exact SeqAt.EqAt.list_str _ t p.isList hu0
   |lst ys=>
    obtain⟨a',its',rfl,p',hs'⟩:=he;have l1:=hs.length;have l2:=hs'.length;by_cases haa:a=a';subst haa;have:=Gx (n+1) (.lst xs) (.lst ys) (.ref a) b ⟨a,its,rfl,p,hs⟩ ⟨a,its',rfl,p',hs'⟩ h;subst this;exact Qbx _;simp[bO] at h;refine Qfv haa ?_;by_cases hl:xs.length=ys.length;obtain⟨f,hf,hb⟩:=xW xs ys b h;have:=SeqAt.RcAt.lists (e:=f) p.isList p'.isList (by simp[Qq3];omega) hu0 λj h1 h2=>?_;rw[hb,<-hl,Qfz,Qy2,Q13,<-l1];simp[Qq3] at this;exact this;have g1:its[j]?=some its.toArray[j]:=by simp at h1 ⊢
    have g2:its'[j]?=some its'.toArray[j]:=by simp at h2 ⊢
    obtain⟨x,q1,q2⟩:=qZ hs g1;obtain⟨y,q3,q4⟩:=qZ hs' g2;exact Lb n x y _ _ _ A.in1 s q2 q4 (hf j x y q1 q3) hin;have:=DG hl b h;subst this;exact SeqAt.RcAt.lists_lengths p.isList p'.isList (by simp[Qq3];rw[l1,l2];simpa using hl) hu0
   |tup ys=>obtain⟨a',its',rfl,p',_⟩:=he;simp[bO] at h;subst h;exact SeqAt.EqAt.list_tuple p.isList p' hu0|_=>simp[bO] at h
  |dct kvs=>cases e<;>simp[bO] at h|iY kvs=>cases e<;>simp[bO] at h|clo _ _=>cases e<;>simp[bO] at h|arr kvs=>cases e<;>simp[bO] at h
def zf(n)(its its')(xs ys)(f:Nat->Bool)(A:Around)(s)(hs:JL s.heap xs its)(hs':JL s.heap ys its')(hf:∀j x y,xs[j]?=some x->ys[j]?=some y->bO n x y=some (f j))(hin:A.in1.units+n<cLine)
  (j) (h1:j<its.toArray.size) (h2:j<its'.toArray.size):SeqAt.EqAt A.in1 s its.toArray[j] its'.toArray[j] (f j):=by
 have g1:its[j]?=some its.toArray[j]:=by simp at h1 ⊢
 have g2:its'[j]?=some its'.toArray[j]:=by simp at h2 ⊢
 obtain⟨x,q1,q2⟩:=qZ hs g1;obtain⟨y,q3,q4⟩:=qZ hs' g2;exact Lb n x y _ _ _ A.in1 s q2 q4 (hf j x y q1 q3) hin
def ahX(n)(d e)(u v)(b)(A)(s)(hd:Sh s.heap d u)(he:Sh s.heap e v)(h:bO (n+1) d e=some b)(hu:A.units+(n+1)<cLine):SeqAt.RcAt A s u v b:=by
 have hu0:A.units<cLine:=by omega
 have hin:A.in1.units+n<cLine:=by show A.units+1+n<cLine;omega
 cases d with
 |non=>
  cases hd;cases e with
  |non=>cases he;simp[bO] at h;subst h;exact SeqAt.RcAt.none_none|bl c'=>cases he;simp[bO] at h;subst h;exact SeqAt.RcAt.none_bool c'|int j=>obtain⟨t,rfl⟩:=he;simp[bO] at h;subst h;exact SeqAt.RcAt.none_int j t|str y=>obtain⟨t,rfl⟩:=he;simp[bO] at h;subst h;exact SeqAt.RcAt.none_str _ t|tup ys=>obtain⟨a',its',rfl,p',hs'⟩:=he;simp[bO] at h;subst h;exact SeqAt.RcAt.none_tuple p' hu0|lst ys=>obtain⟨a',its',rfl,p',hs'⟩:=he;simp[bO] at h;subst h;exact SeqAt.RcAt.none_list p'.isList hu0|_=>simp[bO] at h
 |bl c=>
  cases hd;cases e with
  |non=>cases he;simp[bO] at h;subst h;exact SeqAt.RcAt.bool_none c|bl c'=>cases he;simp[bO,Qxv] at h;subst h;exact SeqAt.RcAt.bool_bool c c'|int j=>obtain⟨t,rfl⟩:=he;simp[bO,Qxv] at h;subst h;exact SeqAt.RcAt.bool_int c j t|str y=>obtain⟨t,rfl⟩:=he;simp[bO] at h;subst h;exact SeqAt.RcAt.bool_str c _ t|tup ys=>obtain⟨a',its',rfl,p',hs'⟩:=he;simp[bO] at h;subst h;exact SeqAt.RcAt.bool_tuple c p' hu0|lst ys=>obtain⟨a',its',rfl,p',hs'⟩:=he;simp[bO] at h;subst h;exact SeqAt.RcAt.bool_list c p'.isList hu0|_=>simp[bO] at h
 |int i=>
  obtain⟨t',rfl⟩:=hd;cases e with
  |non=>cases he;simp[bO] at h;subst h;exact SeqAt.RcAt.int_none i t'|bl c'=>cases he;simp[bO,Qxv] at h;subst h;exact SeqAt.RcAt.int_bool i t' c'|int j=>obtain⟨t,rfl⟩:=he;simp[bO,Qxv] at h;subst h;exact SeqAt.RcAt.int_int i t' j t|str y=>obtain⟨t,rfl⟩:=he;simp[bO] at h;subst h;exact SeqAt.RcAt.int_str i t' _ t|tup ys=>obtain⟨a',its',rfl,p',hs'⟩:=he;simp[bO] at h;subst h;exact SeqAt.RcAt.int_tuple i t' p' hu0|lst ys=>obtain⟨a',its',rfl,p',hs'⟩:=he;simp[bO] at h;subst h;exact SeqAt.RcAt.int_list i t' p'.isList hu0|_=>simp[bO] at h
 |str x=>
  obtain⟨t',rfl⟩:=hd;cases e with
  |non=>cases he;simp[bO] at h;subst h;exact SeqAt.RcAt.str_none _ t'|bl c'=>cases he;simp[bO] at h;subst h;exact SeqAt.RcAt.str_bool _ t' c'|int j=>obtain⟨t,rfl⟩:=he;simp[bO] at h;subst h;exact SeqAt.RcAt.str_int _ t' j t|str y=>obtain⟨t,rfl⟩:=he;simp[bO,Qxv] at h;subst h;rw[<-Ae];exact SeqAt.RcAt.str_str _ t' _ t|tup ys=>obtain⟨a',its',rfl,p',hs'⟩:=he;simp[bO] at h;subst h;exact SeqAt.RcAt.str_tuple _ t' p' hu0|lst ys=>obtain⟨a',its',rfl,p',hs'⟩:=he;simp[bO] at h;subst h;exact SeqAt.RcAt.str_list _ t' p'.isList hu0|_=>simp[bO] at h
 |tup xs=>
  obtain⟨a,its,rfl,p,hs⟩:=hd;cases e with
  |non=>cases he;simp[bO] at h;subst h;exact SeqAt.RcAt.tuple_none p hu0|bl c'=>cases he;simp[bO] at h;subst h;exact SeqAt.RcAt.tuple_bool c' p hu0|int j=>obtain⟨t,rfl⟩:=he;simp[bO] at h;subst h;exact SeqAt.RcAt.tuple_int j t p hu0|str y=>obtain⟨t,rfl⟩:=he;simp[bO] at h;subst h;exact SeqAt.RcAt.tuple_str _ t p hu0|tup ys=>obtain⟨a',its',rfl,p',hs'⟩:=he;simp[bO] at h;have l1:=hs.length;have l2:=hs'.length;obtain⟨f,hf,hb⟩:=xW xs ys b h;have:=Qgq (e:=f) p p' hu0 λj h1 h2=>?_;rw[hb];simp[Qq3] at this;rw[l1,l2] at this;exact this;exact zf n its its' xs ys f A s hs hs' hf hin j h1 h2|lst ys=>obtain⟨a',its',rfl,p',hs'⟩:=he;simp[bO] at h;subst h;exact SeqAt.RcAt.tuple_list p p'.isList hu0|_=>simp[bO] at h
 |lst xs=>
  obtain⟨a,its,rfl,p,hs⟩:=hd;cases e with
  |non=>cases he;simp[bO] at h;subst h;exact SeqAt.RcAt.list_none p.isList hu0|bl c'=>cases he;simp[bO] at h;subst h;exact SeqAt.RcAt.list_bool c' p.isList hu0|int j=>obtain⟨t,rfl⟩:=he;simp[bO] at h;subst h;exact SeqAt.RcAt.list_int j t p.isList hu0|str y=>obtain⟨t,rfl⟩:=he;simp[bO] at h;subst h;exact SeqAt.RcAt.list_str _ t p.isList hu0|tup ys=>obtain⟨a',its',rfl,p',hs'⟩:=he;simp[bO] at h;subst h;exact SeqAt.RcAt.list_tuple p.isList p' hu0|lst ys=>obtain⟨a',its',rfl,p',hs'⟩:=he;simp[bO] at h;have l1:=hs.length;have l2:=hs'.length;by_cases hl:xs.length=ys.length;obtain⟨f,hf,hb⟩:=xW xs ys b h;have:=SeqAt.RcAt.lists (e:=f) p.isList p'.isList (by simp[Qq3];omega) hu0 λj h1 h2=>?_;rw[hb,<-hl,Qfz,Qy2,Q13,<-l1];simp[Qq3] at this;exact this;exact zf n its its' xs ys f A s hs hs' hf hin j h1 h2;have:=DG hl b h;subst this;exact SeqAt.RcAt.lists_lengths p.isList p'.isList (by simp[Qq3];rw[l1,l2];simpa using hl) hu0|_=>simp[bO] at h
 |arr kvs=>cases e<;>simp[bO] at h|dct kvs=>cases e<;>simp[bO] at h|iY kvs=>cases e<;>simp[bO] at h|clo _ _=>cases e<;>simp[bO] at h
def aby(n)(d e)(u v)(b)(A)(s)(hd:Sh s.heap d u)(he:Sh s.heap e v)(h:bO (n+1) d e=some b)(hu:A.units+(n+1)<cLine):SeqAt.RcNeAt A s u v (!b):=by
 have hu0:A.units<cLine:=by omega
 have hin:A.in1.units+n<cLine:=by show A.units+1+n<cLine;omega
 cases d with
 |non=>
  cases hd;cases e with
  |non=>cases he;simp[bO] at h;subst h;exact SeqAt.RcNeAt.none_none|bl c'=>cases he;simp[bO] at h;subst h;exact SeqAt.RcNeAt.none_bool c'|int j=>obtain⟨t,rfl⟩:=he;simp[bO] at h;subst h;exact SeqAt.RcNeAt.none_int j t|str y=>obtain⟨t,rfl⟩:=he;simp[bO] at h;subst h;exact SeqAt.RcNeAt.none_str _ t|tup ys=>obtain⟨a',its',rfl,p',hs'⟩:=he;simp[bO] at h;subst h;exact SeqAt.RcNeAt.none_tuple p' hu0|lst ys=>obtain⟨a',its',rfl,p',hs'⟩:=he;simp[bO] at h;subst h;exact SeqAt.RcNeAt.none_list p'.isList hu0|_=>simp[bO] at h
 |bl c=>
  cases hd;cases e with
  |non=>cases he;simp[bO] at h;subst h;exact SeqAt.RcNeAt.bool_none c|bl c'=>cases he;simp[bO,Qxv] at h;subst h;exact SeqAt.RcNeAt.bool_bool c c'|int j=>obtain⟨t,rfl⟩:=he;simp[bO,Qxv] at h;subst h;exact SeqAt.RcNeAt.bool_int c j t|str y=>obtain⟨t,rfl⟩:=he;simp[bO] at h;subst h;exact SeqAt.RcNeAt.bool_str c _ t|tup ys=>obtain⟨a',its',rfl,p',hs'⟩:=he;simp[bO] at h;subst h;exact SeqAt.RcNeAt.bool_tuple c p' hu0|lst ys=>obtain⟨a',its',rfl,p',hs'⟩:=he;simp[bO] at h;subst h;exact SeqAt.RcNeAt.bool_list c p'.isList hu0|_=>simp[bO] at h
 |int i=>
  obtain⟨t',rfl⟩:=hd;cases e with
  |non=>cases he;simp[bO] at h;subst h;exact SeqAt.RcNeAt.int_none i t'|bl c'=>cases he;simp[bO,Qxv] at h;subst h;exact SeqAt.RcNeAt.int_bool i t' c'|int j=>obtain⟨t,rfl⟩:=he;simp[bO,Qxv] at h;subst h;exact SeqAt.RcNeAt.int_int i t' j t|str y=>obtain⟨t,rfl⟩:=he;simp[bO] at h;subst h;exact SeqAt.RcNeAt.int_str i t' _ t|tup ys=>obtain⟨a',its',rfl,p',hs'⟩:=he;simp[bO] at h;subst h;exact SeqAt.RcNeAt.int_tuple i t' p' hu0|lst ys=>obtain⟨a',its',rfl,p',hs'⟩:=he;simp[bO] at h;subst h;exact SeqAt.RcNeAt.int_list i t' p'.isList hu0|_=>simp[bO] at h
 |str x=>
  obtain⟨t',rfl⟩:=hd;cases e with
  |non=>cases he;simp[bO] at h;subst h;exact SeqAt.RcNeAt.str_none _ t'|bl c'=>cases he;simp[bO] at h;subst h;exact SeqAt.RcNeAt.str_bool _ t' c'|int j=>obtain⟨t,rfl⟩:=he;simp[bO] at h;subst h;exact SeqAt.RcNeAt.str_int _ t' j t|str y=>obtain⟨t,rfl⟩:=he;simp[bO,Qxv] at h;subst h;rw[<-Ae];exact SeqAt.RcNeAt.str_str _ t' _ t|tup ys=>obtain⟨a',its',rfl,p',hs'⟩:=he;simp[bO] at h;subst h;exact SeqAt.RcNeAt.str_tuple _ t' p' hu0|lst ys=>obtain⟨a',its',rfl,p',hs'⟩:=he;simp[bO] at h;subst h;exact SeqAt.RcNeAt.str_list _ t' p'.isList hu0|_=>simp[bO] at h
 |tup xs=>
  obtain⟨a,its,rfl,p,hs⟩:=hd;cases e with
  |non=>cases he;simp[bO] at h;subst h;exact SeqAt.RcNeAt.tuple_none p hu0|bl c'=>cases he;simp[bO] at h;subst h;exact SeqAt.RcNeAt.tuple_bool c' p hu0|int j=>obtain⟨t,rfl⟩:=he;simp[bO] at h;subst h;exact SeqAt.RcNeAt.tuple_int j t p hu0|str y=>obtain⟨t,rfl⟩:=he;simp[bO] at h;subst h;exact SeqAt.RcNeAt.tuple_str _ t p hu0|tup ys=>obtain⟨a',its',rfl,p',hs'⟩:=he;simp[bO] at h;have l1:=hs.length;have l2:=hs'.length;obtain⟨f,hf,hb⟩:=xW xs ys b h;have:=SeqAt.RcNeAt.tuples (e:=f) p p' hu0 λj h1 h2=>?_;rw[hb];simp only[Qq3] at this;rw[l1,l2] at this;exact this;exact zf n its its' xs ys f A s hs hs' hf hin j h1 h2|lst ys=>obtain⟨a',its',rfl,p',hs'⟩:=he;simp[bO] at h;subst h;exact SeqAt.RcNeAt.tuple_list p p'.isList hu0|_=>simp[bO] at h
 |lst xs=>
  obtain⟨a,its,rfl,p,hs⟩:=hd;cases e with
  |non=>cases he;simp[bO] at h;subst h;exact SeqAt.RcNeAt.list_none p.isList hu0|bl c'=>cases he;simp[bO] at h;subst h;exact SeqAt.RcNeAt.list_bool c' p.isList hu0|int j=>obtain⟨t,rfl⟩:=he;simp[bO] at h;subst h;exact SeqAt.RcNeAt.list_int j t p.isList hu0|str y=>obtain⟨t,rfl⟩:=he;simp[bO] at h;subst h;exact SeqAt.RcNeAt.list_str _ t p.isList hu0|tup ys=>obtain⟨a',its',rfl,p',hs'⟩:=he;simp[bO] at h;subst h;exact SeqAt.RcNeAt.list_tuple p.isList p' hu0|lst ys=>obtain⟨a',its',rfl,p',hs'⟩:=he;simp[bO] at h;have l1:=hs.length;have l2:=hs'.length;by_cases hl:xs.length=ys.length;obtain⟨f,hf,hb⟩:=xW xs ys b h;have:=SeqAt.RcNeAt.lists (e:=f) p.isList p'.isList (by simp[Qq3];omega) hu0 λj h1 h2=>?_;rw[hb,<-hl,Qfz,Qy2,Q13,<-l1];simp[Qq3] at this;exact this;exact zf n its its' xs ys f A s hs hs' hf hin j h1 h2;have:=DG hl b h;subst this;exact SeqAt.RcNeAt.lists_lengths p.isList p'.isList (by simp[Qq3];rw[l1,l2];simpa using hl) hu0|_=>simp[bO] at h
 |arr kvs=>cases e<;>simp[bO] at h|dct kvs=>cases e<;>simp[bO] at h|iY kvs=>cases e<;>simp[bO] at h|clo _ _=>cases e<;>simp[bO] at h
section
variable{X:Cx}{C:Cfg}
def aib(K:Fg):R2:=λx y H Q=>∃dx dy b,Rep K H dx x/\Rep K H dy y/\bO 60 dx dy=some b/\Q (.bl b) H
def ah2(K:Fg):R2:=λx y H Q=>∃dx dy b,Rep K H dx x/\Rep K H dy y/\bO 60 dx dy=some b/\Q (.bl (!b)) H
def afG(hu:X.A.units+60<cLine):qN X (compareOp .Eq) (aib X.K):=by intro pins s σ H x y v u Q I rx ry h;obtain⟨dx,dy,b,h1,h2,h3,q⟩:=h;exact ahX 59 dx dy v u b X.A s (Rep.sh I dx x v h1 rx) (Rep.sh I dy y u h2 ry) h3 hu X.prog X.w X.xe _ ⟨.bl b,H,I,rfl,q⟩
def afz(hu:X.A.units+60<cLine):qN X (compareOp .NotEq) (ah2 X.K):=by intro pins s σ H x y v u Q I rx ry h;obtain⟨dx,dy,b,h1,h2,h3,q⟩:=h;exact aby 59 dx dy v u b X.A s (Rep.sh I dx x v h1 rx) (Rep.sh I dy y u h2 ry) h3 hu X.prog X.w X.xe _ ⟨.bl<|!b,H,I,rfl,q⟩
def lV(x y:D):Option D:=(bO 60 x y).map .bl
def yf(x y:D):Option D:=(bO 60 x y).map λb=>.bl (!b)
def aiD:tV C (aib C.K) lV:=by
 intro Pr F env σ H x y d vx vy Q r hx hy h q;unfold lV at h;cases e:bO 60 x y with
 |none=>rw[e] at h;cases h|some b=>rw[e] at h;cases h;exact⟨x,y,b,hx.rep r.fr,hy.rep r.fr,e,q _ H F r (bu.refl F) rfl⟩
def aix:tV C (ah2 C.K) yf:=by
 intro Pr F env σ H x y d vx vy Q r hx hy h q;unfold yf at h;cases e:bO 60 x y with
 |none=>rw[e] at h;cases h|some b=>rw[e] at h;cases h;exact⟨x,y,b,hx.rep r.fr,hy.rep r.fr,e,q _ H F r (bu.refl F) rfl⟩
def W0(x:D):List D->Option Bool
 |[]=>some false
 |y::ys=>match bO 59 y x,W0 x ys with
  |some a,some b=>some (a||b)|_,_=>none
theorem Ub(x):∀ys b,W0 x ys=some b->(∀y∈ys,∃c,bO 59 y x=some c)/\(b=true ↔ ∃y∈ys,bO 59 y x=some true)
 |[],b,h=>by simp[W0] at h;subst h;simp
 |y::ys,b,h=>by
  unfold W0 at h;cases h1:bO 59 y x with
  |none=>rw[h1] at h;simp at h
  |some c=>
   cases h2:W0 x ys with
   |none=>rw[h1,h2] at h;simp at h
   |some d=>
    rw[h1,h2] at h;obtain⟨i1,i2⟩:=Ub x ys d h2;have hb:b=(c||d):=by simpa using h.symm
    refine⟨λz hz=>?_,?_⟩;rcases Qq4.mp hz with rfl|hz;exact⟨c,h1⟩;exact i1 z hz;rw[hb,Qdy];constructor;rintro(hc|hd);exact⟨y,Qqj,by rw[h1,hc]⟩;obtain⟨z,hz,e⟩:=i2.mp hd;exact⟨z,Qqk _ hz,e⟩;rintro⟨z,hz,e⟩;rcases Qq4.mp hz with rfl|hz;rw[h1] at e;left;simpa using e;right;exact i2.mpr ⟨z,hz,e⟩
open Classical in
noncomputable def R5(h:Heap)(x:D)(u:Value):Bool:=decide (∃y,Sh h y u/\bO 59 y x=some true)
open Classical in
def Lp(hy:Sh h y u)(e:bO 59 y x=some c):R5 h x u=c:=by
 unfold R5;cases c with
 |true=>exact Qw0 ⟨y,hy,e⟩|false=>refine Qwy ?_;rintro⟨z,hz,e'⟩;have:=Us 59 z y x u true false hz hy e' e;cases this
def RG(hx:Sh s.heap x v)(hs:JL s.heap ys us)(h:W0 x ys=some b)(hu:A.units+59<cLine) :
  (∀w,w∈us.toArray->SeqAt.EqAt A s w v (R5 s.heap x w))/\us.toArray.any (R5 s.heap x)=b:=by
 obtain⟨h1,h2⟩:=Ub x ys b h;have item:∀w∈us,∃y∈ys,Sh s.heap y w:=λw hw=>by
  obtain⟨j,hj,e⟩:=Q1x.mp hw;obtain⟨d,e1,e2⟩:=qZ hs (show us[j]?=some w by rw[Qq7 hj,e]);exact⟨d,Qwk e1,e2⟩
 have back:∀{ys} {us},JL s.heap ys us->∀y∈ys,∃w∈us,Sh s.heap y w:=by
  intro ys;induction ys with
  |nil=>intro us _ y hy;cases hy|cons z zs ih=>intro us hs y hy;obtain⟨w,r,rfl,g1,g2⟩:=hs;rcases Qq4.mp hy with rfl|hy;exact⟨w,Qqj,g1⟩;obtain⟨w',m,g⟩:=ih g2 y hy;exact⟨w',Qqk _ m,g⟩
 refine⟨λw hw=>?_,?_⟩;obtain⟨y,hy,sy⟩:=item w (by simpa using hw);obtain⟨c,hc⟩:=h1 y hy;rw[Lp sy hc];exact Lb 59 y x w v c A s sy hx hc hu;rw[List.any_toArray,Qvv,h2,List.any_eq_true];constructor;rintro⟨w,hw,e⟩;obtain⟨y,hy,sy⟩:=item w hw;obtain⟨c,hc⟩:=h1 y hy;rw[Lp sy hc] at e;subst e;exact⟨y,hy,hc⟩;rintro⟨y,hy,e⟩;obtain⟨w,hw,sy⟩:=back hs y hy;exact⟨w,hw,Lp sy e⟩
def Xx:D->Option (List D)
 |.tup xs=>some xs|.lst xs=>some xs|.arr xs=>some xs|_=>none
def ae0(K:Fg)(neg:Bool):R2:=λx y H Q=>∃dx dy ys b,Rep K H dx x/\Rep K H dy y/\Xx dy=some ys/\W0 dx ys=some b/\Q (.bl (if neg then !b else b)) H
def afE(hu:X.A.units+61<cLine):qN X (compareOp .In) (ae0 X.K false):=by
 intro pins s σ H x y v u Q I rx ry h;obtain⟨dx,dy,ys,b,h1,h2,h3,h4,q⟩:=h;have hx:=Rep.sh I dx x v h1 rx;have hy:=Rep.sh I dy y u h2 ry;have hin:X.A.in1.units+59<cLine:=by show X.A.units+1+59<cLine;omega
 cases dy with
 |tup zs=>cases h3;obtain⟨a,its,rfl,p,hs⟩:=hy;obtain⟨g1,g2⟩:=RG hx hs h4 hin;refine SeqAt.in_tupleAt (R5 s.heap dx) p g1 ⟨.bl _,H,I,rfl,?_⟩;rw[g2];exact q|lst zs=>cases h3;obtain⟨a,its,rfl,p,hs⟩:=hy;obtain⟨g1,g2⟩:=RG hx hs h4 hin;refine SeqAt.in_listAt (R5 s.heap dx) p.isList g1 ⟨.bl _,H,I,rfl,?_⟩;rw[g2];exact q|arr zs=>cases h3;obtain⟨a,its,rfl,p,hs⟩:=hy;obtain⟨g1,g2⟩:=RG hx hs h4 hin;refine SeqAt.in_listAt (R5 s.heap dx) p.isList g1 ⟨.bl _,H,I,rfl,?_⟩;rw[g2];exact q|_=>cases h3
end
def tV.or(h:tV C r g)(h':tV C r' g'):tV C (λx y H Q=>r x y H Q\/r' x y H Q) (λx y=>(g x y).or (g' x y)):=by
 intro Pr F env σ H x y d vx vy Q rl hx hy e q;have e:(g x y).or (g' x y)=some d:=e;cases e1:g x y with
 |some c=>rw[e1] at e;cases e;exact .inl<|h Pr F env σ H x y d vx vy Q rl hx hy e1 q|none=>rw[e1] at e;exact .inr<|h' Pr F env σ H x y d vx vy Q rl hx hy e q
section
variable{X:Cx}{C:Cfg}
def agz(x y:D):Option D:=match Xx y with
 |some ys=>(W0 x ys).map .bl|none=>none
def afU:tV C (ae0 C.K false) agz:=by
 intro Pr F env σ H x y d vx vy Q r hx hy h q;unfold agz at h;cases e1:Xx y with
 |none=>rw[e1] at h;cases h
 |some ys=>
  rw[e1] at h;cases e:W0 x ys with
  |none=>simp only[e,Option.map_none] at h;cases h|some b=>simp[e,Qdv] at h;cases h;exact⟨x,y,ys,b,hx.rep r.fr,hy.rep r.fr,e1,e,q _ H F r (bu.refl F) rfl⟩
def agy(x y:D):Option D:=match x,y with
 |.str [c],.str z=>some (.bl (decide (c∈z)))|_,_=>none
abbrev ah8:R2:=λx y H Q=>∃i j,x=.str i/\y=.str j/\Q (.bl (!(Builtin.Str.occurrences j i 0 j.length 1).isEmpty)) H
def one_sign(c)(z):(!(Builtin.Str.occurrences (strOf z) (strOf [c]) 0 (strOf z).length 1).isEmpty)=decide (c∈z):=by
 have:=StrLaws.found_one (strOf z) c;unfold strOf at this ⊢
 simpa using this
def afT:tV C ah8 agy:=by
 intro Pr F env σ H x y d vx vy Q r hx hy h q;unfold agy at h;split at h;rename_i c z;cases h;obtain⟨rfl,_⟩:=hx.str;obtain⟨rfl,_⟩:=hy.str;refine⟨_,_,rfl,rfl,?_⟩;rw[one_sign];exact q _ H F r (bu.refl F) rfl;cases h
def gIn(x y:D):Option D:=(agz x y).or (agy x y)
abbrev aia(K:Fg):R2:=λx y H Q=>ae0 K false x y H Q\/ah8 x y H Q
def afF(hu:X.A.units+61<cLine):qN X (compareOp .In) (aia X.K):=(afE hu).or VJ
def aiB:tV C (aia C.K) gIn:=afU.or afT
def isPlain(x:V):Prop:=x=.non\/∃b,x=.bl b
def afD:qN X (compareOp .Is) (λx y H Q=>isPlain y/\Q (.bl (decide (x=y))) H):=by
 intro pins s σ H x y v u Q I rx ry h;obtain⟨hp,q⟩:=h;rcases hp with rfl|⟨b,rfl⟩;exact afC pins s σ H x .non v u Q I rx ry ⟨rfl,q⟩;cases ry;refine wpAny_is_plain ?_<|K3 I q ?_;cases x<;>first|(cases rx;rfl)|(obtain⟨t,rfl⟩:=rx;rfl)
 cases x with
 |bl c=>cases rx;cases b<;>cases c<;>rfl|_=>first|(cases rx;rfl)|(obtain⟨t,rfl⟩:=rx;rfl)
def isD:D->D->Option Bool
 |.non,.non=>some true|.bl a,.bl b=>some (a == b)|_,.non=>some false|_,.bl _=>some false|_,_=>none
def gIs(x y:D):Option D:=(isD x y).map .bl
def ai3(hx:jt C.K F H x vx)(hy:jt C.K F H y vy)(h:isD x y=some b):isPlain vy/\decide (vx=vy)=b:=by
 have akA:∀a,¬(V.ref a=V.non):=λa e=>by cases e
 cases y with
 |non=>
  obtain rfl:=hy.non;refine⟨.inl rfl,?_⟩;cases x with
  |non=>obtain rfl:=hx.non;simp[isD] at h;simp[h]|bl c=>obtain rfl:=hx.bl;simp[isD] at h;simp[h]|int i=>obtain rfl:=hx.int;simp[isD] at h;simp[h]|str z=>obtain⟨rfl,_⟩:=hx.str;simp[isD] at h;simp[h]|tup xs=>rcases hx with ⟨_,a,_,rfl,_⟩|⟨a,rfl,_⟩<;>(simp[isD] at h;simp[h])
  |lst xs=>rcases hx with ⟨_,a,_,rfl,_⟩|⟨a,rfl,_⟩<;>(simp[isD] at h;simp[h])
  |arr xs=>rcases hx with ⟨_,a,_,rfl,_⟩|⟨a,rfl,_⟩<;>(simp[isD] at h;simp[h])
  |dct xs=>rcases hx with ⟨_,a,_,rfl,_⟩|⟨a,rfl,_⟩<;>(simp[isD] at h;simp[h])
  |iY xs=>rcases hx with ⟨_,a,_,rfl,_⟩|⟨a,rfl,_⟩<;>(simp[isD] at h;simp[h])
  |clo st xs=>rcases hx with ⟨a,_,rfl,_⟩|⟨a,rfl,_⟩<;>(simp[isD] at h;simp[h])
 |bl k=>
  obtain rfl:=hy.bl;refine⟨.inr ⟨k,rfl⟩,?_⟩;cases x with
  |non=>obtain rfl:=hx.non;simp[isD] at h;simp[h]|bl c=>obtain rfl:=hx.bl;simp[isD,Qxv] at h;rw[<-h,agJ]|int i=>obtain rfl:=hx.int;simp[isD] at h;simp[h]|str z=>obtain⟨rfl,_⟩:=hx.str;simp[isD] at h;simp[h]|tup xs=>rcases hx with ⟨_,a,_,rfl,_⟩|⟨a,rfl,_⟩<;>(simp[isD] at h;simp[h])
  |lst xs=>rcases hx with ⟨_,a,_,rfl,_⟩|⟨a,rfl,_⟩<;>(simp[isD] at h;simp[h])
  |arr xs=>rcases hx with ⟨_,a,_,rfl,_⟩|⟨a,rfl,_⟩<;>(simp[isD] at h;simp[h])
  |dct xs=>rcases hx with ⟨_,a,_,rfl,_⟩|⟨a,rfl,_⟩<;>(simp[isD] at h;simp[h])
  |iY xs=>rcases hx with ⟨_,a,_,rfl,_⟩|⟨a,rfl,_⟩<;>(simp[isD] at h;simp[h])
  |clo st xs=>rcases hx with ⟨a,_,rfl,_⟩|⟨a,rfl,_⟩<;>(simp[isD] at h;simp[h])
 |_=>cases x<;>simp[isD] at h
def aiA:tV C (λx y H Q=>isPlain y/\Q (.bl (decide (x=y))) H) gIs:=by
 intro Pr F env σ H x y d vx vy Q r hx hy h q;unfold gIs at h;cases e:isD x y with
 |none=>rw[e] at h;cases h|some b=>rw[e] at h;cases h;obtain⟨h1,h2⟩:=ai3 hx hy e;exact⟨h1,by rw[h2];exact q _ H F r (bu.refl F) rfl⟩
def gI(c:Int->Int->Bool)(f:Int->Int->D)(x y:D):Option D:=match x,y with
 |.int i,.int j=>if c i j=true then some (f i j) else none|_,_=>none
def Zh(hc:∀i j,c i j=true->Cd i j)(hf:∀i j F,Rep C.K F (f i j) (g i j)):tV C (rI Cd g) (gI c f):=by
 intro Pr F env σ H x y d vx vy Q r hx hy h q;unfold gI at h;split at h;rename_i i j;split at h;rename_i hcc;cases h;obtain rfl:=hx.int;obtain rfl:=hy.int;exact⟨i,j,rfl,rfl,hc i j hcc,q _ H F r (bu.refl F)<|hf i j F⟩;cases h;cases h
def NB(hf:∀i j F,Rep C.K F (f i j) (g i j)):tV C (Ql g) (gI (λ_ _=>true) f):=by
 intro Pr F env σ H x y d vx vy Q r hx hy h q;unfold gI at h;split at h;rename_i i j;rw[Qv4 rfl] at h;cases h;obtain rfl:=hx.int;obtain rfl:=hy.int;exact⟨i,j,rfl,rfl,q _ H F r (bu.refl F)<|hf i j F⟩;cases h
def oY(i j:Int):Bool:=decide (Builtin.Int.intBits i+Builtin.Int.intBits j<=134217728)
def ab8:qN X (binaryOp .Mult) (rI (λi j=>oY i j=true) λi j=>.int (i*j)):=
 opI λi j _ _ _ _ _ hc q=>mul_int q<|mulOk_of_bits (Qq0 _) (Qq0 _)<|Qxy hc
def xV:D->D->Option D:=gI oY λi j=>.int (i*j)
def uX:D->D->Option D:=gI (λ_ _=>true) λi j=>.int (i - j)
def agw:D->D->Option D:=gI (λ_ j=>decide (0<j)) λi j=>.int (i % j)
def RL:D->D->Option D:=gI (λi j=>decide (0<=j/\j<=1000000/\i.natAbs<2^64)) λi j=>.int (i^j.toNat)
def Wg:D->D->Option D:=gI (λi j=>decide (0<=j/\j<=1000000/\i.natAbs<2^64)) λi j=>.int (i*2^j.toNat)
def HX:D->D->Option D:=gI (λ_ j=>decide (0<=j)) λi j=>.int (i / 2^j.toNat)
def K1:D->D->Option D:=gI (λ_ _=>true) λi j=>.int (Builtin.bitAnd i j)
def afP:tV C (rI (λi j=>oY i j=true) λi j=>.int (i*j)) xV:=Zh (λ_ _ h=>h) λ_ _ _=>rfl
def afL:tV C (Ql λi j=>.int (i - j)) uX:=NB λ_ _ _=>rfl
def afQ:tV C (rI (λ_ j=>0<j) λi j=>.int (i % j)) agw:=Zh (λ_ _ h=>Qxy h) λ_ _ _=>rfl
def afO:tV C (rI adq λi j=>.int (i^j.toNat)) RL:=Zh (λi j h=>(show 0<=j/\j<=1000000/\i.natAbs<2^64 from Qxy h)) λ_ _ _=>rfl
def afN:tV C (rI adq λi j=>.int (i*2^j.toNat)) Wg:=Zh (λi j h=>(show 0<=j/\j<=1000000/\i.natAbs<2^64 from Qxy h)) λ_ _ _=>rfl
def afM:tV C (rI (λ_ j=>0<=j) λi j=>.int (i / 2^j.toNat)) HX:=Zh (λ_ _ h=>Qxy h) λ_ _ _=>rfl
def afV:tV C (Ql λi j=>.int (Builtin.bitAnd i j)) K1:=NB λ_ _ _=>rfl
abbrev ah3:R2:=λx y H Q=>∃i j,x=.str i/\y=.str j/\Q (.bl (decide (i.cps.toList<j.cps.toList))) H
def ajd:D->D->Option D:=gI (λ_ _=>true) λi j=>.bl (decide (i<j))
def agx(x y:D):Option D:=match x,y with
 |.str a,.str b=>some (.bl (decide (a<b)))|_,_=>none
def wV(x y:D):Option D:=(ajd x y).or (agx x y)
def gLe:D->D->Option D:=gI (λ_ _=>true) λi j=>.bl (decide (i<=j))
def gGt:D->D->Option D:=gI (λ_ _=>true) λi j=>.bl (decide (j<i))
def afR:tV C ah3 agx:=by
 intro Pr F env σ H x y d vx vy Q r hx hy h q;unfold agx at h;split at h;cases h;obtain⟨rfl,_⟩:=hx.str;obtain⟨rfl,_⟩:=hy.str;exact⟨_,_,rfl,rfl,q _ H F r (bu.refl F) (by congr)⟩;cases h
abbrev ah4:R2:=λx y H Q=>Ql (λi j=>.bl (decide (i<j))) x y H Q\/ah3 x y H Q
def afB:qN X (compareOp .Lt) ah4:=ait.or VH
def afS:tV C (Ql λi j=>.bl (decide (i<j))) ajd:=NB λ_ _ _=>rfl
def aiy:tV C ah4 wV:=afS.or afR
def aiz:tV C (Ql λi j=>.bl (decide (i<=j))) gLe:=NB λ_ _ _=>rfl
def aiC:tV C (Ql λi j=>.bl (decide (j<i))) gGt:=NB λ_ _ _=>rfl
def Yg(K:Fg):R2:=λx y H Q=>∃a b ys,x=.ref a/\y=.ref b/\pg K H a []/\pg K H b ys/\Q (.ref b) H
def Zc:qN X (binaryOp .Add) (Yg X.K):=by
 intro pins s σ H x y v u Q I rx ry h;obtain⟨a,b,ys,rfl,rfl,ha,hb,q⟩:=h;cases rx;cases ry;obtain⟨its,r1,p1,_⟩:=I.tuple ha;obtain⟨its2,r2,p2,_⟩:=I.tuple hb;cases r1;obtain⟨⟨cls,dd,data,sl⟩,ho,hc,n,hd⟩:=id p1;obtain⟨⟨cls2,dd2,data2,sl2⟩,ho2,hc2,n2,hd2⟩:=id p2;simp at hc hd hc2 hd2;subst hc hd hc2 hd2;exact concat_meets ⟨_,ho,rfl⟩ ⟨_,ho2,rfl⟩ Qg6 seq_tuple_add Qb5 Qb2 (Qy7 _ _)
  (tuple_addW0 a b [].toArray its2.toArray n n2 dd dd2 sl sl2 (by simp)) ⟨ho,ho2,⟨.ref b,H,I,rfl,q⟩⟩
abbrev aid:R2:=λx y H Q=>∃i j,x=.str i/\y=.str j/\i.length+j.length<=sizeLine/\Q (.str (i++j)) H
abbrev aie(K:Fg):R2:=λx y H Q=>Ql (λi j=>.int (i+j)) x y H Q\/aid x y H Q\/aic x y H Q\/adN K x y H Q\/Yg K x y H Q
def aca:qN X (binaryOp .Add) (aie X.K):=afI.or<|Ro.or<|Zd.or<|ab9.or Zc
def cU(x y:D):Option D:=match x,y with
 |.int i,.int j=>some (.int (i+j))|.str a,.str b=>if a.length+b.length<=sizeLine then some (.str (a++b)) else none|.lst a,.lst b=>if a.length+b.length<=sizeLine then some (.lst (a++b)) else none|.tup a,.tup b=>if a.length+b.length<=sizeLine then some (.tup (a++b)) else none|_,_=>none
def JX(a b):strOf a++strOf b=strOf (a++b):=by show(⟨(strOf a).cps++(strOf b).cps⟩:Str)=_;unfold strOf;simp
def gF(a):(strOf a).length=a.length:=by show a.toArray.size=a.length;simp
def afW:tV C (aie C.K) cU:=by
 intro Pr F env σ H x y d vx vy Q r hx hy h q;unfold cU at h;split at h;cases h;obtain rfl:=hx.int;obtain rfl:=hy.int;exact .inl ⟨_,_,rfl,rfl,q _ H F r (bu.refl F) rfl⟩;split at h;rename_i hz;cases h;obtain⟨rfl,_⟩:=hx.str;obtain⟨rfl,_⟩:=hy.str;refine .inr<|.inl ⟨_,_,rfl,rfl,by rw[gF,gF];exact hz,?_⟩;rw[JX];exact q _ H F r (bu.refl F) ⟨rfl,by rw[Qqv];exact hz⟩;cases h;split at h;rename_i hz;cases h;obtain⟨_,a,vs,rfl,h1,h2⟩:=hx.lst r.fr;obtain⟨_,b,ws,rfl,h3,h4⟩:=hy.lst r.fr;refine .inr<|.inr<|.inl ⟨a,b,vs,ws,rfl,rfl,h1,h3,by rw[h2.length,h4.length];exact hz,λp hp=>?_⟩;obtain⟨r2,s2⟩:=r.new hp;exact q _ _ _ r2 s2 ⟨by rw[Qqv];exact hz,p,_,rfl,bA,cN.mono s2 _ _<|h2.append h4⟩;cases h;split at h;rename_i hz;cases h;obtain⟨z1,a,vs,rfl,h1,f1,h2⟩:=hx.tup r.fr;obtain⟨z2,b,ws,rfl,h3,f3,h4⟩:=hy.tup r.fr;by_cases hv:vs=[];subst hv;have e1:=h2.length.symm;have e2:=Qkq e1;subst e2;refine .inr<|.inr<|.inr<|.inr ⟨a,b,ws,rfl,rfl,h1,h3,?_⟩;exact q _ H F r (bu.refl F) ⟨z2,b,ws,rfl,f3,h4⟩;refine .inr<|.inr<|.inr<|.inl ⟨a,b,vs,ws,rfl,rfl,h1,h3,hv,by rw[h2.length,h4.length];exact hz,λhw=>?_,λhw p hp=>?_⟩;subst hw;have e1:=h4.length.symm;have e2:=Qkq e1;subst e2;rw[Qw8] at q;exact q _ H F r (bu.refl F) ⟨z1,a,vs,rfl,f1,h2⟩;obtain⟨r2,s2⟩:=r.new hp;exact q _ _ _ r2 s2 ⟨by rw[Qqv];exact hz,p,_,rfl,pg.of bA,cN.mono s2 _ _<|h2.append h4⟩;cases h;cases h
def Qk(K:Fg)(F H:Hp):List D->List V->Prop
 |[],vs=>vs=[]|d::ds,vs=>∃v r,vs=v::r/\jt K F H d v/\Qk K F H ds r
def tAB(C:Cfg)(ev:eZ):TA:=λσ H Q=>∃(Pr F:Hp) (env env':Env) (ds:List D),Rel C Pr F env σ H/\ev env=.ok ds env'/\
 ∀vs H' F',Rel C Pr F' env' σ H'->bu F F'->Qk C.K F' H' ds vs->Q vs H'
def adm(X:Cx)(C:Cfg)(es:List Expr)(ev:eZ):Prop:=PA X es (tAB C ev)
def CallD(C:Cfg)(r:List V->Hp->VK->Prop)(g:List D->Option D):Prop:=∀(Pr F:Hp) (env:Env) (σ:L2.St) (H:Hp) (ds:List D) (d:D) (vs:List V) (Q:VK),Rel C Pr F env σ H->Qk C.K F H ds vs->g ds=some d->
 (∀v H' F',Rel C Pr F' env σ H'->bu F F'->Rep C.K F' d v->Q v H')->r vs H Q
def au(g:List D->Option D)(a:eZ):Ev:=λenv=>bindR (a env) λds aR=>jj (g ds) aR
def Uy(o:CallD C r g)(σ)(H)(Q)(h:tE C (au g a) σ H Q):tCB r (tAB C a) σ H Q:=by obtain⟨Pr,F,env,env',d,rl,e,q⟩:=h;obtain⟨ds,aR,e1,e2⟩:=bf e;obtain⟨e3,rfl⟩:=d7 e2;exact⟨Pr,F,env,env',ds,rl,e1,λvs H1 F1 r1 s1 p1=>o Pr F1 env' σ H1 ds d vs Q r1 p1 e3 λv H2 F2 r2 s2 p2=>q v H2 F2 r2 (s1.trans s2) p2⟩
def ql{p pos:Pos}{id:String}(hc:jQ X (.builtin id) r)(o:CallD C r g)(hg:Gl X x)(hm:X.mg x=none)(hv:bootBuiltins x=some (.builtin id))(ha:adm X C (e::es) a)
  (hn:x ≠ "__name__":=by decide) (hdb:qT x:=by decide) (he:starEach (e::es) X.env=(false,eval e X.env)::starEach es X.env:=by rfl) (hpl:(backTo pos (starEach es X.env)).any (·.1)=false:=by rfl) :
  PX X C (.Call (.Name x p) (e::es) [] pos) (au g a):=(Fp hc hg hm hv ha hn hdb he hpl).imp<|Uy o
def vZ{p pos:Pos}(hc:jQ X (.type T) r)(o:CallD C r g)(hg:Gl X x)(hm:X.mg x=none)(hv:bootBuiltins x=some (.type T))(ha:adm X C (e::es) a)
  (hn:x ≠ "__name__":=by decide) (hdb:qT x:=by decide) (he:starEach (e::es) X.env=(false,eval e X.env)::starEach es X.env:=by rfl) (hpl:(backTo pos (starEach es X.env)).any (·.1)=false:=by rfl) :
  PX X C (.Call (.Name x p) (e::es) [] pos) (au g a):=(Aw hc hg hm hv ha hn hdb he hpl).imp<|Uy o
def nR{K:Fg}(h:Qk K F H [d] vs):∃v,vs=[v]/\jt K F H d v:=by obtain⟨v,r,rfl,h1,h2⟩:=h;cases h2;exact⟨v,rfl,h1⟩
def R3{K:Fg}(h:Qk K F H [d,e] vs):∃v w,vs=[v,w]/\jt K F H d v/\jt K F H e w:=by obtain⟨v,r,rfl,h1,h2⟩:=h;obtain⟨w,rfl,h3⟩:=nR h2;exact⟨v,w,rfl,h1,h3⟩
def cJ:List D->Option D
 |[.str x]=>some (.int x.length)|[.tup xs]=>some (.int xs.length)|[.lst xs]=>some (.int xs.length)|[.arr xs]=>some (.int xs.length)|_=>none
def agT:CallD C (λxs H Q=>∃x n,xs=[x]/\ajC C.K x H n/\Q (.int n) H) cJ:=by
 intro Pr F env σ H ds d vs Q r hs h q;unfold cJ at h;split at h;cases h;obtain⟨v,rfl,hv⟩:=nR hs;obtain⟨rfl,hz⟩:=hv.str;exact⟨_,_,rfl,⟨by rw[gF];exact hz,(gF _).symm⟩,q _ H F r (bu.refl F) rfl⟩;cases h;obtain⟨v,rfl,hv⟩:=nR hs;obtain⟨_,a,ws,rfl,h1,_,h2⟩:=hv.tup r.fr;exact⟨_,_,rfl,.inr ⟨ws,h1,h2.length.symm⟩,q _ H F r (bu.refl F) rfl⟩;cases h;obtain⟨v,rfl,hv⟩:=nR hs;obtain⟨_,a,ws,rfl,h1,h2⟩:=hv.lst r.fr;exact⟨_,_,rfl,.inl ⟨ws,lK.of h1,h2.length.symm⟩,q _ H F r (bu.refl F) rfl⟩;cases h;obtain⟨v,rfl,hv⟩:=nR hs;obtain⟨_,a,ws,rfl,h1,h2⟩:=hv.arr r.fr;exact⟨_,_,rfl,.inl ⟨ws,h1,h2.length.symm⟩,q _ H F r (bu.refl F) rfl⟩;cases h
def cO:List D->Option D
 |[.tup xs]=>some (.tup xs)|[.lst xs]=>some (.tup xs)|_=>none
abbrev X4(K:Fg):List V->Hp->VK->Prop:=λxs H Q=>∃p ys,xs=[.ref p]/\((lK K H p ys/\∀l,H l=none->Q (.ref l) (upd H l (.tup ys)))\/(pg K H p ys/\Q (.ref p) H))
def aaH:CallD C (X4 C.K) cO:=by
 intro Pr F env σ H ds d vs Q r hs h q;unfold cO at h;split at h;cases h;obtain⟨v,rfl,hv⟩:=nR hs;obtain⟨z,a,ws,rfl,h1,f1,h2⟩:=hv.tup r.fr;exact⟨a,ws,rfl,.inr ⟨h1,q _ H F r (bu.refl F) ⟨z,a,ws,rfl,f1,h2⟩⟩⟩;cases h;obtain⟨v,rfl,hv⟩:=nR hs;obtain⟨z,a,ws,rfl,h1,h2⟩:=hv.lst r.fr;refine⟨a,ws,rfl,.inl ⟨lK.of h1,λl hl=>?_⟩⟩;obtain⟨r2,s2⟩:=r.new hl;exact q _ _ _ r2 s2 ⟨z,l,ws,rfl,pg.of bA,cN.mono s2 _ _ h2⟩;cases h
def signs(x:List Nat):List D:=x.map λc=>.str [c]
abbrev X6:List V->Hp->VK->Prop:=λxs H Q=>∃z,xs=[.str z]/\z.length<=sizeLine/\∀l,H l=none->Q (.ref l) (upd H l (.lst (z.cps.toList.map λc=>V.str ⟨#[c]⟩)))
def RW(hh:X.calm=true):jQ X (.type "list") X6:=by
 intro pins s σ H xs us Q I r h;obtain⟨z,rfl,hz,q⟩:=h;obtain⟨u,rfl,⟨t,rfl⟩⟩:=vals1 r;refine call_list_str (I.ok.hd hh) z t (λh' tk acc' c' kp e hacc=>?_) hz;refine⟨.ref s.heap.objs.size,_,I.laid kp (Qq0 _)<|show jx X.prog X.w _ h' _ (.lst<|z.cps.toList.map λc=>V.str ⟨#[c]⟩) from⟨?_,acc'.toList,c',?_,by simpa using e⟩,rfl,q _<|I.hok.fresh<|Qq0 _⟩;simpa[Str.length] using hz;obtain⟨hsz,hit⟩:=hacc;have go:∀(cs:List Nat) vs,vs.length=cs.length->(∀(j:Nat) v,vs[j]?=some v->∃c u,cs[j]?=some c/\v=Value.str ⟨#[c]⟩ u)->Vals (cs.map λc=>V.str ⟨#[c]⟩) vs:=by
  intro cs;induction cs with
  |nil=>intro vs hl _;rw[Qkq hl];exact .nil
  |cons c cs ih=>
   intro vs hl hv;cases vs with
   |nil=>simp at hl|cons v vs=>obtain⟨c',u,e1,e2⟩:=hv 0 v rfl;simp at e1;subst e1 e2;exact .cons ⟨u,rfl⟩<|ih vs (by simpa using hl) λj w hw=>by simpa using hv (j+1) w (by simpa using hw)
 refine go _ _ (by simpa using hsz) λj v hv=>?_;obtain⟨c,u,e1,e2⟩:=hit j v (by simpa using hv);exact⟨c,u,by simpa using e1,e2⟩
def Jr:List D->Option D
 |[.tup xs]=>some (.lst xs)|[.lst xs]=>some (.lst xs)|[.str x]=>some (.lst (signs x))|_=>none
abbrev X7(K:Fg):List V->Hp->VK->Prop:=λxs H Q=>(∃p ys,xs=[.ref p]/\(lK K H p ys\/pg K H p ys)/\∀l,H l=none->Q (.ref l) (upd H l (.lst ys)))\/X6 xs H Q
def RX(hh:X.calm=true):jQ X (.type "list") (X7 X.K):=Lh.or<|RW hh
theorem EY{K:Fg}:∀x,cN K F (signs x) (x.map λc=>V.str ⟨#[c]⟩)
 |[]=>rfl|c::x=>⟨_,_,rfl,⟨rfl,by rw[Qy3];simp⟩,EY x⟩
def acZ:CallD C (X7 C.K) Jr:=by
 intro Pr F env σ H ds d vs Q r hs h q;unfold Jr at h;split at h;cases h;obtain⟨v,rfl,hv⟩:=nR hs;obtain⟨z,a,ws,rfl,h1,f1,h2⟩:=hv.tup r.fr;refine .inl ⟨a,ws,rfl,.inr h1,λl hl=>?_⟩;obtain⟨r2,s2⟩:=r.new hl;exact q _ _ _ r2 s2 ⟨z,l,ws,rfl,bA,cN.mono s2 _ _ h2⟩;cases h;obtain⟨v,rfl,hv⟩:=nR hs;obtain⟨z,a,ws,rfl,h1,h2⟩:=hv.lst r.fr;refine .inl ⟨a,ws,rfl,.inl<|lK.of h1,λl hl=>?_⟩;obtain⟨r2,s2⟩:=r.new hl;exact q _ _ _ r2 s2 ⟨z,l,ws,rfl,bA,cN.mono s2 _ _ h2⟩;rename_i x;cases h;obtain⟨v,rfl,hv⟩:=nR hs;obtain⟨rfl,hz⟩:=hv.str;refine .inr ⟨_,rfl,by rw[gF];exact hz,λl hl=>?_⟩;obtain⟨r2,s2⟩:=r.new hl;refine q _ _ _ r2 s2 ⟨by simpa[signs] using hz,l,_,rfl,bA,?_⟩;have e:(strOf x).cps.toList=x:=by simp[strOf]
 rw[e];exact EY x;cases h
def Wi:List D->Option D
 |[.int i,.int j]=>some (.int (if j > i then j else i))|_=>none
def Wh:List D->Option D
 |[.int i,.int j]=>some (.int (if j<i then j else i))|_=>none
def agS:CallD C (λxs H Q=>∃i j,xs=[.int i,.int j]/\Q (.int (if j > i then j else i)) H) Wi:=by
 intro Pr F env σ H ds d vs Q r hs h q;unfold Wi at h;split at h;cases h;obtain⟨v,w,rfl,hv,hw⟩:=R3 hs;obtain rfl:=hv.int;obtain rfl:=hw.int;exact⟨_,_,rfl,q _ H F r (bu.refl F) rfl⟩;cases h
def agR:CallD C (λxs H Q=>∃i j,xs=[.int i,.int j]/\Q (.int (if j<i then j else i)) H) Wh:=by
 intro Pr F env σ H ds d vs Q r hs h q;unfold Wh at h;split at h;cases h;obtain⟨v,w,rfl,hv,hw⟩:=R3 hs;obtain rfl:=hv.int;obtain rfl:=hw.int;exact⟨_,_,rfl,q _ H F r (bu.refl F) rfl⟩;cases h
def zr:List D->Option D
 |[.int i,.int j]=>if 0<j/\j<1073741824 then some (.tup [.int (i / j),.int (i % j)]) else none|_=>none
def Wv:CallD C (λxs H Q=>∃i j,xs=[.int i,.int j]/\ajF i j/\∀p,H p=none->Q (.ref p) (upd H p (.tup [.int (i / j),.int (i % j)]))) zr:=by
 intro Pr F env σ H ds d vs Q r hs h q;unfold zr at h;split at h;split at h;rename_i hj;cases h;obtain⟨v,w,rfl,hv,hw⟩:=R3 hs;obtain rfl:=hv.int;obtain rfl:=hw.int;refine⟨_,_,rfl,hj,λp hp=>?_⟩;obtain⟨r2,s2⟩:=r.new hp;exact q _ _ _ r2 s2 ⟨by rw[Qy3];simp,p,_,rfl,pg.of bA,⟨_,_,rfl,rfl,_,_,rfl,rfl,rfl⟩⟩;cases h;cases h
def U6:D->String
 |.non=>"NoneType"|.bl _=>"bool"|.int _=>"int"|.str _=>"str"|.tup _=>"tuple"|.lst _=>"list"|.arr _=>"list"|.dct _=>"dict"|.iY _=>"dict"|.clo _ _=>"NoneType"
def sZ(d:D)(T:String):Bool:=U6 d == T||(U6 d == "bool" && T == "int")
def agi(V5:X.K.In s.heap)(nc:∀st ds,d ≠ .clo st ds)(h:Sh s.heap d u)(e:PySem.W.kitOne X.K (.type (U6 d)) c=some b)(q:∀tk,Q (.bool b) { s with toks:=tk }) :
  wpAny (model X.prog X.w) A (call (.builtin "isinstance") [u,c]) Q E s:=by
 cases d with
 |non=>cases h;exact Qv9 PySem.W.kitx_none V5 True.intro e (λz=>nomatch z) q|bl y=>cases h;exact Qv9 PySem.W.kitx_bool V5 True.intro e (λz=>nomatch z) q|int i=>obtain⟨t,rfl⟩:=h;exact Qv9 PySem.W.kitx_int V5 True.intro e (λz=>nomatch z) q|str y=>obtain⟨t,rfl⟩:=h;exact Qv9 PySem.W.kitx_str V5 True.intro e (λz=>nomatch z) q|tup xs=>obtain⟨a,its,rfl,p,_⟩:=h;obtain⟨o,h1,h2,_⟩:=p;exact Qv9 PySem.W.kitx_tuple V5 ⟨o,h1,h2⟩ e (λz=>nomatch z) q|lst xs=>obtain⟨a,its,rfl,p,_⟩:=h;obtain⟨o,h1,h2,_⟩:=p.isList;exact Qv9 PySem.W.kitx_list V5 ⟨o,h1,h2⟩ e (λz=>nomatch z) q|arr xs=>obtain⟨a,its,rfl,p,_⟩:=h;obtain⟨o,h1,h2,_⟩:=p.isList;exact Qv9 PySem.W.kitx_list V5 ⟨o,h1,h2⟩ e (λz=>nomatch z) q|dct kvs=>obtain⟨a,o,rfl,h1,h2⟩:=h;exact Qv9 PySem.W.kitx_dict V5 ⟨o,h1,h2.1⟩ e (λz=>nomatch z) q|iY kvs=>obtain⟨a,o,rfl,h1,h2⟩:=h;exact Qv9 PySem.W.kitx_dict V5 ⟨o,h1,h2.1⟩ e (λz=>nomatch z) q|clo st ds=>exact(nc st ds rfl).elim
def ur(T:String)(d:D):Option D:=match d with
 |.clo _ _=>none|_=>some (.bl (sZ d T))
def acJ(h:ur T d=some e):(∀st ds,d ≠ .clo st ds)/\e=.bl (sZ d T):=by cases d<;>simp[ur] at h<;>exact⟨λ_ _ z=>(by cases z),h.symm⟩
theorem aaK(hk:∀d,PySem.W.kitOne X.K (.type (U6 d)) (.type T)=some (sZ d T)) :
  jQ X (.builtin "isinstance") (λxs H Q=>∃d x,xs=[x,.ty T]/\(∀st ds,d ≠ .clo st ds)/\Rep X.K H d x/\Q (.bl (sZ d T)) H):=by
 intro pins s σ H xs us Q I r h;obtain⟨d,x,rfl,nc,hr,q⟩:=h;obtain⟨u,w,rfl,r1,r2⟩:=vals2 r;cases r2;exact agi I.kIn nc (Rep.sh I d x u hr r1) (hk d) λtk=>⟨.bl _,H,I.tok tk,rfl,q⟩
def vR:List D->Option (List Bool)
 |[]=>some []|.bl b::r=>(vR r).map (b :: ·)|_=>none
theorem Nj{K:Fg}:∀{ds} {bs} {vs},vR ds=some bs->cN K F ds vs->vs=bs.map V.bl
 |[],bs,vs,h,hr=>by simp[vR] at h;subst h;cases hr;rfl
 |d::ds,bs,vs,h,hr=>by
  obtain⟨v,r,rfl,h1,h2⟩:=hr;cases d with
  |bl b=>
   simp only[vR] at h;cases e:vR ds with
   |none=>rw[e] at h;cases h
   |some cs=>
    rw[e] at h;cases h;cases h1;rw[Nj e h2]
    rfl
  |_=>simp[vR] at h
theorem Mg:∀{bs:List Bool} {us},Vals (bs.map V.bl) us->us=bs.map Value.bool
 |[],_,.nil=>rfl
 |b::bs,_,.cons r t=>by
  cases r;rw[Mg t]
  rfl
def Ih(bs:List Bool):(List.range bs.length).all (λi=>bs.getD i true)=bs.all id:=by
 induction bs with
 |nil=>rfl
 |cons b bs ih=>
  rw[Qqy,Q0y,Q12,Q15,Q12];simp[List.getD_cons_zero,id]
  congr 1
def WM(hc:X.calm=true):jQ X (.builtin "all") (λxs H Q=>∃(p:Addr) (bs:List Bool),xs=[.ref p]/\lK X.K H p (bs.map V.bl)/\Q (.bl (bs.all id)) H):=by
 intro pins s σ H xs us Q I r h;obtain⟨p,bs,rfl,hq,q⟩:=h;obtain⟨u,rfl,rx⟩:=vals1 r;cases rx;obtain⟨its,rv,pl,_⟩:=I.list hq;have e:=Mg rv;subst e;refine call_all_walk<|Qk8 pl.isList ?_;have hlt:p<s.heap.objs.size:=by obtain⟨o,e,_⟩:=pl.isList;exact Qq9 e
 refine⟨s.heap.objs.size,_,_,_,_,_,λi=>bs.getD i true,rfl,Walks.list (show X.A.in1.handled=none from I.ok.hd hc) s.heap.objs.size p (Qxq hlt) (bs.map Value.bool).toArray,⟨⟨_,Qwv _ rfl,rfl,rfl⟩,by obtain⟨o,e,rr⟩:=pl.isList;exact⟨o,Qqz _ e,rr⟩⟩,?_,λh' tk hk=>?_⟩;intro i v s' Q' E' hv hq';have hv:=hv;rw[Qj6,Qw1] at hv;cases hb:bs[i]? with
 |none=>rw[hb] at hv;cases hv
 |some b=>
  rw[hb] at hv;cases hv;refine Qkv ?_;have this:bs.getD i true=b:=by simp[Qq6,hb]
  have hq':Q' (bs.getD i true) s':=hq';rwa [this] at hq'
 have I1:Inv X pins σ H { s with heap:=h',toks:=tk }:=I.kept λb o e=>hk b o (by simp;exact Qxq<|Qq9 e)<|Qqz _ e;refine⟨.bl _,H,I1,rfl,?_⟩;have e2:(bs.map Value.bool).toArray.size=bs.length:=by simp
 rw[e2,Ih];exact q
def Wj:List D->Option D
 |[.lst ds]=>(vR ds).map λbs=>.bl (bs.all id)|_=>none
def agU:CallD C (λxs H Q=>∃(p:Addr) (bs:List Bool),xs=[.ref p]/\lK C.K H p (bs.map V.bl)/\Q (.bl (bs.all id)) H) Wj:=by
 intro Pr F env σ H ds d vs Q r hs h q;unfold Wj at h;split at h;rename_i es;cases e:vR es with
 |none=>rw[e] at h;cases h|some bs=>rw[e] at h;cases h;obtain⟨v,rfl,hv⟩:=nR hs;obtain⟨z,a,ws,rfl,h1,h2⟩:=hv.lst r.fr;have e2:=Nj e h2;subst e2;exact⟨a,bs,rfl,lK.of h1,q _ H F r (bu.refl F) rfl⟩
 cases h
def j6:List D->Option (List (List Nat))
 |[]=>some []|.str x::r=>(j6 r).map (x :: ·)|_=>none
def zb(sep:List Nat):List (List Nat)->List Nat
 |[]=>[]|x::r=>r.foldl (λacc y=>acc++sep++y) x
def Z2(sep)(xs):Txt.join (strOf sep) (xs.map strOf)=strOf (zb sep xs):=by
 unfold Txt.join;unfold Builtin.Str.glued;cases xs with
 |nil=>rfl
 |cons x r=>
  show⟨(r.map strOf).foldl (λacc p=>acc++(strOf sep).cps++p.cps) (strOf x).cps⟩=strOf (r.foldl (λacc y=>acc++sep++y) x);have go:∀(r:List (List Nat)) x,(r.map strOf).foldl (λacc p=>acc++(strOf sep).cps++p.cps) (strOf x).cps=(strOf<|r.foldl (λacc y=>acc++sep++y) x).cps:=by
   intro r
   induction r with
   |nil=>intro x;rfl
   |cons y r ih=>
    intro x;rw[Qq8,Qj5,Qj5];rw[<-ih (x++sep++y)]
    congr 1
    simp[strOf]
  rw[go]
theorem vX{K:Fg}:∀{ds} {xs} {vs},j6 ds=some xs->cN K F ds vs->vs=xs.map λx=>V.str (strOf x)
 |[],bs,vs,h,hr=>by simp[j6] at h;subst h;cases hr;rfl
 |d::ds,bs,vs,h,hr=>by
  obtain⟨v,r,rfl,h1,h2⟩:=hr;cases d with
  |str b=>
   simp only[j6] at h;cases e:j6 ds with
   |none=>rw[e] at h;cases h
   |some cs=>
    rw[e] at h;cases h;cases h1.1;rw[vX e h2]
    rfl
  |_=>simp[j6] at h
theorem z6:∀{xs:List (List Nat)} {us},Vals (xs.map λx=>V.str (strOf x)) us->StrsAre us (xs.map strOf)
 |[],_,.nil=>.nil
 |x::xs,_,.cons r t=>by
  obtain⟨k,rfl⟩:=r;exact .cons _ k<|z6 t
def joinFits(sep:List Nat)(xs:List (List Nat)):Bool:=decide ((xs.map List.length).sum+xs.length*sep.length<=16777216)
def rJoin(K:Fg):V->List V->Hp->VK->Prop:=λx vs H Q=>∃sep xs p,x=.str (strOf sep)/\vs=[.ref p]/\lK K H p (xs.map λx=>V.str (strOf x))/\joinFits sep xs=true/\Q (.str (strOf (zb sep xs))) H
def acj:MtR X "str.join" (rJoin X.K):=by
 intro pins s σ H x vs v us Q I rx rv h;obtain⟨sep,xs,p,rfl,rfl,hq,hf,q⟩:=h;obtain⟨t,rfl⟩:=rx;obtain⟨u,rfl,ru⟩:=vals1 rv;cases ru;obtain⟨its,r,pl,_⟩:=I.list hq;refine join_list pl.isList (by simpa using (z6 r)) ?_ λt' k=>?_;have e:((xs.map strOf).map (·.length))=xs.map List.length:=by
  rw[Qxk];apply Qx7;intro z _;exact gF z
 rw[e,gF,Qqx];exact (Qxy hf);rw[Z2];exact⟨.str _,H,I.tok k,⟨t',rfl⟩,q⟩
theorem My(sep):∀(r:List (List Nat)) x,(r.foldl (λacc y=>acc++sep++y) x).length=x.length+(r.map List.length).sum+r.length*sep.length
 |[],x=>by simp
 |y::r,x=>by
  rw[Qj5,My sep r,Qqv,Qqv,Qq8,Qbq,Qqy,Q17];omega
def Z4(h:joinFits sep xs=true):(zb sep xs).length<=sizeLine:=by
 have h':=Qxy h;rw[Qy3];cases xs with
 |nil=>simp[zb]|cons x r=>show(r.foldl (λacc y=>acc++sep++y) x).length<=_;rw[My];rw[Qq8,Qbq,Qqy,Q17] at h';omega
def pB(x y:D):Option D:=match x,y with
 |.str sep,.lst ds=>(match j6 ds with
  |some xs=>if joinFits sep xs=true then some (.str (zb sep xs)) else none|none=>none)
 |_,_=>none
def abO{apos cpos:Pos}(hK:X.K=C.K)(ho:PX X C o a)(he:PXB X C e b)(hbase:attributeBase o "join" X.env (eval o X.env)=eval o X.env:=by rfl)
  (hs:IK e X.env:=by rfl)
  (hfew:((backTo cpos (starEach [e] X.env)).all (λx=>!x.1)&&(backToKw cpos (keywordEach [] X.env)).all (λx=>x.1.isSome)
   && decide ([e].length+([]:List Keyword).length+(if ([]:List Keyword).isEmpty then 0 else 1)<30))=true:=by rfl)
  (hline:(apos.endLine == cpos.line)=true:=by rfl) (hplain:(backTo cpos (starEach [] X.env)).any (·.1)=false:=by rfl) :
  PX X C (.Call (.Attribute o "join" apos) [e] [] cpos) (aN pB a b):=by
 refine(Tv Q0z PySem.F.slot_str_join PySem.F.type_str_join acj ho (j7 he rT hs) hbase hfew hline hs hplain).imp λσ H Q h=>?_;obtain⟨Pr,F,env,env',d,rl,e0,q⟩:=h;obtain⟨x,aR,e1,e2⟩:=bf e0;obtain⟨y,eQ,e3,e4⟩:=bf e2;obtain⟨e5,rfl⟩:=d7 e4;unfold pB at e5;split at e5;rename_i sep ds;split at e5;rename_i xs hxs;split at e5;rename_i hf;cases e5;refine⟨Pr,F,env,aR,_,rl,e1,λvx H1 F1 r1 s1 p1=>?_⟩;obtain⟨rfl,_⟩:=p1;refine⟨rfl,Pr,F1,aR,env',_,r1,e3,λvy H2 F2 r2 s2 p2=>?_⟩;obtain⟨z,l,ws,rfl,h1,h2⟩:=p2.lst r2.fr;have e6:=vX hxs h2;subst e6;exact⟨sep,xs,l,rfl,rfl,lK.of h1,hf,q _ H2 F2 r2 (s1.trans s2) ⟨rfl,Z4 hf⟩⟩;cases e5;cases e5;cases e5
end
def Rel.put(r:Rel C Pr F env σ H)(hfx:C.fx i=none)(p:Rep C.K F d v):Rel C Pr F (env.set i (some (false,d))) (σ.set i (some v)) H:=by
 refine⟨r.pr,r.fr,by rw[Qzx,Qzx];exact r.len,λj e he=>?_,λj e he=>?_,λj k e f b hj hk g1 g2=>?_,r.dj,λj a hj=>?_⟩;by_cases hji:j=i;subst hji;have hl:j<env.length:=by
  have:=(Qq5.mp he).1;rwa [Qzx] at this
 rw[Qw9 hl] at he;cases he;exact⟨v,Qw9 (by rw[<-r.len];exact hl),p⟩;rw[Qw5 (Ne.symm hji)] at he ⊢;exact r.val j e he;by_cases hji:j=i;subst hji;have hl:j<env.length:=by
  have:=(Qq5.mp he).1;rwa [Qzx] at this
 rw[Qw9 hl] at he;cases he;rw[Qw5 (Ne.symm hji)] at he ⊢;exact r.own j e he;have nn:∀j e,(env.set i<|some (false,d))[j]?=some (some (true,e))->j≠i:=λj e he z=>by
  subst z;have hl:j<env.length:=by
   have:=(Qq5.mp he).1;rwa [Qzx] at this
  rw[Qw9 hl] at he;cases he
 have nj:=nn j e hj;have nk:=nn k f hk;rw[Qw5 (Ne.symm nj)] at hj g1;rw[Qw5 (Ne.symm nk)] at hk g2;exact r.apart j k e f b hj hk g1 g2;have hji:j≠i:=λz=>by rw[z,hfx] at hj;cases hj
 rw[Qw5 (Ne.symm hji)];exact r.fix j a hj
structure Sd(K:Fg)(Pr F:Hp)(env:Env)(σ:L2.St)(H:Hp)(d:D)(a:Addr):Prop where
 own:pG K F H d a
 nF:F a=none
 nP:Pr a=none
 ap:∀(j:Nat) (e:D),env[j]?=some (some (true,e))->σ[j]?=some (some (V.ref a))->False
def Sd.of(r:Rel C Pr F env σ H)(h:H a=none)(ho:pG C.K F (upd H a o) d a):Sd C.K Pr F env σ (upd H a o) d a:=
 ⟨ho,r.fr.free h,r.pr.free h,λj e he hs=>by
  obtain⟨b,h1,h2,_⟩:=r.own j e he;rw[hs] at h1;cases h1;obtain⟨u,hu⟩:=h2.some;rw[h] at hu;cases hu⟩
def Rel.Yu(r:Rel C Pr F env σ H)(hfx:C.fx i=none)(n:Sd C.K Pr F env σ H d a):Rel C Pr F (env.set i (some (true,d))) (σ.set i (some (.ref a))) H:=by
 have same:∀j x,(env.set i<|some (true,d))[j]?=some (some x)->j=i->x=(true,d)/\j<env.length:=λj x he z=>by
  subst z;have hl:j<env.length:=by
   have:=(Qq5.mp he).1;rwa [Qzx] at this
  rw[Qw9 hl] at he;cases he;exact⟨rfl,hl⟩
 refine⟨r.pr,r.fr,by rw[Qzx,Qzx];exact r.len,λj e he=>?_,λj e he=>?_,λj k e f b hj hk g1 g2=>?_,r.dj,λj a hj=>?_⟩;by_cases hji:j=i;have:=(same j _ he hji).1;cases this;rw[Qw5 (Ne.symm hji)] at he ⊢;exact r.val j e he;by_cases hji:j=i;obtain⟨z,hl⟩:=same j _ he hji;cases z;subst hji;exact⟨a,Qw9 (by rw[<-r.len];exact hl),n.own,n.nF,n.nP⟩;rw[Qw5 (Ne.symm hji)] at he ⊢;exact r.own j e he;by_cases nj:j=i;by_cases nk:k=i;rw[nj,nk];obtain⟨z,hl⟩:=same j _ hj nj;subst nj;rw[Qw9 (by rw[<-r.len];exact hl)] at g1;cases g1;rw[Qw5 (Ne.symm nk)] at hk g2;exact(n.ap k f hk g2).elim;rw[Qw5 (Ne.symm nj)] at hj g1;by_cases nk:k=i;obtain⟨z,hl⟩:=same k _ hk nk;subst nk;rw[Qw9 (by rw[<-r.len];exact hl)] at g2;cases g2;exact(n.ap j e hj g1).elim;rw[Qw5 (Ne.symm nk)] at hk g2;exact r.apart j k e f b hj hk g1 g2;have hji:j≠i:=λz=>by rw[z,hfx] at hj;cases hj
 rw[Qw5 (Ne.symm hji)];exact r.fix j a hj
def Rel.keep(r:Rel C Pr F env σ H)(n:Sd C.K Pr F env σ H d a):∃F',Rel C Pr F' env σ H/\bu F F'/\Rep C.K F' d (.ref a):=by
 obtain⟨o,ho⟩:=n.own.some;have s1:bu F (upd F a o):=qe n.nF;have rep:Rep C.K (upd F a o) d (.ref a):=by
  have h2:=n.own;cases d with
  |lst xs=>obtain⟨z,vs,g1,g2⟩:=h2;rw[ho] at g1;cases g1;exact⟨z,a,vs,rfl,bA,cN.mono s1 _ _ g2⟩|dct kvs=>obtain⟨z,ks,g1,g2⟩:=h2;rw[ho] at g1;cases g1;exact⟨z,a,ks,rfl,.inl bA,fQ.mono s1 _ _ g2⟩|iY kvs=>obtain⟨z,ks,g1,g2⟩:=h2;rw[ho] at g1;cases g1;exact⟨z,a,ks,rfl,.inl bA,eU.mono s1 _ _ g2⟩|_=>exact h2.elim
 refine⟨upd F a o,⟨r.pr,λb u e=>?_,r.len,λj e he=>?_,λj e he=>?_,r.apart,λb u e=>?_,r.fix⟩,s1,rep⟩;by_cases hb:b=a;subst hb;rw[bA] at e;cases e;exact ho;rw[cj hb] at e;exact r.fr b u e;obtain⟨v,g1,g2⟩:=r.val j e he;exact⟨v,g1,Rep.mono s1 e v g2⟩;obtain⟨b,g1,g2,g3,g4⟩:=r.own j e he;have hb:b≠a:=λz=>by subst z;exact n.ap j e he g1
 exact⟨b,g1,g2.mono s1 rfl,by rw[cj hb];exact g3,g4⟩;by_cases hb:b=a;subst hb;exact n.nP;rw[cj hb] at e;exact r.dj b u e
def Rel.write(r:Rel C Pr F env σ H)(h:env[i]?=some (some (true,d)))(hs:σ[i]?=some (some (V.ref a)))(ho:pG C.K F (upd H a u) d' a) :
  Rel C Pr F (env.set i (some (true,d'))) σ (upd H a u):=by
 obtain⟨a',h1,h2,h3,h4⟩:=r.own i d h;rw[hs] at h1;cases h1;have hi:=(Qq5.mp h).1;have ne:∀j e b,j≠i->env[j]?=some (some (true,e))->σ[j]?=some (some<|V.ref b)->b≠a:=λj e b hj he g z=>hj<|r.apart j i e d a he h (by rw[<-z];exact g) hs;refine⟨λb w e=>?_,λb w e=>?_,by rw[Qzx];exact r.len,λj e he=>?_,λj e he=>?_,λj k e f b hj hk g1 g2=>?_,r.dj,r.fix⟩;have hb:b≠a:=λz=>by rw[z,h4] at e;cases e
 rw[cj hb];exact r.pr b w e;have hb:b≠a:=λz=>by rw[z,h3] at e;cases e
 rw[cj hb];exact r.fr b w e;by_cases hj:j=i;subst hj;rw[Qw9 hi] at he;cases he;rw[Qw5 (Ne.symm hj)] at he;exact r.val j e he;by_cases hj:j=i;subst hj;rw[Qw9 hi] at he;cases he;exact⟨a,hs,ho,h3,h4⟩;rw[Qw5 (Ne.symm hj)] at he;obtain⟨b,g1,g2,g3,g4⟩:=r.own j e he;exact⟨b,g1,g2.mono (bu.refl F)<|cj<|ne j e b hj he g1,g3,g4⟩;have un:∀j e,(env.set i<|some (true,d'))[j]?=some (some (true,e))->∃e',env[j]?=some (some (true,e')):=λj e he=>by
  by_cases hj:j=i;subst hj;exact⟨d,h⟩;rw[Qw5 (Ne.symm hj)] at he;exact⟨e,he⟩
 obtain⟨e',hj'⟩:=un j e hj;obtain⟨f',hk'⟩:=un k f hk;exact r.apart j k e' f' b hj' hk' g1 g2
def Rel.give(r:Rel C Pr F env σ H)(h:env[i]?=some (some (true,d))) :
  ∃a,σ[i]?=some (some (V.ref a))/\Rel C Pr F (env.set i none) σ H/\Sd C.K Pr F (env.set i none) σ H d a:=by
 obtain⟨a,h1,h2,h3,h4⟩:=r.own i d h;have un:∀j x,(env.set i none)[j]?=some (some x)->j≠i/\env[j]?=some (some x):=λj x he=>by
  have hj:j≠i:=λz=>by subst z;rw[Qw9 ((Qq5.mp h).1)] at he;cases he
  rw[Qw5 (Ne.symm hj)] at he;exact⟨hj,he⟩
 exact⟨a,h1,⟨r.pr,r.fr,by rw[Qzx];exact r.len,λj e he=>r.val j e (un j _ he).2,λj e he=>r.own j e (un j _ he).2,λj k e f b hj hk=>r.apart j k e f b (un j _ hj).2 (un k _ hk).2,r.dj,r.fix⟩,
  h2,h3,h4,λj e he hs=>(un j _ he).1<|r.apart j i e d a (un j _ he).2 h hs h1⟩
def tN(C:Cfg)(ev:Ev):TE:=λσ H Q=>∃(Pr F:Hp) (env env':Env) (d:D),Rel C Pr F env σ H/\ev env=.ok d env'/\
 ∀a H' F',Rel C Pr F' env' σ H'->bu F F'->Sd C.K Pr F' env' σ H' d a->Q (.ref a) H'
def PXN(X:Cx)(C:Cfg)(e:Expr)(ev:Ev):Prop:=PE X e (tN C ev)
section
variable{X:Cx}{C:Cfg}{pos:Pos}
def PXN.px(h:PXN X C e ev):PX X C e ev:=PE.imp h λσ H Q hq=>by
 obtain⟨Pr,F,env,env',d,r,e,q⟩:=hq;refine⟨Pr,F,env,env',d,r,e,λa H' F' r' s' n'=>?_⟩;obtain⟨F2,r2,s2,p2⟩:=r'.keep n';exact q _ _ F2 r2 (s'.trans s2) p2
def Tj(h:W3 X C es r):PXN X C (.List es pos) (cB r):=(afq h).imp λσ H Q hq=>by
 obtain⟨Pr,F,env,env',d,rl,e,q⟩:=hq;obtain⟨ds,aR,e1,e2⟩:=bf e;split at e2;rename_i hz;cases e2;refine⟨Pr,F,env,env',ds,rl,e1,λvs H1 F1 r1 s1 p1=>⟨by rw[p1.length];exact hz,λp hp=>?_⟩⟩;exact q _ _ F1 (r1.fresh hp) s1<|Sd.of r1 hp ⟨hz,vs,bA,p1⟩;cases e2
def K6(i:Nat):Ev:=λenv=>match env[i]? with
 |some (some (true,d))=>.ok d (env.set i none)|_=>.stuck
def Ym(i)(hN:X.N[i]?=some x)(hv:zR X.env.scope x)(hd:qT x:=by decide)(hcd:Bb x:=by decide):PXN X C (.Name x pos) (K6 i):=by
 refine(mj hN hv hd hcd).imp λσ H Q h=>?_;obtain⟨Pr,F,env,env',d,r,e,q⟩:=h;unfold K6 at e;split at e;rename_i d' hd';cases e;obtain⟨a,h1,r2,n2⟩:=r.give hd';exact⟨_,h1,q a H F r2 (bu.refl F) n2⟩;cases e
abbrev GV:=D->Env->Option Env
abbrev GVs:=List D->Env->Option Env
def tG(C:Cfg)(lo:Nat)(gv:GV):TG:=λv σ H Q=>∃(Pr F:Hp) (env env':Env) (d:D),Rel C Pr F env σ H/\Rep C.K F d v/\gv d env=some env'/\
 ∀σ' H' F',Rel C Pr F' env' σ' H'->bu F F'->σ'.take lo=σ.take lo->Q σ' H'
def tGs(C:Cfg)(lo:Nat)(gv:GVs):TGs:=λvs σ H Q=>∃(Pr F:Hp) (env env':Env) (ds:List D),Rel C Pr F env σ H/\cN C.K F ds vs/\gv ds env=some env'/\
 ∀σ' H' F',Rel C Pr F' env' σ' H'->bu F F'->σ'.take lo=σ.take lo->Q σ' H'
def PXG(X:Cx)(C:Cfg)(lo:Nat)(e:Expr)(gv:GV):Prop:=PG X e (tG C lo gv)
def ahi(X:Cx)(C:Cfg)(lo:Nat)(es:List Expr)(gv:GVs):Prop:=PGs X es (tGs C lo gv)
def _root_.L2.PG.imp(h:PG X e t)(i:∀v σ H Q,t' v σ H Q->t v σ H Q):PG X e t':=λpins s σ H v u Q I r q=>h pins s σ H v u Q I r<|i v σ H Q q
def _root_.L2.PGs.imp(h:PGs X e t)(i:∀v σ H Q,t' v σ H Q->t v σ H Q):PGs X e t':=λpins s σ H v u Q I r q=>h pins s σ H v u Q I r<|i v σ H Q q
def ak(i:Nat):GV:=λd env=>some (env.set i (some (false,d)))
def Yr{lo i:Nat}(hN:X.N.Nodup)(hi:X.N[i]?=some x)(hx:Loc X.env.scope x)(hlo:lo<=i)(hfx:C.fx i=none)(hf:X.fn x=true\/X.env.scope.names.lookup x=some .local:=by first|exact .inl rfl|exact .inr rfl|assumption):PXG X C lo (.Name x pos) (ak i):=
 (abZ hN hi hx hf).imp λv σ H Q h=>by
  obtain⟨Pr,F,env,env',d,r,p,e,q⟩:=h;cases e;exact q _ _ F (r.put hfx p) (bu.refl F) (by rw[List.take_set_of_le hlo])
def bZ:GVs:=λds env=>if ds.isEmpty then some env else none
def aH(g:GV)(gs:GVs):GVs:=λds env=>match ds with
 |d::r=>(g d env).bind λe1=>gs r e1|[]=>none
def Yq{lo:Nat}:ahi X C lo [] bZ:=abY.imp λv σ H Q h=>by
 obtain⟨Pr,F,env,env',ds,r,p,e,q⟩:=h;cases ds with
 |nil=>cases e;cases p;exact⟨rfl,q _ _ F r (bu.refl F) rfl⟩|cons d ds=>cases e
def bV(n:Nat)(gs:GVs):GV:=λd env=>match d with
 |.tup ds=>if ds.length=n then gs ds env else none|_=>none
def abM{lo:Nat}{k:Nat}(hc:X.calm=true)(hK:X.K=C.K)(h:ahi X C lo es gs)
  (hn:(assignEach es X.env).length=n:=by rfl) (hst:(assignEach es X.env).findIdx? (·.1)=none:=by rfl):PXG X C lo (.Tuple es k pos) (bV n gs):=(afk hc h hn hst).imp λv σ H Q h=>by
 obtain⟨Pr,F,env,env',d,r,p,e,q⟩:=h;cases d with
 |tup ds=>obtain⟨z,a,vs,rfl,h1,h2⟩:=p;unfold bV at e;simp only at e;split at e;rename_i hl;rw[hK];exact⟨a,vs,rfl,bu.tupK r.fr h1,by rw[h2.length];exact hl,Pr,F,env,env',ds,r,h2,e,q⟩;cases e|_=>cases e
def acG(i:Nat)(ix:Ev):GV:=λd env=>match env[i]? with
 |some (some (_,_))=>(match ix env with
  |.ok (.int k) aR=>(match aR[i]? with
   |some (some (true,.lst xs))=>(ixN xs.length k).map λj=>aR.set i (some (true,.lst (xs.set j d)))|_=>none)
  |_=>none)
 |_=>none
def ae3{lo i:Nat}(hN:X.N[i]?=some x)(hv:zR X.env.scope x)(h:PX X C ix ev)
  (ha:∀v,assign (.Subscript (.Name x px) ix pos) X.env v=(do
   let ov <-holding [v] (eval (.Name x px) X.env)
   let iv <-holding [v,ov] (eval ix X.env)
   standAt pos
   holding [v,ov,iv] (setItem ov iv v)
   release [v,ov,iv] []):=by intro _;rfl)
  (hd:qT x:=by decide) (hcd:Bb x:=by decide):PXG X C lo (.Subscript (.Name x px) ix pos) (acG i ev):=
 (afl (mj hN hv hd hcd) h set_list ha).imp λv σ H Q hq=>by
  obtain⟨Pr,F,env,env',d,r,p,e,q⟩:=hq;unfold acG at e;split at e;rename_i o0 d0 h0;obtain⟨v0,hv0,_⟩:=r.rd h0;split at e;rename_i k aR e1;split at e;rename_i xs h2;obtain⟨j,hj,e3⟩:=Qwz.mp e;subst e3;refine⟨v0,hv0,Pr,F,env,aR,.int k,r,e1,λvi H1 F1 r1 s1 p1=>?_⟩;cases p1;obtain⟨a,g1,⟨z,vs,g2,g3⟩,g4,g5⟩:=r1.own i _ h2;rw[hv0] at g1;cases g1;refine⟨a,vs,k,j,rfl,rfl,g2,by rw[g3.length];exact hj,?_⟩;refine q σ _ F1 (r1.write h2 hv0 ⟨by rw[Qzx];exact z,vs.set j v,bA,cN.set (Rep.mono s1 d v p) j g3⟩) s1 rfl;cases e;cases e;cases e
end
inductive Out where
 |nx (env:Env)|rt (o:Bool) (d:D) (env:Env)|bk (env:Env)|ct (env:Env)|stuck
abbrev cu:=Env->Out
def Fin(C:Cfg)(Pr F:Hp)(D:Ends):Out->Prop
 |.nx env'=>∀σ' H' F',Rel C Pr F' env' σ' H'->bu F F'->D.nx σ' H'|.rt false d env'=>∀v σ' H' F',Rel C Pr F' env' σ' H'->bu F F'->Rep C.K F' d v->D.rt v H'|.rt true d env'=>∀a σ' H' F',Rel C Pr F' env' σ' H'->bu F F'->Sd C.K Pr F' env' σ' H' d a->D.rt (.ref a) H'|.bk env'=>∀σ' H' F',Rel C Pr F' env' σ' H'->bu F F'->D.bk σ' H'|.ct env'=>∀σ' H' F',Rel C Pr F' env' σ' H'->bu F F'->D.ct σ' H'|.stuck=>False
def Fin.mono{D:Ends}(s:bu F F1):∀{o},Fin C Pr F D o->Fin C Pr F1 D o
 |.nx _,h=>λσ' H' F' r t=>h σ' H' F' r<|s.trans t|.rt false _ _,h=>λv σ' H' F' r t=>h v σ' H' F' r<|s.trans t|.rt true _ _,h=>λv σ' H' F' r t=>h v σ' H' F' r<|s.trans t|.bk _,h=>λσ' H' F' r t=>h σ' H' F' r<|s.trans t|.ct _,h=>λσ' H' F' r t=>h σ' H' F' r<|s.trans t|.stuck,h=>h
def tS(C:Cfg)(ev:cu):TS:=λD σ H=>∃(Pr F:Hp) (env:Env),Rel C Pr F env σ H/\Fin C Pr F D (ev env)
def PXS(X:Cx)(C:Cfg)(st:Stmt)(ev:cu):Prop:=PS X st (tS C ev)
def Hk(X:Cx)(C:Cfg)(st:List Stmt)(ev:cu):Prop:=Qj X st (tS C ev)
def kY{α:Type}(x:R α)(f:α->Env->Out):Out:=match x with
 |.ok a env=>f a env|.stuck=>.stuck
def fL{D:Ends}{α:Type}{x:R α}{f:α->Env->Out}(h:Fin C Pr F D (kY x f)):∃a aR,x=.ok a aR/\Fin C Pr F D (f a aR):=by
 cases x with
 |ok a aR=>exact⟨a,aR,rfl,h⟩|stuck=>exact h.elim
section
variable{X:Cx}{C:Cfg}{pos:Pos}
def bU:cu:=λenv=>.nx env
def aC(a b:cu):cu:=λenv=>match a env with
 |.nx e=>b e|.rt o d e=>.rt o d e|.bk e=>.bk e|.ct e=>.ct e|.stuck=>.stuck
def Yj:Hk X C [] bU:=abR.imp λD σ H h=>by
 obtain⟨Pr,F,env,r,f⟩:=h;exact f σ H F r<|bu.refl F
def dH(t:iC)(a b:cu):cu:=λenv=>kY (t env) λc aR=>if c=true then a aR else b aR
def bw(a:Ev):cu:=λenv=>kY (a env) λd aR=>.rt false d aR
def yt(a:Ev):cu:=λenv=>kY (a env) λd aR=>.rt true d aR
def ZQ(o:Option Env):Out:=match o with
 |some e=>.nx e|none=>.stuck
def aQ(a:Ev)(g:GV):cu:=λenv=>kY (a env) λd aR=>ZQ (g d aR)
def agZ{D:Ends}(h:tS C (aQ a g) D σ H):abp (tE C a) (tG C 0 g) D σ H:=by
 obtain⟨Pr,F,env,r,f⟩:=h;obtain⟨d,aR,e1,f1⟩:=fL f;refine⟨Pr,F,env,aR,d,r,e1,λv H1 F1 r1 s1 p1=>?_⟩;cases e2:g d aR with
 |none=>rw[e2] at f1;exact f1.elim|some eQ=>rw[e2] at f1;exact⟨Pr,F1,aR,eQ,d,r1,p1,e2,λσ2 H2 F2 r2 s2 _=>f1 σ2 H2 F2 r2<|s1.trans s2⟩
def abF(hN:X.N.Nodup)(hi:X.N[i]?=some x)(hx:Loc X.env.scope x)(hfx:C.fx i=none)(he:PX X C e a)(hs:swapsWith e (some (.Name x pos')) pos.line X.env=pure false:=by rfl)(hf:X.fn x=true\/X.env.scope.names.lookup x=some .local:=by first|exact .inl rfl|exact .inr rfl|assumption) :
  PXS X C (.Assign [.Name x pos'] e pos) (aQ a (ak i)):=(YC hN hi hx he hs hf).imp λD σ H h=>by
 obtain⟨Pr,F,env,r,f⟩:=h;obtain⟨d,aR,e1,f1⟩:=fL f;exact⟨Pr,F,env,aR,d,r,e1,λv H1 F1 r1 s1 p1=>f1 _ H1 F1 (r1.put hfx p1) s1⟩
def cT(i:Nat)(a:Ev):cu:=λenv=>kY (a env) λd aR=>.nx (aR.set i (some (true,d)))
def abG(hN:X.N.Nodup)(hi:X.N[i]?=some x)(hx:Loc X.env.scope x)(hfx:C.fx i=none)(he:PXN X C e a)(hs:swapsWith e (some (.Name x pos')) pos.line X.env=pure false:=by rfl)(hf:X.fn x=true\/X.env.scope.names.lookup x=some .local:=by first|exact .inl rfl|exact .inr rfl|assumption) :
  PXS X C (.Assign [.Name x pos'] e pos) (cT i a):=(YC hN hi hx he hs hf).imp λD σ H h=>by
 obtain⟨Pr,F,env,r,f⟩:=h;obtain⟨d,aR,e1,f1⟩:=fL f;exact⟨Pr,F,env,aR,d,r,e1,λv H1 F1 r1 s1 p1=>f1 _ H1 F1 (r1.Yu hfx p1) s1⟩
def dZ(i:Nat)(a:Ev):cu:=λenv=>match env[i]? with
 |some (some (true,.lst _))=>kY (a env) λd aR=>(match aR[i]? with
  |some (some (true,.lst xs))=>if xs.length<sizeLine then .nx (aR.set i (some (true,.lst (xs++[d])))) else .stuck|_=>.stuck)
 |_=>.stuck
def abI(hN:X.N[i]?=some x)(hv:zR X.env.scope x)(he:PX X C e a)(hK:X.K=C.K)
  (hs:swapsWith (.Call (.Attribute (.Name x px) "append" apos) [e] [] cpos) none pos.line X.env=pure false:=by rfl)
  (hfew:((backTo cpos (starEach [e] X.env)).all (λx=>!x.1)&&(backToKw cpos (keywordEach [] X.env)).all (λx=>x.1.isSome)
   && decide ([e].length+([]:List Keyword).length+(if ([]:List Keyword).isEmpty then 0 else 1)<30))=true:=by rfl)
  (hbase:attributeBase (.Name x px) "append" X.env (eval (.Name x px) X.env)=eval (.Name x px) X.env:=by rfl)
  (hline:(apos.endLine == cpos.line)=true:=by rfl) (hst:IK e X.env:=by rfl) (hplain:(backTo cpos (starEach [] X.env)).any (·.1)=false:=by rfl)
  (hd:qT x:=by decide) (hcd:Bb x:=by decide):PXS X C (.Expr (.Call (.Attribute (.Name x px) "append" apos) [e] [] cpos) pos) (dZ i a):=by
 refine PS.imp (Tr (Tv Qg0 PySem.F.slot_list_append PySem.F.type_list_append Jk (mj hN hv hd hcd) (j7 he rT hst) hbase hfew hline hst hplain) hs) λD σ H h=>?_;obtain⟨Pr,F,env,r,f⟩:=h;unfold dZ at f;split at f;rename_i xs0 h0;obtain⟨d,aR,e1,f1⟩:=fL f;obtain⟨a0,hv0,⟨z0,vs0,g0,_⟩,_⟩:=r.own i _ h0;refine⟨_,hv0,.inl ⟨rfl,vs0,lK.of g0⟩,Pr,F,env,aR,d,r,e1,λv H1 F1 r1 s1 p1=>?_⟩;split at f1;rename_i xs h1;split at f1;rename_i hz;obtain⟨a,g1,⟨z,vs,g2,g3⟩,g4,g5⟩:=r1.own i _ h1;rw[hv0] at g1;cases g1;refine⟨a0,vs,v,rfl,rfl,g2,by rw[g3.length];exact hz,?_⟩;exact f1 σ _ F1 (r1.write h1 hv0 ⟨by rw[Qqv];exact hz,vs++[v],bA,g3.append<|cN.one p1⟩) s1;exact f1.elim;exact f1.elim;exact f.elim
def uI(K:Fg)(F:Hp)(ds:List D)(J:It):Prop:=∀(i:Nat) (H:Hp),bu F H->(ds[i]?=none->i=ds.length->J.stop i H)/\∀d,ds[i]?=some d->J.go i H/\∀x H',J.yld i H x H'->
 (H'=H/\Rep K F d x)\/∃p vs es,H p=none/\H'=upd H p (.tup vs)/\x=.ref p/\d=.tup es/\es.length<=sizeLine/\cN K F es vs
def tI(C:Cfg)(ev:eZ):TI:=λσ H R=>∃(Pr F:Hp) (env env':Env) (ds:List D),Rel C Pr F env σ H/\ev env=.ok ds env'/\
 ∀J H' F',Rel C Pr F' env' σ H'->bu F F'->uI C.K F' ds J->R J H'
def PXI(X:Cx)(C:Cfg)(tg iter:Expr)(ev:eZ):Prop:=PI X tg iter (tI C ev)
def _root_.L2.PI.imp(h:PI X tg e t)(i:∀σ H R,t' σ H R->t σ H R):PI X tg e t':=λpins s σ H R I q=>h pins s σ H R I<|i σ H R q
def uI.item(r:Rel C Pr F1 env σ H)(s:bu F F1)(y:uI C.K F ds J)(hd:ds[i]?=some d)(hy:J.yld i H x H') :
  ∃F2,Rel C Pr F2 env σ H'/\bu F1 F2/\Rep C.K F2 d x:=by
 rcases((y i H<|s.trans r.fr).2 d hd).2 x H' hy with ⟨rfl,p⟩|⟨p,vs,es,hp,rfl,rfl,rfl,hz,q⟩;exact⟨F1,r,bu.refl F1,Rep.mono s _ _ p⟩;obtain⟨r2,s2⟩:=r.new hp;exact⟨_,r2,s2,hz,p,vs,rfl,pg.of bA,cN.mono (s.trans s2) _ _ q⟩
def jM(g:GV)(b:cu):List D->cu
 |[],env=>.nx env
 |d::ds,env=>(match g d env with
  |none=>.stuck
  |some e1=>(match b e1 with
   |.nx e2=>jM g b ds e2|.ct e2=>jM g b ds e2|.bk e2=>.nx e2|.rt o d e2=>.rt o d e2|.stuck=>.stuck))
def dF(it:eZ)(g:GV)(b:cu):cu:=λenv=>kY (it env) λds aR=>jM g b ds aR
def abH(hp:PassesOwn (model X.prog X.w) X.A X.env X.xe)(hc:X.calm=true)(hi:PXI X C tg iter it)(hg:PXG X C 0 tg g)(hb:Hk X C body b)
  (hs:∀x,foldedSetIterable iter X.env x=pure x:=by intro _;rfl):PXS X C (.For tg iter body [] pos) (dF it g b):=(afd hp hc hi hg hb hs).imp λD σ H h=>by
 obtain⟨Pr,F,env,r,f⟩:=h;obtain⟨ds,aR,e1,f1⟩:=fL f;refine⟨Pr,F,env,aR,ds,r,e1,λJ H1 F1 r1 s1 y1=>?_⟩;refine⟨λi m σ' H'=>m=ds.length - i/\i<=ds.length/\∃F' env',Rel C Pr F' env' σ' H'/\bu F1 F'/\Fin C Pr F' D (jM g b (ds.drop i) env'),⟨ds.length,rfl,Qxz _,F1,aR,r1,bu.refl _,f1.mono s1⟩,?_⟩;rintro i m σ' H' ⟨rfl,hi,F',env',r',s',f'⟩;by_cases hl:i<ds.length;have hd:ds[i]?=some ds[i]:=Qq7 hl;have hdr:ds.drop i=ds[i]::ds.drop (i+1):=Qk4 hl;refine .inr ⟨((y1 i H' (s'.trans r'.fr)).2 _ hd).1,λσ2 H2=>∃F' env',Rel C Pr F' env' σ2 H2/\bu F1 F'/\Fin C Pr F' D (jM g b (ds.drop<|i+1) env'),λσ2 H2 h2=>⟨ds.length - (i+1),by omega,rfl,hl,h2⟩,λx H2 hy=>?_⟩;obtain⟨F2,r2,s2,p2⟩:=uI.item r' s' y1 hd hy;rw[hdr] at f';have f2:=f'.mono s2;unfold jM at f2;cases eg:g ds[i] env' with
 |none=>rw[eg] at f2;exact f2.elim
 |some e2=>
  rw[eg] at f2;refine⟨Pr,F2,env',e2,ds[i],r2,p2,eg,λσ3 H3 F3 r3 s3 _=>⟨Pr,F3,e2,r3,?_⟩⟩;simp only at f2;have s13:bu F1 F3:=(s'.trans s2).trans s3;cases eb:b e2 with
  |nx e3=>rw[eb] at f2;exact λσ4 H4 F4 r4 s4=>⟨F4,e3,r4,s13.trans s4,f2.mono<|s3.trans s4⟩|ct e3=>rw[eb] at f2;exact λσ4 H4 F4 r4 s4=>⟨F4,e3,r4,s13.trans s4,f2.mono<|s3.trans s4⟩|bk e3=>rw[eb] at f2;exact λσ4 H4 F4 r4 s4=>f2 σ4 H4 F4 r4 (s3.trans s4)|rt o d e3=>rw[eb] at f2;cases o<;>exact λv σ4 H4 F4 r4 s4 p4=>f2 v σ4 H4 F4 r4 (s3.trans s4) p4|stuck=>rw[eb] at f2;exact f2.elim
 have e:i=ds.length:=by omega
 subst e;rw[Q0q] at f';exact .inl ⟨(y1 _ H'<|s'.trans r'.fr).1 (Qj8<|Qq0 _) rfl,f' σ' H' F' r'<|bu.refl F'⟩
def eV(t:iC)(b:cu):Nat->cu
 |0,_=>.stuck
 |n+1,env=>kY (t env) λc e1=>if c=true then (match b e1 with
   |.nx e2=>eV t b n e2|.ct e2=>eV t b n e2|.bk e2=>.nx e2|.rt o d e2=>.rt o d e2|.stuck=>.stuck) else .nx e1
def Vr(n)(hp:PassesOwn (model X.prog X.w) X.A X.env X.xe)(hc:PXT X C c t)(hb:Hk X C body b):PXS X C (.While c body [] pos) (eV t b n):=(Yz hp hc hb).imp λD σ H h=>by
 obtain⟨Pr,F,env,r,f⟩:=h;refine⟨λm σ' H'=>∃F' env',Rel C Pr F' env' σ' H'/\bu F F'/\Fin C Pr F' D (eV t b m env'),⟨n,F,env,r,bu.refl _,f⟩,?_⟩;rintro m σ' H' ⟨F',env',r',s',f'⟩;cases m with
 |zero=>exact f'.elim
 |succ m=>
  unfold eV at f';obtain⟨k,e1,e2,f1⟩:=fL f';refine⟨Pr,F',env',e1,k,r',e2,λH1 F1 r1 s1=>?_⟩;have f2:=f1.mono s1;show if k=true then _ else _;split at f2;rename_i hk;rw[Qv4 hk];refine⟨λσ2 H2=>∃F' env',Rel C Pr F' env' σ2 H2/\bu F F'/\Fin C Pr F' D (eV t b m env'),λσ2 H2 h2=>⟨m,Nat.lt_succ_self _,h2⟩,Pr,F1,e1,r1,?_⟩;have s13:bu F F1:=s'.trans s1;cases eb:b e1 with
  |nx e3=>rw[eb] at f2;exact λσ4 H4 F4 r4 s4=>⟨F4,e3,r4,s13.trans s4,f2.mono s4⟩|ct e3=>rw[eb] at f2;exact λσ4 H4 F4 r4 s4=>⟨F4,e3,r4,s13.trans s4,f2.mono s4⟩|bk e3=>rw[eb] at f2;exact λσ4 H4 F4 r4 s4=>f2 σ4 H4 F4 r4 s4|rt o d e3=>rw[eb] at f2;cases o<;>exact λv σ4 H4 F4 r4 s4 p4=>f2 v σ4 H4 F4 r4 s4 p4|stuck=>rw[eb] at f2;exact f2.elim
  rename_i hk;rw[Qv5 hk];exact f2 σ' H1 F1 r1<|bu.refl F1
end
end Ev
namespace L2
open PySem PySem.Spec PyProof.Rows
def Its(z:Str):It:=⟨λi _=>i<z.cps.size,λi H x H'=>H'=H/\∃c,z.cps[i]?=some c/\x=.str ⟨#[c]⟩,λi _=>z.cps.size<=i⟩
def U8{K:PySem.W.Frag}(it)(z)(t):Turn P w K tg (Its z) [it] it (λi h=>h.IsStrIter it "str_ascii_iterator" z t i/\i<=z.cps.size) where
 mem:=by simp
 obj:=λi h st b hb=>by
  have e:b=it:=by simpa using hb
  subst e;obtain⟨⟨o,ho,hc,hd⟩,_⟩:=st;exact⟨o,ho,λv z=>by rw[hd] at z;cases z⟩
 keep:=λi h h' st k=>let ⟨⟨o,ho,r⟩,l⟩:=st;⟨⟨o,k it (by simp) o ho,r⟩,l⟩
 item:=by intro X hP hw hK hc i pins s σ H E I hf st hg;subst hP hw hK;obtain⟨f0,f1,f2,f3,f4,f5⟩:=hf it (by simp);have hg':i<z.cps.size:=hg;refine wpAny_pyNext_ascii_item st.1 (c:=z.cps[i]) (by simp[hg']) λh' hit' hs'=>?_;have I1:Inv X pins σ H { s with heap:=h',toks:=s.toks+1 }:=I.turned (λb o hb e=>hs'.extBut b o hb e) f0 f1 f3 f4 f5;obtain⟨o,ho,hcl,hda⟩:=hit';refine⟨_,rfl,Jp ho hcl hda (by decide) ⟨.str ⟨#[z.cps[i]]⟩,H,I1,⟨_,rfl⟩,⟨rfl,_,by simp[hg'],rfl⟩,⟨⟨o,ho,hcl,hda⟩,hg'⟩,λb hb=>(hf b hb).1⟩⟩
 done:=by intro X hP hw hK hc i pins s σ H E I hf st hg;subst hP hw hK;obtain⟨f0,f1,f2,f3,f4,f5⟩:=hf it (by simp);have hg':z.cps.size<=i:=hg;exact wpAny_pyNext_ascii_end (I.ok.hd hc) st.1 (by simp;omega) λh' eb=>⟨rfl,I.turned (λb o hb e=>eb b o hb e) f0 f1 f3 f4 f5⟩
 self:=λ_ _ _ _ _ st h=>wpAny_pyIter_striter_ascii st.1 h
def U7{K:PySem.W.Frag}(it)(z)(t):Turn P w K tg (Its z) [it] it (λi h=>h.IsStrIter it "str_iterator" z t i/\i<=z.cps.size) where
 mem:=by simp
 obj:=λi h st b hb=>by
  have e:b=it:=by simpa using hb
  subst e;obtain⟨⟨o,ho,hc,hd⟩,_⟩:=st;exact⟨o,ho,λv z=>by rw[hd] at z;cases z⟩
 keep:=λi h h' st k=>let ⟨⟨o,ho,r⟩,l⟩:=st;⟨⟨o,k it (by simp) o ho,r⟩,l⟩
 item:=by intro X hP hw hK hc i pins s σ H E I hf st hg;subst hP hw hK;obtain⟨f0,f1,f2,f3,f4,f5⟩:=hf it (by simp);have hg':i<z.cps.size:=hg;refine wpAny_pyNext_wide_item st.1 (c:=z.cps[i]) (by simp[hg']) λh' hit' hs'=>?_;have I1:Inv X pins σ H { s with heap:=h',toks:=s.toks+1 }:=I.turned (λb o hb e=>hs'.extBut b o hb e) f0 f1 f3 f4 f5;obtain⟨o,ho,hcl,hda⟩:=hit';refine⟨_,rfl,Jp ho hcl hda (by decide) ⟨.str ⟨#[z.cps[i]]⟩,H,I1,⟨_,rfl⟩,⟨rfl,_,by simp[hg'],rfl⟩,⟨⟨o,ho,hcl,hda⟩,hg'⟩,λb hb=>(hf b hb).1⟩⟩
 done:=by intro X hP hw hK hc i pins s σ H E I hf st hg;subst hP hw hK;obtain⟨f0,f1,f2,f3,f4,f5⟩:=hf it (by simp);have hg':z.cps.size<=i:=hg;exact wpAny_pyNext_wide_end (I.ok.hd hc) st.1 (by simp;omega) λh' eb=>⟨rfl,I.turned (λb o hb e=>eb b o hb e) f0 f1 f3 f4 f5⟩
 self:=λ_ _ _ _ _ st h=>wpAny_pyIter_striter_wide st.1 h
section
variable{X:Cx}{tg:Expr}
def akO(K:PySem.W.Frag)(tl:TE):TI:=λσ H R=>tl σ H λx H1=>(∃a,x=.ref a/\(∃xs,lK K H1 a xs)/\R (Itl K a) H1)\/(∃a,x=.ref a/\(∃xs,pg K H1 a xs)/\R (Itt K a) H1)\/∃z,x=.str z/\R (Its z) H1
def afj(hl:PE X l tl):PI X tg l (akO X.K tl):=by
 intro pins s σ H R I h;refine gR (hl pins s σ H _ I h) λv s1 ⟨x,H1,I1,r1,q1⟩=>?_;have own:∀b ∈ [s1.heap.objs.size],wK X pins H1 b:=λb hb=>by
  have e:b=s1.heap.objs.size:=by simpa using hb
  subst e;exact I1.RN (Qq0 _)<|I1.hok.fresh<|Qq0 _
 rcases q1 with ⟨a,e,⟨xs,hq⟩,q⟩|⟨a,e,⟨xs,hq⟩,q⟩|⟨z,e,q⟩;subst e;cases r1;obtain⟨its,rv,p,hz⟩:=I1.list hq;refine Qk8 p.isList ?_;exact⟨s1.heap.objs.size,[s1.heap.objs.size],_,_,H1,rfl,I1.kept λb o e=>Qqz _ e,U9 a _,⟨_,Qwv _ rfl,rfl,rfl⟩,own,q⟩;subst e;cases r1;obtain⟨its,rv,p,hz⟩:=I1.tuple hq;refine Qbv p ?_;exact⟨s1.heap.objs.size,[s1.heap.objs.size],_,_,H1,rfl,I1.kept λb o e=>Qqz _ e,Qw a _,⟨_,Qwv _ rfl,rfl,rfl⟩,own,q⟩;subst e;obtain⟨t,rfl⟩:=r1;cases ha:z.cps.all (·< 128);exact wpAny_pyIter_wide ha ⟨s1.heap.objs.size,[s1.heap.objs.size],_,_,H1,rfl,I1.kept λb o e=>Qqz _ e,U7 _ z t,⟨⟨_,Qwv _ rfl,rfl,rfl⟩,Qxz _⟩,own,q⟩;exact wpAny_pyIter_ascii ha ⟨s1.heap.objs.size,[s1.heap.objs.size],_,_,H1,rfl,I1.kept λb o e=>Qqz _ e,U8 _ z t,⟨⟨_,Qwv _ rfl,rfl,rfl⟩,Qxz _⟩,own,q⟩
def ahl(lo c:Int)(n:Nat):It:=⟨λi _=>i<n,λi H x H'=>H'=H/\x=.int (lo+i*c),λi _=>n<=i⟩
theorem Mi{K:PySem.W.Frag}(it)(lo c)(n):Turn P w K tg (ahl lo c n) [it] it (λi h=>IsRangeIter h it (lo+i*c) (n - i) c) where
 mem:=by simp
 obj:=λi h st b hb=>by
  have e:b=it:=by simpa using hb
  subst e;exact⟨_,st,λv z=>by
   have z':=z;cases z'⟩
 keep:=λi h h' st k=>k it (by simp) _ st
 item:=by intro X hP hw hK hc i pins s σ H E I hf st hg;subst hP hw hK;obtain⟨f0,f1,f2,f3,f4,f5⟩:=hf it (by simp);refine (Walks.range (prog:=X.prog) (w:=X.w) (I.ok.hd hc) it lo c n).item i s _ _ hg st λv h' tk hv st' kk=>?_;obtain⟨t,rfl⟩:=hv;have I1:Inv X pins σ H { s with heap:=h',toks:=tk }:=I.turned (λb o hb e=>kk b o (by simpa using hb) e) f0 f1 f3 f4 f5;exact⟨_,rfl,Jp st' rfl rfl (by decide) ⟨.int<|lo+i*c,H,I1,⟨t,rfl⟩,⟨rfl,rfl⟩,st',λb hb=>(hf b hb).1⟩⟩
 done:=by intro X hP hw hK hc i pins s σ H E I hf st hg;subst hP hw hK;obtain⟨f0,f1,f2,f3,f4,f5⟩:=hf it (by simp);exact wpAny_pyNext_range_end (I.ok.hd hc) st (by have:n<=i:=hg;omega) λh' eb=>⟨rfl,I.turned (λb o hb e=>eb b o hb e) f0 f1 f3 f4 f5⟩
 self:=λ_ _ _ _ _ st h=>wpAny_pyIter_rangeiter st h
def ai4(ta:TA):TI:=λσ H R=>ta σ H λvs H1=>∃i j c:Int,vs=[.int i,.int j,.int c]/\c≠0/\c.natAbs<1073741824/\Builtin.Range.small i j c=true/\R (ahl i c (Builtin.Range.rangeSize i j c).toNat) H1
def Vz{p pos:Pos}(hg:Gl X "range")(hm:X.mg "range" = none)(ha:PA X [a,b,c] ta)(hs:starEach [a,b,c] X.env=[(false,eval a X.env),(false,eval b X.env),(false,eval c X.env)]:=by rfl)(hs2:starEach [b,c] X.env=[(false,eval b X.env),(false,eval c X.env)]:=by rfl) :
  PI X tg (.Call (.Name "range" p) [a,b,c] [] pos) (ai4 ta):=by
 intro pins s σ H R I h;refine Call_<|uo I hg hm boot_range<|Qzq (gR (ha pos pins s σ H _ I h) λus s1 ⟨vs,H1,I1,r1,q1⟩=>?_) (by rw[hs,hs2]) (by rw[hs2];rfl);obtain⟨i,j,c,e,hc,hcs,hsm,q⟩:=q1;subst e;cases r1 with
 |cons r rr=>
  cases rr with
  |cons r' rr=>
   cases rr with
   |cons r'' rr=>
    cases rr;obtain⟨t,rfl⟩:=r;obtain⟨t',rfl⟩:=r';obtain⟨t'',rfl⟩:=r'';refine call_range_3 hc ?_<|.inl<|Q0v hcs;refine wpAny_pyIter_range (IsRange.new ..) hsm ?_;generalize ho:({ cls:=.type "range",data:=.fields #[.int i t,.int j t',.int c t''] }:Obj)=o;have I2:Inv X pins σ H1 { s1 with heap:=s1.heap.push o,toks:=s1.toks }:=I1.kept λb o e=>Qqz _ e;refine⟨(s1.heap.push o).objs.size,[(s1.heap.push o).objs.size],_,_,H1,rfl,I2.kept λb o e=>Qqz _ e,Mi _ i c (Builtin.Range.rangeSize i j c).toNat,?_,λb hb=>?_,q⟩;have e1:i+(0:Nat)*c=i:=by simp
    have e2:((Builtin.Range.rangeSize i j c).toNat) - (0:Nat)=Builtin.Range.rangeSize i j c:=by have:=PyProof.Rows.rangeSize_toNat i j c;omega
    show IsRangeIter _ _ (i+(0:Nat)*c) (((Builtin.Range.rangeSize i j c).toNat) - (0:Nat)) c;rw[e1,e2];exact Qwv _ rfl;have e:b=(s1.heap.push o).objs.size:=by simpa using hb
    subst e;exact I2.RN (Qq0 _)<|I2.hok.fresh<|Qq0 _
end
end L2
namespace Ev
open PySem PySem.Spec PyProof.Rows L2
section
variable{X:Cx}{C:Cfg}{pos:Pos}{tg:Expr}
def iZ(x:List Nat):List D:=x.map λc=>.str [c]
def Qn(h:pg C.K F a vs)(p:cN C.K F ds vs):uI C.K F ds (Itt C.K a):=λi H s=>by
 refine⟨λ_ e=>⟨vs,bu.tupK s h,by rw[p.length,e];exact Qq0 _⟩,λd hd=>?_⟩;obtain⟨v,h1,h2⟩:=p.get hd;refine⟨⟨vs,v,bu.tupK s h,h1⟩,λx H' hy=>.inl ⟨hy.1,?_⟩⟩;have:=hy.2 vs<|bu.tupK s h;rw[h1] at this;cases this;exact h2
def Qo:uI C.K F (iZ x) (Its (strOf x)):=λi H s=>by
 refine⟨λ_ e=>?_,λd hd=>?_⟩;show x.toArray.size<=i;rw[e];simp[iZ];unfold iZ at hd;rw[Qw1] at hd;obtain⟨c,hc,rfl⟩:=Qwz.mp hd;refine⟨?_,λv H' hy=>.inl ⟨hy.1,?_⟩⟩;show i<x.toArray.size;have:=(Qq5.mp hc).1;simpa using this;obtain⟨c',h1,rfl⟩:=hy.2;have h2:x[i]?=some c':=by simpa[strOf] using h1
 rw[hc] at h2;cases h2;exact⟨rfl,by show 1<=sizeLine;decide⟩
def itD:D->Option (List D)
 |.lst xs=>some xs|.arr xs=>some xs|.tup xs=>some xs|.str x=>some (iZ x)|_=>none
def dO(a:Ev):eZ:=λenv=>bindR (a env) λd aR=>jj (itD d) aR
def abL(hK:X.K=C.K)(h:PX X C l a):PXI X C tg l (dO a):=(afj h).imp λσ H R hq=>by
 obtain⟨Pr,F,env,env',ds,r,e,q⟩:=hq;obtain⟨d,aR,e1,e2⟩:=bf e;obtain⟨e3,rfl⟩:=d7 e2;refine⟨Pr,F,env,env',d,r,e1,λv H1 F1 r1 s1 p1=>?_⟩;rw[hK];cases d with
 |lst xs=>cases e3;obtain⟨z,a,vs,rfl,g1,g2⟩:=p1;refine .inl ⟨a,rfl,⟨vs,lK.of<|r1.fr _ _ g1⟩,q _ H1 F1 r1 s1 λi H s=>?_⟩;refine⟨λ_ e=>⟨vs,lK.of<|s _ _ g1,by rw[g2.length,e];exact Qq0 _⟩,λd hd=>?_⟩;obtain⟨v,h1,h2⟩:=g2.get hd;refine⟨⟨vs,v,lK.of<|s _ _ g1,h1⟩,λx H' hy=>.inl ⟨hy.1,?_⟩⟩;have:=hy.2 vs<|lK.of<|s _ _ g1;rw[h1] at this;cases this;exact h2|arr xs=>cases e3;obtain⟨z,a,vs,rfl,g1,g2⟩:=p1;refine .inl ⟨a,rfl,⟨vs,r1.fr.seq g1⟩,q _ H1 F1 r1 s1 λi H s=>?_⟩;refine⟨λ_ e=>⟨vs,s.seq g1,by rw[g2.length,e];exact Qq0 _⟩,λd hd=>?_⟩;obtain⟨v,h1,h2⟩:=g2.get hd;refine⟨⟨vs,v,s.seq g1,h1⟩,λx H' hy=>.inl ⟨hy.1,?_⟩⟩;have:=hy.2 vs<|s.seq g1;rw[h1] at this;cases this;exact h2|tup xs=>cases e3;obtain⟨z,a,vs,rfl,g1,g2⟩:=p1;exact .inr<|.inl ⟨a,rfl,⟨vs,bu.tupK r1.fr g1⟩,q _ H1 F1 r1 s1<|Qn g1 g2⟩|str x=>cases e3;obtain⟨rfl,z⟩:=p1;exact .inr<|.inr ⟨_,rfl,q _ H1 F1 r1 s1 Qo⟩|_=>cases e3
def fZ(lo c:Int)(n:Nat):List D:=(List.range n).map λ(i:Nat)=>.int (lo+i*c)
def jy(lo c)(n):(fZ lo c n).length=n:=by simp[fZ]
def xn{lo c:Int}(h:(fZ lo c n)[i]?=some d):i<n/\d=.int (lo+i*c):=by
 have hi:i<n:=by
  have:=(Qq5.mp h).1
  rwa [jy] at this
 refine⟨hi,?_⟩;unfold fZ at h;rw[Qw1,List.getElem?_range hi] at h;cases h;rfl
def DR{lo:Int}:uI C.K F (fZ lo 1 n) (Itr lo n):=λi H s=>by
 refine⟨λ_ e=>by rw[e,jy];exact Qq0 _,λd hd=>?_⟩;obtain⟨hi,rfl⟩:=xn hd;refine⟨hi,λx H' hy=>.inl ⟨hy.1,?_⟩⟩;rw[Int.mul_one];exact hy.2
def LQ{lo c:Int}:uI C.K F (fZ lo c n) (ahl lo c n):=λi H s=>by
 refine⟨λ_ e=>by rw[e,jy];exact Qq0 _,λd hd=>?_⟩;obtain⟨hi,rfl⟩:=xn hd;exact⟨hi,λx H' hy=>.inl ⟨hy.1,hy.2⟩⟩
def lQ(j:Int):Bool:=decide (-(2^62)<=j)&&decide (j<2^62)
def xN(h:lQ j=true) : -(2^62)<=j/\j<2^62:=by unfold lQ at h;rw[Qjx] at h;exact⟨Qxy h.1,Qxy h.2⟩
def vG:List D->Option (List D)
 |[.int j]=>if lQ j=true then some (fZ 0 1 j.toNat) else none|[.int i,.int j]=>if lQ i=true/\lQ j=true then some (fZ i 1 (j - i).toNat) else none|[.int i,.int j,.int c]=>if c≠0/\c.natAbs<1073741824/\Builtin.Range.small i j c=true then some (fZ i c (Builtin.Range.rangeSize i j c).toNat) else none|_=>none
def gj(a:eZ):eZ:=λenv=>bindR (a env) λds aR=>jj (vG ds) aR
def cN.akL(h:cN C.K F [.int i] vs):vs=[.int i]:=by obtain⟨v,r,rfl,h1,h2⟩:=h;cases h1;cases h2;rfl
def cN.akK(h:cN C.K F [.int i,.int j] vs):vs=[.int i,.int j]:=by obtain⟨v,r,rfl,h1,v',r',rfl,h2,h3⟩:=h;cases h1;cases h2;cases h3;rfl
def cN.akJ(h:cN C.K F [.int i,.int j,.int k] vs):vs=[.int i,.int j,.int k]:=by obtain⟨v,r,rfl,h1,v',r',rfl,h2,v'',r'',rfl,h3,h4⟩:=h;cases h1;cases h2;cases h3;cases h4;rfl
def Rh(hg:Gl X "range")(hm:X.mg "range"=none)(ha:W3 X C [a] ea)(hl:∀env ds env',ea env=.ok ds env'->ds.length=1)(hs:starEach [a] X.env=[(false,eval a X.env)]:=by rfl):PXI X C tg (.Call (.Name "range" p) [a] [] pos) (gj ea):=
 (VD hg hm ha hs).imp λσ H R hq=>by
  obtain⟨Pr,F,env,env',ds,r,e,q⟩:=hq;obtain⟨as,aR,e1,e2⟩:=bf e;obtain⟨e3,rfl⟩:=d7 e2;refine⟨Pr,F,env,env',as,r,e1,λvs H1 F1 r1 s1 p1=>?_⟩;have:=hl _ _ _ e1;unfold vG at e3;split at e3;split at e3;rename_i hf;cases e3;have hb:=xN hf;exact⟨_,p1.akL,hb.1,hb.2,q _ H1 F1 r1 s1 DR⟩;cases e3;simp at this;simp at this;cases e3
def Rg{p pos:Pos}(hg:Gl X "range")(hm:X.mg "range" = none)(ha:W3 X C [a,b] ea)(hl:∀env ds env',ea env = .ok ds env'->ds.length=2)(hs:starEach [a,b] X.env=[(false,eval a X.env),(false,eval b X.env)]:=by rfl)(hs2:starEach [b] X.env=[(false,eval b X.env)]:=by rfl):PXI X C tg (.Call (.Name "range" p) [a,b] [] pos) (gj ea):=
 (VB hg hm ha hs hs2).imp λσ H R hq=>by
  obtain⟨Pr,F,env,env',ds,r,e,q⟩:=hq;obtain⟨as,aR,e1,e2⟩:=bf e;obtain⟨e3,rfl⟩:=d7 e2;refine⟨Pr,F,env,env',as,r,e1,λvs H1 F1 r1 s1 p1=>?_⟩;have:=hl _ _ _ e1;unfold vG at e3;split at e3;simp at this;split at e3;rename_i hf;cases e3;have hb:=xN hf.1;have hb2:=xN hf.2;exact⟨_,_,p1.akK,⟨hb.1,hb.2,hb2.1,hb2.2⟩,q _ H1 F1 r1 s1 DR⟩;cases e3;simp at this;cases e3
def Rf{p pos:Pos}(hg:Gl X "range")(hm:X.mg "range" = none)(ha:W3 X C [a,b,c] ea)(hl:∀env ds env',ea env = .ok ds env'->ds.length=3)(hs:starEach [a,b,c] X.env=[(false,eval a X.env),(false,eval b X.env),(false,eval c X.env)]:=by rfl)(hs2:starEach [b,c] X.env=[(false,eval b X.env),(false,eval c X.env)]:=by rfl):PXI X C tg (.Call (.Name "range" p) [a,b,c] [] pos) (gj ea):=
 (Vz hg hm ha hs hs2).imp λσ H R hq=>by
  obtain⟨Pr,F,env,env',ds,r,e,q⟩:=hq;obtain⟨as,aR,e1,e2⟩:=bf e;obtain⟨e3,rfl⟩:=d7 e2;refine⟨Pr,F,env,env',as,r,e1,λvs H1 F1 r1 s1 p1=>?_⟩;have:=hl _ _ _ e1;unfold vG at e3;split at e3;simp at this;simp at this;split at e3;rename_i hf;cases e3;exact⟨_,_,_,p1.akJ,hf.1,hf.2.1,hf.2.2,q _ H1 F1 r1 s1 LQ⟩;cases e3;cases e3
def Wl(env)(ds)(env')(h:aj env=.ok ds env'):ds.length=0:=by cases h;rfl
def RQ(hr:∀env ds env',r env=.ok ds env'->ds.length=n)(env)(ds)(env')(h:aa a r env=.ok ds env'):ds.length=n+1:=by obtain⟨d,aR,e1,e2⟩:=bf h;obtain⟨ds2,eQ,e3,e4⟩:=bf e2;cases e4;rw[Qqy,hr _ _ _ e3]
def cN.uN{K:Fg}(h:cN K F ds vs)(e:L2.uN ds k=some d):∃v,L2.uN vs k=some v/\Rep K F d v:=by unfold L2.uN at e ⊢;rw[h.length];obtain⟨j,h1,h2⟩:=Qx0.mp e;obtain⟨v,h3,h4⟩:=h.get h2;exact⟨v,by rw[h1];exact h3,h4⟩
def bQ:D->D->Option D
 |.lst xs,.int k=>uN xs k|.arr xs,.int k=>uN xs k|.tup xs,.int k=>uN xs k|.str x,.int k=>(uN x k).map λc=>.str [c]|_,_=>none
def adS:tV C (rIx C.K) bQ:=by
 intro Pr F env σ H x y d vx vy Q r px py e q;unfold bQ at e;split at e;obtain⟨z,a,vs,rfl,h1,h2⟩:=px.lst r.fr;cases py.int;obtain⟨v,e1,p1⟩:=h2.uN e;exact .inl ⟨a,vs,_,v,rfl,rfl,lK.of h1,e1,q _ _ F r (bu.refl F) p1⟩;obtain⟨z,a,vs,rfl,h1,h2⟩:=px.arr r.fr;cases py.int;obtain⟨v,e1,p1⟩:=h2.uN e;exact .inl ⟨a,vs,_,v,rfl,rfl,h1,e1,q _ _ F r (bu.refl F) p1⟩;obtain⟨z,a,vs,rfl,h1,_,h2⟩:=px.tup r.fr;cases py.int;obtain⟨v,e1,p1⟩:=h2.uN e;exact .inr<|.inl ⟨a,vs,_,v,rfl,rfl,h1,e1,q _ _ F r (bu.refl F) p1⟩;obtain⟨rfl,z⟩:=px.str;cases py.int;obtain⟨c,e1,rfl⟩:=Qwz.mp e;exact .inr<|.inr ⟨_,_,c,rfl,rfl,by simpa[strOf,Str.length] using z,by simpa[strOf] using e1,q _ _ F r (bu.refl F) ⟨rfl,by show 1<=sizeLine;decide⟩⟩;cases e
def aij(hK:X.K=C.K)(ha:PX X C x a)(hb:PXB X C y b)(hs:zU y:=by intro _ _;rfl):PX X C (.Subscript x y pos) (aN bQ a b):=by have h:=(adQ (pos:=pos) Z5 ha hb hs);rw[hK] at h;exact h.imp<|Li adS
def ae8{px:Pos}(i)(hK:X.K=C.K)(hN:X.N[i]? = some x)(hv:zR X.env.scope x)(hb:PXB X C y b)(hs:zU y:=by intro _ _;rfl)
  (hd:qT x:=by decide) (hcd:Bb x:=by decide):PX X C (.Subscript (.Name x px) y pos) (aq bQ i b):=by
 have h:=(adQ (pos:=pos) Z5 (mj (pos:=px) hN hv hd hcd) hb hs);rw[hK] at h;exact h.imp<|wD adS
def cutD{α:Type}(xs:List α)(lo hi:Option Int):List α:=(xs.drop (HT.iB xs.length 0 lo)).take (HT.iB xs.length xs.length hi - HT.iB xs.length 0 lo)
def vQ{α:Type}(xs:List α)(lo hi):(cutD xs lo hi).length<=xs.length:=by unfold cutD;rw[Qzv,Qz5];omega
def cN.cut{K:Fg}(h:cN K F ds vs)(lo hi):cN K F (cutD ds lo hi) (Dc vs lo hi):=by unfold cutD Dc;rw[h.length];exact cN.take _<|cN.drop _ h
abbrev W4:=Env->R (Option Int)
def tP(C:Cfg)(ev:W4):TO:=λσ H Q=>∃(Pr F:Hp) (env env':Env) (o:Option Int),Rel C Pr F env σ H/\ev env=.ok o env'/\∀H' F',Rel C Pr F' env' σ H'->bu F F'->Q o H'
def PXP(X:Cx)(C:Cfg)(e:Option Expr)(ev:W4):Prop:=PO X e (tP C ev)
def _root_.L2.PO.imp(h:PO X e t)(i:∀σ H Q,t' σ H Q->t σ H Q):PO X e t':=λpins s σ H Q I q=>h pins s σ H Q I<|i σ H Q q
def pU:W4:=λenv=>.ok none env
def Bo(a:Ev):W4:=λenv=>bindR (a env) λd aR=>match d with
 |.int i=>.ok (some i) aR|_=>.stuck
def Yl:PXP X C none pU:=abV.imp λσ H Q h=>by
 obtain⟨Pr,F,env,env',d,r,e,q⟩:=h;cases e;exact q H F r<|bu.refl F
def gSl:D->Option Int->Option Int->Option D
 |.lst xs,lo,hi=>some (.lst (cutD xs lo hi))|.arr xs,lo,hi=>some (.lst (cutD xs lo hi))|.tup xs,lo,hi=>if HT.iB xs.length 0 lo=0/\HT.iB xs.length xs.length hi=xs.length then none else some (.tup (cutD xs lo hi))|_,_,_=>none
def Gu(a:Ev)(lo hi:W4):Ev:=λenv=>bindR (a env) λd aR=>bindR (lo aR) λl eQ=>bindR (hi eQ) λu HY=>jj (gSl d l u) HY
def Xq{lo hi:Option Int}(r:Rel C Pr F env σ H)(p:jt C.K F H x v)(e:gSl x lo hi=some d)(q:∀v H' F',Rel C Pr F' env σ H'->bu F F'->Rep C.K F' d v->Q v H') :
  ah1 C.K v lo hi H Q\/aeY C.K v lo hi H Q:=by
 unfold gSl at e;split at e;cases e;obtain⟨z,a,vs,rfl,h1,h2⟩:=p.lst r.fr;refine .inl ⟨a,vs,rfl,lK.of h1,λb hb=>?_⟩;obtain⟨r2,s2⟩:=r.new hb;exact q _ _ _ r2 s2 ⟨Qq1 (vQ _ _ _) z,b,_,rfl,bA,cN.mono s2 _ _<|h2.cut lo hi⟩;cases e;obtain⟨z,a,vs,rfl,h1,h2⟩:=p.arr r.fr;refine .inl ⟨a,vs,rfl,h1,λb hb=>?_⟩;obtain⟨r2,s2⟩:=r.new hb;exact q _ _ _ r2 s2 ⟨Qq1 (vQ _ _ _) z,b,_,rfl,bA,cN.mono s2 _ _<|h2.cut lo hi⟩;obtain⟨z,a,vs,rfl,h1,_,h2⟩:=p.tup r.fr;split at e;cases e;rename_i hn;cases e;refine .inr ⟨a,vs,rfl,h1,by rw[h2.length];exact hn,λb hb=>?_⟩;obtain⟨r2,s2⟩:=r.new hb;exact q _ _ _ r2 s2 ⟨Qq1 (vQ _ _ _) z,b,_,rfl,pg.of bA,cN.mono s2 _ _<|h2.cut lo hi⟩;cases e
def aih{lo hi:Option Expr}(hK:X.K=C.K)(ha:PX X C x a)(hl:PXP X C lo el)(hh:PXP X C hi eh):PX X C (.Subscript x (.Slice lo hi none p2) pos) (Gu a el eh):=by have h:=Fo (pos:=pos) (p2:=p2) (UT.or S7 QX) ha hl hh;rw[hK] at h;refine h.imp λσ H Q hq=>?_;obtain⟨Pr,F,env,env',d,r,e,q⟩:=hq;obtain⟨x,aR,e1,e2⟩:=bf e;obtain⟨l,eQ,e3,e4⟩:=bf e2;obtain⟨u,HY,e5,e6⟩:=bf e4;obtain⟨e7,rfl⟩:=d7 e6;refine⟨Pr,F,env,aR,x,r,e1,λv H1 F1 r1 s1 p1=>⟨Pr,F1,aR,eQ,l,r1,e3,λH2 F2 r2 s2=>⟨Pr,F2,eQ,env',u,r2,e5,λH3 F3 r3 s3=>?_⟩⟩⟩;exact Xq r3 (.inl<|Rep.mono (s2.trans s3) _ _ p1) e7 λv H' F' r' s' p'=>q v H' F' r' (((s1.trans s2).trans s3).trans s') p'
def mZ(kvs:List (D×D))(q:Key):Option D:=match kvs with
 |[]=>none|(k,d)::r=>if pP k=some q then some d else mZ r q
def CJ(kvs:List (D×D))(q:Key)(d:D):List (D×D):=match kvs with
 |[]=>[]|(k,e)::r=>(if pP k=some q then (k,d) else (k,e))::CJ r q d
def putD(kvs:List (D×D))(k:D)(q:Key)(d:D):List (D×D):=if (mZ kvs q).isSome then CJ kvs q d else kvs++[(k,d)]
def fQ.length{K:Fg}:∀{ds} {vs},fQ K F ds vs->vs.length=ds.length
 |[],_,h=>by cases h;rfl
 |(k,d)::ds,vs,h=>by
  obtain⟨q,v,r,rfl,_,_,h2⟩:=h;rw[Qqy,Qqy,h2.length]
def fQ.val{K:Fg}(q):∀{ds} {vs},fQ K F ds vs->(mZ ds q=none/\uZ vs q=none)\/∃d v,mZ ds q=some d/\uZ vs q=some v/\Rep K F d v
 |[],_,h=>by cases h;exact .inl ⟨rfl,rfl⟩
 |(k,d)::ds,vs,h=>by
  obtain⟨q',v,r,rfl,hk,h1,h2⟩:=h;unfold mZ;by_cases e:q'=q;subst e;rw[Qv4 hk];exact .inr ⟨d,v,rfl,yl rfl,h1⟩;rw[Qv5 (λz=>e<|Qw4<|hk.symm.trans z),ym e];exact fQ.val q h2
def fQ.set{K:Fg}(q)(hd:Rep K F d v):∀{ds} {vs},fQ K F ds vs->fQ K F (CJ ds q d) (vs.map λkv=>if kv.1=q then (kv.1,v) else kv)
 |[],_,h=>by cases h;exact rfl
 |(k,e)::ds,vs,h=>by
  obtain⟨q',u,r,rfl,hk,h1,h2⟩:=h;unfold CJ;by_cases e':q'=q;subst e';rw[Qv4 hk];refine⟨q',v,_,?_,hk,hd,fQ.set q' hd h2⟩;rw[Qq8,Qv4 rfl];rw[Qv5 (λz=>e'<|Qw4<|hk.symm.trans z)];refine⟨q',u,_,?_,hk,h1,fQ.set q hd h2⟩;rw[Qq8,Qv5 e']
def fQ.append{K:Fg}:∀{ds es} {vs ws},fQ K F ds vs->fQ K F es ws->fQ K F (ds++es) (vs++ws)
 |[],es,vs,ws,h,g=>by cases h;exact g
 |(k,d)::ds,es,vs,ws,h,g=>by
  obtain⟨q,v,r,rfl,h0,h1,h2⟩:=h;exact⟨q,v,r++ws,rfl,h0,h1,fQ.append h2 g⟩
theorem MP(q)(d):∀kvs,(CJ kvs q d).length=kvs.length
 |[]=>rfl|(k,e)::r=>by unfold CJ;rw[Qqy,Qqy,MP q d r]
def Nt(kvs)(k)(q)(d):(putD kvs k q d).length<=kvs.length+1:=by
 unfold putD;split;rw[MP];omega;rw[Qqv];exact Qq0 _
def fQ.put{K:Fg}(h:fQ K F ds vs)(hk:pP k=some q)(hd:Rep K F d v):fQ K F (putD ds k q d) (putK vs q v):=by
 unfold putD putK;rw[Ec];rcases h.val q with ⟨e1,e2⟩|⟨d',v',e1,e2,_⟩;rw[e1,e2];exact h.append ⟨q,v,[],rfl,hk,hd,rfl⟩;rw[e1,e2];exact fQ.set q hd h
def RD{K:Fg}(h:pP k=some q)(p:Rep K F k v):v=kV q:=by
 cases k with
 |int i=>cases h;exact p|str x=>cases h;exact p.1|_=>cases h
def KC{K:Fg}(h:pP k=some q)(p:jt K F H k v):v=kV q:=by
 cases k with
 |int i=>cases h;exact p.int|str x=>cases h;exact p.str.1|_=>cases h
def jt.dct{K:Fg}(s:bu F H)(h:jt K F H (.dct kvs) v):kvs.length<=sizeLine/\∃a ks,v=.ref a/\Rd H a (.dK ks)/\fQ K F kvs ks:=by
 rcases h with ⟨z,a,vs,rfl,h1,h2⟩|⟨a,rfl,z,vs,h1,h2⟩;exact⟨z,a,vs,rfl,bu.rd s h1,h2⟩;exact⟨z,a,vs,rfl,.inl h1,h2⟩
def adM:R2:=λx y H Q=>∃a v,x=.ref a/\Ij H a y (some v)/\Q v H
def jL:D->D->Option D
 |.dct kvs,k=>(pP k).bind λq=>mZ kvs q|_,_=>none
def ace:tV C adM jL:=by
 intro Pr F env σ H x y d vx vy Q r px py e q;unfold jL at e;split at e;obtain⟨z,a,ks,rfl,h1,h2⟩:=px.dct r.fr;obtain⟨k,hk,hv⟩:=Qx0.mp e;cases KC hk py;rcases h2.val k with ⟨e1,_⟩|⟨d',v',e1,e2,p2⟩;rw[e1] at hv;cases hv;rw[e1] at hv;cases hv;exact⟨a,v',rfl,.inl ⟨ks,k,h1,rfl,e2.symm⟩,q _ _ F r (bu.refl F) p2⟩;cases e
def Yt{px:Pos}(i)(hu:X.A.units+1<cLine)(hN:X.N[i]? = some x)(hv:zR X.env.scope x)(hb:PXB X C y b)(hs:WT y:=by intro _ _;rfl)
  (hd:qT x:=by decide) (hcd:Bb x:=by decide):PX X C (.Subscript (.Name x px) y pos) (aq jL i b):=by
 have h:PE X (.Subscript (.Name x px) y pos) (tOp adM _ _):=ab3 hu (mj hN hv hd hcd) hb hs;exact h.imp<|wD ace
def La:Ev:=λenv=>.ok (.dct []) env
def Yn:PXN X C (.Dict [] [] pos) La:=Y0.imp λσ H Q hq=>by
 obtain⟨Pr,F,env,env',d,r,e,q⟩:=hq;cases e;exact λp hp=>q _ _ F (r.fresh hp) (bu.refl F)<|Sd.of r hp ⟨Qxz _,[],bA,rfl⟩
def qd(i:Nat)(k a:Ev):cu:=λenv=>kY (a env) λd aR=>match aR[i]? with
 |some (some (_,_))=>kY (k aR) λkd eQ=>(match eQ[i]?,pP kd with
  |some (some (true,.dct kvs)),some q=>if kvs.length<sizeLine then .nx (eQ.set i (some (true,.dct (putD kvs kd q d)))) else .stuck|_,_=>.stuck)
 |_=>.stuck
def Yk(hu:X.A.units+1<cLine)(hN:X.N[i]?=some x)(hv:zR X.env.scope x)(hk:PX X C k ek)(he:PX X C e a)
  (hs:swapsWith e (some (.Subscript (.Name x px) k pos')) pos.line X.env=pure false:=by rfl)
  (hd:qT x:=by decide) (hcd:Bb x:=by decide):PXS X C (.Assign [.Subscript (.Name x px) k pos'] e pos) (qd i ek a):=
 (abS hu (mj hN hv hd hcd) hk he hs).imp λD σ H h=>by
  obtain⟨Pr,F,env,r,f⟩:=h;obtain⟨d,aR,e1,f1⟩:=fL f;refine⟨Pr,F,env,aR,d,r,e1,λv H1 F1 r1 s1 p1=>?_⟩;split at f1;rename_i o0 d0 h0;obtain⟨v0,hv0,_⟩:=r1.rd h0;obtain⟨kd,eQ,e2,f2⟩:=fL f1;refine⟨v0,hv0,Pr,F1,aR,eQ,kd,r1,e2,λvk H2 F2 r2 s2 p2=>?_⟩;split at f2;rename_i kvs q h2 hq;split at f2;rename_i hz;obtain⟨b,g1,⟨z,ks,g2,g3⟩,g4,g5⟩:=r2.own i _ h2;rw[hv0] at g1;cases g1;have hz':ks.length<sizeLine:=by rw[g3.length];exact hz
  cases RD hq p2;refine⟨b,_,rfl,aa5.k g2 hz',?_⟩;refine f2 σ _ F2 (r2.write h2 hv0 ⟨Qq1 (Nt _ _ _ _) hz,_,bA,g3.put hq<|Rep.mono s2 _ _ p1⟩)<|s1.trans s2;exact f2.elim;exact f2.elim;exact f1.elim
def Wc(x:List Nat):List (List Nat)->List (List Nat)
 |[]=>[x]|y::r=>if y<x then y::Wc x r else x::y::r
def lM:List (List Nat)->List (List Nat)
 |[]=>[]|x::r=>Wc x (lM r)
theorem Bl(x):∀l,(Wc x l).Perm (x::l)
 |[]=>.refl _
 |y::r=>by
  unfold Wc;split;exact((Bl x r).cons y).trans<|.swap x y r;exact .refl _
theorem kE:∀l,(lM l).Perm l
 |[]=>.refl _|x::r=>(Bl x<|lM r).trans<|(kE r).cons x
theorem BV(x):∀l,l.Pairwise (λa b=>a<=b)->(Wc x l).Pairwise (λa b=>a<=b)
 |[],_=>Qg4 _ _
 |y::r,h=>by
  unfold Wc;have h1:=Qvj.mp h;split;rename_i hyx;refine Qvj.mpr ⟨λz hz=>?_,BV x r h1.2⟩;rcases Qq4.mp ((Bl x r).mem_iff.mp hz) with rfl|hz;exact List.le_of_lt hyx;exact h1.1 z hz;rename_i hyx;have hxy:=List.not_lt.mp hyx;refine Qvj.mpr ⟨λz hz=>?_,h⟩;rcases Qq4.mp hz with rfl|hz;exact hxy;exact List.le_trans hxy<|h1.1 z hz
theorem yw:∀l,(lM l).Pairwise (λa b=>a<=b)
 |[]=>.nil|x::r=>BV x _<|yw r
theorem IW:∀p l,risingS p l=true->(p::l).Pairwise (λa b=>a.cps.toList<=b.cps.toList)
 |p,[],_=>Qg4 _ _
 |p,x::r,h=>by
  have h':(!Spec.ltCps x.cps.toList p.cps.toList&&risingS x r)=true:=h;rw[Qjx,PyProof.Rows.ltCps_eq] at h';have hxp:¬x.cps.toList<p.cps.toList:=by
   have:=h'.1;simpa using this
  have ih:=IW x r h'.2;refine Qvj.mpr ⟨λz hz=>?_,ih⟩;have hpx:=List.not_lt.mp hxp;rcases Qq4.mp hz with rfl|hz;exact hpx;exact List.le_trans hpx<|(Qvj.mp ih).1 z hz
def Vg:∀l,sortedS l=true->l.Pairwise (λa b=>a.cps.toList<=b.cps.toList)
 |[],_=>.nil|x::r,h=>IW x r h
def Vd(s):strOf s.cps.toList=s:=by obtain⟨c⟩:=s;simp[strOf]
def J0(e:ss=xs.map strOf)(hp:ss'.Perm ss)(hs:sortedS ss'=true):ss'=(lM xs).map strOf:=by
 subst e;have h1:(ss'.map λs=>s.cps.toList).Perm xs:=by
  have:=hp.map (λs:Str=>s.cps.toList);rw[Qxk] at this;have e2:xs.map ((λs:Str=>s.cps.toList) ∘ strOf)=xs:=by rw[Qx7 (g:=id) (λx _=>by simp[strOf])];simp
  rwa [e2] at this
 have h2:(ss'.map λs=>s.cps.toList)=lM xs:=by refine List.Perm.eq_of_pairwise (λa b _ _=>List.le_antisymm) ?_ (yw xs)<|h1.trans (kE xs).symm;exact List.pairwise_map.mpr<|Vg ss' hs
 rw[<-h2,Qxk];have e3:∀l:List Str,l.map (strOf ∘ λs=>s.cps.toList)=l:=λl=>by
  induction l with
  |nil=>rfl|cons a r ih=>rw[Qq8,ih];show strOf a.cps.toList::r=a::r;rw[Vd]
 exact(e3 ss').symm
theorem yj:∀{us} {ss},StrsAre us ss->Vals (ss.map V.str) us
 |_,_,.nil=>.nil|_,_,.cons y t h=>.cons ⟨t,rfl⟩<|yj h
theorem yG{K:Fg}:∀(xs:List (List Nat)),(∀x∈xs,x.length<=sizeLine)->cN K F (xs.map D.str) (xs.map λz=>V.str (strOf z))
 |[],_=>rfl|x::xs,h=>⟨_,_,rfl,⟨rfl,h x<|Qqj ..⟩,yG xs λy hy=>h y<|Qqk _ hy⟩
def Kh(K:Fg):List V->Hp->VK->Prop:=λxs H Q=>∃p zs,xs=[.ref p]/\(lK K H p (zs.map λz=>V.str (strOf z))\/∃ks,Rd H p (.dK ks)/\ks.map (·.1)=zs.map λz=>Sum.inr (strOf z))/\zs.length<64/\∀l,H l=none->Q (.ref l) (upd H l (.lst ((lM zs).map λz=>V.str (strOf z))))
def MK{σ:L2.St}{a:Addr}(I:Inv X pins σ H s)(hz:zs.length<64)(q:∀l,H l=none->Q (.ref l) (upd H l (.lst ((lM zs).map λz=>V.str (strOf z)))))
  (a1:StrsAre out.toList ss') (a2:ss'.Perm (zs.map strOf)) (a3:sortedS ss'=true) (hk:∀b o,s.heap.get? b=some o->h'.get? b=some o) (ha:s.heap.objs.size<=a) (ho:h'.get? a=some (seqObj "list" out e)):EP X pins σ Q (.ref a) { s with heap:=h',toks:=tk }:=by
 have e1:=J0 rfl a2 a3;subst e1;have rv:=yj a1;rw[Qxk] at rv;have hl:((lM zs).map λz=>V.str<|strOf z).length<=sizeLine:=by rw[Qqx,(kE zs).length_eq];exact Qq1 (Qv2 hz) (by decide)
 exact⟨.ref a,_,I.laid hk ha<|show jx X.prog X.w _ h' a (.lst<|(lM zs).map λz=>V.str<|strOf z) from⟨hl,out.toList,e,rv,by simpa[seqObj] using ho⟩,rfl,q a<|I.hok.fresh ha⟩
def PJ(hc:X.calm=true):jQ X (.builtin "sorted") (Kh X.K):=by
 intro pins s σ H xs us Q I r h;obtain⟨p,zs,rfl,hq,hz,q⟩:=h;obtain⟨u,rfl,rx⟩:=vals1 r;cases rx;rcases hq with hq|⟨ks,hq,hks⟩;obtain⟨its,r',pl,hzz⟩:=I.list hq;have hS:=z6 r';refine sorted_strs pl.isList hS (by rw[<-r'.length,Qqx];exact hz) λout ss' a1 a2 a3=>?_;obtain⟨e,he⟩:=sortedAll_at s.heap its out;exact MK I hz q a1 a2 a3 (λb o e=>sortedAll_old e) (Qdz _) he;obtain⟨hz2,hsys,vs,rkv,hD⟩:=BX I.hok hq;obtain⟨ep,hat⟩:=hD.dictAt;have hlen:vs.length=zs.length:=by
  have e1:=rkv.length;have e2:=Qx1 List.length hks;rw[Qqx,Qqx] at e2;omega
 refine Qf7 kind_sorted plain_sorted entry_sorted (args_sorted1 _) ?_;unfold Builtin.«sorted»;refine Qqq<|Qq2 ?_;refine Qqq<|PySem.W.kdu_collect (PySem.W.kdl_dict hsys) (I.ok.hd hc) hat (by rw[hlen];exact Qq1 (Qv2 hz) (by decide)) λh' tk acc hk hacc=>?_;have hl:acc.toList.length=vs.length:=by rw[Qz2];exact hacc.1
 have hS:StrsAre acc.toList (zs.map strOf):=by
  have keys:∀j,j<vs.length->∃v t,acc.toList[j]?=some v/\v=Value.str (strOf<|zs.getD j []) t:=λj hj=>by
   have hja:j<acc.size:=by rw[hacc.1];exact hj
   have e1:acc[j]?=some acc[j]:=by simp[hja]
   obtain⟨k,x,hx,hkx⟩:=hacc.2 j _ e1;have e2:(vs.map (·.1))[j]?=some k:=by rw[Qw1,hx];rfl
   rw[<-rkv.keys,hks,Qw1] at e2;obtain⟨z,hzj,rfl⟩:=Qwz.mp e2;rcases gJ (k:=Sum.inr<|strOf z) hkx with ⟨i,t,z1,_⟩|⟨y,t,z1,z2⟩;cases z1;cases z1;exact⟨_,t,by rw[Qk2];exact e1,by rw[z2,Qq6,hzj];rfl⟩
  have build:∀us (ys:List (List Nat)),us.length=ys.length->(∀j,j<us.length->∃v t,us[j]?=some v/\v=Value.str (strOf<|ys.getD j []) t)->StrsAre us (ys.map strOf):=λus=>by
   induction us with
   |nil=>intro ys hl _;cases ys with
    |nil=>exact .nil|cons _ _=>cases hl
   |cons u us ih=>intro ys hl hk;cases ys with
    |nil=>cases hl
    |cons y ys=>
     obtain⟨v,t,e1,e2⟩:=hk 0<|Nat.succ_pos _;cases e1;rw[e2];exact .cons _ t (ih ys (by simpa using hl) λj hj=>by
      obtain⟨v,t,e1,e2⟩:=hk (j+1) (by simpa using hj);exact⟨v,t,by simpa using e1,by simpa using e2⟩)
  exact build _ _ (by rw[hl,hlen]) λj hj=>keys j (by rw[<-hl];exact hj)
 refine Qqq<|wpAny_newList ?_ (by rw[hl,hlen];exact Qq1 (Qv2 hz) (by decide));have hoL:(h'.push<|seqObj "list" acc.toList.toArray 0).get? h'.objs.size=some (seqObj "list" acc.toList.toArray 0):=Qwv _ rfl;refine Qqq<|Qzj<|Qjq slot_list_sort ⟨_,hoL,rfl⟩ entry_list_sort (list_sort_treeK strKind_oneLt hoL hS.keysOf (λv₁ v₂ rest e=>keyKind_strs (by rw[<-e];exact hS)) (by rw[hl,hlen];exact hz) λst' b1 b2=>⟨_,rfl,?_⟩)<|args_list_sort _;obtain⟨ss',a1,a2,a3⟩:=sorted_out_str hS b1 b2;obtain⟨e,he⟩:=sortedHeap_at hoL;refine Qq2 ⟨_,rfl,?_⟩;have I1:L2.Inv X pins σ H { s with heap:=h',toks:=tk }:=I.kept hk;refine MK (s:={ s with heap:=h',toks:=tk }) I1 hz q a1 a2 a3 (λb o e=>?_) (Qq0 _) he;have lt':=Qq9 e;rw[sortedHeap_old (Qxq lt') (by rw[size_push'];exact Qv0 lt')];exact Qqz _ e
def lr:List D->Option D
 |[.lst ds]=>(j6 ds).bind λzs=>if zs.length<64/\(∀z∈zs,z.length<=sizeLine) then some (.lst ((lM zs).map .str)) else none|[.dct kvs]=>(j6 (kvs.map (·.1))).bind λzs=>if zs.length<64/\(∀z∈zs,z.length<=sizeLine) then some (.lst ((lM zs).map .str)) else none|_=>none
def fQ.keys{K:Fg}:∀{kvs} {ks} {zs},fQ K F kvs ks->j6 (kvs.map (·.1))=some zs->ks.map (·.1)=zs.map λz=>Sum.inr (strOf z)
 |[],ks,zs,h,e=>by cases h;simp[j6] at e;subst e;rfl
 |(k,d)::kvs,ks,zs,h,e=>by
  obtain⟨q,v,r,rfl,h0,h1,h2⟩:=h;cases k with
  |str x=>
   cases h0;have e':(j6<|kvs.map (·.1)).map (x :: ·)=some zs:=by simpa[j6] using e
   obtain⟨zs',e1,rfl⟩:=Qwz.mp e';rw[Qq8,Qq8,fQ.keys h2 e1]
  |_=>simp[j6] at e
def QV(r:Rel C Pr F env σ H)(hl:H l=none)(hz:zs.length<64/\∀z∈zs,z.length<=sizeLine) :
  pG C.K F (upd H l (.lst ((lM zs).map λz=>V.str (strOf z)))) (.lst ((lM zs).map .str)) l:=by
 refine⟨by rw[Qqx,(kE zs).length_eq];exact Qq1 (Qv2 hz.1) (by decide),_,bA,yG _ λz h=>hz.2 z<|(kE zs).mem_iff.mp h⟩
def Wu:CallD C (Kh C.K) lr:=by
 intro Pr F env σ H ds d vs Q r p e q;have fin:∀zs l,(zs.length<64/\∀z∈zs,z.length<=sizeLine)->d=.lst ((lM zs).map .str)->H l=none->Q (.ref l) (upd H l<|.lst<|(lM zs).map λz=>V.str<|strOf z):=λzs l hz hd hl=>by
  subst hd;obtain⟨F2,r2,s2,p2⟩:=(r.fresh hl).keep<|Sd.of r hl<|QV r hl hz;exact q _ _ F2 r2 s2 p2
 unfold lr at e;split at e;obtain⟨v,w,rfl,p1,p2⟩:=p;cases p2;obtain⟨zs,e1,e2⟩:=Qx0.mp e;split at e2;rename_i hz;cases e2;obtain⟨z,a,ws,rfl,h1,h2⟩:=p1.lst r.fr;have e6:=vX e1 h2;subst e6;exact⟨a,zs,rfl,.inl<|lK.of h1,hz.1,λl hl=>fin zs l hz rfl hl⟩;cases e2;obtain⟨v,w,rfl,p1,p2⟩:=p;cases p2;obtain⟨zs,e1,e2⟩:=Qx0.mp e;split at e2;rename_i hz;cases e2;obtain⟨z,a,ks,rfl,h1,h2⟩:=p1.dct r.fr;exact⟨a,zs,rfl,.inr ⟨ks,h1,h2.keys e1⟩,hz.1,λl hl=>fin zs l hz rfl hl⟩;cases e2;cases e
def Vv{p:Pos}(hK:X.K=C.K)(hc:X.calm=true)(hg:Gl X "sorted")(hm:X.mg "sorted" = none)(ha:adm X C [e] a)(he:IK e X.env:=by rfl)(hpl:(backTo pos (starEach [] X.env)).any (·.1)=false:=by rfl) :
  PX X C (.Call (.Name "sorted" p) [e] [] pos) (au lr a):=
 ql (by rw[<-hK];exact PJ hc) Wu hg hm PyProof.Rows.boot_sorted ha (by decide) (by decide) he hpl
end
def Rel.pad(m)(r:Rel C Pr F env σ H):Rel C Pr F (env++List.replicate m none) (yL m σ) H:=by
 have un:∀j x,(env++List.replicate m none)[j]?=some (some x)->env[j]?=some (some x):=λj x he=>by
  by_cases hj:j<env.length;rwa [Qxj hj] at he;rw[Qx6 (by omega),Qjk] at he;split at he<;>cases he
 have up:∀j v,σ[j]?=some (some v)->(yL m σ)[j]?=some (some v):=λj v h=>by
  unfold yL;rw[Qxj (Qq5.mp h).1];exact h
 have dn:∀j v,(yL m σ)[j]?=some (some v)->σ[j]?=some (some v):=λj v he=>by
  unfold yL at he;by_cases hj:j<σ.length;rwa [Qxj hj] at he;rw[Qx6 (by omega),Qjk] at he;split at he<;>cases he
 refine⟨r.pr,r.fr,by unfold yL;rw[Qqv,Qqv,Qz3,Qz3,r.len],λj e he=>?_,λj e he=>?_,λj k e f b hj hk g1 g2=>r.apart j k e f b (un _ _ hj) (un _ _ hk) (dn _ _ g1)<|dn _ _ g2,r.dj,λj a h=>up _ _<|r.fix j a h⟩;obtain⟨v,h1,h2⟩:=r.val j e<|un _ _ he;exact⟨v,up _ _ h1,h2⟩;obtain⟨a,h1,h2⟩:=r.own j e<|un _ _ he;exact⟨a,up _ _ h1,h2⟩
def Rel.cut{σ σ0:L2.St}(r:Rel C Pr F env σ H)(h:σ.take σ0.length=σ0)(fix:∀i a,C.fx i=some a->σ0[i]? = some (some (V.ref a))):Rel C Pr F (env.take σ0.length) σ0 H:=by
 have hl:σ0.length<=σ.length:=by have:=Qx1 List.length h;rw[Qzv] at this;omega
 have un:∀j x,(env.take σ0.length)[j]?=some (some x)->env[j]?=some (some x)/\j<σ0.length:=λj x he=>by
  have hj:j<σ0.length:=by have:=(Qq5.mp he).1;rw[Qzv] at this;omega
  rw[Qjz hj] at he;exact⟨he,hj⟩
 have dn:∀j,j<σ0.length->σ[j]?=σ0[j]?:=λj hj=>by
  have:=Qjz (l:=σ) hj;rw[h] at this;exact this.symm
 refine⟨r.pr,r.fr,by rw[Qzv,r.len];omega,λj e he=>?_,λj e he=>?_,λj k e f b hj hk g1 g2=>r.apart j k e f b (un _ _ hj).1 (un _ _ hk).1 (by rw[dn _ (un _ _ hj).2];exact g1) (by rw[dn _ (un _ _ hk).2];exact g2),r.dj,fix⟩;obtain⟨e1,e2⟩:=un _ _ he;rw[<-dn j e2];exact r.val j e e1;obtain⟨e1,e2⟩:=un _ _ he;rw[<-dn j e2];exact r.own j e e1
def Ly(g:GV)(c:iC)(e:Ev):List D->Env->R (List D)
 |[],env=>.ok [] env
 |d::ds,env=>(match g d env with
  |none=>.stuck|some e1=>bindR (c e1) λb e2=>if b=true then bindR (e e2) λy e3=>bindR (Ly g c e ds e3) λys e4=>.ok (y::ys) e4 else Ly g c e ds e2)
def d9(lo n:Nat)(it:eZ)(g:GV)(c:iC)(e:Ev):Ev:=λenv=>bindR (it env) λds aR=>if aR.length=lo then bindR (Ly g c e ds (aR++List.replicate (n - lo) none)) λys eQ=>(if ys.length<=sizeLine then .ok (.lst ys) (eQ.take lo) else .stuck) else .stuck
def WR(X:Cx)(C:Cfg)(ifs:List Expr)(ev:iC):Prop:=PIf X ifs (tT C ev)
def cA:iC:=λenv=>.ok true env
def Yp:WR X C [] cA:=λpins s σ H Q I h=>by
 obtain⟨Pr,F,env,env',b,r,e,q⟩:=h;cases e;exact abX pins s σ H Q I<|q H F r<|bu.refl F
def adZ{lo n:Nat}(h:tN C (d9 lo n it g c e) σ H Q):tLC n (tI C it) (tG C lo g) (tT C c) (tE C e) σ H Q:=by
 obtain⟨Pr,F,env,env',d,r,ev,q⟩:=h;obtain⟨ds,aR,e1,e2⟩:=bf ev;split at e2;rename_i hlo;obtain⟨ys,eQ,e3,e4⟩:=bf e2;split at e4
 rename_i hz;cases e4;refine⟨Pr,F,env,aR,ds,r,e1,λJ H1 F1 r1 s1 y1 a ha=>?_⟩;have hσ:=r1.len.symm.trans hlo;have hPa:=r1.pr.free ha;refine⟨λi m σ' H'=>m=ds.length - i/\i<=ds.length/\∃F' Pj acc ws rest,Rel C (upd Pr a<|.lst ws) F' Pj σ' H'/\bu F1 F'/\cN C.K F' acc ws/\σ'.take lo=σ/\Ly g c e (ds.drop i) Pj=.ok rest eQ/\acc++rest=ys,
  ⟨ds.length,rfl,Qxz _,F1,aR++List.replicate (n - lo) none,[],[],ys,?_,bu.refl _,rfl,?_,e3,rfl⟩,?_⟩
 rw[hσ];exact(r1.aside ha).pad _;unfold yL;rw[<-hσ,List.take_left];rintro i m σ' H' ⟨rfl,hi,F',Pj,acc,ws,rest,r',s',p',t',l',hacc⟩;have hFa:F' a=none:=by
  cases ez:F' a with
  |none=>rfl|some w=>have:=r'.dj a w ez;rw[bA] at this;cases this
 by_cases hl:i<ds.length
 have hd:=Qq7 hl;refine .inr ⟨((y1 i H'<|s'.trans r'.fr).2 _ hd).1,λσ2 H2=>∃F' Pj acc ws rest,Rel C (upd Pr a<|.lst ws) F' Pj σ2 H2/\bu F1 F'/\cN C.K F' acc ws/\σ2.take lo=σ/\Ly g c e (ds.drop<|i+1) Pj=.ok rest eQ/\acc++rest=ys,
  λσ2 H2 h2=>⟨ds.length - (i+1),by omega,rfl,hl,h2⟩,λx H2 hy=>?_⟩
 obtain⟨F2,r2,s2,p2⟩:=uI.item r' s' y1 hd hy;rw[(Qk4 hl)] at l';unfold Ly at l';cases eg:g ds[i] Pj with
 |none=>rw[eg] at l';cases l'
 |some e5=>
  rw[eg] at l';obtain⟨b,e6,c1,l2⟩:=bf l';refine⟨_,F2,Pj,e5,ds[i],r2,p2,eg,λσ3 H3 F3 r3 s3 t3=>⟨_,F3,e5,e6,b,r3,c1,λH4 F4 r4 s4=>?_⟩⟩;have t3':=t3.trans t';have s24:=(s2.trans s3).trans s4;cases b with
  |false=>show if false=true then _ else _;rw[Qv5 Qw2];rw[Qv5 Qw2] at l2;exact⟨F4,e6,acc,ws,rest,r4,s'.trans s24,cN.mono s24 _ _ p',t3',l2,hacc⟩
  |true=>
   show if true=true then _ else _;rw[Qv4 rfl];rw[Qv4 rfl] at l2;obtain⟨y,e7,c2,l3⟩:=bf l2;obtain⟨ys2,e8,c3,l4⟩:=bf l3;cases l4;refine⟨_,F4,e6,e7,y,r4,c2,λv H5 F5 r5 s5 p5=>?_⟩;have hlen:acc.length+(ys2.length+1)=ys.length:=by rw[<-hacc,Qqv,Qqy]
   refine⟨ws,r5.pr _ _ bA,by rw[p'.length];omega,F5,e7,acc++[y],ws++[v],ys2,?_,s'.trans<|s24.trans s5,(cN.mono (s24.trans s5) _ _ p').append<|cN.one p5,t3',c3,by rw[Qxx];exact hacc⟩;have r6:=r5.turn (u:=.lst<|ws++[v]) bA;rwa [abk] at r6
 have ei:i=ds.length:=by omega
 subst ei;rw[Q0q] at l';cases l';rw[Qw8] at hacc;subst hacc;refine .inl ⟨(y1 _ H'<|s'.trans r'.fr).1 (Qj8<|Qq0 _) rfl,?_⟩;have sP:bu Pr (upd Pr a<|.lst ws):=qe hPa;have r7:Rel C Pr F' (eQ.take lo) σ H':=by
  have:=(r'.less sP).cut (by rw[hσ];exact t') r1.fix;rwa [hσ] at this
 refine q a H' F' r7 (s1.trans s') ⟨⟨hz,ws,r'.pr _ _ bA,p'⟩,hFa,hPa,λj e he hs=>?_⟩;have hj:=(Qq5.mp hs).1;have he':eQ[j]?=some (some (true,e)):=by rw[Qjz (by rw[<-hσ];exact hj)] at he;exact he
 obtain⟨b,g1,_,_,g4⟩:=r'.own j e he';have:σ'[j]?=some (some<|V.ref a):=by rw[<-t',Qjz (by rw[<-hσ];exact hj)] at hs;exact hs
 rw[this] at g1;cases g1;rw[bA] at g4;cases g4;cases e4;cases e2
section
variable{X:Cx}{C:Cfg}{pos:Pos}
def ae2(N')(lo)(ok:qP X scope N')(hc:X.calm=true)(hi:PXI X C tg iter it)
  (bg:∀X',nW X scope N' X'->PXG X' C lo tg g) (bc:∀X',nW X scope N' X'->WR X' C ifs c) (be:∀X',nW X scope N' X'->PX X' C elt e)
  (hs:∀x,foldedSetIterable iter X.env x=pure x:=by intro _;rfl):PXN X C (.ListComp elt [⟨tg,iter,ifs,0⟩] scope pos) (d9 lo N'.length it g c e):=
 (air ok hc hi bg bc be hs).imp λσ H Q h=>adZ h
def Vs(N'){spos py:Pos}(lo)(ok:qP X scope N')(hc:X.calm=true)(hi:PXI X C tg iter it)
  (bg:∀X',nW X scope N' X'->PXG X' C lo tg g) (bc:∀X',nW X scope N' X'->WR X' C ifs c) (be:∀X',nW X scope N' X'->PX X' C elt e)
  (hN:X.N.Nodup) (hy:X.N[i]? = some y) (hx:Loc X.env.scope y) (hfx:C.fx i=none)
  (hsw:swapsWith (.ListComp elt [⟨tg,iter,ifs,0⟩] scope pos) (some (.Name y py)) spos.line X.env=pure true)
  (hf:X.fn y=true\/X.env.scope.names.lookup y=some .local:=by first|exact .inl rfl|exact .inr rfl|assumption)
  (hs:∀x,foldedSetIterable iter X.env x=pure x:=by intro _;rfl):PXS X C (.Assign [.Name y py] (.ListComp elt [⟨tg,iter,ifs,0⟩] scope pos) spos) (cT i (d9 lo N'.length it g c e)):=
 (YB ok hc hi bg bc be hN hy hx hsw hf hs).imp λD σ H h=>by
  obtain⟨Pr,F,env,r,f⟩:=h;obtain⟨d,aR,e1,f1⟩:=fL f;have:tN C (d9 lo N'.length it g c e) σ H λv H1=>O3 i v σ H1 D.nx:=⟨Pr,F,env,aR,d,r,e1,λv H1 F1 r1 s1 p1=>f1 _ H1 F1 (r1.Yu hfx p1) s1⟩;exact adZ this
end
def pW(K:Fg)(n:Nat)(f:List D->Option D):Sp:=λvs H Q _=>∃(F:Hp) (ds:List D) (d:D),ds.length=n/\bu F H/\cN K F ds vs/\f ds=some d/\
 ∀v H' F',bu H H'->bu F' H'->bu F F'->(∀b o,F' b=some o->F b=some o\/H b=none)->Rep K F' d v->Q v H'
def spN(K:Fg)(n:Nat)(f:List D->Option D):Sp:=λvs H Q _=>∃(F:Hp) (ds:List D) (d:D),ds.length=n/\bu F H/\cN K F ds vs/\f ds=some d/\
 ∀a H' F',bu H H'->bu F' H'->bu F F'->(∀b o,F' b=some o->F b=some o\/H b=none)->pG K F' H' d a->F' a=none->H a=none->Q (.ref a) H'
def tY(K:Fg)(n:Nat)(f:List D->Option (D×D)):Sp:=λvs H Q _=>∃(F:Hp) (a:Addr) (r:List V) (x:D) (ds:List D) (d x':D),vs=.ref a::r/\ds.length+1=n/\bu F H/\F a=none/\pG K F H x a/\cN K F ds r/\f (x::ds)=some (d,x')/\
 ∀v H' F',(∀b o,b≠a->H b=some o->H' b=some o)->bu F' H'->bu F F'->(∀b o,F' b=some o->F b=some o\/H b=none)->pG K F' H' x' a->Rep K F' d v->Q v H'
def Rel.after(r:Rel C Pr F env σ H)(s:bu H H')(sF:bu F' H')(sF':bu F F')(nw:∀b o,F' b=some o->F b=some o\/H b=none):Rel C Pr F' env σ H':=by
 refine⟨r.pr.trans s,sF,r.len,λj e he=>?_,λj e he=>?_,r.apart,λb o e=>?_,r.fix⟩;obtain⟨v,h1,h2⟩:=r.val j e he;exact⟨v,h1,Rep.mono sF' _ _ h2⟩;obtain⟨a,h1,h2,h3,h4⟩:=r.own j e he;obtain⟨o,ho⟩:=h2.some;refine⟨a,h1,h2.mono sF' (by rw[ho,s _ _ ho]),?_,h4⟩;cases e:F' a with
 |none=>rfl|some u=>rcases nw a u e with z|z;rw[h3] at z;cases z;rw[ho] at z;cases z
 rcases nw b o e with z|z;exact r.dj b o z;exact r.pr.free z
def Rel.ac8(r:Rel C Pr F env σ H)(h:env[i]?=some (some (true,d)))(hs:σ[i]?=some (some (V.ref a)))(s:∀b o,b≠a->H b=some o->H' b=some o)(sF:bu F' H')(sF':bu F F')(nw:∀b o,F' b=some o->F b=some o\/H b=none)(ho:pG C.K F' H' d' a):Rel C Pr F' (env.set i (some (true,d'))) σ H':=by
 obtain⟨a',h1,h2,h3,h4⟩:=r.own i d h;rw[hs] at h1;cases h1;have hi:=(Qq5.mp h).1;obtain⟨oa,hoa⟩:=h2.some;have ne:∀j e b,j≠i->env[j]?=some (some (true,e))->σ[j]?=some (some<|V.ref b)->b≠a:=λj e b hj he g z=>hj<|r.apart j i e d a he h (by rw[<-z];exact g) hs;have nF:∀b u,F b=none->H b=some u->F' b=none:=λb u e1 e2=>by
  cases e:F' b with
  |none=>rfl|some w=>rcases nw b w e with z|z;rw[e1] at z;cases z;rw[e2] at z;cases z
 refine⟨λb w e=>?_,sF,by rw[Qzx];exact r.len,λj e he=>?_,λj e he=>?_,λj k e f b hj hk g1 g2=>?_,λb o e=>?_,r.fix⟩;have hb:b≠a:=λz=>by rw[z,h4] at e;cases e
 exact s b w hb<|r.pr b w e;by_cases hj:j=i;subst hj;rw[Qw9 hi] at he;cases he;rw[Qw5 (Ne.symm hj)] at he;obtain⟨v,g1,g2⟩:=r.val j e he;exact⟨v,g1,Rep.mono sF' _ _ g2⟩;by_cases hj:j=i;subst hj;rw[Qw9 hi] at he;cases he;exact⟨a,hs,ho,nF a oa h3 hoa,h4⟩;rw[Qw5 (Ne.symm hj)] at he;obtain⟨b,g1,g2,g3,g4⟩:=r.own j e he;obtain⟨ob,hob⟩:=g2.some;exact⟨b,g1,g2.mono sF' (by rw[hob,s b ob (ne j e b hj he g1) hob]),nF b ob g3 hob,g4⟩;have un:∀j e,(env.set i<|some (true,d'))[j]?=some (some (true,e))->∃e',env[j]?=some (some (true,e')):=λj e he=>by
  by_cases hj:j=i;subst hj;exact⟨d,h⟩;rw[Qw5 (Ne.symm hj)] at he;exact⟨e,he⟩
 obtain⟨e',hj'⟩:=un j e hj;obtain⟨f',hk'⟩:=un k f hk;exact r.apart j k e' f' b hj' hk' g1 g2;rcases nw b o e with z|z;exact r.dj b o z;exact r.pr.free z
section
variable{X:Cx}{C:Cfg}{pos p:Pos}{k n:Nat}{f:Addr}{fd:FuncData}{ps:List Str}{x:Str}{e:Expr}{es:List Expr}
def Gw(h:au g a env=.ok d env'):∃ds,a env=.ok ds env'/\g ds=some d:=by obtain⟨ds,aR,e1,e2⟩:=bf h;obtain⟨e3,rfl⟩:=d7 e2;exact⟨ds,e1,e3⟩
def ae5(G:sH X.prog X.w X.K X.mg X.base JN k f fd ps (pW C.K n g))(hr:mH k X.A)(hg:Gl X x)(hm:X.mg x=some (.ref f))(hk:PySem.W.keepIn X.K (.ref f)=true)(hb:Binds X.K fd ps [])
  (ha:W3 X C (e::es) a) (hn:∀env ds env',a env=.ok ds env'->ds.length=n) (hdb:qT x:=by decide) (he:starEach (e::es) X.env=(false,eval e X.env)::starEach es X.env:=by rfl) (hpl:(backTo pos (starEach es X.env)).any (·.1)=false:=by rfl) :
  PX X C (.Call (.Name x p) (e::es) [] pos) (au g a):=(Dl G hr hg hm hk hb .nil Tz ha hdb he hpl).imp λσ H Q hq=>by
 obtain⟨Pr,F,env,env',d,r,e,q⟩:=hq;obtain⟨ds,e1,e2⟩:=Gw e;refine⟨Pr,F,env,env',ds,r,e1,λvs H1 F1 r1 s1 p1=>?_⟩;show pW C.K n g (vs++[]) H1 Q E0;rw[Qw8];exact⟨F1,ds,d,hn _ _ _ e1,r1.fr,p1,e2,λv H2 F2 t1 t2 t3 t4 p2=>q v H2 F2 (r1.after t1 t2 t3 t4) (s1.trans t3) p2⟩
def abJ(G:sH X.prog X.w X.K X.mg X.base JN k f fd ps (spN C.K n g))(hr:mH k X.A)(hg:Gl X x)(hm:X.mg x=some (.ref f))(hk:PySem.W.keepIn X.K (.ref f)=true)(hb:Binds X.K fd ps [])
  (ha:W3 X C (e::es) a) (hn:∀env ds env',a env=.ok ds env'->ds.length=n) (hdb:qT x:=by decide) (he:starEach (e::es) X.env=(false,eval e X.env)::starEach es X.env:=by rfl) (hpl:(backTo pos (starEach es X.env)).any (·.1)=false:=by rfl) :
  PXN X C (.Call (.Name x p) (e::es) [] pos) (au g a):=(Dl G hr hg hm hk hb .nil Tz ha hdb he hpl).imp λσ H Q hq=>by
 obtain⟨Pr,F,env,env',d,r,e,q⟩:=hq;obtain⟨ds,e1,e2⟩:=Gw e;refine⟨Pr,F,env,env',ds,r,e1,λvs H1 F1 r1 s1 p1=>?_⟩;show spN C.K n g (vs++[]) H1 Q E0;rw[Qw8];refine⟨F1,ds,d,hn _ _ _ e1,r1.fr,p1,e2,λb H2 F2 t1 t2 t3 t4 ho hF hH=>q b H2 F2 (r1.after t1 t2 t3 t4) (s1.trans t3) ⟨ho,hF,r1.pr.free hH,λj e he hs=>?_⟩⟩;obtain⟨c,h1,h2,_⟩:=r1.own j e he;rw[hs] at h1;cases h1;obtain⟨u,hu⟩:=h2.some;rw[hH] at hu;cases hu
def dX(f:List D->Option (D×D))(i:Nat)(a:eZ):Ev:=λenv=>match env[i]? with
 |some (some (true,_))=>bindR (a env) λds aR=>(match aR[i]? with
  |some (some (true,x))=>(match f (x::ds) with
   |some (d,x')=>.ok d (aR.set i (some (true,x')))|none=>.stuck)
  |_=>.stuck)
 |_=>.stuck
def aik{py:Pos}(hN:X.N[i]? = some y)(hv:zR X.env.scope y)(G:sH X.prog X.w X.K X.mg X.base JN k f fd ps (tY C.K n g))(hr:mH k X.A)(hg:Gl X x)(hm:X.mg x=some (.ref f))(hk:PySem.W.keepIn X.K (.ref f)=true)(hb:Binds X.K fd ps [])
  (ha:W3 X C es a) (hn:∀env ds env',a env = .ok ds env'->ds.length+1=n) (hdb:qT x:=by decide) (he:starEach (.Name y py::es) X.env=(false,eval (.Name y py) X.env)::starEach es X.env:=by rfl) (hpl:(backTo pos (starEach es X.env)).any (·.1)=false:=by rfl)
  (hd:qT y:=by decide) (hcd:Bb y:=by decide) :
  PX X C (.Call (.Name x p) (.Name y py::es) [] pos) (dX g i a):=(Dl G hr hg hm hk hb .nil Tz (j7 (mj hN hv hd hcd) ha he) hdb he hpl).imp λσ H Q hq=>by
 obtain⟨Pr,F,env,env',d,r,e,q⟩:=hq;unfold dX at e;split at e;rename_i d0 h0;obtain⟨ds,aR,e1,e2⟩:=bf e;split at e2;rename_i z hz;split at e2;rename_i d1 z' hg;cases e2;obtain⟨a0,hs0,_⟩:=r.own i _ h0;refine⟨_,hs0,Pr,F,env,aR,ds,r,e1,λvs H1 F1 r1 s1 p1=>?_⟩;obtain⟨a1,hs1,ho1,hF1,hP1⟩:=r1.own i _ hz;rw[hs0] at hs1;cases hs1;show tY C.K n g (_::vs++[]) H1 Q E0;rw[Qw8];exact⟨F1,a0,vs,z,ds,d,z',rfl,hn _ _ _ e1,r1.fr,hF1,ho1,p1,hg,λv H2 F2 t1 t2 t3 t4 t5 p2=>q v H2 F2 (r1.ac8 hz hs0 t1 t2 t3 t4 t5) (s1.trans t3) p2⟩;cases e2;cases e2;cases e
end
def envOf(n:Nat)(ds:List D):Env:=ds.map (λd=>some (false,d))++List.replicate (n - ds.length) none
def Gz(n:Nat)(x:D)(ds:List D):Env:=some (true,x)::(ds.map (λd=>some (false,d))++List.replicate (n - (ds.length+1)) none)
def cQ(n:Nat)(ev:cu)(ds:List D):Option D:=match ev (envOf n ds) with
 |.rt false d _=>some d|.nx _=>some .non|_=>none
def runN(n:Nat)(ev:cu)(ds:List D):Option D:=match ev (envOf n ds) with
 |.rt true d _=>some d|_=>none
def jh(n:Nat)(ev:cu)(ds:List D):Option (D×D):=match ds with
 |[]=>none
 |x::r=>(match ev (Gz n x r) with
  |.rt false d env=>(match env[0]? with
   |some (some (true,x'))=>some (d,x')|_=>none)
  |.nx env=>(match env[0]? with
   |some (some (true,x'))=>some (.non,x')|_=>none)
  |_=>none)
def C0(K:Fg):Cfg:=⟨K,λ_=>none⟩
def C1(K:Fg)(a:Addr):Cfg:=⟨K,λi=>if i=0 then some a else none⟩
def Ku(H F:Hp):Hp:=λb=>if (F b).isSome then none else H b
def Oe(h:Ku H F b=some o):H b=some o/\F b=none:=by
 unfold Ku at h;split at h;cases h;rename_i z;exact⟨h,by cases e:F b with|none=>rfl|some w=>rw[e] at z;exact absurd rfl z⟩
def FN(h:Ku H F b=none):H b=none\/∃o,F b=some o:=by
 unfold Ku at h;split at h;rename_i z;exact .inr<|Qz1.mp z;exact .inl h
def Ja{K:Fg}(s:bu F H)(p:cN K F ds vs):Rel (C0 K) (Ku H F) F (envOf N.length ds) (start N vs) H:=by
 have un:∀j x,(envOf N.length ds)[j]?=some (some x)->∃d,x=(false,d)/\ds[j]?=some d:=λj x he=>by
  unfold envOf at he;by_cases hj:j<(ds.map λd=>some (false,d)).length;rw[Qxj hj,Qw1] at he;obtain⟨d,h1,h2⟩:=Qwz.mp he;cases h2;exact⟨d,rfl,h1⟩;rw[Qx6 (by omega),Qjk] at he;split at he<;>cases he
 refine⟨λb o e=>(Oe e).1,s,?_,λj d he=>?_,λj d he=>?_,λj k d e a hj hk=>?_,λb o e=>?_,λi a h=>by cases h⟩;unfold envOf L2.start;rw[Qqv,Qqv,Qqx,Qqx,Qz3,Qz3,p.length];obtain⟨d',z,hd⟩:=un j _ he;cases z;obtain⟨v,h1,h2⟩:=p.get hd;refine⟨v,?_,h2⟩;unfold L2.start;rw[Qxj (by rw[Qqx];exact(Qq5.mp h1).1),Qw1,h1];rfl;obtain⟨d',z,_⟩:=un j _ he;cases z;obtain⟨d',z,_⟩:=un j _ hj;cases z;unfold Ku;rw[e];rfl
def bu.Rp(s1:bu (Ku H F) H')(s2:bu F F')(s3:bu F' H')(sF:bu F H):bu H H':=λb o e=>by
 cases z:F b with
 |none=>exact s1 b o (by unfold Ku;rw[z];exact e)|some w=>have:=sF b w z;rw[e] at this;cases this;exact s3 b o<|s2 b o z
def Rx(s2:bu F F')(dj:∀b o,F' b=some o->Ku H F b=none)(b)(o)(h:F' b=some o):F b=some o\/H b=none:=by
 rcases FN (dj b o h) with z|⟨w,z⟩;exact .inr z;have:=s2 b w z;rw[h] at this;cases this;exact .inl z
section
variable{P:Program}{w:World}{K:Fg}{mg:Str->Option Value}{base:Heap}{x qual:Str}{st:Stmt}{f:Addr}{fd:FuncData}{N ps:List Str}{k:Nat}{ev:cu}
abbrev bx(P:Program)(w:World)(K:Fg)(mg:Str->Option Value)(base:Heap)(N:List Str)(qual:Str)(st:Stmt)(f:Addr)(cdv:Value)(A:Around)(outer:List PySem.Env)(s:Shared)(H:Hp)(E:XK):Cx:=(RT JN P w K mg base N qual (aV st) f cdv A outer s H E).nox
def Px(F:Fun K x qual st f fd)(S:bI N ps (aV st))
  (hb:∀cdv A outer s H E,mH k (A.deeper (envOfC qual (aV st) s.heap.objs.size f cdv))->Hk (bx P w K mg base N qual st f cdv A outer s H E) (C0 K) (iz st) ev) :
  sH P w K mg base JN (k+1) f fd ps (pW K ps.length (cQ N.length ev)):=by
 refine F.ok S (λvs H Q E h=>?_)<|λcdv A outer s H vs Q E hr h=>?_;obtain⟨F0,ds,d,hl,_,p,_⟩:=h;rw[p.length,hl];obtain⟨F0,ds,d,hl,sF,p,e,q⟩:=h;refine⟨_,hb cdv A outer s H E hr,Ku H F0,F0,envOf N.length ds,Ja sF p,?_⟩;unfold cQ at e;split at e;rename_i d' env' h1;cases e;rw[h1];exact λv σ' H' F' r' s' p'=>q v H' F' (bu.Rp r'.pr s' r'.fr sF) r'.fr s' (Rx s' r'.dj) p';rename_i env' h1;cases e;rw[h1];exact λσ' H' F' r' s'=>q .non H' F' (bu.Rp r'.pr s' r'.fr sF) r'.fr s' (Rx s' r'.dj) rfl;cases e
def acS(F:Fun K x qual st f fd)(S:bI N ps (aV st))
  (hb:∀cdv A outer s H E,mH k (A.deeper (envOfC qual (aV st) s.heap.objs.size f cdv))->Hk (bx P w K mg base N qual st f cdv A outer s H E) (C0 K) (iz st) ev) :
  sH P w K mg base JN (k+1) f fd ps (spN K ps.length (runN N.length ev)):=by
 refine F.ok S (λvs H Q E h=>?_)<|λcdv A outer s H vs Q E hr h=>?_;obtain⟨F0,ds,d,hl,_,p,_⟩:=h;rw[p.length,hl];obtain⟨F0,ds,d,hl,sF,p,e,q⟩:=h;refine⟨_,hb cdv A outer s H E hr,Ku H F0,F0,envOf N.length ds,Ja sF p,?_⟩;unfold runN at e;split at e;rename_i d' env' h1;cases e;rw[h1];refine λa σ' H' F' r' s' n'=>q a H' F' (bu.Rp r'.pr s' r'.fr sF) r'.fr s' (Rx s' r'.dj) n'.own n'.nF ?_;rcases FN n'.nP with z|⟨u,z⟩;exact z;have:=s' a u z;rw[n'.nF] at this;cases this;cases e
def Nk(s:bu F H)(hF:F a=none)(ho:pG K F H y a)(p:cN K F ds vs):Rel (C1 K a) (λb=>if b=a then none else Ku H F b) F (Gz N.length y ds) (start N (.ref a::vs)) H:=by
 have un:∀j x,(Gz N.length y ds)[j]?=some (some x)->(j=0/\x=(true,y))\/∃i d,j=i+1/\x=(false,d)/\ds[i]?=some d:=λj x he=>by
  unfold Gz at he;cases j with
  |zero=>cases he;exact .inl ⟨rfl,rfl⟩|succ i=>rw[Qyj] at he;by_cases hj:i<(ds.map λd=>some (false,d)).length;rw[Qxj hj,Qw1] at he;obtain⟨d,h1,h2⟩:=Qwz.mp he;cases h2;exact .inr ⟨i,d,rfl,rfl,h1⟩;rw[Qx6 (by omega),Qjk] at he;split at he<;>cases he
 have z0:(start N (.ref a::vs))[0]?=some (some<|V.ref a):=rfl;refine⟨λb o e=>?_,s,?_,λj d he=>?_,λj d he=>?_,λj k d e b hj hk _ _=>?_,λb o e=>?_,λi b h=>?_⟩;have e':=e;split at e';cases e';exact(Oe e').1;unfold Gz L2.start;simp only[Qqy,Qqv,Qqx,Qz3,p.length,Qq8];omega;rcases un j _ he with ⟨_,z⟩|⟨i,d',rfl,z,hd⟩;cases z;cases z;obtain⟨v,h1,h2⟩:=p.get hd;refine⟨v,?_,h2⟩;unfold L2.start;rw[Qq8,Qh0,Qyj,Qxj (by rw[Qqx];exact(Qq5.mp h1).1),Qw1,h1];rfl;rcases un j _ he with ⟨rfl,z⟩|⟨i,d',rfl,z,hd⟩;cases z;exact⟨a,z0,ho,hF,Qv4 rfl⟩;cases z;rcases un j _ hj with ⟨rfl,_⟩|⟨i,d',rfl,z,_⟩;rcases un k _ hk with ⟨rfl,_⟩|⟨i,d',rfl,z,_⟩;rfl;cases z;cases z;show(if b=a then none else Ku H F b)=none;split;rfl;unfold Ku;rw[e];rfl;have h':(if i=0 then some a else none)=some b:=h;split at h';rename_i hi;cases h';rw[hi];exact z0;cases h'
def agI(F:Fun K x qual st f fd)(S:bI N (y::qs) (aV st))
  (hb:∀cdv A outer s H E a,mH k (A.deeper (envOfC qual (aV st) s.heap.objs.size f cdv))->Hk (bx P w K mg base N qual st f cdv A outer s H E) (C1 K a) (iz st) ev) :
  sH P w K mg base JN (k+1) f fd (y::qs) (tY K (qs.length+1) (jh N.length ev)):=by
 refine F.ok S (λvs H Q E h=>?_)<|λcdv A outer s H vs Q E hr h=>?_;obtain⟨F0,a,r,z,ds,d,z',rfl,hl,_,_,_,p,_⟩:=h;rw[Qqy,Qqy,p.length];exact hl;obtain⟨F0,a,r,z,ds,d,z',rfl,hl,sF,hFa,ho,p,e,q⟩:=h;refine⟨_,hb cdv A outer s H E a hr,_,F0,Gz N.length z ds,Nk sF hFa ho p,?_⟩;have fin:∀env' σ' H' F' v d z',env'[0]?=some (some (true,z'))->Rel (C1 K a) (λb=>if b=a then none else Ku H F0 b) F' env' σ' H'->bu F0 F'->Rep K F' d v->(∀v H' F',(∀b o,b≠a->H b=some o->H' b=some o)->bu F' H'->bu F0 F'->(∀b o,F' b=some o->F0 b=some o\/H b=none)->pG K F' H' z' a->Rep K F' d v->Q v H')->Q v H':=λenv' σ' H' F' v d z' h0 r' s' p' q=>by
  obtain⟨b,g1,g2,g3,g4⟩:=r'.own 0 z' h0;have g5:=r'.fix 0 a rfl;rw[g1] at g5;cases g5;refine q v H' F' (λc o hc e=>?_) r'.fr s' (λc o e=>?_) g2 p';cases u:F0 c with
  |none=>exact r'.pr c o (by show(if c=a then none else Ku H F0 c)=some o;rw[Qv5 hc];unfold Ku;rw[u];exact e)|some w=>have:=sF c w u;rw[e] at this;cases this;exact r'.fr c o<|s' c o u
  by_cases hc:c=a;subst hc;rw[g3] at e;cases e;have h1:=r'.dj c o e;have h1':=h1;rw[Qv5 hc] at h1';rcases FN h1' with u|⟨w,u⟩;exact .inr u;have:=s' c w u;rw[e] at this;cases this;exact .inl u
 unfold jh at e;simp at e;split at e;rename_i d' env' h1;split at e;rename_i z1 h0;cases e;rw[h1];exact λv σ' H' F' r' s' p'=>fin env' σ' H' F' v _ _ h0 r' s' p' q;cases e;rename_i env' h1;split at e;rename_i z1 h0;cases e;rw[h1];exact λσ' H' F' r' s'=>fin env' σ' H' F' .non .non _ h0 r' s' rfl q;cases e;cases e
end
structure Good(X:Cx)(C:Cfg):Prop where
 K:X.K=C.K
 calm:X.calm=true
 un:X.A.units+64<cLine
def Good.u1(G:Good X C):X.A.units+1<cLine:=Qw3 (Qd4 (by decide:1<=64) _) G.un
def Good.u60(G:Good X C):X.A.units+60<cLine:=Qw3 (Qd4 (by decide:60<=64) _) G.un
def Good.u61(G:Good X C):X.A.units+61<cLine:=Qw3 (Qd4 (by decide:61<=64) _) G.un
def Good.at(G:Good X C)(h:nW X scope N' X'):Good X' C:=by obtain⟨_,_,_,_,_,rfl⟩:=h;exact⟨G.K,G.calm,G.un⟩
def Own(P:Program)(w:World)(K:Fg)(mg:Str->Option Value)(base:Heap)(x:Str)(k:Nat)(ps:List Str)(sp:Sp):Prop:=
 ∃f fd,sH P w K mg base JN k f fd ps sp/\mg x=some (.ref f)/\PySem.W.keepIn K (.ref f)=true/\Binds K fd ps []
def Glb(K:Fg)(mg:Str->Option Value)(x:Str)(d:D):Prop:=∃v u,mg x=some u/\RelV v u/\∀F,Rep K F d v
def dq(K:Fg)(mg:Str->Option Value)(x:Str)(st:Stmt)(ps:List Str):Prop:=∃f fd,Fun K x x st f fd/\mg x=some (.ref f)/\Binds K fd ps []
def qp:List Str->Bool
 |[]=>true|x::r=>!(r.contains x)&&qp r
theorem mR:∀{l},qp l=true->l.Nodup
 |[],_=>.nil
 |x::r,h=>by
  have h':(!(r.contains x)&&qp r)=true:=h;rw[Qjx] at h';refine Qx3.mpr ⟨λhm=>?_,mR h'.2⟩;have:=List.contains_iff_mem.mpr hm;rw[this] at h';exact absurd h'.1 (by decide)
def Uk(outer:List (Str×NameKind)):List (Str×NameKind)->Bool
 |[]=>true|(n,k)::r=>(!decide (k=.free)||decide (outer.lookup n=some .cell)||decide (outer.lookup n=some .free))&&Uk outer r
theorem O6:∀{l},Uk outer l=true->∀x∈l,x.2=.free->outer.lookup x.1=some .cell\/outer.lookup x.1=some .free
 |[],_,x,hx,_=>by simp at hx
 |(n,k)::r,h,x,hx,hf=>by
  have h':((!decide (k=.free)||decide (outer.lookup n=some .cell)||decide (outer.lookup n=some .free))&&Uk outer r)=true:=h;rw[Qjx,Qdy,Qdy] at h';rcases Qq4.mp hx with rfl|hx;rcases h'.1 with (z|z)|z;rw[Qw0 hf] at z;exact absurd z (by decide);exact .inl<|Qxy z;exact .inr<|Qxy z;exact O6 h'.2 x hx hf
def gf{X:Cx}{scope:Scope}{N':List Str}(h1:scope.kind = .function:=by rfl)(h2:qp (scope.names.map (·.1))=true:=by rfl)(h3:Uk X.env.scope.names scope.names=true:=by rfl)(h4:aaF scope.names N' X.N=true:=by rfl)(h5:Nat.ble X.N.length N'.length=true:=by rfl):qP X scope N':=
 ⟨h1,mR h2,O6 h3,h4,Qj7 h5⟩
section
variable{X:Cx}{C:Cfg}{pos p px:Pos}{x y z:Expr}{a b c:Ev}{t u:iC}{i:Nat}{n:Str}
structure Bi(X:Cx)(C:Cfg)(op:Operator)(g:D->D->Option D):Prop where
 ex:∃r,qN X (binaryOp op) r/\tV C r g
structure Cm(X:Cx)(C:Cfg)(op:CmpOp)(g:D->D->Option D):Prop where
 ex:∃r,qN X (compareOp op) r/\tV C r g
def gk(G:Good X C):Bi X C .Add cU:=⟨_,aca,by rw[G.K];exact afW⟩
def PN:Bi X C .Sub uX:=⟨_,afv,afL⟩
def aaL:Bi X C .Mult xV:=⟨_,ab8,afP⟩
def ajt:Bi X C .Mod agw:=⟨_,afA,afQ⟩
def aef:Bi X C .Pow RL:=⟨_,afy,afO⟩
def ajs:Bi X C .LShift Wg:=⟨_,afx,afN⟩
def aee:Bi X C .RShift HX:=⟨_,afw,afM⟩
def aeh:Bi X C .BitAnd K1:=⟨_,afH,afV⟩
def pQ(G:Good X C):Cm X C .Eq lV:=⟨_,afG G.u60,by rw[G.K];exact aiD⟩
def Ig(G:Good X C):Cm X C .NotEq yf:=⟨_,afz G.u60,by rw[G.K];exact aix⟩
def agV(G:Good X C):Cm X C .In gIn:=⟨_,afF G.u61,by rw[G.K];exact aiB⟩
def ajo:Cm X C .Is gIs:=⟨_,afD,aiA⟩
def R1:Cm X C .Lt wV:=⟨_,afB,aiy⟩
def ajn:Cm X C .LtE gLe:=⟨_,aiu,aiz⟩
def ajp:Cm X C .Gt gGt:=⟨_,aiv,aiC⟩
variable{e:Expr}{es:List Expr}{ea:eZ}
def len0:∀env ds env',aj env=.ok ds env'->ds.length=0:=Wl
def bz(hr:∀env ds env',r env=.ok ds env'->ds.length=m):∀env ds env',aa a r env=.ok ds env'->ds.length=m+1:=RQ hr
def il{r:eZ}(hr:∀env ds env',r env=.ok ds env'->ds.length=m):∀env ds env',r env=.ok ds env'->ds.length+1=m+1:=λenv ds env' h=>by rw[hr env ds env' h]
def Kd(m)(G:Good X C)(hc:PXT X C cd t)(hb:Hk X C body bs)(hp:PassesOwn (model X.prog X.w) X.A X.env X.xe:=by exact Q02):PXS X C (.While cd body [] pos) (eV t bs m):=Vr m hp hc hb
def akG(N')(lo)(ok:qP X scope N')(G:Good X C)(hi:PXI X C tg iter it)
  (bg:∀X',nW X scope N' X'->PXG X' C lo tg g) (bc:∀X',nW X scope N' X'->WR X' C ifs cc) (be:∀X',nW X scope N' X'->PX X' C elt ee)
  (hs:∀x,foldedSetIterable iter X.env x=pure x:=by intro _;rfl):PXN X C (.ListComp elt [⟨tg,iter,ifs,0⟩] scope pos) (d9 lo N'.length it g cc ee):=ae2 N' lo ok G.calm hi bg bc be hs
def aku(N'){spos py:Pos}(lo)(i)(ok:qP X scope N')(G:Good X C)(hi:PXI X C tg iter it)
  (bg:∀X',nW X scope N' X'->PXG X' C lo tg g) (bc:∀X',nW X scope N' X'->WR X' C ifs cc) (be:∀X',nW X scope N' X'->PX X' C elt ee)
  (hnd:qp X.N=true:=by rfl) (hfx:C.fx i=none:=by rfl) (hy:X.N[i]? = some n:=by rfl) (hx:Loc X.env.scope n:=by first|exact .inl rfl|exact .inr rfl)
  (hsw:swapsWith (.ListComp elt [⟨tg,iter,ifs,0⟩] scope pos) (some (.Name n py)) spos.line X.env=pure true:=by rfl)
  (hf:X.fn n=true\/X.env.scope.names.lookup n=some .local:=by first|exact .inl rfl|exact .inr rfl)
  (hs:∀x,foldedSetIterable iter X.env x=pure x:=by intro _;rfl):PXS X C (.Assign [.Name n py] (.ListComp elt [⟨tg,iter,ifs,0⟩] scope pos) spos) (cT i (d9 lo N'.length it g cc ee)):=Vs N' lo ok G.calm hi bg bc be (mR hnd) hy hx hfx hsw hf hs
end
section
variable{P:Program}{w:World}{K:Fg}{mg:Str->Option Value}{base:Heap}{x:Str}{st:Stmt}{N ps:List Str}{k:Nat}{ev:cu}
def Dv(hC:C.K=K)(hr:mH k (A.deeper (envOfC x (aV st) s.heap.objs.size f cdv))):Good (bx P w K mg base N x st f cdv A outer s H E) C:=⟨hC.symm,rfl,hr.units⟩
def cz(F:dq K mg x st ps)(S:bI N ps (aV st))
  (hb:∀f cdv A outer s H E,mH k (A.deeper (envOfC x (aV st) s.heap.objs.size f cdv))->Good (bx P w K mg base N x st f cdv A outer s H E) (C0 K)->Hk (bx P w K mg base N x st f cdv A outer s H E) (C0 K) (iz st) ev) :
  Own P w K mg base x (k+1) ps (pW K ps.length (cQ N.length ev)):=by
 obtain⟨f,fd,h1,h2,h3⟩:=F;exact⟨f,fd,Px h1 S λcdv A outer s H E hr=>hb f cdv A outer s H E hr<|Dv rfl hr,h2,h1.kp,h3⟩
def TJ(F:dq K mg x st ps)(S:bI N ps (aV st))
  (hb:∀f cdv A outer s H E,mH k (A.deeper (envOfC x (aV st) s.heap.objs.size f cdv))->Good (bx P w K mg base N x st f cdv A outer s H E) (C0 K)->Hk (bx P w K mg base N x st f cdv A outer s H E) (C0 K) (iz st) ev) :
  Own P w K mg base x (k+1) ps (spN K ps.length (runN N.length ev)):=by
 obtain⟨f,fd,h1,h2,h3⟩:=F;exact⟨f,fd,acS h1 S λcdv A outer s H E hr=>hb f cdv A outer s H E hr<|Dv rfl hr,h2,h1.kp,h3⟩
def rW(F:dq K mg x st (y::qs))(S:bI N (y::qs) (aV st))
  (hb:∀f cdv A outer s H E a,mH k (A.deeper (envOfC x (aV st) s.heap.objs.size f cdv))->Good (bx P w K mg base N x st f cdv A outer s H E) (C1 K a)->Hk (bx P w K mg base N x st f cdv A outer s H E) (C1 K a) (iz st) ev) :
  Own P w K mg base x (k+1) (y::qs) (tY K (qs.length+1) (jh N.length ev)):=by
 obtain⟨f,fd,h1,h2,h3⟩:=F;exact⟨f,fd,agI h1 S λcdv A outer s H E a hr=>hb f cdv A outer s H E a hr<|Dv rfl hr,h2,h1.kp,h3⟩
def gr{sc:Scope}(h1:sc.kind = .function:=by rfl)(h2:sc.isCoroutine=false:=by rfl)(h3:sc.isGenerator=false:=by rfl)(h4:qp N=true:=by rfl)(h5:N.take ps.length=ps:=by rfl)
  (h6:(ps.all λx=>decide (sc.names.lookup x=some .local)||decide (sc.names.lookup x=some .cell))=true:=by rfl) (h7:(sc.names.all λy=>!decide (y.2 = .free))=true:=by rfl):bI N ps sc:=by
 refine⟨h1,h2,h3,mR h4,h5,λx hx=>?_,λy hy z=>?_⟩;have:=Qx9.mp h6 x hx;rw[Qdy] at this;rcases this with z|z;exact .inl<|Qxy z;exact .inr<|Qxy z;have:=Qx9.mp h7 y hy;rw[Qw0 z] at this;exact absurd this (by decide)
end
open PySem PySem.Spec PySem.W PySem.Calls PyProof.Rows L2
theorem Bw:∀(ns:List Int) i,i∈ns->Builtin.Int.intBits i<=WData.weightAll (ns.map WData.int)
 |[],_,h=>by simp at h
 |n::ns,i,h=>by
  rw[Qq8,WData.weightAll];rcases Qq4.mp h with rfl|h;have e:WData.weight (.int i)=Builtin.Int.intBits i:=by rw[WData.weight];rfl
  rw[e];omega;have:=Bw ns i h;omega
def Sq(ns:List Int):Prop:=∀i∈ns,Builtin.Int.intBits i<=2^20
def Lj{l:OpenLaw}
  (hn:l.most=some n) (hdf:d.params.defaults=[])
  (call:∀w s₀ s₁ mg mb fa o pm cd doc a vs ns,
   Ground q loose [] XP w s₀ mg mb s₁.heap->YP w s₁.heap->
   s₁.heap.get? fa=some o->o.data=.func (docDef d.name d.params d.body d.scope pm cd doc)->s₁.heap.CodeRec cd d.name->mg d.name=some (.ref fa)->
   s₁.heap.get? a=some { cls:=.type "list",data:=.seq vs.toArray }->IntsAre vs ns->ns.length<=n->Sq ns->s₁.gens=#[]->
   codeAny (model l.prog w) callerA (.call (.ref fa) ⟨[.ref a],[]⟩) (λr s'=>r=.ok (.ret (.bool true))/\OldK s₁.heap s'.heap/\s'.os=s₁.os/\AllBare s'.gens) s₁) :
  WalkO q loose XP YP l.row.toRowW d [] (λf vs=>PySem.call f vs):=by
 intro w s₀ s₁ mg mb G Y fa o pm cd doc dV kV ho hd hcd hD hmg hg args vals as hpre hlay hrd hwl hlo;obtain rfl:dV=.none:=Dflts.none hD hdf;obtain rfl:kV=.none:=Dflts.noKw hD;obtain⟨a,vs,ns,rfl,rfl,hobj,hints,hlen⟩:=Att.Vj hn hpre hwl;have Ug:=λi hi=>by
  have h1:=(layableW_iff.mp<|layableW_arg hlay _<|Qqw.mpr rfl).2.2;rw[WData.weight] at h1;exact Qq1 (Bw ns i hi) h1
 refine enter_call<|Qfq (call w s₀ s₁ mg mb fa o pm cd doc a vs ns G Y ho (fd_plain hd) hcd hmg hobj hints hlen Ug hg) λr s' hq=>?_;obtain⟨rfl,h2,h3,h4⟩:=hq;exact⟨.inl ⟨.bool true,.bool true,[],rfl,λ_=>rfl,.bool true,Att.Vx l _,λ_=>⟨List.Pairwise.nil,λ_ hm=>(nomatch hm)⟩⟩,h2,h3,h4⟩
theorem ahC{l:PySem.W.OpenLaw}{K:Params->PySem.W.Frag}
  (hn:l.most=some n) (hn2:n<=sizeLine) (hdf:d.params.defaults=[]) (hr:mH k callerA)
  (hY:∀w h,YP w h->(K w.params).In h)
  (hf:∀ns,ns.length<=n->Sq ns->f [.arr (ns.map .int)]=some (.bl true))
  (F:∀w mg fa h,(K w.params).In h->h.Ns mainGlobals mg->mg d.name=some (.ref fa)->
   ∃fd,(∀s u,BindsTo s fd ⟨[u],[]⟩ [(x,u)])/\
    ∀base,(K w.params).In base->base.Ns mainGlobals mg->sH l.prog w (K w.params) mg base JN k fa fd [x] (pW (K w.params) 1 f)) :
  PySem.W.WalkO q loose XP YP l.row.toRowW d [] (λf vs=>PySem.call f vs):=by
 refine Lj hn hdf λw s₀ s₁ mg mb fa o pm cd doc a vs ns G Y ho hd hcd hmg hobj hints hlen Ug hg=>?_;have KX:=hY w _ Y;obtain⟨fd,hb,hF⟩:=F w mg fa _ KX G.T.g hmg;refine ZZ KX G.T.g G.T.b G.T.builtins G.T.nolimit hg hobj hints (Qq1 hlen hn2) hr hF hb (λH hO hS=>?_) λH e s' z=>z;refine⟨H,[.arr (ns.map .int)],.bl true,rfl,bu.refl H,⟨_,_,rfl,⟨by rw[Qqx];exact Qq1 hlen hn2,a,_,rfl,hS,?_⟩,rfl⟩,hf ns hlen Ug,λv H' F' _ _ _ _ p=>p⟩;clear hints hlen Ug hS
 induction ns with
 |nil=>exact rfl|cons m ns ih=>exact⟨_,_,rfl,rfl,ih⟩
section
variable{K:Fg}{h:Heap}{mg:Str->Option Value}
def funAt{st:Stmt}{kV doc pm cdv ct:Value}(X:K.In h)(G:h.Ns mainGlobals mg)
  (a:PySem.W.nsIn K mainGlobals x=some (some (.ref f))) (l:K.lookup f=some ⟨oc,od,.func (PySem.W.fnOf x x (nQ st) (iz st) (aV st) .none kV doc pm an cdv ct),osl⟩)
  (c:PySem.W.codeIn K cdv x=true) (k:PySem.W.keepIn K (.ref f)=true)
  (b:∀kV doc pm an cdv ct us,us.length=ps.length->bindArgs (PySem.W.fnOf x x (nQ st) (iz st) (aV st) .none kV doc pm an cdv ct) ⟨us,[]⟩=pure (ps.zip us)):dq K mg x st ps:=
 ⟨f,_,RM l c k,Qgw X G a,(RM l c k).binds b⟩
theorem acH(X:K.In h)(G:h.Ns mainGlobals mg)(a:PySem.W.nsIn K mainGlobals x=some (some (.str s t)))(hs:s=strOf z)(hz:z.length<=sizeLine):Glb K mg x (.str z):=
 ⟨.str s,_,Qgw X G a,⟨t,rfl⟩,λF=>⟨by rw[hs],hz⟩⟩
theorem vJ(X:K.In h)(G:h.Ns mainGlobals mg)(e:PySem.W.nsIn K mainGlobals x=some none):mg x=none:=PySem.W.mg_none_of X G e
end
open PySem L2
theorem vO(P:Env->Prop):∀ds,(∀d∈ds,∀env,P env->∃e1 e2,g d env=some e1/\b e1=.nx e2/\P e2)->∀env,P env->∃e',jM g b ds env=.nx e'/\P e'
 |[],_,env,hp=>⟨env,rfl,hp⟩
 |d::ds,h,env,hp=>by
  obtain⟨e1,e2,h1,h2,h3⟩:=h d (Qqj ..) env hp;obtain⟨e',h4,h5⟩:=vO P ds (λd' hd=>h d'<|Qqk _ hd) e2 h3;refine⟨e',?_,h5⟩;unfold jM;rw[h1];simp;rw[h2];exact h4
theorem Ul(P:List D->Env->Prop)(h:∀done d rest,all=done++d::rest->∀env,P done env->∃e1 e2,g d env=some e1/\b e1=.nx e2/\P (done++[d]) e2):∀ds done,all=done++ds->∀env,P done env->∃e',jM g b ds env=.nx e'/\P all e'
 |[],done,ha,env,hp=>⟨env,rfl,by rw[ha,Qw8];exact hp⟩
 |d::ds,done,ha,env,hp=>by
  obtain⟨e1,e2,h1,h2,h3⟩:=h done d ds ha env hp;obtain⟨e',h4,h5⟩:=Ul P h ds (done++[d]) (by rw[Qxx];exact ha) e2 h3;refine⟨e',?_,h5⟩;unfold jM;rw[h1];simp;rw[h2];exact h4
def jV(all)(P:List D->Env->Prop)(h:∀done d rest,all=done++d::rest->∀env,P done env->∃e1 e2,g d env=some e1/\b e1=.nx e2/\P (done++[d]) e2)(env)(h0:P [] env):∃e',jM g b all env=.nx e'/\P all e':=Ul P h all [] rfl env h0
def aB(h:a env=.nx e):aC a b env=b e:=by unfold aC;rw[h]
def km(h:a env=.rt o d e):aC a b env=.rt o d e:=by unfold aC;rw[h]
def cZ(h:it env=.ok ds e):dF it g b env=jM g b ds e:=by unfold dF;rw[h];rfl
def bB(h:a env=.ok d e)(h':g d e=some e'):aQ a g env=.nx e':=by unfold aQ;rw[h];show ZQ (g d e)=_;rw[h'];rfl
def gq(h:t env=.ok true e):dH t a b env=a e:=by unfold dH;rw[h];rfl
def dw(h:t env=.ok false e):dH t a b env=b e:=by unfold dH;rw[h];rfl
def bT(h:a env=.ok d e):bw a env=.rt false d e:=by unfold bw;rw[h];rfl
def aK(h:a env=.ok ds e)(h':g ds=some d):au g a env=.ok d e:=by unfold au;rw[h];show jj (g ds) e=_;rw[h'];rfl
def bj(h1:a env=.ok x e1)(h2:b e1=.ok y e2)(h3:g x y=some d):aN g a b env=.ok d e2:=by
 unfold aN;rw[h1];show bindR (b e1) _=_;rw[h2];show jj (g x y) e2=_;rw[h3]
 rfl
def aO(h1:env[i]?=some (some (o',x0)))(h2:b env=.ok y e2)(h4:e2[i]?=some (some (o,x)))(h3:g x y=some d):aq g i b env=.ok d e2:=by
 unfold aq;rw[h1];show bindR (b env) _=_;rw[h2];show(match e2[i]? with|some (some (_,x))=>jj (g x y) e2|_=>.stuck)=_;rw[h4];show jj (g x y) e2=_;rw[h3]
 rfl
def aD(h1:a env=.ok d e1)(h2:r e1=.ok ds e2):aa a r env=.ok (d::ds) e2:=by
 unfold aa;rw[h1];show bindR (r e1) _=_;rw[h2]
 rfl
def aY:aj env=.ok [] env:=rfl
def Gv(h:r env=.ok ds e)(hz:ds.length<=sizeLine):cB r env=.ok (.lst ds) e:=by unfold cB;rw[h];show(if ds.length<=sizeLine then _ else _)=_;rw[Qv4 hz]
def cG(h:r env=.ok ds e)(hz:ds.length<=sizeLine):bK r env=.ok (.tup ds) e:=by unfold bK;rw[h];show(if ds.length<=sizeLine then _ else _)=_;rw[Qv4 hz]
def fG(h0:env[i]?=some (some (true,x0)))(h1:a env=.ok ds e1)(h2:e1[i]?=some (some (true,x)))(h3:f (x::ds)=some (d,x')):dX f i a env=.ok d (e1.set i (some (true,x'))):=by unfold dX;rw[h0];show bindR (a env) _=_;rw[h1];show(match e1[i]? with|some (some (true,x))=>(match f (x::ds) with|some (d,x')=>R.ok d (e1.set i<|some (true,x'))|none=>R.stuck)|_=>R.stuck)=_;rw[h2];show(match f (x::ds) with|some (d,x')=>R.ok d (e1.set i<|some (true,x'))|none=>.stuck)=_;rw[h3]
def Ui(h:oY i j=true):xV (.int i) (.int j)=some (.int (i*j)):=by show gI oY (λi j=>D.int<|i*j) (.int i) (.int j)=_;unfold gI;simp only;rw[Qv4 h]
def O4(h:a.length+b.length<=sizeLine):cU (.lst a) (.lst b)=some (.lst (a++b)):=by show(if a.length+b.length<=sizeLine then _ else _)=_;rw[Qv4 h]
def cW(h:a env=.ok (.bl b) e):cR a env=.ok b e:=by unfold cR;rw[h];rfl
def jf(h:a env=.ok d e):cT i a env=.nx (e.set i (some (true,d))):=by unfold cT;rw[h];rfl
def zz(h:a env=.ok d e)(h':itD d=some ds):dO a env=.ok ds e:=by unfold dO;rw[h];show jj (itD d) e=_;rw[h'];rfl
def jg(h:ev (Gz n x r)=.rt false d env)(h0:env[0]?=some (some (true,x'))):jh n ev (x::r)=some (d,x'):=by unfold jh;simp;rw[h];simp;rw[h0]
def cL(h:ev (envOf n ds)=.rt false d env):cQ n ev ds=some d:=by unfold cQ;rw[h]
def abu(h:ev (envOf n ds)=.rt true d env):runN n ev ds=some d:=by unfold runN;rw[h]
def acO(h:a env=.ok (.bl true) e):Pg a b env=b e:=by unfold Pg;rw[h];rfl
def agE(h:a env=.ok (.bl true) e):K4 a b env=.ok (.bl true) e:=by unfold K4;rw[h];rfl
def aar(h:a env=.ok (.bl false) e):K4 a b env=b e:=by unfold K4;rw[h];rfl
def nM(h:a env=.ok false e):j8 a b env=b e:=by unfold j8;rw[h];rfl
def oN(h:a env=.ok b e):gb a env=.ok (!b) e:=by unfold gb;rw[h];rfl
theorem wk(P:Env->Prop)(f):∀ds env,P env->(∀d∈ds,∀env,P env->∃e1 e2,g d env=some e1/\e e1=.ok (f d) e2/\P e2)->∃env',Ly g cA e ds env=.ok (ds.map f) env'/\P env'
 |[],env,hp,_=>⟨env,rfl,hp⟩
 |d::ds,env,hp,h=>by
  obtain⟨e1,e2,h1,h2,h3⟩:=h d (Qqj ..) env hp;obtain⟨e3,h4,h5⟩:=wk P f ds e2 h3 λd' hd=>h d'<|Qqk _ hd;refine⟨e3,?_,h5⟩;unfold Ly;rw[h1];show bindR (e e1) _=_;rw[h2];show bindR (Ly g cA e ds e2) _=_;rw[h4]
  rfl
def o7{lo n:Nat}(h1:it env=.ok ds aR)(hl:aR.length=lo)(h2:Ly g c e ds (aR++List.replicate (n - lo) none)=.ok ys eQ)(hz:ys.length<=sizeLine):d9 lo n it g c e env=.ok (.lst ys) (eQ.take lo):=by unfold d9;rw[h1];show(if aR.length=lo then _ else _)=_;rw[Qv4 hl,h2];show(if ys.length<=sizeLine then _ else _)=_;rw[Qv4 hz]
def dig(n)(m)(hm:0<m):∃d:Nat,d<m/\n % m=(d:Int):=by have h1:0<=n % (m:Int):=Int.emod_nonneg n (by omega);have h2:n % (m:Int)<m:=Int.emod_lt_of_pos n (by omega);exact⟨(n % (m:Int)).toNat,by omega,by omega⟩
def Lk{α:Type}{xs:List α}(h:d<xs.length):uN xs d=some xs[d]:=je<|Qq7 h
def okN:Nat->D->Bool
 |0,_=>false|n+1,.tup xs=>xs.all (okN n)|n+1,.lst xs=>xs.all (okN n)|_+1,.dct _=>false|_+1,.iY _=>false|_+1,.clo _ _=>false|_+1,.arr _=>false|_+1,_=>true
theorem Gy:∀xs,(∀x∈xs,f x x=some true)->zE f xs xs=some true
 |[],_=>rfl
 |x::r,h=>by
  unfold zE;rw[h x (Qqj ..),Gy r λy hy=>h y<|Qqk _ hy]
  rfl
theorem zB:∀n d,okN n d=true->bO n d d=some true
 |0,_,h=>by cases h
 |n+1,d,h=>by
  cases d with
  |tup xs=>exact Gy xs λx hx=>zB n x<|Qx9.mp h x hx|lst xs=>exact Gy xs λx hx=>zB n x<|Qx9.mp h x hx|dct _=>cases h|iY _=>cases h|clo _ _=>cases h|arr _=>cases h|non=>rfl|bl b=>show some (b == b)=_;simp|int i=>show some (i == i)=_;simp|str x=>show some (x == x)=_;simp
open PySem PySem.Spec PyProof.Rows L2 PySem.Builtin
def Ed(ht:IsTup s.heap a items)(e:Value->Bool)(j)(hj:j<items.size)(hit:e items[j]=true)(hno:∀m (hm:m<items.size),m<j->e items[m]=false)
  (he:∀y∈items,SeqAt.EqAt A s y x (e y)) (h:Q (.done (.ret (.int j s.toks))) { s with toks:=s.toks+1 }):wpAny (model prog w) A (Builtin.«tuple.index» ⟨[.ref a,x],[]⟩) Q E s:=by
 unfold Builtin.«tuple.index»;refine Qqq<|Qq2 ?_;refine Qqq<|tupleItemsOf_ ht ?_;refine Qqq<|Qq2<|Qqq<|Qq2 ?_;dsimp only;rw[Std.Legacy.Range.forIn_eq_forIn_range',Qfz];refine Qqq<|wpAny_forIn_list _ (λrest b s'=>b=(none,())/\s'=s/\∃k,k<=j/\rest=List.range' k (items.size - k)) (λb s'=>∃r,b=(some r,())/\Q r s') ?_ ?_ _ _ ⟨rfl,rfl,0,Qxz _,by simp[Std.Legacy.Range.size]⟩ |> λz=>Qj2 z (λb s' ⟨r,hb,hq⟩=>by subst hb;exact Qq2 hq) λ_ _ h=>h;rintro i rest b s' ⟨rfl,rfl,k,hk,hr⟩;have hlt:=Qw3 hk hj;obtain⟨m,hm⟩:∃m,items.size - k=m+1:=⟨items.size - k - 1,by omega⟩;rw[hm,Qv6] at hr;cases hr;have hi:items[i]?=some items[i]:=by simp[hlt]
 rw[hi];refine Qqq<|he _ (Array.getElem_mem hlt) prog w _ _ ?_;by_cases hij:i=j;subst hij;rw[hit,Qv4 rfl];unfold retInt;refine Qqq<|Qqq<|wpAny_mkInt ?_;exact Qq2<|Qq2 ⟨_,rfl,h⟩;rw[hno i hlt (by omega),Qv5 Qw2];exact Qq2 ⟨rfl,rfl,i+1,by omega,by congr 1;omega⟩;rintro b s' ⟨rfl,rfl,k,hk,hr⟩;exfalso;have:=Qx1 List.length hr;simp at this;omega
end Ev
namespace L2
open PySem PySem.Spec PyProof.Rows
section
variable{X:Cx}{pins:List (Addr×Obj)}{σ:St}{H:Hp}{s:Shared}{h':Heap}
def Inv.drawn{ch:List Addr}{T:Addr}(I:Inv X pins σ H s)(hch:∀b∈ch,wK X pins H b)(k:∀b u,b ∉ ch->s.heap.get? b=some u->h'.get? b=some u)(hT:s.heap.objs.size<=T)
  (new:jx X.prog X.w (upd H T o) h' T o):Inv X pins σ (upd H T o) { s with heap:=h',toks:=t' }:=by
 have nit:∀b u,H b=some u->b ∉ ch:=λb u e z=>by rw[(hch b z).1] at e;cases e
 have up:∀b u,H b=some u->upd H T o b=some u:=λb u e=>by rw[cj (gw e (I.hok.fresh hT))];exact e
 refine I.step (λb hb=>?_) (λb u _ _ hc e _=>k b u hc e) (λb u _ _ hc e _=>⟨u.slots,k b u hc e⟩) (λb u hc e n=>?_)
  (λb u hc e=>⟨u,k b u hc e⟩) (λb xs e=>up b _ e) (λb u v e=>up b _ e) (λb ps e=>⟨#[],by rw[up b _ e];simp⟩) (λm hm=>?_) (λb u e=>?_) I.bare (λb qs e=>up b _ e)
 obtain⟨h0,h1,h2,h3,h4,h5⟩:=hch b hb;exact⟨h3,h1,h4,h5⟩;have hb:b≠T:=λz=>by
  subst z;exact absurd (Qq9 e)<|Nat.not_lt.mpr hT
 rw[cj hb];exact n;obtain⟨u,es,ep,ho,r⟩:=hm;exact⟨u,es,ep,k _ u (λz=>(hch _ z).2.1 rfl) ho,r⟩;by_cases hb:b=T;subst hb;rw[bA] at e;cases e;exact new;rw[cj hb] at e;refine(I.hok b u e).stay (λc v hc q=>k c v ?_ q) (λc q=>up _ _ q) (λc xs q=>up _ _ q) λc _ _ _ _ q=>up _ _ q;rcases hc with z|z;rw[z];exact nit b u e;exact nit c _ z
def Inv.JQ{ch:List Addr}(I:Inv X pins σ H s)(hch:∀b∈ch,wK X pins H b)(k:∀b u,b ∉ ch->s.heap.get? b=some u->h'.get? b=some u):Inv X pins σ H { s with heap:=h',toks:=t' }:=by
 have nit:∀b u,H b=some u->b ∉ ch:=λb u e z=>by rw[(hch b z).1] at e;cases e
 refine I.step (λb hb=>?_) (λb u _ _ hc e _=>k b u hc e) (λb u _ _ hc e _=>⟨u.slots,k b u hc e⟩) (λb u hc e n=>n)
  (λb u hc e=>⟨u,k b u hc e⟩) (λb xs e=>e) (λb u v e=>e) (λb ps e=>⟨#[],by rw[e];simp⟩) (λm hm=>?_) (λb u e=>?_) I.bare
 obtain⟨h0,h1,h2,h3,h4,h5⟩:=hch b hb;exact⟨h3,h1,h4,h5⟩;obtain⟨u,es,ep,ho,r⟩:=hm;exact⟨u,es,ep,k _ u (λz=>(hch _ z).2.1 rfl) ho,r⟩;refine(I.hok b u e).stay (λc v hc q=>k c v ?_ q) (λ_ q=>q) λ_ _ q=>q;rcases hc with z|z;rw[z];exact nit b u e;exact nit c _ z
end
end L2
namespace Ev
open PySem PySem.Spec PyProof.Rows L2 PySem.Builtin
def Av(z:List Nat):List (List Nat)->Option Nat
 |[]=>none|y::r=>if y=z then some 0 else (Av z r).map (·+ 1)
theorem Jd:∀{ys} {j},Av z ys=some j->∃hj:j<ys.length,ys[j]=z/\∀m (hm:m<ys.length),m<j->ys[m]≠z
 |[],j,h=>by cases h
 |y::r,j,h=>by
  unfold Av at h;split at h;rename_i e;cases h;exact⟨by simp,e,λm _ hm=>absurd hm<|Qk6 _⟩;rename_i e;obtain⟨i,hi,rfl⟩:=Qwz.mp h;obtain⟨h1,h2,h3⟩:=Jd hi;refine⟨by simpa using h1,by simpa using h2,λm hm hmi=>?_⟩;cases m with
  |zero=>simpa using e|succ m=>simpa using h3 m (by simpa using hm) (by omega)
section
variable{X:Cx}{C:Cfg}{pos:Pos}
def aeZ(K:Fg):V->List V->Hp->VK->Prop:=λx vs H Q=>∃a zs z j,x=.ref a/\vs=[.str (strOf z)]/\pg K H a (zs.map λy=>V.str (strOf y))/\Av z zs=some j/\Q (.int j) H
def Oc:MtM X "tuple.index" (aeZ X.K):=by
 intro pins s σ H x vs v us Q I rx rv h;obtain⟨a,zs,z,j,rfl,rfl,hq,hp,q⟩:=h;cases rx;obtain⟨u,rfl,ru⟩:=rv.one;obtain⟨t,rfl⟩:=ru;obtain⟨its,r,ht,hz⟩:=I.tuple hq;obtain⟨hj,h1,h2⟩:=Jd hp;have hlen:its.length=zs.length:=by rw[<-r.length,Qqx]
 have key:∀m (hm:m<zs.length),∃tk,its[m]?=some (.str (strOf zs[m]) tk):=λm hm=>by
  obtain⟨w,e1,e2⟩:=r.get (i:=m) (x:=V.str<|strOf zs[m]) (by simp[hm]);obtain⟨tk,rfl⟩:=e2;exact⟨tk,e1⟩
 have at':∀m (hm:m<zs.length) (hm':m<its.toArray.size),∃tk,its.toArray[m]=.str (strOf zs[m]) tk:=λm hm hm'=>by
  obtain⟨tk,e⟩:=key m hm;exact⟨tk,by simpa[Qq5] using (Qq5.mp e).2⟩
 let e:Value->Bool:=λy=>match y with|.str y _=>y == strOf z|_=>false
 refine Qjq F.slot_tuple_index ht.typeIs F.entry_tuple_index (Ed ht e j (by simpa[hlen] using hj) ?_ ?_ ?_ ⟨_,rfl,.int j,H,I.tok _,⟨_,rfl⟩,q⟩)<|F.args_tuple_index_2 _ _;obtain⟨tk,e1⟩:=at' j hj (by simpa[hlen] using hj);rw[e1,h1];show(strOf z == strOf z)=true;simp;intro m hm hmj;have hm':m<zs.length:=by simpa[hlen] using hm
 obtain⟨tk,e1⟩:=at' m hm' hm;rw[e1];show(strOf zs[m] == strOf z)=false;rw[Qzz];intro e2;refine h2 m hm' hmj ?_;have:=Qx1 (λs:Str=>s.cps.toList) e2;simpa[strOf] using this;intro y hy;obtain⟨m,hm,rfl⟩:=Array.mem_iff_getElem.mp hy;have hm':m<zs.length:=by simpa[hlen] using hm
 obtain⟨tk,e1⟩:=at' m hm' hm;rw[e1];have:=agF (A:=X.A.in1) (s:=s) (y:=.str<|strOf zs[m]) (x:=.str<|strOf z) (u:=.str (strOf zs[m]) tk) (v:=.str (strOf z) t) ⟨_,rfl⟩ ⟨_,rfl⟩ rfl rfl;exact this
end
end Ev
namespace L2
open PySem PySem.Spec PyProof.Rows PySem.Builtin PySem.Builtin.Str
section
variable{X:Cx}{pins:List (Addr×Obj)}{σ:St}{H:Hp}{s:Shared}{a:Addr}{xs:List V}
def Inv.Xe(I:Inv X pins σ H s)(h:pg X.K H a xs):∃its,Vals xs its/\Hj s.heap a its.toArray:=by
 rcases h with h|⟨o,its,n,hk,hc,hdn,hs,hz,r⟩;obtain⟨z,its,r,p⟩:=h.ok I.hok;exact⟨its,r,p⟩;exact⟨its.toList,r,⟨o,I.kIn a o hk,hc,⟨n,by simpa using hs⟩,hdn⟩⟩
end
section
variable{X:Cx}{o e:Expr}{to te:TE}{name:Str}{apos cpos:Pos}{id:String}{r:V->List V->Hp->VK->Prop}{t:TA}
def akp(K:PySem.W.Frag)(r:V->List V->Hp->VK->Prop)(to:TE)(t:TA):TE:=λσ H Q=>to σ H λx H1=>(∃p ys,x=.ref p/\pg K H1 p ys)/\t σ H1 λxs H2=>r x xs H2 Q
def afr(slot:Slot "tuple" name id)(hty:typeOf (.builtin id)=pure (.type "method_descriptor"))(hm:MtR X id r)(ho:PE X o to)(ha:PA X [e] t)
  (hbase:attributeBase o name X.env (eval o X.env)=eval o X.env:=by rfl)
  (hfew:((backTo cpos (starEach [e] X.env)).all (λx=>!x.1)&&(backToKw cpos (keywordEach [] X.env)).all (λx=>x.1.isSome)
   && decide ([e].length+([]:List Keyword).length+(if ([]:List Keyword).isEmpty then 0 else 1)<30))=true:=by rfl)
  (hline:(apos.endLine == cpos.line)=true:=by rfl) (hs:IK e X.env:=by rfl) (hplain:(backTo cpos (starEach [] X.env)).any (·.1)=false:=by rfl) :
  PE X (.Call (.Attribute o name apos) [e] [] cpos) (akp X.K r to t):=by
 intro pins s σ H Q I h;refine wpAny_Call_method_late hbase hfew hline rfl (gR (ho pins s σ H _ I h) λv s1 ⟨x,H1,I1,r1,⟨p,ys,ex,hq⟩,q1⟩=>?_);subst ex;cases r1;obtain⟨its,rv,ob,h1,h2,h3,h4⟩:=I1.Xe hq;refine⟨"tuple",id,PySem.F.plainAttrs_tuple,slot,hty,⟨ob,h1,h2⟩,(λa ea=>by cases ea;exact⟨ob,h1,h4⟩),?_⟩;have hA:=ha cpos pins s1 σ H1 _ I1 q1;rw[hs] at hA ⊢;refine Qb6 (by show(false||(backTo cpos<|starEach [] X.env).any (·.1))=false;rw[hplain]<;>rfl)<|Qh7 ?_;exact gR hA λus s2 ⟨vs,H2,I2,r2,q2⟩=>hm pins s2 σ H2 (.ref p) vs (.ref p) us Q I2 rfl r2 q2
def abB:V->List V->Hp->VK->Prop:=λx vs H Q=>∃z y i rest,x=.str z/\vs=[.str y]/\occurrences z y 0 z.length 1=i::rest/\Q (.int (i:Nat)) H
def Od:MtM X "str.index" abB:=by intro pins s σ H x vs v us Q I rx rv h;obtain⟨z,y,i,rest,rfl,rfl,ho,q⟩:=h;obtain⟨t,rfl⟩:=rx;obtain⟨u,rfl,t',rfl⟩:=rv.one;exact call_gives F.slot_str_index (Q08 s z t) F.entry_str_index (F.args_str_index_2 _ _) (gives_str_index z y t t' i rest ho) ⟨.int i,H,I.tok _,⟨_,rfl⟩,q⟩
def ake(te ts:TE):TE:=λσ H Q=>te σ H λx H1=>ts σ H1 λy H2=>∃z,x=.str z/\z.length<=sizeLine/\y=.int (-1)/\Q (.str ⟨z.cps.toList.reverse.toArray⟩) H2
def Q7(z)(u):(⟨((slicePicked z none none (some (-1,u))).filterMap (z.cps[·]?)).toArray⟩:Str)=⟨z.cps.toList.reverse.toArray⟩:=by
 have h:=PyProof.Rows.step_rev_list z u;unfold Txt.sliceBy at h;have h1:¬(((((some ((-1),u)).map (·.1)).getD 1 == 1)&&((slicePicked z none none<|some (-1,u)).length == z.length))=true):=by have:((((some ((-1),u)).map (·.1)).getD 1 == 1))=false:=rfl;rw[this];simp
 rw[Qv5 h1] at h;have h2:((slicePicked z none none<|some (-1,u)).filterMap (z.cps[·]?))=z.cps.toList.reverse:=by
  have h3:((slicePicked z none none<|some (-1,u)).filterMap (z.cps[·]?))=(List.range z.length).map λk=>z.cps.getD (z.length - 1 - k) 0:=by simpa using h
  rw[h3];apply List.ext_getElem;simp[Str.length];intro i h4 h5;have hi:i<z.cps.size:=by simpa[Str.length] using h4
  simp[Str.length,Array.getD,List.getElem_reverse];rw[dif_pos (by omega)]
 rw[h2]
def afo{st:Expr}(he:PE X e te)(hst:PE X st ts):PE X (.Subscript e (.Slice none none (some st) p2) pos) (ake te ts):=by
 intro pins s σ H Q I h;refine Subscript_<|gR (he pins s σ H _ I h) λv s1 ⟨x,H1,I1,r1,q1⟩=>?_;refine wpAny_Slice ?_;rw[evalPart_none,evalPart_some];refine Qq2<|Qq2<|gR (hst pins s1 σ H1 _ I1 q1) λw s2 ⟨y,H2,I2,r2,q2⟩=>?_;obtain⟨z,ex,hz,ey,q⟩:=q2;subst ex;subst ey;obtain⟨t,rfl⟩:=r1;obtain⟨t',rfl⟩:=r2;have I4:Inv X pins σ H2 { s2 with heap:=s2.heap.push { cls:=.type "slice",data:=.fields #[.none,.none,.int (-1) t'] } }:=I2.kept λb ob q=>Qqz _ q;show wpAny (model X.prog X.w) X.A (subscriptTail e (.Slice none none (some st) p2) (.str z t)<|.ref s2.heap.objs.size) (EP X pins σ Q) X.xe { s2 with heap:=s2.heap.push { cls:=.type "slice",data:=.fields #[.none,.none,.int (-1) t'] } };refine tail_any (Q08 _ z t) PySem.F.slot_str_getitem.lookup ?_ (by with_unfolding_all rfl);refine wpAny_getItem_str_slice (l:=none) (u:=none) (st:=some (-1,t')) ⟨_,Qwv _ rfl,rfl,rfl⟩ rfl ?_;unfold sliceMade;have h1:¬(((((some ((-1),t')).map (·.1)).getD 1 == 1)&&((slicePicked z none none<|some (-1,t')).length == z.length))=true):=by have:((((some ((-1),t')).map (·.1)).getD 1 == 1))=false:=rfl;rw[this];simp
 rw[Qv5 h1,Q7];refine⟨?_,⟨.str ⟨z.cps.toList.reverse.toArray⟩,H2,I4.tok _,⟨_,rfl⟩,q⟩⟩;simpa[Str.length] using hz
end
end L2
namespace Ev
open PySem PySem.Spec PyProof.Rows L2 PySem.Builtin
section
variable{X:Cx}{C:Cfg}{pos:Pos}{e x y:Expr}{a b:Ev}
def CZ:D->Option D
 |.int i=>some (.int (-i))|_=>none
def aey:UnD C (rU λi=>.int (-i)) CZ:=by
 intro Pr F env σ H x d vx Q r px e q;cases x with
 |int i=>cases e;exact⟨i,px.int,q _ H F r (bu.refl F) rfl⟩|_=>cases e
def ak8:D->Option D
 |.str z=>some (.str z.reverse)|_=>none
def pD(a:Ev):Ev:=λenv=>bindR (a env) λd aR=>jj (ak8 d) aR
def wA:D->D->Option D
 |.tup ds,.str z=>(j6 ds).bind λzs=>(Av z zs).map λj=>.int (j:Nat)|_,_=>none
def jd:D->D->Option D
 |.str z,.str y=>(match Builtin.Str.occurrences (strOf z) (strOf y) 0 z.length 1 with|i::_=>some (.int (i:Nat))|[]=>none)|_,_=>none
end
def V6
  (hx:s.heap.get? a=some o) (hc:o.cls=.type "tuple") (hdat:o.data=.seq xs k) (hd:o.dict=none) (hA:A.handled=none)
  (h:∀h' tk,(∀b u,s.heap.get? b=some u->h'.get? b=some u)->Q none { s with heap:=h',toks:=tk }):wpAny (model prog w) A (getAttr? (.ref a) "keys") Q E s:=by
 obtain⟨hp,g,d,tk,os⟩:=s;obtain⟨oc,od,dt,sl⟩:=o;cases hc;cases hdat;cases hd;have hT:∀tk',(⟨hp,g,d,tk',os⟩:Shared).TypeIs (.ref a) "tuple":=λ_=>⟨_,hx,rfl⟩;have f1:=sub_AttributeError;have f3:=F.slot_tuple_getattribute.lookup;have f4:=F.slot_tuple_getattribute.bind<|.ref a;have f5:=am_tuple_getattr_none;have hmiss:typeLookup (.type "tuple") "keys"=pure none:=by rw[typeLookup_type,builtinLookup_eq_fast];kernel_rfl
 unfold getAttr? getAttrBy? getAttrBy
 repeat (any_goals (first|assumption|exact hT _|((with_reducible show wpAny _ _ (call (Value.builtin "tuple.__getattribute__") _ _) _ _ _);refine Qb7 F.slot_tuple_getattribute (hT _) am_entry_tuple_getattribute (F.args_tuple_getattribute_2 _ _) (meets_getattribute_miss_tuple a xs k sl "keys" _ hmiss (by decide +kernel) (by decide +kernel)) ⟨hx,hA,λh' tk' e hx'=>?_⟩)|wp_step))
 obtain⟨t',u',he⟩:=hx'.there;show wpAny _ _ (getattributeRaised _ _ _ _ _ _ _) _ _ _;unfold getattributeRaised
 repeat (any_goals (first|assumption|wp_step))
 exact h _ _ hx'.keeps
structure Pr where
 p:Addr
 k:Key
 kv:Value
 v:Value
def aaX(h:Heap)(r:Pr):Prop:=h.IsTuple r.p #[r.kv,r.v]/\Gf r.k r.kv=true
def aaX.keep(x:aaX h r)(n1:r.p≠c)(n2:r.p≠d)(k:∀b o,b≠c->b≠d->h.get? b=some o->h'.get? b=some o):aaX h' r:=
 let ⟨⟨o,ho,q⟩,y⟩:=x;⟨⟨o,k _ o n1 n2 ho,q⟩,y⟩
def putAll(kvs:List (Key×Value))(rs:List Pr):List (Key×Value):=rs.foldl (λacc r=>stored acc r.k r.v) kvs
def f9:plainId "dict.update.loop"=true:=by decide +kernel
def nO:entryFor table "dict.update.loop"=some Builtin.«dict.update.loop»:=entryFor_of_tree (by kernel_rfl)
theorem Mh{its:List Value}(hdi:d≠it)(hda:d≠a)(hia:it≠a):∀rs i kvs A R s,
  A.handled=none->its.drop i=rs.map (λr=>Value.ref r.p)->s.heap.IsTuple a its.toArray->s.heap.IsTupleIter it a i->s.heap.DictOf (fB prog w) d kvs->(∀r∈rs,aaX s.heap r/\r.p≠d/\r.p≠it)->kvs.length+rs.length<=sizeLine->
  (∀h' tk,h'.DictOf (fB prog w) d (putAll kvs rs)->(∀b o,b≠d->b≠it->s.heap.get? b=some o->h'.get? b=some o)->R (.ok (.ret .none)) { s with heap:=h',toks:=tk })->
  wpAny (model prog w) A.in1 (Builtin.«dict.update.loop» ⟨[.ref d,.ref it,rawInt i,.none],[]⟩) (λfin s'=>match fin with|.done f=>R (.ok f) s'|.again c'=>c'.quiet=true/\codeAny (model prog w) A c' R s') (λe s'=>R (.error e) s') s
 |[],i,kvs,A,R,s,hh,hdr,ht,hit,hD,_,_,h=>by
  unfold Builtin.«dict.update.loop»;have hx:its.toArray[i]?=none:=by
   have:its.length<=i:=by have:=Qx1 List.length hdr;rw[Qz5] at this;simp at this;omega
   simp;omega
  refine Qqq<|wpAny_pyNext_tuple_end hh hit ht hx λh' hex=>?_;show wpAny _ _ (Builtin.Dict.addKeywords d [] >>= _) _ _ _;refine Qqq<|Qq2<|Qq2 ?_;exact h h' s.toks (hD.extBut hex hdi) λb o _ h2 e=>hex b o h2 e
 |r::rs,i,kvs,A,R,s,hh,hdr,ht,hit,hD,hrs,hz,h=>by
  unfold Builtin.«dict.update.loop»;obtain⟨⟨qU,hkey⟩,n1,n2⟩:=hrs r<|Qqj ..;have hlt:i<its.length:=by have:=Qx1 List.length hdr;rw[Qz5,Qq8,Qqy] at this;omega
  have hx0:its[i]?=some (.ref r.p):=by
   have:=Qx1 (λl=>l[0]?) hdr;simpa using this
  have hx:its.toArray[i]?=some (.ref r.p):=by simpa using hx0
  have akY:its.drop (i+1)=rs.map (λr=>Value.ref r.p):=by
   have:=Qx1 List.tail hdr;rw[Q1j] at this;simpa using this
  refine Qqq<|wpAny_pyNext_tuple_item hit ht hx λh' hit' hs'=>?_;have k1:∀b o,b≠it->s.heap.get? b=some o->h'.get? b=some o:=λb o hb e=>(hs'.2 b hb).trans e;obtain⟨op,hop,hcp,np,hdp⟩:=qU;have hop':=k1 _ _ n2 hop;dsimp only;refine Qqq<|Qzj<|Qqq<|wpAny_tryCatch ?_;unfold Builtin.Dict.pairItems;refine Qqq<|Qy6 ⟨op,hop',hcp⟩ ?_;rw[Qv4 (by decide)];unfold seqItems?;refine Qqq<|Qqq<|wpAny_load hop' ?_;rw[hdp];refine Qq2<|Qq2 ?_;show wpAny _ _ (holding [r.kv,r.v]<|dictSet d r.kv r.v) _ _ _;have hzk:kvs.length<=sizeLine:=by rw[Qqy] at hz;omega
  refine Qzj<|wpAny_dictSet_pairs hkey (hD.sameBut hs' hdi) λh'' ak2 hs''=>?_;have k2:=λb o hb1 hb2 e=>(hs''.2 b hb1).trans<|k1 b o hb2 e;have hc:(i+1)=((i+1):Int):=by push_cast;rfl
  rw[hc];refine Qq2 ⟨Qy9 f9 _,Qk0 nO ?_⟩;rw[Qjy f9 _];have hln:(stored kvs r.k r.v).length<=kvs.length+1:=by have:=stored_length_le kvs r.k r.v;exact this
  refine Mh hdi hda hia rs (i+1) (stored kvs r.k r.v) A R _ hh akY ?_ ?_ ak2 (λq hq=>?_) (by rw[Qqy] at hz;omega) λh3 tk hD3 k3=>?_;obtain⟨o,ho,q⟩:=ht;exact⟨o,k2 a o hda.symm hia.symm ho,q⟩;obtain⟨o,ho,q⟩:=hit';exact⟨o,(hs''.2 it hdi.symm).trans ho,q⟩;obtain⟨p1,p2,p3⟩:=hrs q<|Qqk _ hq;exact⟨p1.keep p2 p3 k2,p2,p3⟩;exact h h3 tk hD3 λb o hb1 hb2 e=>k3 b o hb1 hb2<|k2 b o hb1 hb2 e
section
variable{X:Cx}{C:Cfg}{pos:Pos}
abbrev Pv:=Addr×Key×V
def rn(kvs:List (Key×V))(rs:List Pv):List (Key×V):=rs.foldl (λacc r=>putK acc r.2.1 r.2.2) kvs
def Ye(K:Fg):List V->Hp->VK->Prop:=λxs H Q=>∃(a:Addr) (rs:List Pv),xs=[.ref a]/\pg K H a (rs.map λr=>V.ref r.1)/\(∀r∈rs,pg K H r.1 [kV r.2.1,r.2.2])/\rs.length<=sizeLine/\∀l,H l=none->Q (.ref l) (upd H l (.dK (rn [] rs)))
theorem Nx{σ:L2.St}(I:L2.Inv X pins σ H s):∀rs us,Vals (rs.map λr=>V.ref r.1) us->(∀r∈rs,pg X.K H r.1 [kV r.2.1,r.2.2])->∃ps,us=ps.map (λr=>Value.ref r.p)/\(∀r∈ps,aaX s.heap r)/\Paired (λ(r:Pv) q=>r.2.1=q.k/\RelV r.2.2 q.v) rs ps
 |[],us,h,_=>by cases h;exact⟨[],rfl,λr hr=>by simp at hr,.nil⟩
 |r::rs,us,h,hp=>by
  cases h with
  |cons h1 h2=>cases h1;obtain⟨ps,rfl,q1,q2⟩:=Nx I rs _ h2 λr' hr=>hp r'<|Qqk _ hr;obtain⟨its,rv,ht,_⟩:=I.tuple<|hp r<|Qqj ..;obtain⟨u1,u2,rfl,r1,r2⟩:=rv.two;refine⟨⟨r.1,r.2.1,u1,u2⟩::ps,rfl,λq hq=>?_,.cons ⟨rfl,r2⟩ q2⟩;rcases Qq4.mp hq with rfl|hq;exact⟨ht,BR (P:=X.prog) (w:=X.w) r1⟩;exact q1 q hq
theorem Jc:∀{rs} {ps} {kvs} {vs},Paired (λr q=>r.2.1=q.k/\RelV r.2.2 q.v) rs ps->KV kvs vs->KV (rn kvs rs) (putAll vs ps)
 |_,_,_,_,.nil,h=>h
 |_,_,kvs,vs,.cons (a:=r) (b:=q) ⟨h1,h2⟩ hr,h=>by
  show KV (rn (putK kvs r.2.1 r.2.2) _) (putAll (stored vs q.k q.v) _);refine Jc hr ?_;rw[h1];exact h.put q.k h2
theorem BJ:∀rs kvs,(rn kvs rs).length<=kvs.length+rs.length
 |[],kvs=>Qq0 _
 |r::rs,kvs=>by
  have h1:=BJ rs<|putK kvs r.2.1 r.2.2;have h2:=rA kvs r.2.1 r.2.2;show(rn (putK kvs r.2.1 r.2.2) rs).length<=_;rw[Qqy];omega
def WL(hc:X.calm=true):jQ X (.type "dict") (Ye X.K):=by
 intro pins s σ H xs us Q I r h;obtain⟨a,rs,rfl,hq,hp,hz,q⟩:=h;obtain⟨u,rfl,rx⟩:=vals1 r;cases rx;obtain⟨its,rv,ob,h1,h2,⟨n,h3⟩,h4⟩:=I.Xe hq;obtain⟨ps,rfl,hps,hpr⟩:=Nx I rs its rv hp;have hA:=I.ok.hd hc;refine callType_codes (Q₁:=λobj s₁=>obj=.ref s.heap.objs.size/\s₁={ s with heap:=s.heap.push { cls:=.type "dict",data:=.dict #[] } }) F.kt_called_dict (F.kt_typeCall_dict_1 _) F.entry_dict_init (kt_code_dict_new _ ⟨rfl,rfl⟩) ?_;rintro obj s₁ ⟨rfl,rfl⟩;have hnew:(s.heap.push { cls:=.type "dict",data:=.dict #[] }).DictOf (fB X.prog X.w) s.heap.objs.size []:=Heap.DictOf.new s.heap;have k0:∀b o,s.heap.get? b=some o->(s.heap.push { cls:=.type "dict",data:=.dict #[] }).get? b=some o:=λb o e=>Qqz _ e;refine⟨hnew.typeIs,F.args_dict_init_2 _ _,?_⟩;unfold Builtin.«dict.__init__»;refine Qqq ?_;unfold Builtin.Dict.selfAndRest;refine Qqq<|wpAny_notOrdered_dict hnew.typeIs ?_;show wpAny _ _ (pure (s.heap.objs.size,[Value.ref a])) _ _ _;refine Qq2 ?_;show wpAny _ _ (Builtin.Dict.updateFrom "dict.__init__" s.heap.objs.size (.ref a) [] .none) _ _ _;unfold Builtin.Dict.updateFrom;refine Qqq<|Qy6 ⟨ob,k0 _ _ h1,h2⟩ ?_;rw[Qv4 (by decide)];refine Qqq<|V6 (k0 _ _ h1) h2 h3 h4 hA λh' tk hk=>?_;simp[Option.isNone_none,Qhv];refine Qqq<|Qy5<|Qqq ?_;have hT:h'.IsTuple a (ps.map λr=>Value.ref r.p).toArray:=⟨ob,hk _ _<|k0 _ _ h1,h2,n,h3⟩;refine Qbv hT ?_;refine Qq2 ⟨Qy9 f9 _,Qk0 nO ?_⟩;rw[Qjy f9 _];have hD0:=hnew.keep hk;have KR:s.heap.objs.size<h'.objs.size:=by obtain⟨o,_,_,ho,_⟩:=hD0;exact Qq9 ho
 have hda:=Qz7 (Qq9 h1);refine Mh (Qxq KR) hda (Qz7 (Qq9<|hk _ _<|k0 _ _ h1)) ps 0 [] X.A.in1 _ _ hA rfl ?_ ⟨_,Qwv _ rfl,rfl,rfl⟩ (hD0.push _) (λq hq=>?_) ?_ λh3 tk' hD3 k3=>?_;obtain⟨o,ho,r⟩:=hT;exact⟨o,Qqz _ ho,r⟩;obtain⟨⟨o,ho,r⟩,y⟩:=hps q hq;have agr:=Qq9 ho;refine⟨⟨⟨o,Qqz _<|hk _ _<|k0 _ _ ho,r⟩,y⟩,Qxq agr,Qxq<|Qhz agr KR⟩;rw[<-Qgy hpr];simpa using hz;refine⟨rfl,?_⟩;have kk:∀b u,s.heap.get? b=some u->h3.get? b=some u:=λb u e=>by
  have hb:=Qq9 e;exact k3 b u (Qxq hb) (Qxq<|Qhz hb KR)<|Qqz _<|hk _ _<|k0 _ _ e
 have hsys:(s.heap.objs.size == sysModules)=false:=by rw[Qzz];exact Qz7 I.big
 refine⟨.ref s.heap.objs.size,upd H s.heap.objs.size<|.dK<|rn [] rs,I.laid kk (Qq0 _) ⟨?_,hsys,_,Jc hpr .nil,hD3⟩,rfl,q _<|I.hok.fresh<|Qq0 _⟩;have:=BJ rs [];exact Qq1 this (by simpa using hz)
def T8:D->Option (D×D)
 |.tup [k,v]=>(pP k).map λ_=>(k,v)|_=>none
def ug:List D->Option (List (D×D))
 |[]=>some []
 |d::ds=>match T8 d,ug ds with
  |some p,some r=>some (p::r)|_,_=>none
def oX(kvs : List (D × D)) : List (D × D) → List (D × D)
  |[] => kvs
  |(k, v) :: r => (match pP k with
    |some q => oX (putD kvs k q v) r|none => oX kvs r)
def tu:List D->Option D
 |[.tup ds]=>(ug ds).map λps=>.dct (oX [] ps)|_=>none
theorem vI:∀ps kvs,(oX kvs ps).length<=kvs.length+ps.length
 |[],kvs=>Qq0 _
 |(k,v)::r,kvs=>by
  unfold oX;split;rename_i q hq;have h1:=vI r<|putD kvs k q v;have h2:=Nt kvs k q v;rw[Qqy];omega;have h1:=vI r kvs;rw[Qqy];omega
theorem Fq:∀{ds} {ps},ug ds=some ps->ps.length=ds.length
 |[],ps,h=>by cases h;rfl
 |d::ds,ps,h=>by
  unfold ug at h;split at h;rename_i p r h1 h2;cases h;rw[Qqy,Qqy,Fq h2];cases h
theorem Je{K:Fg}:∀{ds} {ps} {vs} {kvs} {ks},ug ds=some ps->cN K F ds vs->fQ K F kvs ks->
  ∃rs,vs=rs.map (λr=>V.ref r.1)/\(∀r∈rs,pg K F r.1 [kV r.2.1,r.2.2])/\fQ K F (oX kvs ps) (rn ks rs)
 |[],ps,vs,kvs,ks,h,hr,hk=>by cases h;cases hr;exact⟨[],rfl,λr hr=>by simp at hr,hk⟩
 |d::ds,ps,vs,kvs,ks,h,hr,hk=>by
  unfold ug at h;split at h;rename_i p r h1 h2;cases h;obtain⟨v,w,rfl,p1,p2⟩:=hr;unfold T8 at h1;split at h1;rename_i k x;obtain⟨q,hq,rfl⟩:=Qwz.mp h1;obtain⟨_,a,us,rfl,h3,h4⟩:=p1;obtain⟨u1,w1,rfl,q1,u2,w2,rfl,q2,q3⟩:=h4;cases q3;cases RD hq q1;obtain⟨rs,rfl,g1,g2⟩:=Je h2 p2<|hk.put hq q2;refine⟨(a,q,u2)::rs,rfl,λr hr=>?_,?_⟩;rcases Qq4.mp hr with rfl|hr;exact h3;exact g1 r hr;unfold oX;rw[hq];exact g2;cases h1;cases h
def ac2:CallD C (Ye C.K) tu:=by
 intro Pr F env σ H ds d vs Q r p e q;unfold tu at e;split at e;rename_i ds;obtain⟨v,w,rfl,p1,p2⟩:=p;cases p2;obtain⟨ps,e1,rfl⟩:=Qwz.mp e;obtain⟨z,a,us,rfl,h1,h1F,h2⟩:=p1.tup r.fr;obtain⟨rs,rfl,g1,g2⟩:=Je (kvs:=[]) e1 h2 rfl;have hl:rs.length=ds.length:=by
  have:=h2.length;rwa [Qqx] at this
 refine⟨a,rs,rfl,h1,λr' hr=>bu.tupK r.fr<|g1 r' hr,by rw[hl];exact z,λl hlf=>?_⟩;obtain⟨F2,r2,s2,p2⟩:=(r.fresh hlf).keep (Sd.of (d:=.dct<|oX [] ps) r hlf ⟨by
  have h5:=vI ps [];rw[Fq e1] at h5;exact Qq1 h5 (by simpa using z),_,bA,g2⟩)
 exact q _ _ F2 r2 s2 p2;cases e
end
end Ev
namespace L2
open PySem PySem.Spec PyProof.Rows PySem.Builtin PySem.Builtin.Str
section
variable{X:Cx}
def Yc:R2:=λx y H Q=>∃a o,y=.ref a/\Ij H a x o/\Q (.bl o.isSome) H
def Za(hu:X.A.units+1<cLine):qN X (compareOp .In) Yc:=by intro pins s σ H x y v u Q I rx ry h;obtain⟨a,o,rfl,g,q⟩:=h;cases ry;exact alc hu I g rx λs' I'=>⟨.bl o.isSome,H,I',rfl,q⟩
def Pz(v)(n d:Nat):max 0 (min (if v<0 then v+(n:Int) else v) n)=(HT.iB n d (some v)):=by
 show _=(((if v<0 then (v+n).toNat else min v.toNat n):Nat):Int);by_cases hv:v<0;simp[Qv4 hv];omega;simp[Qv5 hv];omega
def range_one(a b:Nat):sliceRange a b 1=List.range' a (b - a):=by
 unfold sliceRange;have h1:(1:Int) > 0:=by decide
 simp only[Qv4 h1];have hc:(if a<(b:Int) then (b - (a:Int)+1 - 1) / 1 else 0).toNat=b - a:=by
  by_cases h:a<(b:Int);rw[Qv4 h,Int.ediv_one];omega;rw[Qv5 h];omega
 rw[hc,List.range'_eq_map_range];apply Qx7;intro k _;omega
def YK(lo hi)(n):strSliceIndices lo hi 1 n=List.range' (HT.iB n 0 lo) (HT.iB n n hi - HT.iB n 0 lo):=by
 have h1:1 > 0:=by decide
 unfold strSliceIndices;simp[Qv4 h1];rw[<-range_one];congr 1;cases lo with
 |none=>rfl|some v=>exact Pz v n 0
 cases hi with
 |none=>rfl|some v=>exact Pz v n n
theorem O8(c:List Nat):∀m a,a+m<=c.length->(List.range' a m).filterMap (c.toArray[·]?)=(c.drop a).take m
 |0,a,_=>by simp
 |m+1,a,h=>by
  rw[Qv6,Qvx];have e:c.toArray[a]?=some c[a]:=by simp
  rw[e,O8 c m (a+1) (by omega),Qk4 (i:=a) (by omega),List.take_succ_cons]
def xY(z:List Nat)(lo hi:Option Int):List Nat:=(z.drop (HT.iB z.length 0 lo)).take (HT.iB z.length z.length hi - HT.iB z.length 0 lo)
def akB:V->Option Int->Option Int->Hp->VK->Prop:=λx lo hi H Q=>∃z:List Nat,x=.str ⟨z.toArray⟩/\z.length<=sizeLine/\Q (.str ⟨(xY z lo hi).toArray⟩) H
def part_of(p:IsPart v o):∃l,v=partValue l/\l.map (·.1)=o:=by
 cases p with
 |none=>exact⟨none,rfl,rfl⟩|int i t=>exact⟨some (i,t),rfl,rfl⟩
def Xp:UT X akB:=by
 intro pins s σ H x v vl vu lo hi sl Q I rx hs pl pu h;obtain⟨z,rfl,hz,q⟩:=h;obtain⟨t,rfl⟩:=rx;obtain⟨l,rfl,el⟩:=part_of pl;obtain⟨u,rfl,eu⟩:=part_of pu;refine⟨"str",_,PySem.F.slot_str_getitem.lookup,Q08 s _ t,?_⟩;obtain⟨o,h1,h2,h3⟩:=hs;refine wpAny_getItem_str_slice (st:=none) ⟨o,h1,h2,h3⟩ rfl ?_;have hp:slicePicked ⟨z.toArray⟩ l u none=List.range' (HT.iB z.length 0 lo) (HT.iB z.length z.length hi - HT.iB z.length 0 lo):=by unfold slicePicked;rw[el,eu];show strSliceIndices lo hi 1 z.toArray.size=_;rw[Qq3,YK]
 have hle:HT.iB z.length 0 lo+(HT.iB z.length z.length hi - HT.iB z.length 0 lo)<=z.length\/HT.iB z.length z.length hi - HT.iB z.length 0 lo=0:=by have a1:=HT.Ke z.length 0 (Qxz _) lo;have a2:=HT.Ke z.length z.length (Qq0 _) hi;omega
 have akZ:((slicePicked ⟨z.toArray⟩ l u none).filterMap ((⟨z.toArray⟩:Str).cps[·]?))=xY z lo hi:=by
  rw[hp];unfold xY;rcases hle with hle|hle;exact O8 z _ _ hle;rw[hle];simp
 unfold sliceMade;split;rename_i hc;have hlen:(slicePicked ⟨z.toArray⟩ l u none).length=z.length:=by
  have:=(Qkx.mp hc).2;have:=eq_of_beq this;simpa[Str.length] using this
 have hw:xY z lo hi=z:=by
  rw[hp,List.length_range'] at hlen;unfold xY;have a2:=HT.Ke z.length z.length (Qq0 _) hi;have a0:HT.iB z.length 0 lo=0\/z.length=0:=by omega
  rcases a0 with a0|a0;rw[a0,Q1k,Qz8 (by omega)];have:=Qkq a0;subst this;simp
 rw[hw] at q;exact⟨.str ⟨z.toArray⟩,H,I,⟨t,rfl⟩,q⟩;rw[akZ];refine⟨?_,⟨.str ⟨(xY z lo hi).toArray⟩,H,I.tok _,⟨_,rfl⟩,q⟩⟩;show(xY z lo hi).toArray.size<=sizeLine;rw[Qq3];unfold xY;rw[Qzv,Qz5];omega
end
end L2
namespace Ev
open PySem PySem.Spec PyProof.Rows L2 PySem.Builtin
section
variable{X:Cx}{C:Cfg}{pos:Pos}{x y:Expr}{a b:Ev}
def su(k y:D):Option D:=match y with
 |.dct kvs=>(pP k).map λq=>.bl (mZ kvs q).isSome|_=>none
def Zg:tV C Yc su:=by
 intro Pr F env σ H x y d vx vy Q r px py e q;cases y with
 |dct kvs=>
  obtain⟨k,hk,rfl⟩:=Qwz.mp<|show(pP x).map (λq=>D.bl (mZ kvs q).isSome)=some d from e;obtain⟨z,p,ks,rfl,h1,h2⟩:=py.dct r.fr;cases KC hk px;refine⟨p,uZ ks k,rfl,.inl ⟨ks,k,h1,rfl,rfl⟩,?_⟩;have e2:(uZ ks k).isSome=(mZ kvs k).isSome:=by rcases h2.val k with ⟨g1,g2⟩|⟨d',v',g1,g2,_⟩<;>rw[g1,g2]<;>rfl
  rw[e2];exact q _ H F r (bu.refl F) rfl
 |_=>cases e
def Uz(G:Good X C):Cm X C .In su:=⟨_,Za G.u1,Zg⟩
def ak5:D->Option Int->Option Int->Option D
 |.str z,lo,hi=>some (.str (xY z lo hi))|_,_,_=>none
def Gs(a:Ev)(lo hi:W4):Ev:=λenv=>bindR (a env) λd aR=>bindR (lo aR) λl eQ=>bindR (hi eQ) λu HY=>jj (ak5 d l u) HY
def Py(z)(lo hi):(xY z lo hi).length<=z.length:=by unfold xY;rw[Qzv,Qz5];omega
def acK:D->D->Option D
 |.lst a,.lst b=>if a.length+b.length<=sizeLine then some (.lst (a++b)) else none|_,_=>none
end
end Ev
namespace HT
open PySem PySem.Spec PyProof PyProof.Rows PySem.Builtin
section
variable{prog:Program}{w:World}{A:Around}{E:Value->Shared->Prop}{s:Shared}
def wJ{lo hi:Option Int}(ht:IsTup s.heap t items)(hs:s.heap.IsSliceOf sl vl vu .none)(pl:IsPart vl lo)(pu:IsPart vu hi)
  (hw:iB items.size 0 lo=0/\iB items.size items.size hi=items.size)
  (h:Q (.ref t) s):wpAny (model prog w) A (getItem (.ref t) (.ref sl)) Q E s:=by
 obtain⟨os,hos,hcs,hds⟩:=id hs;have hTs:s.TypeIs (.ref sl) "slice":=⟨os,hos,hcs⟩;unfold getItem
 try with_reducible refine Qzj ?_
 first|refine Qqq (Qq2 ?_)|skip
 refine Qqq<|wpAny_sequenceKey ht.typeIs (by decide) ?_;refine Qqq (Qz6 ht.typeIs Qj3
  (Qjq Qj3 ht.typeIs entry_tuple_getitem ?_<|args_tuple_getitem _ _))
 show wpAny _ _ (Builtin.Tuple.tupleItemsOf (.ref t) >>= _) _ _ s;refine Qqq<|tupleItemsOf_ ht ?_;refine Qqq<|Qy6 hTs ?_;rw[Qv4 (by decide)];refine Qqq<|sJ hs pl pu ?_;have akQ:(((iB items.size 0 lo):Int) == 0&&(1:Int) == 1&&(iB items.size items.size hi - iB items.size 0 lo) == items.size)=true:=by rw[hw.1,hw.2];simp
 show wpAny _ _ (if (((iB items.size 0 lo):Int) == 0&&1 == 1&&(iB items.size items.size hi - iB items.size 0 lo) == items.size)=true then _ else _) _ _ s;rw[Qv4 akQ];refine Qqq ?_;unfold Builtin.Tuple.tupleIsExact;refine Qqq<|Qy6 ht.typeIs ?_;refine Qq2 ?_;rw[Qv4 (by decide)];exact Qqq<|Qy5<|Qq2 ⟨_,rfl,Qq2 h⟩
end
end HT
namespace L2
open PySem PySem.Spec PyProof.Rows
section
variable{X:Cx}
def ah0(K:PySem.W.Frag):V->Option Int->Option Int->Hp->VK->Prop:=λx lo hi H Q=>∃a xs,x=.ref a/\pg K H a xs/\(HT.iB xs.length 0 lo=0/\HT.iB xs.length xs.length hi=xs.length)/\Q (.ref a) H
def Xo:UT X (ah0 X.K):=by
 intro pins s σ H x v vl vu lo hi sl Q I rx hs pl pu h;obtain⟨a,xs,rfl,hx,hw,q⟩:=h;cases rx;obtain⟨its,r,ht,hz⟩:=I.tuple hx;have hlen:its.toArray.size=xs.length:=by rw[Qq3];exact r.length.symm
 refine⟨"tuple",_,PyProof.Rows.slot_tuple_getitem.lookup,ht.typeIs,?_⟩;refine HT.wJ ht hs pl pu (by rw[hlen];exact hw) ?_;exact⟨.ref a,H,I,rfl,q⟩
end
end L2
namespace Ev
open PySem PySem.Spec PyProof.Rows L2
section
variable{X:Cx}{C:Cfg}{pos:Pos}{x:Expr}{a:Ev}{y z:Expr}{b c:Ev}{apos:Pos}
def agv:D->Option Int->Option Int->Option D
 |.tup xs,lo,hi=>if HT.iB xs.length 0 lo=0/\HT.iB xs.length xs.length hi=xs.length then some (.tup xs) else some (.tup (cutD xs lo hi))|_,_,_=>none
def aeO{Pr F:Hp}{x d:D}{lo hi:Option Int}(r:Rel C Pr F env σ H)(p:Rep C.K F x v)(e:agv x lo hi=some d)(q:∀v H' F',Rel C Pr F' env σ H'->bu F F'->Rep C.K F' d v->Q v H') :
  aeY C.K v lo hi H Q\/ah0 C.K v lo hi H Q:=by
 unfold agv at e;split at e;obtain⟨z,a,vs,rfl,h1,_,h2⟩:=jt.tup r.fr<|.inl p;split at e;rename_i hn;cases e;exact .inr ⟨a,vs,rfl,h1,by rw[h2.length];exact hn,q _ H F r (bu.refl F) p⟩;rename_i hn;cases e;refine .inl ⟨a,vs,rfl,h1,by rw[h2.length];exact hn,λb hb=>?_⟩;obtain⟨r2,s2⟩:=r.new hb;exact q _ _ _ r2 s2 ⟨Qq1 (vQ _ _ _) z,b,_,rfl,pg.of bA,cN.mono s2 _ _<|h2.cut lo hi⟩;cases e
def zA(g g':D->D->Option D)(a b c:Ev):Ev:=λenv=>bindR (a env) λu e1=>bindR (b e1) λv e2=>match g u v with
 |some (.bl k)=>if k=true then bindR (c e2) λt e3=>jj (g' v t) e3 else .ok (.bl false) e2|_=>.stuck
def aaj:D->D->D->Option D
 |.dct kvs,k,t=>(pP k).map λq=>(mZ kvs q).getD t|_,_,_=>none
def K7(a b c:Ev):Ev:=λenv=>bindR (a env) λd e1=>bindR (b e1) λk e2=>bindR (c e2) λt e3=>match d with
 |.dct kvs=>jj (aaj (.dct kvs) k t) e3|_=>.stuck
end
end Ev
namespace ZT
open PySem PySem.Spec PyProof.Rows L2 PySem.Builtin
section
variable{prog:Program}{w:World}{A:Around}{E:Value->Shared->Prop}{s:Shared}
def Zx(hj:s.heap.IsTupleIter j t n)(ht:s.heap.IsTuple t its)(hx:its[n]?=some x)
  (q:∀g,g.IsTupleIter j t (n+1)->Heap.SameBut j s.heap g->Q x { s with heap:=g }):wpAny (model prog w) A (Builtin.SmallTypes.nextOf (.ref j)) Q E s:=by
 obtain⟨u,hu,uc,ud⟩:=id hj;obtain⟨ut,hut,_,m,mt⟩:=ht;unfold Builtin.SmallTypes.nextOf;refine Qqq<|Qz6 hj.typeIs Qyz<|Qjq Qyz hj.typeIs Qd6 ?_<|Qdx _;show wpAny _ _ (field (.ref j) 0 >>= _) _ _ s;refine Qqq<|Qjj hu ud rfl ?_;show wpAny _ _ (if (Value.ref t == Value.none)=true then _ else _) _ _ s;rw[Qv5 (show ¬((Value.ref t == Value.none)=true) from Qw2)];show wpAny _ _ (field (.ref j) 1 >>= _) _ _ s;refine Qqq<|Qjj hu ud rfl ?_;show wpAny _ _ (seqItems? (.ref t) >>= _) _ _ s;refine Qqq<|Qkz hut mt ?_;simp[Qj4,hx];refine Qqq<|wpAny_setField hu ud (by simp)<|Qq2 ⟨x,rfl,Qq2<|q _ ?_<|Qd5 ..⟩;exact⟨_,Qhk _ hu<|Obj.isFreed_of_fields<|Obj.data_mapFields ud _,(Obj.cls_mapFields ..).trans uc,by rw[Obj.data_mapFields ud];simp[rawInt]⟩
def Kq(hh:A.handled=none)(hj:s.heap.IsTupleIter j t n)(ht:s.heap.IsTuple t its)(hx:its[n]?=none)
  (q:∀g e,Heap.ExtBut j s.heap g->(∃o,g.get? e=some o/\o.cls=.type "StopIteration")->E (.ref e) { s with heap:=g }):wpAny (model prog w) A (Builtin.SmallTypes.nextOf (.ref j)) Q E s:=by
 obtain⟨u,hu,uc,ud⟩:=id hj;obtain⟨ut,hut,_,m,mt⟩:=ht;unfold Builtin.SmallTypes.nextOf;refine Qqq<|Qz6 (name:=Str.ofString "__next__") hj.typeIs Qyz<|Qjq Qyz hj.typeIs Qd6 ?_<|Qdx _;show wpAny _ _ (field (.ref j) 0 >>= _) _ _ s;refine Qqq<|Qjj hu ud (x:=.ref t) rfl ?_;show wpAny _ _ (if (Value.ref t == Value.none)=true then _ else _) _ _ s;rw[Qv5 (show ¬((Value.ref t == Value.none)=true) from Qw2)];show wpAny _ _ (field (.ref j) 1 >>= _) _ _ s;refine Qqq<|Qjj hu ud (x:=.int n 0) rfl ?_;show wpAny _ _ (seqItems? (.ref t) >>= _) _ _ s;refine Qqq<|Qkz hut mt ?_;simp only[Qj4,hx];refine Qqq (Qy5 (Qqq (wpAny_setField hu ud (by simp) ?_)));show wpAny _ _ (newExc (.type "StopIteration") [] >>= _) _ _ _;refine Qqq ?_;simp only[newExc,newTuple];refine Qqq (Qkk ?_ (by size_fits));refine Qqq (m:=firstArgMember _ _) (wpAny_of_eq (a:=Value.none) (by first|rfl|(simp only[firstArgMember];rfl)) ?_);refine Qkk ?_ (by size_fits);simp only[raiseNew];refine Qqq (wpAny_handled ?_)
 first|rw[show A.in1.handled=none from hh]|rw[hh]
 refine Qqq (Qq2 (wpAny_throw ?_));exact q _ _ (((Qd5 ..).extBut.push _).push _) ⟨_,Qwv _ rfl,rfl⟩
end
def wB(hh:A.handled=none)(j t)(hne:t≠j)(its) :
  Draws prog w A j [j,t] its.size (λi v=>its[i]?=some v) (λi h=>h.IsTupleIter j t i/\h.IsTuple t its) where
 live:=λ_ _ st=>let ⟨o,ho,_⟩:=st.1;⟨o,ho⟩
 frame:=λ_ _ _ st hk=>by
  obtain⟨⟨o,ho,r⟩,o2,ho2,r2⟩:=st;exact⟨⟨o,hk j (by simp) o ho,r⟩,o2,hk t (by simp) o2 ho2,r2⟩
 item:=λi s Q E hi st hQ=>by
  refine Zx st.1 st.2 (x:=its[i]) (by simp[hi]) λh' hit' hs'=>?_;exact hQ _ h' s.toks (by simp[hi]) ⟨hit',st.2.extBut hs'.extBut hne⟩ hs'
 done:=λs Q E st hE=>Kq hh st.1 st.2 (by simp) hE
structure Ap(z TI TO j1 j2:Addr)(f1 f2:List Addr):Prop where
 a1:TI≠z
 a2:TO≠z
 a3:TI≠TO
 a4:j1≠j2
 b1:j1∈f1
 b2:j2∈f2
 c1:z ∉ f1
 c2:z ∉ f2
 c3:TO ∉ f1
 c4:TO ∉ f2
 c5:TI ∉ f1
 c6:TI ∉ f2
 c7:j2 ∉ f1
 c8:j1 ∉ f2
section
variable{prog:Program}{w:World}{A:Around}{E:Value->Shared->Prop}{s:Shared}{z TI TO j1 j2:Addr}{f1 f2:List Addr}{n1 n2 k:Nat}{P1 P2:Nat->Value->Prop}{S1 S2:Nat->Heap->Prop}{a b:Value}
def iI{f:List Addr}(h:c∈f)(h':d ∉ f):c≠d:=λe=>h'<|e ▸ h
def W6{Q:Value->Shared->Prop}(D:Ap z TI TO j1 j2 f1 f2)(D1:Draws prog w A j1 f1 n1 P1 S1)(D2:Draws prog w A j2 f2 n2 P2 S2)(k1:k<n1)(k2:k<n2)
  (hz:IsZip s.heap z TI TO .none) (hTI:IsPair s.heap TI (.ref j1) (.ref j2)) (hTO:IsPair s.heap TO a b) (s1:S1 k s.heap) (s2:S2 k s.heap)
  (q:∀x y g tk,P1 k x->P2 k y->IsZip g z TI TO (rawInt s.heap.objs.size)->IsPair g TO x y->S1 (k+1) g->S2 (k+1) g->IsPair g s.heap.objs.size x y->g.objs.size=s.heap.objs.size+1->
   (∀c o,c≠z->c≠TO->c≠j1->c≠j2->s.heap.get? c=some o->g.get? c=some o)->Q (.ref s.heap.objs.size) { s with heap:=g,toks:=tk }) :
  wpAny (model prog w) A (Builtin.«zip.__next__» ⟨[.ref z],[]⟩) (λfin s'=>∃v,fin=.done (.ret v)/\Q v s') E s:=by
 show wpAny _ _ (field (.ref z) 2 >>= _) _ _ _;refine Qqq<|Qjj hz rfl rfl ?_;show wpAny _ _ (field (.ref z) 3 >>= _) _ _ _;refine Qqq<|Qjj hz rfl rfl ?_;refine Qqq<|Qkz hTI rfl ?_;show wpAny _ _ (Builtin.SmallTypes.ownedTupleIsFree (.ref z) >>= _) _ _ _;refine Qqq ?_;unfold Builtin.SmallTypes.ownedTupleIsFree;refine Qqq<|Qjj hz rfl rfl (Qq2 ?_);simp only[Qhv];refine Qqq<|Qy5 ?_;refine Qqq<|Qjj hz rfl rfl ?_;refine Qqq<|Qk1 hz (by simp) λg1 hz1 e1=>?_
 replace hz1:IsZip g1 z TI TO .ellipsis:=hz1
 refine Qqq ?_;simp only[List.zipIdx_cons,List.zipIdx_nil,Qvk,Qk3];refine Qqq<|Qqq<|Qgv ?_;show wpAny _ _ (Builtin.SmallTypes.nextOf (.ref j1) >>= _) _ _ _;refine Qqq<|D1.item k { s with heap:=g1 } _ _ k1 (D1.frame k _ _ s1 λc hc o e=>e1.extBut _ _ (iI hc D.c1) e) λx g2 tk2 px sx e2=>Qq2 ?_;have t2:=e2.extBut _ _ (iI D.b1 D.c3).symm<|e1.extBut _ _ D.a2 hTO;refine Qqq<|Qkz t2 rfl ?_;refine Qqq<|Qh1 t2 λg3 t3 e3=>?_
 replace t3:IsPair g3 TO x b:=t3
 refine Qqq<|Q1v<|Qq2 ?_;refine Qqq<|Qqq<|Qgv ?_;show wpAny _ _ (Builtin.SmallTypes.nextOf (.ref j2) >>= _) _ _ _;refine Qqq<|D2.item k { s with heap:=g3,toks:=tk2 } _ _ k2 (D2.frame k _ _ s2 λc hc o e=>e3.extBut _ _ (iI hc D.c4)<|e2.extBut _ _ (iI hc D.c8)<|e1.extBut _ _ (iI hc D.c2) e) λy g4 tk4 py sy e4=>Qq2 ?_;have t4:=e4.extBut _ _ (iI D.b2 D.c4).symm t3;refine Qqq<|Qkz t4 rfl ?_;refine Qqq<|Qh1 t4 λg5 t5 e5=>?_
 replace t5:IsPair g5 TO x y:=t5
 refine Qqq<|Q1v<|Qq2<|Qq2 ?_;refine Qqq<|Qkz t5 rfl ?_;refine Qqq<|wpAny_newTuple ?_;have hsz:g5.objs.size=s.heap.objs.size:=by rw[e5.1,e4.1,e3.1,e2.1,e1.1]
 have hz5:=e5.extBut _ _ D.a2.symm<|e4.extBut _ _ (iI D.b2 D.c2).symm<|e3.extBut _ _ D.a2.symm<|e2.extBut _ _ (iI D.b1 D.c1).symm hz1;have aiW:∀c o,c≠z->c≠TO->c≠j1->c≠j2->s.heap.get? c=some o->g5.get? c=some o:=λc o c1 c2 c3 c4 e=>
  e5.extBut _ _ c2 (e4.extBut _ _ c4<|e3.extBut _ _ c2<|e2.extBut _ _ c3<|e1.extBut _ _ c1 e)
 have zlt:=Qq9 hz5;show wpAny _ _ (Builtin.SmallTypes.ownedTupleHandOut (.ref z) (.ref g5.objs.size) >>= _) _ _ _;refine Qqq ?_;unfold Builtin.SmallTypes.ownedTupleHandOut;have hz6:IsZip (g5.push { cls:=.type "tuple",data:=.seq #[x,y] }) z TI TO .ellipsis:=Qqz _ hz5;refine Qqq<|Qk1 hz6 (by simp) λg7 hz7 e7=>?_
 replace hz7:IsZip g7 z TI TO (rawInt g5.objs.size):=hz7
 refine Qk1 hz7 (by simp) λg8 hz8 e8=>?_
 replace hz8:IsZip g8 z TI TO (rawInt g5.objs.size):=hz8
 have up:∀c o,c≠z->g5.get? c=some o->g8.get? c=some o:=λc o c1 e=>e8.extBut _ _ c1<|e7.extBut _ _ c1<|Qqz _ e;have t8:=e8.extBut _ _ (Qz7 zlt)<|e7.extBut _ _ (Qz7 zlt)<|Qwv _ rfl;have l8:g8.objs.size=g5.objs.size+1:=by rw[e8.1,e7.1,Qx5]
 rw[hsz] at hz8 t8 l8;refine Qq2 ⟨_,rfl,?_⟩;show Q (.ref g5.objs.size) _;rw[hsz];exact q x y g8 _ px py hz8 (up _ _ D.a2 t5) (D1.frame _ _ _ (D1.frame _ _ _ sx λc hc o e=>e5.extBut _ _ (iI hc D.c3)<|e4.extBut _ _ (iI hc D.c7)<|e3.extBut _ _ (iI hc D.c3) e) λc hc o e=>up c o (iI hc D.c1) e) (D2.frame _ _ _ (D2.frame _ _ _ sy λc hc o e=>e5.extBut _ _ (iI hc D.c4) e) λc hc o e=>up c o (iI hc D.c2) e) t8 l8 λc o c1 c2 c3 c4 e=>up c o c1<|aiW c o c1 c2 c3 c4 e
def abb(D:Ap z TI TO j1 j2 f1 f2)(D1:Draws prog w A j1 f1 n1 P1 S1)(D2:Draws prog w A j2 f2 n2 P2 S2)(hk:k=n1\/(k<n1/\k=n2))
  (hz:IsZip s.heap z TI TO .none) (hTI:IsPair s.heap TI (.ref j1) (.ref j2)) (hTO:IsPair s.heap TO a b) (s1:S1 k s.heap) (s2:S2 k s.heap)
  (q:∀g e tk,(∀c o,c≠z->c≠TO->c≠j1->c≠j2->s.heap.get? c=some o->g.get? c=some o)->(∃o,g.get? e=some o/\o.cls=.type "StopIteration")->E (.ref e) { s with heap:=g,toks:=tk }) :
  wpAny (model prog w) A (Builtin.«zip.__next__» ⟨[.ref z],[]⟩) Q E s:=by
 have acR:=iI D.b1 D.c1;have ajl:=iI D.b2 D.c4;show wpAny _ _ (field (.ref z) 2 >>= _) _ _ _;refine Qqq<|Qjj hz rfl rfl ?_;show wpAny _ _ (field (.ref z) 3 >>= _) _ _ _;refine Qqq<|Qjj hz rfl rfl ?_;refine Qqq<|Qkz hTI rfl ?_;show wpAny _ _ (Builtin.SmallTypes.ownedTupleIsFree (.ref z) >>= _) _ _ _;refine Qqq ?_;unfold Builtin.SmallTypes.ownedTupleIsFree;refine Qqq<|Qjj hz rfl rfl (Qq2 ?_);simp only[Qhv];refine Qqq<|Qy5 ?_;refine Qqq<|Qjj hz rfl rfl ?_;refine Qqq<|Qk1 hz (by simp) λg1 hz1 e1=>?_;replace hz1:IsZip g1 z TI TO .ellipsis:=hz1;refine Qqq ?_;simp only[List.zipIdx_cons,List.zipIdx_nil,Qvk,Qk3];refine Qqq<|Qqq<|Qgv ?_;show wpAny _ _ (Builtin.SmallTypes.nextOf (.ref j1) >>= _) _ _ _;have s1':=D1.frame k _ _ s1 λc hc o e=>e1.extBut _ _ (iI hc D.c1) e;rcases hk with rfl|⟨k1,rfl⟩;refine Qqq<|D1.done { s with heap:=g1 } _ _ s1' λg2 e x2 he=>?_;obtain⟨oe,hoe,hce⟩:=he;have hz2:=x2 _ _ acR.symm hz1;have hez:e≠z:=λx=>by subst x;rw[hz2] at hoe;cases hoe;simp at hce
 exact Qk1 hz2 (by simp) λg3 _ e3=>q g3 e s.toks (λc o c1 _ c3 _ x=>e3.extBut _ _ c1<|x2 _ _ c3<|e1.extBut _ _ c1 x) ⟨oe,e3.extBut _ _ hez hoe,hce⟩;refine Qqq<|D1.item k { s with heap:=g1 } _ _ k1 s1' λx g2 tk2 px sx e2=>Qq2 ?_;have t2:=e2.extBut _ _ (iI D.b1 D.c3).symm<|e1.extBut _ _ D.a2 hTO;refine Qqq<|Qkz t2 rfl ?_;refine Qqq<|Qh1 t2 λg3 t3 e3=>?_;refine Qqq<|Q1v<|Qq2 ?_;refine Qqq<|Qqq<|Qgv ?_;show wpAny _ _ (Builtin.SmallTypes.nextOf (.ref j2) >>= _) _ _ _;refine Qqq<|D2.done { s with heap:=g3,toks:=tk2 } _ _ (D2.frame k _ _ s2 λc hc o e=>e3.extBut _ _ (iI hc D.c4)<|e2.extBut _ _ (iI hc D.c8)<|e1.extBut _ _ (iI hc D.c2) e) λg4 e x4 he=>?_;obtain⟨oe,hoe,hce⟩:=he;have hz4:=x4 _ _ (iI D.b2 D.c2).symm<|e3.extBut _ _ D.a2.symm<|e2.extBut _ _ acR.symm hz1;have hez:e≠z:=λx=>by subst x;rw[hz4] at hoe;cases hoe;simp at hce
 exact Qk1 hz4 (by simp) λg5 _ e5=>q g5 e tk2 (λc o c1 c2 c3 c4 x=>e5.extBut _ _ c1<|x4 _ _ c4<|e3.extBut _ _ c2<|e2.extBut _ _ c3<|e1.extBut _ _ c1 x) ⟨oe,e5.extBut _ _ hez hoe,hce⟩
def uJ(D:Ap z TI TO j1 j2 f1 f2)(D1:Draws prog w A.in1 j1 f1 n1 P1 S1)(D2:Draws prog w A.in1 j2 f2 n2 P2 S2)(k1:k<n1)(k2:k<n2)
  (hz:IsZip s.heap z TI TO .none) (hTI:IsPair s.heap TI (.ref j1) (.ref j2)) (hTO:IsPair s.heap TO a b) (s1:S1 k s.heap) (s2:S2 k s.heap)
  (q:∀x y g tk,P1 k x->P2 k y->IsZip g z TI TO (rawInt s.heap.objs.size)->IsPair g TO x y->S1 (k+1) g->S2 (k+1) g->IsPair g s.heap.objs.size x y->g.objs.size=s.heap.objs.size+1->
   (∀c o,c≠z->c≠TO->c≠j1->c≠j2->s.heap.get? c=some o->g.get? c=some o)->Q (some (.ref s.heap.objs.size)) { s with heap:=g,toks:=tk }) :
  wpAny (model prog w) A (pyNext (.ref z)) Q E s:=by
 have hT:s.TypeIs (.ref z) "zip":=⟨_,hz,rfl⟩;unfold pyNext;exact Qqq (wpAny_attempt (Qz6 (name:=Str.ofString "__next__") hT Qdw (Qjq Qdw hT F.entry_zip_next
  (W6 D D1 D2 k1 k2 hz hTI hTO s1 s2 λx y g tk u1 u2 u3 u4 u5 u6 u7 u8 u9=>Qq2<|q x y g tk u1 u2 u3 u4 u5 u6 u7 u8 u9) (F.args_zip_next_1 _))))
def vH(D:Ap z TI TO j1 j2 f1 f2)(D1:Draws prog w A.in1 j1 f1 n1 P1 S1)(D2:Draws prog w A.in1 j2 f2 n2 P2 S2)(hk:k=n1\/(k<n1/\k=n2))
  (hz:IsZip s.heap z TI TO .none) (hTI:IsPair s.heap TI (.ref j1) (.ref j2)) (hTO:IsPair s.heap TO a b) (s1:S1 k s.heap) (s2:S2 k s.heap)
  (q:∀g tk,(∀c o,c≠z->c≠TO->c≠j1->c≠j2->s.heap.get? c=some o->g.get? c=some o)->Q none { s with heap:=g,toks:=tk }):wpAny (model prog w) A (pyNext (.ref z)) Q E s:=by
 have hT:s.TypeIs (.ref z) "zip":=⟨_,hz,rfl⟩;unfold pyNext;refine Qqq (wpAny_attempt (Qz6 hT Qdw (Qjq Qdw hT F.entry_zip_next
  (abb D D1 D2 hk hz hTI hTO s1 s2 λg e tk hkp he=>?_) (F.args_zip_next_1 _))))
 obtain⟨o,ho,hc⟩:=he;refine Qqq<|wpAny_isInstance ⟨o,ho,hc⟩ isSubtype_stop ?_;exact Qq2<|q _ _ hkp
end
end ZT
namespace L2
open PySem PySem.Spec PyProof.Rows PySem.Builtin ZT
def Itz(K:PySem.W.Frag)(a1 a2:Addr):It:=
 ⟨λi H=>∃xs ys x y,pg K H a1 xs/\pg K H a2 ys/\xs[i]?=some x/\ys[i]?=some y,
 λi H v H'=>∃p x y,(∀xs,pg K H a1 xs->xs[i]?=some x)/\(∀ys,pg K H a2 ys->ys[i]?=some y)/\H p=none/\H'=upd H p (.tup [x,y])/\v=.ref p,
 λi H=>∃xs ys,pg K H a1 xs/\pg K H a2 ys/\(i=xs.length\/(i<xs.length/\i=ys.length))⟩
structure Apz(z TI TO j1 j2 a1 a2:Addr):Prop where
 t1:TI≠z
 t2:TO≠z
 t3:TI≠TO
 t4:j1≠j2
 b1:z ∉ [j1,a1]
 b2:z ∉ [j2,a2]
 b3:TO ∉ [j1,a1]
 b4:TO ∉ [j2,a2]
 b5:TI ∉ [j1,a1]
 b6:TI ∉ [j2,a2]
 b7:j2 ∉ [j1,a1]
 b8:j1 ∉ [j2,a2]
 c1:a1≠j1
 c2:a2≠j2
def Apz.ap{z TI TO j1 j2 a1 a2:Addr}(D:Apz z TI TO j1 j2 a1 a2):Ap z TI TO j1 j2 [j1,a1] [j2,a2]:=⟨D.t1,D.t2,D.t3,D.t4,by simp,by simp,D.b1,D.b2,D.b3,D.b4,D.b5,D.b6,D.b7,D.b8⟩
def Xd{K:PySem.W.Frag}(z TI TO j1 j2 a1 a2)(D:Apz z TI TO j1 j2 a1 a2) :
  Turn P w K (.Tuple elts kk pos) (Itz K a1 a2) [z,TI,TO,j1,j2] z (λi h=>IsZip h z TI TO .none/\IsPair h TI (.ref j1) (.ref j2)/\(∃a b,IsPair h TO a b)/\h.IsTupleIter j1 a1 i/\h.IsTupleIter j2 a2 i) where
 mem:=by simp
 obj:=λi h st b hb=>by
  obtain⟨hz,hTI,⟨a,c,hTO⟩,⟨o1,e1,_,d1⟩,o2,e2,_,d2⟩:=st;simp only[Qq4,Qw6,Qz9] at hb;rcases hb with rfl|rfl|rfl|rfl|rfl;exact⟨_,hz,λv q=>by cases q⟩;exact⟨_,hTI,λv q=>by cases q⟩;exact⟨_,hTO,λv q=>by cases q⟩;exact⟨o1,e1,λv q=>by rw[d1] at q;cases q⟩;exact⟨o2,e2,λv q=>by rw[d2] at q;cases q⟩
 keep:=λi h h' st k=>by
  obtain⟨hz,hTI,⟨a,c,hTO⟩,⟨o1,e1,r1⟩,o2,e2,r2⟩:=st;exact⟨k z (by simp) _ hz,k TI (by simp) _ hTI,⟨a,c,k TO (by simp) _ hTO⟩,⟨o1,k j1 (by simp) _ e1,r1⟩,o2,k j2 (by simp) _ e2,r2⟩
 item:=by
  intro X hP hw hK hc i pins s σ H E I hf st hg;subst hP hw hK;obtain⟨hz,hTI,⟨a,b,hTO⟩,i1,i2⟩:=st;obtain⟨xs,ys,x,y,hx,hy,gx,gy⟩:=hg;obtain⟨us,ru,pu,zu⟩:=I.tuple hx;obtain⟨vs,rv,pv,zv⟩:=I.tuple hy;obtain⟨u,hu,rxu⟩:=ru.get gx;obtain⟨v,hv,ryv⟩:=rv.get gy;have lu:i<us.toArray.size:=by rw[Qq3];exact(Qq5.mp hu).1
  have lv:i<vs.toArray.size:=by rw[Qq3];exact(Qq5.mp hv).1
  have D1:Draws X.prog X.w X.A.in1 j1 [j1,a1] _ _ _:=wB (show X.A.in1.handled=none from I.ok.hd hc) j1 a1 D.c1 us.toArray;have D2:Draws X.prog X.w X.A.in1 j2 [j2,a2] _ _ _:=wB (show X.A.in1.handled=none from I.ok.hd hc) j2 a2 D.c2 vs.toArray;refine uJ D.ap D1 D2 lu lv hz hTI hTO ⟨i1,pu⟩ ⟨i2,pv⟩ λx' y' g tk px py hz' agt s1 s2 hT hsz hk=>?_;have ex:x'=u:=by have:=px;rw[Qj6,hu] at this;exact(Qw4 this).symm
  have ey:y'=v:=by have:=py;rw[Qj6,hv] at this;exact(Qw4 this).symm
  subst ex ey;refine⟨_,rfl,?_⟩;refine Qf4 hz' λg' hz'' e'=>?_;have pA:∀b o,b≠z->g.get? b=some o->g'.get? b=some o:=λb o hb q=>(e'.2 b hb).trans q;have lts:∀b ∈ [z,TI,TO,j1,j2],b<s.heap.objs.size:=λb hb=>by
   simp only[Qq4,Qw6,Qz9] at hb;rcases hb with rfl|rfl|rfl|rfl|rfl;exact Qq9 hz;exact Qq9 hTI;exact Qq9 hTO;obtain⟨_,q,_⟩:=i1;exact Qq9 q;obtain⟨_,q,_⟩:=i2;exact Qq9 q
  refine⟨.ref s.heap.objs.size,upd H s.heap.objs.size<|.tup [x,y],I.drawn hf (λb o hb q=>?_) (Qq0 _) ?_,rfl,⟨_,x,y,λzs hq=>by rw[I.z8 hq hx];exact gx,λzs hq=>by rw[I.z8 hq hy];exact gy,(I.hok.fresh<|Qq0 _),rfl,rfl⟩,⟨hz'',?_,⟨_,_,pA TO _ D.t2 agt⟩,?_,?_⟩,λb hb=>?_⟩;have n1:b≠z:=λq=>hb (by simp[q]);exact pA b o n1<|hk b o n1 (λq=>hb (by simp[q])) (λq=>hb (by simp[q])) (λq=>hb (by simp[q])) q;exact⟨by show 2<=sizeLine;decide,[x',y'],.cons rxu<|.cons ryv .nil,_,pA _ _ (Qz7<|lts z (by simp)) hT,rfl,⟨_,rfl⟩,rfl⟩;exact pA TI _ D.t1<|hk TI _ D.t1 D.t3 (λq=>D.b5 (by simp[q])) (λq=>D.b6 (by simp[q])) hTI;obtain⟨o,q,r⟩:=s1.1;exact⟨o,pA j1 o (λq=>D.b1 (by simp[q])) q,r⟩;obtain⟨o,q,r⟩:=s2.1;exact⟨o,pA j2 o (λq=>D.b2 (by simp[q])) q,r⟩;rw[cj (Qxq<|lts b hb)];exact(hf b hb).1
 done:=by intro X hP hw hK hc i pins s σ H E I hf st hg;subst hP hw hK;obtain⟨hz,hTI,⟨a,b,hTO⟩,i1,i2⟩:=st;obtain⟨xs,ys,hx,hy,hi⟩:=hg;obtain⟨us,ru,pu,zu⟩:=I.tuple hx;obtain⟨vs,rv,pv,zv⟩:=I.tuple hy;have l1:=ru.length;have l2:=rv.length;have D1:Draws X.prog X.w X.A.in1 j1 [j1,a1] _ _ _:=wB (show X.A.in1.handled=none from I.ok.hd hc) j1 a1 D.c1 us.toArray;have D2:Draws X.prog X.w X.A.in1 j2 [j2,a2] _ _ _:=wB (show X.A.in1.handled=none from I.ok.hd hc) j2 a2 D.c2 vs.toArray;refine vH D.ap D1 D2 (by rw[Qq3,Qq3];omega) hz hTI hTO ⟨i1,pu⟩ ⟨i2,pv⟩ λg tk hk=>⟨rfl,I.JQ hf λb o hb e=>?_⟩;exact hk b o (λq=>hb (by simp[q])) (λq=>hb (by simp[q])) (λq=>hb (by simp[q])) (λq=>hb (by simp[q])) e
 self:=λA i s Q E st h=>Qhw st.1 h
end L2
namespace ZT
open PySem PySem.Spec PyProof.Rows L2 PySem.Builtin
abbrev h1T(h:Heap)(l1:Addr):Heap:=h.push { cls:=.type "tuple_iterator",data:=.fields #[.ref l1,.int 0 0] }
abbrev h2T(h:Heap)(l1 l2:Addr):Heap:=(h1T h l1).push { cls:=.type "tuple_iterator",data:=.fields #[.ref l2,.int 0 0] }
abbrev h3T(h:Heap)(l1 l2:Addr):Heap:=(h2T h l1 l2).push { cls:=.type "tuple",data:=.seq #[.ref h.objs.size,.ref (h1T h l1).objs.size] }
abbrev h4T(h:Heap)(l1 l2:Addr):Heap:=(h3T h l1 l2).push { cls:=.type "tuple",data:=.seq #[.none,.none] }
abbrev h5T(h:Heap)(l1 l2:Addr):Heap:=(h4T h l1 l2).push { cls:=.type "zip",data:=.fields #[.none,.bool false,.bool false,.ref (h2T h l1 l2).objs.size,.ref (h3T h l1 l2).objs.size] }
def afY(l1 l2)(xs ys):Meets (Builtin.«zip.__new__» ⟨[.type "zip",.ref l1,.ref l2],[]⟩) (λ_ R s=>s.heap.IsTuple l1 xs/\s.heap.IsTuple l2 ys/\
   R (.ok (.ret (.ref (h4T s.heap l1 l2).objs.size))) { s with heap:=h5T s.heap l1 l2 }):=
 .of_wp λprog w A R s h=>by
  obtain⟨hp,g,d,tk,os⟩:=s;obtain⟨hl1,hl2,h⟩:=h;have hsub:=sub_zip;have hL2:Heap.IsTuple (Shared.heap ⟨hp.push { cls:=.type "tuple_iterator",data:=.fields #[.ref l1,.int 0 0] },g,d,tk,os⟩) l2 ys:=Heap.IsTuple.push hl2 _
  wp_walk using Qbv hl1,Qbv hL2
  exact⟨_,rfl,h⟩
section
variable{prog:Program}{w:World}{A:Around}{E:Value->Shared->Prop}{s:Shared}
def ac4(hl1:s.heap.IsTuple l1 xs)(hl2:s.heap.IsTuple l2 ys)
  (h:∀g,IsZip g (s.heap.objs.size+4) (s.heap.objs.size+2) (s.heap.objs.size+3) .none->IsPair g (s.heap.objs.size+2) (.ref s.heap.objs.size) (.ref (s.heap.objs.size+1))->
   IsPair g (s.heap.objs.size+3) .none .none->g.IsTupleIter s.heap.objs.size l1 0->g.IsTupleIter (s.heap.objs.size+1) l2 0->g.objs.size=s.heap.objs.size+5->
   (∀c o,s.heap.get? c=some o->g.get? c=some o)->Q (.ref (s.heap.objs.size+4)) { s with heap:=g }) :
  wpAny (model prog w) A (call (.type "zip") [.ref l1,.ref l2]) Q E s:=by
 refine callType_new F.called_zip (by decide) (F.typeCall_zip_2 _ _) (F.newCall_zip_2 _ _) (λobj=>F.args_object_init_3 obj _ _) F.entry_zip_new (afY l1 l2 xs ys) ⟨hl1,hl2,?_⟩;have z1:(h1T s.heap l1).objs.size=s.heap.objs.size+1:=Qx5 ..;have z2:(h2T s.heap l1 l2).objs.size=s.heap.objs.size+2:=by rw[Qx5,z1]
 have z3:(h3T s.heap l1 l2).objs.size=s.heap.objs.size+3:=by rw[Qx5,z2]
 have z4:(h4T s.heap l1 l2).objs.size=s.heap.objs.size+4:=by rw[Qx5,z3]
 have z5:(h5T s.heap l1 l2).objs.size=s.heap.objs.size+5:=by rw[Qx5,z4]
 have g5:(h5T s.heap l1 l2).get? (h4T s.heap l1 l2).objs.size=some _:=Qwv _ rfl;have g4:(h5T s.heap l1 l2).get? (h3T s.heap l1 l2).objs.size=some _:=Qqz _<|Qwv _ rfl;have g3:(h5T s.heap l1 l2).get? (h2T s.heap l1 l2).objs.size=some _:=Qqz _<|Qqz _<|Qwv _ rfl;have g2:(h5T s.heap l1 l2).get? (h1T s.heap l1).objs.size=some _:=Qqz _<|Qqz _<|Qqz _<|Qwv _ rfl;have g1:(h5T s.heap l1 l2).get? s.heap.objs.size=some _:=Qqz _<|Qqz _<|Qqz _<|Qqz _<|Qwv _ rfl;rw[z2,z3,z4] at g5;rw[z1,z2] at g3;rw[z3] at g4;rw[z1] at g2;rw[z4];exact⟨⟨_,g5,rfl⟩,h _ g5 g3 g4 ⟨_,g1,rfl,rfl⟩ ⟨_,g2,rfl,rfl⟩ z5 λc o x=>Qqz _<|Qqz _<|Qqz _<|Qqz _<|Qqz _ x⟩
end
end ZT
namespace L2
open PySem PySem.Spec PyProof.Rows PySem.Builtin ZT
section
variable{X:Cx}
def akN(K:PySem.W.Frag)(ta:TA):TI:=λσ H R=>ta σ H λvs H1=>∃a1 a2,vs=[.ref a1,.ref a2]/\(∃xs,pg K H1 a1 xs)/\(∃ys,pg K H1 a2 ys)/\R (Itz K a1 a2) H1
def afi{elts:List Expr}{k:Nat}{tp:Pos}{p pos:Pos}(hg:Gl X "zip")(hm:X.mg "zip" = none)(ha:PA X [a,b] ta)(hs:starEach [a,b] X.env=(false,eval a X.env)::starEach [b] X.env:=by rfl)(hs2:starEach [b] X.env=[(false,eval b X.env)]:=by rfl):PI X (.Tuple elts k tp) (.Call (.Name "zip" p) [a,b] [] pos) (akN X.K ta):=by
 intro pins s σ H R I h;refine Call_<|uo I hg hm Q06<|Qzq (gR (ha pos pins s σ H _ I h) λus s1 ⟨vs,H1,I1,r1,q1⟩=>?_) hs (by rw[hs2];rfl);obtain⟨a1,a2,e,⟨xs,hx⟩,⟨ys,hy⟩,q⟩:=q1;subst e;cases r1 with
 |cons r rr=>
  cases rr with
  |cons r' rr'=>
   cases rr';cases r;cases r';obtain⟨u1,ru1,p1,z1⟩:=I1.tuple hx;obtain⟨u2,ru2,p2,z2⟩:=I1.tuple hy;have ZJ:a1<s1.heap.objs.size:=by obtain⟨_,e,_⟩:=p1;exact Qq9 e
   have TX:a2<s1.heap.objs.size:=by obtain⟨_,e,_⟩:=p2;exact Qq9 e
   refine ac4 p1 p2 λg hz hTI hTO i1 i2 hsz hk=>?_;refine Qhw hz ?_;have I2:Inv X pins σ H1 { s1 with heap:=g }:=I1.kept (t':=s1.toks) hk;have own:∀b,s1.heap.objs.size<=b->wK X pins H1 b:=λb hb=>I1.RN hb<|I1.hok.fresh hb;generalize hn:s1.heap.objs.size=n at *;have ne:∀{c d:Nat},c<d->(c:Addr)≠d:=λh e=>Qz0 _ (by subst e;exact h);have ne':∀{c d:Nat},d<c->(c:Addr)≠d:=λh e=>Qz0 _ (by subst e;exact h);have D:Apz (n+4) (n+2) (n+3) n (n+1) a1 a2:={
    t1:=ne (by omega),t2:=ne (by omega),t3:=ne (by omega),t4:=ne (by omega)
    b1:=by simp only[Qq4,Qw6,Qz9,Qhq];exact⟨ne' (by omega),ne'<|Qwx ZJ (by omega)⟩
    b2:=by simp only[Qq4,Qw6,Qz9,Qhq];exact⟨ne' (by omega),ne'<|Qwx TX (by omega)⟩
    b3:=by simp only[Qq4,Qw6,Qz9,Qhq];exact⟨ne' (by omega),ne'<|Qwx ZJ (by omega)⟩
    b4:=by simp only[Qq4,Qw6,Qz9,Qhq];exact⟨ne' (by omega),ne'<|Qwx TX (by omega)⟩
    b5:=by simp only[Qq4,Qw6,Qz9,Qhq];exact⟨ne' (by omega),ne'<|Qwx ZJ (by omega)⟩
    b6:=by simp only[Qq4,Qw6,Qz9,Qhq];exact⟨ne' (by omega),ne'<|Qwx TX (by omega)⟩
    b7:=by simp only[Qq4,Qw6,Qz9,Qhq];exact⟨ne' (by omega),ne'<|Qwx ZJ (by omega)⟩
    b8:=by simp only[Qq4,Qw6,Qz9,Qhq];exact⟨ne (by omega),ne' TX⟩
    c1:=ne ZJ,c2:=ne (Qwx TX (by omega)) }
   refine⟨n+4,[n+4,n+2,n+3,n,n+1],_,_,H1,rfl,I2,Xd _ _ _ _ _ a1 a2 D,⟨hz,hTI,⟨_,_,hTO⟩,i1,i2⟩,λb hb=>own b ?_,q⟩;simp only[Qq4,Qw6,Qz9] at hb;rcases hb with rfl|rfl|rfl|rfl|rfl;exact Qj9 _ _;exact Qj9 _ _;exact Qj9 _ _;exact Qq0 _;exact Qj9 _ _
end
end L2
namespace Ev
open PySem PySem.Spec PyProof.Rows L2 PySem.Builtin
section
variable{X:Cx}{C:Cfg}{pos:Pos}{e e2:Expr}
def tW(x y:List D):List D:=(x.zip y).map λp=>.tup [p.1,p.2]
def Gr(a:eZ):eZ:=λenv=>bindR (a env) λds aR=>match ds with
 |[.tup x,.tup y]=>.ok (tW x y) aR|_=>.stuck
theorem yH{K:Fg}:∀{ds} {vs},cN K F ds vs->∀{i:Nat} {d},ds[i]?=some d->∃v,vs[i]?=some v/\Rep K F d v
 |[],vs,_,i,d,h=>by simp at h
 |x::ds,vs,r,i,d,h=>by
  obtain⟨v,w,rfl,p,q⟩:=r;cases i with
  |zero=>simp at h;subst h;exact⟨v,rfl,p⟩|succ i=>obtain⟨u,h1,h2⟩:=yH q (by simpa using h);exact⟨u,by simpa using h1,h2⟩
end
end Ev
namespace L2
open PySem PySem.Spec PyProof.Rows PySem.Builtin
section
variable{X:Cx}
def Yb:List V->Hp->VK->Prop:=λxs H Q=>∃b:Bool,xs=[.bl b]/\Q (.int (if b then 1 else 0)) H
def WK:jQ X (.type "int") Yb:=by
 intro pins s σ H vs us Q I r h;obtain⟨b,rfl,q⟩:=h;cases r with
 |cons r rr=>cases rr;cases r;exact call_int_bool ⟨.int<|if b then 1 else 0,H,I.tok _,⟨_,rfl⟩,q⟩
end
end L2
namespace Ev
open PySem PySem.Spec PyProof.Rows L2 PySem.Builtin
section
variable{X:Cx}{C:Cfg}{pos p:Pos}{e:Expr}{ea:eZ}
def Uj:List D->Option D
 |[.bl b]=>some (.int (if b then 1 else 0))|_=>none
def ac1:CallD C Yb Uj:=by
 intro Pr F env σ H ds d vs Q r hs h q;unfold Uj at h;split at h;rename_i b;cases h;obtain⟨v,rfl,hv⟩:=nR hs;exact⟨b,by rw[hv.bl],q _ H F r (bu.refl F) rfl⟩;cases h
end
open PySem PySem.Spec PyProof.Rows L2
def Rel.hold{Pr F:Hp}(r:Rel C Pr F env σ H)(n:Sd C.K Pr F env σ H d a)(ho:H a=some o):Rel C (upd Pr a o) F env σ H:=by
 refine⟨λb u e=>?_,r.fr,r.len,r.val,λj e he=>?_,r.apart,λb u e=>?_,r.fix⟩;by_cases hb:b=a;subst hb;rw[bA] at e;cases e;exact ho;rw[cj hb] at e;exact r.pr b u e;obtain⟨b,h1,h2,h3,h4⟩:=r.own j e he;have hb:b≠a:=λz=>n.ap j e he (by rw[<-z];exact h1);exact⟨b,h1,h2,h3,by rw[cj hb];exact h4⟩;have hb:b≠a:=λz=>by rw[z,n.nF] at e;cases e
 rw[cj hb];exact r.dj b u e
def Rel.ag0{Pr F F':Hp}(r:Rel C (upd Pr a oa) F env σ H)(nP:Pr a=none)(s:∀b o,b≠a->H b=some o->H' b=some o)(sF:bu F' H')(sF':bu F F')(nw:∀b o,F' b=some o->F b=some o\/H b=none):Rel C Pr F' env σ H':=by
 refine⟨λb u e=>?_,sF,r.len,λj e he=>?_,λj e he=>?_,r.apart,λb o e=>?_,r.fix⟩;have hb:b≠a:=λz=>by rw[z,nP] at e;cases e
 exact s b u hb<|r.pr b u (by rw[cj hb];exact e);obtain⟨v,h1,h2⟩:=r.val j e he;exact⟨v,h1,Rep.mono sF' _ _ h2⟩;obtain⟨b,h1,h2,h3,h4⟩:=r.own j e he;obtain⟨o,ho⟩:=h2.some;have hb:b≠a:=λz=>by rw[z,bA] at h4;cases h4
 refine⟨b,h1,h2.mono sF' (by rw[ho,s _ _ hb ho]),?_,N7 h4⟩;cases e:F' b with
 |none=>rfl|some u=>rcases nw b u e with z|z;rw[h3] at z;cases z;rw[ho] at z;cases z
 rcases nw b o e with z|z;exact N7<|r.dj b o z;cases hp:Pr b with
 |none=>rfl
 |some u=>
  have hb:b≠a:=λy=>by rw[y,nP] at hp;cases hp
  have:=r.pr b u (by rw[cj hb];exact hp);rw[this] at z;cases z
def Ur(f:List D->Option (D×D))(c:Ev)(a:eZ):Ev:=λenv=>bindR (c env) λx aR=>bindR (a aR) λds eQ=>match f (x::ds) with
 |some (d,_)=>.ok d eQ|none=>.stuck
section
variable{X:Cx}{C:Cfg}{pos p:Pos}{n:Str}{e1:Expr}{es:List Expr}{ea:eZ}{c:Ev}
end
def RC
  (hx:s.heap.get? a=some o) (hc:o.cls=.type "list") (hdat:o.data=.seq xs k) (hd:o.dict=none) (hA:A.handled=none)
  (h:∀h' tk,(∀b u,s.heap.get? b=some u->h'.get? b=some u)->Q none { s with heap:=h',toks:=tk }):wpAny (model prog w) A (getAttr? (.ref a) "keys") Q E s:=by
 obtain⟨hp,g,d,tk,os⟩:=s;obtain⟨oc,od,dt,sl⟩:=o;cases hc;cases hdat;cases hd;have hT:∀tk',(⟨hp,g,d,tk',os⟩:Shared).TypeIs (.ref a) "list":=λ_=>⟨_,hx,rfl⟩;have f1:=sub_AttributeError;have f3:=F.slot_list_getattribute.lookup;have f4:=F.slot_list_getattribute.bind<|.ref a;have f5:=am_list_getattr_none;have hmiss:typeLookup (.type "list") "keys"=pure none:=by rw[typeLookup_type,builtinLookup_eq_fast];kernel_rfl
 unfold getAttr? getAttrBy? getAttrBy
 repeat (any_goals (first|assumption|exact hT _|((with_reducible show wpAny _ _ (call (Value.builtin "list.__getattribute__") _ _) _ _ _);refine Qb7 F.slot_list_getattribute (hT _) am_entry_list_getattribute (F.args_list_getattribute_2 _ _) (meets_getattribute_miss_list a xs k sl "keys" _ hmiss (by decide +kernel) (by decide +kernel)) ⟨hx,hA,λh' tk' e hx'=>?_⟩)|wp_step))
 obtain⟨t',u',he⟩:=hx'.there;show wpAny _ _ (getattributeRaised _ _ _ _ _ _ _) _ _ _;unfold getattributeRaised
 repeat (any_goals (first|assumption|wp_step))
 exact h _ _ hx'.keeps
section
variable{X:Cx}{C:Cfg}{pos:Pos}{x y z:Expr}{a b c:Ev}{n:Str}
def acI{K:Fg}{x:Str}(X:K.In h)(G:h.Ns mainGlobals mg)(a:PySem.W.nsIn K mainGlobals x=some (some (.int i t))):Glb K mg x (.int i):=
 ⟨.int i,_,Qgw X G a,⟨t,rfl⟩,λF=>rfl⟩
def Iv(i:Nat)(a:Ev):cu:=λenv=>match env[i]? with
 |some (some (true,.lst _))=>kY (a env) λd aR=>(match aR[i]?,d with
  |some (some (true,.lst xs)),.lst zs=>if xs.length+zs.length<=sizeLine then .nx (aR.set i (some (true,.lst (xs++zs)))) else .stuck|_,_=>.stuck)
 |_=>.stuck
end
end Ev
namespace SX
open PySem PySem.Spec PyProof.Rows L2 PySem.Builtin
def led(w:World):Bool:=!(w.params.followText "set-order")
def Ko(t:SetTable)(n):(t.orStandIn n).led=t.led/\(t.plain=false->(t.orStandIn n).plain=false):=by
 unfold SetTable.orStandIn;split;exact⟨rfl,id⟩;exact⟨rfl,λ_=>rfl⟩
def Dq(t)(es)(h)(x):(layNew t es h x).2.1.led=t.led/\(t.plain=false->(layNew t es h x).2.1.plain=false):=by
 unfold layNew;split;exact Ko _ _;exact⟨rfl,λ_=>rfl⟩
def za(h:SetTable.laid mask finger moves l p hs=some (t,o)):t.led=l/\t.plain=p:=by
 unfold SetTable.laid at h;cases h1:SetTable.layClean mask hs with
 |none=>rw[h1] at h;cases h|some ow=>rw[h1] at h;injection h with h;injection h with h _;subst h;exact⟨rfl,rfl⟩
def vY(t)(es)(n):(relayAll t es n).2.1.led=t.led/\(t.plain=false->(relayAll t es n).2.1.plain=false):=by
 unfold relayAll;split;rename_i t' order e;obtain⟨h1,h2⟩:=za e;dsimp only;split;exact⟨h1,λz=>h2.trans z⟩;exact⟨rfl,λ_=>rfl⟩;exact⟨rfl,λ_=>rfl⟩
section
variable{P:Program}{w:World}{A:Around}{E:Value->Shared->Prop}{s:Shared}{a:Addr}
def DX(b)(h:Q () s₁):wpAny (model P w) A (match b with|true=>rule n|false=>pure ()) Q E s₁:=by
 cases b;exact Qq2 h;exact Qy5 h
def Dn(v)(h:Q (.ref s.heap.objs.size) { s with heap:=s.heap.push { cls:=.type "set",dict:=none,data:=.set #[] 0 (.fresh 0 0 (led w)) } }) :
  codeAny (model P w) A (.call (.builtin "set.__new__") ⟨[.type "set",v],[]⟩) (wants Q E) s:=by
 refine codeAny_of_tree ?_;show wpAny _ _ (checkBuiltinCall "set.__new__" ⟨[.type "set",v],[]⟩ >>= λ_=>again<|.builtin "set.__new__" ⟨[.type "set",v],[]⟩) _ _ s;refine Qqq<|wpAny_of_eq (PySem.F.newCall_set_1 v)<|Qq2 ⟨Qy9 Q04 _,Qk0 PySem.F.entry_set_new ?_⟩;rw[Qjy Q04 _];unfold Builtin.«set.__new__» Builtin.Frozenset.newClass;have hs:=sub_set_self;obtain⟨_,_,_,_,_⟩:=s;dsimp only
 wp_walk
 refine wpAny_askSetting<|Qq2 ?_;dsimp only;simp[newObj];exact Qqq<|wpAny_alloc<|Qq2<|Qq2 h
def fresh(w:World):Obj:={ cls:=.type "set",dict:=none,data:=.set #[] 0 (.fresh 0 0 (led w)) }
end
open PySem PySem.Spec PyProof.Rows L2 PySem.Builtin Ev
def pZ(h:Ev.strOf x=Ev.strOf y):x=y:=by
 have:=Qx1 (λs:Str=>s.cps.toList) h
 simpa[Ev.strOf] using this
end SX
namespace Ev
open PySem PySem.Spec PyProof.Rows L2 PySem.Builtin
section
variable{X:Cx}{C:Cfg}{pos:Pos}
structure PXL(X:Cx)(C:Cfg)(es:List Expr)(ev:eZ):Prop where
 go:W3 X C es ev
def abK:PXL X C [] aj:=⟨Tn⟩
end
open PySem L2
def nr{α:Type}{a b:α}(h:a=b):a=b:=h
def bR{α β:Type}(a)(e)(f:α->Env->R β):bindR (.ok a e) f=f a e:=nr rfl
def p6{α:Type}(_:Env):R α:=.stuck
def aah(xs)(lo hi):agv (.tup xs) lo hi=some (.tup (cutD xs lo hi)):=by
 show(if HT.iB xs.length 0 lo=0/\HT.iB xs.length xs.length hi=xs.length then some (D.tup xs) else some (D.tup<|cutD xs lo hi))=_;split;rename_i h;unfold cutD;rw[h.1,h.2];simp;rfl
def acV{α:Type}(xs:List α)(k:Nat):cutD xs none (some k)=xs.take k:=by
 unfold cutD;rw[HT.Td];have:HT.iB xs.length 0 none=0:=rfl;rw[this,Q1k,Nat.sub_zero];by_cases h:k<=xs.length;rw[Nat.min_eq_left h];rw[Nat.min_eq_right (by omega),Qz8<|Qq0 _,Qz8 (by omega)]
def Jx{α:Type}(xs:List α)(k:Nat):cutD xs (some k) none=xs.drop k:=by
 unfold cutD;rw[HT.Td];have:HT.iB xs.length xs.length none=xs.length:=rfl;rw[this];by_cases h:k<=xs.length;rw[Nat.min_eq_left h];exact Qz8 (by rw[Qz5];omega);rw[Nat.min_eq_right (by omega),List.drop_of_length_le (by omega:xs.length<=k)];simp
theorem ajr{α:Type}(p):∀l:List α,vR (l.map λa=>D.bl (p a))=some (l.map p)
 |[]=>rfl
 |a::l=>by
  rw[Qq8];unfold vR;rw[ajr p l]
  rfl
def ajg{α:Type}(p)(l:List α):Wj [.lst (l.map λa=>D.bl (p a))]=some (.bl (l.all p)):=by show(vR _).map _=_;rw[ajr];simp[Q15]
def aeL(n):fZ 0 1 n=(List.range n).map λ(i:Nat)=>D.int i:=by
 unfold fZ;apply Qx7;intro i _
 congr 1
 omega
def Vp{n:Nat}(h:n<2^62):vG [.int n]=some ((List.range n).map λ(i:Nat)=>D.int i):=by
 have hf:lQ n=true:=by unfold lQ;simp[Qjx,decide_eq_true_eq];omega
 show(if lQ n=true then some (fZ 0 1 (n:Int).toNat) else none)=_;rw[Qv4 hf,Qj4,aeL]
theorem ad0{α:Type}(enc)(ext:α->Env)(p)(out)(env)(k):∀(l:List α) vs,vs.length=k->
  (∀a∈l,(ext a).length=k/\(∀vs,vs.length=k->g (enc a) (env++vs)=some (env++ext a))/\c (env++ext a)=.ok (p a) (env++ext a)/\(p a=true->e (env++ext a)=.ok (out a) (env++ext a)))->
  ∃vs',vs'.length=k/\Ly g c e (l.map enc) (env++vs)=.ok ((l.filter p).map out) (env++vs')
 |[],vs,hv,_=>⟨vs,hv,rfl⟩
 |a::l,vs,hv,h=>by
  obtain⟨h1,h2,h3,h4⟩:=h a Qqj;obtain⟨vs',h5,h6⟩:=ad0 enc ext p out env k l (ext a) h1 λb hb=>h b<|Qqk _ hb;refine⟨vs',h5,?_⟩;rw[Qq8];unfold Ly;rw[h2 vs hv];show bindR (c<|env++ext a) _=_;rw[h3,bR];cases hp:p a with
  |true=>rw[Qv4 rfl,h4 hp,bR,h6,bR,List.filter_cons_of_pos hp,Qq8]|false=>rw[Qv5 Qw2,h6,List.filter_cons_of_neg (by rw[hp];exact Qw2)]
def Bp{α:Type}{lo n:Nat}(l:List α)(enc)(ext:α->Env)(p)(out)(hit:it env=.ok (l.map enc) aR)(hlo:aR.length=lo)
  (h:∀a∈l,(ext a).length=n - lo/\(∀vs,vs.length=n - lo->g (enc a) (aR++vs)=some (aR++ext a))/\c (aR++ext a)=.ok (p a) (aR++ext a)/\(p a=true->e (aR++ext a)=.ok (out a) (aR++ext a)))
  (hz:l.length<=sizeLine):d9 lo n it g c e env=.ok (.lst ((l.filter p).map out)) aR:=by
 obtain⟨vs',h5,h6⟩:=ad0 enc ext p out aR (n - lo) l (List.replicate (n - lo) none) Qz3 h;have:=o7 hit hlo h6<|Qq1 (by rw[Qqx];exact List.length_filter_le _ _) hz;rw[this,<-hlo,List.take_left]
def K5{α:Type}{lo n:Nat}(l:List α)(enc)(out)(hit:it env=.ok (l.map enc) aR)(hlo:aR.length=lo)(hn:n=lo+1)
  (h:∀a∈l,e (aR++[some (false,enc a)])=.ok (out a) (aR++[some (false,enc a)])) (hz:l.length<=sizeLine):d9 lo n it (ak lo) cA e env=.ok (.lst (l.map out)) aR:=by
 subst hn hlo;have:=Bp (n:=aR.length+1) (it:=it) (g:=ak aR.length) (c:=cA) l enc (λa=>[some (false,enc a)]) (λ_=>true) out hit rfl (λa ha=>⟨by simp,λvs hv=>?_,rfl,λ_=>h a ha⟩) hz;rw[this,Qvq.mpr<|λ_ _=>rfl];have hv:vs.length=1:=by omega
 obtain⟨v,rfl⟩:=Q00.mp hv;unfold ak;rw[Q07 _ _ (Qq0 _),Q14];rfl
def Uq{α:Type}{lo n:Nat}(l:List α)(enc)(p)(out)(hit:it env=.ok (l.map enc) aR)(hlo:aR.length=lo)(hn:n=lo+1)
  (hc:∀a∈l,c (aR++[some (false,enc a)])=.ok (p a) (aR++[some (false,enc a)]))
  (h:∀a∈l,p a=true->e (aR++[some (false,enc a)])=.ok (out a) (aR++[some (false,enc a)])) (hz:l.length<=sizeLine):d9 lo n it (ak lo) c e env=.ok (.lst ((l.filter p).map out)) aR:=by
 subst hn hlo;refine Bp (lo:=aR.length) l enc (λa=>[some (false,enc a)]) p out hit rfl (λa ha=>⟨by simp,λvs hv=>?_,hc a ha,λhp=>h a ha hp⟩) hz;have hv:vs.length=1:=by omega
 obtain⟨v,rfl⟩:=Q00.mp hv;unfold ak;rw[Q07 _ _ (Qq0 _),Q14]
 rfl
open PySem PySem.Spec PyProof.Rows L2
section
variable{X:Cx}{C:Cfg}{pos:Pos}{x:Expr}{a:Ev}
def ak6:D->Option Int->Option Int->Option D
 |.str z,lo,hi=>some (.str (cutD z lo hi))|.tup xs,lo,hi=>some (.tup (cutD xs lo hi))|.lst xs,lo,hi=>some (.lst (cutD xs lo hi))|.arr xs,lo,hi=>some (.lst (cutD xs lo hi))|_,_,_=>none
def BW(a:Ev)(lo hi:W4):Ev:=λenv=>bindR (a env) λd aR=>bindR (lo aR) λl eQ=>bindR (hi eQ) λu HY=>jj (ak6 d l u) HY
end
structure SX(X:Cx)(C:Cfg)(e:Expr)(ev:Ev):Prop where
 u:Ev.PX X C e ev
structure Qh(X:Cx)(C:Cfg)(e:Expr)(ev:Ev):Prop where
 u:Ev.PXB X C e ev
structure R9(X:Cx)(C:Cfg)(e:Expr)(ev:Ev):Prop where
 u:Ev.PXN X C e ev
structure R8(X:Cx)(C:Cfg)(e:Expr)(ev:iC):Prop where
 u:Ev.PXT X C e ev
structure SXW(X:Cx)(C:Cfg)(e:Expr)(ev:iC):Prop where
 u:Ev.PXW X C e ev
structure Qi(X:Cx)(C:Cfg)(e:List Expr)(ev:eZ):Prop where
 u:Ev.W3 X C e ev
structure yc(X:Cx)(C:Cfg)(e:List Expr)(ev:eZ):Prop where
 u:Ev.adm X C e ev
structure SXL(X:Cx)(C:Cfg)(e:List Expr)(ev:eZ):Prop where
 u:Ev.PXL X C e ev
structure Qg(X:Cx)(C:Cfg)(e:Stmt)(ev:cu):Prop where
 u:Ev.PXS X C e ev
structure fH(X:Cx)(C:Cfg)(e:List Stmt)(ev:cu):Prop where
 u:Ev.Hk X C e ev
structure adg(X:Cx)(C:Cfg)(e:List Expr)(ev:iC):Prop where
 u:Ev.WR X C e ev
structure SXP(X:Cx)(C:Cfg)(e:Option Expr)(ev:W4):Prop where
 u:Ev.PXP X C e ev
structure SXI(X:Cx)(C:Cfg)(tg e:Expr)(ev:eZ):Prop where
 u:Ev.PXI X C tg e ev
structure SXG(X:Cx)(C:Cfg)(lo:Nat)(e:Expr)(ev:GV):Prop where
 u:Ev.PXG X C lo e ev
structure adh(X:Cx)(C:Cfg)(lo:Nat)(e:List Expr)(ev:GVs):Prop where
 u:Ev.ahi X C lo e ev
section
variable{X:Cx}{C:Cfg}{pos p px:Pos}{x y z:Expr}{a b c:Ev}{t u:iC}{i:Nat}{n:Str}{e:Expr}{es:List Expr}{ea:eZ}{e1:Expr}{apos:Pos}{e2:Expr}
def aA(ha:SX X C e a)(hr:Qi X C es r)(hs:starEach (e::es) X.env=(false,eval e X.env)::starEach es X.env:=by rfl):Qi X C (e::es) (aa a r):=⟨Ev.Nr ha.u hr.u hs⟩
def aZ(i)(hN:X.N[i]?=some n:=by rfl)(hv:zR X.env.scope n:=by first|exact .inl rfl|exact .inr (.inl rfl)|exact .inr (.inr rfl))(hd:qT n:=by decide)(hcd:Bb n:=by decide):SX X C (.Name n pos) (aM i):=⟨ae4 i hN hv hd hcd⟩
def cV(i)(hr:Qi X C es r)(hN:X.N[i]?=some n:=by rfl)(hv:zR X.env.scope n:=by first|exact .inl rfl|exact .inr (.inl rfl)|exact .inr (.inr rfl))(hd:qT n:=by decide)(hcd:Bb n:=by decide)(hs:starEach (.Name n pos::es) X.env=(false,eval (.Name n pos) X.env)::starEach es X.env:=by rfl):Qi X C (.Name n pos::es) (aa (aM i) r):=aA (aZ i hN hv hd hcd) hr hs
def az  : Qi X C [] aj:=⟨Ev.Tn ⟩
def aP(h:SX X C e ev):Qh X C e ev:=⟨Ev.PX.b h.u⟩
def aJ{i:Int}:SX X C (.Constant (.int i) j pos) (tU (.int i)):=⟨Ev.ae9 ⟩
def ao{st:Stmt}{rest:List Stmt}{a b:cu}(h1:Qg X C st a)(h2:fH X C rest b):fH X C (st::rest) (aC a b):=⟨(Yy h1.u h2.u).imp λD σ H h=>by
 obtain⟨Pr,F,env,r,f⟩:=h;refine⟨Pr,F,env,r,?_⟩;unfold aC at f;cases e:a env with
 |nx e1=>rw[e] at f;exact λσ' H' F' r' s'=>⟨Pr,F',e1,r',f.mono s'⟩|rt o d e1=>rw[e] at f;cases o<;>exact f|bk e1=>rw[e] at f;exact f|ct e1=>rw[e] at f;exact f|stuck=>rw[e] at f;exact f⟩
def aF{st:Stmt}{a:cu}(h1:Qg X C st a):fH X C [st] a:=⟨abQ h1.u⟩
def aL{lo:Nat}(i)(hnd:qp X.N=true:=by rfl)(hlo:Nat.ble lo i=true:=by rfl)(hfx:C.fx i=none:=by rfl)(hi:X.N[i]?=some n:=by rfl)(hx:Loc X.env.scope n:=by first|exact .inl rfl|exact .inr rfl)(hf:X.fn n=true\/X.env.scope.names.lookup n=some .local:=by first|exact .inl rfl|exact .inr rfl):SXG X C lo (.Name n pos) (ak i):=⟨Yr (mR hnd) hi hx (Qj7 hlo) hfx hf⟩
def bH(z){x:Str}{j:Nat}(hz:x=strOf z:=by decide +kernel)(hl:z.length<=sizeLine:=by decide):SX X C (.Constant (.str x) j pos) (tU (.str z)):=⟨by
 subst hz;refine afn.imp λσ H Q h=>?_;obtain⟨Pr,F,env,env',d,r,e,q⟩:=h;cases e;exact q _ _ F r (bu.refl F) ⟨rfl,hl⟩⟩
def bD(i)(hN:X.N[i]?=some n:=by rfl)(hv:zR X.env.scope n:=by first|exact .inl rfl|exact .inr (.inl rfl)|exact .inr (.inr rfl))(hd:qT n:=by decide)(hcd:Bb n:=by decide):Qh X C (.Name n pos) (aU i):=⟨abN i hN hv hd hcd⟩
def bG{pos':Pos}(i)(he:SX X C e a)(hnd:qp X.N=true:=by rfl)(hfx:C.fx i=none:=by rfl)(hi:X.N[i]? = some n:=by rfl)(hx:Loc X.env.scope n:=by first|exact .inl rfl|exact .inr rfl)(hs:swapsWith e (some (.Name n pos')) pos.line X.env=pure false:=by rfl)(hf:X.fn n=true\/X.env.scope.names.lookup n=some .local:=by first|exact .inl rfl|exact .inr rfl):Qg X C (.Assign [.Name n pos'] e pos) (aQ a (ak i)):=⟨abF (mR hnd) hi hx hfx he.u hs hf⟩
def aX(h:SX X C e a):Qg X C (.Return (some e) pos) (bw a):=⟨(YD h.u).imp λD σ H hq=>by
 obtain⟨Pr,F,env,r,f⟩:=hq;obtain⟨d,aR,e1,f1⟩:=fL f;exact⟨Pr,F,env,aR,d,r,e1,λv H1 F1 r1 s1 p1=>f1 v σ H1 F1 r1 s1 p1⟩⟩
def aW(h:Qh X C e a)(hs:IK e X.env:=by rfl):yc X C [e] (aa a aj):=⟨(j7 h.u rT hs).imp λσ H Q hq=>by
 obtain⟨Pr,F,env,env',ds,rl,e,q⟩:=hq;obtain⟨d1,aR,e1,e2⟩:=bf e;cases e2;exact⟨Pr,F,env,env',d1,rl,e1,λv H1 F1 r1 s1 p1=>q _ H1 F1 r1 s1 ⟨v,[],rfl,p1,rfl⟩⟩⟩
def bN(O:Own X.prog X.w X.K X.mg X.base n k ps (pW X.K m g))(G:Good X C)(hr:mH k' X.A)(ha:Qi X C (e::es) ea)(hn:∀env ds env',ea env=.ok ds env'->ds.length=m)(hk:Nat.ble k k'=true:=by rfl)(hg:Gl X n:=by rfl)(hdb:qT n:=by decide)(he:starEach (e::es) X.env=(false,eval e X.env)::starEach es X.env:=by rfl)(hpl:(backTo pos (starEach es X.env)).any (·.1)=false:=by rfl):SX X C (.Call (.Name n p) (e::es) [] pos) (au g ea):=⟨by
 obtain⟨f,fd,h1,h2,h3,h4⟩:=O;rw[G.K] at h1;have h1':sH X.prog X.w X.K X.mg X.base JN k f fd ps (pW C.K m g):=by rw[G.K];exact h1
 exact ae5 h1' (hr.mono<|Qj7 hk) hg h2 h3 h4 ha.u hn hdb he hpl⟩
def bY(h:Qi X C es r):SX X C (.Tuple es k pos) (bK r):=⟨(afm h.u).imp λσ H Q hq=>by
 obtain⟨Pr,F,env,env',d,rl,e,q⟩:=hq;obtain⟨ds,aR,e1,e2⟩:=bf e;split at e2
 rename_i hz;cases e2;refine⟨Pr,F,env,env',ds,rl,e1,λvs H1 F1 r1 s1 p1=>⟨by rw[p1.length];exact hz,λp hp=>?_⟩⟩;obtain⟨r2,s2⟩:=r1.new hp;exact q _ _ _ r2 (s1.trans s2) ⟨hz,p,vs,rfl,pg.of bA,cN.mono s2 _ _ p1⟩
 cases e2⟩
def aG{lo:Nat}(h1:SXG X C lo e g)(h2:adh X C lo es gs)(hs:(assignEach (e::es) X.env).map (·.2)=assign e X.env::(assignEach es X.env).map (·.2):=by rfl):adh X C lo (e::es) (aH g gs):=⟨(YQ h1.u h2.u hs).imp λv σ H Q h=>by
 obtain⟨Pr,F,env,env',ds,r,p,e,q⟩:=h;cases ds with
 |nil=>cases e|cons d ds=>obtain⟨u,w,rfl,p1,p2⟩:=p;obtain⟨aR,e1,e2⟩:=Qx0.mp e;refine⟨u,w,rfl,Pr,F,env,aR,d,r,p1,e1,λσ1 H1 F1 r1 s1 t1=>?_⟩;exact⟨Pr,F1,aR,env',ds,r1,cN.mono s1 _ _ p2,e2,λσ2 H2 F2 r2 s2 t2=>q σ2 H2 F2 r2 (s1.trans s2)<|t2.trans t1⟩⟩
def cP(h:R9 X C e ev):SX X C e ev:=⟨Ev.PXN.px h.u⟩
def bF(i)(G:Good X C)(hb:Qh X C y b)(hN:X.N[i]?=some n:=by rfl)(hv:zR X.env.scope n:=by first|exact .inl rfl|exact .inr (.inl rfl)|exact .inr (.inr rfl))(hs:zU y:=by intro _ _;rfl)(hd:qT n:=by decide)(hcd:Bb n:=by decide):SX X C (.Subscript (.Name n px) y pos) (aq bQ i b):=⟨ae8 i G.K hN hv hb.u hs hd hcd⟩
def iD{v:Str}{pv:Pos}(i)(O:Own X.prog X.w X.K X.mg X.base n k ps (tY X.K m g))(G:Good X C)(hr:mH k' X.A)(ha:Qi X C es ea)(hn:∀env ds env',ea env = .ok ds env'->ds.length+1=m)(hk:Nat.ble k k'=true:=by rfl)(hN:X.N[i]? = some v:=by rfl)(hv:zR X.env.scope v:=by first|exact .inl rfl|exact .inr (.inl rfl)|exact .inr (.inr rfl))(hg:Gl X n:=by rfl)(hdb:qT n:=by decide)(he:starEach (.Name v pv::es) X.env=(false,eval (.Name v pv) X.env)::starEach es X.env:=by rfl)(hpl:(backTo pos (starEach es X.env)).any (·.1)=false:=by rfl)(hd:qT v:=by decide)(hcd:Bb v:=by decide):SX X C (.Call (.Name n p) (.Name v pv::es) [] pos) (dX g i ea):=⟨by
 obtain⟨f,fd,h1,h2,h3,h4⟩:=O;rw[G.K] at h1;have h1':sH X.prog X.w X.K X.mg X.base JN k f fd ps (tY C.K m g):=by rw[G.K];exact h1
 exact aik hN hv h1' (hr.mono<|Qj7 hk) hg h2 h3 h4 ha.u hn hdb he hpl hd hcd⟩
def gm(o:Bi X C op g)(ha:SX X C x a)(hb:Qh X C y b):SX X C (.BinOp x op y pos) (aN g a b):=⟨let ⟨_,h1,h2⟩:=o.ex;aii h1 h2 ha.u hb.u⟩
def p8(ha:SX X C e a)(hr:SXL X C es r)(hs:starEach (e::es) X.env=(false,eval e X.env)::starEach es X.env:=by rfl):SXL X C (e::es) (aa a r):=⟨⟨Ev.Nr ha.u hr.u.go hs⟩⟩
def eE(i)(o:Bi X C op g)(hb:Qh X C y b)(hN:X.N[i]?=some n:=by rfl)(hv:zR X.env.scope n:=by first|exact .inl rfl|exact .inr (.inl rfl)|exact .inr (.inr rfl))(hd:qT n:=by decide)(hcd:Bb n:=by decide):SX X C (.BinOp (.Name n px) op y pos) (aq g i b):=⟨let ⟨_,h1,h2⟩:=o.ex;ae6 i hN hv h1 h2 hb.u hd hcd⟩
def cM{c:Expr}{a b:List Stmt}{ea eb:cu}(hc:R8 X C c t)(ha:fH X C a ea)(hb:fH X C b eb):Qg X C (.If c a b pos) (dH t ea eb):=⟨(aio hc.u ha.u hb.u).imp λD σ H h=>by
 obtain⟨Pr,F,env,r,f⟩:=h;obtain⟨k,aR,e1,f1⟩:=fL f;refine⟨Pr,F,env,aR,k,r,e1,λH1 F1 r1 s1=>?_⟩;split at f1
 rename_i hk;rw[Qv4 hk];exact⟨Pr,F1,aR,r1,f1.mono s1⟩
 rename_i hk;rw[Qv5 hk];exact⟨Pr,F1,aR,r1,f1.mono s1⟩⟩
def cH(h:Qi X C es r):R9 X C (.List es pos) (cB r):=⟨Ev.Tj h.u⟩
def bM  : fH X C [] bU:=⟨Ev.Yj ⟩
def dJ(G:Good X C)(h:SX X C x a):SXI X C tg x (dO a):=⟨abL G.K h.u⟩
def lF{b:Bool}:SX X C (.Constant (.bool b) j pos) (tU (.bl b)):=⟨Ev.ail ⟩
def lE{elt tg iter:Expr}(N')(lo)(ok:qP X scope N')(G:Good X C)(hi:SXI X C tg iter it)(bg:∀X',nW X scope N' X'->SXG X' C lo tg g)(bc:∀X',nW X scope N' X'->adg X' C ifs cc)(be:∀X',nW X scope N' X'->SX X' C elt ee)(hs:∀x,foldedSetIterable iter X.env x=pure x:=by intro _;rfl):R9 X C (.ListComp elt [⟨tg,iter,ifs,0⟩] scope pos) (d9 lo N'.length it g cc ee):=⟨Ev.akG N' lo ok G hi.u (λX1 h1=>(bg X1 h1).u) (λX1 h1=>(bc X1 h1).u) (λX1 h1=>(be X1 h1).u) hs⟩
def d8(G:Good X C)(hm:X.mg "len"=none)(ha:yc X C [e] ea)(hg:Gl X "len":=by rfl)(he:IK e X.env:=by rfl):SX X C (.Call (.Name "len" p) [e] [] pos) (au cJ ea):=⟨ql (by rw[<-G.K];exact aaJ) agT hg hm PySem.boot_len ha.u (by decide) (by decide) he rfl⟩
def du(h:SX X C e a)(he:∀whole,isTrue e X.env whole=(do let v <-whole;standAt e.pos;holding [v] (truthy v)):=by intro _;rfl):R8 X C e (cR a):=⟨(afb h.u he).imp λσ H Q hq=>SJ hq⟩
def bJ{lo:Nat}:adh X C lo [] bZ:=⟨Ev.Yq ⟩
def cX{lo:Nat}{k:Nat}(G:Good X C)(h:adh X C lo es gs)(hn:(assignEach es X.env).length=m:=by rfl)(hst:(assignEach es X.env).findIdx? (·.1)=none:=by rfl):SXG X C lo (.Tuple es k pos) (bV m gs):=⟨abM G.calm G.K h.u hn hst⟩
def dg:adg X C [] cA:=⟨Ev.Yp ⟩
def fV{tg iter:Expr}(G:Good X C)(hi:SXI X C tg iter it)(hg:SXG X C 0 tg g)(hb:fH X C body bs)(hp:PassesOwn (model X.prog X.w) X.A X.env X.xe:=by exact Q02)(hs:∀x,foldedSetIterable iter X.env x=pure x:=by intro _;rfl):Qg X C (.For tg iter body [] pos) (dF it g bs):=⟨abH hp G.calm hi.u hg.u hb.u hs⟩
def ie(o:Cm X C op g)(ha:SX X C x a)(hb:Qh X C y b)(hm:behindInMarks op y=false:=by rfl):R8 X C (.Compare x [op] [y] pos) (cR (aN g a b)):=⟨let ⟨_,h1,h2⟩:=o.ex;abE h1 h2 ha.u hb.u hm⟩
def fU{pos':Pos}(i)(he:R9 X C e a)(hnd:qp X.N=true:=by rfl)(hfx:C.fx i=none:=by rfl)(hi:X.N[i]? = some n:=by rfl)(hx:Loc X.env.scope n:=by first|exact .inl rfl|exact .inr rfl)(hs:swapsWith e (some (.Name n pos')) pos.line X.env=pure false:=by rfl)(hf:X.fn n=true\/X.env.scope.names.lookup n=some .local:=by first|exact .inl rfl|exact .inr rfl):Qg X C (.Assign [.Name n pos'] e pos) (cT i a):=⟨abG (mR hnd) hi hx hfx he.u hs hf⟩
def dY(G:Good X C)(hm:X.mg "tuple"=none)(ha:yc X C [e] ea)(hg:Gl X "tuple":=by rfl)(he:IK e X.env:=by rfl):SX X C (.Call (.Name "tuple" p) [e] [] pos) (au cO ea):=⟨vZ (by rw[<-G.K];exact Ie) aaH hg hm (by decide +kernel) ha.u (by decide) (by decide) he rfl⟩
def jG(G:Good X C)(ha:SX X C x a)(hb:Qh X C y b)(hs:zU y:=by intro _ _;rfl):SX X C (.Subscript x y pos) (aN bQ a b):=⟨aij G.K ha.u hb.u hs⟩
def fj(i)(o:Cm X C op g)(hb:Qh X C y b)(hN:X.N[i]?=some n:=by rfl)(hv:zR X.env.scope n:=by first|exact .inl rfl|exact .inr (.inl rfl)|exact .inr (.inr rfl))(hm:behindInMarks op y=false:=by rfl)(hd:qT n:=by decide)(hcd:Bb n:=by decide):R8 X C (.Compare (.Name n px) [op] [y] pos) (cR (aq g i b)):=⟨by
 obtain⟨r,h1,h2⟩:=o.ex;exact(Tq h1 (mj hN hv hd hcd) hb.u hm).imp λσ H Q h=>wD h2 σ H _<|SJ h⟩
def dG(he:SX X C e a)(hg:SXG X C 0 tg g)(hs:swapsWithSole [tg] e pos.line X.env=pure false:=by rfl)(hw:swappedStores [tg] e X.env=pure none:=by rfl)(h1:(assignEach [tg] X.env).map (·.2)=[assign tg X.env]:=by rfl):Qg X C (.Assign [tg] e pos) (aQ a g):=⟨(afg he.u hg.u hs hw h1).imp λD σ H h=>agZ h⟩
def mQ(h:SX X C e a):SXP X C (some e) (Bo a):=⟨(abU h.u).imp λσ H Q hq=>by
 obtain⟨Pr,F,env,env',o,r,e,q⟩:=hq;obtain⟨d,aR,e1,e2⟩:=bf e;refine⟨Pr,F,env,aR,d,r,e1,λv H1 F1 r1 s1 p1=>?_⟩;cases d with
 |int i=>cases e2;exact⟨i,p1,q H1 F1 r1 s1⟩|_=>cases e2⟩
def ji{a:iC}(h:R8 X C x a):R8 X C (.UnaryOp .Not x pos) (gb a):=⟨(afc h.u).imp λσ H Q hq=>by
 obtain⟨Pr,F,env,env',b,rl,e,q⟩:=hq;obtain⟨c,aR,e1,e2⟩:=bf e;cases e2;exact⟨Pr,F,env,env',c,rl,e1,λH1 F1 r1 s1=>q H1 F1 r1 s1⟩⟩
def jF{a:iC}(h:SXW X C e a):R8 X C e a:=⟨Ev.PXW.pt h.u⟩
def pX{tg:Expr}(hm:X.mg "range" = none)(ha:Qi X C [e] ea)(hl:∀env ds env',ea env = .ok ds env'->ds.length=1)(hg:Gl X "range":=by rfl)(hs:starEach [e] X.env=[(false,eval e X.env)]:=by rfl):SXI X C tg (.Call (.Name "range" p) [e] [] pos) (gj ea):=⟨Rh hg hm ha.u hl hs⟩
def tX(i)(o:Cm X C op g)(hb:Qh X C y b)(hN:X.N[i]?=some n:=by rfl)(hv:zR X.env.scope n:=by first|exact .inl rfl|exact .inr (.inl rfl)|exact .inr (.inr rfl))(hm:behindInMarks op y=false:=by rfl)(hd:qT n:=by decide)(hcd:Bb n:=by decide):SX X C (.Compare (.Name n px) [op] [y] pos) (aq g i b):=⟨by
 obtain⟨r,h1,h2⟩:=o.ex;exact(Tu h1 (mj hN hv hd hcd) hb.u hm).imp<|wD h2⟩
def Kl:SX X C (.Constant .none j pos) (tU .non):=⟨Ev.ae7 ⟩
def xO(ha:SX X C e a)(hr:yc X C es r)(hs:starEach (e::es) X.env=(false,eval e X.env)::starEach es X.env:=by rfl):yc X C (e::es) (aa a r):=⟨(j7 ha.u hr.u hs).imp λσ H Q h=>by
  obtain⟨Pr,F,env,env',ds,rl,e,q⟩:=h;obtain⟨d1,aR,e1,e2⟩:=bf e;obtain⟨ds2,eQ,e3,e4⟩:=bf e2;cases e4;refine⟨Pr,F,env,aR,d1,rl,e1,λv H1 F1 r1 s1 p1=>?_⟩;refine⟨Pr,F1,aR,env',ds2,r1,e3,λvs H2 F2 r2 s2 p2=>?_⟩;exact q _ H2 F2 r2 (s1.trans s2) ⟨v,vs,rfl,.inl<|Rep.mono s2 d1 v p1,p2⟩⟩
def Dk(h:SX X C x a):SX X C (.BoolOp op [x] pos) a:=⟨Rm h.u⟩
def jX{apos cpos:Pos}(i)(G:Good X C)(he:SX X C e a)(hN:X.N[i]? = some n:=by rfl)(hv:zR X.env.scope n:=by first|exact .inl rfl|exact .inr (.inl rfl)|exact .inr (.inr rfl))(hs:swapsWith (.Call (.Attribute (.Name n px) "append" apos) [e] [] cpos) none pos.line X.env=pure false:=by rfl) (hfew:((backTo cpos (starEach [e] X.env)).all (λx=>!x.1)&&(backToKw cpos (keywordEach [] X.env)).all (λx=>x.1.isSome)
   && decide ([e].length+([]:List Keyword).length+(if ([]:List Keyword).isEmpty then 0 else 1)<30))=true:=by rfl) (hbase:attributeBase (.Name n px) "append" X.env (eval (.Name n px) X.env)=eval (.Name n px) X.env:=by rfl) (hline:(apos.endLine == cpos.line)=true:=by rfl) (hst:IK e X.env:=by rfl) (hplain:(backTo cpos (starEach [] X.env)).any (·.1)=false:=by rfl) (hd:qT n:=by decide) (hcd:Bb n:=by decide):Qg X C (.Expr (.Call (.Attribute (.Name n px) "append" apos) [e] [] cpos) pos) (dZ i a):=⟨abI hN hv he.u G.K hs hfew hbase hline hst hplain hd hcd⟩
def p7  : SXP X C none pU:=⟨Ev.Yl ⟩
def abP{rest:List Expr}(ha:SX X C x a)(hb:SX X C (.BoolOp .And (y::rest) pos) b):SX X C (.BoolOp .And (x::y::rest) pos) (Pg a b):=⟨(afs ha.u hb.u).imp λσ H Q hq=>by
  obtain⟨Pr,F,env,env',k,rl,e,q⟩:=hq;obtain⟨c,aR,e1,e2⟩:=bf e;refine⟨Pr,F,env,aR,c,rl,e1,λv H1 F1 r1 s1 p1=>?_⟩;cases c with
  |bl z=>
   refine⟨z,p1,?_⟩;cases z with
   |true=>exact ai0 ⟨Pr,F1,aR,env',k,r1,e2,λv2 H2 F2 r2 s2 p2=>q v2 H2 F2 r2 (s1.trans s2) p2⟩|false=>cases e2;exact ai1<|q _ H1 F1 r1 s1 rfl
  |_=>cases e2⟩
def nq{rest:List Expr}{a b:iC}(ha:R8 X C x a)(hb:SXW X C (.BoolOp .Or (y::rest) pos) b):SXW X C (.BoolOp .Or (x::y::rest) pos) (j8 a b):=⟨(pw_or ha.u hb.u).imp λσ H Q hq=>by
  obtain⟨Pr,F,env,env',k,rl,e,q⟩:=hq;obtain⟨c,aR,e1,e2⟩:=bf e;refine⟨Pr,F,env,aR,c,rl,e1,λH1 F1 r1 s1=>?_⟩;split at e2
  rename_i hc;rw[Qv4 hc];cases e2;exact q H1 F1 r1 s1
  rename_i hc;rw[Qv5 hc];exact⟨Pr,F1,aR,env',k,r1,e2,λH2 F2 r2 s2=>q H2 F2 r2<|s1.trans s2⟩⟩
def aev(G:Good X C)(hm:X.mg "all"=none)(ha:yc X C [e] ea)(hg:Gl X "all":=by rfl)(he:IK e X.env:=by rfl):SX X C (.Call (.Name "all" p) [e] [] pos) (au Wj ea):=⟨ql (by rw[<-G.K];exact WM G.calm) agU hg hm (by decide +kernel) ha.u (by decide) (by decide) he rfl⟩
def qj{a:iC}(h:R8 X C x a):SXW X C (.BoolOp .Or [x] pos) a:=⟨pw_or1 h.u⟩
def rm{p q pos:Pos}(hg:Gl X "isinstance")(hm:X.mg "isinstance" = none)(hgT:Gl X xT)(hmT:X.mg xT=none)(hvT:bootBuiltins xT=some (.type T))(hk:∀d,PySem.W.kitOne X.K (.type (U6 d)) (.type T)=some (sZ d T))(hK:X.K=C.K)(ha:SX X C e a)(hn:xT ≠ "__name__":=by decide)(hd:qT xT:=by decide)(he:starEach [e,.Name xT q] X.env=(false,eval e X.env)::starEach [.Name xT q] X.env:=by rfl):SX X C (.Call (.Name "isinstance" p) [e,.Name xT q] [] pos) (kh (ur T) a):=⟨by
 refine(Fp (aaK hk) hg hm boot_isinstance (j7 ha.u (j7 (ab4 (v:=.ty T) hgT hmT hvT rfl hn hd) rT) he) (by decide) (by decide) he rfl).imp λσ H Q h=>?_;obtain⟨Pr,F,env,env',d,rl,e1,qq⟩:=h;obtain⟨d0,aR,e2,e3⟩:=bf e1;obtain⟨e4,rfl⟩:=d7 e3;obtain⟨nc,rfl⟩:=acJ e4;refine⟨Pr,F,env,env',d0,rl,e2,λv H1 F1 r1 s1 p1=>⟨d0,v,rfl,nc,?_,qq _ H1 F1 r1 s1 rfl⟩⟩;rw[hK];exact Rep.mono r1.fr d0 v p1⟩
def Ar{c:Expr}(h:R8 X C c t):adg X C [c] t:=⟨abW h.u⟩
def FJ(O:Own X.prog X.w X.K X.mg X.base n k ps (spN X.K m g))(G:Good X C)(hr:mH k' X.A)(ha:Qi X C (e::es) ea)(hn:∀env ds env',ea env=.ok ds env'->ds.length=m)(hk:Nat.ble k k'=true:=by rfl)(hg:Gl X n:=by rfl)(hdb:qT n:=by decide)(he:starEach (e::es) X.env=(false,eval e X.env)::starEach es X.env:=by rfl)(hpl:(backTo pos (starEach es X.env)).any (·.1)=false:=by rfl):R9 X C (.Call (.Name n p) (e::es) [] pos) (au g ea):=⟨by
 obtain⟨f,fd,h1,h2,h3,h4⟩:=O;rw[G.K] at h1;have h1':sH X.prog X.w X.K X.mg X.base JN k f fd ps (spN C.K m g):=by rw[G.K];exact h1
 exact abJ h1' (hr.mono<|Qj7 hk) hg h2 h3 h4 ha.u hn hdb he hpl⟩
def kI{rest:List Expr}{a b:iC}(ha:R8 X C x a)(hb:SXW X C (.BoolOp .And (y::rest) pos) b):SXW X C (.BoolOp .And (x::y::rest) pos) (di a b):=⟨(pw_and ha.u hb.u).imp λσ H Q hq=>by
  obtain⟨Pr,F,env,env',k,rl,e,q⟩:=hq;obtain⟨c,aR,e1,e2⟩:=bf e;refine⟨Pr,F,env,aR,c,rl,e1,λH1 F1 r1 s1=>?_⟩;split at e2
  rename_i hc;rw[Qv4 hc];exact⟨Pr,F1,aR,env',k,r1,e2,λH2 F2 r2 s2=>q H2 F2 r2<|s1.trans s2⟩
  rename_i hc;rw[Qv5 hc];cases e2;exact q H1 F1 r1 s1⟩
def Fi{x:Str}{u:Value}(d)(hg:Gl X x)(hm:X.mg x=some u)(rv:RelV v u)(hr:∀F,Rep C.K F d v)(hd:qT x:=by decide):SX X C (.Name x pos) (tU d):=⟨(ab0 hg hm rv hd).imp λσ H Q h=>by
  obtain⟨Pr,F,env,env',d,r,e,q⟩:=h;cases e;exact q _ _ F r (bu.refl F)<|hr F⟩
def De{apos cpos:Pos}(G:Good X C)(ho:SX X C o a)(he:Qh X C e b)(hbase:attributeBase o "join" X.env (eval o X.env)=eval o X.env:=by rfl)(hs:IK e X.env:=by rfl) (hfew:((backTo cpos (starEach [e] X.env)).all (λx=>!x.1)&&(backToKw cpos (keywordEach [] X.env)).all (λx=>x.1.isSome)
   && decide ([e].length+([]:List Keyword).length+(if ([]:List Keyword).isEmpty then 0 else 1)<30))=true:=by rfl) (hline:(apos.endLine == cpos.line)=true:=by rfl) (hplain:(backTo cpos (starEach [] X.env)).any (·.1)=false:=by rfl):SX X C (.Call (.Attribute o "join" apos) [e] [] cpos) (aN pB a b):=⟨abO G.K ho.u he.u hbase hs hfew hline hplain⟩
def adB{lo hi:Option Expr}(G:Good X C)(ha:SX X C x a)(hl:SXP X C lo el)(hh:SXP X C hi eh):SX X C (.Subscript x (.Slice lo hi none p2) pos) (Gu a el eh):=⟨aih G.K ha.u hl.u hh.u⟩
def mO{a:iC}(h:R8 X C x a):SXW X C (.BoolOp .And [x] pos) a:=⟨pw_and1 h.u⟩
def DW(ha:SX X C x a):SX X C (.UnaryOp .USub x pos) (kh CZ a):=⟨aif Xc aey ha.u⟩
def Xb(o:Cm X C op g)(ha:SX X C x a)(hb:Qh X C y b)(hm:behindInMarks op y=false:=by rfl):SX X C (.Compare x [op] [y] pos) (aN g a b):=⟨let ⟨_,h1,h2⟩:=o.ex;afa h1 h2 ha.u hb.u hm⟩
def Yo  : SXL X C [] aj:=⟨Ev.abK ⟩
def aci{a:eZ}(h:SXL X C es a):R9 X C (.List es pos) (cB a):=⟨Ev.Tj h.u.go⟩
def yh(i)(G:Good X C)(hb:Qh X C y b)(hN:X.N[i]?=some n:=by rfl)(hv:zR X.env.scope n:=by first|exact .inl rfl|exact .inr (.inl rfl)|exact .inr (.inr rfl))(hs:WT y:=by intro _ _;rfl)(hd:qT n:=by decide)(hcd:Bb n:=by decide):SX X C (.Subscript (.Name n px) y pos) (aq jL i b):=⟨Yt i G.u1 hN hv hb.u hs hd hcd⟩
def zZ(ha:SX X C x a):SX X C (.Subscript x (.Slice none none (some (.UnaryOp .USub (.Constant (.int 1) k p4) p3)) p2) pos) (pD a):=⟨by
 refine(afo ha.u<|adP Xc<|YT).imp λσ H Q hq=>?_;obtain⟨Pr,F,env,env',d,r,e,q⟩:=hq;obtain⟨z,aR,e1,e2⟩:=bf e;obtain⟨e3,rfl⟩:=d7 e2;cases z with
 |str z=>cases e3;refine⟨Pr,F,env,env',.str z,r,e1,λv H1 F1 r1 s1 p1=>?_⟩;obtain⟨rfl,hz⟩:=p1;refine⟨1,rfl,strOf z,rfl,by rw[gF];exact hz,rfl,q _ H1 F1 r1 s1 ⟨by simp[strOf],by rw[Qky];exact hz⟩⟩|_=>cases e3⟩
def aet(G:Good X C)(hm:X.mg "max"=none)(ha:yc X C [e,e2] ea)(hg:Gl X "max":=by rfl)(he:starEach [e,e2] X.env=(false,eval e X.env)::starEach [e2] X.env:=by rfl)(hpl:(backTo pos (starEach [e2] X.env)).any (·.1)=false:=by rfl):SX X C (.Call (.Name "max" p) [e,e2] [] pos) (au Wi ea):=⟨ql (Wy G.calm) agS hg hm (by decide +kernel) ha.u (by decide) (by decide) he hpl⟩
def Vu  : R9 X C (.Dict [] [] pos) La:=⟨Ev.Yn ⟩
def aes(G:Good X C)(hm:X.mg "min"=none)(ha:yc X C [e,e2] ea)(hg:Gl X "min":=by rfl)(he:starEach [e,e2] X.env=(false,eval e X.env)::starEach [e2] X.env:=by rfl)(hpl:(backTo pos (starEach [e2] X.env)).any (·.1)=false:=by rfl):SX X C (.Call (.Name "min" p) [e,e2] [] pos) (au Wh ea):=⟨ql (Wx G.calm) agR hg hm (by decide +kernel) ha.u (by decide) (by decide) he hpl⟩
def Il(G:Good X C)(hm:X.mg "sorted"=none)(ha:yc X C [e] ea)(hg:Gl X "sorted":=by rfl)(he:IK e X.env:=by rfl):SX X C (.Call (.Name "sorted" p) [e] [] pos) (au lr ea):=⟨Vv G.K G.calm hg hm ha.u he rfl⟩
def Ri{rest:List Expr}(ha:SX X C x a)(hb:SX X C (.BoolOp .Or (y::rest) pos) b):SX X C (.BoolOp .Or (x::y::rest) pos) (K4 a b):=⟨(aiq ha.u hb.u).imp λσ H Q hq=>by
  obtain⟨Pr,F,env,env',k,rl,e,q⟩:=hq;obtain⟨c,aR,e1,e2⟩:=bf e;refine⟨Pr,F,env,aR,c,rl,e1,λv H1 F1 r1 s1 p1=>?_⟩;cases c with
  |bl z=>
   refine⟨z,p1,?_⟩;cases z with
   |true=>cases e2;exact ai0<|q _ H1 F1 r1 s1 rfl|false=>exact ai1 ⟨Pr,F1,aR,env',k,r1,e2,λv2 H2 F2 r2 s2 p2=>q v2 H2 F2 r2 (s1.trans s2) p2⟩
  |_=>cases e2⟩
def Xa{lo hi:Option Expr}(ha:SX X C x a)(hl:SXP X C lo el)(hh:SXP X C hi eh):SX X C (.Subscript x (.Slice lo hi none p2) pos) (Gs a el eh):=⟨by
 refine(Fo Xp ha.u hl.u hh.u).imp λσ H Q hq=>?_;obtain⟨Pr,F,env,env',d,r,e,q⟩:=hq;obtain⟨z,aR,e1,e2⟩:=bf e;obtain⟨l,eQ,e3,e4⟩:=bf e2;obtain⟨u,HY,e5,e6⟩:=bf e4;obtain⟨e7,rfl⟩:=d7 e6;cases z with
 |str z=>cases e7;refine⟨Pr,F,env,aR,.str z,r,e1,λv H1 F1 r1 s1 p1=>⟨Pr,F1,aR,eQ,l,r1,e3,λH2 F2 r2 s2=>⟨Pr,F2,eQ,env',u,r2,e5,λH3 F3 r3 s3=>?_⟩⟩⟩;obtain⟨rfl,hz⟩:=p1;exact⟨z,rfl,hz,q _ H3 F3 r3 ((s1.trans s2).trans s3) ⟨rfl,Qq1 (Py _ _ _) hz⟩⟩|_=>cases e7⟩
def acB{tg e2 e3:Expr}(hm:X.mg "range" = none)(ha:Qi X C [e,e2,e3] ea)(hl:∀env ds env',ea env = .ok ds env'->ds.length=3)(hg:Gl X "range":=by rfl)(hs:starEach [e,e2,e3] X.env=[(false,eval e X.env),(false,eval e2 X.env),(false,eval e3 X.env)]:=by rfl)(hs2:starEach [e2,e3] X.env=[(false,eval e2 X.env),(false,eval e3 X.env)]:=by rfl):SXI X C tg (.Call (.Name "range" p) [e,e2,e3] [] pos) (gj ea):=⟨Rf hg hm ha.u hl hs hs2⟩
def abe(G:Good X C)(hm:X.mg "list"=none)(ha:yc X C [e] ea)(hg:Gl X "list":=by rfl)(he:IK e X.env:=by rfl):SX X C (.Call (.Name "list" p) [e] [] pos) (au Jr ea):=⟨vZ (by rw[<-G.K];exact RX G.calm) acZ hg hm (by decide +kernel) ha.u (by decide) (by decide) he rfl⟩
def S9{elt tg iter:Expr}(N'){spos py:Pos}(lo)(i)(ok:qP X scope N')(G:Good X C)(hi:SXI X C tg iter it)(bg:∀X',nW X scope N' X'->SXG X' C lo tg g)(bc:∀X',nW X scope N' X'->adg X' C ifs cc)(be:∀X',nW X scope N' X'->SX X' C elt ee)(hnd:qp X.N=true:=by rfl)(hfx:C.fx i=none:=by rfl)(hy:X.N[i]? = some n:=by rfl)(hx:Loc X.env.scope n:=by first|exact .inl rfl|exact .inr rfl)(hsw:swapsWith (.ListComp elt [⟨tg,iter,ifs,0⟩] scope pos) (some (.Name n py)) spos.line X.env=pure true:=by rfl)(hf:X.fn n=true\/X.env.scope.names.lookup n=some .local:=by first|exact .inl rfl|exact .inr rfl)(hs:∀x,foldedSetIterable iter X.env x=pure x:=by intro _;rfl):Qg X C (.Assign [.Name n py] (.ListComp elt [⟨tg,iter,ifs,0⟩] scope pos) spos) (cT i (d9 lo N'.length it g cc ee)):=⟨Ev.aku N' lo i ok G hi.u (λX1 h1=>(bg X1 h1).u) (λX1 h1=>(bc X1 h1).u) (λX1 h1=>(be X1 h1).u) hnd hfx hy hx hsw hf hs⟩
def Uc{tg e2:Expr}(hm:X.mg "range" = none)(ha:Qi X C [e,e2] ea)(hl:∀env ds env',ea env = .ok ds env'->ds.length=2)(hg:Gl X "range":=by rfl)(hs:starEach [e,e2] X.env=[(false,eval e X.env),(false,eval e2 X.env)]:=by rfl)(hs2:starEach [e2] X.env=[(false,eval e2 X.env)]:=by rfl):SXI X C tg (.Call (.Name "range" p) [e,e2] [] pos) (gj ea):=⟨Rg hg hm ha.u hl hs hs2⟩
def U3(G:Good X C)(hm:X.mg "divmod"=none)(ha:yc X C [e,e2] ea)(hg:Gl X "divmod":=by rfl)(he:starEach [e,e2] X.env=(false,eval e X.env)::starEach [e2] X.env:=by rfl)(hpl:(backTo pos (starEach [e2] X.env)).any (·.1)=false:=by rfl):SX X C (.Call (.Name "divmod" p) [e,e2] [] pos) (au zr ea):=⟨ql PK Wv hg hm (by decide +kernel) ha.u (by decide) (by decide) he hpl⟩
def By(h:R9 X C e a):Qg X C (.Return (some e) pos) (yt a):=⟨(YD h.u).imp λD σ H hq=>by
 obtain⟨Pr,F,env,r,f⟩:=hq;obtain⟨d,aR,e1,f1⟩:=fL f;exact⟨Pr,F,env,aR,d,r,e1,λv H1 F1 r1 s1 p1=>f1 v σ H1 F1 r1 s1 p1⟩⟩
def ajc{lo:Nat}(i)(h:SX X C ix ev)(hN:X.N[i]?=some n:=by rfl)(hv:zR X.env.scope n:=by first|exact .inl rfl|exact .inr (.inl rfl)|exact .inr (.inr rfl)) (ha:∀v,assign (.Subscript (.Name n px) ix pos) X.env v=(do
   let ov <-holding [v] (eval (.Name n px) X.env)
   let iv <-holding [v,ov] (eval ix X.env)
   standAt pos
   holding [v,ov,iv] (setItem ov iv v)
   release [v,ov,iv] []):=by intro _;rfl) (hd:qT n:=by decide) (hcd:Bb n:=by decide):SXG X C lo (.Subscript (.Name n px) ix pos) (acG i ev):=⟨ae3 hN hv h.u ha hd hcd⟩
def JP(G:Good X C)(hm:X.mg "dict"=none)(ha:yc X C [e] ea)(hg:Gl X "dict":=by rfl)(he:IK e X.env:=by rfl):SX X C (.Call (.Name "dict" p) [e] [] pos) (au tu ea):=⟨vZ (by rw[<-G.K];exact WL G.calm) ac2 hg hm (by decide +kernel) ha.u (by decide) (by decide) he rfl⟩
def Tc{pos':Pos}(i)(G:Good X C)(hk:SX X C k ek)(he:SX X C e a)(hN:X.N[i]? = some n:=by rfl)(hv:zR X.env.scope n:=by first|exact .inl rfl|exact .inr (.inl rfl)|exact .inr (.inr rfl))(hs:swapsWith e (some (.Subscript (.Name n px) k pos')) pos.line X.env=pure false:=by rfl)(hd:qT n:=by decide)(hcd:Bb n:=by decide):Qg X C (.Assign [.Subscript (.Name n px) k pos'] e pos) (qd i ek a):=⟨Yk G.u1 hN hv hk.u he.u hs hd hcd⟩
def af6(ha:SX X C x a)(hb:Qh X C y b):R9 X C (.BinOp x .Add y pos) (aN acK a b):=⟨(YS Zd ha.u hb.u).imp λσ H Q hq=>by
 obtain⟨Pr,F,env,env',d,rl,e,q⟩:=hq;obtain⟨u,aR,e1,e2⟩:=bf e;obtain⟨v,eQ,e3,e4⟩:=bf e2;obtain⟨e5,rfl⟩:=d7 e4;unfold acK at e5;split at e5
 rename_i l1 l2;split at e5
 rename_i hz;cases e5;refine⟨Pr,F,env,aR,_,rl,e1,λvx H1 F1 r1 s1 p1=>⟨Pr,F1,aR,env',_,r1,e3,λvy H2 F2 r2 s2 p2=>?_⟩⟩;obtain⟨z1,a1,vs,rfl,h1,h2⟩:=p1;obtain⟨z2,a2,ws,rfl,h3,h4⟩:=p2.lst r2.fr;refine⟨a1,a2,vs,ws,rfl,rfl,r2.fr _ _<|s2 _ _ h1,h3,by rw[h2.length,h4.length];exact hz,λp hp=>?_⟩;exact q _ _ F2 (r2.fresh hp) (s1.trans s2)<|Sd.of r2 hp ⟨by rw[Qqv];exact hz,vs++ws,bA,(cN.mono s2 _ _ h2).append h4⟩
 cases e5
 cases e5⟩
def aeu(O:Own X.prog X.w X.K X.mg X.base n k ps (tY X.K m g))(G:Good X C)(hr:mH k' X.A)(hc:R9 X C e1 c)(ha:Qi X C es ea)(hn:∀env ds env',ea env=.ok ds env'->ds.length+1=m)(hk:Nat.ble k k'=true:=by rfl)(hg:Gl X n:=by rfl)(hdb:qT n:=by decide)(he:starEach (e1::es) X.env=(false,eval e1 X.env)::starEach es X.env:=by rfl)(hpl:(backTo pos (starEach es X.env)).any (·.1)=false:=by rfl):SX X C (.Call (.Name n p) (e1::es) [] pos) (Ur g c ea):=⟨by
 obtain⟨f,fd,h1,h2,h3,h4⟩:=O;rw[G.K] at h1;have h1':sH X.prog X.w X.K X.mg X.base JN k f fd ps (tY C.K m g):=by rw[G.K];exact h1
 refine(Dl h1' (hr.mono<|Qj7 hk) hg h2 h3 h4 .nil Tz (j7 hc.u ha.u he) hdb he hpl).imp λσ H Q hq=>?_;obtain⟨Pr,F,env,env',d,r,e,q⟩:=hq;obtain⟨x,aR,u1,u2⟩:=bf e;obtain⟨ds,eQ,u3,u4⟩:=bf u2;split at u4
 rename_i d1 z' hf;cases u4;refine⟨Pr,F,env,aR,x,r,u1,λa H1 F1 r1 s1 n1=>?_⟩;obtain⟨o,ho⟩:=n1.own.some;refine⟨upd Pr a o,F1,aR,env',ds,r1.hold n1 ho,u3,λvs H2 F2 r2 s2 p2=>?_⟩;have ho2:=r2.pr a o bA;have hF2:F2 a=none:=by
  cases z:F2 a with
  |none=>rfl|some w=>have:=r2.dj a w z;rw[bA] at this;cases this
 show tY C.K m g (_::vs++[]) H2 Q E0;rw[Qw8];exact⟨F2,a,vs,x,ds,d,z',rfl,hn _ _ _ u3,r2.fr,hF2,n1.own.mono s2 (by rw[ho2,ho]),p2,hf,λv H3 F3 t1 t2 t3 t4 t5 p3=>q v H3 F3 (r2.ag0 n1.nP t1 t2 t3 t4) ((s1.trans s2).trans t3) p3⟩
 cases u4⟩
def abi(G:Good X C)(ha:SX X C x a)(hb:SX X C y b)(hc:SX X C z c)(m:M2 X x "get" apos y z pos:=by exact⟨by rfl,by rfl,by rfl,by rfl⟩):SX X C (.Call (.Attribute x "get" apos) [y,z] [] pos) (K7 a b c):=⟨by
 refine(Y5 G.u1 ha.u hb.u hc.u m).imp λσ H Q hq=>?_;obtain⟨Pr,F,env,env',d,rl,e,q⟩:=hq;obtain⟨u,aR,e1,e2⟩:=bf e;obtain⟨k,eQ,e3,e4⟩:=bf e2;obtain⟨t,HY,e5,e6⟩:=bf e4;split at e6
 rename_i kvs;obtain⟨e7,rfl⟩:=d7 e6;obtain⟨kk,hk,rfl⟩:=Qwz.mp<|show(pP k).map (λq=>(mZ kvs q).getD t)=some d from e7;refine⟨Pr,F,env,aR,.dct kvs,rl,e1,λvu H1 F1 r1 s1 p1=>?_⟩;obtain⟨z1,a1,ks,rfl,h1,h2⟩:=jt.dct r1.fr<|.inl p1;refine⟨a1,rfl,.inl ⟨ks,h1⟩,Pr,F1,aR,eQ,k,r1,e3,λvk H2 F2 r2 s2 p2=>⟨Pr,F2,eQ,env',t,r2,e5,λvt H3 F3 r3 s3 p3=>?_⟩⟩;obtain⟨z2,a2,ks2,ea,h3,h4⟩:=jt.dct r3.fr<|.inl<|Rep.mono (s2.trans s3) _ _ p1;cases ea;cases KC hk (.inl (Rep.mono s3 _ _ p2):jt C.K F3 H3 k vk);refine⟨uZ ks2 kk,.inl ⟨ks2,kk,h3,rfl,rfl⟩,?_⟩;rcases h4.val kk with ⟨g1,g2⟩|⟨d',v',g1,g2,g3⟩
 rw[g2];rw[g1] at q;exact q _ H3 F3 r3 ((s1.trans s2).trans s3) p3
 rw[g2];rw[g1] at q;exact q _ H3 F3 r3 ((s1.trans s2).trans s3) g3
 cases e6⟩
def Qp{lo hi:Option Expr}(G:Good X C)(ha:SX X C x a)(hl:SXP X C lo el)(hh:SXP X C hi eh):SX X C (.Subscript x (.Slice lo hi none p2) pos) (BW a el eh):=⟨by
 have h:=Fo (pos:=pos) (p2:=p2) (UT.or (UT.or S7 QX)<|UT.or (UT.or QX Xo) Xp) ha.u hl.u hh.u;rw[G.K] at h;refine h.imp λσ H Q hq=>?_;obtain⟨Pr,F,env,env',d,r,e,q⟩:=hq;obtain⟨x,aR,e1,e2⟩:=bf e;obtain⟨l,eQ,e3,e4⟩:=bf e2;obtain⟨u,HY,e5,e6⟩:=bf e4;obtain⟨e7,rfl⟩:=d7 e6;refine⟨Pr,F,env,aR,x,r,e1,λv H1 F1 r1 s1 p1=>⟨Pr,F1,aR,eQ,l,r1,e3,λH2 F2 r2 s2=>⟨Pr,F2,eQ,env',u,r2,e5,λH3 F3 r3 s3=>?_⟩⟩⟩;have p3:=Rep.mono (s2.trans s3) _ _ p1;have q3:=λv H' F' r' s' p'=>q v H' F' r' (((s1.trans s2).trans s3).trans s') p';cases x with
 |str z=>cases e7;obtain⟨rfl,hz⟩:=p1;exact .inr<|.inr ⟨z,rfl,hz,q3 _ H3 F3 r3 (bu.refl _) ⟨rfl,Qq1 (Py _ _ _) hz⟩⟩|tup xs=>exact .inr<|.inl<|aeO r3 p3 (by rw[aah];exact e7) q3|lst xs=>exact .inl<|Xq r3 (.inl p3) e7 q3|arr xs=>exact .inl<|Xq r3 (.inl p3) e7 q3|_=>cases e7⟩
def aac{elts:List Expr}{k:Nat}{tp p:Pos}(G:Good X C)(hm:X.mg "zip" = none)(ha:Qi X C [e,e2] ea)(hg:Gl X "zip":=by rfl)(hs:starEach [e,e2] X.env=(false,eval e X.env)::starEach [e2] X.env:=by rfl)(hs2:starEach [e2] X.env=[(false,eval e2 X.env)]:=by rfl):SXI X C (.Tuple elts k tp) (.Call (.Name "zip" p) [e,e2] [] pos) (Gr ea):=⟨by
 have h:=afi (elts:=elts) (k:=k) (tp:=tp) (p:=p) (pos:=pos) hg hm ha.u hs hs2;rw[G.K] at h;refine h.imp λσ H R hq=>?_;obtain⟨Pr,F,env,env',ds,r,e,q⟩:=hq;obtain⟨as,aR,e1,e2⟩:=bf e;refine⟨Pr,F,env,aR,as,r,e1,λvs H1 F1 r1 s1 p1=>?_⟩;split at e2
 rename_i xs ys;cases e2;obtain⟨v,w,rfl,p2,v2,w2,rfl,p3,p4⟩:=p1;cases p4;obtain⟨z1,a1,us,rfl,h1,h2⟩:=p2;obtain⟨z2,a2,ws,rfl,h3,h4⟩:=p3;have l1:=h2.length;have l2:=h4.length;refine⟨a1,a2,rfl,⟨us,bu.tupK r1.fr h1⟩,⟨ws,bu.tupK r1.fr h3⟩,q _ H1 F1 r1 s1 λi H2 s2=>⟨λ_ ei=>⟨us,ws,bu.tupK s2 h1,bu.tupK s2 h3,?_⟩,λd hd=>?_⟩⟩
 have:(tW xs ys).length=min xs.length ys.length:=by unfold tW;rw[Qqx,Qbk]
 omega
 unfold tW at hd;rw[Qw1] at hd;obtain⟨⟨c,j⟩,hc,rfl⟩:=Qwz.mp hd;obtain⟨g1,g2⟩:=Qy0.mp hc;obtain⟨v1,k1,k2⟩:=yH h2 g1;obtain⟨v2,k3,k4⟩:=yH h4 g2;refine⟨⟨us,ws,v1,v2,bu.tupK s2 h1,bu.tupK s2 h3,k1,k3⟩,λy H3 hy=>.inr ?_⟩;obtain⟨p,x',y',m1,m2,m3,rfl,rfl⟩:=hy;have n1:=m1 us<|bu.tupK s2 h1;have n2:=m2 ws<|bu.tupK s2 h3;rw[k1] at n1;rw[k3] at n2;cases n1;cases n2;exact⟨p,_,_,m3,rfl,rfl,rfl,by show 2<=sizeLine;decide,_,_,rfl,k2,_,_,rfl,k4,rfl⟩
 cases e2⟩
def Xj(o:Cm X C op g)(o':Cm X C op' g')(ha:SX X C x a)(hb:SX X C y b)(hc:SX X C z c)(hm:lastMarks [op,op'] [y,z]=false:=by with_unfolding_all rfl):R8 X C (.Compare x [op,op'] [y,z] pos) (cR (zA g g' a b c)):=⟨by
 obtain⟨r,h1,h2⟩:=o.ex;obtain⟨r',h1',h2'⟩:=o'.ex;refine(Yx h1 h1' ha.u hb.u hc.u hm).imp λσ H Q' hq'=>?_;have hq:=SJ hq';show Xl r r' (tE C a) (tE C b) (tE C c) σ H _;generalize(λ(z:V) H'=>∃b,z=.bl b/\Q' b H')=Q at *;obtain⟨Pr,F,env,env',d,rl,e,q⟩:=hq;obtain⟨u,aR,e1,e2⟩:=bf e;obtain⟨v,eQ,e3,e4⟩:=bf e2;refine⟨Pr,F,env,aR,u,rl,e1,λvu H1 F1 r1 s1 p1=>⟨Pr,F1,aR,eQ,v,r1,e3,λvv H2 F2 r2 s2 p2=>?_⟩⟩;split at e4
 rename_i k hg;refine h2 Pr F2 eQ σ H2 u v (.bl k) vu vv _ r2 (.inl<|Rep.mono s2 _ _ p1) (.inl p2) hg λvz H3 F3 r3 s3 p3=>⟨k,p3,?_⟩;cases k with
 |false=>rw[Qv5 Qw2] at e4 ⊢;cases e4;exact q _ H3 F3 r3 ((s1.trans s2).trans s3) rfl|true=>rw[Qv4 rfl] at e4 ⊢;obtain⟨t,HY,e5,e6⟩:=bf e4;obtain⟨e7,rfl⟩:=d7 e6;exact⟨Pr,F3,eQ,env',t,r3,e5,λvt H4 F4 r4 s4 p4=>h2' Pr F4 env' σ H4 v t d vv vt Q r4 (.inl<|Rep.mono (s3.trans s4) _ _ p2) (.inl p4) e7 λv' H5 F5 r5 s5 p5=>q v' H5 F5 r5 ((((s1.trans s2).trans s3).trans s4).trans s5) p5⟩
 cases e4⟩
def aeT{px apos cpos:Pos}(i)(G:Good X C)(he:SX X C e a)(hN:X.N[i]? = some n:=by rfl)(hv:zR X.env.scope n:=by first|exact .inl rfl|exact .inr (.inl rfl)|exact .inr (.inr rfl))(hs:swapsWith (.Call (.Attribute (.Name n px) "extend" apos) [e] [] cpos) none pos.line X.env=pure false:=by rfl) (hfew:((backTo cpos (starEach [e] X.env)).all (λx=>!x.1)&&(backToKw cpos (keywordEach [] X.env)).all (λx=>x.1.isSome)
   && decide ([e].length+([]:List Keyword).length+(if ([]:List Keyword).isEmpty then 0 else 1)<30))=true:=by rfl) (hbase:attributeBase (.Name n px) "extend" X.env (eval (.Name n px) X.env)=eval (.Name n px) X.env:=by rfl) (hline:(apos.endLine == cpos.line)=true:=by rfl) (hst:IK e X.env:=by rfl) (hplain:(backTo cpos (starEach [] X.env)).any (·.1)=false:=by rfl) (hd:qT n:=by decide) (hcd:Bb n:=by decide):Qg X C (.Expr (.Call (.Attribute (.Name n px) "extend" apos) [e] [] cpos) pos) (Iv i a):=⟨by
 refine PS.imp (Tr (Tv Qg0 PySem.F.slot_list_extend PySem.F.type_list_extend V1 (mj hN hv hd hcd) (j7 he.u rT hst) hbase hfew hline hst hplain) hs) λD σ H h=>?_;obtain⟨Pr,F,env,r,f⟩:=h;unfold Iv at f;split at f
 rename_i xs0 h0;obtain⟨d,aR,e1,f1⟩:=fL f;obtain⟨a0,hv0,⟨z0,vs0,g0,_⟩,_⟩:=r.own i _ h0;refine⟨_,hv0,.inl ⟨rfl,vs0,lK.of g0⟩,Pr,F,env,aR,d,r,e1,λv H1 F1 r1 s1 p1=>?_⟩;split at f1
 rename_i xs zs h1;split at f1
 rename_i hz;obtain⟨a,g1,⟨z,vs,g2,g3⟩,g4,g5⟩:=r1.own i _ h1;rw[hv0] at g1;cases g1;obtain⟨_,b,ws,rfl,hb,hws⟩:=jt.lst r1.fr<|.inl p1;refine⟨a0,b,vs,ws,rfl,rfl,g2,hb,by rw[g3.length,hws.length];exact hz,?_⟩;exact f1 σ _ F1 (r1.write h1 hv0 ⟨by rw[Qqv];exact hz,vs++ws,bA,g3.append hws⟩) s1
 exact f1.elim
 exact f1.elim
 exact f.elim⟩
def Ys{c x y:Expr}(hc:R8 X C c t)(ha:SX X C x a)(hb:SX X C y b):SX X C (.IfExp c x y pos) (RP t a b):=⟨(YW hc.u ha.u hb.u).imp λσ H Q hq=>by
 obtain⟨Pr,F,env,env',k,rl,e,q⟩:=hq;obtain⟨z,aR,e1,e2⟩:=bf e;refine⟨Pr,F,env,aR,z,rl,e1,λH1 F1 r1 s1=>?_⟩;split at e2
 rename_i hz;rw[Qv4 hz];exact⟨Pr,F1,aR,env',k,r1,e2,λv2 H2 F2 r2 s2 p2=>q v2 H2 F2 r2 (s1.trans s2) p2⟩
 rename_i hz;rw[Qv5 hz];exact⟨Pr,F1,aR,env',k,r1,e2,λv2 H2 F2 r2 s2 p2=>q v2 H2 F2 r2 (s1.trans s2) p2⟩⟩
def UW{apos cpos:Pos}(G:Good X C)(ho:SX X C o a)(he:Qh X C e b)(hbase:attributeBase o "index" X.env (eval o X.env)=eval o X.env:=by rfl)(hs:IK e X.env:=by rfl) (hfew:((backTo cpos (starEach [e] X.env)).all (λx=>!x.1)&&(backToKw cpos (keywordEach [] X.env)).all (λx=>x.1.isSome)
   && decide ([e].length+([]:List Keyword).length+(if ([]:List Keyword).isEmpty then 0 else 1)<30))=true:=by rfl) (hline:(apos.endLine == cpos.line)=true:=by rfl) (hplain:(backTo cpos (starEach [] X.env)).any (·.1)=false:=by rfl):SX X C (.Call (.Attribute o "index" apos) [e] [] cpos) (aN wA a b):=⟨by
 have h:=afr PySem.F.slot_tuple_index PySem.F.type_tuple_index Oc ho.u (j7 he.u rT hs) hbase hfew hline hs hplain;rw[G.K] at h;refine h.imp λσ H Q hq=>?_;obtain⟨Pr,F,env,env',d,r,e0,q⟩:=hq;obtain⟨x,aR,e1,e2⟩:=bf e0;obtain⟨y,eQ,e3,e4⟩:=bf e2;obtain⟨e5,rfl⟩:=d7 e4;unfold wA at e5;split at e5
 rename_i ds z;obtain⟨zs,h1,h2⟩:=Qx0.mp e5;obtain⟨j,h3,rfl⟩:=Qwz.mp h2;refine⟨Pr,F,env,aR,_,r,e1,λvx H1 F1 r1 s1 p1=>?_⟩;obtain⟨hz,p,vs,rfl,h4,h5⟩:=p1;refine⟨⟨p,vs,rfl,bu.tupK r1.fr h4⟩,Pr,F1,aR,env',_,r1,e3,λvy H2 F2 r2 s2 p2=>?_⟩;obtain⟨rfl,_⟩:=p2.str;have e6:=vX h1 h5;subst e6;exact⟨p,zs,z,j,rfl,rfl,bu.tupK (s2.trans r2.fr) h4,h3,q _ H2 F2 r2 (s1.trans s2) rfl⟩
 cases e5⟩
def U0{apos cpos:Pos}(G:Good X C)(ho:SX X C o a)(he:Qh X C e b)(hbase:attributeBase o "index" X.env (eval o X.env)=eval o X.env:=by rfl)(hs:IK e X.env:=by rfl) (hfew:((backTo cpos (starEach [e] X.env)).all (λx=>!x.1)&&(backToKw cpos (keywordEach [] X.env)).all (λx=>x.1.isSome)
   && decide ([e].length+([]:List Keyword).length+(if ([]:List Keyword).isEmpty then 0 else 1)<30))=true:=by rfl) (hline:(apos.endLine == cpos.line)=true:=by rfl) (hplain:(backTo cpos (starEach [] X.env)).any (·.1)=false:=by rfl):SX X C (.Call (.Attribute o "index" apos) [e] [] cpos) (aN jd a b):=⟨by
 refine(Tv Q0z PySem.F.slot_str_index PySem.F.type_str_index Od ho.u (j7 he.u rT hs) hbase hfew hline hs hplain).imp λσ H Q hq=>?_;obtain⟨Pr,F,env,env',d,r,e0,q⟩:=hq;obtain⟨x,aR,e1,e2⟩:=bf e0;obtain⟨y,eQ,e3,e4⟩:=bf e2;obtain⟨e5,rfl⟩:=d7 e4;unfold jd at e5;split at e5
 rename_i z y;split at e5
 rename_i i rest ho.u;cases e5;refine⟨Pr,F,env,aR,_,r,e1,λvx H1 F1 r1 s1 p1=>?_⟩;obtain⟨rfl,_⟩:=p1;refine⟨rfl,Pr,F1,aR,env',_,r1,e3,λvy H2 F2 r2 s2 p2=>?_⟩;obtain⟨rfl,_⟩:=p2.str;exact⟨strOf z,strOf y,i,rest,rfl,rfl,by rw[gF];exact ho.u,q _ H2 F2 r2 (s1.trans s2) rfl⟩
 cases e5
 cases e5⟩
def abg(G:Good X C)(hm:X.mg "int"=none)(ha:yc X C [e] ea)(hg:Gl X "int":=by rfl)(he:IK e X.env:=by rfl):SX X C (.Call (.Name "int" p) [e] [] pos) (au Uj ea):=⟨vZ WK ac1 hg hm (by decide +kernel) ha.u (by decide) (by decide) he rfl⟩
def sO(m)(G:Good X C)(hc:R8 X C cd t)(hb:fH X C body bs)(hp:PassesOwn (model X.prog X.w) X.A X.env X.xe:=by exact Q02):Qg X C (.While cd body [] pos) (eV t bs m):=⟨Ev.Kd m G hc.u hb.u hp⟩
def abh(i)(hN:X.N[i]?=some n:=by rfl)(hv:zR X.env.scope n:=by first|exact .inl rfl|exact .inr (.inl rfl)|exact .inr (.inr rfl))(hd:qT n:=by decide)(hcd:Bb n:=by decide):R9 X C (.Name n pos) (K6 i):=⟨Ym i hN hv hd hcd⟩
def Jw(xs:List D):List D:=xs.zipIdx.map λp=>.tup [.int (p.2:Nat),p.1]
end
end Ev
namespace L2
open PySem PySem.Spec PyProof.Rows PySem.Builtin ZT
def aeo(K:PySem.W.Frag)(a1 a2:Addr):It:=
 ⟨λi H=>∃xs ys x y,lK K H a1 xs/\lK K H a2 ys/\xs[i]?=some x/\ys[i]?=some y,
 λi H v H'=>∃p x y,(∀xs,lK K H a1 xs->xs[i]?=some x)/\(∀ys,lK K H a2 ys->ys[i]?=some y)/\H p=none/\H'=upd H p (.tup [x,y])/\v=.ref p,
 λi H=>∃xs ys,lK K H a1 xs/\lK K H a2 ys/\(i=xs.length\/(i<xs.length/\i=ys.length))⟩
def Qv{K:PySem.W.Frag}(z TI TO j1 j2 a1 a2)(D:Apz z TI TO j1 j2 a1 a2) :
  Turn P w K (.Tuple elts kk pos) (aeo K a1 a2) [z,TI,TO,j1,j2] z (λi h=>IsZip h z TI TO .none/\IsPair h TI (.ref j1) (.ref j2)/\(∃a b,IsPair h TO a b)/\h.IsListIter j1 a1 i/\h.IsListIter j2 a2 i) where
 mem:=by simp
 obj:=λi h st b hb=>by
  obtain⟨hz,hTI,⟨a,c,hTO⟩,⟨o1,e1,_,d1⟩,o2,e2,_,d2⟩:=st;simp[Qq4,Qw6,Qz9] at hb;rcases hb with rfl|rfl|rfl|rfl|rfl;exact⟨_,hz,λv q=>by cases q⟩;exact⟨_,hTI,λv q=>by cases q⟩;exact⟨_,hTO,λv q=>by cases q⟩;exact⟨o1,e1,λv q=>by rw[d1] at q;cases q⟩;exact⟨o2,e2,λv q=>by rw[d2] at q;cases q⟩
 keep:=λi h h' st k=>by
  obtain⟨hz,hTI,⟨a,c,hTO⟩,⟨o1,e1,r1⟩,o2,e2,r2⟩:=st;exact⟨k z (by simp) _ hz,k TI (by simp) _ hTI,⟨a,c,k TO (by simp) _ hTO⟩,⟨o1,k j1 (by simp) _ e1,r1⟩,o2,k j2 (by simp) _ e2,r2⟩
 item:=by
  intro X hP hw hK hc i pins s σ H E I hf st hg;subst hP hw hK;obtain⟨hz,hTI,⟨a,b,hTO⟩,i1,i2⟩:=st;obtain⟨xs,ys,x,y,hx,hy,gx,gy⟩:=hg;obtain⟨us,ru,pu,zu⟩:=I.list hx;obtain⟨vs,rv,pv,zv⟩:=I.list hy;obtain⟨u,hu,rxu⟩:=ru.get gx;obtain⟨v,hv,ryv⟩:=rv.get gy;have lu:i<us.toArray.size:=by rw[Qq3];exact(Qq5.mp hu).1
  have lv:i<vs.toArray.size:=by rw[Qq3];exact(Qq5.mp hv).1
  have D1:Draws X.prog X.w X.A.in1 j1 [j1,a1] _ _ _:=Qf8 (show X.A.in1.handled=none from I.ok.hd hc) j1 a1 D.c1 us.toArray;have D2:Draws X.prog X.w X.A.in1 j2 [j2,a2] _ _ _:=Qf8 (show X.A.in1.handled=none from I.ok.hd hc) j2 a2 D.c2 vs.toArray;refine uJ D.ap D1 D2 lu lv hz hTI hTO ⟨i1,pu.isList⟩ ⟨i2,pv.isList⟩ λx' y' g tk px py hz' agt s1 s2 hT hsz hk=>?_;have ex:x'=u:=by have:=px;rw[Qj6,hu] at this;exact(Qw4 this).symm
  have ey:y'=v:=by have:=py;rw[Qj6,hv] at this;exact(Qw4 this).symm
  subst ex ey;refine⟨_,rfl,?_⟩;refine Qf4 hz' λg' hz'' e'=>?_;have pA:∀b o,b≠z->g.get? b=some o->g'.get? b=some o:=λb o hb q=>(e'.2 b hb).trans q;have lts:∀b ∈ [z,TI,TO,j1,j2],b<s.heap.objs.size:=λb hb=>by
   simp[Qq4,Qw6,Qz9] at hb;rcases hb with rfl|rfl|rfl|rfl|rfl;exact Qq9 hz;exact Qq9 hTI;exact Qq9 hTO;obtain⟨_,q,_⟩:=i1;exact Qq9 q;obtain⟨_,q,_⟩:=i2;exact Qq9 q
  refine⟨.ref s.heap.objs.size,upd H s.heap.objs.size<|.tup [x,y],I.drawn hf (λb o hb q=>?_) (Qq0 _) ?_,rfl,⟨_,x,y,λzs hq=>by rw[I.yV hq hx];exact gx,λzs hq=>by rw[I.yV hq hy];exact gy,(I.hok.fresh<|Qq0 _),rfl,rfl⟩,⟨hz'',?_,⟨_,_,pA TO _ D.t2 agt⟩,?_,?_⟩,λb hb=>?_⟩;have n1:b≠z:=λq=>hb (by simp[q]);exact pA b o n1<|hk b o n1 (λq=>hb (by simp[q])) (λq=>hb (by simp[q])) (λq=>hb (by simp[q])) q;exact⟨by show 2<=sizeLine;decide,[x',y'],.cons rxu<|.cons ryv .nil,_,pA _ _ (Qz7<|lts z (by simp)) hT,rfl,⟨_,rfl⟩,rfl⟩;exact pA TI _ D.t1<|hk TI _ D.t1 D.t3 (λq=>D.b5 (by simp[q])) (λq=>D.b6 (by simp[q])) hTI;obtain⟨o,q,r⟩:=s1.1;exact⟨o,pA j1 o (λq=>D.b1 (by simp[q])) q,r⟩;obtain⟨o,q,r⟩:=s2.1;exact⟨o,pA j2 o (λq=>D.b2 (by simp[q])) q,r⟩;rw[cj (Qxq<|lts b hb)];exact(hf b hb).1
 done:=by intro X hP hw hK hc i pins s σ H E I hf st hg;subst hP hw hK;obtain⟨hz,hTI,⟨a,b,hTO⟩,i1,i2⟩:=st;obtain⟨xs,ys,hx,hy,hi⟩:=hg;obtain⟨us,ru,pu,zu⟩:=I.list hx;obtain⟨vs,rv,pv,zv⟩:=I.list hy;have l1:=ru.length;have l2:=rv.length;have D1:Draws X.prog X.w X.A.in1 j1 [j1,a1] _ _ _:=Qf8 (show X.A.in1.handled=none from I.ok.hd hc) j1 a1 D.c1 us.toArray;have D2:Draws X.prog X.w X.A.in1 j2 [j2,a2] _ _ _:=Qf8 (show X.A.in1.handled=none from I.ok.hd hc) j2 a2 D.c2 vs.toArray;refine vH D.ap D1 D2 (by rw[Qq3,Qq3];omega) hz hTI hTO ⟨i1,pu.isList⟩ ⟨i2,pv.isList⟩ λg tk hk=>⟨rfl,I.JQ hf λb o hb e=>?_⟩;exact hk b o (λq=>hb (by simp[q])) (λq=>hb (by simp[q])) (λq=>hb (by simp[q])) (λq=>hb (by simp[q])) e
 self:=λA i s Q E st h=>Qhw st.1 h
end L2
namespace ZT
open PySem PySem.Spec PyProof.Rows L2 PySem.Builtin
abbrev acF(h:Heap)(l1:Addr):Heap:=h.push { cls:=.type "list_iterator",data:=.fields #[.ref l1,.int 0 0] }
abbrev acE(h:Heap)(l1 l2:Addr):Heap:=(acF h l1).push { cls:=.type "list_iterator",data:=.fields #[.ref l2,.int 0 0] }
abbrev acD(h:Heap)(l1 l2:Addr):Heap:=(acE h l1 l2).push { cls:=.type "tuple",data:=.seq #[.ref h.objs.size,.ref (acF h l1).objs.size] }
abbrev acC(h:Heap)(l1 l2:Addr):Heap:=(acD h l1 l2).push { cls:=.type "tuple",data:=.seq #[.none,.none] }
abbrev RJ(h:Heap)(l1 l2:Addr):Heap:=(acC h l1 l2).push { cls:=.type "zip",data:=.fields #[.none,.bool false,.bool false,.ref (acE h l1 l2).objs.size,.ref (acD h l1 l2).objs.size] }
def afZ(l1 l2)(xs ys):Meets (Builtin.«zip.__new__» ⟨[.type "zip",.ref l1,.ref l2],[]⟩) (λ_ R s=>s.heap.IsList l1 xs/\s.heap.IsList l2 ys/\
   R (.ok (.ret (.ref (acC s.heap l1 l2).objs.size))) { s with heap:=RJ s.heap l1 l2 }):=
 .of_wp λprog w A R s h=>by
  obtain⟨hp,g,d,tk,os⟩:=s;obtain⟨hl1,hl2,h⟩:=h;have hsub:=sub_zip;have hL2:Heap.IsList (Shared.heap ⟨hp.push { cls:=.type "list_iterator",data:=.fields #[.ref l1,.int 0 0] },g,d,tk,os⟩) l2 ys:=Heap.IsList.push hl2 _
  wp_walk using Qk8 hl1,Qk8 hL2
  exact⟨_,rfl,h⟩
section
variable{prog:Program}{w:World}{A:Around}{E:Value->Shared->Prop}{s:Shared}
def aaI(hl1:s.heap.IsList l1 xs)(hl2:s.heap.IsList l2 ys)
  (h:∀g,IsZip g (s.heap.objs.size+4) (s.heap.objs.size+2) (s.heap.objs.size+3) .none->IsPair g (s.heap.objs.size+2) (.ref s.heap.objs.size) (.ref (s.heap.objs.size+1))->
   IsPair g (s.heap.objs.size+3) .none .none->g.IsListIter s.heap.objs.size l1 0->g.IsListIter (s.heap.objs.size+1) l2 0->g.objs.size=s.heap.objs.size+5->
   (∀c o,s.heap.get? c=some o->g.get? c=some o)->Q (.ref (s.heap.objs.size+4)) { s with heap:=g }) :
  wpAny (model prog w) A (call (.type "zip") [.ref l1,.ref l2]) Q E s:=by
 refine callType_new F.called_zip (by decide) (F.typeCall_zip_2 _ _) (F.newCall_zip_2 _ _) (λobj=>F.args_object_init_3 obj _ _) F.entry_zip_new (afZ l1 l2 xs ys) ⟨hl1,hl2,?_⟩;have z1:(acF s.heap l1).objs.size=s.heap.objs.size+1:=Qx5 ..;have z2:(acE s.heap l1 l2).objs.size=s.heap.objs.size+2:=by rw[Qx5,z1]
 have z3:(acD s.heap l1 l2).objs.size=s.heap.objs.size+3:=by rw[Qx5,z2]
 have z4:(acC s.heap l1 l2).objs.size=s.heap.objs.size+4:=by rw[Qx5,z3]
 have z5:(RJ s.heap l1 l2).objs.size=s.heap.objs.size+5:=by rw[Qx5,z4]
 have g5:(RJ s.heap l1 l2).get? (acC s.heap l1 l2).objs.size=some _:=Qwv _ rfl;have g4:(RJ s.heap l1 l2).get? (acD s.heap l1 l2).objs.size=some _:=Qqz _<|Qwv _ rfl;have g3:(RJ s.heap l1 l2).get? (acE s.heap l1 l2).objs.size=some _:=Qqz _<|Qqz _<|Qwv _ rfl;have g2:(RJ s.heap l1 l2).get? (acF s.heap l1).objs.size=some _:=Qqz _<|Qqz _<|Qqz _<|Qwv _ rfl;have g1:(RJ s.heap l1 l2).get? s.heap.objs.size=some _:=Qqz _<|Qqz _<|Qqz _<|Qqz _<|Qwv _ rfl;rw[z2,z3,z4] at g5;rw[z1,z2] at g3;rw[z3] at g4;rw[z1] at g2;rw[z4];exact⟨⟨_,g5,rfl⟩,h _ g5 g3 g4 ⟨_,g1,rfl,rfl⟩ ⟨_,g2,rfl,rfl⟩ z5 λc o x=>Qqz _<|Qqz _<|Qqz _<|Qqz _<|Qqz _ x⟩
end
end ZT
namespace L2
open PySem PySem.Spec PyProof.Rows PySem.Builtin ZT
section
variable{X:Cx}
def agp(K:PySem.W.Frag)(ta:TA):TI:=λσ H R=>ta σ H λvs H1=>∃a1 a2,vs=[.ref a1,.ref a2]/\(∃xs,lK K H1 a1 xs)/\(∃ys,lK K H1 a2 ys)/\R (aeo K a1 a2) H1
def Vy{elts:List Expr}{k:Nat}{tp:Pos}{p pos:Pos}(hg:Gl X "zip")(hm:X.mg "zip" = none)(ha:PA X [a,b] ta)(hs:starEach [a,b] X.env=(false,eval a X.env)::starEach [b] X.env:=by rfl)(hs2:starEach [b] X.env=[(false,eval b X.env)]:=by rfl):PI X (.Tuple elts k tp) (.Call (.Name "zip" p) [a,b] [] pos) (agp X.K ta):=by
 intro pins s σ H R I h;refine Call_<|uo I hg hm Q06<|Qzq (gR (ha pos pins s σ H _ I h) λus s1 ⟨vs,H1,I1,r1,q1⟩=>?_) hs (by rw[hs2];rfl);obtain⟨a1,a2,e,⟨xs,hx⟩,⟨ys,hy⟩,q⟩:=q1;subst e;cases r1 with
 |cons r rr=>
  cases rr with
  |cons r' rr'=>
   cases rr';cases r;cases r';obtain⟨u1,ru1,p1,z1⟩:=I1.list hx;obtain⟨u2,ru2,p2,z2⟩:=I1.list hy;have ZJ:a1<s1.heap.objs.size:=by obtain⟨_,e,_⟩:=p1.isList;exact Qq9 e
   have TX:a2<s1.heap.objs.size:=by obtain⟨_,e,_⟩:=p2.isList;exact Qq9 e
   refine aaI p1.isList p2.isList λg hz hTI hTO i1 i2 hsz hk=>?_;refine Qhw hz ?_;have I2:Inv X pins σ H1 { s1 with heap:=g }:=I1.kept hk;have own:∀b,s1.heap.objs.size<=b->wK X pins H1 b:=λb hb=>I1.RN hb<|I1.hok.fresh hb;generalize hn:s1.heap.objs.size=n at *;have ne:∀{c d:Nat},c<d->(c:Addr)≠d:=λh e=>Qz0 _ (by subst e;exact h);have ne':∀{c d:Nat},d<c->(c:Addr)≠d:=λh e=>Qz0 _ (by subst e;exact h);have D:Apz (n+4) (n+2) (n+3) n (n+1) a1 a2:={
    t1:=ne (by omega),t2:=ne (by omega),t3:=ne (by omega),t4:=ne (by omega)
    b1:=by simp only[Qq4,Qw6,Qz9,Qhq];exact⟨ne' (by omega),ne'<|Qwx ZJ (by omega)⟩
    b2:=by simp only[Qq4,Qw6,Qz9,Qhq];exact⟨ne' (by omega),ne'<|Qwx TX (by omega)⟩
    b3:=by simp only[Qq4,Qw6,Qz9,Qhq];exact⟨ne' (by omega),ne'<|Qwx ZJ (by omega)⟩
    b4:=by simp only[Qq4,Qw6,Qz9,Qhq];exact⟨ne' (by omega),ne'<|Qwx TX (by omega)⟩
    b5:=by simp only[Qq4,Qw6,Qz9,Qhq];exact⟨ne' (by omega),ne'<|Qwx ZJ (by omega)⟩
    b6:=by simp only[Qq4,Qw6,Qz9,Qhq];exact⟨ne' (by omega),ne'<|Qwx TX (by omega)⟩
    b7:=by simp only[Qq4,Qw6,Qz9,Qhq];exact⟨ne' (by omega),ne'<|Qwx ZJ (by omega)⟩
    b8:=by simp only[Qq4,Qw6,Qz9,Qhq];exact⟨ne (by omega),ne' TX⟩
    c1:=ne ZJ,c2:=ne (Qwx TX (by omega)) }
   refine⟨n+4,[n+4,n+2,n+3,n,n+1],_,_,H1,rfl,I2,Qv _ _ _ _ _ a1 a2 D,⟨hz,hTI,⟨_,_,hTO⟩,i1,i2⟩,λb hb=>own b ?_,q⟩;simp only[Qq4,Qw6,Qz9] at hb;rcases hb with rfl|rfl|rfl|rfl|rfl;exact Qj9 _ _;exact Qj9 _ _;exact Qj9 _ _;exact Qq0 _;exact Qj9 _ _
end
end L2
namespace Ev
open PySem PySem.Spec PyProof.Rows L2 PySem.Builtin
section
variable{X:Cx}{C:Cfg}{pos:Pos}{e e2:Expr}
def zy(a:eZ):eZ:=λenv=>bindR (a env) λds aR=>match ds with
 |[.lst x,.lst y]=>.ok (tW x y) aR|_=>.stuck
def Oz{elts:List Expr}{k:Nat}{tp p:Pos}(G:Good X C)(hm:X.mg "zip" = none)(ha:Qi X C [e,e2] ea)(hg:Gl X "zip":=by rfl)(hs:starEach [e,e2] X.env=(false,eval e X.env)::starEach [e2] X.env:=by rfl)(hs2:starEach [e2] X.env=[(false,eval e2 X.env)]:=by rfl):SXI X C (.Tuple elts k tp) (.Call (.Name "zip" p) [e,e2] [] pos) (zy ea):=⟨by
 have h:=Vy (elts:=elts) (k:=k) (tp:=tp) (p:=p) (pos:=pos) hg hm ha.u hs hs2;rw[G.K] at h;refine h.imp λσ H R hq=>?_;obtain⟨Pr,F,env,env',ds,r,e,q⟩:=hq;obtain⟨as,aR,e1,e2⟩:=bf e;refine⟨Pr,F,env,aR,as,r,e1,λvs H1 F1 r1 s1 p1=>?_⟩;split at e2
 rename_i xs ys;cases e2;obtain⟨v,w,rfl,p2,v2,w2,rfl,p3,p4⟩:=p1;cases p4;obtain⟨z1,a1,us,rfl,h1,h2⟩:=p2;obtain⟨z2,a2,ws,rfl,h3,h4⟩:=p3;have l1:=h2.length;have l2:=h4.length;refine⟨a1,a2,rfl,⟨us,lK.of<|r1.fr _ _ h1⟩,⟨ws,lK.of<|r1.fr _ _ h3⟩,q _ H1 F1 r1 s1 λi H2 s2=>⟨λ_ ei=>⟨us,ws,lK.of<|s2 _ _ h1,lK.of<|s2 _ _ h3,?_⟩,λd hd=>?_⟩⟩
 have:(tW xs ys).length=min xs.length ys.length:=by unfold tW;rw[Qqx,Qbk]
 omega
 unfold tW at hd;rw[Qw1] at hd;obtain⟨⟨c,j⟩,hc,rfl⟩:=Qwz.mp hd;obtain⟨g1,g2⟩:=Qy0.mp hc;obtain⟨v1,k1,k2⟩:=yH h2 g1;obtain⟨v2,k3,k4⟩:=yH h4 g2;refine⟨⟨us,ws,v1,v2,lK.of<|s2 _ _ h1,lK.of<|s2 _ _ h3,k1,k3⟩,λy H3 hy=>.inr ?_⟩;obtain⟨p,x',y',m1,m2,m3,rfl,rfl⟩:=hy;have n1:=m1 us<|lK.of<|s2 _ _ h1;have n2:=m2 ws<|lK.of<|s2 _ _ h3;rw[k1] at n1;rw[k3] at n2;cases n1;cases n2;exact⟨p,_,_,m3,rfl,rfl,rfl,by show 2<=sizeLine;decide,_,_,rfl,k2,_,_,rfl,k4,rfl⟩
 cases e2⟩
end
open PySem L2
theorem Ph(n):∀a b:List (List Nat),zE (bO (n+1)) (a.map .str) (b.map .str)=some (a == b)
 |[],[]=>rfl|[],_::_=>rfl|_::_,[]=>rfl
 |x::a,y::b=>by
  rw[Qq8,Qq8];unfold zE;rw[Ph n a b]
  rfl
def aak(a b:List (List Nat)):lV (.lst (a.map .str)) (.lst (b.map .str))=some (.bl (a == b)):=by
 unfold lV;have:bO 60 (.lst<|a.map .str) (.lst<|b.map .str)=zE (bO 59) (a.map .str) (b.map .str):=rfl;rw[this,Ph]
 rfl
end Ev
namespace L2
open PySem PySem.Spec PyProof.Rows
def sY:fillsNumberSlot (.type "tuple") "mul"=pure false:=
 PySem.fillsNumberSlot_seq PySem.F.slot_tuple_mul.lookup (by decide +kernel) PySem.F.slot_tuple_rmul.lookup (by decide +kernel)
def yI:seqRepeat? (.type "tuple")=pure (some (.builtin "tuple.__mul__")):=by
 unfold seqRepeat?;rw[PySem.seqSlot_of (name:="__mul__") PySem.F.slot_tuple_mul.lookup (by decide +kernel),PySem.seqSlot_of (name:="__rmul__") PySem.F.slot_tuple_rmul.lookup (by decide +kernel)]
 rfl
def Ni(a)(t)(l)(items)(n)(dd)(sl) :
  Meets (Builtin.«int.__rmul__» ⟨[.int a t,.ref l],[]⟩) (λ_ R s=>s.heap.get? l=some { cls:=.type "tuple",dict:=dd,data:=.seq items n,slots:=sl }/\R (.ok (.ret Value.notImplemented)) s):=
 .of_wp λprog w A R s h=>by obtain⟨hp,g,d,tk,os⟩:=s;obtain⟨hl,h⟩:=h;wp_walk;exact⟨_,rfl,h⟩
end L2
namespace Ev
open PySem PySem.Spec PySem.W PySem.Calls PyProof.Rows L2
def FA(K:Fg)(x:Str)(st:Stmt):Prop:=∃(f:Addr) (oc kV doc pm cdv ct:Value) (od an:Option Addr) (osl:Array (Option Value)),PySem.W.nsIn K mainGlobals x=some (some (.ref f))/\
 K.lookup f=some ⟨oc,od,.func (PySem.W.fnOf x x (nQ st) (iz st) (aV st) .none kV doc pm an cdv ct),osl⟩/\PySem.W.codeIn K cdv x=true/\PySem.W.keepIn K (.ref f)=true
def FA.mk{K:Fg}{st:Stmt}{oc kV doc pm cdv ct:Value}(a:PySem.W.nsIn K mainGlobals x=some (some (.ref f)))
  (l:K.lookup f=some ⟨oc,od,.func (PySem.W.fnOf x x (nQ st) (iz st) (aV st) .none kV doc pm an cdv ct),osl⟩) (c:PySem.W.codeIn K cdv x=true) (k:PySem.W.keepIn K (.ref f)=true):FA K x st:=
 ⟨f,oc,kV,doc,pm,cdv,ct,od,an,osl,a,l,c,k⟩
def FA.at{K:Fg}{st:Stmt}(X:K.In h)(G:h.Ns mainGlobals mg)(F:FA K x st)
  (b:∀{kV doc pm} {an} {cdv ct} us,us.length=ps.length->bindArgs (PySem.W.fnOf x x (nQ st) (iz st) (aV st) .none kV doc pm an cdv ct) ⟨us,[]⟩=pure (ps.zip us)):dq K mg x st ps:=by
 obtain⟨f,oc,kV,doc,pm,cdv,ct,od,an,osl,a,l,c,k⟩:=F;exact funAt X G a l c k<|λ_ _ _ _ _ _ us hl=>b us hl
def FA.law{K:Fg}{st:Stmt}(X:K.In h)(G:h.Ns mainGlobals mg)(hfa:mg x=some (.ref fa))(F:FA K x st)
  (b:∀{kV doc pm} {an} {cdv ct} s v,BindsTo s (PySem.W.fnOf x x (nQ st) (iz st) (aV st) .none kV doc pm an cdv ct) ⟨[v],[]⟩ [(y,v)])
  (q:∀{fd} base,Fun K x x st fa fd->sH P w K mg base JN k fa fd [y] (pW K 1 g)) :
  ∃fd,(∀s v,BindsTo s fd ⟨[v],[]⟩ [(y,v)])/\∀base,K.In base->base.Ns mainGlobals mg->sH P w K mg base JN k fa fd [y] (pW K 1 g):=by
 obtain⟨f,oc,kV,doc,pm,cdv,ct,od,an,osl,a,l,c,k⟩:=F;cases (hfa.symm.trans<|Qgw X G a);exact⟨_,b,λbase _ _=>q base<|RM l c k⟩
open PySem PySem.Spec PyProof.Rows L2
mutual
theorem Sh.isN{h:Heap}:∀(d:D) (u:Value) (k:NK),Sh h d u->uW d=some k->Hn h k u
 |.int i,u,k,e,g=>by rw[uW] at g;cases g;obtain⟨t,rfl⟩:=e;rw[Hn];exact .inl ⟨t,rfl⟩|.bl b,u,k,e,g=>by rw[uW] at g;cases g;cases e;rw[Hn];exact .inr ⟨b,rfl,rfl⟩|.str x,u,k,e,g=>by rw[uW] at g;cases g;rw[Hn];exact e
 |.tup xs,u,k,e,g=>by
  rw[uW] at g;obtain⟨ks,g1,rfl⟩:=Qwz.mp g;obtain⟨a,its,rfl,⟨o,e1,e2,n,e3⟩,e4⟩:=e;rw[Hn];exact⟨a,o,its.toArray,n,rfl,e1,e2,e3,by simpa using JL.isN xs its ks e4 g1⟩
 |.non,u,k,e,g=>by simp[uW] at g|.lst _,u,k,e,g=>by simp[uW] at g|.arr _,u,k,e,g=>by simp[uW] at g|.dct _,u,k,e,g=>by simp[uW] at g|.iY _,u,k,e,g=>by simp[uW] at g
theorem JL.isN{h:Heap}:∀(ds:List D) (us:List Value) (ks:List NK),JL h ds us->uV ds=some ks->sG h ks us
 |[],us,ks,e,g=>by rw[uV] at g;cases g;cases e;rw[sG]
 |d::ds,us,ks,e,g=>by
  obtain⟨u,r,rfl,e1,e2⟩:=e;rw[uV] at g;split at g
  .rename_i k ks' g1 g2;cases g;rw[sG];exact⟨u,r,rfl,Sh.isN d u k e1 g1,JL.isN ds r ks' e2 g2⟩
  .cases g
end
structure qO(K:Fg)(H:Hp)(y:V)(kd:D)(q:NK):Prop where
 rep:Rep K H kd y
 nk:uW kd=some q
 dep:q.dep<=8
 tup:∃xs,kd=.tup xs
abbrev KN:List (NK×V×V)->List (NK×Addr×Value)->Prop:=Paired λp q=>p.1=q.1/\p.2.1=.ref q.2.1/\RelV p.2.2 q.2.2
noncomputable def valN(ks:List (NK×V×V))(q:NK):Option V:=(ks.find? λp=>decide (p.1=q)).map (·.2.2)
noncomputable def putN(ks:List (NK×V×V))(q:NK)(u v:V):List (NK×V×V):=if (valN ks q).isSome then ks.map (λp=>if p.1=q then (p.1,p.2.1,v) else p) else ks++[(q,u,v)]
def KN.val(r:KN ks xs)(q):zT (valN ks q) ((atKey xs q).map (·.2)):=by
 unfold valN atKey;induction r with
 |nil=>exact True.intro|@cons p x ps xs h t ih=>rw[Qz4,Qz4];by_cases c:p.1=q;have c2:=h.1 ▸ c;rw[Qw0 c,Qw0 c2];exact h.2.2;have c2:=h.1 ▸ c;rw[Qwy c,Qwy c2];exact ih
def KN.len(r:KN ks xs):ks.length=xs.length:=by
 induction r with
 |nil=>rfl|cons _ _ ih=>simp[ih]
def KN.put(r:KN ks xs)(q)(rv:RelV v u):KN (putN ks q (.ref b) v) (storedH xs q b u):=by
 have hs:=(r.val q).oG;rw[Qvy] at hs;unfold putN storedH;rw[<-hs];split;clear hs;induction r with
 |nil=>exact .nil
 |@cons p x ps xs h t ih=>
  rw[Qq8,Qq8];refine .cons ?_ ?_;unfold putAt;by_cases c:p.1=q;have c2:=h.1 ▸ c;rw[Qv4 c,Qv4 c2];exact⟨h.1,h.2.1,rv⟩;have c2:=h.1 ▸ c;rw[Qv5 c,Qv5 c2];exact h;rename_i hsome;clear hsome;clear ih;induction t with
  |nil=>exact .nil|@cons p x ps xs h t ih=>rw[Qq8,Qq8];refine .cons ?_ ih;unfold putAt;by_cases c:p.1=q;have c2:=h.1 ▸ c;rw[Qv4 c,Qv4 c2];exact⟨h.1,h.2.1,rv⟩;have c2:=h.1 ▸ c;rw[Qv5 c,Qv5 c2];exact h
 exact Paired.snoc r ⟨rfl,rfl,rv⟩
section
variable{X:Cx}{pins:List (Addr×Obj)}{σ:L2.St}{H:Hp}{s:Shared}{a:Addr}{ks:List (NK×V×V)}{kvs:List (D×D)}{y v:V}{kd:D}{q:NK}{u:Value}{A:Around}{E:Value->Shared->Prop}
theorem T7(I:Inv X pins σ H s):∀{kvs} {ks} {xs},eU X.K H kvs ks->KN ks xs->∀x∈xs,(qt X.prog X.w).is s.heap x.1 x.2.1
 |[],_,_,hr,r,x,hx=>by
  cases hr;cases r;cases hx
 |(k,d)::kvs,_,_,hr,r,x,hx=>by
  obtain⟨q,u,v,rest,rfl,h1,h2,h3,h4,h5⟩:=hr;cases r with
  |@cons _ x0 _ xs' h t=>rcases Qq4.mp hx with rfl|hx;obtain⟨g1,g2,g3⟩:=h;simp at g1 g2 g3;subst g1;subst g2;exact⟨Sh.isN k _ _ (Rep.sh I k _ (.ref x.2.1) h3 rfl) h1,h2⟩;exact T7 I h5 t x hx
def GD(I:Inv X pins σ H s)(e:Rd H a (.dN ks))(hr:eU X.K H kvs ks):ks.length<=sizeLine/\(a == sysModules)=false/\∃xs,KN ks xs/\s.heap.DictOfH (qt X.prog X.w) a xs:=by obtain⟨z,y,xs,r,o,es,ep,h1,h2,h3,h4,h5⟩:=(show jx X.prog X.w H s.heap a (.dN ks) from e.ok I.hok);exact⟨z,y,xs,r,o,es,ep,h1,h2,h3,h4,T7 I hr r,h5⟩
def qO.is(k:qO X.K H y kd q)(I:Inv X pins σ H s)(ry:RelV y u):∃b,y=.ref b/\u=.ref b/\(qt X.prog X.w).is s.heap q b:=by obtain⟨h1,h2,h3,xs,rfl⟩:=k;have h4:=Sh.isN _ _ _ (Rep.sh I _ y u h1 ry) h2;obtain⟨_,b,vs,rfl,_⟩:=h1;cases ry;exact⟨b,rfl,rfl,h4,h3⟩
def Ez(hu:A.units+12<cLine):(qt X.prog X.w).room A.in1:=by show A.units+1+10<cLine;omega
def agL(hu:A.units+12<cLine)(I:Inv X pins σ H s)(e:Rd H a (.dN ks))(hr:eU X.K H kvs ks)(k:qO X.K H y kd q)(hv:valN ks q=some v)(ry:RelV y u)
  (h:∀w' s',Inv X pins σ H s'->RelV v w'->Q w' s'):wpAny (model X.prog X.w) A (getItem (.ref a) u) Q E s:=by
 obtain⟨b,rfl,rfl,hk⟩:=k.is I ry;obtain⟨z,hd,xs,rel,dd⟩:=GD I e hr;obtain⟨w',hw,Q5⟩:=zT.some_of (by rw[<-hv];exact rel.val q);obtain⟨p,hp,hp2⟩:=Qwz.mp hw;refine wpAny_getItem_heap (Ez hu) hk dd hp ?_;rw[hp2];exact h w' _ (I.tok _) Q5
def aaz(hu:A.units+12<cLine)(I:Inv X pins σ H s)(e:Rd H a (.dN ks))(hr:eU X.K H kvs ks)(k:qO X.K H y kd q)(ry:RelV y u)
  (h:∀s',Inv X pins σ H s'->Q (.bool (!(valN ks q).isSome)) s'):wpAny (model X.prog X.w) A (compareOp .NotIn u (.ref a)) Q E s:=by
 obtain⟨b,rfl,rfl,hk⟩:=k.is I ry;obtain⟨z,hd,xs,rel,dd⟩:=GD I e hr;refine wpAny_notIn_heap (Ez hu) hk hd dd ?_;have q':=(rel.val q).oG;rw[Qvy] at q';rw[<-q'];exact h _<|I.tok _
def Yv(ks)(q)(u v):(putN ks q u v).length<=ks.length+1:=by
 unfold putN;split;rw[Qqx];omega;simp
def agK(hu:A.units+12<cLine)(I:Inv X pins σ H s)(e:H a=some (.dN ks))(hr:eU X.K H kvs ks)(k:qO X.K H y kd q)(hl:ks.length<sizeLine)(ry:RelV y u)(rv:RelV v r)
  (h:∀s',Inv X pins σ (upd H a (.dN (putN ks q y v))) s'->Q () s'):wpAny (model X.prog X.w) A (setItem (.ref a) u r) Q E s:=by
 obtain⟨b,rfl,rfl,hk⟩:=k.is I ry;obtain⟨z,hd,xs,rel,dd⟩:=GD I (.inl e) hr;have hz:xs.length<=sizeLine:=by rw[<-rel.len];exact z
 have hl2:(putN ks q (.ref b) v).length<=sizeLine:=by have:=Yv ks q (.ref b) v;omega
 refine wpAny_setItem_heap (Ez hu) hk dd λh' dd' hs=>h _ ?_;obtain⟨o,es,ep,hq,h2,h3,h4,_,h5⟩:=dd';exact zH I (by rw[e];exact True.intro) hs ⟨o,hq⟩ ⟨hl2,hd,_,rel.put q rv,o,es,ep,hq,h2,h3,h4,h5⟩
end
noncomputable def n6(kvs:List (D×D))(q:NK):Option D:=(kvs.find? λp=>decide (uW p.1=some q)).map (·.2)
noncomputable def wM(kvs:List (D×D))(kd:D)(q:NK)(d:D):List (D×D):=if (n6 kvs q).isSome then kvs.map (λp=>if uW p.1=some q then (p.1,d) else p) else kvs++[(kd,d)]
def eU.len{K:Fg}:∀{kvs} {ks},eU K F kvs ks->ks.length=kvs.length
 |[],_,h=>by cases h;rfl|(k,d)::kvs,_,h=>by obtain⟨q,u,v,r,rfl,_,_,_,_,h5⟩:=h;rw[Qqy,Qqy,h5.len]
def eU.val{K:Fg}(q):∀{kvs} {ks},eU K F kvs ks->(n6 kvs q=none/\valN ks q=none)\/∃d v,n6 kvs q=some d/\valN ks q=some v/\Rep K F d v
 |[],_,h=>by cases h;exact .inl ⟨rfl,rfl⟩
 |(k,d)::kvs,_,h=>by
  obtain⟨q0,u,v,r,rfl,h1,h2,h3,h4,h5⟩:=h;unfold n6 valN;rw[Qz4,Qz4];by_cases c:q0=q;subst c;have c2:=Qw0 h1;rw[c2,Qw0 rfl];exact .inr ⟨d,v,rfl,rfl,h4⟩;have c2:decide (uW k=some q)=false:=Qwy λz=>c (by rw[h1] at z;exact Qw4 z);rw[c2,Qwy c];exact eU.val q h5
def eU.snoc{K:Fg}(h1:uW kd=some q)(h2:q.dep<=8)(h3:Rep K F kd u)(h4:Rep K F d v):∀{kvs} {ks},eU K F kvs ks->eU K F (kvs++[(kd,d)]) (ks++[(q,u,v)])
 |[],_,h=>by cases h;exact⟨q,u,v,[],rfl,h1,h2,h3,h4,rfl⟩
 |(k,e)::kvs,_,h=>by
  obtain⟨q0,u0,v0,r,rfl,g1,g2,g3,g4,g5⟩:=h;exact⟨q0,u0,v0,r++[(q,u,v)],rfl,g1,g2,g3,g4,eU.snoc h1 h2 h3 h4 g5⟩
def eU.over{K:Fg}(h4:Rep K F d v):∀{kvs} {ks},eU K F kvs ks->eU K F (kvs.map λp=>if uW p.1=some q then (p.1,d) else p) (ks.map λp=>if p.1=q then (p.1,p.2.1,v) else p)
 |[],_,h=>by cases h;rfl
 |(k,e)::kvs,_,h=>by
  obtain⟨q0,u0,v0,r,rfl,g1,g2,g3,g4,g5⟩:=h;rw[Qq8,Qq8];have ih:=eU.over (q:=q) h4 g5;by_cases c:q0=q;subst c;rw[Qv4 g1,Qv4 rfl];exact⟨q0,u0,v,_,rfl,g1,g2,g3,h4,ih⟩;rw[Qv5 (λz=>c (by rw[g1] at z;exact Qw4 z)),Qv5 c];exact⟨q0,u0,v0,_,rfl,g1,g2,g3,g4,ih⟩
def eU.put{K:Fg}(h:eU K F kvs ks)(h1:uW kd=some q)(h2:q.dep<=8)(h3:Rep K F kd u)(h4:Rep K F d v):eU K F (wM kvs kd q d) (putN ks q u v):=by
 have e:(n6 kvs q).isSome=(valN ks q).isSome:=by rcases h.val q with ⟨g1,g2⟩|⟨_,_,g1,g2,_⟩<;>rw[g1,g2]<;>rfl
 unfold wM putN;rw[e];split;exact h.over h4;exact h.snoc h1 h2 h3 h4
def Vw(kvs)(kd)(q)(d):(wM kvs kd q d).length<=kvs.length+1:=by
 unfold wM;split;rw[Qqx];omega;simp
def jt.iY{K:Fg}(s:bu F H)(h:jt K F H (.iY kvs) v):kvs.length<=sizeLine/\∃a ks,v=.ref a/\Rd H a (.dN ks)/\eU K F kvs ks:=by
 rcases h with ⟨z,a,vs,rfl,h1,h2⟩|⟨a,rfl,z,vs,h1,h2⟩;exact⟨z,a,vs,rfl,bu.rd s h1,h2⟩;exact⟨z,a,vs,rfl,.inl h1,h2⟩
def Ji(d:D):Option NK:=match d with
 |.tup xs=>(uW (.tup xs)).bind λq=>if q.dep<=8 then some q else none|_=>none
def Ba(h:Ji d=some q):uW d=some q/\q.dep<=8/\∃xs,d=.tup xs:=by
 unfold Ji at h;split at h;obtain⟨p,h1,h2⟩:=Qx0.mp h;split at h2;rename_i hd;cases h2;exact⟨h1,hd,_,rfl⟩;cases h2;cases h
def qO.of{C:Cfg}(s:bu F H)(p:jt C.K F H d v)(h:Ji d=some q):qO C.K H v d q:=by obtain⟨h1,h2,h3⟩:=Ba h;exact⟨p.rep s,h1,h2,h3⟩
section
variable{X:Cx}{C:Cfg}{pos apos cpos:Pos}
def Yd(K:Fg):R2:=λx y H Q=>∃a ks kvs kd q v,x=.ref a/\Rd H a (.dN ks)/\eU K H kvs ks/\qO K H y kd q/\valN ks q=some v/\Q v H
noncomputable def zq:D->D->Option D
 |.iY kvs,k=>(Ji k).bind λq=>n6 kvs q|_,_=>none
def acd:tV C (Yd C.K) zq:=by
 intro Pr F env σ H x y d vx vy Q r px py e q;unfold zq at e;split at e;obtain⟨z,a,ks,rfl,h1,h2⟩:=px.iY r.fr;obtain⟨k,hk,hv⟩:=Qx0.mp e;rcases h2.val k with ⟨e1,_⟩|⟨d',v',e1,e2,p2⟩;rw[e1] at hv;cases hv;rw[e1] at hv;cases hv;exact⟨a,ks,_,_,k,v',rfl,h1,eU.mono r.fr _ _ h2,qO.of r.fr py hk,e2,q _ _ F r (bu.refl F) p2⟩;cases e
def ab1(hu:X.A.units+12<cLine)(ho:PE X o td)(hi:PE X i ty)(hs:WT i):PE X (.Subscript o i pos) (tOp (Yd X.K) td ty):=by intro pins s σ H Q I h;refine SM PySem.F.slot_dict_getitem.lookup hs<|gR (ho pins s σ H _ I h) λu s1 ⟨x,H1,I1,rx,q1⟩=>gR (hi pins s1 σ H1 _ I1 q1) λiv s2 ⟨y,H2,I2,ry,a,ks,kvs,kd,q,v,ex,g1,g2,g3,g4,q2⟩=>?_;subst ex;obtain rfl:u=Value.ref a:=rx;obtain⟨_,_,xs,_,dd⟩:=GD I2 g1 g2;exact⟨dd.typeIs,agL hu I2 g1 g2 g3 g4 ry λw' s3 I3 Q5=>⟨v,H2,I3,Q5,q2⟩⟩
def ah9(K:Fg)(neg:Bool):R2:=λx y H Q=>∃a ks kvs kd q,y=.ref a/\Rd H a (.dN ks)/\eU K H kvs ks/\qO K H x kd q/\Q (.bl (if neg then !(valN ks q).isSome else (valN ks q).isSome)) H
def VG(hu:X.A.units+12<cLine):qN X (compareOp .NotIn) (ah9 X.K true):=by intro pins s σ H x y v u Q I rx ry h;obtain⟨a,ks,kvs,kd,q,rfl,g1,g2,g3,q2⟩:=h;cases ry;exact aaz hu I g1 g2 g3 rx λs3 I3=>⟨.bl _,H,I3,rfl,q2⟩
noncomputable def lU(k y:D):Option D:=match y with
 |.iY kvs=>(Ji k).map λq=>.bl (!(n6 kvs q).isSome)|_=>none
def VM:tV C (ah9 C.K true) lU:=by
 intro Pr F env σ H x y d vx vy Q r px py e q;cases y with
 |iY kvs=>
  obtain⟨k,hk,rfl⟩:=Qwz.mp<|show(Ji x).map (λq=>D.bl<|!(n6 kvs q).isSome)=some d from e;obtain⟨z,a,ks,rfl,h1,h2⟩:=py.iY r.fr;refine⟨a,ks,kvs,_,k,rfl,h1,eU.mono r.fr _ _ h2,qO.of r.fr px hk,?_⟩;have e2:(valN ks k).isSome=(n6 kvs k).isSome:=by rcases h2.val k with ⟨g1,g2⟩|⟨d',v',g1,g2,_⟩<;>rw[g1,g2]<;>rfl
  rw[e2];exact q _ H F r (bu.refl F) rfl
 |_=>cases e
def GX(G:Good X C):Cm X C .NotIn lU:=⟨_,VG (by have:=G.un;omega),by rw[G.K];exact VM⟩
def Pn(h:Heap)(hb:sysModules<h.objs.size):jx P w H (h.push { cls:=.type "dict",data:=.dict #[] }) h.objs.size (.dN []):=
 ⟨Qxz _,Qzz.mpr<|Ne.symm<|Qxq hb,[],.nil,_, #[],0,Qwv _ rfl,⟨rfl,rfl,rfl⟩,rfl,rfl,List.nodup_nil⟩
def aeG:TE:=λ_ H Q=>∀p,H p=none->Q (.ref p) (upd H p (.dN []))
def YZ:PE X (.Dict [] [] pos) aeG:=λpins s σ H Q I h=>
 wpAny_Dict_empty ⟨.ref s.heap.objs.size,_,I.laid (λ_ _ q=>Qqz _ q) (Qq0 _)<|Pn s.heap I.big,rfl,h _<|I.hok.fresh<|Qq0 _⟩
def K9:Ev:=λenv=>.ok (.iY []) env
noncomputable def qY(i:Nat)(k a:Ev):cu:=λenv=>kY (a env) λd aR=>match aR[i]? with
 |some (some (_,_))=>kY (k aR) λkd eQ=>(match eQ[i]?,Ji kd with
  |some (some (true,.iY kvs)),some q=>if kvs.length<sizeLine then .nx (eQ.set i (some (true,.iY (wM kvs kd q d)))) else .stuck|_,_=>.stuck)
 |_=>.stuck
def XD(K:Fg)(td ty tv:TE):TS:=λD σ H=>tv σ H λv H1=>td σ H1 λx H2=>ty σ H2 λy H3=>∃a ks kvs kd q,x=.ref a/\H3 a=some (.dN ks)/\eU K H3 kvs ks/\qO K H3 y kd q/\ks.length<sizeLine/\D.nx σ (upd H3 a (.dN (putN ks q y v)))
def YF(hu:X.A.units+12<cLine)(ho:PE X o td)(hi:PE X i ty)(hv:PE X value tv)(hs:swapsWith value (some (.Subscript o i pos')) pos.line X.env=pure false) :
  PS X (.Assign [.Subscript o i pos'] value pos) (XD X.K td ty tv):=by
 intro pins s σ H D I h;refine wpAny_Assign_Subscript (gR (hv pins s σ H _ I h) λr s1 ⟨v,H1,I1,rv,q1⟩=>gR (ho pins s1 σ H1 _ I1 q1) λu s2 ⟨x,H2,I2,rx,q2⟩=>gR (hi pins s2 σ H2 _ I2 q2) λiv s3 ⟨y,H3,I3,ry,a,ks,kvs,kd,q,ex,g1,g2,g3,g4,q3⟩=>?_) hs;subst ex;obtain rfl:u=Value.ref a:=rx;exact agK hu I3 g1 g2 g3 g4 ry rv λs4 I4=>⟨σ,_,I4,q3⟩
def Xk(K:Fg)(tk tv:TE):TE:=λσ H Q=>∀p,H p=none->tk σ (upd H p (.dN [])) λx H1=>tv σ H1 λy H2=>H2 p=some (.dN [])/\∃kd q,qO K H2 x kd q/\Q (.ref p) (upd H2 p (.dN [(q,x,y)]))
def Y4(hu:X.A.units+12<cLine)(hk:PE X k tk)(hv:PE X v tv):PE X (.Dict [some k] [v] pos) (Xk X.K tk tv):=by intro pins s σ H Q I q;rw[arm_eval_Dict,zip_pairTrees [some k] [v] X.env pos rfl rfl,dictDisplay_pairs (pairTrees [some k] [v] X.env pos) (by intro z;cases z) (by rw[pairTrees_length [some k] [v] X.env pos rfl rfl];simp)];refine Qqq<|Qgk<|Qqq ?_;unfold subDict;refine Qqq<|wpAny_alloc ?_;refine Qqq<|Qzj ?_;rw[Qv4 (by rw[pairTrees_length [some k] [v] X.env pos rfl rfl];simp)];refine Qqq<|pairTrees_cons_walk<|gR (hk pins _ σ _ _ (I.laid (t':=s.toks) (λ_ _ q=>Qqz _ q) (Qq0 _)<|Pn s.heap I.big)<|q _ (I.hok.fresh<|Qq0 s.heap.objs.size)) λu s1 ⟨x,H1,J1,rx,q1⟩=>gR (hv pins s1 σ H1 _ J1 q1) λw2 s2 ⟨y,H2,J2,ry,e,kd,qq,ka,q2⟩=>pairTrees_nil_walk ?_;refine Qzj ?_;refine Qqq ?_;rw[Qvk];obtain⟨b,rfl,rfl,hkk⟩:=ka.is J2 rx;obtain⟨_,hd,xs,rel,dd⟩:=GD (kvs:=[]) J2 (.inl e) rfl;cases rel;refine Qqq<|Qqq<|wpAny_dictSet_heap (show X.A.units+10<cLine by omega) hkk dd λh' dd' hs=>Qq2 ?_;show wpAny _ _ (forIn [] PUnit.unit _) _ _ _;rw[Qk3];refine Qq2<|Qq2<|Qq2<|Qq2 ?_;obtain⟨o,es,ep,hq,h2,h3,h4,_,h5⟩:=dd';exact⟨.ref s.heap.objs.size,_,zH (ob:=.dN [(qq,.ref b,y)]) J2 (by rw[e];exact True.intro) hs ⟨o,hq⟩ ⟨by show 1<=sizeLine;decide,hd,[(qq,b,w2)],.cons ⟨rfl,rfl,ry⟩ .nil,o,es,ep,hq,h2,h3,h4,h5⟩,rfl,q2⟩
def K8(k a:Ev):Ev:=λenv=>bindR (k env) λkd e1=>bindR (a e1) λd e2=>match Ji kd with
 |some _=>.ok (.iY [(kd,d)]) e2|none=>.stuck
def JZ:cu:=λ_=>.stuck
def LR{px:Pos}(i)(G:Good X C)(hb:Qh X C y b)(hN:X.N[i]? = some n:=by rfl)(hv:zR X.env.scope n:=by first|exact .inl rfl|exact .inr (.inl rfl)|exact .inr (.inr rfl))(hs:WT y:=by intro _ _;rfl)
  (hd:qT n:=by decide) (hcd:Bb n:=by decide):SX X C (.Subscript (.Name n px) y pos) (aq zq i b):=⟨by
 have h:PE X (.Subscript (.Name n px) y pos) (tOp (Yd X.K) _ _):=ab1 (by have:=G.un;omega) (mj hN hv hd hcd) hb.u hs;rw[G.K] at h;exact h.imp<|wD acd⟩
def Rb:R9 X C (.Dict [] [] pos) K9:=⟨YZ.imp λσ H Q hq=>by
 obtain⟨Pr,F,env,env',d,r,e,q⟩:=hq;cases e;exact λp hp=>q _ _ F (r.fresh hp) (bu.refl F)<|Sd.of r hp ⟨Qxz _,[],bA,rfl⟩⟩
def Ey{px pos':Pos}(i)(G:Good X C)(hk:SX X C k ek)(he:SX X C e a)(hN:X.N[i]? = some n:=by rfl)(hv:zR X.env.scope n:=by first|exact .inl rfl|exact .inr (.inl rfl)|exact .inr (.inr rfl))
  (hs:swapsWith e (some (.Subscript (.Name n px) k pos')) pos.line X.env=pure false:=by rfl)
  (hd:qT n:=by decide) (hcd:Bb n:=by decide):Qg X C (.Assign [.Subscript (.Name n px) k pos'] e pos) (qY i ek a):=⟨by
 have h0:=YF (by have:=G.un;omega) (mj hN hv hd hcd) hk.u he.u hs;rw[G.K] at h0;refine h0.imp λD σ H h=>?_;obtain⟨Pr,F,env,r,f⟩:=h;obtain⟨d,aR,e1,f1⟩:=fL f;refine⟨Pr,F,env,aR,d,r,e1,λv H1 F1 r1 s1 p1=>?_⟩;split at f1
 rename_i o0 d0 h0;obtain⟨v0,hv0,_⟩:=r1.rd h0;obtain⟨kd,eQ,e2,f2⟩:=fL f1;refine⟨v0,hv0,Pr,F1,aR,eQ,kd,r1,e2,λvk H2 F2 r2 s2 p2=>?_⟩;split at f2
 rename_i kvs q h2 hq;split at f2
 rename_i hz;obtain⟨b,g1,⟨z,ks,g2,g3⟩,g4,g5⟩:=r2.own i _ h2;rw[hv0] at g1;cases g1;have hz':ks.length<sizeLine:=by rw[g3.len];exact hz
 obtain⟨n1,n2,n3⟩:=Ba hq;refine⟨b,ks,kvs,kd,q,rfl,g2,eU.mono r2.fr _ _ g3,⟨Rep.mono r2.fr _ _ p2,n1,n2,n3⟩,hz',?_⟩;refine f2 σ _ F2 (r2.write h2 hv0 ⟨Qq1 (Vw _ _ _ _) hz,_,bA,g3.put n1 n2 p2<|Rep.mono s2 _ _ p1⟩)<|s1.trans s2
 exact f2.elim
 exact f2.elim
 exact f1.elim⟩
def Vt(G:Good X C)(hk:SX X C k ek)(hv:SX X C v ev):R9 X C (.Dict [some k] [v] pos) (K8 ek ev):=⟨by
 have h0:PE X (.Dict [some k] [v] pos) (Xk X.K _ _):=Y4 (by have:=G.un;omega) hk.u hv.u;rw[G.K] at h0;refine h0.imp λσ H Q hq=>?_;obtain⟨Pr,F,env,env',d,r,e,q⟩:=hq;obtain⟨kd,aR,e1,e2⟩:=bf e;obtain⟨dv,eQ,e3,e4⟩:=bf e2;split at e4
 rename_i qq hqq;cases e4;obtain⟨n1,n2,n3⟩:=Ba hqq;intro p hp;have ra:=r.aside (o:=.dN []) hp;have nP:=r.pr.free hp;refine⟨upd Pr p<|.dN [],F,env,aR,kd,ra,e1,λx H1 F1 r1 s1 p1=>⟨upd Pr p<|.dN [],F1,aR,env',dv,r1,e3,λy H2 F2 r2 s2 p2=>⟨r2.pr p _ bA,kd,qq,⟨Rep.mono r2.fr _ _<|Rep.mono s2 _ _ p1,n1,n2,n3⟩,?_⟩⟩⟩;have r3:=r2.turn (u:=.dN [(qq,x,y)]) bA;have nF:F2 p=none:=by
  cases hF:F2 p with
  |none=>rfl|some o=>have:=r2.dj p o hF;rw[bA] at this;cases this
 have r4:Rel C Pr F2 env' σ (upd H2 p<|.dN [(qq,x,y)]):=r3.less λb o hb=>by
  have hne:b≠p:=λz=>by rw[z,nP] at hb;cases hb
  rw[cj hne,cj hne];exact hb
 refine q p _ F2 r4 (s1.trans s2) ⟨⟨by show 1<=sizeLine;decide,_,bA,⟨qq,x,y,[],rfl,n1,n2,Rep.mono s2 _ _ p1,p2,rfl⟩⟩,nF,nP,λj e he hs=>?_⟩;obtain⟨b,h1,_,_,h4⟩:=r2.own j e he;rw[hs] at h1;cases h1;rw[bA] at h4;cases h4
 cases e4⟩
def Q9{st:Stmt}:Qg X C st JZ:=⟨λpins s σ H D I h=>by
 obtain⟨_,_,_,_,f⟩:=h;exact f.elim⟩
end
end Ev
namespace SI
open PySem PySem.Spec PyProof.Rows L2 PySem.Builtin
def Ris(xs:Array Nat):Prop:=∀i j,i<j->j<xs.size->xs.getD i 0<xs.getD j 0
def O1{xs:Array Nat}(a b)(h:i<xs.size):xs.getD i a=xs.getD i b:=by simp[Array.getD,h]
theorem GZ(R:Ris xs):∀fuel lo hi,lo<=hi->hi<=xs.size->hi - lo<=fuel->(∀i,i<lo->xs.getD i 0<j)->(∀i,hi<=i->i<xs.size->j<=xs.getD i 0)->
  SetTable.below.go xs j fuel lo hi<=xs.size/\(∀i,i<SetTable.below.go xs j fuel lo hi->xs.getD i 0<j)/\∀i,SetTable.below.go xs j fuel lo hi<=i->i<xs.size->j<=xs.getD i 0
 |0,lo,hi,h1,h2,h3,h4,h5=>by
  unfold SetTable.below.go;exact⟨by omega,h4,λi a b=>h5 i (by omega) b⟩
 |fuel+1,lo,hi,h1,h2,h3,h4,h5=>by
  unfold SetTable.below.go;split;rename_i hl;dsimp only;split;rename_i hm;rw[O1 j 0 (by omega)] at hm;refine GZ R fuel _ _ (by omega) h2 (by omega) (λi hq=>?_) h5;by_cases c:i=(lo+hi) / 2;rw[c];exact hm;exact Qhz (R i _ (by omega) (by omega)) hm;rename_i hm;rw[O1 j 0 (by omega)] at hm;refine GZ R fuel _ _ (by omega) (by omega) (by omega) h4<|λi hq hs=>?_;by_cases c:i=(lo+hi) / 2;rw[c];omega;have:=R ((lo+hi) / 2) i (by omega) hs;omega;exact⟨by omega,h4,λi a b=>h5 i (by omega) b⟩
def PL(R:Ris xs)(j):SetTable.below xs j<=xs.size/\(∀i,i<SetTable.below xs j->xs.getD i 0<j)/\∀i,SetTable.below xs j<=i->i<xs.size->j<=xs.getD i 0:=
 GZ R xs.size 0 xs.size (Qxz _) (Qq0 _) (Qq0 _) (λi h=>absurd h<|Qk6 _) λi h hs=>absurd hs<|Nat.not_lt.mpr h
def HW{α:Type}(xs)(p)(x:α)(h:p<=xs.size):(SetTable.insertAt xs p x).size=xs.size+1:=by unfold SetTable.insertAt;simp;omega
def zm(xs)(p x)(h:p<=xs.size)(i)(hi:i<xs.size+1):(SetTable.insertAt xs p x).getD i 0=if i<p then xs.getD i 0 else if i=p then x else xs.getD (i - 1) 0:=by
 have e:(SetTable.insertAt xs p x).getD i 0=((xs.toList.take p++[x])++xs.toList.drop p).getD i 0:=by
  have:(SetTable.insertAt xs p x).toList=(xs.toList.take p++[x])++xs.toList.drop p:=by unfold SetTable.insertAt;simp[Array.toList_extract,List.extract];exact Qz8 (by rw[Qz5,Qz2];exact Qq0 _)
  rw[<-this,Qkw,Qq6,Qk2]
 rw[e,Qq6];have hl:(xs.toList.take p).length=p:=by simp;omega
 by_cases c:i<p;rw[Qv4 c,Qxx,Qxj (by omega),Qjz c,Qk2,Qkw];rw[Qv5 c];by_cases c2:i=p;rw[Qv4 c2,Qxx,Qx6 (by omega),hl,c2,Q14];rfl;rw[Qv5 c2,Qx6 (by rw[Qqv,hl,Qwj];omega),Qqv,hl,Qwj,List.getElem?_drop,Qk2,Qkw,show p+(i - (p+1))=i - 1 by omega]
def Ris.insert(R:Ris xs)(hj:∀i,i<xs.size->xs.getD i 0≠j):Ris (SetTable.insertAt xs (SetTable.below xs j) j):=by
 obtain⟨b1,b2,b3⟩:=PL R j;generalize SetTable.below xs j=p at *;intro a b hab hb;rw[HW _ _ _ b1] at hb;rw[zm _ _ _ b1 a (by omega),zm _ _ _ b1 b (by omega)];by_cases ca:a<p;rw[Qv4 ca];by_cases cb:b<p;rw[Qv4 cb];exact R a b hab (by omega);rw[Qv5 cb];by_cases cb2:b=p;rw[Qv4 cb2];exact b2 a ca;rw[Qv5 cb2];exact R a (b - 1) (by omega) (by omega);rw[Qv5 ca,Qv5<|show ¬b<p by omega,Qv5<|show b≠p by omega];by_cases ca2:a=p;rw[Qv4 ca2];have h1:=b3 (b - 1) (by omega) (by omega);have h2:=hj (b - 1) (by omega);omega;rw[Qv5 ca2];exact R (a - 1) (b - 1) (by omega) (by omega)
theorem Fj(hd:t.dummies=#[]):∀n p j d,p.dummy=none->SetTable.probe.go t hashAt h n p=some (.empty j d)->d=none/\t.slot j=.empty
 |0,p,j,d,_,e=>by unfold SetTable.probe.go at e;cases e
 |n+1,p,j,d,hp,e=>by
  unfold SetTable.probe.go at e;cases hs:t.slot p.j with
  |empty=>rw[hs] at e;cases e;exact⟨hp,hs⟩|dummy=>exfalso;unfold SetTable.slot at hs;dsimp only at hs;split at hs;cases hs;split at hs;rename_i h2;rw[hd] at h2;unfold SetTable.has at h2;simp at h2;cases hs|live i=>rw[hs] at e;dsimp only at e;split at e;cases e;refine Fj hd n _ j d ?_ e;unfold SetTable.advance;split;exact hp;exact hp
def acL{t:SetTable}(hd:t.dummies=#[])(e:t.freeSlot h=some (j,b)):b=false/\t.place[SetTable.below t.place j]? ≠ some j:=by
 unfold SetTable.freeSlot at e;split at e;rename_i j' d hp;obtain⟨rfl,hs⟩:=Fj hd _ _ _ _ rfl hp;cases e;refine⟨rfl,λz=>?_⟩;change t.place[SetTable.below t.place j']?=some j' at z;unfold SetTable.slot at hs;dsimp only at hs;rw[z] at hs;simp at hs;cases e
structure Pl(t:SetTable):Prop where
 dm:t.dummies=#[]
 ri:Ris t.place
def Pl.put(p:Pl t)(h:t.place[SetTable.below t.place j]? ≠ some j):Pl (t.put j).1:=by
 refine⟨?_,?_⟩;show(if SetTable.has t.dummies j then _ else t.dummies)=#[];rw[p.dm];unfold SetTable.has;simp;show Ris (SetTable.insertAt t.place (SetTable.below t.place j) j);refine p.ri.insert λi hi z=>h ?_;obtain⟨b1,b2,b3⟩:=PL p.ri j;have:SetTable.below t.place j=i:=by
  rcases Nat.lt_trichotomy (SetTable.below t.place j) i with c|c|c;have h1:=b3 _ (Qq0 _) (by omega);have h2:=p.ri _ i c hi;omega;exact c;have:=b2 i c;omega
 rw[this];rw[Qkw] at z;rw[Array.getElem?_eq_getElem hi] at z ⊢;simpa using z
def Vq(n):Ris (Array.range n):=by
 intro i j h1 h2;simp at h2;have h3:i<n:=by omega
 simp[Array.getD,h2,h3,h1]
def Pl.stand{t:SetTable}(n):Pl (t.standIn n):=⟨rfl,Vq n⟩
def Pl.ab7(p:Pl t)(n):Pl (t.orStandIn n):=by
 unfold SetTable.orStandIn;split;exact p;exact Pl.stand n
def Pl.lay(p:Pl t)(es)(h)(x):Pl (layNew t es h x).2.1:=by
 unfold layNew;split;rename_i sl wd e;exact(p.put (acL p.dm e).2).ab7 _;exact Pl.stand _
def XN{l:List Nat}(h:l.Pairwise (·< ·)):Ris l.toArray:=by
 intro i j h1 h2;simp at h2;have h3:i<l.length:=by omega
 have:=List.pairwise_iff_getElem.mp h i j h3 h2 h1;simpa[Array.getD,h2,h3] using this
def Pl.ahW(es)(n):Pl (relayAll t es n).2.1:=by
 unfold relayAll;split;rename_i t' order e;dsimp only;split;unfold SetTable.relaid SetTable.laid at e;cases h1:SetTable.layClean (SetTable.sizeAbove n - 1) (es.map (·.1)) with
 |none=>rw[h1] at e;cases e
 |some ow=>
  rw[h1] at e;injection e with e
  injection e with e _
  subst e;refine⟨rfl,XN ?_⟩;generalize SetTable.sizeAbove n - 1+1=m;have:∀l:List Nat,l.Pairwise (·< ·)->((l.filterMap λj=>(ow.getD j none).map (j,·)).map (·.1)).Pairwise (·< ·):=by
   intro l hl;have e2:(l.filterMap λj=>(ow.getD j none).map (j,·)).map (·.1)=l.filter λj=>(ow.getD j none).isSome:=by
    clear hl;induction l with
    |nil=>rfl
    |cons a l ih=>
     rw[Qvx,List.filter_cons];cases ow.getD a none with
     |none=>simpa using ih|some v=>exact Qx1 (a :: ·) ih
   rw[e2];exact hl.filter _
  exact this _ List.pairwise_lt_range
 exact Pl.stand _;exact Pl.stand _
open SX (led Ko Dq za vY DX Dn fresh)
def G4(ys:List Int)(x:Int):List Int:=if x∈ys then ys else ys++[x]
def vg(zs:List Int):List Int:=zs.foldl G4 []
def aaR(ys)(x):(G4 ys x).length<=ys.length+1:=by
 unfold G4;split;omega;simp
def vf(zs:List Int):∀ys,(zs.foldl G4 ys).length<=ys.length+zs.length:=by
 induction zs with
 |nil=>intro ys;exact Qq0 _|cons z zs ih=>intro ys;rw[Qj5,Qqy];have:=ih<|G4 ys z;have:=aaR ys z;omega
structure TOk(P:Program)(w:World)(es:Array (Int×Value))(t:SetTable)(ys:List Int):Prop where
 el:ElemsOf (intKind P w) es.toList
 tx:∃ss:List Int,IntsAre (es.toList.map (·.2)) ss/\ss.Perm ys
 fit:t.fits es.size=true
 ld:t.led=led w
 pl:Pl t
def xZ(P:Program)(w:World)(h:Heap)(a:Addr)(ys:List Int):Prop:=
 ∃o es ep t,h.get? a=some o/\o.ExactSet/\o.data=.set es ep t/\TOk P w es t ys
def xZ.keep(x:xZ P w h a ys)(k:∀o,h.get? a=some o->h'.get? a=some o):xZ P w h' a ys:=
 let ⟨o,es,ep,t,e,r⟩:=x;⟨o,es,ep,t,k o e,r⟩
def Ov(h:IntsAre vs ss):vs.length=ss.length:=by
 induction h with
 |nil=>rfl|cons _ _ _ ih=>simp[ih]
def Z9(h:IntsAre vs ss):∀v∈vs,∃x t,v=.int x t/\x∈ss:=by
 induction h with
 |nil=>intro v hv;cases hv|cons y t _ ih=>intro v hv;rcases Qq4.mp hv with rfl|hv;exact⟨y,t,rfl,Qqj⟩;obtain⟨x,t,e,m⟩:=ih v hv;exact⟨x,t,e,Qqk _ m⟩
def Wb(h:IntsAre vs ss):∀x∈ss,∃t,Value.int x t∈vs:=by
 induction h with
 |nil=>intro x hx;cases hx|cons y t _ ih=>intro x hx;rcases Qq4.mp hx with rfl|hx;exact⟨t,Qqj⟩;obtain⟨t,m⟩:=ih x hx;exact⟨t,Qqk _ m⟩
def ints_app(h:IntsAre vs ss)(g:IntsAre us rs):IntsAre (vs++us) (ss++rs):=by
 induction h with
 |nil=>exact g|cons y t _ ih=>exact .cons y t ih
def Jo(p:us.Perm vs):∀{ss},IntsAre vs ss->∃rs,IntsAre us rs/\rs.Perm ss:=by
 induction p with
 |nil=>intro ss h;exact⟨ss,h,.rfl⟩
 |cons x _ ih=>
  intro ss h;cases h with
  |cons y t h=>obtain⟨rs,h1,h2⟩:=ih h;exact⟨y::rs,.cons y t h1,h2.cons y⟩
 |swap x y l=>
  intro ss h;cases h with
  |cons a t h=>cases h with
   |cons b u h=>exact⟨b::a::_,.cons b u<|.cons a t h,.swap _ _ _⟩
 |trans _ _ ih1 ih2=>intro ss h;obtain⟨rs,h1,h2⟩:=ih2 h;obtain⟨qs,h3,h4⟩:=ih1 h1;exact⟨qs,h3,h4.trans h2⟩
def TOk.size(x:TOk P w es t ys):es.size=ys.length:=by obtain⟨ss,h1,h2⟩:=x.tx;rw[<-h2.length_eq,<-Ov h1,Qqx,Qz2]
section
variable{P:Program}{w:World}{A:Around}{E:Value->Shared->Prop}{s:Shared}{a:Addr}
def store(ho:s.heap.get? a=some o)(hx:o.ExactSet)(hd:o.data=.set es ep t)(k:TOk P w es' t' ys)(hz:ys.length<scanBound)
  (h:∀g o',Heap.SameBut a s.heap g->g.get? a=some o'->o'.ExactSet->o'.data=.set es' (ep+1) t'->Q () { s with heap:=g }):wpAny (model P w) A (storeSet a es' t') Q E s:=by
 have hb:es'.size<scanBound:=by rw[k.size];exact hz
 refine wpAny_storeSet_of ho hd ?_<|fits_of_scanBound hb;have e:=Qhk (Obj.putSet es' t') ho (by rw[putSet_of es' t' hd];rfl);rw[putSet_of es' t' hd] at e;exact h _ _ (Qd5 s.heap a _) e hx rfl
def WN(ho:s.heap.get? a=some o)(hx:o.ExactSet)(hd:o.data=.set es ep t)(x:TOk P w es t ys)(hz:ys.length+1<scanBound)
  (h:∀g b,Heap.SameBut a s.heap g->xZ P w g a (G4 ys k)->Q b { s with heap:=g }):wpAny (model P w) A (setAddHashed a (.int k tk) ((intKind P w).hash k)) Q E s:=by
 have hk:=intKind_is P w k tk;have hsc:(Value.int k tk).scannable=true:=rfl;have hb:es.size<scanBound:=by rw[x.size];omega
 unfold setAddHashed setAddHashedIn;refine Qzj<|Qqq<|wpAny_setState_of ho hd x.fit ?_;dsimp only;rw[Qv4 (byScan_of hsc hb x.el)];unfold setAddByScan;refine Qqq<|Qqq<|Qy5<|Qqq<|wpAny_setScan_of hk ho hd x.fit x.el ?_;obtain⟨ss,s1,s2⟩:=x.tx;cases hr:es.toList.findIdx? (λe=>(intKind P w).is k e.2) with
 |some j=>
  dsimp only;obtain⟨hj,hpj,_⟩:=List.findIdx?_eq_some_iff_getElem.mp hr;refine Qq2<|Qq2 ?_;have hm:k∈ys:=by obtain⟨y,u,e1,e2⟩:=Z9 s1 (es.toList[j].2)<|Qwq.mpr ⟨_,Qzw hj,rfl⟩;rw[e1] at hpj;have:=(intKind P w).inj _ _ _ hpj<|intKind_is P w y u;subst this;exact s2.mem_iff.mp e2
  have:=h s.heap false (Heap.SameBut.refl a s.heap) (by rw[G4,Qv4 hm];exact⟨o,es,ep,t,ho,hx,hd,x⟩);cases s;exact this
 |none=>
  dsimp only;have hm:k ∉ ys:=λz=>by
   obtain⟨u,hu⟩:=Wb s1 k<|s2.mem_iff.mpr z;obtain⟨e,he,e2⟩:=Qwq.mp hu;have:=List.findIdx?_eq_none_iff.mp hr e he;rw[e2,intKind_is] at this;cases this
  have hp:=layNew_perm t es ((intKind P w).hash k)<|.int k tk;have hf:=layNew_fits t es ((intKind P w).hash k)<|.int k tk;have hl:=Dq t es ((intKind P w).hash k)<|.int k tk;have hpp:=x.pl.lay es ((intKind P w).hash k)<|.int k tk;generalize layNew t es ((intKind P w).hash k) (.int k tk)=L at hp hf hl hpp ⊢;obtain⟨e1,t1,wd,gv⟩:=L;dsimp only at hp hf hl hpp ⊢;rw[Array.toList_push] at hp;have hel:=(x.el.push hk hsc).perm hp;have htx:∃ss,IntsAre (e1.toList.map (·.2)) ss/\ss.Perm (ys++[k]):=by obtain⟨rs,h2,h3⟩:=Jo (hp.map (·.2)) (by rw[Qw7];exact (ints_app s1<|.cons k tk .nil));exact⟨rs,h2,h3.trans<|s2.append_right [k]⟩
  have hxy:G4 ys k=ys++[k]:=by rw[G4,Qv5 hm]
  have hyz:(ys++[k]).length<scanBound:=by rw[Qqv];exact hz
  refine Qqq<|DX _ ?_;/- the table that is laid down -/
  have hend:∀t2,t2.fits e1.size=true->t2.led=led w->Pl t2->wpAny (model P w) A (do
    storeSet a e1 t2
    if (!wd&&t2.tooFull)=true then do
      (match (relayAll t2 e1<|SetTable.grown e1.size).2.2 with|true=>rule "set.scan.the-table-gave-way" | false=>pure ())
      storeSet a (relayAll t2 e1<|SetTable.grown e1.size).1 (relayAll t2 e1<|SetTable.grown e1.size).2.1
      pure (some true)
     else pure (some true)) (λr s'=>wpAny (model P w) A (match r with|some added=>pure added|none=>setAddHashedIn a (.int k tk) ((intKind P w).hash k) 99999) Q E s') E s:=by
   intro t2 f2 l2 p2;have k2:TOk P w e1 t2 (ys++[k]):=⟨hel,htx,f2,l2,p2⟩;refine Qqq<|store ho hx hd k2 hyz λg o1 sb go gx gd=>?_;split;have rp:=relayAll_perm t2 e1<|SetTable.grown e1.size;have rf:=relayAll_fits t2 e1<|SetTable.grown e1.size;have rl:=vY t2 e1<|SetTable.grown e1.size;have rq:=Pl.ahW (t:=t2) e1<|SetTable.grown e1.size;generalize relayAll t2 e1 (SetTable.grown e1.size)=L at rp rf rl rq ⊢;obtain⟨e3,t3,gv3⟩:=L;dsimp only at rp rf rl rq ⊢;obtain⟨r1,q1,q2⟩:=htx;obtain⟨rs,h2,h3⟩:=Jo (rp.map (·.2)) q1;have k3:TOk P w e3 t3 (ys++[k]):=⟨hel.perm rp,⟨rs,h2,h3.trans q2⟩,rf,rl.1.trans l2,rq⟩;refine Qqq<|DX _ ?_;refine Qqq<|store go gx gd k3 hyz λg2 o2 sb2 go2 gx2 gd2=>?_;refine Qq2<|Qq2 ?_;exact h g2 true (sb.trans sb2) (by rw[hxy];exact⟨o2,_,_,_,go2,gx2,gd2,k3⟩);refine Qq2<|Qq2 ?_;exact h g true sb (by rw[hxy];exact⟨o1,_,_,_,go,gx,gd,k2⟩)
  split;rename_i hpl;refine Qqq ?_;rw[hashByValue_scannable 8 hsc];refine Qq2 ?_;exact hend _ (by split;exact hf;exact SetTable.fits_plain_off hf) (by split<;>exact hl.1.trans x.ld) (by split;exact hpp;exact⟨hpp.dm,hpp.ri⟩);rename_i hpl;refine Qqq<|Qq2 ?_;simp only[↓reduceIte];exact hend _ hf (hl.1.trans x.ld) hpp
def seen(val:Nat->Int)(i:Nat):List Int:=((List.range i).map val).foldl G4 []
def Vi(val)(i):seen val (i+1)=G4 (seen val i) (val i):=by
 unfold seen;rw[List.range_succ,Qw7,Qgx]
 rfl
def Xy(val)(i):(seen val i).length<=i:=by
 have:=vf ((List.range i).map val) []
 simpa[seen] using this
def fill{St:Nat->Shared->Prop}(W:WalksS P w A.in1 I fp wr G n Pi St)(ha:a ∉ fp)
  (hv:∀i v,Pi i v->∃t,v=.int (val i) t) (hb:n+1<scanBound) (d):∀i s,i+d=n->St i s->xZ P w s.heap a (seen val i)->(∀s',Moved (a::wr) G s s'->xZ P w s'.heap a (seen val n)->R (.ok (.ret .none)) s')->
  codeAny (model P w) A (.builtin "set.update.loop" ⟨[.ref a,.ref I],[]⟩) R s:=by
 have hw:=λz=>ha<|W.sub _ z;have up:∀b∈wr,b∈a::wr:=λb z=>Qqk _ z;induction d with
 |zero=>intro i s e st x hR;obtain rfl:i=n:=e;refine Qk0 Qy1 ?_;rw[Qjy Qyx _];show wpAny _ _ (pyNext (.ref I) >>= _) _ _ _;refine Qqq<|W.done s _ _ st λs' m=>?_;show wpAny _ _ (ret .none) _ _ _;exact Qq2<|hR s' (m.mono up)<|x.keep λo z=>m.heap a o hw z|succ d ih=>intro i s e st x hR;refine Qk0 Qy1 ?_;rw[Qjy Qyx _];show wpAny _ _ (pyNext (.ref I) >>= _) _ _ _;refine Qqq<|W.item i s _ _ (by omega) st λv s' pv st' m=>?_;obtain⟨t,rfl⟩:=hv i v pv;show wpAny _ _ (holding _ (setAdd a _) >>= _) _ _ _;unfold setAdd;refine Qqq<|Qzj<|Qzj<|Qqq<|(intKind P w).pyHash (intKind_is P w (val i) t) ?_;obtain⟨o,es,ep,tb,ho,hx,hd,k⟩:=x.keep λo z=>m.heap a o hw z;refine WN ho hx hd k (by have:=Xy val i;omega) λg b sb y=>?_;rw[<-Vi] at y;refine Qq2 ⟨Qy9 Qyx _,ih (i+1) _ (by omega) (W.frame _ s' _ _ st' (Qdz _) λc hc u z=>?_) y λs2 m2 x2=>?_⟩;exact(sb.2 c<|λq=>ha<|q ▸ hc).trans z;refine hR s2 (Moved.trans W.gtrans ((m.mono up).then_heap (Qdz _) λc u hc z=>?_) m2) x2;exact(sb.2 c<|λq=>hc<|q ▸ Qqj).trans z
def aam(h)(e:h.get? a=some (fresh w)):xZ P w h a []:=
 ⟨_, #[],0,_,e,⟨rfl,rfl,rfl⟩,rfl,⟨λ_ z=>by simp at z,⟨[],.nil,.rfl⟩,rfl,rfl,⟨rfl,λi j _ h=>absurd h<|Qk6 _⟩⟩⟩
def aeQ{l:Addr}{its:Array Value}{zs:List Int}{Q:Value->Shared->Prop}(hh:A.handled=none)(hl:s.heap.IsList l its)(hi:IntsAre its.toList zs)(hb:zs.length+1<scanBound)
  (h:∀(g:Heap) (tk:Nat),xZ P w g s.heap.objs.size (vg zs)->(∀b o,s.heap.get? b=some o->g.get? b=some o)->Q (.ref s.heap.objs.size) { s with heap:=g,toks:=tk }) :
  wpAny (model P w) A (call (.type "set") [.ref l]) Q E s:=by
 obtain⟨c,tl,mro⟩:=PySem.F.called_set.mro;have made:=PySem.F.called_set.made;have sub:=PySem.F.called_set.sub;refine wpAny_call (codeAny_of_tree ?_);show wpAny _ _ (callAny (.type "set") _) _ _ _;refine Qq2 ⟨Code.quiet_builtin _ (by decide +kernel),Qk0 PySem.F.entry_type_call ?_⟩;rw[Around.under_plain (weight_type_call_type "set" [.ref l] []) rfl];have c1:=PySem.F.called_set.notType;have c2:=PySem.F.called_set.canCreate;have c3:=PySem.F.typeCall_set_1 (.ref l);repeat (any_goals (first|assumption|wp_step))
 refine Qfq (Dn (.ref l) (E:=E) (Q:=λv s1=>v=.ref s.heap.objs.size/\s1={ s with heap:=s.heap.push (fresh w) }) ⟨rfl,rfl⟩) λr s1 hr=>?_;have hlen:its.size=zs.length:=by rw[<-Qz2];exact Ov hi
 cases r with
 |error e=>exact hr
 |ok fl=>
  cases fl with
  |ret v=>
   obtain⟨rfl,rfl⟩:=hr;have e0:(s.heap.push (fresh w)).get? s.heap.objs.size=some (fresh w):=Qwv _ rfl;have hT:Shared.TypeIs { s with heap:=s.heap.push (fresh w) } (.ref s.heap.objs.size) "set":=⟨_,e0,rfl⟩;have c4:=PySem.F.called_set.init.lookup;have c5:=PySem.F.called_set.init.bind (.ref s.heap.objs.size);repeat (any_goals (first|assumption|wp_step))
   refine Qfq (codeAny_call_builtin (R:=wants (λr s2=>r=.none/\∃g tk,s2={ s with heap:=g,toks:=tk }/\xZ P w g s.heap.objs.size (vg zs)/\(∀b o,s.heap.get? b=some o->g.get? b=some o)) E)
    PySem.F.called_set.init.plain PySem.F.entry_set_init (check_set_init_1 hT ?_)) λr2 s2 hr2=>?_
   obtain⟨ol,hol,hcl,nl,hdl⟩:=hl;obtain⟨ocls,odict,odata,oslots⟩:=ol;simp only at hcl hdl;subst hcl;subst hdl;have hol':(s.heap.push (fresh w)).get? l=some { cls:=.type "list",dict:=odict,data:=.seq its nl,slots:=oslots }:=Qqz _ hol;have l1:(s.heap.push (fresh w)).IsList l its:=⟨_,hol',rfl,nl,rfl⟩;have n1:=PySem.F.sub_list_set;have n2:=PySem.F.sub_list_frozenset;have n3:(Value.type "list" == Value.type "dict")=false:=by decide
   have e1:(s.heap.push (fresh w)).get? s.heap.objs.size=some { cls:=.type "set",dict:=none,data:=.set #[] 0 (.fresh 0 0 (led w)) }:=e0;unfold Builtin.«set.__init__» noKeywords Builtin.Frozenset.updateFrom;generalize hPI:pyIter=PI;wp_walk;subst hPI;refine Qk8 l1 (Qqq (wpAny_runValue ?_));have lt:l<s.heap.objs.size:=Qq9 hol;have sz:(s.heap.push (fresh w)).objs.size=s.heap.objs.size+1:=Qx5 _ _;have hh3:A.in1.in1.in1.handled=none:=by simp[hh]
   have a1:l≠(s.heap.push (fresh w)).objs.size:=by rw[sz];exact Qxq (Qv0 lt)
   have a2:s.heap.objs.size ∉ [(s.heap.push (fresh w)).objs.size,l]:=by rw[sz];simp only[Qq4,Qw6,Qz9,Qhq];exact⟨Qxq (Nat.lt_succ_self _),Qz7 lt⟩
   have hv:∀(i:Nat) (v:Value),its[i]?=some v->∃t,v=.int (zs.getD i 0) t:=by
    have:∀{vs:List Value} {ss:List Int},IntsAre vs ss->∀(i:Nat) (v:Value),vs[i]?=some v->∃t,v=.int (ss.getD i 0) t:=by
     intro vs ss q;induction q with
     |nil=>intro i v z;simp at z
     |cons y t _ ih=>
      intro i v z;cases i with
      |zero=>simp at z;exact⟨t,z.symm⟩|succ i=>simpa using ih i v (by simpa using z)
    exact λi v z=>this hi i v (by rw[Qk2];exact z)
   refine fill ((Walks.list hh3 _ l a1 its).toS) a2 (val:=λi=>zs.getD i 0) hv (by omega) its.size 0 _ (by omega) ⟨⟨_,Qwv _ rfl,rfl,rfl⟩,l1.push _⟩ (aam _ (Qqz _ e0)) λs' m x=>?_;have es:seen (λi=>zs.getD i 0) its.size=vg zs:=by
    unfold seen vg;congr 1;rw[hlen];apply List.ext_getElem;simp;intro i h1 h2;simp[Qq6,h2]
   rw[es] at x;obtain⟨g,gn,dr,tk,os⟩:=s';have q1:gn=s.gens:=m.gens;have q2:dr=s.drawn:=m.drawn;have q3:os=s.os:=m.os;subst q1 q2 q3;refine Qq2 ?_;show wpAny _ _ (ret .none) _ _ _;refine Qq2 ⟨rfl,g,tk,rfl,x,λb o e=>?_⟩;have hb1:b<s.heap.objs.size:=Qq9 e;refine m.heap b o ?_ (Qqz _ (Qqz _ e));rw[sz];simp only[Qq4,Qw6,Qz9,Qhq];exact⟨Qxq hb1,Qxq (Qv0 hb1)⟩;cases r2 with
   |error e=>exact hr2
   |ok fl2=>
    cases fl2 with
    |ret r=>
     obtain⟨rfl,g,tk,rfl,x,k⟩:=hr2;repeat (any_goals (first|assumption|wp_step))
     exact h _ _ x k
    |_=>exact hr2.elim
  |_=>exact hr.elim
end
open PySem PySem.Spec PyProof.Rows L2 PySem.Builtin Ev
def aaW(P:Program)(w:World)(a:Addr)(ys:List Int):HO:=.ext λh=>xZ P w h a ys
end SI
namespace Ev
open PySem PySem.Spec PyProof.Rows L2 PySem.Builtin
def Gh:List D->Option (List Int)
 |[]=>some []|.int i::ds=>(Gh ds).map (i :: ·)|_=>none
theorem Ow:∀zs,Gh (zs.map .int)=some zs
 |[]=>rfl|z::zs=>by show(Gh<|zs.map .int).map _=_;rw[Ow zs];rfl
theorem Fb{K:Fg}:∀{ds} {zs} {vs},Gh ds=some zs->cN K F ds vs->vs=zs.map V.int
 |[],zs,vs,e,h=>by cases e;cases h;rfl
 |d::ds,zs,vs,e,h=>by
  cases d with
  |int i=>obtain⟨ys,e1,rfl⟩:=Qwz.mp<|show(Gh ds).map (i :: ·)=some zs from e;obtain⟨v,r,rfl,h1,h2⟩:=h;cases h1;rw[Fb e1 h2];rfl|_=>cases e
instance (zs:List Int):Decidable (zs.Pairwise (·< ·)):=inferInstance
open PySem PySem.Spec PyProof.Rows L2
def S6(i:Nat)(a:Ev):cu:=λenv=>match env[i]? with
 |some (some (false,.int k))=>kY (a env) λd aR=>(match d with
  |.int j=>.nx (aR.set i (some (false,.int (k+j))))|_=>.stuck)
 |_=>.stuck
section
variable{X:Cx}{C:Cfg}{pos pos':Pos}{x:Str}{e:Expr}{a:Ev}{T:Hp}{p:Pos}{n:Str}{es:List Expr}{ea:eZ}
def aeU(i)(he:SX X C e a)(hnd:qp X.N=true:=by rfl)(hfx:C.fx i=none:=by rfl)(hi:X.N[i]?=some n:=by rfl)(hx:Loc X.env.scope n:=by first|exact .inl rfl|exact .inr rfl)
  (hf:X.fn n=true\/X.env.scope.names.lookup n=some .local:=by first|exact .inl rfl|exact .inr rfl):Qg X C (.AugAssign (.Name n pos') .Add e pos) (S6 i a):=⟨(afe (mR hnd) hi hx he.u agm hf).imp λD σ H h=>by
  obtain⟨Pr,F,env,r,f⟩:=h;unfold S6 at f;split at f
  rename_i k h0;obtain⟨d,aR,e1,f1⟩:=fL f;split at f1
  rename_i j;obtain⟨v,h1,h2⟩:=r.val i _ h0;cases h2;exact⟨_,h1,Pr,F,env,aR,.int j,r,e1,λv2 H1 F1 r1 s1 p1=>⟨k,j,rfl,p1,f1 _ H1 F1 (r1.put hfx rfl) s1⟩⟩
  exact f1.elim
  exact f.elim⟩
end
section
variable{P:Program}{w:World}{A:Around}{E:Value->Shared->Prop}{s:Shared}{it d:Addr}{es:Array DictEntry}{ep i:Nat}
def adk(h:Heap)(d:Addr)(es:Array DictEntry)(ep:Nat):Prop:=∃o,h.get? d=some o/\o.ExactDict/\o.data=.dict es ep
def adk.ty(r:adk s.heap d es ep):s.TypeIs (.ref d) "dict":=let ⟨o,ho,hc,_⟩:=r;⟨o,ho,hc.1⟩
end
end Ev
namespace SI
open PySem PySem.Spec PyProof.Rows L2 PySem.Builtin
def Ti(X:Cx):List V->Hp->VK->Prop:=λxs H Q=>∃(p:Addr) (zs:List Int),xs=[.ref p]/\lK X.K H p (zs.map V.int)/\zs.length<4000/\∀l,H l=none->Q (.ref l) (upd H l (aaW X.prog X.w l (vg zs)))
def adL(X:Cx):List V->Hp->VK->Prop:=λxs H Q=>∃(p:Addr) (zs:List Int),xs=[.ref p]/\H p=some (aaW X.prog X.w p zs)/\zs.length<4000/\Q (.int zs.length) H
section
variable{X:Cx}{C:Cfg}{pos:Pos}
def Ww(hc:X.calm=true):jQ X (.type "set") (Ti X):=by intro pins s σ H xs us Q I r h;obtain⟨p,zs,rfl,hq,hz,q⟩:=h;obtain⟨u,rfl,rx⟩:=vals1 r;cases rx;obtain⟨its,r',pl,_⟩:=I.list hq;refine aeQ (I.ok.hd hc) pl.isList (by simpa using (intsAre_of r')) (Qw3 (Nat.succ_le_of_lt hz) (by decide)) λg tk x k=>?_;refine⟨.ref s.heap.objs.size,_,I.laid k (Qq0 _) (o:=aaW X.prog X.w s.heap.objs.size<|vg zs) ⟨x,?_,λh1 h2 y kk=>y.keep kk⟩,rfl,q _<|I.hok.fresh<|Qq0 _⟩;obtain⟨o,_,_,_,e,_⟩:=x;exact⟨o,e⟩
def Wz:jQ X (.builtin "len") (adL X):=by intro pins s σ H xs us Q I r h;obtain⟨p,zs,rfl,hq,hz,q⟩:=h;obtain⟨u,rfl,rx⟩:=vals1 r;cases rx;obtain⟨o,es,ep,t,e1,e2,e3,k⟩:=((I.hok p _ hq).1);have hsz:=k.size;refine call_len_set e1 e2 e3 k.fit (by rw[hsz];omega) ⟨.int zs.length,H,I.tok _,⟨s.toks+1,by rw[hsz]⟩,q⟩
end
end SI
namespace Ev
open PySem PySem.Spec PyProof.Rows L2 PySem.Builtin
noncomputable def nG:D->Option D
 |.lst ds=>(Gh ds).bind λzs=>if zs.length<4000 then some (.int (SI.vg zs).length) else none|_=>none
section
variable{X:Cx}{C:Cfg}{pos p p2 pos2:Pos}{e:Expr}{a:Ev}
end
variable{X:Cx}{C:Cfg}{pos p p2 pos2:Pos}{e:Expr}{a:Ev}
def Im(G:Good X C)(h1:X.mg "len"=none)(h2:X.mg "set"=none)(ha:SX X C e a)(g1:Gl X "len":=by rfl)(g2:Gl X "set":=by rfl)
  (he:IK e X.env:=by rfl)
  (he2:starEach [.Call (.Name "set" p2) [e] [] pos2] X.env=(false,eval (.Call (.Name "set" p2) [e] [] pos2) X.env)::starEach [] X.env:=by rfl) :
  SX X C (.Call (.Name "len" p) [.Call (.Name "set" p2) [e] [] pos2] [] pos) (kh nG a):=⟨by
 have i1:PE X (.Call (.Name "set" p2) [e] [] pos2) _:=Aw (SI.Ww G.calm) g2 h2 (by decide +kernel) (j7 ha.u rT he) (by decide) (by decide) he rfl;have i2:PE X (.Call (.Name "len" p) [.Call (.Name "set" p2) [e] [] pos2] [] pos) _:=Fp SI.Wz g1 h1 (by decide +kernel) (j7 i1 rT he2) (by decide) (by decide) he2 rfl;refine i2.imp λσ H Q hq=>?_;obtain⟨Pr,F,env,env',d,r,e0,q⟩:=hq;obtain⟨x,aR,e1,e2⟩:=bf e0;obtain⟨e3,rfl⟩:=d7 e2;refine⟨Pr,F,env,env',x,r,e1,λv H1 F1 r1 s1 p1=>?_⟩;unfold nG at e3;split at e3
 rename_i ds;obtain⟨zs,e4,e5⟩:=Qx0.mp e3;split at e5
 rename_i hz;cases e5;obtain⟨z,b,ws,rfl,k1,k2⟩:=jt.lst r1.fr<|.inl p1;have e6:=Fb e4 k2;subst e6;refine⟨b,zs,rfl,lK.of k1,hz,λl hl=>?_⟩;have r2:=r1.fresh (o:=SI.aaW X.prog X.w l<|SI.vg zs) hl;have hu:(SI.vg zs).length<4000:=by have:=SI.vf zs [];rw[Qx2] at this;unfold SI.vg;omega
 exact⟨l,SI.vg zs,rfl,bA,hu,q _ _ _ r2 s1 rfl⟩
 cases e5
 cases e3⟩
open PySem PySem.Spec PyProof.Rows L2
section
variable{P:Program}{w:World}{A:Around}{E:Value->Shared->Prop}{s:Shared}{d:Addr}{es:Array DictEntry}{ep:Nat}{X:Cx}{C:Cfg}{e:Expr}{ea:eZ}{p pos:Pos}
def X3(lo:(d == sysModules)=false):MeetsIn P w (Builtin.«dict.__len__» ⟨[.ref d],[]⟩) (λ_ R s=>∃es ep,adk s.heap d es ep/\R (.ok (.ret (.int es.size s.toks))) { s with toks:=s.toks+1 }):=
 .of_wp λA R s ⟨es,ep,⟨o,ho,_,hdat⟩,h⟩=>by
  show wpAny _ _ (dictSize d >>= _) _ _ _;unfold dictSize;refine Qqq<|Qqq<|wpAny_dictEntries ho hdat<|Qq2 ?_;show wpAny _ _ (Builtin.Dict.pendingCount d >>= _) _ _ _;exact Qqq<|wpAny_pendingCount_other lo<|Q01 (by rw[Nat.add_zero];exact h)
def abz(lo:(d == sysModules)=false)(r:adk s.heap d es ep)(hz:es.size<=sizeLine)(h:Q (.int es.size (s.toks+1)) { s with toks:=s.toks+1+1 }):wpAny (model P w) A (call (.builtin "len") [.ref d]) Q E s:=by
 have hf:es.size<2^63:=by rw[Qy3] at hz;omega
 refine Qf7 kind_len plain_len entry_len (args_len1 _) ?_;unfold Builtin.«len»;refine Qqq<|Qq2<|Qqq<|Qz6 r.ty F.slot_dict_len<|call_meetsIn F.slot_dict_len r.ty F.entry_dict_len (F.args_dict_len_1 _) (X3 lo) ⟨es,ep,r,?_⟩;refine Qqq<|Qzj<|Qq2<|Qqq<|Q1v ?_;show wpAny _ _ (if (es.size:Int)<0 then _ else _) _ _ _;rw[Qv5 (by omega)];show wpAny _ _ (if (es.size:Int) ≥ 2^63 then _ else _) _ _ _;rw[Qv5 (by omega)];exact Qqq<|wpAny_mkInt<|Qq2 ⟨_,rfl,h⟩
abbrev X8(K:Fg):List V->Hp->VK->Prop:=λxs H Q=>∃p ks kvs,xs=[.ref p]/\Rd H p (.dN ks)/\eU K H kvs ks/\Q (.int ks.length) H
def WD:jQ X (.builtin "len") (X8 X.K):=by
 intro pins s σ H xs us Q I r h;obtain⟨p,ks,kvs,rfl,hq,hr,q⟩:=h;obtain⟨u,rfl,rx⟩:=vals1 r;cases rx;obtain⟨z,lo,xs,kn,o,es,ep,h1,h2,h3,h4,_,_⟩:=GD I hq hr;have hsz:es.size=ks.length:=by rw[<-Qz2,h4,Qqx,kn.len]
 exact abz lo ⟨o,h1,h2,h3⟩ (by rw[hsz];exact z) ⟨.int ks.length,H,I.tok _,⟨s.toks+1,by rw[hsz]⟩,q⟩
def Js:List D->Option D
 |[.iY kvs]=>some (.int kvs.length)|_=>none
def ac0:CallD C (X8 C.K) Js:=by
 intro Pr F env σ H ds d vs Q r hs h q;unfold Js at h;split at h;rename_i kvs;cases h;obtain⟨v,rfl,hv⟩:=nR hs;obtain⟨_,a,ks,rfl,h1,h2⟩:=hv.iY r.fr;refine⟨a,ks,kvs,rfl,h1,eU.mono r.fr _ _ h2,?_⟩;rw[h2.len];exact q _ H F r (bu.refl F) rfl;cases h
def abf(G:Good X C)(hm:X.mg "len"=none)(ha:yc X C [e] ea)(hg:Gl X "len":=by rfl)(he:IK e X.env:=by rfl):SX X C (.Call (.Name "len" p) [e] [] pos) (au Js ea):=⟨ql (by rw[<-G.K];exact WD) ac0 hg hm (by decide +kernel) ha.u (by decide) (by decide) he rfl⟩
end
def Dz(k a:Ev):Ev:=λenv=>bindR (k env) λkd e1=>bindR (a e1) λd e2=>match pP kd with
 |some _=>.ok (.dct [(kd,d)]) e2|none=>.stuck
section
variable{X:Cx}{C:Cfg}{pos:Pos}
end
def Ra(G:Good X C)(hk:SX X C k ek)(hv:SX X C v ev):R9 X C (.Dict [some k] [v] pos) (Dz ek ev):=⟨by
 have h0:PE X (.Dict [some k] [v] pos) (adF [(_,_)]):=ab2 (YG hk.u hv.u abT) rfl rfl (by simp) (by show 1<=15;decide);refine h0.imp λσ H Q hq=>?_;obtain⟨Pr,F,env,env',d,r,e,q⟩:=hq;obtain⟨kd,aR,e1,e2⟩:=bf e;obtain⟨dv,eQ,e3,e4⟩:=bf e2;split at e4
 rename_i qq hqq;cases e4;intro p hp;have ra:=r.aside (o:=.dK []) hp;have nP:=r.pr.free hp;refine⟨upd Pr p<|.dK [],F,env,aR,kd,ra,e1,λx H1 F1 r1 s1 p1=>⟨upd Pr p<|.dK [],F1,aR,env',dv,r1,e3,λy H2 F2 r2 s2 p2=>⟨r2.pr p _ bA,[(qq,y)],by rw[RD hqq p1];rfl,by show 1<=15;decide,?_⟩⟩⟩;have em:Bc [] [(qq,y)]=[(qq,y)]:=rfl;rw[em];have r3:=r2.turn (u:=.dK [(qq,y)]) bA;have nF:F2 p=none:=by
  cases hF:F2 p with
  |none=>rfl|some o=>have:=r2.dj p o hF;rw[bA] at this;cases this
 have r4:Rel C Pr F2 env' σ (upd H2 p<|.dK [(qq,y)]):=r3.less λb o hb=>by
  have hne:b≠p:=λz=>by rw[z,nP] at hb;cases hb
  rw[cj hne,cj hne];exact hb
 refine q p _ F2 r4 (s1.trans s2) ⟨⟨by show 1<=sizeLine;decide,_,bA,⟨qq,y,[],rfl,hqq,p2,rfl⟩⟩,nF,nP,λj e he hs=>?_⟩;obtain⟨b,h1,_,_,h4⟩:=r2.own j e he;rw[hs] at h1;cases h1;rw[bA] at h4;cases h4
 cases e4⟩
end Ev
namespace L2
open PySem PySem.Spec PyProof.Rows PySem.Builtin ZT
def aep(K:PySem.W.Frag)(a:Addr):It:=
 ⟨λi H=>∃xs x,lK K H a xs/\xs[i]?=some x,λi H v H'=>∃p x,(∀xs,lK K H a xs->xs[i]?=some x)/\H p=none/\H'=upd H p (.tup [.int i,x])/\v=.ref p,λi H=>∃xs,lK K H a xs/\i=xs.length⟩
def Qy{K:PySem.W.Frag}(e it a)(hei:e≠it)(hai:a≠it)(hae:a≠e) :
  Turn P w K (.Tuple elts k pos) (aep K a) [e,it] e (λi h=>(∃old,IsEnum h e it i old)/\h.IsListIter it a i) where
 mem:=by simp
 obj:=λi h st b hb=>by
  obtain⟨⟨old,he⟩,o,ho,hc,hd⟩:=st;rcases Qq4.mp hb with rfl|hb;exact⟨_,he,λv z=>by cases z⟩;rw[Qqw.mp hb];exact⟨o,ho,λv z=>by rw[hd] at z;cases z⟩
 keep:=λi h h' st kk=>by
  obtain⟨⟨old,he⟩,o,ho,r⟩:=st;exact⟨⟨old,kk e (by simp) _ he⟩,o,kk it (by simp) o ho,r⟩
 item:=by
  intro X hP hw hK hc i pins s σ H E I hf st hg;subst hP hw hK;obtain⟨⟨old,he⟩,hit⟩:=st;obtain⟨xs,x,hq,hx⟩:=hg;obtain⟨its,rv,pt,hz⟩:=I.list hq;obtain⟨u,hu,ru⟩:=rv.get hx;have lu:i<its.toArray.size:=by rw[Qq3];exact(Qq5.mp hu).1
  have D1:Draws X.prog X.w X.A.in1 it [it,a] _ _ _:=Qf8 (show X.A.in1.handled=none from I.ok.hd hc) it a hai its.toArray;refine wpAny_pyNext_enum_itemD D1 he ⟨hit,pt.isList⟩ lu hei (by simp[hei,hae.symm]) λy h' tk hv ho hSt ak0 hsz hk=>?_;have ey:y=u:=by have:=hv;rw[Qj6,hu] at this;exact(Qw4 this).symm
  subst ey;have hT:s.heap.objs.size<=s.heap.objs.size:=Qq0 _;have helt:=Qq9 he;have hilt:it<s.heap.objs.size:=by obtain⟨_,x,_⟩:=hit;exact Qq9 x
  refine⟨_,rfl,?_⟩;refine wpAny_letOwnedTupleGo_enum ho λh'' akX hs''=>?_;have pA:∀b o,b≠e->h'.get? b=some o->h''.get? b=some o:=λb o hb q=>(hs''.2 b hb).trans q;have hnT:s.heap.objs.size ∉ [e,it]:=λhb=>by
   rcases Qq4.mp hb with z|hb;exact Qz7 helt z;exact Qz7 hilt<|Qqw.mp hb
  refine⟨.ref s.heap.objs.size,upd H s.heap.objs.size<|.tup [.int i,x],I.drawn hf (λb o hb q=>pA b o (λz=>hb (by simp[z]))<|hk b o (λz=>hb (by simp[z])) (λz=>hb (by simp[z])) q) hT ?_,rfl,⟨_,x,λzs hq2=>by rw[I.yV hq2 hq];exact hx,(I.hok.fresh hT),rfl,rfl⟩,⟨⟨_,by simpa using akX⟩,?_⟩,λb hb=>?_⟩;exact⟨by show 2<=sizeLine;decide,[.int i tk,y],.cons ⟨_,rfl⟩<|.cons ru .nil,_,pA _ _ (Qz7 helt) ak0,rfl,⟨_,rfl⟩,rfl⟩;obtain⟨⟨o,q,r⟩,_⟩:=hSt;exact⟨o,pA it o hei.symm q,r⟩;have hne:b≠s.heap.objs.size:=λz=>by
   subst z;exact hnT hb
  rw[cj hne];exact(hf b hb).1
 done:=by
  intro X hP hw hK hc i pins s σ H E I hf st hg;subst hP hw hK;obtain⟨xs,hq,hi⟩:=hg;obtain⟨its,rv,pt,hz⟩:=I.list hq;have D1:Draws X.prog X.w X.A.in1 it [it,a] _ _ _:=Qf8 (show X.A.in1.handled=none from I.ok.hd hc) it a hai its.toArray;obtain⟨⟨old,he⟩,hit⟩:=st;have ei:i=its.toArray.size:=by rw[Qq3,hi,rv.length]
  rw[ei] at he hit;exact wpAny_pyNext_enum_endD D1 he ⟨hit,pt.isList⟩ λh' eb=>⟨rfl,I.JQ hf λb o hb q=>eb b o (λz=>hb (by simp[z])) q⟩
 self:=λA i s Q E st h=>by
  obtain⟨⟨old,he⟩,_⟩:=st;exact wpAny_pyIter_enum he h
section
variable{X:Cx}{tg:Expr}
def agq(K:PySem.W.Frag)(ta:TA):TI:=λσ H R=>ta σ H λvs H1=>∃a,vs=[.ref a]/\(∃xs,lK K H1 a xs)/\R (aep K a) H1
def YM(hg:Gl X "enumerate")(hm:X.mg "enumerate"=none)(ha:PA X [a] ta)(hs:starEach [a] X.env=[(false,eval a X.env)]:=by rfl):PI X (.Tuple elts k tp) (.Call (.Name "enumerate" p) [a] [] pos) (agq X.K ta):=by
 intro pins s σ H R I h;refine Call_<|uo I hg hm PyProof.Rows.boot_enumerate<|Qzq (gR (ha pos pins s σ H _ I h) λus s1 ⟨vs,H1,I1,r1,q1⟩=>?_) hs rfl;have own:∀b ∈ [s1.heap.objs.size+1,s1.heap.objs.size],wK X pins H1 b:=λb hb=>by
  rcases Qq4.mp hb with rfl|hb;exact I1.RN (Qdz _)<|I1.hok.fresh<|Qdz _;rw[Qqw.mp hb];exact I1.RN (Qq0 _)<|I1.hok.fresh<|Qq0 _
 obtain⟨l,e,⟨xs,hl⟩,q⟩:=q1;subst e;cases r1 with
 |cons r rr=>cases rr;cases r;obtain⟨its,rv,pt,hz⟩:=I1.list hl;have ll:=pt.lt;refine call_enumerate_list pt.isList λh' he hit hsz hk=>?_;refine wpAny_pyIter_enum he ?_;have I2:Inv X pins σ H1 { s1 with heap:=h' }:=I1.kept hk;exact⟨s1.heap.objs.size+1,[s1.heap.objs.size+1,s1.heap.objs.size],_,_,H1,rfl,I2,Qy _ _ l (Nat.succ_ne_self _) (Qxq ll)<|Qxq<|Qv0 ll,⟨⟨_,he⟩,hit⟩,own,q⟩
end
end L2
namespace Ev
open PySem PySem.Spec PyProof.Rows L2 PySem.Builtin
section
variable{X:Cx}{C:Cfg}{pos:Pos}{e:Expr}
def Dy(a:eZ):eZ:=λenv=>bindR (a env) λds aR=>match ds with
 |[.lst xs]=>.ok (Jw xs) aR|_=>.stuck
def Jb:R2:=λx y H Q=>∃a o,y=.ref a/\Ij H a x o/\Q (.bl (!o.isSome)) H
def Ny(hu:X.A.units+1<cLine):qN X (compareOp .NotIn) Jb:=by intro pins s σ H x y v u Q I rx ry h;obtain⟨a,o,rfl,g,q⟩:=h;cases ry;exact acT hu I g rx λs' I'=>⟨.bl<|!o.isSome,H,I',rfl,q⟩
def qb(k y:D):Option D:=match y with
 |.dct kvs=>(pP k).map λq=>.bl (!(mZ kvs q).isSome)|_=>none
def Nz:tV C Jb qb:=by
 intro Pr F env σ H x y d vx vy Q r px py e q;cases y with
 |dct kvs=>
  obtain⟨k,hk,rfl⟩:=Qwz.mp<|show(pP x).map (λq=>D.bl<|!(mZ kvs q).isSome)=some d from e;obtain⟨z,p,ks,rfl,h1,h2⟩:=py.dct r.fr;cases KC hk px;refine⟨p,uZ ks k,rfl,.inl ⟨ks,k,h1,rfl,rfl⟩,?_⟩;have e2:(uZ ks k).isSome=(mZ kvs k).isSome:=by rcases h2.val k with ⟨g1,g2⟩|⟨d',v',g1,g2,_⟩<;>rw[g1,g2]<;>rfl
  rw[e2];exact q _ H F r (bu.refl F) rfl
 |_=>cases e
def R0(G:Good X C):Cm X C .NotIn qb:=⟨_,Ny G.u1,Nz⟩
end
def aad{pos:Pos}{elts:List Expr}{k:Nat}{tp p:Pos}(G:Good X C)(hm:X.mg "enumerate" = none)(ha:Qi X C [e] ea)(hg:Gl X "enumerate":=by rfl)(hs:starEach [e] X.env=[(false,eval e X.env)]:=by rfl):SXI X C (.Tuple elts k tp) (.Call (.Name "enumerate" p) [e] [] pos) (Dy ea):=⟨by
 have h:=YM (k:=k) (tp:=tp) (elts:=elts) (p:=p) (pos:=pos) hg hm ha.u hs;rw[G.K] at h;refine h.imp λσ H R hq=>?_;obtain⟨Pr,F,env,env',ds,r,e,q⟩:=hq;obtain⟨as,aR,e1,e2⟩:=bf e;refine⟨Pr,F,env,aR,as,r,e1,λvs H1 F1 r1 s1 p1=>?_⟩;split at e2
 rename_i xs;cases e2;obtain⟨v,w,rfl,pv,p2⟩:=p1;cases p2;obtain⟨hz,a,us,rfl,h1,h2⟩:=pv;refine⟨a,rfl,⟨us,.inl<|.inl<|r1.fr _ _ h1⟩,q _ H1 F1 r1 s1 λi H2 s2=>⟨λ_ ei=>?_,λd hd=>?_⟩⟩
 refine⟨us,(.inl<|.inl<|s2 _ _ h1),?_⟩;rw[ei,h2.length];simp[Jw]
 unfold Jw at hd;rw[Qw1] at hd;obtain⟨⟨c,j⟩,hc,rfl⟩:=Qwz.mp hd;rw[Q1z] at hc;obtain⟨c',hc',h3⟩:=Qwz.mp hc;cases h3;obtain⟨u,hu,ru⟩:=h2.get hc';refine⟨⟨us,u,(.inl<|.inl<|s2 _ _ h1),hu⟩,λy H3 hy=>.inr ?_⟩;obtain⟨p,x2,h3,h4,rfl,rfl⟩:=hy;have h5:=h3 us<|(.inl<|.inl<|s2 _ _ h1);rw[hu] at h5;cases h5;exact⟨p,_,_,h4,rfl,rfl,rfl,by show 2<=sizeLine;decide,_,_,rfl,by simp[Rep],_,_,rfl,ru,rfl⟩
 cases e2⟩
open PySem PySem.Spec PyProof.Rows L2
section
variable{X:Cx}{C:Cfg}{pos:Pos}
def ae1(K:Fg):List V->Hp->VK->Prop:=λxs H Q=>∃(a p:Addr) (x y:V) (kd:D) (q:NK),xs=[.ref a]/\lK K H a [.ref p]/\pg K H p [x,y]/\qO K H x kd q/\∀l,H l=none->Q (.ref l) (upd H l (.dN [(q,x,y)]))
def RZ(hc:X.calm=true)(hu:X.A.units+14<cLine):jQ X (.type "dict") (ae1 X.K):=by
 intro pins s σ H xs us Q I r h;obtain⟨a,p,x,y,kd,qq,rfl,hq,hp,ka,q⟩:=h;obtain⟨u,rfl,rx⟩:=vals1 r;cases rx;obtain⟨its,rv,⟨ob,n,h1,h2,h4,h3⟩,_⟩:=I.list hq;obtain⟨u1,rfl,rx1⟩:=vals1 rv;cases rx1;obtain⟨amo,rp,⟨op,hop,hcp,np,hdp⟩,_⟩:=I.tuple hp;obtain⟨ux,uy,rfl,rkx,rky⟩:=vals2 rp;have hA:=I.ok.hd hc;refine callType_codes (Q₁:=λobj s₁=>obj=.ref s.heap.objs.size/\s₁={ s with heap:=s.heap.push { cls:=.type "dict",data:=.dict #[] } }) F.kt_called_dict (F.kt_typeCall_dict_1 _) F.entry_dict_init (kt_code_dict_new _ ⟨rfl,rfl⟩) ?_;rintro obj s₁ ⟨rfl,rfl⟩;have hnew:(s.heap.push { cls:=.type "dict",data:=.dict #[] }).DictOfH (qt X.prog X.w) s.heap.objs.size []:=Heap.DictOfH.new s.heap;have k0:∀b o,s.heap.get? b=some o->(s.heap.push { cls:=.type "dict",data:=.dict #[] }).get? b=some o:=λb o e=>Qqz _ e;refine⟨hnew.typeIs,F.args_dict_init_2 _ _,?_⟩;unfold Builtin.«dict.__init__»;refine Qqq ?_;unfold Builtin.Dict.selfAndRest;refine Qqq<|wpAny_notOrdered_dict hnew.typeIs ?_;show wpAny _ _ (pure (s.heap.objs.size,[Value.ref a])) _ _ _;refine Qq2 ?_;show wpAny _ _ (Builtin.Dict.updateFrom "dict.__init__" s.heap.objs.size (.ref a) [] .none) _ _ _;unfold Builtin.Dict.updateFrom;refine Qqq<|Qy6 ⟨ob,k0 _ _ h1,h2⟩ ?_;rw[Qv4 (by decide)];refine Qqq<|RC (k0 _ _ h1) h2 h3 h4 hA λh' tk hk=>?_;simp[Option.isNone_none,Qhv];refine Qqq<|Qy5<|Qqq ?_;have hT:h'.IsList a [Value.ref p].toArray:=⟨ob,hk _ _<|k0 _ _ h1,h2,n,h3⟩;refine Qk8 hT ?_;refine Qq2 ⟨Qy9 f9 _,Qk0 nO ?_⟩;rw[Qjy f9 _];have gd:=hk _ _<|Qwv _ rfl;have KR:=Qq9 gd;have halt:=Qq9<|hk _ _<|k0 _ _ h1;have agr:=Qq9 hop;unfold Builtin.«dict.update.loop»;refine Qqq<|wpAny_pyNext_list_item (l:=a) (i:=0) (items:=[Value.ref p].toArray) ?hi ?hl rfl λh5 hit' hs'=>?_
 case hi=>exact⟨_,Qwv _ rfl,rfl,rfl⟩
 case hl=>exact⟨ob,Qqz _<|hk _ _<|k0 _ _ h1,h2,n,h3⟩
 have k1:∀b o,s.heap.get? b=some o->h5.get? b=some o:=λb o e=>(hs'.2 b<|Qxq<|Qhz (Qq9 e) KR).trans<|Qqz _<|hk _ _<|k0 _ _ e;have hsys:(s.heap.objs.size == sysModules)=false:=by rw[Qzz];exact Qz7 I.big
 have hfr:=I.hok.fresh<|Qq0 _;have I2:L2.Inv X pins σ (upd H s.heap.objs.size<|.dN []) { s with heap:=h5,toks:=s.toks }:=I.laid k1 (Qq0 _) ⟨Qxz _,hsys,[],.nil,_, #[],0,((hs'.2 _<|Qxq KR).trans<|Qqz _ gd),⟨rfl,rfl,rfl⟩,rfl,rfl,List.nodup_nil⟩;have sm:bu H (upd H s.heap.objs.size<|.dN []):=λb o e=>by
  have hne:b≠s.heap.objs.size:=λz=>by rw[z,hfr] at e;cases e
  rw[cj hne];exact e
 obtain⟨b,rfl,rfl,hkk⟩:=qO.is ⟨Rep.mono sm _ _ ka.rep,ka.nk,ka.dep,ka.tup⟩ I2 rkx;obtain⟨_,_,xs,rel,dd⟩:=GD (kvs:=[]) I2 (.inl bA) rfl;cases rel;dsimp only;refine Qqq<|Qzj<|Qqq<|wpAny_tryCatch ?_;unfold Builtin.Dict.pairItems;refine Qqq<|Qy6 ⟨op,k1 _ _ hop,hcp⟩ ?_;rw[Qv4 (by decide)];unfold seqItems?;refine Qqq<|Qqq<|wpAny_load (k1 _ _ hop) ?_;rw[hdp];refine Qq2<|Qq2 ?_;show wpAny _ _ (holding [.ref b,uy]<|dictSet s.heap.objs.size (.ref b) uy) _ _ _;refine Qzj<|wpAny_dictSet_heap (show X.A.units+1+1+10<cLine by omega) hkk dd λh6 dd6 hs6=>?_;refine Qq2 ⟨Qy9 f9 _,Qk0 nO ?_⟩;rw[Qjy f9 _];unfold Builtin.«dict.update.loop»;have ht6:h6.IsList a [Value.ref p].toArray:=⟨ob,(hs6.2 a<|Qxq (Qq9 h1)).trans<|k1 _ _ h1,h2,n,h3⟩;have akW:h6.IsListIter h'.objs.size a 1:=by obtain⟨o,ho,r⟩:=hit';exact⟨o,(hs6.2 _<|Qz7 KR).trans ho,r⟩
 refine Qqq<|wpAny_pyNext_list_end hA akW ht6 rfl λh7 hex=>?_;show wpAny _ _ (Builtin.Dict.addKeywords s.heap.objs.size [] >>= _) _ _ _;refine Qqq<|Qq2<|Qq2 ⟨rfl,?_⟩;obtain⟨o,es,ep,g1,g2,g3,g4,_,g5⟩:=dd6;have kk:∀b u,s.heap.get? b=some u->h7.get? b=some u:=λb u e=>by
  have hb:=Qq9 e;exact hex b u (Qxq<|Qhz hb KR)<|(hs6.2 b<|Qxq hb).trans<|k1 b u e
 exact⟨.ref s.heap.objs.size,upd H s.heap.objs.size<|.dN [(qq,.ref b,y)],I.laid kk (Qq0 _) ⟨by show 1<=sizeLine;decide,hsys,[(qq,b,uy)],.cons ⟨rfl,rfl,rky⟩ .nil,o,es,ep,hex _ _ (Qxq KR) g1,g2,g3,g4,g5⟩,rfl,q _ hfr⟩
def KZ:List D->Option D
 |[.lst [.tup [k,v]]]=>(Ji k).map λ_=>.iY [(k,v)]|_=>none
end
def Rc{pos:Pos}{p:Pos}(G:Good X C)(hm:X.mg "dict" = none)(ha:yc X C [e] ea)(hg:Gl X "dict":=by rfl)(he:IK e X.env:=by rfl):R9 X C (.Call (.Name "dict" p) [e] [] pos) (au KZ ea):=⟨by
 have h0:=Aw (RZ G.calm (by have:=G.un;omega)) hg hm (by decide +kernel) ha.u (by decide) (by decide) he (pos:=pos) (p:=p) rfl;rw[G.K] at h0;refine h0.imp λσ H Q h=>?_;obtain⟨Pr,F,env,env',d,rl,e,q⟩:=h;obtain⟨ds,aR,e1,e2⟩:=bf e;obtain⟨e3,rfl⟩:=d7 e2;refine⟨Pr,F,env,env',ds,rl,e1,λvs H1 F1 r1 s1 p1=>?_⟩;unfold KZ at e3;split at e3
 rename_i k v;obtain⟨qq,hqq,rfl⟩:=Qwz.mp e3;obtain⟨n1,n2,n3⟩:=Ba hqq;obtain⟨w,rfl,hw⟩:=nR p1;obtain⟨z,a,us,rfl,h1,h2⟩:=hw.lst r1.fr;obtain⟨u1,w1,rfl,g1,g2⟩:=h2;cases g2;obtain⟨_,b,vs,rfl,h3,h4⟩:=g1;obtain⟨x,w2,rfl,g3,y,w3,rfl,g4,g5⟩:=h4;cases g5;refine⟨a,b,x,y,k,qq,rfl,lK.of h1,bu.tupK r1.fr h3,⟨Rep.mono r1.fr _ _ g3,n1,n2,n3⟩,λl hl=>?_⟩;exact q l _ F1 (r1.fresh hl) s1<|Sd.of r1 hl ⟨by show 1<=sizeLine;decide,_,bA,⟨qq,x,y,[],rfl,n1,n2,g3,g4,rfl⟩⟩
 cases e3⟩
end Ev
namespace L2
open PySem PySem.Spec PyProof.Rows
def Ml(l)(items)(n)(dd)(sl)(u)(h0:¬items.isEmpty=true) :
  Meets (Builtin.«tuple.__mul__» ⟨[.ref l,.int 0 u],[]⟩) (λ_ R s=>s.heap.get? l=some { cls:=.type "tuple",dict:=dd,data:=.seq items n,slots:=sl }/\R (.ok (.ret (Value.ref s.heap.objs.size))) { s with heap:=s.heap.push { cls:=Value.type "tuple",data:=Data.seq #[] },toks:=s.toks }):=
 .of_wp λprog w A R s h=>by
  obtain⟨hp,g,d,tk,os⟩:=s;obtain⟨hl,h⟩:=h;have f1:=AutoSeq1.idx_int;have e2:(items.isEmpty||0 == 1)=false:=by rw[Bool.or_eq_false_iff];exact⟨by simpa using h0,by decide⟩
  have e3:(decide (0<=0)||items.isEmpty)=true:=by simp
  wp_walk using wpAny_loadPart' hl
  exact⟨_,rfl,h⟩
def Mj(l)(items)(n)(dd)(sl)(u)(h0:¬items.isEmpty=true) :
  Meets (Builtin.«tuple.__mul__» ⟨[.ref l,.int 1 u],[]⟩) (λ_ R s=>s.heap.get? l=some { cls:=.type "tuple",dict:=dd,data:=.seq items n,slots:=sl }/\R (.ok (.ret (Value.ref l))) s):=
 .of_wp λprog w A R s h=>by
  obtain⟨hp,g,d,tk,os⟩:=s;obtain⟨hl,h⟩:=h;have f1:=AutoSeq1.idx_int
  wp_walk using wpAny_loadPart' hl
  exact⟨_,rfl,h⟩
section
variable{X:Cx}
def X5(K:PySem.W.Frag):R2:=λx y H Q=>∃a xs,x=.ref a/\pg K H a xs/\xs≠[]/\(y=.int 1/\Q (.ref a) H\/y=.int 0/\∀p,H p=none->Q (.ref p) (upd H p (.tup [])))
def Y9:qN X (binaryOp .Mult) (X5 X.K):=by
 intro pins s σ H x y v u Q I rx ry h;obtain⟨a,xs,rfl,ha,hx,h⟩:=h;cases rx;obtain⟨its,r1,p1,_⟩:=I.tuple ha;obtain⟨⟨cls,dd,data,sl⟩,ho,hc,n,hd⟩:=id p1;simp at hc hd;subst hc hd;have hne:¬its.toArray.isEmpty=true:=by
  intro e;have e2:its=[]:=by simpa using e
  exact hx<|r1.Dm.mp e2
 rcases h with ⟨rfl,q⟩|⟨rfl,q⟩;obtain⟨t',rfl⟩:=ry;refine Qf5 (by decide) ⟨_,ho,rfl⟩ (λs'=>Q09 s' 1 t') sY Q05 Qyy yI PySem.F.slot_int_index.lookup
  (Qb7 Qyy (Q09 s 1 t') Q0j (Qg2 _ _) (Ni 1 t' a its.toArray n dd sl)
   ⟨ho,rfl,⟨_,ho,rfl⟩,Qb7 Q0x ⟨_,ho,rfl⟩ Qg1 (Qgj _ _) (Mj a its.toArray n dd sl t' hne) ⟨ho,?_⟩⟩)
 exact⟨.ref a,H,I,rfl,q⟩;obtain⟨t',rfl⟩:=ry;refine Qf5 (by decide) ⟨_,ho,rfl⟩ (λs'=>Q09 s' 0 t') sY Q05 Qyy yI PySem.F.slot_int_index.lookup
  (Qb7 Qyy (Q09 s 0 t') Q0j (Qg2 _ _) (Ni 0 t' a its.toArray n dd sl)
   ⟨ho,rfl,⟨_,ho,rfl⟩,Qb7 Q0x ⟨_,ho,rfl⟩ Qg1 (Qgj _ _) (Ml a its.toArray n dd sl t' hne) ⟨ho,?_⟩⟩)
 exact⟨.ref s.heap.objs.size,_,I.laid (o:=.tup []) (λb ob q=>Qqz _ q) (Qq0 _) ⟨Qxz _,[],.nil,Hj.new _ _⟩,rfl,q _<|I.hok.fresh<|Qq0 _⟩
end
end L2
namespace Ev
open PySem PySem.Spec PyProof.Rows L2
section
variable{X:Cx}{C:Cfg}
def KY:D->D->Option D
 |.tup (z::zs),.int i=>if i=1 then some (.tup (z::zs)) else if i=0 then some (.tup []) else none|_,_=>none
def Ze:tV C (X5 C.K) KY:=by
 intro Pr F env σ H x y d vx vy Q r px py e q;unfold KY at e;split at e;rename_i z zs i;cases py.int;obtain⟨z1,a,vs,rfl,h1,f1,h2⟩:=px.tup r.fr;have hv:vs≠[]:=λhv=>by
  subst hv;have:=h2.length;simp at this
 split at e;rename_i hi;subst hi;cases e;exact⟨a,vs,rfl,h1,hv,.inl ⟨rfl,q _ H F r (bu.refl F) ⟨z1,a,vs,rfl,f1,h2⟩⟩⟩;split at e;rename_i hi;subst hi;cases e;refine⟨a,vs,rfl,h1,hv,.inr ⟨rfl,λp hp=>?_⟩⟩;obtain⟨r2,s2⟩:=r.new hp;exact q _ _ _ r2 s2 ⟨Qxz _,p,_,rfl,pg.of bA,rfl⟩;cases e;cases e
def ac5(G:Good X C):Bi X C .Mult KY:=⟨_,Y9,by rw[G.K];exact Ze⟩
end
def am2(h1:env[i]?=some (some (false,x)))(h2:b env=.ok y e2)(h4:e2[i]?=some (some (false,x)))(h3:g x y=some d):aq g i b env=.ok d e2:=aO h1 h2 h4 h3
def am1(h1:env[i]?=some (some (true,x)))(h2:b env=.ok y e2)(h4:e2[i]?=some (some (true,x)))(h3:g x y=some d):aq g i b env=.ok d e2:=aO h1 h2 h4 h3
def alv(h0:env[i]?=some (some (true,.lst xs)))(h1:a env=.ok d e)(h2:e[i]?=some (some (true,.lst xs)))(hz:xs.length<sizeLine):dZ i a env=.nx (e.set i (some (true,.lst (xs++[d])))):=by unfold dZ;rw[h0];simp[h1,kY,h2,Qv4 hz]
def alR(h0:env[i]?=some (some (true,x)))(h1:a env=.ok ds e1)(h2:e1[i]?=some (some (true,x)))(h3:f (x::ds)=some (d,x')):dX f i a env=.ok d (e1.set i (some (true,x'))):=fG h0 h1 h2 h3
def zz1:1<=sizeLine:=by decide
def xm:2<=sizeLine:=by decide
def zz3:3<=sizeLine:=by decide
def zz4:4<=sizeLine:=by decide
def zz5:5<=sizeLine:=by decide
def zz6:6<=sizeLine:=by decide
def zz7:7<=sizeLine:=by decide
end Ev
abbrev OD:=Option (Bool×Ev.D)
abbrev Zf(d:Ev.D):OD:=some (false,d)
abbrev Zt(d:Ev.D):OD:=some (true,d)
abbrev Zs(w:List Nat):OD:=some (false,.str w)
abbrev Zb(b:Bool):OD:=some (false,.bl b)
abbrev Zl(l:List Ev.D):OD:=some (true,.lst l)
abbrev Zv(i:Nat)(a:Ev.eZ):Ev.eZ:=Ev.aa (Ev.aM i) a
abbrev Zi(i:Int):Ev.Ev:=Ev.tU (.int i)
abbrev Zw(w:List Nat):Ev.Ev:=Ev.tU (.str w)
abbrev LD:=List Ev.D->Option Ev.D
abbrev Zn:OD:=none
abbrev Qm:List PySem.Str:=["_law_pack_here","_law_sounds_here"]
abbrev W2:List PySem.Str:=["states"]
abbrev Zq2:List PySem.Str:=["stock","order"]
abbrev Zq3:List PySem.Str:=["order","standing"]
abbrev Zq4:List PySem.Str:=["_law_pack_here","_law_sounds_here","_law_most"]
abbrev Zq5:List PySem.Str:=["_law_order_here","_law_word_here"]
abbrev Zq6:List PySem.Str:=["rule","standing","sign"]
abbrev Zq7:List PySem.Str:=["order","standing","sound"]
abbrev Zq8:List PySem.Str:=["_law_rule_here","_law_word_here"]
abbrev Zq9:List PySem.Str:=["_law_stock_here"]
abbrev ade:List PySem.Str:=["_law_signs_here","_law_sign"]
abbrev adb:List PySem.Str:=["_law_side","_law_rule_here","_law_word_here"]
abbrev ada:List PySem.Str:=["_law_thing","_law_sounds_here"]
abbrev ahd:List PySem.Str:=["rule","standing","signs"]
abbrev ahc:List PySem.Str:=["stock","machine","side","word"]
abbrev ahb:List PySem.Str:=["_law_pack_here","_law_size"]
abbrev aha:List PySem.Str:=["_law_sounds_here","_law_most"]
abbrev ag9:List PySem.Str:=["_law_sounds_here","_law_machine","_law_side","_law_word_here"]
abbrev ag8:List PySem.Str:=["_law_machine","_law_sounds_here"]
abbrev ag7:List PySem.Str:=["_law_rule_here","_law_standing","_law_sign"]
abbrev ag6:List PySem.Str:=["_law_rules","_law_standing","_law_sound"]
abbrev ag5:List PySem.Str:=["_law_sounds_here","_law_order_here","_law_most"]
abbrev ag4:List PySem.Str:=["_law_pack_here","_law_stock_here","_law_order_here"]
abbrev ajw:List PySem.Str:=["rule","standing","sign","way","changes","left","right","near","held","put"]
abbrev ajv:List PySem.Str:=["_law_sounds_here","_law_order_here","_law_most","_law_rules","_law_known","_law_there","_law_at","_law_sound","_law_more","_law_rule_here"]
abbrev aju:List PySem.Str:=["_law_script","_law_k","_law_pack_here","_law_stock_here","_law_letters","_law_at","_law_sounds_here"]
namespace lD
open Ev
section
def nu:Ev:=d9 1 3 (dO (aM 0)) (bV 2 (aH (ak 1) (aH (ak 2) bZ))) cA (aM 1)
def mX:cu:=bw (au cO (aa (nu) aj))
def eG:LD:=cQ 1 mX
def oV:cu:=bw (K4 (aq gIs 0 (tU .non)) (aq gIn 1 (aU 0)))
def kW:LD:=cQ 2 oV
def qH:cu:=aC (aQ (aM 0) (bV 4 (aH (ak 1) (aH (ak 2) (aH (ak 3) (aH (ak 4) bZ)))))) (bw (bK (Zv 1 (Zv 2 (Zv 4 (Zv 3 aj))))))
def qz:LD:=cQ 5 qH
def oO:cu:=bw (aN lV (aN bQ (aN bQ (aq bQ 0 (Zi 1)) (Zi 0)) (Zi 0)) (Zw []))
def oK:LD:=cQ 1 oO
def mq:Ev:=d9 3 4 (dO (aM 2)) (ak 3) cA (au qz (Zv 3 aj))
def gA:cu:=aC (aQ (aM 0) (bV 2 (aH (ak 1) (aH (ak 2) bZ)))) (aC (dH (cR (aq lV 1 (Zw [114,105,103,104,116]))) (bw (au cO (aa (mq) aj))) bU) (bw (aM 2)))
def dR:LD:=cQ 3 gA
def lJ:Ev:=d9 1 5 (dO (au dR (Zv 0 aj))) (bV 4 (aH (ak 1) (aH (ak 2) (aH (ak 3) (aH (ak 4) bZ))))) cA (bK (aa (au kW (Zv 3 (aa (Zw [35]) aj))) (aa (Zw []) aj)))
def gY:cu:=bw (au cO (aa (lJ) aj))
def dW:LD:=cQ 1 gY
def eN:cu:=aC (aQ (aM 0) (bV 4 (aH (ak 3) (aH (ak 4) (aH (ak 5) (aH (ak 6) bZ)))))) (aC (aQ (aM 1) (bV 2 (aH (ak 7) (aH (ak 8) bZ)))) (aC (aQ (aM 8) (ak 9)) (aC (dH (di (cR (aM 7)) (cR (au kW (Zv 6 (Zv 2 aj))))) (aQ (aq cU 8 (aN bQ (aq bQ 4 (Zi 0)) (Zi 1))) (ak 9)) bU) (bw (bK (aa (bK (aa (au kW (Zv 5 (Zv 2 aj))) (Zv 2 aj))) (Zv 9 aj)))))))
def fC:LD:=cQ 10 eN
def fP:cu:=aC (aQ (aM 0) (bV 4 (aH (ak 3) (aH (ak 4) (aH (ak 5) (aH (ak 6) bZ)))))) (aC (aQ (aM 1) (bV 2 (aH (ak 7) (aH (ak 8) bZ)))) (aC (dH (cR (aq lV 8 (Zw []))) (bw (bK (aa (bK (Zv 7 (Zv 2 aj))) (aa (Zw []) aj)))) bU) (aC (aQ (aM 8) (ak 9)) (aC (dH (di (cR (aM 7)) (cR (au kW (Zv 6 (Zv 2 aj))))) (aQ (K7 (au tu (aa (aU 4) aj)) (aM 8) (aM 8)) (ak 9)) bU) (aC (dH (cR (aq lV 3 (Zw [111,110,99,101]))) (bw (bK (aa (bK (aa (au kW (Zv 5 (Zv 8 aj))) (Zv 2 aj))) (Zv 9 aj)))) bU) (aC (dH (cR (aq lV 9 (Zw []))) (bw (bK (aa (bK (Zv 7 (Zv 2 aj))) (Zv 9 aj)))) bU) (bw (bK (aa (bK (aa (au kW (Zv 5 (Zv 9 aj))) (Zv 2 aj))) (Zv 9 aj))))))))))
def fO:LD:=cQ 10 fP
def lR:cu:=aC (aQ (aq bQ 1 (Zi 1)) (ak 6)) (aC (dH (cR (au oK (Zv 0 aj))) (aQ (au fC (Zv 0 (Zv 1 (Zv 5 aj)))) (bV 2 (aH (ak 1) (aH (ak 7) bZ)))) (aQ (au fO (Zv 0 (Zv 1 (Zv 5 aj)))) (bV 2 (aH (ak 1) (aH (ak 7) bZ))))) (aC (aQ (K4 (aM 4) (aq yf 7 (aU 6))) (ak 4)) (dZ 3 (aM 7))))
def jC:cu:=aC (cT 3 (cB aj)) (aC (aQ (tU (.bl false)) (ak 4)) (aC (dF (dO (aM 2)) (ak 5) (lR)) (bw (bK (Zv 1 (aa (aN pB (Zw []) (aU 3)) (Zv 4 aj)))))))
def iT:LD:=cQ 8 jC
def o4:cu:=aC (aQ (au iT (Zv 6 (Zv 7 (Zv 3 aj)))) (bV 3 (aH (ak 8) (aH (ak 3) (aH (ak 9) bZ))))) (aC (dZ 4 (aM 8)) (dZ 5 (aM 9)))
def mD:cu:=aC (aQ (aM 2) (ak 3)) (aC (cT 4 (cB aj)) (aC (cT 5 (cB aj)) (aC (dF (Gr (aa (au dR (Zv 0 aj)) (Zv 1 aj))) (bV 2 (aH (ak 6) (aH (ak 7) bZ))) (o4)) (bw (bK (aa (au cO (aa (aU 4) aj)) (Zv 3 (aa (au cO (aa (aU 5) aj)) aj))))))))
def qy:LD:=cQ 10 mD
def nA:cu:=aC (aQ (au iT (Zv 4 (Zv 5 (aa (aq cU 2 (Zw [35])) aj)))) (bV 3 (aH (ak 6) (aH (ak 2) (aH (ak 7) bZ))))) (dZ 3 (aM 7))
def kZ:cu:=aC (aQ (Zw []) (ak 2)) (aC (cT 3 (cB aj)) (aC (dF (Gr (aa (au dR (Zv 0 aj)) (Zv 1 aj))) (bV 2 (aH (ak 4) (aH (ak 5) bZ))) (nA)) (bw (bK (Zv 2 (aa (au cO (aa (aU 3) aj)) aj))))))
def pC:LD:=cQ 8 kZ
def mY:cu:=aC (aQ (au qy (Zv 0 (Zv 1 (Zv 2 aj)))) (bV 3 (aH (ak 3) (aH (ak 4) (aH (ak 5) bZ))))) (bw (bK (Zv 3 (Zv 4 aj))))
def oJ:LD:=cQ 6 mY
def qJ:cu:=bw (aN bQ (au pC (Zv 0 (Zv 1 aj))) (Zi 0))
def nJ:LD:=cQ 2 qJ
def jT:cu:=aC (aQ (au oJ (Zv 1 (aa (aq bQ 2 (au cJ (aa (aU 4) aj))) (Zv 6 aj)))) (bV 2 (aH (ak 7) (aH (ak 8) bZ)))) (aC (dH (cR (aq lU 7 (aU 3))) (aC (qY 3 (aM 7) (au cJ (aa (aU 2) aj))) (dZ 2 (aM 7))) bU) (dZ 5 (bK (Zv 8 (aa (aq zq 3 (aU 7)) aj)))))
def jR:cu:=aC (cT 5 (cB aj)) (aC (dF (dO (au eG (Zv 0 aj))) (ak 6) (jT)) (aC (dH (cR (aN gGt (au cJ (aa (aU 2) aj)) (Zi 600))) (JZ) bU) (dZ 4 (au cO (aa (aU 5) aj)))))
def uC:cu:=aC (cT 2 (cB (aa (au dW (Zv 1 aj)) aj))) (aC (cT 3 (K8 (aq bQ 2 (Zi 0)) (Zi 0))) (aC (cT 4 (cB aj)) (aC (eV (cR (aN wV (au cJ (aa (aU 4) aj)) (au cJ (aa (aU 2) aj)))) (jR) 7000) (bw (bK (Zv 2 (Zv 4 aj)))))))
def qC:LD:=cQ 9 uC
def yX:cu:=aC (aQ (aN bQ (aN bQ (aq bQ 5 (aU 8)) (Zi 1)) (aN wA (aM 6) (aU 10))) (bV 2 (aH (ak 11) (aH (ak 8) bZ)))) (dZ 7 (aM 11))
def UJ:cu:=aC (aQ (aM 1) (bV 2 (aH (ak 4) (aH (ak 5) bZ)))) (aC (aQ (au eG (Zv 0 aj)) (ak 6)) (aC (cT 7 (cB (Zv 4 aj))) (aC (aQ (Zi 0) (ak 8)) (aC (aQ (RP (cR (aq lV 2 (Zw [114,105,103,104,116]))) (pD (aM 3)) (aM 3)) (ak 9)) (aC (dF (dO (aM 9)) (ak 10) (yX)) (aC (dZ 7 (aN bQ (aq bQ 5 (aU 8)) (Zi 0))) (aC (aQ (aN pB (Zw []) (aU 7)) (ak 12)) (bw (RP (cR (aq lV 2 (Zw [114,105,103,104,116]))) (pD (aM 12)) (aM 12))))))))))
def Gq:LD:=cQ 13 UJ
def iK:Ev:=d9 4 6 (zy (Zv 2 (Zv 3 aj))) (bV 2 (aH (ak 4) (aH (ak 5) bZ))) cA (bK (aa (au nJ (Zv 1 (Zv 4 aj))) (Zv 5 aj)))
def j9:cu:=aC (aQ (au qC (Zv 0 (Zv 1 aj))) (bV 2 (aH (ak 2) (aH (ak 3) bZ)))) (bw (iK))
def iR:LD:=cQ 4 j9
def iJ:cu:=S6 3 (Zi 1)
def gh:cu:=aC (aQ (Zi 0) (ak 3)) (aC (eV (di (cR (aq wV 3 (au cJ (aa (aU 1) aj)))) (di (cR (aq wV 3 (au cJ (aa (aU 2) aj)))) (cR (aN lV (aq bQ 1 (aU 3)) (aq bQ 2 (aU 3)))))) (iJ) 7000) (aQ (BW (aM 1) pU (Bo (aM 3))) (ak 1)))
def nU:cu:=aC (aQ (aq bQ 0 (Zi 0)) (ak 1)) (aC (dF (dO (aM 0)) (ak 2) (gh)) (bw (aM 1)))
def jo:LD:=cQ 4 nU
def jb:Ev:=d9 3 5 (dO (aM 0)) (bV 2 (aH (ak 3) (aH (ak 4) bZ))) cA (aM 3)
def fK:Ev:=d9 5 7 (dO (aM 4)) (bV 2 (aH (ak 5) (aH (ak 6) bZ))) cA (aq cU 5 (aq bQ 1 (aU 6)))
def gB:Ev:=d9 3 5 (dO (aM 0)) (bV 2 (aH (ak 3) (aH (ak 4) bZ))) cA (au jo (aa (aN cU (cB (Zv 3 aj)) (fK)) aj))
def fJ:cu:=aC (aQ (aM 2) (ak 1)) (cT 2 (gB))
def lC:cu:=aC (aQ (cB aj) (ak 1)) (aC (cT 2 (jb)) (aC (eV (cR (aq yf 2 (aU 1))) (fJ) 20000) (bw (aM 2))))
def jq:LD:=cQ 3 lC
def ir:Ev:=d9 7 9 (dO (aM 5)) (bV 2 (aH (ak 7) (aH (ak 8) bZ))) cA (bK (aa (BW (aq cU 7 (aq bQ 1 (aU 8))) (Bo (aM 6)) pU) (Zv 8 aj)))
def fW:cu:=aC (aQ (au cJ (aa (aU 3) aj)) (ak 6)) (dZ 2 (bK (aa (BW (aM 4) (Bo (aM 6)) pU) (aa (au cO (aa (ir) aj)) aj))))
def lX:cu:=aC (aQ (au jq (Zv 0 aj)) (ak 1)) (aC (cT 2 (cB aj)) (aC (dF (zy (Zv 1 (Zv 0 aj))) (bV 2 (aH (ak 3) (aH (bV 2 (aH (ak 4) (aH (ak 5) bZ))) bZ))) (fW)) (bw (bK (aa (aq bQ 1 (Zi 0)) (Zv 2 aj))))))
def jN:LD:=cQ 7 lX
def jU:cu:=dH (cR (aq lU 2 (aU 1))) (qY 1 (aM 2) (au Js (aa (aU 1) aj))) bU
def oZ:Ev:=d9 3 4 (dO (aM 0)) (ak 3) cA (aq zq 1 (aU 3))
def uD:cu:=aC (cT 1 (K9)) (aC (dF (dO (aM 0)) (ak 2) (jU)) (bw (oZ)))
def mz:LD:=cQ 3 uD
def jm:Ev:=d9 5 7 (dO (aM 4)) (bV 2 (aH (ak 5) (aH (ak 6) bZ))) cA (aM 5)
def jl:Ev:=d9 3 5 (dO (aM 0)) (bV 2 (aH (ak 3) (aH (ak 4) bZ))) cA (bK (Zv 3 (aa (au cO (aa (jm) aj)) aj)))
def gU:Ev:=d9 6 8 (dO (aM 5)) (bV 2 (aH (ak 6) (aH (ak 7) bZ))) cA (aq bQ 1 (aU 7))
def jk:Ev:=d9 3 6 (Dy (Zv 0 aj)) (bV 2 (aH (ak 3) (aH (bV 2 (aH (ak 4) (aH (ak 5) bZ))) bZ))) cA (bK (aa (aq bQ 1 (aU 3)) (aa (au cO (aa (gU) aj)) aj)))
def gQ:cu:=aC (aQ (kh nG (aM 1)) (ak 2)) (aQ (au mz (aa (jk) aj)) (ak 1))
def o8:cu:=aC (aQ (au mz (aa (jl) aj)) (ak 1)) (aC (aQ (Zi 0) (ak 2)) (aC (eV (cR (aq wV 2 (kh nG (aM 1)))) (gQ) 7000) (bw (aM 1))))
def lO:LD:=cQ 3 o8
def mU:cu:=aC (dH (cR (aN qb (aq bQ 1 (aU 9)) (aU 2))) (aC (qd 2 (aq bQ 1 (aU 9)) (au cJ (aa (aU 3) aj))) (dZ 3 (aM 9))) bU) (dZ 7 (bK (Zv 8 (aa (aq jL 2 (aq bQ 1 (aU 9))) aj))))
def mJ:cu:=aC (aQ (aq bQ 0 (aq bQ 3 (au cJ (aa (aU 4) aj)))) (bV 2 (aH (ak 5) (aH (ak 6) bZ)))) (aC (cT 7 (cB aj)) (aC (dF (dO (aM 6)) (bV 2 (aH (ak 8) (aH (ak 9) bZ))) (mU)) (dZ 4 (bK (Zv 5 (aa (au cO (aa (aU 7) aj)) aj))))))
def zL:cu:=aC (aQ (au lO (Zv 0 aj)) (ak 1)) (aC (cT 2 (Dz (aq bQ 1 (Zi 0)) (Zi 0))) (aC (cT 3 (cB (aa (Zi 0) aj))) (aC (cT 4 (cB aj)) (aC (eV (cR (aN wV (au cJ (aa (aU 4) aj)) (au cJ (aa (aU 3) aj)))) (mJ) 7000) (bw (au cO (aa (aU 4) aj)))))))
def tH:LD:=cQ 10 zL
def lY:cu:=aC (aQ (au jN (aa (au iR (Zv 0 (Zv 1 aj))) aj)) (bV 2 (aH (ak 2) (aH (ak 3) bZ)))) (bw (bK (Zv 2 (aa (au tH (Zv 3 aj)) aj))))
def cY:LD:=cQ 4 lY
def rG:cu:=bw (aN agw (aq xV 0 (Zi 262406895267124108351839057402211873468251940277165213587343)) (aN RL (Zi 10) (Zi 60)))
def kO:LD:=cQ 1 rG
def HR:cu:=aQ (aN cU (aq xV 2 (aN RL (Zi 10) (Zi 60))) (au kO (aa (aN bQ (aN cU (Gu (aM 0) (Bo (aM 3)) (Bo (aq cU 3 (Zi 1)))) (cB (aa (aN cU (aN xV (Zi 7919) (aU 3)) (Zi 61)) aj))) (Zi 0)) aj))) (ak 2)
def oR:cu:=aC (aQ (Zi 0) (ak 2)) (aC (dF (dO (cB (aa (aq cU 1 (Zi 1)) (Zv 1 aj)))) (ak 3) (HR)) (yt (cB (Zv 2 aj))))
def kJ:LD:=runN 4 oR
def iy:cu:=aC (aQ (au zr (aa (aq bQ 0 (Zi 0)) (aa (aU 1) aj))) (bV 2 (aH (acG 0 (Zi 0)) (aH (ak 2) bZ)))) (bw (aM 2))
def bh:List D->Option (D×D):=jh 3 iy
def FW:Ev:=d9 7 8 (gj (aa (Zi 5) aj)) (ak 7) (cR (aN lV (aN K1 (aq HX 5 (aU 7)) (Zi 1)) (Zi 1))) (aq bQ 2 (aU 7))
def Gb:cu:=aC (aQ (dX bh 0 (aa (Zi 32) aj)) (ak 5)) (aC (aQ (au lr (aa (FW) aj)) (ak 6)) (dZ 3 (bK (Zv 4 (aa (au cO (aa (Gu (aM 6) pU (Bo (Zi 4))) aj)) aj)))))
def rD:cu:=aC (aQ (aN bQ (cB (aa (Zw [97]) (aa (Zw [97,98]) (aa (Zw [97,98]) (aa (Zw [97,98,99]) (aa (Zw [97,101,112,116]) (aa (Zw [109,110,122]) aj))))))) (dX bh 0 (aa (Zi 6) aj))) (ak 1)) (aC (aQ (cB (aa (Zw [115,116,111,112]) (aa (Zw [115,116,111,112,115]) (aa (Zw [115]) (aa (Zw [111,112,101,110]) (aa (Zw [97,98,99,100,101,102,103,104]) aj)))))) (ak 2)) (aC (cT 3 (cB aj)) (aC (dF (dO (aM 1)) (ak 4) (Gb)) (bw (au cO (aa (aU 3) aj))))))
def mV:List D->Option (D×D):=jh 7 rD
def CT:Ev:=lD.nu
def uG:cu:=bw (aN pB (Zw []) (CT))
def fD:LD:=cQ 1 uG
def FZ:Ev:=d9 4 5 (gj (aa (au cJ (aa (aU 3) aj)) aj)) (ak 4) (cR (aN lV (aN K1 (aq HX 2 (aU 4)) (Zi 1)) (Zi 1))) (aq bQ 3 (aU 4))
def jw:cu:=aC (dH (cR (aN lV (dX bh 0 (aa (Zi 2) aj)) (Zi 0))) (bw (tU .non)) bU) (aC (aQ (aN cU (Zi 1) (dX bh 0 (aa (aN uX (aN Wg (Zi 2) (au cJ (aa (aU 1) aj))) (Zi 1)) aj))) (ak 2)) (aC (aQ (aN cU (Zw [35]) (aU 1)) (ak 3)) (bw (au cO (aa (FZ) aj)))))
def ju:List D->Option (D×D):=jh 4 jw
def Bf:Ev:=d9 6 7 (dO (aN cU (au Jr (aa (aU 1) aj)) (cB (aa (Zw []) aj)))) (ak 6) (cR (aq yf 6 (aU 4))) (aM 6)
def Bg:cu:=aC (aQ (aq bQ 1 (dX bh 0 (aa (au cJ (aa (aU 1) aj)) aj))) (ak 4)) (aC (cT 5 (Bf)) (qd 2 (aM 4) (aq bQ 5 (dX bh 0 (aa (au cJ (aa (aU 5) aj)) aj)))))
def Be:Ev:=d9 6 7 (dO (au lr (aa (aU 2) aj))) (ak 6) cA (bK (Zv 6 (aa (aq jL 2 (aU 6)) aj)))
def gK:cu:=aC (dH (cR (aN lV (dX bh 0 (aa (Zi 5) aj)) (Zi 0))) (bw (bK (aa (bK (aa (Zw []) (aa (aq bQ 1 (dX bh 0 (aa (au cJ (aa (aU 1) aj)) aj))) aj))) aj))) bU) (aC (cT 2 (La)) (aC (dF (gj (aa (aN cU (Zi 1) (dX bh 0 (aa (Zi 3) aj))) aj)) (ak 3) (Bg)) (bw (au cO (aa (Be) aj)))))
def jW:List D->Option (D×D):=jh 6 gK
def mF:cu:=aC (aQ (aN bQ (cB (aa (Zw [111,110,99,101]) (aa (Zw [97,108,111,110,103]) aj))) (dX bh 0 (aa (Zi 2) aj))) (ak 2)) (aC (aQ (dX jW 0 (Zv 1 aj)) (ak 3)) (bw (bK (Zv 2 (Zv 3 (aa (dX ju 0 (Zv 1 aj)) (aa (dX ju 0 (Zv 1 aj)) aj)))))))
def jB:List D->Option (D×D):=jh 4 mF
def Ga:Ev:=d9 4 5 (gj (aa (dX bh 0 (aa (aq cU 2 (Zi 1)) aj)) aj)) (ak 4) cA (dX jB 0 (Zv 1 aj))
def rF:cu:=aC (aQ (aN bQ (cB (aa (Zw [108,101,102,116]) (aa (Zw [114,105,103,104,116]) aj))) (dX bh 0 (aa (Zi 2) aj))) (ak 3)) (bw (bK (Zv 3 (aa (au cO (aa (Ga) aj)) aj))))
def mW:List D->Option (D×D):=jh 4 rF
def HN:Ev:=d9 3 4 (gj (aa (dX bh 0 (aa (aq cU 2 (Zi 1)) aj)) aj)) (ak 3) cA (aq bQ 1 (dX bh 0 (aa (au cJ (aa (aU 1) aj)) aj)))
def uE:cu:=bw (aN pB (Zw []) (HN))
def oM:List D->Option (D×D):=jh 3 uE
def qI:cu:=lD.oV
def bW:LD:=cQ 2 qI
def CV:cu:=aC (dH (di (cR (au bW (aa (aq bQ 0 (Zi 2)) (aa (aq bQ 2 (aq uX 4 (Zi 1))) aj)))) (cR (au bW (aa (aq bQ 0 (Zi 3)) (aa (aq bQ 2 (aU 4)) aj))))) (aQ (aq cU 3 (aN bQ (aN bQ (aq bQ 0 (Zi 1)) (Zi 0)) (Zi 1))) (ak 3)) bU) (aQ (aq cU 3 (aq bQ 2 (aU 4))) (ak 3))
def jD:cu:=aC (aQ (aN cU (aN cU (Zw [35]) (aU 1)) (Zw [35])) (ak 2)) (aC (aQ (Zw []) (ak 3)) (aC (dF (gj (aa (Zi 1) (aa (au cJ (aa (aU 2) aj)) aj))) (ak 4) (CV)) (bw (Gs (aM 3) pU (Bo (kh CZ (Zi 1)))))))
def lz:LD:=cQ 5 jD
def Bh:cu:=aC (aQ (aq bQ 7 (aq uX 9 (Zi 1))) (ak 10)) (aC (dH (cR (aq lV 2 (Zw [97,108,111,110,103]))) (aQ (aq bQ 8 (kh CZ (Zi 1))) (ak 10)) bU) (dH (di (cR (aN su (aq bQ 7 (aU 9)) (aU 6))) (di (cR (au bW (Zv 4 (Zv 10 aj)))) (cR (au bW (Zv 5 (aa (aq bQ 7 (aq cU 9 (Zi 1))) aj)))))) (aQ (aq cU 8 (aq jL 6 (aq bQ 7 (aU 9)))) (ak 8)) (aQ (aq cU 8 (aq bQ 7 (aU 9))) (ak 8))))
def gM:cu:=aC (aQ (aM 0) (bV 4 (aH (ak 2) (aH (ak 3) (aH (ak 4) (aH (ak 5) bZ)))))) (aC (dH (cR (aN lV (aN bQ (aq bQ 3 (Zi 0)) (Zi 0)) (Zw []))) (bw (au lz (Zv 0 (Zv 1 aj)))) bU) (aC (aQ (au tu (aa (aU 3) aj)) (ak 6)) (aC (aQ (aN cU (aN cU (Zw [35]) (aU 1)) (Zw [35])) (ak 7)) (aC (aQ (Zw [35]) (ak 8)) (aC (dF (gj (aa (Zi 1) (aa (aN uX (au cJ (aa (aU 7) aj)) (Zi 1)) aj))) (ak 9) (Bh)) (bw (Gs (aM 8) (Bo (Zi 1)) pU)))))))
def dD:LD:=cQ 11 gM
def fY:cu:=bw (bK (aa (aq bQ 0 (Zi 0)) (aa (aq bQ 0 (Zi 1)) (aa (aq bQ 0 (Zi 3)) (aa (aq bQ 0 (Zi 2)) aj)))))
def fX:LD:=cQ 1 fY
def gO:cu:=aC (dH (cR (aq lV 0 (Zw [114,105,103,104,116]))) (bw (pD (au dD (aa (au fX (Zv 1 aj)) (aa (pD (aM 2)) aj))))) bU) (bw (au dD (Zv 1 (Zv 2 aj))))
def eO:LD:=cQ 3 gO
def HQ:cu:=dZ 2 (au eO (aa (aq bQ 0 (Zi 0)) (Zv 3 (aa (aq bQ 2 (kh CZ (Zi 1))) aj))))
def uF:cu:=aC (cT 2 (cB (Zv 1 aj))) (aC (dF (dO (aq bQ 0 (Zi 1))) (ak 3) (HQ)) (bw (au cO (aa (aU 2) aj))))
def qD:LD:=cQ 4 uF
def R4:cu:=bw (aN bQ (au qD (Zv 0 (Zv 1 aj))) (kh CZ (Zi 1)))
def uw:LD:=cQ 2 R4
def iu:Ev:=d9 7 8 (dO (aM 0)) (ak 7) cA (aq cU 6 (aU 7))
def iw:cu:=Iv 5 (iu)
def my:cu:=aC (cT 5 (cB aj)) (aC (dF (dO (aM 3)) (ak 6) (iw)) (aC (aQ (aM 5) (ak 3)) (cT 2 (aN acK (aM 2) (aU 3)))))
def uM:cu:=aC (cT 2 (cB (aa (Zw []) aj))) (aC (aQ (cB (aa (Zw []) aj)) (ak 3)) (aC (dF (gj (Zv 1 aj)) (ak 4) (my)) (yt (K6 2))))
def jP:LD:=runN 7 uM
def uq:cu:=aC (aQ (aN bQ (aN bQ (aq bQ 5 (aU 6)) (Zi 1)) (aN jd (aM 0) (aU 7))) (bV 2 (aH (ak 8) (aH (ak 6) bZ)))) (aQ (aq cU 4 (aU 8)) (ak 4))
def Bs:cu:=aC (aQ (aM 1) (bV 2 (aH (ak 4) (aH (ak 5) bZ)))) (aC (aQ (Zi 0) (ak 6)) (aC (dH (cR (aq lV 2 (Zw [114,105,103,104,116]))) (aQ (pD (aM 3)) (ak 3)) bU) (aC (dF (dO (aM 3)) (ak 7) (uq)) (aC (aQ (aq cU 4 (aN bQ (aq bQ 5 (aU 6)) (Zi 0))) (ak 4)) (aC (dH (cR (aq lV 2 (Zw [114,105,103,104,116]))) (bw (pD (aM 4))) bU) (bw (aM 4)))))))
def tD:LD:=cQ 9 Bs
def gV:Ev:=d9 2 3 (dO (aM 0)) (ak 2) cA (aq gIn 2 (aU 1))
def o9:cu:=bw (Pg (kh (ur "str") (aM 0)) (au Wj (aa (gV) aj)))
def dU:LD:=cQ 2 o9
def gD:cu:=aC (dH (j8 (gb (cR (kh (ur "tuple") (aM 3)))) (j8 (cR (aN yf (au cJ (aa (aU 3) aj)) (Zi 2))) (gb (cR (au dU (aa (aq bQ 3 (Zi 0)) (Zv 1 aj))))))) (bw (tU (.bl false))) bU) (dH (j8 (cR (kh (ur "bool") (aq bQ 3 (Zi 1)))) (j8 (gb (cR (kh (ur "int") (aq bQ 3 (Zi 1))))) (gb (cR (zA gLe wV (Zi 0) (aq bQ 3 (Zi 1)) (au cJ (aa (aq bQ 0 (Zi 1)) aj))))))) (bw (tU (.bl false))) bU)
def gC:cu:=aC (dH (j8 (gb (cR (kh (ur "tuple") (aM 2)))) (j8 (cR (aN yf (au cJ (aa (aU 2) aj)) (Zi 2))) (gb (cR (au dU (aa (aq bQ 2 (Zi 0)) (Zv 1 aj))))))) (bw (tU (.bl false))) bU) (aC (dH (j8 (gb (cR (kh (ur "tuple") (aq bQ 2 (Zi 1))))) (cR (aN yf (au cJ (aa (aq bQ 2 (Zi 1)) aj)) (au cJ (aa (aU 1) aj))))) (bw (tU (.bl false))) bU) (dF (dO (aq bQ 2 (Zi 1))) (ak 3) (gD)))
def lB:cu:=aC (dH (j8 (gb (cR (kh (ur "tuple") (aM 0)))) (j8 (cR (aN yf (au cJ (aa (aU 0) aj)) (Zi 2))) (gb (cR (au dU (aa (aq bQ 0 (Zi 0)) (Zv 1 aj))))))) (bw (tU (.bl false))) bU) (aC (dH (j8 (gb (cR (kh (ur "tuple") (aq bQ 0 (Zi 1))))) (cR (aN lV (aq bQ 0 (Zi 1)) (bK aj)))) (bw (tU (.bl false))) bU) (aC (dF (dO (aq bQ 0 (Zi 1))) (ak 2) (gC)) (bw (tU (.bl true)))))
def dC:LD:=cQ 4 lB
def uH:cu:=aC (aQ (aM 0) (bV 4 (aH (ak 3) (aH (ak 4) (aH (ak 5) (aH (ak 6) bZ)))))) (aC (aQ (aM 1) (bV 2 (aH (ak 7) (aH (ak 8) bZ)))) (aC (dH (cR (aN lV (aN bQ (aq bQ 4 (Zi 0)) (Zi 0)) (Zw []))) (aC (aQ (aM 8) (ak 9)) (aC (dH (di (cR (aM 7)) (cR (au bW (Zv 6 (Zv 2 aj))))) (aQ (aq cU 9 (aN bQ (aq bQ 4 (Zi 0)) (Zi 1))) (ak 9)) bU) (bw (bK (aa (bK (aa (au bW (Zv 5 (Zv 2 aj))) (Zv 2 aj))) (Zv 9 aj)))))) bU) (aC (dH (cR (aq lV 8 (Zw []))) (bw (bK (aa (bK (Zv 7 (Zv 2 aj))) (aa (Zw []) aj)))) bU) (aC (aQ (aM 8) (ak 9)) (aC (aQ (au tu (aa (aU 4) aj)) (ak 10)) (aC (dH (di (cR (aq su 8 (aU 10))) (di (cR (aM 7)) (cR (au bW (Zv 6 (Zv 2 aj)))))) (aQ (aq jL 10 (aU 8)) (ak 9)) bU) (aC (dH (cR (aq lV 3 (Zw [111,110,99,101]))) (bw (bK (aa (bK (aa (au bW (Zv 5 (Zv 8 aj))) (Zv 2 aj))) (Zv 9 aj)))) bU) (aC (dH (cR (aq lV 9 (Zw []))) (bw (bK (aa (bK (Zv 7 (Zv 2 aj))) (Zv 9 aj)))) bU) (bw (bK (aa (bK (aa (au bW (Zv 5 (Zv 9 aj))) (Zv 2 aj))) (Zv 9 aj))))))))))))
def qF:LD:=cQ 11 uH
def oF:cu:=aC (aQ (au qF (aa (aq bQ 0 (aU 5)) (Zv 6 (Zv 8 aj)))) (bV 2 (aH (ak 6) (aH (ak 9) bZ)))) (aQ (aq cU 7 (aU 9)) (ak 7))
def oE:cu:=aC (aQ (aq bQ 1 (aU 5)) (ak 6)) (aC (aQ (Zw []) (ak 7)) (aC (dF (dO (aM 4)) (ak 8) (oF)) (aC (dZ 3 (aM 6)) (aQ (aM 7) (ak 4)))))
def wW:cu:=aC (cT 3 (cB aj)) (aC (aQ (aM 2) (ak 4)) (aC (dF (gj (aa (au cJ (aa (aU 0) aj)) aj)) (ak 5) (oE)) (bw (au cO (aa (aU 3) aj)))))
def sE:LD:=cQ 10 wW
def qu:Ev:=d9 9 10 (dO (aM 3)) (ak 9) cA (au fX (Zv 9 aj))
def jz:Ev:=d9 9 10 (dO (aM 3)) (ak 9) cA (bK (aa (au bW (aa (aq bQ 9 (Zi 2)) (aa (Zw [35]) aj))) (aa (Zw []) aj)))
def jA:cu:=aC (aQ (au sE (Zv 3 (aa (aq bQ 4 (aU 6)) (Zv 7 aj)))) (ak 8)) (dH (cR (aq lU 8 (aU 5))) (aC (qY 5 (aM 8) (tU (.bl true))) (dZ 4 (aM 8))) bU)
def gZ:cu:=aC (dF (dO (aM 0)) (ak 7) (jA)) (aQ (aq cU 6 (Zi 1)) (ak 6))
def pR:cu:=aC (aQ (aq bQ 1 (Zi 1)) (ak 3)) (aC (dH (cR (aN lV (aq bQ 1 (Zi 0)) (Zw [114,105,103,104,116]))) (cT 3 (qu)) bU) (aC (cT 4 (cB (aa (au cO (aa (jz) aj)) aj))) (aC (cT 5 (au KZ (aa (cB (aa (bK (aa (aq bQ 4 (Zi 0)) (aa (tU (.bl true)) aj))) aj)) aj))) (aC (aQ (Zi 0) (ak 6)) (aC (eV (di (cR (aq wV 6 (au cJ (aa (aU 4) aj)))) (cR (aN gLe (au cJ (aa (aU 4) aj)) (aU 2)))) (gZ) 7000) (bw (au cJ (aa (aU 4) aj))))))))
def jO:LD:=cQ 9 pR
def lH:Ev:=d9 6 7 (dO (aM 1)) (ak 6) cA (bK (Zv 6 (aa (aN KY (bK (aa (Zw [115]) aj)) (au Uj (aa (aq lV 6 (aq bQ 1 (Zi 0))) aj))) aj)))
def lG:Ev:=d9 6 7 (gj (aa (Zi 4) aj)) (ak 6) cA (dX jB 0 (Zv 1 aj))
def jc:cu:=dH (cR (aN yf (au tD (Zv 1 (Zv 4 (aa (aq bQ 3 (Zi 0)) (Zv 5 aj))))) (au uw (Zv 3 (Zv 5 aj))))) (bw (tU (.bl false))) bU
def oU:cu:=aC (aQ (au cO (aa (lH) aj)) (ak 2)) (aC (aQ (bK (aa (aN bQ (cB (aa (Zw [108,101,102,116]) (aa (Zw [114,105,103,104,116]) aj))) (dX bh 0 (aa (Zi 2) aj))) (aa (au cO (aa (lG) aj)) aj))) (ak 3)) (aC (dH (cR (aN gGt (au jO (Zv 1 (Zv 3 (aa (Zi 600) aj)))) (Zi 600))) (bw (tU (.bl true))) bU) (aC (aQ (au cY (Zv 2 (Zv 3 aj))) (ak 4)) (aC (dF (dO (au jP (Zv 1 (aa (aN bQ (cB (aa (Zi 0) (aa (Zi 0) (aa (Zi 4) (aa (Zi 4) (aa (Zi 3) aj)))))) (au cJ (aa (aU 1) aj))) aj)))) (ak 5) (jc)) (bw (au dC (Zv 4 (Zv 1 aj))))))))
def lA:List D->Option (D×D):=jh 6 oU
def rE:cu:=bw (dX mW 0 (Zv 1 (aa (aN bQ (cB (aa (Zi 1) (aa (Zi 2) (aa (Zi 2) (aa (Zi 3) aj))))) (dX bh 0 (aa (Zi 4) aj))) aj)))
def iU:List D->Option (D×D):=jh 2 rE
def nC:cu:=dZ 5 (dX oM 0 (Zv 3 (aa (Zi 10) aj)))
def qw:cu:=aC (aQ (au uw (Zv 2 (Zv 7 aj))) (ak 8)) (dH (cR (aN yf (au tD (Zv 3 (Zv 4 (aa (aq bQ 2 (Zi 0)) (Zv 7 aj))))) (aU 8))) (bw (tU (.bl false))) bU)
def Ca:cu:=aC (aQ (au fD (Zv 1 aj)) (ak 3)) (aC (aQ (au cY (Zv 1 (Zv 2 aj))) (ak 4)) (aC (dH (j8 (gb (cR (au dC (Zv 4 (Zv 3 aj))))) (cR (aN yf (au cY (Zv 1 (Zv 2 aj))) (aU 4)))) (bw (tU (.bl false))) bU) (aC (cT 5 (au jP (Zv 3 (aa (aN bQ (cB (aa (Zi 0) (aa (Zi 7) (aa (Zi 5) (aa (Zi 3) (aa (Zi 3) aj)))))) (au cJ (aa (aU 3) aj))) aj)))) (aC (dF (gj (aa (Zi 4) aj)) (ak 6) (nC)) (aC (dF (dO (aM 5)) (ak 7) (qw)) (bw (aN lV (au Gq (Zv 1 (Zv 4 (aa (aq bQ 2 (Zi 0)) (aa (aq bQ 5 (kh CZ (Zi 1))) aj))))) (aU 8))))))))
def rC:List D->Option (D×D):=jh 9 Ca
def yZ:cu:=aC (cT 2 (au kJ (Zv 0 (Zv 1 aj)))) (aC (aQ (dX mV 2 aj) (ak 3)) (dH (gb (cR (dX rC 2 (Zv 3 (aa (dX iU 2 (aa (au fD (Zv 3 aj)) aj)) aj))))) (bw (tU (.bl false))) bU))
def aeg:cu:=aC (dF (gj (aa (Zi 0) (aa (au Wi (aa (Zi 1) (aa (au Wh (aa (au cJ (aa (aU 0) aj)) (aa (Zi 8) aj))) aj))) (aa (Zi 2) aj)))) (ak 1) (yZ)) (aC (cT 2 (au kJ (Zv 0 (aa (Zi 8) aj)))) (aC (aQ (Zw [97,98,99,100,101,102,103,104,105,106,107,108,109,110,111,112,113,114,115,116,117,118,119,120,121,122]) (ak 4)) (aC (aQ (dX bh 2 (aa (Zi 25) aj)) (ak 5)) (aC (aQ (aN cU (aq bQ 4 (aU 5)) (aq bQ 4 (aN cU (aq cU 5 (Zi 1)) (dX bh 2 (aa (aN uX (Zi 25) (aU 5)) aj))))) (ak 6)) (aC (dH (gb (cR (dX lA 2 (Zv 6 aj)))) (bw (tU (.bl false))) bU) (bw (Ur lA (au kJ (Zv 0 (aa (Zi 10) aj))) (aa (aN bQ (cB (aa (Zw [97,98,99]) (aa (Zw [97,101,112]) (aa (Zw [109,110,122]) (aa (Zw [97,101,112,116]) aj))))) (dX bh 2 (aa (Zi 4) aj))) aj))))))))
def Uo:LD:=cQ 7 aeg
end
open PySem PySem.Spec PyProof.Rows L2 Ev
def top(i:Nat):Stmt:=PySem.Challenge.pw_soundrules_k21_least_machines_make_the_s.main.body.getD i (.Pass ⟨0,0,0,0⟩)
abbrev vp:Stmt:=top 5
abbrev Q4:Stmt:=top 7
abbrev Eu:Stmt:=top 8
abbrev Ao:Stmt:=top 9
abbrev pH:Stmt:=top 12
abbrev ou:Stmt:=top 13
abbrev m8:Stmt:=top 14
abbrev pI:Stmt:=top 15
abbrev tZ:Stmt:=top 16
abbrev xA:Stmt:=top 17
abbrev vo:Stmt:=top 18
abbrev An:Stmt:=top 19
abbrev Ex:Stmt:=top 20
abbrev xB:Stmt:=top 21
abbrev Xz:Stmt:=top 23
abbrev m7:Stmt:=top 24
abbrev qg:Stmt:=top 25
abbrev oA:Stmt:=top 26
abbrev pJ:Stmt:=top 27
abbrev xC:Stmt:=top 28
abbrev rM:Stmt:=top 29
abbrev Ew:Stmt:=top 30
abbrev pK:Stmt:=top 31
abbrev vD:Stmt:=top 33
abbrev xJ:Stmt:=top 34
abbrev xF:Stmt:=top 35
abbrev vq:Stmt:=top 36
abbrev ue:Stmt:=top 37
abbrev vA:Stmt:=top 38
abbrev rP:Stmt:=top 39
abbrev xG:Stmt:=top 40
abbrev vC:Stmt:=top 41
abbrev xD:Stmt:=top 42
abbrev xM:Stmt:=top 43
abbrev uf:Stmt:=top 44
abbrev rQ:Stmt:=top 45
abbrev t7:Stmt:=top 46
abbrev rR:Stmt:=top 47
abbrev xE:Stmt:=top 48
abbrev xK:Stmt:=top 49
abbrev pM:Stmt:=top 50
abbrev Aq:Stmt:=top 51
abbrev rO:Stmt:=top 52
abbrev n8:Stmt:=top 53
abbrev xH:Stmt:=top 54
abbrev rN:Stmt:=top 55
abbrev pL:Stmt:=top 56
abbrev oh:Stmt:=top 57
abbrev m9:Stmt:=top 58
abbrev vB:Stmt:=top 59
abbrev XC:Stmt:=top 60
structure Top(K:Fg)(mg:Str->Option Value):Prop where
 af5:mg "all"=none
 ach:mg "bool"=none
 Dp:mg "dict"=none
 VR:mg "divmod"=none
 Ks:mg "enumerate"=none
 ZC:mg "int"=none
 gH:mg "isinstance"=none
 dI:mg "len"=none
 acg:mg "list"=none
 af4:mg "max"=none
 af3:mg "min"=none
 jJ:mg "range"=none
 Zz:mg "set"=none
 Jj:mg "sorted"=none
 af1:mg "str"=none
 dh:mg "tuple"=none
 Kr:mg "zip"=none
 vM:∀d:D,PySem.W.kitOne K (.type (U6 d)) (.type "bool")=some (sZ d "bool")
 zj:∀d:D,PySem.W.kitOne K (.type (U6 d)) (.type "int")=some (sZ d "int")
 zg:∀d:D,PySem.W.kitOne K (.type (U6 d)) (.type "str")=some (sZ d "str")
 lq:∀d:D,PySem.W.kitOne K (.type (U6 d)) (.type "tuple")=some (sZ d "tuple")
 o5:Glb K mg "EDGE" (.str [35])
 iM:Glb K mg "MOST_STANDINGS" (.int 600)
 Ms:dq K mg "sounds_of" vp ["stock"]
 aeC:dq K mg "fits" Q4 ["signs","sign"]
 Xg:dq K mg "turned" Eu ["rule"]
 Vb:dq K mg "puts_in" Ao ["rule"]
 Cu:dq K mg "reading_rules" pH ["order"]
 Ab:dq K mg "first_standing" ou ["order"]
 yq:dq K mg "read_putting_in" m8 Zq6
 Cv:dq K mg "read_changing" pI Zq6
 JS:dq K mg "read_signs" tZ ahd
 Qz:dq K mg "watch_on" xA Zq7
 Mr:dq K mg "watch_end" vo Zq3
 Va:dq K mg "read_on" An Zq7
 Xi:dq K mg "end_of" Ex Zq3
 QB:dq K mg "readings" xB Zq2
 ahE:dq K mg "run" Xz ahc
 yp:dq K mg "standing_states" m7 Zq2
 Ef:dq K mg "shared_start" qg ["texts"]
 Ac:dq K mg "certain_starts" oA W2
 Cw:dq K mg "put_out_early" pJ W2
 QC:dq K mg "numbered" xC ["things"]
 Ho:dq K mg "like_states" rM W2
 Xh:dq K mg "joined" Ew W2
 Cy:dq K mg "least_machine" pK Zq2
 Mx:dq K mg "_law_mixed" vD ["_law_cell"]
 QK:dq K mg "_law_pack" xJ ["_law_script","_law_k"]
 QG:dq K mg "_law_take" xF ahb
 Mt:dq K mg "_law_stock" vq ["_law_pack_here"]
 JV:dq K mg "_law_sounds" ue Zq9
 Mu:dq K mg "_law_signs" vA Qm
 Hs:dq K mg "_law_changes" rP Qm
 QH:dq K mg "_law_rule" xG Qm
 Mw:dq K mg "_law_order" vC Zq4
 QD:dq K mg "_law_word" xD Zq4
 QM:dq K mg "_law_fits" xM ade
 JW:dq K mg "_law_put_in" uf Zq8
 Ht:dq K mg "_law_changed" rQ Zq8
 JT:dq K mg "_law_turned" t7 ["_law_rule_here"]
 Hu:dq K mg "_law_by_side" rR adb
 QF:dq K mg "_law_walk" xE Zq5
 QL:dq K mg "_law_made" xK Zq5
 CG:dq K mg "_law_all_words" pM aha
 Vc:dq K mg "_law_run" Aq ag9
 Hr:dq K mg "_law_is_text" rO ada
 z9:dq K mg "_law_is_machine" n8 ag8
 QJ:dq K mg "_law_read" xH ag7
 Hq:dq K mg "_law_read_on" rN ag6
 Cz:dq K mg "_law_standings" pL ag5
 Aa:dq K mg "_law_four_right" oh Qm
 yr:dq K mg "_law_small_order" m9 Qm
 Mv:dq K mg "_law_right" vB ag4
section
variable{P:Program}{w:World}{K:Fg}{mg:Str->Option Value}{base:Heap}(Z:Top K mg)
theorem J6:bI ["stock"] ["stock"] (aV vp):=gr
include Z in
theorem BK:Own P w K mg base "sounds_of" 1 ["stock"] (pW K 1 eG):=by exact cz Z.Ms J6<|λf cdv A outer s H E hr G=>(fH.u<|aF<|aX<|dY G Z.dh<|aW<|aP<|cP<|lE ["stock","sound","marks"] 1 gf G (dJ G<|aZ 0) (λX1 h1=>by have G:=G.at h1;obtain⟨_,_,_,_,_,rfl⟩:=h1;exact(cX G<|aG (aL 1)<|aG (aL 2) bJ)) (λ_ _=>dg) (λX1 h1=>by obtain⟨_,_,_,_,_,rfl⟩:=h1;exact aZ 1))
theorem abt:bI ["signs","sign"] ["signs","sign"] (aV Q4):=gr
include Z in
theorem Ax:Own P w K mg base "fits" 1 ["signs","sign"] (pW K 2 kW):=by exact cz Z.aeC abt<|λf cdv A outer s H E hr G=>(fH.u<|aF<|aX<|Ri (tX 0 ajo<|aP Kl)<|Dk<|tX 1 (agV G)<|bD 0)
theorem Vk:bI ["rule","way","changes","left","right"] ["rule"] (aV Eu):=gr
include Z in
theorem Zj:Own P w K mg base "turned" 1 ["rule"] (pW K 1 qz):=by
 exact cz Z.Xg Vk (λf cdv A outer s H E hr G=>(fH.u (ao (dG (aZ 0)<|cX G<|aG (aL 1)<|aG (aL 2)<|aG (aL 3)<|aG (aL 4) bJ)
   (aF<|aX<|bY<|cV 1<|cV 2<|cV 4<|cV 3 az))))
theorem Q0:bI ["rule"] ["rule"] (aV Ao):=gr
include Z in
theorem VP:Own P w K mg base "puts_in" 1 ["rule"] (pW K 1 oK):=by exact cz Z.Vb Q0<|λf cdv A outer s H E hr G=>(fH.u<|aF<|aX<|Xb (pQ G) (jG G (jG G (bF 0 G<|aP aJ)<|aP aJ)<|aP aJ)<|aP<|bH [])
theorem Ah:bI ["order","side","rules"] ["order"] (aV pH):=gr
include Z in
theorem pN:Own P w K mg base "reading_rules" 2 ["order"] (pW K 1 dR):=by
 exact cz (k:=1) Z.Cu Ah (λf cdv A outer s H E hr G=>(fH.u (ao (dG (aZ 0) (cX G (aG (aL 1) (aG (aL 2) bJ))))
   (ao (cM (fj 1 (pQ G) (aP (bH [114,105,103,104,116]))) (aF (aX (dY G Z.dh (aW (aP (cP (lE ["order","side","rules","rule"] 3 gf G (dJ G (aZ 2)) (λX1 h1=>by obtain⟨_,_,_,_,_,rfl⟩:=h1;exact aL 3) (λ_ _=>dg) (λX1 h1=>by have G:=G.at h1;obtain⟨_,_,_,_,_,rfl⟩:=h1;exact(bN (Zj Z) G hr (cV 3 az) (bz len0)))))))))) bM)
   (aF (aX (aZ 2)))))))
theorem yE:bI ["order"] ["order"] (aV ou):=gr
include Z in
theorem Ay:Own P w K mg base "first_standing" 3 ["order"] (pW K 1 dW):=by obtain⟨aex,aez,o5⟩:=Z.o5;exact cz Z.Ab yE<|λf cdv A outer s H E hr G=>(fH.u<|aF<|aX<|dY G Z.dh<|aW<|aP<|cP<|lE ["order","way","changes","left","right"] 1 gf G (dJ G<|bN (pN Z) G hr (cV 0 az)<|bz len0) (λX1 h1=>by have G:=G.at h1;obtain⟨_,_,_,_,_,rfl⟩:=h1;exact(cX G<|aG (aL 1)<|aG (aL 2)<|aG (aL 3)<|aG (aL 4) bJ)) (λ_ _=>dg) (λX1 h1=>by have G:=G.at h1;obtain⟨_,_,_,_,_,rfl⟩:=h1;exact(bY<|aA (bN (Ax Z) G hr (cV 3<|aA (Fi (.str [35]) rfl o5.1 o5.2.1 (λF=>o5.2.2 F)) az)<|bz<|bz len0)<|aA (bH []) az)))
theorem xu:bI ajw Zq6 (aV m8):=gr
include Z in
theorem yO:Own P w K mg base "read_putting_in" 2 Zq6 (pW K 3 fC):=by
 exact cz (k:=1) Z.yq xu (λf cdv A outer s H E hr G=>(fH.u (ao (dG (aZ 0)<|cX G<|aG (aL 3)<|aG (aL 4) (aG (aL 5) (aG (aL 6) bJ)))
   (ao (dG (aZ 1) (cX G (aG (aL 7) (aG (aL 8) bJ))))
   (ao (bG 9 (aZ 8))
   (ao (cM (jF (kI (du (aZ 7)) (mO (du (bN (Ax Z) G hr (cV 6 (cV 2 az)) (bz (bz len0))))))) (aF (bG 9 (eE 8 (gk G) (aP (jG G (bF 4 G (aP aJ)) (aP aJ)))))) bM)
   (aF (aX (bY (aA (bY (aA (bN (Ax Z) G hr (cV 5 (cV 2 az)) (bz (bz len0))) (cV 2 az))) (cV 9 az)))))))))))
theorem Ai:bI ajw Zq6 (aV pI):=gr
include Z in
theorem CN:Own P w K mg base "read_changing" 2 Zq6 (pW K 3 fO):=by
 exact cz (k:=1) Z.Cv Ai (λf cdv A outer s H E hr G=>(fH.u (ao (dG (aZ 0)<|cX G (aG (aL 3) (aG (aL 4) (aG (aL 5) (aG (aL 6) bJ)))))
   (ao (dG (aZ 1) (cX G (aG (aL 7) (aG (aL 8) bJ))))
   (ao (cM (fj 8 (pQ G) (aP (bH []))) (aF (aX (bY (aA (bY (cV 7 (cV 2 az))) (aA (bH []) az))))) bM)
   (ao (bG 9 (aZ 8))
   (ao (cM (jF (kI (du (aZ 7)) (mO (du (bN (Ax Z) G hr (cV 6 (cV 2 az)) (bz (bz len0))))))) (aF (bG 9 (abi G (JP G Z.Dp (aW (bD 4))) (aZ 8) (aZ 8)))) bM)
   (ao (cM (fj 3 (pQ G) (aP (bH [111,110,99,101]))) (aF (aX (bY (aA (bY (aA (bN (Ax Z) G hr (cV 5 (cV 8 az)) (bz (bz len0))) (cV 2 az))) (cV 9 az))))) bM)
   (ao (cM (fj 9 (pQ G) (aP (bH []))) (aF (aX (bY (aA (bY (cV 7 (cV 2 az))) (cV 9 az))))) bM)
   (aF (aX (bY (aA (bY (aA (bN (Ax Z) G hr (cV 5 (cV 9 az)) (bz (bz len0))) (cV 2 az))) (cV 9 az))))))))))))))
theorem Hw:bI ["rule","standing","signs","puts","acting","sign","held","put"] ahd (aV tZ):=gr
include Z in
theorem yN:Own P w K mg base "read_signs" 3 ahd (pW K 3 iT):=by
 exact cz (k:=2) Z.JS Hw (λf cdv A outer s H E hr G=>(fH.u (ao (fU 3 (cH az))
   (ao (bG 4 lF)
   (ao (fV G (dJ G (aZ 2)) (aL 5) (ao (bG 6 (bF 1 G (aP aJ)))
   (ao (cM (du (bN (VP Z) G hr (cV 0 az) (bz len0))) (aF (dG (bN (yO Z) G hr (cV 0 (cV 1 (cV 5 az))) (bz (bz (bz len0)))) (cX G (aG (aL 1) (aG (aL 7) bJ))))) (aF (dG (bN (CN Z) G hr (cV 0 (cV 1 (cV 5 az))) (bz (bz (bz len0)))) (cX G (aG (aL 1) (aG (aL 7) bJ))))))
   (ao (bG 4 (Ri (aZ 4) (Dk (tX 7 (Ig G) (bD 6)))))
   (aF (jX 3 G (aZ 7)))))))
   (aF (aX (bY (cV 1 (aA (De G (bH []) (bD 3)) (cV 4 az)))))))))))
theorem MT:bI ["order","standing","sound","put","behind","acting","rule","own","new","acts_here"] Zq7 (aV xA):=gr
include Z in
theorem Rq:Own P w K mg base "watch_on" 4 Zq7 (pW K 3 qy):=by
 exact cz (k:=3) Z.Qz MT (λf cdv A outer s H E hr G=>(fH.u (ao (bG 3 (aZ 2))
   (ao (fU 4 (cH az))
   (ao (fU 5 (cH az))
   (ao (fV G (aac G Z.Kr (aA (bN (pN Z) G hr (cV 0 az) (bz len0)) (cV 1 az))) (cX G (aG (aL 6) (aG (aL 7) bJ))) (ao (dG (bN (yN Z) G hr (cV 6 (cV 7 (cV 3 az))) (bz (bz (bz len0)))) (cX G (aG (aL 8) (aG (aL 3) (aG (aL 9) bJ)))))
   (ao (jX 4 G (aZ 8))
   (aF (jX 5 G (aZ 9))))))
   (aF (aX (bY (aA (dY G Z.dh (aW (bD 4))) (cV 3 (aA (dY G Z.dh (aW (bD 5))) az))))))))))))
theorem J5:bI ["order","standing","put","acting","rule","own","new","acts_here"] Zq3 (aV vo):=gr
include Z in
theorem NP:Own P w K mg base "watch_end" 4 Zq3 (pW K 2 pC):=by
 obtain⟨aex,aez,o5⟩:=Z.o5;exact cz (k:=3) Z.Mr J5 (λf cdv A outer s H E hr G=>(fH.u (ao (bG 2 (bH []))
   (ao (fU 3 (cH az))
   (ao (fV G (aac G Z.Kr (aA (bN (pN Z) G hr (cV 0 az) (bz len0)) (cV 1 az))) (cX G (aG (aL 4) (aG (aL 5) bJ))) (ao (dG (bN (yN Z) G hr (cV 4 (cV 5 (aA (eE 2 (gk G) (aP (Fi (.str [35]) rfl o5.1 o5.2.1 (λF=>o5.2.2 F)))) az))) (bz (bz (bz len0)))) (cX G (aG (aL 6) (aG (aL 2) (aG (aL 7) bJ)))))
   (aF (jX 3 G (aZ 7)))))
   (aF (aX (bY (cV 2 (aA (dY G Z.dh (aW (bD 3))) az))))))))))
theorem QZ:bI ["order","standing","sound","behind","put","acting"] Zq7 (aV An):=gr
include Z in
theorem VN:Own P w K mg base "read_on" 5 Zq7 (pW K 3 oJ):=by
 exact cz (k:=4) Z.Va QZ (λf cdv A outer s H E hr G=>(fH.u (ao (dG (bN (Rq Z) G hr (cV 0 (cV 1 (cV 2 az))) (bz (bz (bz len0)))) (cX G (aG (aL 3) (aG (aL 4) (aG (aL 5) bJ)))))
   (aF (aX (bY (cV 3 (cV 4 az))))))))
theorem Vm:bI Zq3 Zq3 (aV Ex):=gr
include Z in
theorem Zm:Own P w K mg base "end_of" 5 Zq3 (pW K 2 nJ):=by exact cz Z.Xi Vm<|λf cdv A outer s H E hr G=>(fH.u<|aF<|aX<|jG G (bN (NP Z) G hr (cV 0<|cV 1 az)<|bz<|bz len0)<|aP aJ)
theorem M3:bI ["stock","order","found","places","rows","steps","sound","behind","put"] Zq2 (aV xB):=gr
include Z in
theorem Rr:Own P w K mg base "readings" 6 Zq2 (pW K 2 qC):=by
 obtain⟨U4,U5,iM⟩:=Z.iM;exact cz (k:=5) Z.QB M3 (λf cdv A outer s H E hr G=>(fH.u (ao (fU 2 (cH (aA (bN (Ay Z) G hr (cV 1 az) (bz len0)) az)))
   (ao (fU 3 (Vt G (bF 2 G (aP aJ)) aJ))
   (ao (fU 4 (cH az))
   (ao (sO 7000 G (ie R1 (d8 G Z.dI (aW (bD 4))) (aP (d8 G Z.dI (aW (bD 2))))) (ao (fU 5 (cH az))
   (ao (fV G (dJ G (bN (BK Z) G hr (cV 0 az) (bz len0))) (aL 6) (ao (dG (bN (VN Z) G hr (cV 1 (aA (bF 2 G (aP (d8 G Z.dI (aW (bD 4))))) (cV 6 az))) (bz (bz (bz len0)))) (cX G (aG (aL 7) (aG (aL 8) bJ))))
   (ao (cM (fj 7 (GX G) (bD 3)) (ao (Ey 3 G (aZ 7) (d8 G Z.dI (aW (bD 2))))
   (aF (jX 2 G (aZ 7)))) bM)
   (aF (jX 5 G (bY (cV 8 (aA (LR 3 G (bD 7)) az))))))))
   (ao (cM (ie ajp (d8 G Z.dI (aW (bD 2))) (aP (Fi (.int 600) rfl iM.1 iM.2.1 (λF=>iM.2.2 F)))) (aF Q9) bM)
   (aF (jX 4 G (dY G Z.dh (aW (bD 5)))))))))
   (aF (aX (bY (cV 2 (cV 4 az)))))))))))
theorem aeR:bI ["stock","machine","side","word","first","states","sounds","puts","state","read","sound","put","whole"] ahc (aV Xz):=gr
include Z in
theorem aiE:Own P w K mg base "run" 2 ahc (pW K 4 Gq):=by
 exact cz (k:=1) Z.ahE aeR (λf cdv A outer s H E hr G=>(fH.u (ao (dG (aZ 1)<|cX G (aG (aL 4) (aG (aL 5) bJ)))
   (ao (bG 6 (bN (BK Z) G hr (cV 0 az) (bz len0)))
   (ao (fU 7 (cH (cV 4 az)))
   (ao (bG 8 aJ)
   (ao (bG 9 (Ys (fj 2 (pQ G) (aP (bH [114,105,103,104,116]))) (zZ (aZ 3)) (aZ 3)))
   (ao (fV G (dJ G (aZ 9)) (aL 10) (ao (dG (jG G (jG G (bF 5 G (bD 8)) (aP aJ)) (aP (UW G (aZ 6) (bD 10)))) (cX G (aG (aL 11) (aG (aL 8) bJ))))
   (aF (jX 7 G (aZ 11)))))
   (ao (jX 7 G (jG G (bF 5 G (bD 8)) (aP aJ)))
   (ao (bG 12 (De G (bH []) (bD 7)))
   (aF (aX (Ys (fj 2 (pQ G) (aP (bH [114,105,103,104,116]))) (zZ (aZ 12)) (aZ 12))))))))))))))
theorem xq:bI ["stock","order","found","rows"] Zq2 (aV m7):=gr
include Z in
theorem yM:Own P w K mg base "standing_states" 7 Zq2 (pW K 2 iR):=by
 exact cz (k:=6) Z.yp xq (λf cdv A outer s H E hr G=>(fH.u (ao (dG (bN (Rr Z) G hr (cV 0 (cV 1 az)) (bz (bz len0))) (cX G (aG (aL 2) (aG (aL 3) bJ))))
   (aF (aX (cP (lE ["stock","order","found","rows","standing","steps"] 4 gf G (Oz G Z.Kr (cV 2 (cV 3 az))) (λX1 h1=>by have G:=G.at h1;obtain⟨_,_,_,_,_,rfl⟩:=h1;exact(cX G (aG (aL 4) (aG (aL 5) bJ)))) (λ_ _=>dg) (λX1 h1=>by have G:=G.at h1;obtain⟨_,_,_,_,_,rfl⟩:=h1;exact(bY (aA (bN (Zm Z) G hr (cV 1 (cV 4 az)) (bz (bz len0))) (cV 5 az)))))))))))
theorem CK:bI ["texts","start","text","many"] ["texts"] (aV qg):=gr
include Z in
theorem Fv:Own P w K mg base "shared_start" 1 ["texts"] (pW K 1 jo):=by
 exact cz (k:=0) Z.Ef CK (λf cdv A outer s H E hr G=>(fH.u (ao (bG 1<|bF 0 G<|aP aJ)
   (ao (fV G (dJ G (aZ 0)) (aL 2) (ao (bG 3 aJ)
   (ao (sO 7000 G (jF (kI (fj 3 R1 (aP (d8 G Z.dI (aW (bD 1))))) (kI (fj 3 R1 (aP (d8 G Z.dI (aW (bD 2))))) (mO (ie (pQ G) (bF 1 G (bD 3)) (aP (bF 2 G (bD 3)))))))) (aF (aeU 3 aJ)))
   (aF (bG 1 (Qp G (aZ 1) p7 (mQ (aZ 3))))))))
   (aF (aX (aZ 1)))))))
theorem yF:bI ["states","known","starts"] W2 (aV oA):=gr
include Z in
theorem Az:Own P w K mg base "certain_starts" 2 W2 (pW K 1 jq):=by
 exact cz (k:=1) Z.Ac yF (λf cdv A outer s H E hr G=>(fH.u (ao (bG 1 (cP (cH az)))
   (ao (S9 ["states","known","starts","end","steps"] 3 2 gf G (dJ G (aZ 0)) (λX1 h1=>by have G:=G.at h1;obtain⟨_,_,_,_,_,rfl⟩:=h1;exact(cX G (aG (aL 3) (aG (aL 4) bJ)))) (λ_ _=>dg) (λX1 h1=>by obtain⟨_,_,_,_,_,rfl⟩:=h1;exact aZ 3))
   (ao (sO 20000 G (fj 2 (Ig G) (bD 1)) (ao (bG 1 (aZ 2))
   (aF (S9 ["states","known","starts","end","steps"] 3 2 gf G (dJ G (aZ 0)) (λX1 h1=>by have G:=G.at h1;obtain⟨_,_,_,_,_,rfl⟩:=h1;exact(cX G (aG (aL 3) (aG (aL 4) bJ)))) (λ_ _=>dg) (λX1 h1=>by have G:=G.at h1;obtain⟨_,_,_,_,_,rfl⟩:=h1;exact(bN (Fv Z) G hr (aA (gm (gk G) (cP (cH (cV 3 az))) (aP (cP (lE ["states","known","starts","end","steps","put","to"] 5 gf G (dJ G (aZ 4)) (λX1 h1=>by have G:=G.at h1;obtain⟨_,_,_,_,_,rfl⟩:=h1;exact(cX G (aG (aL 5) (aG (aL 6) bJ)))) (λ_ _=>dg) (λX1 h1=>by have G:=G.at h1;obtain⟨_,_,_,_,_,rfl⟩:=h1;exact(eE 5 (gk G) (aP (bF 1 G (bD 6))))))))) az) (bz len0)))))))
   (aF (aX (aZ 2))))))))
theorem Aj:bI ["states","starts","early","start","end","steps","many"] W2 (aV pJ):=gr
include Z in
theorem CP:Own P w K mg base "put_out_early" 3 W2 (pW K 1 jN):=by
 exact cz (k:=2) Z.Cw Aj (λf cdv A outer s H E hr G=>(fH.u (ao (bG 1 (bN (Az Z) G hr (cV 0 az) (bz len0)))
   (ao (fU 2 (cH az))
   (ao (fV G (Oz G Z.Kr (cV 1 (cV 0 az))) (cX G (aG (aL 3) (aG (cX G (aG (aL 4) (aG (aL 5) bJ))) bJ))) (ao (bG 6 (d8 G Z.dI (aW (bD 3))))
   (aF (jX 2 G (bY (aA (Qp G (aZ 4) (mQ (aZ 6)) p7) (aA (dY G Z.dh (aW (aP (cP (lE ["states","starts","early","start","end","steps","many","put","to"] 7 gf G (dJ G (aZ 5)) (λX1 h1=>by have G:=G.at h1;obtain⟨_,_,_,_,_,rfl⟩:=h1;exact(cX G (aG (aL 7) (aG (aL 8) bJ)))) (λ_ _=>dg) (λX1 h1=>by have G:=G.at h1;obtain⟨_,_,_,_,_,rfl⟩:=h1;exact(bY (aA (Qp G (eE 7 (gk G) (aP (bF 1 G (bD 8)))) (mQ (aZ 6)) p7) (cV 8 az))))))))) az)))))))
   (aF (aX (bY (aA (bF 1 G (aP aJ)) (cV 2 az))))))))))
theorem M4:bI ["things","numbers","thing"] ["things"] (aV xC):=gr
include Z in
theorem Fw:Own P w K mg base "numbered" 1 ["things"] (pW K 1 mz):=by
 exact cz (k:=0) Z.QC M4 (λf cdv A outer s H E hr G=>(fH.u (ao (fU 1 Rb)
   (ao (fV G (dJ G<|aZ 0) (aL 2)<|aF<|cM (fj 2 (GX G)<|bD 1) (aF<|Ey 1 G (aZ 2) (abf G Z.dI (aW (bD 1)))) bM)
   (aF (aX (cP (lE ["things","numbers","%2","thing"] 3 gf G (dJ G (aZ 0)) (λX1 h1=>by obtain⟨_,_,_,_,_,rfl⟩:=h1;exact aL 3) (λ_ _=>dg) (λX1 h1=>by have G:=G.at h1;obtain⟨_,_,_,_,_,rfl⟩:=h1;exact(LR 1 G (bD 3)))))))))))
theorem En:bI ["states","groups","many"] W2 (aV rM):=gr
include Z in
theorem HD:Own P w K mg base "like_states" 2 W2 (pW K 1 lO):=by
 exact cz (k:=1) Z.Ho En (λf cdv A outer s H E hr G=>(fH.u (ao (bG 1 (bN (Fw Z) G hr (aA (cP (lE ["states","groups","many","end","steps"] 3 gf G (dJ G (aZ 0)) (λX1 h1=>by have G:=G.at h1;obtain⟨_,_,_,_,_,rfl⟩:=h1;exact(cX G (aG (aL 3) (aG (aL 4) bJ)))) (λ_ _=>dg) (λX1 h1=>by have G:=G.at h1;obtain⟨_,_,_,_,_,rfl⟩:=h1;exact(bY (cV 3 (aA (dY G Z.dh (aW (aP (cP (lE ["states","groups","many","end","steps","put","to"] 5 gf G (dJ G (aZ 4)) (λX1 h1=>by have G:=G.at h1;obtain⟨_,_,_,_,_,rfl⟩:=h1;exact(cX G (aG (aL 5) (aG (aL 6) bJ)))) (λ_ _=>dg) (λX1 h1=>by obtain⟨_,_,_,_,_,rfl⟩:=h1;exact aZ 5)))))) az)))))) az) (bz len0)))
   (ao (bG 2 aJ)
   (ao (sO 7000 G (fj 2 R1 (aP (Im G Z.dI Z.Zz (aZ 1)))) (ao (bG 2 (Im G Z.dI Z.Zz (aZ 1)))
   (aF (bG 1 (bN (Fw Z) G hr (aA (cP (lE ["states","groups","many","at","end","steps"] 3 gf G (aad G Z.Ks (cV 0 az)) (λX1 h1=>by have G:=G.at h1;obtain⟨_,_,_,_,_,rfl⟩:=h1;exact(cX G (aG (aL 3) (aG (cX G (aG (aL 4) (aG (aL 5) bJ))) bJ)))) (λ_ _=>dg) (λX1 h1=>by have G:=G.at h1;obtain⟨_,_,_,_,_,rfl⟩:=h1;exact(bY (aA (bF 1 G (bD 3)) (aA (dY G Z.dh (aW (aP (cP (lE ["states","groups","many","at","end","steps","put","to"] 6 gf G (dJ G (aZ 5)) (λX1 h1=>by have G:=G.at h1;obtain⟨_,_,_,_,_,rfl⟩:=h1;exact(cX G (aG (aL 6) (aG (aL 7) bJ)))) (λ_ _=>dg) (λX1 h1=>by have G:=G.at h1;obtain⟨_,_,_,_,_,rfl⟩:=h1;exact(bF 1 G (bD 7)))))))) az)))))) az) (bz len0))))))
   (aF (aX (aZ 1))))))))
theorem Vl:bI ["states","groups","places","kept","told","end","steps","new_steps","put","to"] W2 (aV Ew):=gr
include Z in
theorem Zk:Own P w K mg base "joined" 3 W2 (pW K 1 tH):=by
 exact cz (k:=2) Z.Xh Vl (λf cdv A outer s H E hr G=>(fH.u (ao (bG 1 (bN (HD Z) G hr (cV 0 az) (bz len0)))
   (ao (fU 2 (Ra G (bF 1 G (aP aJ)) aJ))
   (ao (fU 3 (cH (aA aJ az)))
   (ao (fU 4 (cH az))
   (ao (sO 7000 G (ie R1 (d8 G Z.dI (aW (bD 4))) (aP (d8 G Z.dI (aW (bD 3))))) (ao (dG (bF 0 G (aP (bF 3 G (aP (d8 G Z.dI (aW (bD 4))))))) (cX G (aG (aL 5) (aG (aL 6) bJ))))
   (ao (fU 7 (cH az))
   (ao (fV G (dJ G (aZ 6)) (cX G (aG (aL 8) (aG (aL 9) bJ))) (ao (cM (ie (R0 G) (bF 1 G (bD 9)) (bD 2)) (ao (Tc 2 G (bF 1 G (bD 9)) (d8 G Z.dI (aW (bD 3))))
   (aF (jX 3 G (aZ 9)))) bM)
   (aF (jX 7 G (bY (cV 8 (aA (yh 2 G (aP (bF 1 G (bD 9)))) az)))))))
   (aF (jX 4 G (bY (cV 5 (aA (dY G Z.dh (aW (bD 7))) az)))))))))
   (aF (aX (dY G Z.dh (aW (bD 4))))))))))))
theorem Ak:bI ["stock","order","first","states"] Zq2 (aV pK):=gr
include Z in
theorem pO:Own P w K mg base "least_machine" 8 Zq2 (pW K 2 cY):=by
 exact cz (k:=7) Z.Cy Ak (λf cdv A outer s H E hr G=>(fH.u (ao (dG (bN (CP Z) G hr (aA (bN (yM Z) G hr (cV 0 (cV 1 az)) (bz (bz len0))) az) (bz len0)) (cX G (aG (aL 2) (aG (aL 3) bJ))))
   (aF (aX (bY (cV 2 (aA (bN (Zk Z) G hr (cV 3 az) (bz len0)) az))))))))
theorem Kc:bI ["_law_cell"] ["_law_cell"] (aV vD):=gr
include Z in
theorem N5:Own P w K mg base "_law_mixed" 1 ["_law_cell"] (pW K 1 kO):=by exact cz Z.Mx Kc<|λf cdv A outer s H E hr G=>(fH.u<|aF<|aX<|gm ajt (eE 0 aaL<|aP aJ)<|aP<|gm aef aJ<|aP aJ)
theorem Nb:bI ["_law_script","_law_k","_law_found","_law_at"] ["_law_script","_law_k"] (aV xJ):=gr
include Z in
theorem xP:Own P w K mg base "_law_pack" 2 ["_law_script","_law_k"] (spN K 2 kJ):=by
 exact TJ (k:=1) Z.QK Nb (λf cdv A outer s H E hr G=>(fH.u (ao (bG 2 aJ)
   (ao (fV G (dJ G<|cP (cH (aA (eE 1 (gk G) (aP aJ)) (cV 1 az)))) (aL 3) (aF (bG 2 (gm (gk G) (eE 2 aaL (aP (gm aef aJ (aP aJ)))) (aP (bN (N5 Z) G hr (aA (jG G (gm (gk G) (adB G (aZ 0) (mQ (aZ 3)) (mQ (eE 3 (gk G) (aP aJ)))) (aP (cP (cH (aA (gm (gk G) (gm aaL aJ (bD 3)) (aP aJ)) az))))) (aP aJ)) az) (bz len0)))))))
   (aF (By (cH (cV 2 az))))))))
theorem M7:bI ["_law_pack_here","_law_size","_law_digit"] ahb (aV xF):=gr
include Z in
theorem dB:Own P w K mg base "_law_take" 1 ahb (tY K 2 bh):=by
 exact rW Z.QG M7 (λf cdv A outer s H E a hr G=>(fH.u (ao (dG (U3 G Z.VR<|xO (bF 0 G<|aP aJ)<|aW<|bD 1)<|cX G<|aG (ajc 0 aJ)<|aG (aL 2) bJ)
   (aF<|aX<|aZ 2))))
theorem J7:bI ["_law_pack_here","_law_sounds_here","_law_known","_law_found","_law_sound","_law_number","_law_marks"] ["_law_pack_here"] (aV vq):=gr
include Z in
theorem NQ:Own P w K mg base "_law_stock" 2 ["_law_pack_here"] (tY K 1 mV):=by
 exact rW (k:=1) Z.Mt J7 (λf cdv A outer s H E a hr G=>(fH.u (ao (bG 1 (jG G (cP (aci (p8 (bH [97]) (p8 (bH [97,98]) (p8 (bH [97,98]) (p8 (bH [97,98,99]) (p8 (bH [97,101,112,116]) (p8 (bH [109,110,122]) Yo)))))))) (aP (iD 0 (dB Z) G hr (aA aJ az) (il (bz len0))))))
   (ao (bG 2 (cP (cH (aA (bH [115,116,111,112]) (aA (bH [115,116,111,112,115]) (aA (bH [115]) (aA (bH [111,112,101,110]) (aA (bH [97,98,99,100,101,102,103,104]) az))))))))
   (ao (fU 3 (cH az))
   (ao (fV G (dJ G (aZ 1)) (aL 4) (ao (bG 5 (iD 0 (dB Z) G hr (aA aJ az) (il (bz len0))))
   (ao (bG 6 (Il G Z.Jj (aW (aP (cP (lE ["_law_pack_here","_law_sounds_here","_law_known","_law_found","_law_sound","_law_number","_law_marks","_law_k"] 7 gf G (pX Z.jJ (aA aJ az) (bz len0)) (λX1 h1=>by obtain⟨_,_,_,_,_,rfl⟩:=h1;exact aL 7) (λX1 h1=>by have G:=G.at h1;obtain⟨_,_,_,_,_,rfl⟩:=h1;exact(Ar (ie (pQ G) (gm aeh (eE 5 aee (bD 7)) (aP aJ)) (aP aJ)))) (λX1 h1=>by have G:=G.at h1;obtain⟨_,_,_,_,_,rfl⟩:=h1;exact(bF 2 G (bD 7)))))))))
   (aF (jX 3 G (bY (cV 4 (aA (dY G Z.dh (aW (aP (adB G (aZ 6) p7 (mQ aJ))))) az))))))))
   (aF (aX (dY G Z.dh (aW (bD 3)))))))))))
theorem Hy:bI Zq9 Zq9 (aV ue):=gr
include Z in
theorem yQ:Own P w K mg base "_law_sounds" 1 Zq9 (pW K 1 fD):=by exact cz Z.JV Hy<|λf cdv A outer s H E hr G=>(fH.u<|aF<|aX<|De G (bH [])<|aP<|cP<|lE ["_law_stock_here","_law_sound","_law_marks"] 1 gf G (dJ G<|aZ 0) (λX1 h1=>by have G:=G.at h1;obtain⟨_,_,_,_,_,rfl⟩:=h1;exact(cX G<|aG (aL 1)<|aG (aL 2) bJ)) (λ_ _=>dg) (λX1 h1=>by obtain⟨_,_,_,_,_,rfl⟩:=h1;exact aZ 1))
theorem J8:bI ["_law_pack_here","_law_sounds_here","_law_number","_law_signs_here"] Qm (aV vA):=gr
include Z in
theorem BL:Own P w K mg base "_law_signs" 2 Qm (tY K 2 ju):=by
 exact rW (k:=1) Z.Mu J8 (λf cdv A outer s H E a hr G=>(fH.u (ao (cM (ie (pQ G) (iD 0 (dB Z) G hr (aA aJ az) (il (bz len0))) (aP aJ)) (aF (aX Kl)) bM)
   (ao (bG 2 (gm (gk G) aJ (aP (iD 0 (dB Z) G hr (aA (gm PN (gm ajs aJ (aP (d8 G Z.dI (aW (bD 1))))) (aP aJ)) az) (il (bz len0))))))
   (ao (bG 3 (gm (gk G) (bH [35]) (bD 1)))
   (aF (aX (dY G Z.dh (aW (aP (cP (lE ["_law_pack_here","_law_sounds_here","_law_number","_law_signs_here","_law_k"] 4 gf G (pX Z.jJ (aA (d8 G Z.dI (aW (bD 3))) az) (bz len0)) (λX1 h1=>by obtain⟨_,_,_,_,_,rfl⟩:=h1;exact aL 4) (λX1 h1=>by have G:=G.at h1;obtain⟨_,_,_,_,_,rfl⟩:=h1;exact(Ar (ie (pQ G) (gm aeh (eE 2 aee (bD 4)) (aP aJ)) (aP aJ)))) (λX1 h1=>by have G:=G.at h1;obtain⟨_,_,_,_,_,rfl⟩:=h1;exact(bF 3 G (bD 4)))))))))))))))
theorem Er:bI ["_law_pack_here","_law_sounds_here","_law_found","_law_turn","_law_one","_law_others"] Qm (aV rP):=gr
include Z in
theorem HH:Own P w K mg base "_law_changes" 2 Qm (tY K 2 jW):=by
 exact rW (k:=1) Z.Hs Er (λf cdv A outer s H E a hr G=>(fH.u (ao (cM (ie (pQ G) (iD 0 (dB Z) G hr (aA aJ az) (il (bz len0))) (aP aJ)) (aF (aX (bY (aA (bY (aA (bH []) (aA (bF 1 G (aP (iD 0 (dB Z) G hr (aA (d8 G Z.dI (aW (bD 1))) az) (il (bz len0))))) az))) az)))) bM)
   (ao (fU 2 Vu)
   (ao (fV G (pX Z.jJ (aA (gm (gk G) aJ (aP (iD 0 (dB Z) G hr (aA aJ az) (il (bz len0))))) az) (bz len0)) (aL 3) (ao (bG 4 (bF 1 G (aP (iD 0 (dB Z) G hr (aA (d8 G Z.dI (aW (bD 1))) az) (il (bz len0))))))
   (ao (S9 ["_law_pack_here","_law_sounds_here","_law_found","_law_turn","_law_one","_law_others","_law_sound"] 6 5 gf G (dJ G (gm (gk G) (abe G Z.acg (aW (bD 1))) (aP (cP (cH (aA (bH []) az)))))) (λX1 h1=>by obtain⟨_,_,_,_,_,rfl⟩:=h1;exact aL 6) (λX1 h1=>by have G:=G.at h1;obtain⟨_,_,_,_,_,rfl⟩:=h1;exact(Ar (fj 6 (Ig G) (bD 4)))) (λX1 h1=>by obtain⟨_,_,_,_,_,rfl⟩:=h1;exact aZ 6))
   (aF (Tc 2 G (aZ 4) (bF 5 G (aP (iD 0 (dB Z) G hr (aA (d8 G Z.dI (aW (bD 5))) az) (il (bz len0))))))))))
   (aF (aX (dY G Z.dh (aW (aP (cP (lE ["_law_pack_here","_law_sounds_here","_law_found","_law_turn","%4","_law_others","_law_one"] 6 gf G (dJ G (Il G Z.Jj (aW (bD 2)))) (λX1 h1=>by obtain⟨_,_,_,_,_,rfl⟩:=h1;exact aL 6) (λ_ _=>dg) (λX1 h1=>by have G:=G.at h1;obtain⟨_,_,_,_,_,rfl⟩:=h1;exact(bY (cV 6 (aA (yh 2 G (bD 6)) az))))))))))))))))
theorem M8:bI ["_law_pack_here","_law_sounds_here","_law_how","_law_changes_here"] Qm (aV xG):=gr
include Z in
theorem Fx:Own P w K mg base "_law_rule" 3 Qm (tY K 2 jB):=by
 exact rW (k:=2) Z.QH M8 (λf cdv A outer s H E a hr G=>(fH.u (ao (bG 2 (jG G (cP (cH (aA (bH [111,110,99,101]) (aA (bH [97,108,111,110,103]) az)))) (aP (iD 0 (dB Z) G hr (aA aJ az) (il (bz len0))))))
   (ao (bG 3 (iD 0 (HH Z) G hr (cV 1 az) (il (bz len0))))
   (aF (aX (bY (cV 2 (cV 3 (aA (iD 0 (BL Z) G hr (cV 1 az) (il (bz len0))) (aA (iD 0 (BL Z) G hr (cV 1 az) (il (bz len0))) az)))))))))))
theorem Ka:bI ["_law_pack_here","_law_sounds_here","_law_most","_law_side"] Zq4 (aV vC):=gr
include Z in
theorem NZ:Own P w K mg base "_law_order" 4 Zq4 (tY K 3 mW):=by
 exact rW (k:=3) Z.Mw Ka (λf cdv A outer s H E a hr G=>(fH.u (ao (bG 3 (jG G (cP (cH (aA (bH [108,101,102,116]) (aA (bH [114,105,103,104,116]) az)))) (aP (iD 0 (dB Z) G hr (aA aJ az) (il (bz len0))))))
   (aF (aX (bY (cV 3 (aA (dY G Z.dh (aW (aP (cP (lE ["_law_pack_here","_law_sounds_here","_law_most","_law_side","_law_turn"] 4 gf G (pX Z.jJ (aA (iD 0 (dB Z) G hr (aA (eE 2 (gk G) (aP aJ)) az) (il (bz len0))) az) (bz len0)) (λX1 h1=>by obtain⟨_,_,_,_,_,rfl⟩:=h1;exact aL 4) (λ_ _=>dg) (λX1 h1=>by have G:=G.at h1;obtain⟨_,_,_,_,_,rfl⟩:=h1;exact(iD 0 (Fx Z) G hr (cV 1 az) (il (bz len0))))))))) az))))))))
theorem M5:bI Zq4 Zq4 (aV xD):=gr
include Z in
theorem Rt:Own P w K mg base "_law_word" 2 Zq4 (tY K 3 oM):=by exact rW Z.QD M5<|λf cdv A outer s H E a hr G=>(fH.u<|aF<|aX<|De G (bH [])<|aP<|cP<|lE ["_law_pack_here","_law_sounds_here","_law_most","_law_turn"] 3 gf G (pX Z.jJ (aA (iD 0 (dB Z) G hr (aA (eE 2 (gk G)<|aP aJ) az)<|il<|bz len0) az)<|bz len0) (λX1 h1=>by obtain⟨_,_,_,_,_,rfl⟩:=h1;exact aL 3) (λ_ _=>dg) (λX1 h1=>by have G:=G.at h1;obtain⟨_,_,_,_,_,rfl⟩:=h1;exact(bF 1 G<|aP<|iD 0 (dB Z) G hr (aA (d8 G Z.dI<|aW<|bD 1) az)<|il<|bz len0)))
theorem Ng:bI ade ade (aV xM):=gr
include Z in
theorem iV:Own P w K mg base "_law_fits" 1 ade (pW K 2 bW):=by exact cz Z.QM Ng<|λf cdv A outer s H E hr G=>(fH.u<|aF<|aX<|Ri (tX 0 ajo<|aP Kl)<|Dk<|tX 1 (agV G)<|bD 0)
theorem HB:bI ["_law_rule_here","_law_word_here","_law_signs_here","_law_found","_law_k"] Zq8 (aV uf):=gr
include Z in
theorem Kp:Own P w K mg base "_law_put_in" 2 Zq8 (pW K 2 lz):=by
 exact cz (k:=1) Z.JW HB (λf cdv A outer s H E hr G=>(fH.u (ao (bG 2<|gm (gk G) (gm (gk G) (bH [35])<|bD 1)<|aP<|bH [35])
   (ao (bG 3 (bH []))
   (ao (fV G (Uc Z.jJ (aA aJ (aA (d8 G Z.dI (aW (bD 2))) az)) (bz (bz len0))) (aL 4) (ao (cM (jF (kI (du (bN (iV Z) G hr (aA (bF 0 G (aP aJ)) (aA (bF 2 G (aP (eE 4 PN (aP aJ)))) az)) (bz (bz len0)))) (mO (du (bN (iV Z) G hr (aA (bF 0 G (aP aJ)) (aA (bF 2 G (bD 4)) az)) (bz (bz len0))))))) (aF (bG 3 (eE 3 (gk G) (aP (jG G (jG G (bF 0 G (aP aJ)) (aP aJ)) (aP aJ)))))) bM)
   (aF (bG 3 (eE 3 (gk G) (aP (bF 2 G (bD 4))))))))
   (aF (aX (Xa (aZ 3) p7 (mQ (DW aJ))))))))))
theorem Es:bI ["_law_rule_here","_law_word_here","_law_how","_law_changes_here","_law_first","_law_second","_law_known","_law_signs_here","_law_found","_law_k","_law_near"] Zq8 (aV rQ):=gr
include Z in
theorem wN:Own P w K mg base "_law_changed" 3 Zq8 (pW K 2 dD):=by
 exact cz (k:=2) Z.Ht Es (λf cdv A outer s H E hr G=>(fH.u (ao (dG (aZ 0) (cX G (aG (aL 2) (aG (aL 3) (aG (aL 4) (aG (aL 5) bJ))))))
   (ao (cM (ie (pQ G) (jG G (bF 3 G (aP aJ)) (aP aJ)) (aP (bH []))) (aF (aX (bN (Kp Z) G hr (cV 0 (cV 1 az)) (bz (bz len0))))) bM)
   (ao (bG 6 (JP G Z.Dp (aW (bD 3))))
   (ao (bG 7 (gm (gk G) (gm (gk G) (bH [35]) (bD 1)) (aP (bH [35]))))
   (ao (bG 8 (bH [35]))
   (ao (fV G (Uc Z.jJ (aA aJ (aA (gm PN (d8 G Z.dI (aW (bD 7))) (aP aJ)) az)) (bz (bz len0))) (aL 9) (ao (bG 10 (bF 7 G (aP (eE 9 PN (aP aJ)))))
   (ao (cM (fj 2 (pQ G) (aP (bH [97,108,111,110,103]))) (aF (bG 10 (bF 8 G (aP (DW aJ))))) bM)
   (aF (cM (jF (kI (ie (Uz G) (bF 7 G (bD 9)) (bD 6)) (kI (du (bN (iV Z) G hr (cV 4 (cV 10 az)) (bz (bz len0)))) (mO (du (bN (iV Z) G hr (cV 5 (aA (bF 7 G (aP (eE 9 (gk G) (aP aJ)))) az)) (bz (bz len0)))))))) (aF (bG 8 (eE 8 (gk G) (aP (yh 6 G (aP (bF 7 G (bD 9)))))))) (aF (bG 8 (eE 8 (gk G) (aP (bF 7 G (bD 9)))))))))))
   (aF (aX (Xa (aZ 8) (mQ aJ) p7)))))))))))
theorem Hx:bI ["_law_rule_here"] ["_law_rule_here"] (aV t7):=gr
include Z in
theorem yP:Own P w K mg base "_law_turned" 1 ["_law_rule_here"] (pW K 1 fX):=by exact cz Z.JT Hx<|λf cdv A outer s H E hr G=>(fH.u<|aF<|aX<|bY<|aA (bF 0 G<|aP aJ)<|aA (bF 0 G<|aP aJ)<|aA (bF 0 G<|aP aJ)<|aA (bF 0 G<|aP aJ) az)
theorem Et:bI adb adb (aV rR):=gr
include Z in
theorem HJ:Own P w K mg base "_law_by_side" 4 adb (pW K 3 eO):=by
 exact cz (k:=3) Z.Hu Et (λf cdv A outer s H E hr G=>(fH.u (ao (cM (fj 0 (pQ G)<|aP (bH [114,105,103,104,116])) (aF (aX (zZ (bN (wN Z) G hr (aA (bN (yP Z) G hr (cV 1 az) (bz len0)) (aA (zZ (aZ 2)) az)) (bz (bz len0)))))) bM)
   (aF (aX (bN (wN Z) G hr (cV 1 (cV 2 az)) (bz (bz len0))))))))
theorem M6:bI ["_law_order_here","_law_word_here","_law_found","_law_rule_here"] Zq5 (aV xE):=gr
include Z in
theorem Ru:Own P w K mg base "_law_walk" 5 Zq5 (pW K 2 qD):=by
 exact cz (k:=4) Z.QF M6 (λf cdv A outer s H E hr G=>(fH.u (ao (fU 2<|cH (cV 1 az))
   (ao (fV G (dJ G (bF 0 G (aP aJ))) (aL 3) (aF (jX 2 G (bN (HJ Z) G hr (aA (bF 0 G (aP aJ)) (cV 3 (aA (bF 2 G (aP (DW aJ))) az))) (bz (bz (bz len0)))))))
   (aF (aX (dY G Z.dh (aW (bD 2)))))))))
theorem Nf:bI Zq5 Zq5 (aV xK):=gr
include Z in
theorem Fy:Own P w K mg base "_law_made" 6 Zq5 (pW K 2 uw):=by exact cz Z.QL Nf<|λf cdv A outer s H E hr G=>(fH.u<|aF<|aX<|jG G (bN (Ru Z) G hr (cV 0<|cV 1 az)<|bz<|bz len0)<|aP<|DW aJ)
theorem Am:bI ["_law_sounds_here","_law_most","_law_found","_law_row","_law_turn","_law_longer","_law_word_here"] aha (aV pM):=gr
include Z in
theorem uK:Own P w K mg base "_law_all_words" 1 aha (spN K 2 jP):=by
 exact TJ (k:=0) Z.CG Am (λf cdv A outer s H E hr G=>(fH.u (ao (fU 2<|cH<|aA (bH []) az)
   (ao (bG 3<|cP<|cH (aA (bH []) az))
   (ao (fV G (pX Z.jJ (cV 1 az) (bz len0)) (aL 4) (ao (fU 5 (cH az))
   (ao (fV G (dJ G (aZ 3)) (aL 6) (aF (aeT 5 G (cP (lE ["_law_sounds_here","_law_most","_law_found","_law_row","_law_turn","_law_longer","_law_word_here","_law_sound"] 7 gf G (dJ G (aZ 0)) (λX1 h1=>by obtain⟨_,_,_,_,_,rfl⟩:=h1;exact aL 7) (λ_ _=>dg) (λX1 h1=>by have G:=G.at h1;obtain⟨_,_,_,_,_,rfl⟩:=h1;exact(eE 6 (gk G) (bD 7))))))))
   (ao (bG 3 (aZ 5))
   (aF (fU 2 (af6 (aZ 2) (bD 3))))))))
   (aF (By (abh 2))))))))
theorem Q3:bI ["_law_sounds_here","_law_machine","_law_side","_law_word_here","_law_found","_law_states","_law_number","_law_sound","_law_put"] ag9 (aV Aq):=gr
include Z in
theorem Jh:Own P w K mg base "_law_run" 1 ag9 (pW K 4 tD):=by
 exact cz (k:=0) Z.Vc Q3 (λf cdv A outer s H E hr G=>(fH.u (ao (dG (aZ 1)<|cX G<|aG (aL 4)<|aG (aL 5) bJ)
   (ao (bG 6 aJ)
   (ao (cM (fj 2 (pQ G) (aP (bH [114,105,103,104,116]))) (aF (bG 3 (zZ (aZ 3)))) bM)
   (ao (fV G (dJ G (aZ 3)) (aL 7) (ao (dG (jG G (jG G (bF 5 G (bD 6)) (aP aJ)) (aP (U0 G (aZ 0) (bD 7)))) (cX G (aG (aL 8) (aG (aL 6) bJ))))
   (aF (bG 4 (eE 4 (gk G) (bD 8))))))
   (ao (bG 4 (eE 4 (gk G) (aP (jG G (bF 5 G (bD 6)) (aP aJ)))))
   (ao (cM (fj 2 (pQ G) (aP (bH [114,105,103,104,116]))) (aF (aX (zZ (aZ 4)))) bM)
   (aF (aX (aZ 4)))))))))))
theorem Ep:bI ada ada (aV rO):=gr
include Z in
theorem rY:Own P w K mg base "_law_is_text" 1 ada (pW K 2 dU):=by exact cz Z.Hr Ep<|λf cdv A outer s H E hr G=>(fH.u<|aF<|aX<|abP (rm rfl Z.gH rfl Z.af1 (by decide +kernel) Z.zg G.K (aZ 0))<|Dk<|aev G Z.af5<|aW<|aP<|cP<|lE ["_law_thing","_law_sounds_here","_law_sound"] 2 gf G (dJ G<|aZ 0) (λX1 h1=>by obtain⟨_,_,_,_,_,rfl⟩:=h1;exact aL 2) (λ_ _=>dg) (λX1 h1=>by have G:=G.at h1;obtain⟨_,_,_,_,_,rfl⟩:=h1;exact(tX 2 (agV G)<|bD 1)))
theorem yC:bI ["_law_machine","_law_sounds_here","_law_state","_law_step"] ag8 (aV n8):=gr
include Z in
theorem sV:Own P w K mg base "_law_is_machine" 2 ag8 (pW K 2 dC):=by
 exact cz (k:=1) Z.z9 yC (λf cdv A outer s H E hr G=>(fH.u (ao (cM (jF<|nq (ji<|du<|rm (T:="tuple") rfl Z.gH rfl Z.dh (by decide +kernel) Z.lq G.K (aZ 0))<|nq (ie (Ig G) (d8 G Z.dI<|aW<|bD 0)<|aP aJ)<|qj<|ji<|du<|bN (rY Z) G hr (aA (bF 0 G (aP aJ)) (cV 1 az)) (bz (bz len0))) (aF (aX lF)) bM)
   (ao (cM (jF (nq (ji (du (rm (T:="tuple") rfl Z.gH rfl Z.dh (by decide +kernel) Z.lq G.K (bF 0 G (aP aJ))))) (qj (ie (pQ G) (bF 0 G (aP aJ)) (aP (bY az)))))) (aF (aX lF)) bM)
   (ao (fV G (dJ G (bF 0 G (aP aJ))) (aL 2) (ao (cM (jF (nq (ji (du (rm (T:="tuple") rfl Z.gH rfl Z.dh (by decide +kernel) Z.lq G.K (aZ 2)))) (nq (ie (Ig G) (d8 G Z.dI (aW (bD 2))) (aP aJ)) (qj (ji (du (bN (rY Z) G hr (aA (bF 2 G (aP aJ)) (cV 1 az)) (bz (bz len0))))))))) (aF (aX lF)) bM)
   (ao (cM (jF (nq (ji (du (rm (T:="tuple") rfl Z.gH rfl Z.dh (by decide +kernel) Z.lq G.K (bF 2 G (aP aJ))))) (qj (ie (Ig G) (d8 G Z.dI (aW (aP (bF 2 G (aP aJ))))) (aP (d8 G Z.dI (aW (bD 1)))))))) (aF (aX lF)) bM)
   (aF (fV G (dJ G (bF 2 G (aP aJ))) (aL 3) (ao (cM (jF (nq (ji (du (rm (T:="tuple") rfl Z.gH rfl Z.dh (by decide +kernel) Z.lq G.K (aZ 3)))) (nq (ie (Ig G) (d8 G Z.dI (aW (bD 3))) (aP aJ)) (qj (ji (du (bN (rY Z) G hr (aA (bF 3 G (aP aJ)) (cV 1 az)) (bz (bz len0))))))))) (aF (aX lF)) bM)
   (aF (cM (jF (nq (du (rm (T:="bool") rfl Z.gH rfl Z.ach (by decide +kernel) Z.vM G.K (bF 3 G (aP aJ)))) (nq (ji (du (rm (T:="int") rfl Z.gH rfl Z.ZC (by decide +kernel) Z.zj G.K (bF 3 G (aP aJ))))) (qj (ji (Xj ajn R1 aJ (bF 3 G (aP aJ)) (d8 G Z.dI (aW (aP (bF 0 G (aP aJ))))))))))) (aF (aX lF)) bM))))))))
   (aF (aX lF)))))))
theorem M9:bI ["_law_rule_here","_law_standing","_law_sign","_law_how","_law_changes_here","_law_first","_law_second","_law_near","_law_held","_law_put","_law_known"] ag7 (aV xH):=gr
include Z in
theorem Rv:Own P w K mg base "_law_read" 2 ag7 (pW K 3 qF):=by
 exact cz (k:=1) Z.QJ M9 (λf cdv A outer s H E hr G=>(fH.u (ao (dG (aZ 0)<|cX G<|aG (aL 3)<|aG (aL 4)<|aG (aL 5)<|aG (aL 6) bJ)
   (ao (dG (aZ 1) (cX G (aG (aL 7) (aG (aL 8) bJ))))
   (ao (cM (ie (pQ G) (jG G (bF 4 G (aP aJ)) (aP aJ)) (aP (bH []))) (ao (bG 9 (aZ 8))
   (ao (cM (jF (kI (du (aZ 7)) (mO (du (bN (iV Z) G hr (cV 6 (cV 2 az)) (bz (bz len0))))))) (aF (bG 9 (eE 9 (gk G) (aP (jG G (bF 4 G (aP aJ)) (aP aJ)))))) bM)
   (aF (aX (bY (aA (bY (aA (bN (iV Z) G hr (cV 5 (cV 2 az)) (bz (bz len0))) (cV 2 az))) (cV 9 az))))))) bM)
   (ao (cM (fj 8 (pQ G) (aP (bH []))) (aF (aX (bY (aA (bY (cV 7 (cV 2 az))) (aA (bH []) az))))) bM)
   (ao (bG 9 (aZ 8))
   (ao (bG 10 (JP G Z.Dp (aW (bD 4))))
   (ao (cM (jF (kI (fj 8 (Uz G) (bD 10)) (kI (du (aZ 7)) (mO (du (bN (iV Z) G hr (cV 6 (cV 2 az)) (bz (bz len0)))))))) (aF (bG 9 (yh 10 G (bD 8)))) bM)
   (ao (cM (fj 3 (pQ G) (aP (bH [111,110,99,101]))) (aF (aX (bY (aA (bY (aA (bN (iV Z) G hr (cV 5 (cV 8 az)) (bz (bz len0))) (cV 2 az))) (cV 9 az))))) bM)
   (ao (cM (fj 9 (pQ G) (aP (bH []))) (aF (aX (bY (aA (bY (cV 7 (cV 2 az))) (cV 9 az))))) bM)
   (aF (aX (bY (aA (bY (aA (bN (iV Z) G hr (cV 5 (cV 9 az)) (bz (bz len0))) (cV 2 az))) (cV 9 az))))))))))))))))
theorem Eo:bI ["_law_rules","_law_standing","_law_sound","_law_found","_law_row","_law_k","_law_here","_law_told","_law_sign","_law_put"] ag6 (aV rN):=gr
include Z in
theorem HF:Own P w K mg base "_law_read_on" 3 ag6 (pW K 3 sE):=by
 exact cz (k:=2) Z.Hq Eo (λf cdv A outer s H E hr G=>(fH.u (ao (fU 3 (cH az))
   (ao (bG 4 (aZ 2))
   (ao (fV G (pX Z.jJ (aA (d8 G Z.dI (aW (bD 0))) az) (bz len0)) (aL 5) (ao (bG 6 (bF 1 G (bD 5)))
   (ao (bG 7 (bH []))
   (ao (fV G (dJ G (aZ 4)) (aL 8) (ao (dG (bN (Rv Z) G hr (aA (bF 0 G (bD 5)) (cV 6 (cV 8 az))) (bz (bz (bz len0)))) (cX G (aG (aL 6) (aG (aL 9) bJ))))
   (aF (bG 7 (eE 7 (gk G) (bD 9))))))
   (ao (jX 3 G (aZ 6))
   (aF (bG 4 (aZ 7))))))))
   (aF (aX (dY G Z.dh (aW (bD 3))))))))))
theorem Al:bI ["_law_sounds_here","_law_order_here","_law_most","_law_rules","_law_known","_law_there","_law_at","_law_sound","_law_more"] ag5 (aV pL):=gr
include Z in
theorem CQ:Own P w K mg base "_law_standings" 4 ag5 (pW K 3 jO):=by
 exact cz (k:=3) Z.Cz Al (λf cdv A outer s H E hr G=>(fH.u (ao (bG 3 (bF 1 G (aP aJ)))
   (ao (cM (ie (pQ G) (bF 1 G (aP aJ)) (aP (bH [114,105,103,104,116]))) (aF (S9 ajv 9 3 gf G (dJ G (aZ 3)) (λX1 h1=>by obtain⟨_,_,_,_,_,rfl⟩:=h1;exact aL 9) (λ_ _=>dg) (λX1 h1=>by have G:=G.at h1;obtain⟨_,_,_,_,_,rfl⟩:=h1;exact(bN (yP Z) G hr (cV 9 az) (bz len0))))) bM)
   (ao (fU 4 (cH (aA (dY G Z.dh (aW (aP (cP (lE ajv 9 gf G (dJ G (aZ 3)) (λX1 h1=>by obtain⟨_,_,_,_,_,rfl⟩:=h1;exact aL 9) (λ_ _=>dg) (λX1 h1=>by have G:=G.at h1;obtain⟨_,_,_,_,_,rfl⟩:=h1;exact(bY (aA (bN (iV Z) G hr (aA (bF 9 G (aP aJ)) (aA (bH [35]) az)) (bz (bz len0))) (aA (bH []) az))))))))) az)))
   (ao (fU 5 (Rc G Z.Dp (aW (aP (cP (cH (aA (bY (aA (bF 4 G (aP aJ)) (aA lF az))) az)))))))
   (ao (bG 6 aJ)
   (ao (sO 7000 G (jF (kI (fj 6 R1 (aP (d8 G Z.dI (aW (bD 4))))) (mO (ie ajn (d8 G Z.dI (aW (bD 4))) (bD 2))))) (ao (fV G (dJ G (aZ 0)) (aL 7) (ao (bG 8 (bN (HF Z) G hr (cV 3 (aA (bF 4 G (bD 6)) (cV 7 az))) (bz (bz (bz len0)))))
   (aF (cM (fj 8 (GX G) (bD 5)) (ao (Ey 5 G (aZ 8) lF)
   (aF (jX 4 G (aZ 8)))) bM))))
   (aF (bG 6 (eE 6 (gk G) (aP aJ))))))
   (aF (aX (d8 G Z.dI (aW (bD 4)))))))))))))
theorem yD:bI ["_law_pack_here","_law_sounds_here","_law_stock_here","_law_order_here","_law_machine","_law_word_here"] Qm (aV oh):=gr
include Z in
theorem sW:Own P w K mg base "_law_four_right" 9 Qm (tY K 2 lA):=by
 exact rW (k:=8) Z.Aa yD (λf cdv A outer s H E a hr G=>(fH.u (ao (bG 2 (dY G Z.dh (aW (aP (cP (lE ["_law_pack_here","_law_sounds_here","_law_stock_here","_law_order_here","_law_machine","_law_word_here","_law_sound"] 6 gf G (dJ G (aZ 1)) (λX1 h1=>by obtain⟨_,_,_,_,_,rfl⟩:=h1;exact aL 6) (λ_ _=>dg) (λX1 h1=>by have G:=G.at h1;obtain⟨_,_,_,_,_,rfl⟩:=h1;exact(bY (cV 6 (aA (gm (ac5 G) (bY (aA (bH [115]) az)) (aP (abg G Z.ZC (aW (aP (tX 6 (pQ G) (aP (bF 1 G (aP aJ))))))))) az))))))))))
   (ao (bG 3 (bY (aA (jG G (cP (cH (aA (bH [108,101,102,116]) (aA (bH [114,105,103,104,116]) az)))) (aP (iD 0 (dB Z) G hr (aA aJ az) (il (bz len0))))) (aA (dY G Z.dh (aW (aP (cP (lE ["_law_pack_here","_law_sounds_here","_law_stock_here","_law_order_here","_law_machine","_law_word_here","_law_turn"] 6 gf G (pX Z.jJ (aA aJ az) (bz len0)) (λX1 h1=>by obtain⟨_,_,_,_,_,rfl⟩:=h1;exact aL 6) (λ_ _=>dg) (λX1 h1=>by have G:=G.at h1;obtain⟨_,_,_,_,_,rfl⟩:=h1;exact(iD 0 (Fx Z) G hr (cV 1 az) (il (bz len0))))))))) az))))
   (ao (cM (ie ajp (bN (CQ Z) G hr (cV 1 (cV 3 (aA aJ az))) (bz (bz (bz len0)))) (aP aJ)) (aF (aX lF)) bM)
   (ao (bG 4 (bN (pO Z) G hr (cV 2 (cV 3 az)) (bz (bz len0))))
   (ao (fV G (dJ G (cP (FJ (uK Z) G hr (cV 1 (aA (jG G (cP (cH (aA aJ (aA aJ (aA aJ (aA aJ (aA aJ az))))))) (aP (d8 G Z.dI (aW (bD 1))))) az)) (bz (bz len0))))) (aL 5) (aF (cM (ie (Ig G) (bN (Jh Z) G hr (cV 1 (cV 4 (aA (bF 3 G (aP aJ)) (cV 5 az)))) (bz (bz (bz (bz len0))))) (aP (bN (Fy Z) G hr (cV 3 (cV 5 az)) (bz (bz len0))))) (aF (aX lF)) bM)))
   (aF (aX (bN (sV Z) G hr (cV 4 (cV 1 az)) (bz (bz len0))))))))))))
theorem xx:bI Qm Qm (aV m9):=gr
include Z in
theorem yR:Own P w K mg base "_law_small_order" 5 Qm (tY K 2 iU):=by exact rW Z.yr xx<|λf cdv A outer s H E a hr G=>(fH.u<|aF<|aX<|iD 0 (NZ Z) G hr (cV 1<|aA (jG G (cP<|cH<|aA aJ<|aA aJ<|aA aJ<|aA aJ az)<|aP<|iD 0 (dB Z) G hr (aA aJ az)<|il<|bz len0) az)<|il<|bz<|bz len0)
theorem J9:bI ["_law_pack_here","_law_stock_here","_law_order_here","_law_sounds_here","_law_machine","_law_some","_law_turn","_law_word_here","_law_due"] ag4 (aV vB):=gr
include Z in
theorem NT:Own P w K mg base "_law_right" 9 ag4 (tY K 3 rC):=by
 exact rW (k:=8) Z.Mv J9 (λf cdv A outer s H E a hr G=>(fH.u (ao (bG 3 (bN (yQ Z) G hr (cV 1 az) (bz len0)))
   (ao (bG 4 (bN (pO Z) G hr (cV 1 (cV 2 az)) (bz (bz len0))))
   (ao (cM (jF (nq (ji (du (bN (sV Z) G hr (cV 4 (cV 3 az)) (bz (bz len0))))) (qj (ie (Ig G) (bN (pO Z) G hr (cV 1 (cV 2 az)) (bz (bz len0))) (bD 4))))) (aF (aX lF)) bM)
   (ao (fU 5 (FJ (uK Z) G hr (cV 3 (aA (jG G (cP (cH (aA aJ (aA aJ (aA aJ (aA aJ (aA aJ az))))))) (aP (d8 G Z.dI (aW (bD 3))))) az)) (bz (bz len0))))
   (ao (fV G (pX Z.jJ (aA aJ az) (bz len0)) (aL 6) (aF (jX 5 G (iD 0 (Rt Z) G hr (cV 3 (aA aJ az)) (il (bz (bz len0)))))))
   (ao (fV G (dJ G (aZ 5)) (aL 7) (ao (bG 8 (bN (Fy Z) G hr (cV 2 (cV 7 az)) (bz (bz len0))))
   (aF (cM (ie (Ig G) (bN (Jh Z) G hr (cV 3 (cV 4 (aA (bF 2 G (aP aJ)) (cV 7 az)))) (bz (bz (bz (bz len0))))) (bD 8)) (aF (aX lF)) bM))))
   (aF (aX (Xb (pQ G) (bN (aiE Z) G hr (cV 1 (cV 4 (aA (bF 2 G (aP aJ)) (aA (bF 5 G (aP (DW aJ))) az)))) (bz (bz (bz (bz len0))))) (bD 8))))))))))))
theorem aeS:bI aju ["_law_script"] (aV XC):=gr
include Z in
theorem agB(F:Fun K "law" "law" XC f fd):sH P w K mg base JN 10 f fd ["_law_script"] (pW K 1 Uo):=by
 exact Px (k:=9) F aeS (λcdv A outer s H E hr=>by
  have G:=Dv (P:=P) (w:=w) (K:=K) (mg:=mg) (base:=base) (N:=aju) (outer:=outer) (H:=H) (E:=E) (C:=C0 K) rfl hr;exact(fH.u (ao (fV G (acB Z.jJ (aA aJ<|aA (aet G Z.af4<|xO aJ<|aW<|aP<|aes G Z.af3<|xO (d8 G Z.dI<|aW<|bD 0)<|aW<|aP aJ)<|aA aJ az)<|bz<|bz (bz len0)) (aL 1) (ao (fU 2 (FJ (xP Z) G hr (cV 0 (cV 1 az)) (bz (bz len0))))
   (ao (bG 3 (iD 2 (NQ Z) G hr az (il len0)))
   (aF (cM (ji (du (iD 2 (NT Z) G hr (cV 3 (aA (iD 2 (yR Z) G hr (aA (bN (yQ Z) G hr (cV 3 az) (bz len0)) az) (il (bz len0))) az)) (il (bz (bz len0)))))) (aF (aX lF)) bM)))))
   (ao (fU 2 (FJ (xP Z) G hr (cV 0 (aA aJ az)) (bz (bz len0))))
   (ao (bG 4 (bH [97,98,99,100,101,102,103,104,105,106,107,108,109,110,111,112,113,114,115,116,117,118,119,120,121,122]))
   (ao (bG 5 (iD 2 (dB Z) G hr (aA aJ az) (il (bz len0))))
   (ao (bG 6 (gm (gk G) (bF 4 G (bD 5)) (aP (bF 4 G (aP (gm (gk G) (eE 5 (gk G) (aP aJ)) (aP (iD 2 (dB Z) G hr (aA (gm PN aJ (bD 5)) az) (il (bz len0))))))))))
   (ao (cM (ji (du (iD 2 (sW Z) G hr (cV 6 az) (il (bz len0))))) (aF (aX lF)) bM)
   (aF (aX (aeu (sW Z) G hr (FJ (xP Z) G hr (cV 0 (aA aJ az)) (bz (bz len0))) (aA (jG G (cP (cH (aA (bH [97,98,99]) (aA (bH [97,101,112]) (aA (bH [109,110,122]) (aA (bH [97,101,112,116]) az)))))) (aP (iD 2 (dB Z) G hr (aA aJ az) (il (bz len0))))) az) (il (bz len0)))))))))))))
end
end lD
namespace fM
open Ev
def mX:cu:=bw (au cO (aa (d9 1 3 (dO (aM 0)) (bV 2 (aH (ak 1) (aH (ak 2) bZ))) cA (aM 1)) aj))
def eG:LD:=cQ 1 mX
def rG:cu:=lD.rG
def kO:LD:=cQ 1 rG
def oR:cu:=aC (aQ (Zi 0) (ak 2)) (aC (dF (dO (cB (aa (aq cU 1 (Zi 1)) (Zv 1 aj)))) (ak 3) (aQ (aN cU (aq xV 2 (aN RL (Zi 10) (Zi 60))) (au kO (aa (aN bQ (aN cU (Gu (aM 0) (Bo (aM 3)) (Bo (aq cU 3 (Zi 1)))) (cB (aa (aN cU (aN xV (Zi 7919) (aU 3)) (Zi 61)) aj))) (Zi 0)) aj))) (ak 2))) (yt (cB (Zv 2 aj))))
def kJ:LD:=runN 4 oR
def iy:cu:=lD.iy
def bh:List D->Option (D×D):=jh 3 iy
def rD:cu:=aC (aQ (aN bQ (cB (aa (Zw [97]) (aa (Zw [97,98]) (aa (Zw [97,98]) (aa (Zw [97,98,99]) (aa (Zw [97,101,112,116]) (aa (Zw [109,110,122]) aj))))))) (dX bh 0 (aa (Zi 6) aj))) (ak 1)) (aC (aQ (cB (aa (Zw [115,116,111,112]) (aa (Zw [115,116,111,112,115]) (aa (Zw [115]) (aa (Zw [111,112,101,110]) (aa (Zw [97,98,99,100,101,102,103,104]) aj)))))) (ak 2)) (aC (cT 3 (cB aj)) (aC (dF (dO (aM 1)) (ak 4) (aC (aQ (dX bh 0 (aa (Zi 32) aj)) (ak 5)) (aC (aQ (au lr (aa (d9 7 8 (gj (aa (Zi 5) aj)) (ak 7) (cR (aN lV (aN K1 (aq HX 5 (aU 7)) (Zi 1)) (Zi 1))) (aq bQ 2 (aU 7))) aj)) (ak 6)) (dZ 3 (bK (Zv 4 (aa (au cO (aa (Gu (aM 6) pU (Bo (Zi 4))) aj)) aj))))))) (bw (au cO (aa (aU 3) aj))))))
def mV:List D->Option (D×D):=jh 7 rD
def uG:cu:=bw (aN pB (Zw []) (d9 1 3 (dO (aM 0)) (bV 2 (aH (ak 1) (aH (ak 2) bZ))) cA (aM 1)))
def fD:LD:=cQ 1 uG
def jw:cu:=aC (dH (cR (aN lV (dX bh 0 (aa (Zi 2) aj)) (Zi 0))) (bw (tU .non)) bU) (aC (aQ (aN cU (Zi 1) (dX bh 0 (aa (aN uX (aN Wg (Zi 2) (au cJ (aa (aU 1) aj))) (Zi 1)) aj))) (ak 2)) (aC (aQ (aN cU (Zw [35]) (aU 1)) (ak 3)) (bw (au cO (aa (d9 4 5 (gj (aa (au cJ (aa (aU 3) aj)) aj)) (ak 4) (cR (aN lV (aN K1 (aq HX 2 (aU 4)) (Zi 1)) (Zi 1))) (aq bQ 3 (aU 4))) aj)))))
def ju:List D->Option (D×D):=jh 4 jw
def gK:cu:=aC (dH (cR (aN lV (dX bh 0 (aa (Zi 5) aj)) (Zi 0))) (bw (bK (aa (bK (aa (Zw []) (aa (aq bQ 1 (dX bh 0 (aa (au cJ (aa (aU 1) aj)) aj))) aj))) aj))) bU) (aC (cT 2 (La)) (aC (dF (gj (aa (aN cU (Zi 1) (dX bh 0 (aa (Zi 3) aj))) aj)) (ak 3) (aC (aQ (aq bQ 1 (dX bh 0 (aa (au cJ (aa (aU 1) aj)) aj))) (ak 4)) (aC (cT 5 (d9 6 7 (dO (aN cU (au Jr (aa (aU 1) aj)) (cB (aa (Zw []) aj)))) (ak 6) (cR (aq yf 6 (aU 4))) (aM 6))) (qd 2 (aM 4) (aq bQ 5 (dX bh 0 (aa (au cJ (aa (aU 5) aj)) aj))))))) (bw (au cO (aa (d9 6 7 (dO (au lr (aa (aU 2) aj))) (ak 6) cA (bK (Zv 6 (aa (aq jL 2 (aU 6)) aj)))) aj)))))
def jW:List D->Option (D×D):=jh 6 gK
def mF:cu:=aC (aQ (aN bQ (cB (aa (Zw [111,110,99,101]) (aa (Zw [97,108,111,110,103]) aj))) (dX bh 0 (aa (Zi 2) aj))) (ak 2)) (aC (aQ (dX jW 0 (Zv 1 aj)) (ak 3)) (bw (bK (Zv 2 (Zv 3 (aa (dX ju 0 (Zv 1 aj)) (aa (dX ju 0 (Zv 1 aj)) aj)))))))
def jB:List D->Option (D×D):=jh 4 mF
open Ev PySem L2
def wC(h:i.natAbs<2^b):Builtin.Int.intBits i<=b:=by
 unfold Builtin.Int.intBits;split;exact Qxz _;rename_i h0;have hz:i.natAbs≠0:=λz=>h0 (by rw[Int.natAbs_eq_zero.mp z];rfl);exact(Nat.log2_lt hz).mpr h
def xR(h1:Builtin.Int.intBits i<=a)(h2:Builtin.Int.intBits j<=b)(h:a+b<=134217728):oY i j=true:=
 Qw0 (by omega)
def ZG(i:Int):Int:=i*262406895267124108351839057402211873468251940277165213587343 % 10^60
def ack(i):(ZG i).natAbs<2^200:=by
 unfold ZG;have h1:0<=i*262406895267124108351839057402211873468251940277165213587343 % 10^60:=Int.emod_nonneg _ (by decide);have h2:i*262406895267124108351839057402211873468251940277165213587343 % 10^60<10^60:=Int.emod_lt_of_pos _ (by decide);have h3:10^60<=2^200:=by decide
 omega
def mixed(h:Builtin.Int.intBits i<=2^20):kO [.int i]=some (.int (ZG i)):=by
 have hm:oY i 262406895267124108351839057402211873468251940277165213587343=true:=xR h (wC (b:=198) (by decide)) (by decide);have e1:aq xV 0 (Zi 262406895267124108351839057402211873468251940277165213587343) [Zf (.int i)]=.ok (.int<|i*262406895267124108351839057402211873468251940277165213587343) [Zf (.int i)]:=by
  show jj (gI oY (λi j=>D.int<|i*j) (.int i)<|.int _) _=_;unfold gI;simp only;rw[Qv4 hm]
  rfl
 show(match bw _ [Zf (.int i)] with|.rt false d _=>some d|.nx _=>some .non|_=>none)=_;rw[bT];unfold aN;rw[e1]
 rfl
def acU{α:Type}{xs:List α}{x:α}(h:x∈cutD xs lo hi):x∈xs:=Qh5<|Q1q h
def Qa{α:Type}(x)(r:List α):uN (x::r) 0=some x:=je rfl
def qm:cu:=aQ (aN cU (aq xV 2 (aN RL (Zi 10) (Zi 60))) (au kO (aa (aN bQ (aN cU (Gu (aM 0) (Bo (aM 3)) (Bo (aq cU 3 (Zi 1)))) (cB (aa (aN cU (aN xV (Zi 7919) (aU 3)) (Zi 61)) aj))) (Zi 0)) aj))) (ak 2)
theorem Jg(ns)(hl:ns.length<=63)(hb:Sq ns)(k a f)(ha:a.natAbs<2^10)(hf:Builtin.Int.intBits f<=2^20) :
  ∃f',qm [Zf (.arr (ns.map .int)),Zf (.int k),Zf (.int f),Zf (.int a)]=.nx [Zf (.arr (ns.map .int)),Zf (.int k),Zf (.int f'),Zf (.int a)]/\(f=0->f'.natAbs<2^200):=by
 generalize hE:([Zf (.arr (ns.map .int)),Zf (.int k),Zf (.int f),Zf (.int a)]:Ev.Env)=env;have m1:oY 7919 a=true:=xR (a:=20) (wC (by decide)) (wC ha) (by decide);have m2:oY f (10^(60:Int).toNat)=true:=xR (b:=200) hf (wC (by decide)) (by decide);have e1:Gu (aM 0) (Bo (aM 3)) (Bo (aq cU 3 (Zi 1))) env=.ok (.lst (cutD (ns.map .int) (some a) (some (a+1)))) env:=by rw[<-hE];rfl
 have e2:cB (aa (aN cU (aN xV (Zi 7919) (aU 3)) (Zi 61)) aj) env=.ok (.lst [.int (7919*a+61)]) env:=by refine Gv (aD (bj (bj rfl (by rw[<-hE];rfl) (Ui m1)) rfl rfl) aY) Ev.zz1
 generalize hL:cutD (ns.map D.int) (some a) (some (a+1))=L at e1;have hLl:L.length<=63:=by rw[<-hL];exact Qq1 (vQ _ _ _) (by rw[Qqx];exact hl)
 have e3:aN cU (Gu (aM 0) (Bo (aM 3)) (Bo (aq cU 3 (Zi 1)))) (cB (aa (aN cU (aN xV (Zi 7919) (aU 3)) (Zi 61)) aj)) env=.ok (.lst (L++[.int (7919*a+61)])) env:=by exact bj e1 e2 (O4 (by show L.length+1<=sizeLine;exact Qq1 (Qg7 hLl) (by decide)))
 obtain⟨c,hc,hcb⟩:∃c:Int,uN (L++[.int (7919*a+61)]) 0=some (.int c)/\Builtin.Int.intBits c<=2^20:=by
  cases hLc:L with
  |nil=>refine⟨7919*a+61,rfl,Qq1 (wC (b:=30) ?_) (by decide)⟩;omega|cons y r=>have hy:y∈ns.map D.int:=acU (by rw[hL,hLc];exact Qqj ..);obtain⟨i,hi,rfl⟩:=Qwq.mp hy;exact⟨i,Qa _ _,hb i hi⟩
 have e4:au kO (aa (aN bQ (aN cU (Gu (aM 0) (Bo (aM 3)) (Bo (aq cU 3 (Zi 1)))) (cB (aa (aN cU (aN xV (Zi 7919) (aU 3)) (Zi 61)) aj))) (Zi 0)) aj) env=.ok (.int (ZG c)) env:=by exact aK (aD (bj e3 rfl hc) aY) (mixed hcb)
 refine⟨f*10^(60:Int).toNat+ZG c,?_,λh0=>?_⟩;unfold qm;refine bB (e:=env) ?_ (by rw[<-hE];rfl);have e5:aq xV 2 (aN RL (Zi 10) (Zi 60)) env=.ok (.int (f*10^(60:Int).toNat)) env:=by
  rw[<-hE];exact aO rfl rfl rfl (Ui m2)
 exact bj e5 e4 rfl;rw[h0,Int.zero_mul,Int.zero_add];exact ack c
def pack(ns)(hl:ns.length<=63)(hb:Sq ns)(k)(h0:0<=k)(h1:k<=500):∃p,kJ [.arr (ns.map .int),.int k]=some (.lst [.int p]):=by
 obtain⟨f1,e1,b1⟩:=Jg ns hl hb k (k+1) 0 (by omega) (by decide);obtain⟨f2,e2,_⟩:=Jg ns hl hb k k f1 (by omega)<|Qq1 (wC<|b1 rfl) (by decide);refine⟨f2,?_⟩;have h:oR [Zf (.arr<|ns.map .int),Zf<|.int k,Zn,Zn]=.rt true (.lst [.int f2]) [Zf (.arr<|ns.map .int),Zf<|.int k,Zf<|.int f2,Zf<|.int k]:=by
  unfold oR;refine(aB rfl).trans ?_;refine(aB (e:=[Zf (.arr<|ns.map .int),Zf<|.int k,Zf<|.int f2,Zf<|.int k]) ?_).trans rfl;refine(cZ rfl).trans ?_;show jM (ak 3) qm [.int (k+1),.int k] _=_;unfold jM;show(match qm [Zf (.arr<|ns.map .int),Zf<|.int k,Zf<|.int 0,Zf<|.int<|k+1] with|.nx e2=>jM (ak 3) qm [.int k] e2|.ct e2=>_|.bk e2=>_|.rt o d e2=>_|.stuck=>_)=_;rw[e1];simp;unfold jM;show(match qm [Zf (.arr<|ns.map .int),Zf<|.int k,Zf<|.int f1,Zf<|.int k] with|.nx e2=>jM (ak 3) qm [] e2|.ct e2=>_|.bk e2=>_|.rt o d e2=>_|.stuck=>_)=_;rw[e2]
  rfl
 show(match oR _ with|.rt true d _=>some d|_=>none)=_;have e:envOf 4 [D.arr (ns.map .int),.int k]=[Zf (.arr<|ns.map .int),Zf<|.int k,Zn,Zn]:=rfl;rw[e,h]
def known:D:=.lst [.str [115,116,111,112],.str [115,116,111,112,115],.str [115],.str [111,112,101,110],.str [97,98,99,100,101,102,103,104]]
def Dg:cu:=aQ (au lr (aa (d9 7 8 (gj (aa (Zi 5) aj)) (ak 7) (cR (aN lV (aN K1 (aq HX 5 (aU 7)) (Zi 1)) (Zi 1))) (aq bQ 2 (aU 7))) aj)) (ak 6)
def mk(d:Nat):D:=match Dg [Zn,Zn,Zf known,Zn,Zn,Zf (.int d),Zn] with
 |.nx e=>(match e[6]? with|some (some (_,z))=>z|_=>.non)|_=>.non
def AllB(P:Nat->Prop):Nat->Prop
 |0=>True|n+1=>AllB P n/\P n
theorem aaO:∀{n},AllB P n->∀d,d<n->P d
 |0,_,d,h=>absurd h<|Qk6 d
 |n+1,⟨a,b⟩,d,h=>by
  by_cases e:d=n;subst e;exact b;exact aaO a d (by omega)
def marks(d:Nat)(hd:d<32)(a b c e f:OD):Dg [a,b,Zf known,c,e,Zf (.int d),f] = .nx [a,b,Zf known,c,e,Zf (.int d),Zf (mk d)]:=by refine aaO (P:=λd=>Dg [a,b,Zf known,c,e,Zf<|.int d,f]=.nx [a,b,Zf known,c,e,Zf<|.int d,Zf<|mk d]) ?_ d hd;and_intros<;>first|exact True.intro|kernel_rfl
def ai2:D->Bool
 |.lst _=>true|_=>false
def af7(d)(hd:d<32):∃zs,mk d=.lst zs:=by
 have h:((List.range 32).all λd=>ai2<|mk d)=true:=by decide +kernel
 have h1:=Qx9.mp h d<|Qkj.mpr hd;cases e:mk d with
 |lst zs=>exact⟨zs,rfl⟩|_=>rw[e] at h1;cases h1
inductive Rows:List D->List D->Prop where
 |nil:Rows [] []|cons {s m:D} {ss rs:List D}:Rows ss rs->Rows (s::ss) (.tup [s,m]::rs)
def Rows.snoc(h:Rows ss rs)(s m):Rows (ss++[s]) (rs++[.tup [s,m]]):=by
 induction h with
 |nil=>exact .cons .nil|cons _ ih=>exact .cons ih
def Rows.len(h:Rows ss rs):rs.length=ss.length:=by
 induction h with
 |nil=>rfl|cons _ ih=>rw[Qqy,Qqy,ih]
def cD{i:Nat}{env e:Ev.Env}(h0:env[i]? = some (Zl x0))(h1:a env = .ok d e)(h2:e[i]? = some (Zl xs))(hz:xs.length<sizeLine):dZ i a env = .nx (e.set i (Zl (xs++[d]))):=by unfold dZ;rw[h0];show kY (a env) _=_;rw[h1];show(match e[i]? with|some (some (true,.lst xs))=>if xs.length<sizeLine then Out.nx (e.set i<|Zl<|xs++[d]) else .stuck|_=>.stuck)=_;rw[h2];show(if xs.length<sizeLine then _ else _)=_;rw[Qv4 hz]
def Ir:cu:=aC (aQ (dX bh 0 (aa (Zi 32) aj)) (ak 5)) (aC Dg (dZ 3 (bK (Zv 4 (aa (au cO (aa (Gu (aM 6) pU (Bo (Zi 4))) aj)) aj)))))
def QS(n)(b v5 v6:OD)(acc)(s)(ha:acc.length<=10):∃m v5' v6',Ir [Zl [.int n],b,Zf known,Zl acc,Zf s,v5,v6] = .nx [Zl [.int (n / 32)],b,Zf known,Zl (acc++[.tup [s,m]]),Zf s,v5',v6']:=by obtain⟨d,hd,e⟩:=dig n 32 (by decide);obtain⟨zs,hz⟩:=af7 d hd;refine⟨.tup<|cutD zs none<|some 4,Zf<|.int d,Zf<|.lst zs,?_⟩;unfold Ir;refine(aB (e:=[Zl [.int (n / 32)],b,Zf known,Zl acc,Zf s,Zf<|.int<|n % (32:Nat),v6]) rfl).trans ?_;rw[e];refine(aB<|marks d hd _ _ _ _ _).trans ?_;rw[hz];exact cD (e:=[Zl [.int (n / 32)],b,Zf known,Zl acc,Zf s,Zf<|.int d,Zf<|.lst zs]) rfl rfl rfl (Qw3 ha (by decide))
structure XOk(x:List Nat):Prop where
 len:x.length<=4
 pos:0<x.length
 nd:x.Nodup
inductive XSt
 |mk
def XS:XSt:=.mk
instance:Membership (List Nat) XSt:=⟨λ_ x=>XOk x⟩
def Cr(h:x∈XS):XOk x:=h
def vV(h:XOk x):x∈XS:=h
def jE:∀x∈XS,x.length<=4:=λ_ h=>(Cr h).len
def aaU(h:x∈XS):(∃a,x=[a])\/(∃a b,x=[a,b])\/(∃a b c,x=[a,b,c])\/∃a b c d,x=[a,b,c,d]:=by
 have h2:=(Cr h).pos
 match x,((Cr h).len),h2 with
 |[a],_,_=>exact .inl ⟨a,rfl⟩|[a,b],_,_=>exact .inr<|.inl ⟨a,b,rfl⟩|[a,b,c],_,_=>exact .inr<|.inr<|.inl ⟨a,b,c,rfl⟩|[a,b,c,d],_,_=>exact .inr<|.inr<|.inr ⟨a,b,c,d,rfl⟩
def stock(n):∃x rows n',x∈XS/\mV [.lst [.int n]]=some (.tup rows,.lst [.int n'])/\Rows (iZ x) rows:=by
 obtain⟨d,hd,e⟩:=dig n 6 (by decide);obtain⟨x,hx,h1⟩:∃x,x∈XS/\∀m,(λk m=>kY (jj (bQ (.lst [.str [97],.str [97,98],.str [97,98],.str [97,98,99],.str [97,101,112,116],.str [109,110,122]])<|.int k) [Zl [.int m],Zn,Zn,Zn,Zn,Zn,Zn]) λd aR=>ZQ<|ak 1 d aR) d m=.nx [Zl [.int m],Zs x,Zn,Zn,Zn,Zn,Zn]:=by
  have hc:d=0\/d=1\/d=2\/d=3\/d=4\/d=5:=by omega
  rcases hc with rfl|rfl|rfl|rfl|rfl|rfl;exact⟨[97],vV ⟨by decide,by decide,by decide⟩,λm=>rfl⟩;exact⟨[97,98],vV ⟨by decide,by decide,by decide⟩,λm=>rfl⟩;exact⟨[97,98],vV ⟨by decide,by decide,by decide⟩,λm=>rfl⟩;exact⟨[97,98,99],vV ⟨by decide,by decide,by decide⟩,λm=>rfl⟩;exact⟨[97,101,112,116],vV ⟨by decide,by decide,by decide⟩,λm=>rfl⟩;exact⟨[109,110,122],vV ⟨by decide,by decide,by decide⟩,λm=>rfl⟩
 have hxl:=jE x hx;obtain⟨e',f1,n',acc,v4,v5,v6,rfl,hr⟩:=jV (g:=ak 4) (iZ x) (λdone env=>∃n acc v4 v5 v6,env=[Zl [.int n],Zs x,Zf known,Zl acc,v4,v5,v6]/\Rows done acc)
  (λdone s rest hall env ⟨n,acc,v4,v5,v6,he,hr⟩=>by
   subst he;have hd:done.length<=4:=by have:=Qx1 List.length hall;unfold iZ at this;rw[Qqx,Qqv,Qqy] at this;omega
   obtain⟨m,w5,w6,hb⟩:=QS n (Zs x) v5 v6 acc s (by rw[hr.len];omega);exact⟨_,_,rfl,hb,n / 32,_,_,_,_,rfl,hr.snoc s m⟩)
  [Zl [.int (n / 6)],Zs x,Zf known,Zl [],Zn,Zn,Zn] ⟨_,[],_,_,_,rfl,.nil⟩
 let E0:Ev.Env:=[Zl [.int n'],Zs x,Zf known,Zl acc,v4,v5,v6];refine⟨x,acc,n',hx,jg (env:=E0) ?_ rfl,hr⟩;unfold rD;refine(aB (e:=[Zl [.int (n / 6)],Zs x,Zn,Zn,Zn,Zn,Zn]) ?_).trans ?_;have h2:=h1<|n / 6;rw[<-e] at h2;exact h2;refine(aB rfl).trans ?_;refine(aB rfl).trans ?_;refine(aB (e:=E0) ?_).trans ?_;exact(cZ rfl).trans f1;rfl
def abw(h:Rows ss rs):∀(a v1 v2:OD),∃w1 w2,Ly (bV 2 (aH (ak 1) (aH (ak 2) bZ))) cA (aM 1) rs [a,v1,v2] = .ok ss [a,w1,w2]:=by
 induction h with
 |nil=>exact λa v1 v2=>⟨v1,v2,rfl⟩
 |cons _ ih=>
  rename_i s m ss rs _;intro a v1 v2;obtain⟨w1,w2,e⟩:=ih a (Zf s)<|Zf m;refine⟨w1,w2,?_⟩;unfold Ly;show bindR (Ly _ cA (aM 1) rs [a,Zf s,Zf m]) _=_;rw[e]
  rfl
def IV(hx:x∈XS)(h:Rows (iZ x) rs):d9 1 3 (dO (aM 0)) (bV 2 (aH (ak 1) (aH (ak 2) bZ))) cA (aM 1) [Zf (.tup rs)]=.ok (.lst (iZ x)) [Zf (.tup rs)]:=by obtain⟨w1,w2,e⟩:=abw h (Zf<|.tup rs) none none;exact o7 (n:=3) (aR:=[Zf (.tup rs)]) rfl rfl (by exact e) (by unfold iZ;rw[Qqx];exact Qq1 (jE x hx) (by decide))
def sounds_of(hx:x∈XS)(h:Rows (iZ x) rs):eG [.tup rs]=some (.tup (iZ x)):=
 cL (bT<|aK (aD (IV hx h) aY) rfl)
def join_eq:∀x∈XS,pB (.str []) (.lst (iZ x))=some (.str x):=by intro x hx;rcases aaU hx with ⟨a,rfl⟩|⟨a,b,rfl⟩|⟨a,b,c,rfl⟩|⟨a,b,c,d,rfl⟩<;>rfl
def Gd(hx:x∈XS)(h:Rows (iZ x) rs):fD [.tup rs]=some (.str x):=
 cL (bT<|bj rfl (IV hx h) (join_eq x hx))
def Up(h:a env=.ok ds e)(h':vG ds=some ys):gj a env=.ok ys e:=by
 unfold gj;rw[h];show jj (vG ds) e=_;rw[h']
 rfl
def j0(n)(m:Nat)(h0:0<m)(h1:m<1073741824):bh [.lst [.int n],.int m]=some (.int (n % m),.lst [.int (n / m)]):=by
 let E0:Ev.Env:=[Zl [.int (n / m)],Zf<|.int m,Zf<|.int<|n % m]
 refine jg (env:=E0) ?_ rfl;unfold iy;have g:zr [.int n,.int (m:Int)]=some (.tup [.int (n / m),.int<|n % m]):=by show(if 0<(m:Int)/\(m:Int)<1073741824 then _ else _)=_;rw[Qv4 (by omega)]
 refine(aB (e:=E0) ?_).trans rfl;exact bB (aK (by rfl) g) (by rfl)
def isT:Option D->Bool
 |some (.bl true)=>true|_=>false
def M(x:List Nat):Nat:=2*2^x.length - 1
def Xw:cu:=aC (aQ (aN cU (Zw [35]) (aU 1)) (ak 3)) (bw (au cO (aa (d9 4 5 (gj (aa (au cJ (aa (aU 3) aj)) aj)) (ak 4) (cR (aN lV (aN K1 (aq HX 2 (aU 4)) (Zi 1)) (Zi 1))) (aq bQ 3 (aU 4))) aj)))
def bit(d k:Nat):Bool:=Builtin.bitAnd ((1+(d:Int)) / 2^k) 1 == 1
def sgR(x:List Nat)(d:Nat):D:=.tup ((((List.range (x.length+1)).filter (bit d)).map λk=>(35::x).getD k 0).map λc=>.str [c])
def SG(x:List Nat):List D:=.non::(List.range (M x)).map (sgR x)
def abr(a:OD):∀x∈XS,∀d,d<M x->∃e3,Xw [a,Zs x,Zf (.int (1+d)),Zn] = .rt false (sgR x d) [a,Zs x,Zf (.int (1+d)),e3]:=by
 intro x hx d hd;have hl:=jE x hx;refine⟨Zs (35::x),?_⟩;unfold Xw;refine(aB<|bB (d:=.str (35::x)) (bj rfl rfl ?_) rfl).trans ?_;unfold cU;exact Qv4<|Qq1 (show 1+x.length<=5 by omega) (by decide);have h:d9 4 5 (gj<|aa (au cJ<|aa (aU 3) aj) aj) (ak 4) (cR<|aN lV (aN K1 (aq HX 2<|aU 4)<|Zi 1)<|Zi 1) (aq bQ 3<|aU 4) [a,Zs x,Zf<|.int<|1+d,Zs (35::x)]=.ok (.lst<|((List.range<|x.length+1).filter<|bit d).map λk=>.str [(35::x).getD k 0]) [a,Zs x,Zf<|.int<|1+d,Zs (35::x)]:=by
  refine Uq (List.range<|x.length+1) (λk=>.int k) (bit d) (λk=>.str [(35::x).getD k 0]) ?_ rfl rfl (λk hk=>?_) (λk hk _=>?_) (by rw[Qb8];exact Qq1 (show x.length+1<=5 by omega) (by decide));exact Up rfl (Vp<|Qw3 (show(35::x).length<=5 by rw[Qqy];omega) (by decide));refine cW<|bj (bj (x:=.int<|(1+d) / 2^k) ?_ rfl rfl) rfl rfl;refine aO rfl rfl rfl ?_;unfold HX gI;simp only;rw[Qv4 (Qw0<|Qb1 k),Qj4];refine aO rfl rfl rfl ?_;show(uN (35::x) k).map _=_;rw[je (v:=(35::x).getD k 0) (by rw[Qq6,Qq7 (Qkj.mp hk)];rfl)];rfl
 refine bT<|aK (aD h aY) ?_;unfold sgR;rw[Qxk];rfl
def signs(n)(x)(hx:x∈XS):∃r n',ju [.lst [.int n],.str x]=some (r,.lst [.int n'])/\r∈SG x:=by
 obtain⟨d,hd,e⟩:=dig n 2 (by decide);have t:cR (aN lV (dX bh 0<|aa (Zi 2) aj)<|Zi 0) [Zl [.int n],Zs x,Zn,Zn]=.ok ((d:Int) == 0) [Zl [.int (n / 2)],Zs x,Zn,Zn]:=by
  rw[<-e];rfl
 have hc:d=0\/d=1:=by omega
 rcases hc with rfl|rfl;refine⟨.non,n / 2,jg (env:=[Zl [.int (n / 2)],Zs x,Zn,Zn]) ?_ rfl,Qqj ..⟩;unfold jw;refine(km ?_).trans rfl;exact(gq t).trans rfl;obtain⟨k,hk,ek⟩:=dig (n / 2) (M x) (by unfold M;have:0<2^x.length:=Qbz _;omega);obtain⟨e3,h3⟩:=abr (Zl [.int (n / 2 / (M x))]) x hx k hk;refine⟨sgR x k,n / 2 / (M x),jg (env:=[Zl [.int (n / 2 / (M x))],Zs x,Zf<|.int<|1+k,e3]) ?_ rfl,Qqk _<|Qwq.mpr ⟨k,Qkj.mpr hk,rfl⟩⟩;unfold jw;refine(aB (e:=[Zl [.int (n / 2)],Zs x,Zn,Zn]) ?_).trans ?_;exact(dw t).trans rfl;refine(aB (e:=[Zl [.int (n / 2 / (M x))],Zs x,Zf<|.int<|1+n / 2 % (M x),Zn]) ?_).trans ?_;have hM:aN uX (aN Wg (Zi 2)<|au cJ<|aa (aU 1) aj) (Zi 1) [Zl [.int (n / 2)],Zs x,Zn,Zn]=.ok (.int<|M x) [Zl [.int (n / 2)],Zs x,Zn,Zn]:=by
  have hl:=jE x hx;refine bj (x:=.int<|2*2^x.length) (bj rfl rfl ?_) rfl ?_;unfold Wg gI;simp only;rw[Qv4 (Qw0 ⟨Qb1 _,by omega,by decide⟩),Qj4];show some (D.int<|2*2^x.length - 1)=_;have hp:0<2^x.length:=Qbz _;have e:((M x):Int)=2*2^x.length - 1:=by
   unfold M;rw[Int.natCast_sub (by omega),Int.natCast_mul,Int.natCast_pow];rfl
  rw[e]
 have ht:bh [.lst [.int (n / 2)],.int<|M x]=some (.int<|n / 2 % (M x),.lst [.int (n / 2 / (M x))]):=by have hl:=jE x hx;have hp:0<2^x.length:=Qbz _;have hq:2^x.length<=2^4:=Qx8 (by decide) hl;exact j0 (n / 2) (M x) (by unfold M;omega) (by unfold M;omega)
 refine bB (bj rfl (fG rfl (aD hM aY) rfl ht) rfl) rfl;rw[ek];exact h3
def oth(x:List Nat)(c:Nat):List D:=((x.map (λa=>[a])++[[]]).filter λz=>z != [c]).map .str
def PV(x:List Nat):List (Nat×D):=x.flatMap λc=>(oth x c).map λv=>(c,v)
def one:cu:=aQ (aq bQ 1 (dX bh 0 (aa (au cJ (aa (aU 1) aj)) aj))) (ak 4)
def others:cu:=cT 5 (d9 6 7 (dO (aN cU (au Jr (aa (aU 1) aj)) (cB (aa (Zw []) aj)))) (ak 6) (cR (aq yf 6 (aU 4))) (aM 6))
def Tp:cu:=qd 2 (aM 4) (aq bQ 5 (dX bh 0 (aa (au cJ (aa (aU 5) aj)) aj)))
def VF(a b v3 v5:OD):∀x∈XS,∀c∈x,others [a,Zs x,b,v3,Zs [c],v5]=.nx [a,Zs x,b,v3,Zs [c],Zl (oth x c)]:=by
 intro x hx c hc;have hl:=jE x hx;unfold others;refine(jf (e:=[a,Zs x,b,v3,Zs [c],v5]) ?_).trans rfl;have h5:(x.map (λa=>[a])++[[]]).length<=5:=by rw[Qqv,Qqx];exact Qg7 hl
 refine Uq (x.map (λa=>[a])++[[]]) D.str (λz=>z != [c]) D.str ?_ rfl rfl (λz hz=>rfl) (λz hz _=>rfl) (Qq1 h5 (by decide));refine zz (d:=.lst<|((x.map λa=>[a])++[[]]).map D.str) (bj rfl rfl ?_) rfl;rw[Qw7,Qxk];refine O4 (a:=iZ x) ?_;unfold iZ;rw[Qqx];exact Qq1 (Qg7 hl) (by decide)
def ab6:∀x∈XS,∀c∈x,(oth x c).length=x.length:=by
 intro x hx c hc;have h1:=Qy8 hc;rw[(Cr hx).nd.erase_eq_filter] at h1;have e:(λz:List Nat=>z != [c]) ∘ (λa=>[a])=λa=>a != c:=by
  funext a;by_cases h:a=c;subst h;show([a] != [a])=(a != a);rw[bne_self_eq_false,bne_self_eq_false];show([a] != [c])=(a != c);rw[bne_iff_ne.mpr h,bne_iff_ne.mpr λq=>h (Qjv q).1]
 unfold oth;rw[Qqx,List.filter_append,List.filter_map,e,Qqv,Qqx,h1];have:=(Cr hx).pos;show x.length - 1+1=_;omega
def Bu:∀x∈XS,0<x.length:=λ_ h=>(Cr h).pos
def Vf{i:Nat}{env e1 e2:Ev.Env}(h1:a env=.ok d e1)(h2:e1[i]?=some (some (o,x0)))(h3:k e1=.ok kd e2)(h4:e2[i]?=some (Zt (.dct kvs)))(h5:pP kd=some q)(hz:kvs.length<sizeLine) :
  qd i k a env=.nx (e2.set i (Zt (.dct (putD kvs kd q d)))):=by
 unfold qd;rw[h1];simp[kY];rw[h2];simp;rw[h3];simp;rw[h4,h5];simp only;rw[Qv4 hz]
def Yw(kvs:List (D×D))(p:Nat×D):List (D×D):=putD kvs (.str [p.1]) (.inr (strOf [p.1])) p.2
def round(n)(x)(hx:x∈XS)(kvs)(hk:kvs.length<=10)(v3 v4 v5:OD):∃p n' v4' v5',p∈PV x/\aC one (aC others Tp) [Zl [.int n],Zs x,Zt (.dct kvs),v3,v4,v5]=.nx [Zl [.int n'],Zs x,Zt (.dct (Yw kvs p)),v3,v4',v5']:=by
 have hp:=Bu x hx;have hl4:=jE x hx;obtain⟨d,hd,e⟩:=dig n x.length hp;have hc:x[d]∈x:=Qzw hd;have hol:=ab6 x hx x[d] hc;obtain⟨d',hd',e'⟩:=dig (n / (x.length:Int)) x.length hp;have hv:d'<(oth x x[d]).length:=by rw[hol];exact hd'
 refine⟨(x[d],(oth x x[d])[d']),n / (x.length:Int) / (x.length:Int),Zs [x[d]],Zl<|oth x x[d],?_,?_⟩
 .unfold PV;exact Qj0.mpr ⟨x[d],hc,Qwq.mpr ⟨_,Qzw hv,rfl⟩⟩
 .refine(aB (e:=[Zl [.int (n / (x.length:Int))],Zs x,Zt<|.dct kvs,v3,Zs [x[d]],v5]) ?_).trans ?_
  .unfold one;refine bB (e:=[Zl [.int (n / (x.length:Int))],Zs x,Zt<|.dct kvs,v3,v4,v5]) ?_ (by rfl);refine aO (y:=.int<|n % (x.length:Int)) (by rfl) ?_ (by rfl) ?_
   .exact fG (e1:=[Zl [.int n],Zs x,Zt<|.dct kvs,v3,v4,v5]) (by rfl) (by rfl) (by rfl)<|j0 n x.length hp (by omega)
   .show(uN x<|n % (x.length:Int)).map _=_;rw[e,Lk hd]
    rfl
  .refine(aB<|VF _ _ _ _ x hx x[d] hc).trans ?_;unfold Tp;refine(Vf (e1:=[Zl [.int (n / (x.length:Int) / (x.length:Int))],Zs x,Zt<|.dct kvs,v3,Zs [x[d]],Zl<|oth x x[d]])
    ?_ (by rfl) (by rfl) (by rfl) (by rfl) (Qw3 hk (by decide))).trans rfl
   refine aO (y:=.int<|n / (x.length:Int) % (x.length:Int)) (by rfl) ?_ (by rfl) ?_
   .refine fG (e1:=[Zl [.int (n / (x.length:Int))],Zs x,Zt<|.dct kvs,v3,Zs [x[d]],Zl<|oth x x[d]]) (by rfl) ?_ (by rfl)<|j0 _ x.length hp (by omega);refine aD ?_ aY;refine aK (by rfl) ?_;show some (D.int ((oth x x[d]).length:Int))=_;rw[hol]
   .show uN (oth x x[d]) (n / (x.length:Int) % (x.length:Int))=_;rw[e',Lk hv]
def Wt(kvs:List (D×D)):Option D:=match lr [.dct kvs] with
 |some (.lst ks)=>if (ks.all λk=>(jL (.dct kvs) k).isSome) then some (.tup (ks.map λk=>.tup [k,(jL (.dct kvs) k).getD .non])) else none|_=>none
def agQ:cu:=bw (au cO (aa (d9 6 7 (dO (au lr (aa (aU 2) aj))) (ak 6) cA (bK (Zv 6 (aa (aq jL 2 (aU 6)) aj)))) aj))
def O2(h:lr [.dct kvs]=some (.lst ks)):ks.length<=64:=by
 obtain⟨zs,h1,h2⟩:=Qx0.mp h;split at h2;rename_i hz;cases h2;rw[Qqx,(kE zs).length_eq];omega;cases h2
def Lf(h:Wt kvs=some ch)(a b v3 v4 v5:OD):agQ [a,b,Zt (.dct kvs),v3,v4,v5] = .rt false ch [a,b,Zt (.dct kvs),v3,v4,v5]:=by
 unfold Wt at h;split at h;rename_i ks hs;split at h;rename_i hall;cases h;obtain⟨env',h1,v6,rfl⟩:=wk (g:=ak 6) (e:=bK<|Zv 6<|aa (aq jL 2<|aU 6) aj) (λenv=>∃v6,env=[a,b,Zt<|.dct kvs,v3,v4,v5,v6]) (λk=>.tup [k,(jL (.dct kvs) k).getD .non]) ks [a,b,Zt<|.dct kvs,v3,v4,v5,Zn] ⟨none,rfl⟩
  (λk hk env ⟨v6,he⟩=>by
   subst he;obtain⟨v,hv⟩:=Qz1.mp<|Qx9.mp hall k hk;refine⟨_,[a,b,Zt<|.dct kvs,v3,v4,v5,Zf k],rfl,?_,Zf k,rfl⟩;rw[hv];exact cG (aD (by rfl)<|aD (aO (by rfl) (by rfl) (by rfl) hv) aY) Ev.xm)
 refine bT<|aK (ds:=[.lst (ks.map λk=>.tup [k,(jL (.dct kvs) k).getD .non])]) (aD ?_ aY) rfl;refine o7 (n:=7) (aR:=[a,b,Zt<|.dct kvs,v3,v4,v5]) ?_ (by rfl) h1 ?_;exact zz (aK (by rfl) hs) rfl;rw[Qqx];exact Qq1 (O2 hs) (by decide);cases h;cases h
structure Lw(x:List Nat)(kvs:List (D×D))(zs:List Nat):Prop where
 keys:kvs.map (·.1)=zs.map λc=>D.str [c]
 nd:zs.Nodup
 mem:∀c∈zs,c∈x
 vals:∀k v,(k,v)∈kvs->∃c,k=.str [c]/\(c,v)∈PV x
def pZ(h:strOf a=strOf b):a=b:=by
 have:=Qx1 (λs:Str=>s.cps.toList) h
 simpa[strOf] using this
theorem Ag(q)(d):∀kvs,(CJ kvs q d).map (·.1)=kvs.map (·.1)
 |[]=>rfl
 |(k,e)::r=>by
  unfold CJ;rw[Qq8,Qq8,Ag q d r];split<;>rfl
theorem Em:∀{kvs} {k v},(k,v)∈CJ kvs q d->(k,v)∈kvs\/(pP k=some q/\v=d)
 |[],_,_,h=>by simp[CJ] at h
 |(k',e)::r,k,v,h=>by
  unfold CJ at h;rcases Qq4.mp h with h|h;split at h;rename_i hk;cases h;exact .inr ⟨hk,rfl⟩;cases h;exact .inl<|Qqj ..;rcases Em h with h|h;exact .inl<|Qqk _ h;exact .inr h
theorem z7:∀{kvs},mZ kvs q=none->∀k v,(k,v)∈kvs->pP k≠some q
 |[],_,k,v,hm=>by simp at hm
 |(k',e)::r,h,k,v,hm=>by
  unfold mZ at h;split at h;cases h;rename_i hk;rcases Qq4.mp hm with hm|hm;cases hm;exact hk;exact z7 h k v hm
theorem pY:∀{kvs},mZ kvs q=some d->∃k,(k,d)∈kvs/\pP k=some q
 |[],h=>by simp[mZ] at h
 |(k',e)::r,h=>by
  unfold mZ at h;split at h;rename_i hk;cases h;exact⟨k',Qqj ..,hk⟩;obtain⟨k,h1,h2⟩:=pY h;exact⟨k,Qqk _ h1,h2⟩
def Lw.put(h:Lw x kvs zs)(hp:p∈PV x)(hx:p.1∈x):∃zs',Lw x (Yw kvs p) zs'/\0<zs'.length/\zs'.length<=zs.length+1:=by
 unfold Yw putD;cases e:mZ kvs (.inr<|strOf [p.1]) with
 |none=>
  simp[Option.isSome_none,Qf3,Q1y];refine⟨zs++[p.1],⟨?_,?_,λc hc=>?_,λk v hm=>?_⟩,by simp,by simp⟩;rw[Qw7,Qw7,h.keys];rfl;refine List.nodup_append.mpr ⟨h.nd,Qx3.mpr ⟨Qw6,.nil⟩,λa ha b hb=>?_⟩;rcases Qqw.mp hb with rfl;rintro rfl;have hm:D.str [p.1]∈kvs.map (·.1):=by rw[h.keys];exact Qwq.mpr ⟨p.1,ha,rfl⟩
  obtain⟨⟨k,v⟩,h1,h2⟩:=Qwq.mp hm;subst h2;exact z7 e _ _ h1 rfl;rcases Qww.mp hc with hc|hc;exact h.mem c hc;rw[Qqw.mp hc];exact hx;rcases Qww.mp hm with hm|hm;exact h.vals k v hm;have:=Qqw.mp hm;cases this;exact⟨p.1,rfl,hp⟩
 |some w=>
  simp[Qfy,Qhv];obtain⟨k0,hk0,_⟩:=pY e;have hne:0<zs.length:=by have:=Qx1 List.length h.keys;rw[Qqx,Qqx] at this;rw[<-this];exact Qj1 hk0
  refine⟨zs,⟨by rw[Ag];exact h.keys,h.nd,h.mem,λk v hm=>?_⟩,hne,Qdz _⟩;rcases Em hm with hm|⟨hk,rfl⟩;exact h.vals k v hm;have hin:k∈(CJ kvs (.inr<|strOf [p.1]) p.2).map (·.1):=Qwq.mpr ⟨_,hm,rfl⟩;rw[Ag,h.keys] at hin;obtain⟨c,hc,rfl⟩:=Qwq.mp hin;have:strOf [c]=strOf [p.1]:=by
   have:=Qw4 hk;exact Q16 this
  cases (pZ this);exact⟨p.1,rfl,hp⟩
def Lr(h:p∈PV x):p.1∈x:=by unfold PV at h;obtain⟨c,hc,h⟩:=Qj0.mp h;obtain⟨v,_,rfl⟩:=Qwq.mp h;exact hc
def mL(zs):j6 (zs.map D.str)=some zs:=by
 induction zs with
 |nil=>rfl
 |cons z r ih=>
  rw[Qq8];unfold j6;rw[ih]
  rfl
def Vh(h:Lw x kvs zs)(h4:zs.length<=4):lr [.dct kvs]=some (.lst ((lM (zs.map λc=>[c])).map .str)):=by
 have e:kvs.map (·.1)=(zs.map λc=>[c]).map D.str:=by rw[h.keys,Qxk];rfl
 show(j6<|kvs.map (·.1)).bind _=_;rw[e,mL];show(if _ then _ else _)=_;rw[Qv4];refine⟨by rw[Qqx];omega,λz hz=>?_⟩;obtain⟨c,_,rfl⟩:=Qwq.mp hz;show 1<=sizeLine;decide
def prs(kvs:List (D×D))(ks:List D):List D:=ks.map λk=>.tup [k,(jL (.dct kvs) k).getD .non]
def Kz(h:Lw x kvs zs)(k)(hk:k∈(lM (zs.map λc=>[c])).map D.str):∃c v,k=.str [c]/\jL (.dct kvs) k=some v/\(c,v)∈PV x:=by
 obtain⟨z,hz,rfl⟩:=Qwq.mp hk;obtain⟨c,hc,rfl⟩:=Qwq.mp<|(kE _).mem_iff.mp hz;have hm:D.str [c]∈kvs.map (·.1):=by rw[h.keys];exact Qwq.mpr ⟨c,hc,rfl⟩
 obtain⟨⟨k,v⟩,h1,h2⟩:=Qwq.mp hm;subst h2;cases e:mZ kvs (.inr<|strOf [c]) with
 |none=>exact absurd rfl (z7 e _ _ h1)|some w=>obtain⟨k',h3,h4⟩:=pY e;obtain⟨c',rfl,h5⟩:=h.vals k' w h3;cases pZ (Q16<|Qw4 h4);exact⟨c,w,rfl,e,h5⟩
def Lg(h:Lw x kvs zs)(h4:zs.length<=4):Wt kvs=some (.tup (prs kvs ((lM (zs.map λc=>[c])).map D.str))):=by
 unfold Wt;rw[Vh h h4];simp only;rw[Qv4];rfl;refine Qx9.mpr λk hk=>?_;obtain⟨c,v,_,e,_⟩:=Kz h k hk;rw[e];rfl
end fM
namespace dM
open Ev
def iy:cu:=lD.iy
def bh:List D->Option (D×D):=jh 3 iy
def uE:cu:=bw (aN pB (Zw []) (d9 3 4 (gj (aa (dX bh 0 (aa (aq cU 2 (Zi 1)) aj)) aj)) (ak 3) cA (aq bQ 1 (dX bh 0 (aa (au cJ (aa (aU 1) aj)) aj)))))
def oM:List D->Option (D×D):=jh 3 uE
open Ev PySem L2
abbrev XS:=fM.XS
def Bu:∀x∈XS,0<x.length:=λ_ h=>(fM.Cr h).pos
open fM (j0)
theorem Kv(P:Ev.Env->Prop)(R:D->Prop):∀ds env,P env->(∀d∈ds,∀env,P env->∃y e1 e2,g d env=some e1/\e e1=.ok y e2/\P e2/\R y)->∃ys env',Ly g cA e ds env=.ok ys env'/\P env'/\(∀y∈ys,R y)/\ys.length=ds.length
 |[],env,hp,_=>⟨[],env,rfl,hp,λy hy=>by simp at hy,rfl⟩
 |d::ds,env,hp,h=>by
  obtain⟨y,e1,e2,h1,h2,h3,h4⟩:=h d (Qqj ..) env hp;obtain⟨ys,e3,h5,h6,h7,h8⟩:=Kv P R ds e2 h3 λd' hd=>h d'<|Qqk _ hd;refine⟨y::ys,e3,?_,h6,λz hz=>?_,by rw[Qqy,Qqy,h8]⟩;unfold Ly;rw[h1];show bindR (e e1) _=_;rw[h2];show bindR (Ly g cA e ds e2) _=_;rw[h5];rfl;rcases Qq4.mp hz with rfl|hz;exact h4;exact h7 z hz
theorem wu:∀zs,zb [] zs=zs.flatten
 |[]=>rfl
 |x::r=>by
  show r.foldl (λacc y=>acc++[]++y) x=(x::r).flatten;have go:∀(r:List (List Nat)) x,r.foldl (λacc y=>acc++[]++y) x=x++r.flatten:=by
   intro r
   induction r with
   |nil=>intro x;simp|cons y r ih=>intro x;rw[Qj5,ih];simp
  rw[go];rfl
def mL(zs):j6 (zs.map D.str)=some zs:=by
 induction zs with
 |nil=>rfl
 |cons z r ih=>
  rw[Qq8];unfold j6;rw[ih]
  rfl
def vh{zs:List (List Nat)}(h:∀z∈zs,z.length<=k):(zs.map List.length).sum<=zs.length*k:=by
 induction zs with
 |nil=>simp|cons z r ih=>rw[Qq8,Qbq,Qqy,Q17];have h1:=h z<|Qqj ..;have h2:=ih λy hy=>h y<|Qqk _ hy;omega
def Wk(h1:zs.length<=100)(h2:∀z∈zs,z.length<=10):joinFits [] zs=true:=by
 refine Qw0 ?_;have:=vh h2;have h3:zs.length*10<=1000:=by omega
 show _+zs.length*0<=_;omega
def join_eq{zs:List (List Nat)}(h1:zs.length<=100)(h2:∀z∈zs,z.length<=10):pB (.str []) (.lst (zs.map .str))=some (.str zs.flatten):=by show(match j6 (zs.map D.str) with|some xs=>if joinFits [] xs=true then some (D.str<|zb [] xs) else none|none=>none)=_;rw[mL];show(if joinFits [] zs=true then _ else _)=_;rw[Qv4 (Wk h1 h2),wu]
theorem SN{x:List Nat}:∀{ys},(∀y∈ys,∃c∈x,y=.str [c])->∃w:List Nat,ys=(w.map λc=>[c]).map D.str/\∀c∈w,c∈x
 |[],_=>⟨[],rfl,λc hc=>by simp at hc⟩
 |y::ys,h=>by
  obtain⟨c,hc,rfl⟩:=h y<|Qqj ..;obtain⟨w,rfl,hw⟩:=SN λz hz=>h z<|Qqk _ hz;refine⟨c::w,rfl,λd hd=>?_⟩;rcases Qq4.mp hd with rfl|hd;exact hc;exact hw d hd
def aan(w:List Nat):(w.map λc=>[c]).flatten=w:=by
 induction w with
 |nil=>rfl|cons c r ih=>rw[Qq8,Qgz,ih];rfl
def Vp{j:Nat}(h:j<1000):vG [.int j]=some (fZ 0 1 j):=by
 have hf:lQ j=true:=by unfold lQ;rw[Qjx];exact⟨Qw0 (by omega),Qw0 (by omega)⟩
 unfold vG;simp only;rw[Qv4 hf,Qj4]
def tK(h:a env=.ok ds e)(h':vG ds=some ys):gj a env=.ok ys e:=by
 unfold gj;rw[h];show jj (vG ds) e=_;rw[h']
 rfl
def word(n)(x)(hx:x∈XS)(m:Nat)(hm:m<=50):∃w n',oM [.lst [.int n],.str x,.int m]=some (.str w,.lst [.int n'])/\(∀c∈w,c∈x)/\w.length<=m:=by
 have hp:=Bu x hx;have hl4:=fM.jE x hx;obtain⟨d,hd,e⟩:=dig n (m+1) (by omega);obtain⟨ys,env',h1,⟨n',v3,rfl⟩,h3,h4⟩:=Kv (g:=ak 3) (e:=aq bQ 1<|dX bh 0<|aa (au cJ<|aa (aU 1) aj) aj) (λenv=>∃n v3,env=[Zl [.int n],Zs x,Zf<|.int (m:Int),v3]) (λy=>∃c∈x,y=.str [c]) (fZ 0 1 d)
  [Zl [.int (n / ((m+1:Nat):Int))],Zs x,Zf<|.int (m:Int),Zn] ⟨_,_,rfl⟩
  (λs _ env ⟨n,v3,he⟩=>by
   subst he;obtain⟨j,hj,ej⟩:=dig n x.length hp;refine⟨.str [x[j]],[Zl [.int n],Zs x,Zf<|.int (m:Int),Zf s],[Zl [.int (n / (x.length:Int))],Zs x,Zf<|.int (m:Int),Zf s],rfl,?_,⟨_,_,rfl⟩,x[j],Qzw hj,rfl⟩;refine aO (y:=.int<|n % (x.length:Int)) (by rfl) ?_ (by rfl) ?_
   .exact fG (e1:=[Zl [.int n],Zs x,Zf<|.int (m:Int),Zf s]) (by rfl) (by rfl) (by rfl)<|j0 n x.length hp (by omega)
   .show(uN x<|n % (x.length:Int)).map _=_;rw[ej,Lk hj]
    rfl)
 obtain⟨w,rfl,hw⟩:=SN h3;have hwl:w.length=d:=by have:=h4;rw[Qqx,Qqx,jy] at this;exact this
 refine⟨w,n',jg (env:=[Zl [.int n'],Zs x,Zf<|.int (m:Int)]) ?_ rfl,hw,by omega⟩;unfold uE;refine bT<|bj (by rfl) (y:=.lst<|(w.map λc=>[c]).map D.str) ?_ ?_
 .refine o7 (n:=4) (aR:=[Zl [.int (n / ((m+1:Nat):Int))],Zs x,Zf<|.int (m:Int)]) ?_ (by rfl) h1 ?_
  .refine tK (ds:=[.int (n % ((m+1:Nat):Int))]) ?_ (by rw[e];exact Vp (by omega));refine aD ?_ aY;exact fG (e1:=[Zl [.int n],Zs x,Zf<|.int (m:Int)]) (by rfl) (by rfl) (by rfl)<|j0 n (m+1) (by omega) (by omega)
  .rw[Qqx,Qqx,hwl];exact Qq1 (show d<=100 by omega) (by decide)
 .have:=join_eq (zs:=w.map λc=>[c]) (by rw[Qqx];omega) (λz hz=>by obtain⟨c,_,rfl⟩:=Qwq.mp hz;simp);rw[aan] at this;exact this
theorem cD{i:Nat}{env e:Ev.Env}(h0:env[i]? = some (Zl x0))(h1:a env = .ok d e)(h2:e[i]? = some (Zl xs))(hz:xs.length<sizeLine):dZ i a env = .nx (e.set i (Zl (xs++[d]))):=fM.cD h0 h1 h2 hz
abbrev Step:=List Nat×Nat
abbrev State:=List Nat×List Step
def encP(p:Step):D:=.tup [.str p.1,.int (p.2:Int)]
def bL(s:State):D:=.tup [.str s.1,.tup (s.2.map encP)]
def encM(first:List Nat)(ss:List State):D:=.tup [.str first,.tup (ss.map bL)]
def texts(x:List Nat):List (List Nat):=[[],[x.headD 0],[x.getLastD 0],[x.headD 0,x.headD 0],[x.headD 0,x.getLastD 0]]
def idx(x:List Nat)(c:Nat):Option Nat:=Av [c] (x.map λa=>[a])
theorem KJ:∀{x},c∈x->idx x c=some (x.idxOf c)
 |a::x,h=>by
  show(if [a]=[c] then some 0 else (idx x c).map (·+ 1))=_;rw[Qv7];by_cases e:a=c;subst e;simp;rw[Qv5 λq=>e (Qjv q).1,KJ<|(Qq4.mp h).resolve_left λq=>e q.symm,Qdk e];rfl
def akt:∀x,x.length<=4->c∈x->jd (.str x) (.str [c])=some (.int (x.idxOf c)):=by
 intro x hl hc;match x,hl,hc with
 |[a],_,hc=>have:=Qqw.mp hc;subst this;simp[jd,Builtin.Str.occurrences,Builtin.Str.subAt,strOf,Qv7,Str.length,Qv6,cond_eq_ite]
 |[a,b],_,hc=>
  by_cases h1:a=c;simp[jd,Builtin.Str.occurrences,Builtin.Str.subAt,strOf,Qv7,Str.length,Qv6,cond_eq_ite,h1];obtain rfl:b=c:=by simp at hc;omega
  simp[jd,Builtin.Str.occurrences,Builtin.Str.subAt,strOf,Qv7,Str.length,Qv6,cond_eq_ite,h1]
 |[a,b,d],_,hc=>
  by_cases h1:a=c;simp[jd,Builtin.Str.occurrences,Builtin.Str.subAt,strOf,Qv7,Str.length,Qv6,cond_eq_ite,h1];by_cases h2:b=c;simp[jd,Builtin.Str.occurrences,Builtin.Str.subAt,strOf,Qv7,Str.length,Qv6,cond_eq_ite,h1,h2];obtain rfl:d=c:=by simp at hc;omega
  simp[jd,Builtin.Str.occurrences,Builtin.Str.subAt,strOf,Qv7,Str.length,Qv6,cond_eq_ite,h1,h2]
 |[a,b,d,e],_,hc=>
  by_cases h1:a=c;simp[jd,Builtin.Str.occurrences,Builtin.Str.subAt,strOf,Qv7,Str.length,Qv6,cond_eq_ite,h1];by_cases h2:b=c;simp[jd,Builtin.Str.occurrences,Builtin.Str.subAt,strOf,Qv7,Str.length,Qv6,cond_eq_ite,h1,h2];by_cases h3:d=c;simp[jd,Builtin.Str.occurrences,Builtin.Str.subAt,strOf,Qv7,Str.length,Qv6,cond_eq_ite,h1,h2,h3];obtain rfl:e=c:=by simp at hc;omega
  simp[jd,Builtin.Str.occurrences,Builtin.Str.subAt,strOf,Qv7,Str.length,Qv6,cond_eq_ite,h1,h2,h3]
def aaa:∀x∈XS,∀c∈x,∃j,idx x c=some j/\j<x.length/\wA (.tup (iZ x)) (.str [c])=some (.int j)/\jd (.str x) (.str [c])=some (.int j):=by
 intro x hx c hc;refine⟨x.idxOf c,KJ hc,List.idxOf_lt_length_of_mem hc,?_,akt x (fM.jE x hx) hc⟩;have e:iZ x=(x.map λa=>[a]).map D.str:=by rw[Qxk];rfl
 rw[e];show(j6<|(x.map λa=>[a]).map D.str).bind _=_;rw[mL];show(idx x c).map _=_;rw[KJ hc]
 rfl
section
variable{x:List Nat}{ss:List State}{m:Nat}{first:List Nat}
def ig(x:List Nat)(ss:List State)(q c:Nat):Step:=(ss.getD q ([],[])).2.getD ((idx x c).getD 0) ([],0)
def qx(x:List Nat)(ss:List State)(w:List Nat):List (List Nat)×Nat:=w.foldl (λs c=>(s.1++[(ig x ss s.2 c).1],(ig x ss s.2 c).2)) ([],0)
theorem vN(v)(c):qx x ss (v++[c])=((qx x ss v).1++[(ig x ss (qx x ss v).2 c).1],(ig x ss (qx x ss v).2 c).2):=by
 unfold qx;rw[Qgx]
 rfl
def Bq(ss:List State)(q:Nat):List Nat:=(ss.getD q ([],[])).1
theorem O9{zs:List (List Nat)}(h:∀z∈zs,z.length<=k):zs.flatten.length<=zs.length*k:=by rw[Q1w];exact vh h
theorem rB{α:Type}(f)(l:List α)(q:Nat)(a)(h:l[q]?=some a):bQ (.tup (l.map f)) (.int q)=some (f a):=by show uN (l.map f) q=_;exact je (by rw[Qw1,h];rfl)
def res(x first:List Nat)(ss:List State)(w:List Nat):List Nat:=first++((qx x ss w).1.flatten++Bq ss (qx x ss w).2)
def Tf:cu:=aC (aQ (aN bQ (aN bQ (aq bQ 5 (aU 8)) (Zi 1)) (aN wA (aM 6) (aU 10))) (bV 2 (aH (ak 11) (aH (ak 8) bZ)))) (dZ 7 (aM 11))
theorem vW{done rest:List D}(h:iZ w=done++d::rest):∃v c,done=iZ v/\d=.str [c]/\c∈w/\(∀e∈v,e∈w)/\v.length<w.length:=by
 have h1:done=iZ (w.take done.length):=by
  have h0:=Qx1 (List.take done.length) h;rw[List.take_left' rfl] at h0;have h1:(iZ w).take done.length=iZ (w.take done.length):=by unfold iZ;rw[List.map_take]
  exact h0.symm.trans h1
 have hl:done.length<w.length:=by have:=Qx1 List.length h;unfold iZ at this;rw[Qqx,Qqv,Qqy] at this;omega
 have hd:d=.str [w[done.length]]:=by
  have:(iZ w)[done.length]?=some d:=by rw[h];simp
  unfold iZ at this;rw[Qw1,Qq7 hl] at this;exact(Qw4 this).symm
 exact⟨_,_,h1,hd,Qzw hl,λe he=>Q1q he,by rw[Qzv];omega⟩
def R:List Nat:=[114,105,103,104,116]
def isR(side:List Nat):Bool:=side == R
def rd(side w:List Nat):List Nat:=if isR side then w.reverse else w
theorem vm(side)(env)(h:env[2]?=some (Zs side)):cR (aq lV 2 (Zw [114,105,103,104,116])) env=.ok (isR side) env:=
 cW (aO h (by rfl) h rfl)
theorem aeX(i:Nat)(side w)(env:Ev.Env)(h:env[2]? = some (Zs side))(h3:env[i]? = some (Zs w)):RP (cR (aq lV 2 (Zw [114,105,103,104,116]))) (pD (aM i)) (aM i) env = .ok (.str (rd side w)) env:=by
 have hv:aM i env=.ok (.str w) env:=by unfold aM;rw[h3]
 unfold RP;rw[vm side env h];show(if isR side=true then pD (aM i) env else aM i env)=_;unfold rd;cases isR side with
 |true=>rw[Qv4 rfl,Qv4 rfl];unfold pD;rw[hv];rfl|false=>rw[Qv5 Qw2,Qv5 Qw2];exact hv
end
def ahU(h:c≠0/\c.natAbs<1073741824/\Builtin.Range.small i j c=true):vG [.int i,.int j,.int c]=some (fZ i c (Builtin.Range.rangeSize i j c).toNat):=by unfold vG;simp only;rw[Qv4 h]
end dM
namespace nZ
open Ev
def oV:cu:=lD.oV
def kW:LD:=cQ 2 oV
def qI:cu:=lD.oV
def bW:LD:=cQ 2 qI
def jD:cu:=aC (aQ (aN cU (aN cU (Zw [35]) (aU 1)) (Zw [35])) (ak 2)) (aC (aQ (Zw []) (ak 3)) (aC (dF (gj (aa (Zi 1) (aa (au cJ (aa (aU 2) aj)) aj))) (ak 4) (aC (dH (di (cR (au bW (aa (aq bQ 0 (Zi 2)) (aa (aq bQ 2 (aq uX 4 (Zi 1))) aj)))) (cR (au bW (aa (aq bQ 0 (Zi 3)) (aa (aq bQ 2 (aU 4)) aj))))) (aQ (aq cU 3 (aN bQ (aN bQ (aq bQ 0 (Zi 1)) (Zi 0)) (Zi 1))) (ak 3)) bU) (aQ (aq cU 3 (aq bQ 2 (aU 4))) (ak 3)))) (bw (Gs (aM 3) pU (Bo (kh CZ (Zi 1)))))))
def lz:LD:=cQ 5 jD
def gM:cu:=aC (aQ (aM 0) (bV 4 (aH (ak 2) (aH (ak 3) (aH (ak 4) (aH (ak 5) bZ)))))) (aC (dH (cR (aN lV (aN bQ (aq bQ 3 (Zi 0)) (Zi 0)) (Zw []))) (bw (au lz (Zv 0 (Zv 1 aj)))) bU) (aC (aQ (au tu (aa (aU 3) aj)) (ak 6)) (aC (aQ (aN cU (aN cU (Zw [35]) (aU 1)) (Zw [35])) (ak 7)) (aC (aQ (Zw [35]) (ak 8)) (aC (dF (gj (aa (Zi 1) (aa (aN uX (au cJ (aa (aU 7) aj)) (Zi 1)) aj))) (ak 9) (aC (aQ (aq bQ 7 (aq uX 9 (Zi 1))) (ak 10)) (aC (dH (cR (aq lV 2 (Zw [97,108,111,110,103]))) (aQ (aq bQ 8 (kh CZ (Zi 1))) (ak 10)) bU) (dH (di (cR (aN su (aq bQ 7 (aU 9)) (aU 6))) (di (cR (au bW (Zv 4 (Zv 10 aj)))) (cR (au bW (Zv 5 (aa (aq bQ 7 (aq cU 9 (Zi 1))) aj)))))) (aQ (aq cU 8 (aq jL 6 (aq bQ 7 (aU 9)))) (ak 8)) (aQ (aq cU 8 (aq bQ 7 (aU 9))) (ak 8)))))) (bw (Gs (aM 8) (Bo (Zi 1)) pU)))))))
def dD:LD:=cQ 11 gM
def fY:cu:=lD.fY
def fX:LD:=cQ 1 fY
def gO:cu:=aC (dH (cR (aq lV 0 (Zw [114,105,103,104,116]))) (bw (pD (au dD (aa (au fX (Zv 1 aj)) (aa (pD (aM 2)) aj))))) bU) (bw (au dD (Zv 1 (Zv 2 aj))))
def eO:LD:=cQ 3 gO
open Ev PySem L2
abbrev XS:=fM.XS
open fM (Bu jE Lw PV SG Wt prs one others Tp Lf Kz Yw j0 Lr Lg)
def ahj:∀x∈XS,∀p∈PV x,∃t,p.2=.str t/\t.length<=1/\∀c∈t,c∈x:=by
 intro x hx p hp;obtain⟨c,hc,h⟩:=Qj0.mp hp;obtain⟨v,hv,rfl⟩:=Qwq.mp h;obtain⟨t,ht,rfl⟩:=Qwq.mp hv;refine⟨t,rfl,?_⟩;rcases Qww.mp (Q03.mp ht).1 with h|h;obtain⟨a,ha,rfl⟩:=Qwq.mp h;exact⟨Qq0 1,λc hc=>by rw[Qqw.mp hc];exact ha⟩;rw[Qqw.mp h];exact⟨Qxz 1,λc hc=>absurd hc Qw6⟩
abbrev Pr:=Nat×List Nat
def encC(p:Pr):D:=.tup [.str [p.1],.str p.2]
inductive Ik (x:List Nat):D->Prop
 |put {c:Nat}:c∈x->Ik x (.tup [.tup [.str [],.str [c]]])|chg {ps:List Pr}:0<ps.length->ps.length<=4->(∀p∈ps,p.1∈x/\p.2.length<=1/\∀c∈p.2,c∈x)->Ik x (.tup (ps.map encC))
theorem Km(hx:x∈XS):∀ks,(∀k∈ks,∃c v,k=.str [c]/\jL (.dct kvs) k=some v/\(c,v)∈PV x)->∃ps:List Pr,prs kvs ks=ps.map encC/\ps.length=ks.length/\∀p∈ps,p.1∈x/\p.2.length<=1/\∀c∈p.2,c∈x
 |[],_=>⟨[],rfl,rfl,λp hp=>by simp at hp⟩
 |k::ks,h=>by
  obtain⟨c,v,rfl,e,hv⟩:=h k<|Qqj ..;obtain⟨t,et,ht⟩:=ahj x hx _ hv;obtain⟨ps,e1,e2,e3⟩:=Km hx ks λk hk=>h k<|Qqk _ hk;refine⟨(c,t)::ps,?_,by rw[Qqy,Qqy,e2],λp hp=>?_⟩;unfold prs at e1 ⊢;rw[Qq8,e1,e];have et':v=.str t:=et;rw[et'];rfl;rcases Qq4.mp hp with rfl|hp;exact⟨Lr hv,ht⟩;exact e3 p hp
structure mG(x:List Nat)(w ch l r:D):Prop where
 way:w=.str [111,110,99,101]\/w=.str [97,108,111,110,103]
 chg:Ik x ch
 left:l∈SG x
 right:r∈SG x
def fit(l:D)(a:Nat):Bool:=fM.isT (kW [l,.str [a]])
theorem Ox(a):∀z:List Nat,W0 (.str [a]) (z.map λc=>.str [c])=some (z.contains a)
 |[]=>rfl
 |c::z=>by
  rw[Qq8];unfold W0;rw[Ox a z];show some (([c] == [a])||z.contains a)=_;rw[List.contains_cons];congr 2;by_cases h:a=c;subst h;simp;rw[Qdk h,Qdk λq=>h (Qjv q).1.symm]
def eF:∀x∈XS,∀l∈SG x,∀a∈35::x,kW [l,.str [a]]=some (.bl (fit l a)):=by
 intro x hx l hl a ha;have h:∃b,kW [l,.str [a]]=some (.bl b):=by
  rcases Qq4.mp hl with rfl|hl;exact⟨true,rfl⟩;obtain⟨d,_,rfl⟩:=Qwq.mp hl;unfold fM.sgR;generalize(((List.range<|x.length+1).filter<|fM.bit d).map λk=>(35::x).getD k 0)=z;refine⟨z.contains a,cL (env:=[Zf (.tup<|z.map λc=>.str [c]),Zs [a]])<|bT ?_⟩;have e:aq gIn 1 (aU 0) [Zf (.tup<|z.map λc=>.str [c]),Zs [a]]=.ok (.bl<|z.contains a) [Zf (.tup<|z.map λc=>.str [c]),Zs [a]]:=by
   refine aO rfl rfl rfl ?_;show(Option.map D.bl<|W0 (.str [a])<|z.map λc=>.str [c]).or _=_;rw[Ox];rfl
  exact(aar rfl).trans e
 obtain⟨b,e⟩:=h;unfold fit;rw[e];cases b<;>rfl
open fM (SG cD)
def iQ(h:a.length+b.length<=100000):cU (.str a) (.str b)=some (.str (a++b)):=by show(if a.length+b.length<=sizeLine then _ else _)=_;rw[Qv4 (Qq1 h (by decide))]
def gW(h1:a env=.ok p env)(h2:b env=.ok q env):di a b env=.ok (p&&q) env:=by
 unfold di;rw[h1];cases p with
 |true=>exact h2|false=>rfl
def aiX{zs:List (List Nat)}(h1:zs.length<=80000)(h2:∀z∈zs,z.length<=2):pB (.str []) (.lst (zs.map .str))=some (.str zs.flatten):=by
 have hf:joinFits [] zs=true:=by refine Qw0 ?_;have:=dM.vh h2;show _+zs.length*0<=_;omega
 show(match j6 (zs.map D.str) with|some xs=>if joinFits [] xs=true then some (D.str<|zb [] xs) else none|none=>none)=_;rw[dM.mL];show(if joinFits [] zs=true then _ else _)=_;rw[Qv4 hf,dM.wu]
def ac6{all done rest:List D}(h:all=done++d::rest):all[done.length]?=some d:=by rw[h];simp
def getD_get{z:List Nat}(h:n<z.length):z[n]?=some (z.getD n 0):=by rw[Qq6,Qq7 h];rfl
def Ou{n:Nat}(h:n<z.length):bQ (.str z) (.int n)=some (.str [z.getD n 0]):=by
 show(uN z n).map _=_;rw[je (getD_get h)]
 rfl
def aaB{α:Type}(xs:List α):cutD xs none (some (-1))=xs.dropLast:=by
 unfold cutD;have e1:HT.iB xs.length xs.length (some<|-1)=((-1)+(xs.length:Int)).toNat:=rfl;have e2:HT.iB xs.length 0 none=0:=rfl;rw[e1,e2,Q1k,List.dropLast_eq_take]
 congr 1
 omega
def Ws(xs):xY xs none (some (-1))=xs.dropLast:=aaB xs
abbrev ed(w:List Nat):List Nat:=35::(w++[35])
abbrev sg(w:List Nat)(n:Nat):Nat:=(ed w).getD n 0
section
variable{x w:List Nat}{l r:D}
theorem vP:(ed w).length=w.length+2:=by simp
theorem J4(hw:∀c∈w,c∈x)(h:n<w.length+2):sg w n∈35::x:=by
 have h1:n<(ed w).length:=by rw[vP];exact h
 have:sg w n∈ed w:=Qwk<|getD_get h1;rcases Qq4.mp this with e|e;rw[e];exact Qqj ..;rcases Qww.mp e with e|e;exact Qqk _<|hw _ e;rw[Qqw.mp e];exact Qqj ..
def pc(l r:D)(c:Nat)(w:List Nat)(n:Nat):List (List Nat):=if (fit l (sg w n)&&fit r (sg w (n+1)))=true then [[c]] else []
def pin(l r:D)(c:Nat)(w:List Nat):Nat->List (List Nat)
 |0=>[]|n+1=>pin l r c w n++(pc l r c w n++[[sg w (n+1)]])
theorem Y6(c)(n):(pc l r c w n).length<=1/\∀z∈pc l r c w n,z.length=1:=by
 unfold pc;split;exact⟨Qq0 _,λz hz=>by rw[Qqw.mp hz];rfl⟩;exact⟨Qxz _,λz hz=>by simp at hz⟩
theorem Rk(c):∀n,(pin l r c w n).length<=2*n/\∀z∈pin l r c w n,z.length=1
 |0=>⟨Qq0 _,λz hz=>by simp[pin] at hz⟩
 |n+1=>by
  obtain⟨h1,h2⟩:=Rk c n;obtain⟨h3,h4⟩:=Y6 (l:=l) (r:=r) (w:=w) c n;unfold pin;refine⟨by rw[Qqv,Qqv,Qwj];omega,λz hz=>?_⟩;rcases Qww.mp hz with hz|hz;exact h2 z hz;rcases Qww.mp hz with hz|hz;exact h4 z hz;rw[Qqw.mp hz];rfl
theorem aao{zs:List (List Nat)}(h:∀z∈zs,z.length=1):zs.flatten.length=zs.length:=by
 induction zs with
 |nil=>rfl|cons z t ih=>rw[Qgz,Qqv,h z<|Qqj ..,ih λy hy=>h y<|Qqk _ hy,Qqy];omega
def inn(l r:D)(c:Nat)(w:List Nat):List Nat:=(pin l r c w w.length++pc l r c w w.length).flatten
theorem YJ(c):(pin l r c w (w.length+1)).flatten.dropLast=inn l r c w:=by show(pin l r c w w.length++(pc l r c w w.length++[[sg w (w.length+1)]])).flatten.dropLast=(pin l r c w w.length++pc l r c w w.length).flatten;rw[<-Qxx,Qx4];exact List.dropLast_concat
variable(hx:x∈XS)(hl:l∈SG x)(hr:r∈SG x)(hw:∀c∈w,c∈x)(hn:w.length<=30000)
include hx hl hr
include hw hn
end
section
variable{x w:List Nat}{l r:D}
theorem ahV(h:j<100000):vG [.int 1,.int (j+1:Nat)]=some (fZ 1 1 j):=by
 have hf:lQ ((j+1))=true:=by unfold lQ;rw[Qjx];exact⟨Qw0 (by omega),Qw0 (by omega)⟩
 have e:(((j+1:Nat):Int) - 1).toNat=j:=by omega
 unfold vG;simp only;rw[Qv4 ⟨by decide,hf⟩,e]
theorem step_at{done rest:List D}(h:fZ 1 1 j=done++d::rest):d = .int (done.length+1:Nat)/\done.length<j:=by
 obtain⟨h1,h2⟩:=xn<|ac6 h;refine⟨?_,h1⟩;rw[h2]
 congr 1
 omega
def ZP:cu:=aC (dH (di (cR (au bW (aa (aq bQ 0 (Zi 2)) (aa (aq bQ 2 (aq uX 4 (Zi 1))) aj)))) (cR (au bW (aa (aq bQ 0 (Zi 3)) (aa (aq bQ 2 (aU 4)) aj))))) (aQ (aq cU 3 (aN bQ (aN bQ (aq bQ 0 (Zi 1)) (Zi 0)) (Zi 1))) (ak 3)) bU) (aQ (aq cU 3 (aq bQ 2 (aU 4))) (ak 3))
theorem aeJ(n):uX (.int (n+1:Nat)) (.int 1)=some (.int n):=by
 show some (D.int<|(n+1) - 1)=_
 congr 2
 omega
variable(hx:x∈XS)(hl:l∈SG x)(hr:r∈SG x)(hw:∀c∈w,c∈x)(hn:w.length<=30000)
include hx hl hr hw hn
theorem acq(wy)(c n)(hnn:n<w.length+1)(f)(hf:f.length<=80000)(a1:OD) :
  ZP [Zf (.tup [wy,.tup [.tup [.str [],.str [c]]],l,r]),a1,Zs (ed w),Zs f,Zf (.int (n+1:Nat))] =
   .nx [Zf (.tup [wy,.tup [.tup [.str [],.str [c]]],l,r]),a1,Zs (ed w),Zs (f++((pc l r c w n).flatten++[sg w (n+1)])),Zf (.int (n+1:Nat))]:=by
 have hp:=Y6 (l:=l) (r:=r) (w:=w) c n;have hpf:(pc l r c w n).flatten.length<=1:=by rw[aao hp.2];exact hp.1
 have g2:∀f,aq bQ 2 (aU 4) [Zf (.tup [wy,.tup [.tup [.str [],.str [c]]],l,r]),a1,Zs<|ed w,Zs f,Zf<|.int<|n+1]=.ok (.str [sg w (n+1)]) [Zf (.tup [wy,.tup [.tup [.str [],.str [c]]],l,r]),a1,Zs<|ed w,Zs f,Zf<|.int<|n+1]:=λf=>
  aO rfl rfl rfl (Ou (z:=ed w) (n:=n+1) (by rw[vP];omega))
 have tl:∀f,f.length<=80001->aQ (aq cU 3<|aq bQ 2<|aU 4) (ak 3) [Zf (.tup [wy,.tup [.tup [.str [],.str [c]]],l,r]),a1,Zs<|ed w,Zs f,Zf<|.int<|n+1]=.nx [Zf (.tup [wy,.tup [.tup [.str [],.str [c]]],l,r]),a1,Zs<|ed w,Zs<|f++[sg w (n+1)],Zf<|.int<|n+1]:=λf hf=>
  bB (aO rfl (g2 f) rfl (iQ (by show f.length+1<=100000;omega))) rfl
 have t:di (cR<|au bW<|aa (aq bQ 0<|Zi 2)<|aa (aq bQ 2<|aq uX 4<|Zi 1) aj) (cR<|au bW<|aa (aq bQ 0<|Zi 3)<|aa (aq bQ 2<|aU 4) aj) [Zf (.tup [wy,.tup [.tup [.str [],.str [c]]],l,r]),a1,Zs<|ed w,Zs f,Zf<|.int<|n+1]=.ok (fit l (sg w n)&&fit r (sg w<|n+1)) [Zf (.tup [wy,.tup [.tup [.str [],.str [c]]],l,r]),a1,Zs<|ed w,Zs f,Zf<|.int<|n+1]:=by
  refine gW (cW<|aK ?_<|eF x hx l hl _<|J4 hw (by omega))<|cW<|aK ?_<|eF x hx r hr _<|J4 hw (by omega);refine aD rfl (aD ?_ aY);exact aO rfl (aO rfl rfl rfl (aeJ n)) rfl (Ou (z:=ed w) (n:=n) (by rw[vP];omega));exact aD rfl (aD (g2 f) aY)
 unfold ZP;unfold pc at hpf ⊢;cases hc:fit l (sg w n)&&fit r (sg w<|n+1) with
 |true=>rw[hc] at t;rw[Qv4 rfl];refine(aB (e:=[Zf (.tup [wy,.tup [.tup [.str [],.str [c]]],l,r]),a1,Zs<|ed w,Zs<|f++[c],Zf<|.int<|n+1]) ?_).trans ?_;exact(gq t).trans<|bB (aO rfl rfl rfl (iQ (by show f.length+1<=100000;omega))) rfl;rw[tl _ (by rw[Qqv,Qwj];omega),Qxx];rfl|false=>rw[hc] at t;rw[Qv5 Qw2];exact(aB<|(dw t).trans rfl).trans<|tl f (by omega)
theorem RB(wy)(c):lz [.tup [wy,.tup [.tup [.str [],.str [c]]],l,r],.str w]=some (.str (inn l r c w)):=by
 obtain⟨e',f1,hd,a9,rfl⟩:=jV (g:=ak 4) (fZ 1 1<|w.length+1)
  (λdone env=>done.length<=w.length+1/\∃a9,env=[Zf (.tup [wy,.tup [.tup [.str [],.str [c]]],l,r]),Zs w,Zs<|ed w,Zs<|(pin l r c w done.length).flatten,a9])
  (λdone s rest hall env ⟨hd,a9,he⟩=>by
   subst he;obtain⟨rfl,hdl⟩:=step_at hall;have hp:=Rk (l:=l) (r:=r) (w:=w) c done.length;have hpf:=aao hp.2;refine⟨_,_,rfl,acq hx hl hr hw hn wy c done.length hdl _ (by rw[hpf];omega) _,by rw[Qqv,Qwj];omega,Zf<|.int<|done.length+1,?_⟩;rw[Qqv,Qwj];show _=[_,_,_,Zs<|(pin l r c w done.length++(pc l r c w done.length++[[sg w (done.length+1)]])).flatten,_];rw[Qx4,Qx4]
   rfl)
  [Zf (.tup [wy,.tup [.tup [.str [],.str [c]]],l,r]),Zs w,Zs<|ed w,Zs [],Zn] ⟨Qxz _,Zn,rfl⟩
 rw[jy] at f1;refine cL (env:=[Zf (.tup [wy,.tup [.tup [.str [],.str [c]]],l,r]),Zs w,Zs<|ed w,Zs<|(pin l r c w<|w.length+1).flatten,a9]) ?_;unfold jD;refine(aB (e:=[Zf (.tup [wy,.tup [.tup [.str [],.str [c]]],l,r]),Zs w,Zs<|ed w,Zn,Zn]) ?_).trans ?_;refine bB (e:=[Zf (.tup [wy,.tup [.tup [.str [],.str [c]]],l,r]),Zs w,Zn,Zn,Zn]) ?_ rfl;refine bj (x:=.str<|[35]++w) ?_ rfl (iQ (by show w.length+1+1<=100000;omega));exact bj rfl rfl (iQ (by show 1+w.length<=100000;omega));refine(aB rfl).trans ?_;refine(aB<|(cZ ?_).trans f1).trans ?_;refine dM.tK ?_<|ahV (by omega);refine aD rfl (aD ?_ aY);refine aK rfl ?_;show some (D.int<|(ed w).length)=_;rw[vP];refine bT ?_;rw[<-YJ c,<-Ws];rfl
end
def ye(x:List Nat)(kvs:List (D×D)):Prop:=∀k v,(k,v)∈kvs->∃t:List Nat,v=.str t/\t.length<=1/\∀c∈t,c∈x
def ye.put(h:ye x kvs)(k)(q)(t)(h1:t.length<=1)(h2:∀c∈t,c∈x):ye x (putD kvs k q (.str t)):=by
 intro k' v hm;unfold putD at hm;split at hm;rcases fM.Em hm with hm|⟨_,rfl⟩;exact h k' v hm;exact⟨t,rfl,h1,h2⟩;rcases Qww.mp hm with hm|hm;exact h k' v hm;cases Qqw.mp hm;exact⟨t,rfl,h1,h2⟩
theorem ye.all:∀(ps:List Pr) kvs,ye x kvs->(∀p∈ps,p.1∈x/\p.2.length<=1/\∀c∈p.2,c∈x)->ye x (oX kvs (ps.map λp=>(.str [p.1],.str p.2)))
 |[],kvs,h,_=>h
 |p::ps,kvs,h,hp=>by
  have h1:=hp p<|Qqj ..;exact ye.all ps _ (h.put (.str [p.1]) (.inr<|strOf [p.1]) p.2 h1.2.1 h1.2.2) λp hm=>hp p<|Qqk _ hm
theorem Jf:∀(ps:List Pr),ug (ps.map encC)=some (ps.map λp=>(.str [p.1],.str p.2))
 |[]=>rfl
 |p::ps=>by
  rw[Qq8];unfold ug;rw[Jf ps]
  rfl
def zG{ps:List Pr}(hp:∀p∈ps,p.1∈x/\p.2.length<=1/\∀c∈p.2,c∈x):∃kvs,tu [.tup (ps.map encC)]=some (.dct kvs)/\ye x kvs:=by
 refine⟨oX []<|ps.map λp=>(.str [p.1],.str p.2),?_,ye.all ps [] (λk v h=>by simp at h) hp⟩;show(ug<|ps.map encC).map _=_;rw[Jf]
 rfl
def look(kvs:List (D×D))(s:Nat):Option (List Nat):=match mZ kvs (.inr (strOf [s])) with
 |some (.str t)=>some t|_=>none
def wg(h:ye x kvs)(s):su (.str [s]) (.dct kvs)=some (.bl (look kvs s).isSome):=by
 show some (D.bl (mZ kvs<|.inr<|strOf [s]).isSome)=_;unfold look;cases e:mZ kvs (.inr<|strOf [s]) with
 |none=>rfl
 |some v=>
  obtain⟨k,hk,_⟩:=fM.pY e;obtain⟨t,rfl,_⟩:=h k v hk
  rfl
def jK(h:ye x kvs)(hs:look kvs s=some t):jL (.dct kvs) (.str [s])=some (.str t)/\t.length<=1/\∀c∈t,c∈x:=by
 unfold look at hs;split at hs;rename_i u e;cases hs;obtain⟨k,hk,_⟩:=fM.pY e;obtain⟨t',h1,h2⟩:=h k _ hk;cases h1;exact⟨e,h2⟩;cases hs
section
variable{x w:List Nat}{l r:D}{kvs:List (D×D)}
def nw(kvs:List (D×D))(l r:D)(w:List Nat)(near n:Nat):List Nat:=if ((look kvs (sg w (n+1))).isSome&&(fit l near&&fit r (sg w (n+2))))=true then (look kvs (sg w (n+1))).getD [] else [sg w (n+1)]
def ik(al:Bool)(w:List Nat)(made:List (List Nat))(n:Nat):Nat:=if al=true then (35::made.flatten).getLastD 0 else sg w n
def cg(al:Bool)(kvs:List (D×D))(l r:D)(w:List Nat):Nat->List (List Nat)
 |0=>[]|n+1=>cg al kvs l r w n++[nw kvs l r w (ik al w (cg al kvs l r w n) n) n]
theorem Xv(hw:∀c∈w,c∈x)(h:n<w.length):sg w (n+1)=w.getD n 0/\sg w (n+1)∈x:=by
 have e:sg w (n+1)=w.getD n 0:=by show(w++[35]).getD n 0=_;rw[Qq6,Qq6,Qxj h]
 exact⟨e,by rw[e];exact hw _<|Qwk<|getD_get h⟩
theorem Zo(hk:ye x kvs)(hw:∀c∈w,c∈x)(h:n<w.length)(near):(nw kvs l r w near n).length<=1/\∀c∈nw kvs l r w near n,c∈x:=by
 unfold nw;split;cases e:look kvs (sg w<|n+1) with
 |none=>exact⟨Qxz _,λc hc=>by simp at hc⟩|some t=>exact(jK hk e).2
 exact⟨Qq0 _,λc hc=>by rw[Qqw.mp hc];exact(Xv hw h).2⟩
theorem Uw(al)(hk:ye x kvs)(hw:∀c∈w,c∈x):∀n,n<=w.length->(cg al kvs l r w n).length=n/\∀z∈cg al kvs l r w n,z.length<=1/\∀c∈z,c∈x
 |0,_=>⟨rfl,λz hz=>by simp[cg] at hz⟩
 |n+1,h=>by
  obtain⟨h1,h2⟩:=Uw al hk hw n (by omega);unfold cg;refine⟨by rw[Qqv,Qwj,h1],λz hz=>?_⟩;rcases Qww.mp hz with hz|hz;exact h2 z hz;rw[Qqw.mp hz];exact Zo hk hw (by omega) _
theorem Ux(al)(hk:ye x kvs)(hw:∀c∈w,c∈x)(h:n<=w.length):(cg al kvs l r w n).flatten.length<=n:=by obtain⟨h1,h2⟩:=Uw (l:=l) (r:=r) al hk hw n h;rw[Q1w];have:=dM.vh λz hz=>(h2 z hz).1;omega
theorem Om:∀a z,(a::z).getLastD 0∈a::z
 |a,[]=>Qqj ..|a,b::z=>Qqk _<|Om b z
theorem Zy(al)(hk:ye x kvs)(hw:∀c∈w,c∈x)(h:n<=w.length):ik al w (cg al kvs l r w n) n∈35::x:=by
 unfold ik;split;rcases Qq4.mp (Om 35 (cg al kvs l r w n).flatten) with e|e;rw[e];exact Qqj ..;obtain⟨z,hz,hc⟩:=Qg9.mp e;exact Qqk _<|((Uw al hk hw n h).2 z hz).2 _ hc;exact J4 hw (by omega)
theorem ale(n:Nat):cU (.int n) (.int 1)=some (.int (n+1:Nat)):=rfl
theorem acA(a)(z):bQ (.str (a::z)) (.int (-1))=some (.str [(a::z).getLastD 0]):=by
 have e:uN (a::z) (-1)=some ((a::z).getLastD 0):=by
  unfold uN ixN;rw[Qv5 (by decide),Qv4 (by rw[Qqy];omega)];show(a::z)[((-1)+((a::z).length:Int)).toNat]?=_;have e1:((-1)+((a::z).length:Int)).toNat=(a::z).length - 1:=by rw[Qqy];omega
  rw[e1,<-List.getLast?_eq_getElem?]
  rfl
 show(uN (a::z)<|-1).map _=_;rw[e]
 rfl
theorem aaA(a)(z):xY (a::z) (some 1) none=z:=by
 unfold xY;have e1:HT.iB (a::z).length (a::z).length none=z.length+1:=rfl;have e2:HT.iB (a::z).length 0 (some 1)=1:=by show min 1 (z.length+1)=1;omega
 rw[e1,e2];show z.take (z.length+1 - 1)=z;exact Qz8 (by omega)
theorem Rw(made)(t)(n)(h:t.length<=1):ik true w (made++[t]) (n+1)=if t=[] then ik true w made n else t.headD 0:=by
 unfold ik;rw[Qv4 rfl,Qv4 rfl]
 match t,h with
 |[],_=>rw[Qv4 rfl];simp
 |[a],_=>
  rw[Qv5 (by simp)];rw[Qx4];have:∀b z,(b::(z++[a])).getLastD 0=a:=by
   intro b z
   induction z generalizing b with
   |nil=>rfl|cons c z ih=>exact ih c
  exact this 35 _
def iH(al:Bool):D:=if al=true then .str [97,108,111,110,103] else .str [111,110,99,101]
variable(hx:x∈XS)(hl:l∈SG x)(hr:r∈SG x)(hw:∀c∈w,c∈x)(hn:w.length<=30000)(hk:ye x kvs)
include hx hl hr hw hn hk
def out(al:Bool)(kvs:List (D×D))(l r:D)(w:List Nat):List Nat:=(cg al kvs l r w w.length).flatten
theorem aft(al):(∀c∈out al kvs l r w,c∈x)/\(out al kvs l r w).length<=2*w.length+1:=by
 unfold out;refine⟨λc hc=>?_,?_⟩;obtain⟨z,hz,hcz⟩:=Qg9.mp hc;exact((Uw al hk hw w.length<|Qq0 _).2 z hz).2 c hcz;have:=Ux (l:=l) (r:=r) al hk hw<|Qq0 _;omega
end
section
variable{x w:List Nat}{l r:D}
theorem adR(hc:c∈x)(n):∀z∈pc l r c w n,∀d∈z,d∈x:=by
 unfold pc;split;intro z hz d hd;rw[Qqw.mp hz] at hd;rw[Qqw.mp hd];exact hc;intro z hz;simp at hz
theorem YH(hc:c∈x)(hw:∀c∈w,c∈x):∀n,n<=w.length->∀z∈pin l r c w n,∀d∈z,d∈x
 |0,_=>λz hz=>by simp[pin] at hz
 |n+1,h=>by
  intro z hz d hd;unfold pin at hz;rcases Qww.mp hz with hz|hz;exact YH hc hw n (by omega) z hz d hd;rcases Qww.mp hz with hz|hz;exact adR hc n z hz d hd;rw[Qqw.mp hz] at hd;rw[Qqw.mp hd];exact(Xv hw (by omega)).2
theorem agn(hc:c∈x)(hw:∀c∈w,c∈x):(∀d∈inn l r c w,d∈x)/\(inn l r c w).length<=2*w.length+1:=by
 unfold inn;refine⟨λd hd=>?_,?_⟩;obtain⟨z,hz,hdz⟩:=Qg9.mp hd;rcases Qww.mp hz with hz|hz;exact YH hc hw w.length (Qq0 _) z hz d hdz;exact adR hc _ z hz d hdz;have h1:=Rk (l:=l) (r:=r) (w:=w) c w.length;have h2:=Y6 (l:=l) (r:=r) (w:=w) c w.length;rw[aao λz hz=>(Qww.mp hz).elim (h1.2 z)<|h2.2 z,Qqv];omega
end
section
variable{x w:List Nat}{l r:D}{kvs:List (D×D)}
def ZV:cu:=aC (aQ (aq bQ 7 (aq uX 9 (Zi 1))) (ak 10)) (aC (dH (cR (aq lV 2 (Zw [97,108,111,110,103]))) (aQ (aq bQ 8 (kh CZ (Zi 1))) (ak 10)) bU) (dH (di (cR (aN su (aq bQ 7 (aU 9)) (aU 6))) (di (cR (au bW (Zv 4 (Zv 10 aj)))) (cR (au bW (Zv 5 (aa (aq bQ 7 (aq cU 9 (Zi 1))) aj)))))) (aQ (aq cU 8 (aq jL 6 (aq bQ 7 (aU 9)))) (ak 8)) (aQ (aq cU 8 (aq bQ 7 (aU 9))) (ak 8))))
variable(hx:x∈XS)(hl:l∈SG x)(hr:r∈SG x)(hw:∀c∈w,c∈x)(hn:w.length<=30000)(hk:ye x kvs)
include hx hl hr hw hn hk
theorem acu(al)(n)(hnn:n<w.length)(a0 a1 a3 a10:OD) :
  ∃b10,ZV [a0,a1,Zf (iH al),a3,Zf l,Zf r,Zf (.dct kvs),Zs (ed w),Zs (35::(cg al kvs l r w n).flatten),Zf (.int (n+1:Nat)),a10] =
   .nx [a0,a1,Zf (iH al),a3,Zf l,Zf r,Zf (.dct kvs),Zs (ed w),Zs (35::(cg al kvs l r w (n+1)).flatten),Zf (.int (n+1:Nat)),b10]:=by
 have hcl:=Ux (l:=l) (r:=r) al hk hw (n:=n) (by omega);have hnm:=Zy (l:=l) (r:=r) al hk hw (n:=n) (by omega);have hno:=Zo (l:=l) (r:=r) hk hw hnn<|ik al w (cg al kvs l r w n) n;have hcg:cg al kvs l r w (n+1)=cg al kvs l r w n++[nw kvs l r w (ik al w (cg al kvs l r w n) n) n]:=rfl;have h2m:sg w (n+2)∈35::x:=J4 hw (by omega);rw[hcg,Qx4];generalize hM:cg al kvs l r w n=made at *;have hnr:ik al w made n=if al=true then (35::made.flatten).getLastD 0 else sg w n:=rfl
 generalize hN:ik al w made n=near at *;have hnw:nw kvs l r w near n=if ((look kvs<|sg w<|n+1).isSome&&(fit l near&&fit r (sg w<|n+2)))=true then (look kvs<|sg w<|n+1).getD [] else [sg w (n+1)]:=rfl
 generalize hT:nw kvs l r w near n=t at *;generalize hF:made.flatten=f at *;refine⟨Zs [near],?_⟩;unfold ZV;refine(aB (e:=[a0,a1,Zf<|iH al,a3,Zf l,Zf r,Zf<|.dct kvs,Zs<|ed w,Zs (35::f),Zf<|.int ((n+1:Nat):Int),Zs [sg w n]]) ?_).trans ?_
 ·exact bB (aO rfl (aO rfl rfl rfl (aeJ n)) rfl (Ou (z:=ed w) (n:=n) (by rw[vP];omega))) rfl
 refine(aB (e:=[a0,a1,Zf<|iH al,a3,Zf l,Zf r,Zf<|.dct kvs,Zs<|ed w,Zs (35::f),Zf<|.int ((n+1:Nat):Int),Zs [near]]) ?_).trans ?_
 ·cases al with
  | false=>
   rw[Qv5 Qw2] at hnr;rw[hnr];exact(dw (e:=_) rfl).trans rfl
  | true=>
   rw[Qv4 rfl] at hnr;rw[hnr];exact(gq (e:=_) rfl).trans<|bB (aO rfl rfl rfl (acA 35 f)) rfl
 have g1:aq bQ 7 (aU 9) [a0,a1,Zf<|iH al,a3,Zf l,Zf r,Zf<|.dct kvs,Zs<|ed w,Zs (35::f),Zf<|.int ((n+1:Nat):Int),Zs [near]] = .ok (.str [sg w (n+1)]) [a0,a1,Zf<|iH al,a3,Zf l,Zf r,Zf<|.dct kvs,Zs<|ed w,Zs (35::f),Zf<|.int ((n+1:Nat):Int),Zs [near]]:=
  aO rfl rfl rfl (Ou (z:=ed w) (n:=n+1) (by rw[vP];omega))
 have tt:di (cR<|aN su (aq bQ 7<|aU 9)<|aU 6) (di (cR<|au bW<|Zv 4<|Zv 10 aj)<|cR<|au bW<|Zv 5<|aa (aq bQ 7<|aq cU 9<|Zi 1) aj) [a0,a1,Zf<|iH al,a3,Zf l,Zf r,Zf<|.dct kvs,Zs<|ed w,Zs (35::f),Zf<|.int ((n+1:Nat):Int),Zs [near]] = .ok ((look kvs<|sg w<|n+1).isSome&&(fit l near&&fit r (sg w<|n+2))) [a0,a1,Zf<|iH al,a3,Zf l,Zf r,Zf<|.dct kvs,Zs<|ed w,Zs (35::f),Zf<|.int ((n+1:Nat):Int),Zs [near]]:=by refine gW (cW<|bj g1 rfl (wg hk _))<|gW (cW<|aK rfl (eF x hx l hl _ hnm))<|cW<|aK ?_<|eF x hx r hr _ h2m;refine aD (d:=r) rfl (aD ?_ aY);exact aO rfl (aO rfl rfl rfl (ale<|n+1)) rfl (Ou (z:=ed w) (n:=n+2) (by rw[vP];omega))
 have hfl:(35::f).length+t.length<=100000:=by rw[Qqy];have:=hno.1;omega
 cases hc:(look kvs<|sg w<|n+1).isSome&&(fit l near&&fit r (sg w<|n+2)) with
 | true=>
  rw[hc] at tt hnw;rw[Qv4 rfl] at hnw;obtain⟨u,hu⟩:=Qz1.mp (Qkx.mp hc).1;rw[hu] at hnw;have hnw':t=u:=hnw;have hfu:[t].flatten=u:=by rw[hnw'];simp
  rw[hfu];rw[hnw'] at hfl;exact(gq tt).trans<|bB (aO rfl (aO rfl g1 rfl (jK hk hu).1) rfl (iQ hfl)) rfl
 | false=>
  rw[hc] at tt hnw;rw[Qv5 Qw2] at hnw;have hfu:[t].flatten=[sg w (n+1)]:=by rw[hnw];rfl
  rw[hfu];rw[hnw] at hfl;exact(dw tt).trans<|bB (aO rfl g1 rfl (iQ hfl)) rfl
theorem wR(al)(ps:List Pr)(hps:0<ps.length)(hd:tu [.tup (ps.map encC)]=some (.dct kvs)):dD [.tup [iH al,.tup (ps.map encC),l,r],.str w]=some (.str (out al kvs l r w)):=by
 have t0:∀a0 a1 a2 a4 a5,cR (aN lV (aN bQ (aq bQ 3<|Zi 0)<|Zi 0)<|Zw []) [a0,a1,a2,Zf<|.tup<|ps.map encC,a4,a5,Zn,Zn,Zn,Zn,Zn] = .ok false [a0,a1,a2,Zf<|.tup<|ps.map encC,a4,a5,Zn,Zn,Zn,Zn,Zn]:=by
  intro a0 a1 a2 a4 a5
  match ps,hps with
  | p::ps,_=>
   refine cW<|bj (x:=.str [p.1]) ?_ rfl rfl;refine bj (x:=encC p) ?_ rfl rfl;exact aO rfl rfl rfl (je (j:=0) rfl)
 generalize hC:D.tup (ps.map encC)=ch at *;generalize hR:D.tup [iH al,ch,l,r]=R;obtain⟨e',f1,hdl,a9,a10,rfl⟩:=jV (g:=ak 9) (fZ 1 1 w.length)
  (λdone env=>done.length<=w.length/\∃a9 a10,env=[Zf R,Zs w,Zf<|iH al,Zf ch,Zf l,Zf r,Zf<|.dct kvs,Zs<|ed w,Zs (35::(cg al kvs l r w done.length).flatten),a9,a10])
  (λdone s rest hall env ⟨hdl,a9,a10,he⟩=>by
   subst he;obtain⟨rfl,hdl⟩:=step_at hall;obtain⟨b10,hb⟩:=acu hx hl hr hw hn hk al done.length hdl (Zf R) (Zs w) (Zf ch) a10;refine⟨_,_,rfl,hb,by rw[Qqv,Qwj];omega,Zf<|.int ((done.length+1:Nat):Int),b10,?_⟩;rw[Qqv,Qwj])
  [Zf R,Zs w,Zf<|iH al,Zf ch,Zf l,Zf r,Zf<|.dct kvs,Zs<|ed w,Zs [35],Zn,Zn] ⟨Qxz _,Zn,Zn,rfl⟩
 rw[jy] at f1;refine cL (env:=[Zf R,Zs w,Zf<|iH al,Zf ch,Zf l,Zf r,Zf<|.dct kvs,Zs<|ed w,Zs (35::(cg al kvs l r w w.length).flatten),a9,a10]) ?_;unfold gM;refine(aB (e:=[Zf R,Zs w,Zf<|iH al,Zf ch,Zf l,Zf r,Zn,Zn,Zn,Zn,Zn]) (by rw[<-hR];rfl)).trans ?_;refine(aB<|(dw<|t0 _ _ _ _ _).trans rfl).trans ?_
 let E0:Ev.Env:=[Zf R,Zs w,Zf<|iH al,Zf ch,Zf l,Zf r,Zf<|.dct kvs,Zn,Zn,Zn,Zn]
 refine(aB (e:=E0) ?_).trans ?_
 ·exact bB (aK rfl hd) rfl
 refine(aB (e:=[Zf R,Zs w,Zf<|iH al,Zf ch,Zf l,Zf r,Zf<|.dct kvs,Zs<|ed w,Zn,Zn,Zn]) ?_).trans ?_
 ·refine bB (e:=E0) ?_ rfl;refine bj (x:=.str<|[35]++w) ?_ rfl (iQ (by show w.length+1+1<=100000;omega));exact bj rfl rfl (iQ (by show 1+w.length<=100000;omega))
 refine(aB rfl).trans ?_;refine(aB<|(cZ ?_).trans f1).trans ?_
 ·refine dM.tK ?_<|ahV (by omega);refine aD rfl (aD ?_ aY);refine bj ?_ rfl (aeJ _);refine aK rfl ?_;show some (D.int ((ed w).length:Int))=_;rw[vP]
 ·refine bT ?_;unfold out;generalize(cg al kvs l r w w.length).flatten=z;have e1:∀(env:Ev.Env),env[8]? = some (Zs (35::z))->Gs (aM 8) (Bo<|Zi 1) pU env = .ok (.str<|xY (35::z) (some 1) none) env:=λenv h=>by
   have hv:aM 8 env = .ok (.str (35::z)) env:=by unfold aM;rw[h]
   unfold Gs;rw[hv]
   rfl
  rw[aaA] at e1;exact e1 _ rfl
end
def ahB(h:w=.str [111,110,99,101]\/w=.str [97,108,111,110,103]):∃al,w=iH al:=by
 rcases h with rfl|rfl;exact⟨false,rfl⟩;exact⟨true,rfl⟩
def sides:List D:=[.str [108,101,102,116],.str [114,105,103,104,116]]
def wQ(hx:x∈XS)(hl:l∈SG x)(hr:r∈SG x)(hw:∀c∈w,c∈x)(hn:w.length<=30000)(wy)(c):dD [.tup [wy,.tup [.tup [.str [],.str [c]]],l,r],.str w]=some (.str (inn l r c w)):=by refine cL (env:=[Zf (.tup [wy,.tup [.tup [.str [],.str [c]]],l,r]),Zs w,Zf wy,Zf<|.tup [.tup [.str [],.str [c]]],Zf l,Zf r,Zn,Zn,Zn,Zn,Zn]) ?_;unfold gM;refine(aB rfl).trans ?_;refine km ?_;refine(gq rfl).trans ?_;exact bT<|aK rfl (RB hx hl hr hw hn _ c)
def Gm(hx:x∈XS)(h:mG x wy ch l r)(hw:∀c∈w,c∈x)(hn:w.length<=30000):∃o,dD [.tup [wy,ch,l,r],.str w]=some (.str o)/\(∀c∈o,c∈x)/\o.length<=2*w.length+1:=by
 obtain⟨al,rfl⟩:=ahB h.way;cases h.chg with
 |put hc=>exact⟨inn l r _ w,wQ hx h.left h.right hw hn _ _,agn hc hw⟩|chg h0 h4 hp=>obtain⟨kvs,hd,hk⟩:=zG hp;exact⟨out al kvs l r w,wR hx h.left h.right hw hn hk al _ h0 hd,aft hx h.left h.right hw hn hk al⟩
def Xu{R:D}(h:dD [R,.str w]=some (.str o)):eO [.str [108,101,102,116],R,.str w]=some (.str o):=by refine cL (env:=[Zs [108,101,102,116],Zf R,Zs w]) ?_;unfold gO;refine(aB<|(dw (by rfl)).trans rfl).trans ?_;exact bT<|aK rfl h
def Xr{R Q:D}(ht:fX [R]=some Q)(h:dD [Q,.str w.reverse]=some (.str o)):eO [.str [114,105,103,104,116],R,.str w]=some (.str o.reverse):=by
 have rev:∀{a} {env} {o},a env=.ok (.str o) env->pD a env=.ok (.str o.reverse) env:=λ{a env o} e=>by unfold pD;rw[e];rfl
 refine cL (env:=[Zs [114,105,103,104,116],Zf R,Zs w]) ?_;unfold gO;refine km<|(gq rfl).trans<|bT<|rev ?_;exact aK (aD (aK rfl ht)<|aD (rev rfl) aY) h
def aaG(hx:x∈XS)(h:mG x wy ch l r)(hw:∀c∈w,c∈x)(hn:w.length<=30000):∀s∈sides,∃o,eO [s,.tup [wy,ch,l,r],.str w]=some (.str o)/\(∀c∈o,c∈x)/\o.length<=2*w.length+1:=by
 intro s hs;rcases Qq4.mp hs with rfl|hs;obtain⟨o,h2,h3⟩:=Gm hx h hw hn;exact⟨o,Xu h2,h3⟩;rw[Qqw.mp hs];obtain⟨o,h2,h3,h4⟩:=Gm hx ⟨h.way,h.chg,h.right,h.left⟩ (λc hc=>hw c<|Qvz.mp hc) (by rw[Qky];exact hn);exact⟨o.reverse,Xr rfl h2,λc hc=>h3 c<|Qvz.mp hc,by rw[Qky] at h4 ⊢;exact h4⟩
end nZ
namespace zV
open Ev
def qI:cu:=lD.oV
def bW:LD:=cQ 2 qI
def jD:cu:=nZ.jD
def lz:LD:=cQ 5 jD
def gM:cu:=nZ.gM
def dD:LD:=cQ 11 gM
def fY:cu:=lD.fY
def fX:LD:=cQ 1 fY
def gO:cu:=nZ.gO
def eO:LD:=cQ 3 gO
def uF:cu:=aC (cT 2 (cB (Zv 1 aj))) (aC (dF (dO (aq bQ 0 (Zi 1))) (ak 3) (dZ 2 (au eO (aa (aq bQ 0 (Zi 0)) (Zv 3 (aa (aq bQ 2 (kh CZ (Zi 1))) aj)))))) (bw (au cO (aa (aU 2) aj))))
def qD:LD:=cQ 4 uF
open Ev PySem L2
open fM (cD)
open nZ (XS sides mG iQ)
def cI(x:List Nat)(R:D):Prop:=∃wy ch l r,R=.tup [wy,ch,l,r]/\mG x wy ch l r
def cF(s R:D)(w:List Nat):List Nat:=match nZ.eO [s,R,.str w] with
 |some (.str o)=>o|_=>[]
section
variable{x:List Nat}{s:D}
theorem agW(hx:x∈XS)(hs:s∈sides){R:D}(hR:cI x R)(hw:∀c∈w,c∈x)(hn:w.length<=30000) :
  eO [s,R,.str w]=some (.str (cF s R w))/\(∀c∈cF s R w,c∈x)/\(cF s R w).length<=2*w.length+1:=by
 obtain⟨wy,ch,l,r,rfl,h⟩:=hR;obtain⟨o,h1,h3⟩:=nZ.aaG hx h hw hn s hs;have e:cF s (.tup [wy,ch,l,r]) w=o:=by unfold cF;rw[h1]
 rw[e];exact⟨h1,h3⟩
def fin(s:D)(Rs:List D)(w:List Nat):List Nat:=Rs.foldl (λv R=>cF s R v) w
def Eb(s:D):List Nat->List D->List (List Nat)
 |w,[]=>[w]|w,R::Rs=>w::Eb s (cF s R w) Rs
theorem Mf:∀Rs w R,Eb s w (Rs++[R])=Eb s w Rs++[cF s R (fin s Rs w)]
 |[],w,R=>rfl
 |Q::Rs,w,R=>by
  show w::Eb s (cF s Q w) (Rs++[R])=w::Eb s (cF s Q w) Rs++[cF s R (fin s Rs<|cF s Q w)];rw[Mf Rs]
  rfl
theorem Ea:∀Rs w,∃pre,Eb s w Rs=pre++[fin s Rs w]
 |[],w=>⟨[],rfl⟩
 |R::Rs,w=>by
  obtain⟨pre,e⟩:=Ea Rs<|cF s R w;refine⟨w::pre,?_⟩;show w::Eb s (cF s R w) Rs=_;rw[e]
  rfl
theorem Sv:∀Rs w,(Eb s w Rs).length=Rs.length+1
 |[],w=>rfl|R::Rs,w=>by show(w::Eb s (cF s R w) Rs).length=_;rw[Qqy,Sv Rs,Qqy]
theorem Bm(hx:x∈XS)(hs:s∈sides):∀Rs w,(∀R∈Rs,cI x R)->(∀c∈w,c∈x)->(w.length+1)*2^Rs.length<=301->(∀c∈fin s Rs w,c∈x)/\(fin s Rs w).length+1<=(w.length+1)*2^Rs.length
 |[],w,_,hw,hn=>⟨hw,by show w.length+1<=(w.length+1)*1;omega⟩
 |R::Rs,w,hR,hw,hn=>by
  have h2:(w.length+1)*2^(R::Rs).length=(2*w.length+1+1)*2^Rs.length:=by
   rw[Qqy,Qhx,<-Qh8,Qf1]
   congr 1
   omega
  have hp:1<=2^Rs.length:=Qf0;have hwl:w.length<=30000:=by have:2*w.length+1+1<=(2*w.length+1+1)*2^Rs.length:=Qb3 _ hp;omega
  obtain⟨_,h3,h4⟩:=agW hx hs (hR R<|Qqj ..) hw hwl;have h5:((cF s R w).length+1)*2^Rs.length<=(2*w.length+1+1)*2^Rs.length:=Qjw _ (by omega);obtain⟨h6,h7⟩:=Bm hx hs Rs (cF s R w) (λQ hQ=>hR Q<|Qqk _ hQ) h3 (by omega);refine⟨h6,?_⟩;show(fin s Rs<|cF s R w).length+1<=_;omega
theorem acM(hx:x∈XS)(hs:s∈sides)(Rs)(w)(hR:∀R∈Rs,cI x R)(hw:∀c∈w,c∈x)(hn:(w.length+1)*2^Rs.length<=301):(∀c∈fin s Rs w,c∈x)/\(fin s Rs w).length<=30000:=by obtain⟨h1,h2⟩:=Bm hx hs Rs w hR hw hn;exact⟨h1,by omega⟩
theorem afh{Rs done rest:List D}{R:D}(hall:Rs=done++R::rest)(hn:(n+1)*2^Rs.length<=301):(n+1)*2^done.length<=301:=by
 have hl:done.length<=Rs.length:=by rw[hall,Qqv];omega
 exact Qq1 (Qy4 _<|Qx8 (by decide) hl) hn
theorem G3{d:D}:uN (ds++[d]) (-1)=some d:=by
 unfold uN ixN;rw[Qv5 (by decide),Qv4 (by rw[Qqv,Qwj];omega)];show(ds++[d])[((-1)+((ds++[d]).length:Int)).toNat]?=_;have e1:((-1)+((ds++[d]).length:Int)).toNat=ds.length:=by rw[Qqv,Qwj];omega
 rw[e1];simp
theorem Z1(Rs)(w):bQ (.lst ((Eb s w Rs).map .str)) (.int (-1))=some (.str (fin s Rs w)):=by obtain⟨pre,e⟩:=Ea Rs w;rw[e,Qw7];exact G3
theorem Z0(Rs)(w):bQ (.tup ((Eb s w Rs).map .str)) (.int (-1))=some (.str (fin s Rs w)):=by obtain⟨pre,e⟩:=Ea Rs w;rw[e,Qw7];exact G3
def aga:cu:=dZ 2 (au eO (aa (aq bQ 0 (Zi 0)) (Zv 3 (aa (aq bQ 2 (kh CZ (Zi 1))) aj))))
variable(hx:x∈XS)(hs:s∈sides){Rs:List D}(hR:∀R∈Rs,cI x R)(h4:Rs.length<=10){w:List Nat}(hw:∀c∈w,c∈x)(hn:(w.length+1)*2^Rs.length<=301)
include hx hs hR h4 hw hn
theorem ZW:qD [.tup [s,.tup Rs],.str w]=some (.tup ((Eb s w Rs).map .str)):=by
 obtain⟨e',f1,hd,a5,rfl⟩:=jV (g:=ak 3) (b:=aga) Rs
  (λdone env=>done.length<=Rs.length/\∃a5,env=[Zf (.tup [s,.tup Rs]),Zs w,Zl<|(Eb s w done).map .str,a5])
  (λdone R rest hall env ⟨hd,a5,he⟩=>by
   subst he;have hm:=λQ hQ=>hR Q (by rw[hall];exact Qzy _ hQ);have hRm:=hR R (by rw[hall];exact Qxw _<|Qqj ..);obtain⟨q1,q2⟩:=acM hx hs done w hm hw<|afh hall hn;obtain⟨c1,_⟩:=agW hx hs hRm q1 q2;have hl:=Qx1 List.length hall;rw[Qqv,Qqy] at hl;refine⟨[Zf (.tup [s,.tup Rs]),Zs w,Zl<|(Eb s w done).map .str,Zf R],[Zf (.tup [s,.tup Rs]),Zs w,Zl<|(Eb s w<|done++[R]).map .str,Zf R],rfl,?_,by rw[Qqv,Qwj];omega,_,rfl⟩;rw[Mf,Qw7];refine(cD (e:=[Zf (.tup [s,.tup Rs]),Zs w,Zl<|(Eb s w done).map .str,Zf R]) (by rfl) ?_ (by rfl) (by rw[Qqx,Sv];exact Qw3 (show done.length+1<=11 by omega) (by decide))).trans rfl;refine aK (aD (by rfl)<|aD (by rfl)<|aD ?_ aY) c1;exact aO (by rfl) (by rfl) (by rfl)<|Z1 done w)
  [Zf (.tup [s,.tup Rs]),Zs w,Zl [.str w],Zn] ⟨Qxz _,Zn,rfl⟩
 refine cL (env:=[Zf (.tup [s,.tup Rs]),Zs w,Zl<|(Eb s w Rs).map .str,a5]) ?_;unfold uF;refine(aB (by rfl)).trans ?_;exact(aB<|(cZ (by rfl)).trans f1).trans rfl
end
def jn(h:okN 60 d=true):yf d d=some (.bl false):=by
 show(bO 60 d d).map _=_;rw[zB 60 d h]
 rfl
def nH(h:okN 60 d=true):lV d d=some (.bl true):=by
 show(bO 60 d d).map _=_;rw[zB 60 d h]
 rfl
end zV
namespace K10
open Ev PySem L2
open nZ (XS sides mG Ik iQ fit eF sg ed pc pin inn nw ik cg out look ye encC iH Pr)
def J(g:Nat->Nat->List Nat):Nat->List Nat->Nat->List Nat
 |p,[],q=>g p q|p,a::t,q=>g p a++a::J g a t q
section
variable{x w:List Nat}{l r:D}{c:Nat}{kvs:List (D×D)}
theorem drop_cons(h:n<w.length):w.drop n=sg w (n+1)::w.drop (n+1):=by
 have e:sg w (n+1)=w[n]:=by
  have:=(nZ.Xv (λc hc=>hc) h).1;rw[this,Qq6,Qq7 h]
  rfl
 rw[e];exact Qk4 h
def gP(l r:D)(c a b:Nat):List Nat:=if (fit l a&&fit r b)=true then [c] else []
theorem Tw(n):(pc l r c w n).flatten=gP l r c (sg w n) (sg w (n+1)):=by unfold pc gP;split<;>rfl
theorem aeP:sg w (w.length+1)=35:=by show(w++[35]).getD w.length 0=35;rw[Qq6];simp
theorem aen:∀n,n<=w.length->J (gP l r c) 35 w 35=(pin l r c w n).flatten++J (gP l r c) (sg w n) (w.drop n) 35
 |0,_=>rfl
 |n+1,h=>by
  rw[aen n (by omega),drop_cons (by omega)];show _++(gP l r c (sg w n) (sg w<|n+1)++sg w (n+1)::J (gP l r c) (sg w<|n+1) (w.drop<|n+1) 35)=(pin l r c w n++(pc l r c w n++[[sg w (n+1)]])).flatten++_;rw[Qx4,Qx4,Tw];simp
theorem ad3:inn l r c w=J (gP l r c) 35 w 35:=by
 rw[aen w.length (Qq0 _),Q0q];unfold inn;rw[Qx4,Tw,aeP]
 rfl
def T(h:Nat->Nat->Nat->List Nat):Nat->List Nat->Nat->List Nat
 |_,[],_=>[]|p,a::t,q=>h p a (t.headD q)++T h a t q
def hC(kvs:List (D×D))(l r:D)(a b d:Nat):List Nat:=if ((look kvs b).isSome&&(fit l a&&fit r d))=true then (look kvs b).getD [] else [b]
end
end K10
namespace jr
open Ev
def oV:cu:=lD.oV
def kW:LD:=cQ 2 oV
def qH:cu:=lD.qH
def qz:LD:=cQ 5 qH
def oO:cu:=lD.oO
def oK:LD:=cQ 1 oO
def gA:cu:=aC (aQ (aM 0) (bV 2 (aH (ak 1) (aH (ak 2) bZ)))) (aC (dH (cR (aq lV 1 (Zw [114,105,103,104,116]))) (bw (au cO (aa (d9 3 4 (dO (aM 2)) (ak 3) cA (au qz (Zv 3 aj))) aj))) bU) (bw (aM 2)))
def dR:LD:=cQ 3 gA
def gY:cu:=bw (au cO (aa (d9 1 5 (dO (au dR (Zv 0 aj))) (bV 4 (aH (ak 1) (aH (ak 2) (aH (ak 3) (aH (ak 4) bZ))))) cA (bK (aa (au kW (Zv 3 (aa (Zw [35]) aj))) (aa (Zw []) aj)))) aj))
def dW:LD:=cQ 1 gY
def eN:cu:=lD.eN
def fC:LD:=cQ 10 eN
def fP:cu:=lD.fP
def fO:LD:=cQ 10 fP
def jC:cu:=aC (cT 3 (cB aj)) (aC (aQ (tU (.bl false)) (ak 4)) (aC (dF (dO (aM 2)) (ak 5) (aC (aQ (aq bQ 1 (Zi 1)) (ak 6)) (aC (dH (cR (au oK (Zv 0 aj))) (aQ (au fC (Zv 0 (Zv 1 (Zv 5 aj)))) (bV 2 (aH (ak 1) (aH (ak 7) bZ)))) (aQ (au fO (Zv 0 (Zv 1 (Zv 5 aj)))) (bV 2 (aH (ak 1) (aH (ak 7) bZ))))) (aC (aQ (K4 (aM 4) (aq yf 7 (aU 6))) (ak 4)) (dZ 3 (aM 7)))))) (bw (bK (Zv 1 (aa (aN pB (Zw []) (aU 3)) (Zv 4 aj)))))))
def iT:LD:=cQ 8 jC
def mD:cu:=aC (aQ (aM 2) (ak 3)) (aC (cT 4 (cB aj)) (aC (cT 5 (cB aj)) (aC (dF (Gr (aa (au dR (Zv 0 aj)) (Zv 1 aj))) (bV 2 (aH (ak 6) (aH (ak 7) bZ))) (aC (aQ (au iT (Zv 6 (Zv 7 (Zv 3 aj)))) (bV 3 (aH (ak 8) (aH (ak 3) (aH (ak 9) bZ))))) (aC (dZ 4 (aM 8)) (dZ 5 (aM 9))))) (bw (bK (aa (au cO (aa (aU 4) aj)) (Zv 3 (aa (au cO (aa (aU 5) aj)) aj))))))))
def qy:LD:=cQ 10 mD
def kZ:cu:=aC (aQ (Zw []) (ak 2)) (aC (cT 3 (cB aj)) (aC (dF (Gr (aa (au dR (Zv 0 aj)) (Zv 1 aj))) (bV 2 (aH (ak 4) (aH (ak 5) bZ))) (aC (aQ (au iT (Zv 4 (Zv 5 (aa (aq cU 2 (Zw [35])) aj)))) (bV 3 (aH (ak 6) (aH (ak 2) (aH (ak 7) bZ))))) (dZ 3 (aM 7)))) (bw (bK (Zv 2 (aa (au cO (aa (aU 3) aj)) aj))))))
def pC:LD:=cQ 8 kZ
def mY:cu:=lD.mY
def oJ:LD:=cQ 6 mY
def qJ:cu:=lD.qJ
def nJ:LD:=cQ 2 qJ
def iy:cu:=lD.iy
def bh:List D->Option (D×D):=jh 3 iy
def jw:cu:=fM.jw
def ju:List D->Option (D×D):=jh 4 jw
def gK:cu:=fM.gK
def jW:List D->Option (D×D):=jh 6 gK
def mF:cu:=fM.mF
def jB:List D->Option (D×D):=jh 4 mF
def rF:cu:=aC (aQ (aN bQ (cB (aa (Zw [108,101,102,116]) (aa (Zw [114,105,103,104,116]) aj))) (dX bh 0 (aa (Zi 2) aj))) (ak 3)) (bw (bK (Zv 3 (aa (au cO (aa (d9 4 5 (gj (aa (dX bh 0 (aa (aq cU 2 (Zi 1)) aj)) aj)) (ak 4) cA (dX jB 0 (Zv 1 aj))) aj)) aj))))
def mW:List D->Option (D×D):=jh 4 rF
def fY:cu:=lD.fY
def fX:LD:=cQ 1 fY
open Ev PySem L2
open fM (SG cD)
open nZ (XS sides mG iQ fit eF ye look jK wg iH encC zG Ik gW)
open zV (cI jn nH)
abbrev St:=Bool×List Nat
def bL(s:St):D:=.tup [.bl s.1,.str s.2]
inductive Rl
 |put (c:Nat) (l r:D)|chg (al:Bool) (kvs:List (D×D)) (l r:D)
def Hm(kvs:List (D×D))(s:Nat)(b:Bool):List Nat:=if b=true then (look kvs s).getD [s] else [s]
def nrC(al:Bool)(l:D)(s:Nat)(b:Bool)(p:List Nat):Bool:=if al=true then (if p=[] then b else fit l (p.headD 0)) else fit l s
def stp:Rl->St->Nat->St×List Nat
 |.put c l r,s,a=>((fit l a,[a]),s.2++(if (s.1&&fit r a)=true then [c] else []))
 |.chg al kvs l r,s,a=>match s.2 with
  |[]=>((s.1,[a]),[])|h::_=>((nrC al l h s.1 (Hm kvs h (s.1&&fit r a)),[a]),Hm kvs h (s.1&&fit r a))
def rd(ρ:Rl):St->List Nat->St×List Nat
 |s,[]=>(s,[])|s,a::z=>((rd ρ (stp ρ s a).1 z).1,(stp ρ s a).2++(rd ρ (stp ρ s a).1 z).2)
theorem Ff(ρ):∀z s y,rd ρ s (z++y)=((rd ρ (rd ρ s z).1 y).1,(rd ρ s z).2++(rd ρ (rd ρ s z).1 y).2)
 |[],s,y=>rfl
 |a::z,s,y=>by
  show((rd ρ (stp ρ s a).1<|z++y).1,(stp ρ s a).2++(rd ρ (stp ρ s a).1<|z++y).2)=_;rw[Ff ρ z];show _=((rd ρ (rd ρ (stp ρ s a).1 z).1 y).1,((stp ρ s a).2++(rd ρ (stp ρ s a).1 z).2)++_);rw[Qxx]
  rfl
def Kg(ρ)(s)(a):rd ρ s [a]=stp ρ s a:=by show((stp ρ s a).1,(stp ρ s a).2++[])=_;rw[Qw8]
def yK(ρ)(s)(z)(a):rd ρ s (z++[a])=((stp ρ (rd ρ s z).1 a).1,(rd ρ s z).2++(stp ρ (rd ρ s z).1 a).2):=by rw[Ff,Kg]
inductive Is (x:List Nat):D->Rl->Prop
 |put {wy l r:D} {c:Nat}:c∈x->l∈SG x->r∈SG x->Is x (.tup [wy,.tup [.tup [.str [],.str [c]]],l,r]) (.put c l r)|chg {al:Bool} {ps:List nZ.Pr} {kvs:List (D×D)} {l r:D}:0<ps.length->tu [.tup (ps.map encC)]=some (.dct kvs)->ye x kvs->l∈SG x->r∈SG x->Is x (.tup [iH al,.tup (ps.map encC),l,r]) (.chg al kvs l r)
def aew(h:w=.str [111,110,99,101]\/w=.str [97,108,111,110,103]):∃al,w=iH al:=by
 rcases h with rfl|rfl;exact⟨false,rfl⟩;exact⟨true,rfl⟩
def Z7{R:D}(h:cI x R):∃ρ,Is x R ρ:=by
 obtain⟨wy,ch,l,r,rfl,h⟩:=h;obtain⟨h1,h2,h3,h4⟩:=h;cases h2 with
 |put hc=>exact⟨_,.put hc h3 h4⟩|chg hp hp4 hps=>obtain⟨al,rfl⟩:=aew h1;obtain⟨kvs,hd,hk⟩:=zG hps;exact⟨_,.chg hp hd hk h3 h4⟩
def m5(x:List Nat)(s:St):Prop:=s.2.length<=1/\∀c∈s.2,c∈35::x
def Nu(hk:ye x kvs)(s)(hs:s∈35::x)(b):(Hm kvs s b).length<=1/\∀c∈Hm kvs s b,c∈35::x:=by
 unfold Hm;split;cases e:look kvs s with
 |none=>exact⟨Qq0 _,λc hc=>by rw[Qqw.mp hc];exact hs⟩|some t=>exact⟨(jK hk e).2.1,λc hc=>Qqk _<|(jK hk e).2.2 c hc⟩
 exact⟨Qq0 _,λc hc=>by rw[Qqw.mp hc];exact hs⟩
def Eg{R:D}(hR:Is x R ρ)(hs:m5 x s)(ha:a∈35::x):m5 x (stp ρ s a).1/\(stp ρ s a).2.length<=2/\∀c∈(stp ρ s a).2,c∈35::x:=by
 have h1:∀b,m5 x (b,[a]):=λb=>⟨Qq0 _,λc hc=>by rw[Qqw.mp hc];exact ha⟩;cases hR with
 |put hc hl hr=>refine⟨h1 _,?_,?_⟩;show(s.2++_).length<=2;have:=hs.1;rw[Qqv];split;rw[Qwj];omega;rw[Qx2];omega;intro c hm;rcases Qww.mp hm with hm|hm;exact hs.2 c hm;split at hm;rw[Qqw.mp hm];exact Qqk _ hc;simp at hm
 |chg hp hd hk hl hr=>
  obtain⟨b,h⟩:=s;match h,hs with
  |[],hs=>exact⟨h1 _,Qxz _,λc hc=>by simp[stp] at hc⟩|s::h,hs=>exact⟨h1 _,Qq1 (Nu hk s (hs.2 s<|Qqj ..) _).1 (by decide),(Nu hk s (hs.2 s<|Qqj ..) _).2⟩
theorem wL{R:D}(hR:Is x R ρ):∀z {s},m5 x s->(∀a∈z,a∈35::x)->m5 x (rd ρ s z).1/\(rd ρ s z).2.length<=2*z.length/\∀c∈(rd ρ s z).2,c∈35::x
 |[],s,hs,_=>⟨hs,Qq0 _,λc hc=>by simp[rd] at hc⟩
 |a::z,s,hs,hz=>by
  obtain⟨h1,h2,h3⟩:=Eg hR hs<|hz a<|Qqj ..;obtain⟨h4,h5,h6⟩:=wL hR z h1 λb hb=>hz b<|Qqk _ hb;refine⟨h4,?_,?_⟩;show((stp ρ s a).2++(rd ρ (stp ρ s a).1 z).2).length<=_;rw[Qqv,Qqy];omega;intro c hc;rcases Qww.mp (show c∈(stp ρ s a).2++(rd ρ (stp ρ s a).1 z).2 from hc) with hc|hc;exact h3 c hc;exact h6 c hc
def ak3(hk:ye x kvs)(s):aaj (.dct kvs) (.str [s]) (.str [s])=some (.str ((look kvs s).getD [s])):=by
 show some ((mZ kvs<|.inr<|strOf [s]).getD<|.str [s])=_;unfold look;cases e:mZ kvs (.inr<|strOf [s]) with
 |none=>rfl
 |some v=>
  obtain⟨k,hm,_⟩:=fM.pY e;obtain⟨t,rfl,_⟩:=hk k v hm
  rfl
def Wm(h1:a env=.ok (.dct kvs) e1)(h2:b e1=.ok k e2)(h3:c e2=.ok t e3)(h:aaj (.dct kvs) k t=some d):K7 a b c env=.ok d e3:=by
 unfold K7;rw[h1];simp[bindR];rw[h2];simp;rw[h3];simp;rw[h]
 rfl
def acY(wy ch l r)(b)(a):fO [.tup [wy,ch,l,r],bL (b,[]),.str [a]]=some (.tup [bL (b,[a]),.str []]):=rfl
section
variable{x:List Nat}{l r:D}(hx:x∈XS)(hl:l∈SG x)(hr:r∈SG x)
include hx hl hr
theorem Fd(wy)(c)(b)(h)(hh:h.length<=1)(a)(ha:a∈35::x) :
  fC [.tup [wy,.tup [.tup [.str [],.str [c]]],l,r],bL (b,h),.str [a]]=some (.tup [bL (stp (.put c l r) (b,h) a).1,.str (stp (.put c l r) (b,h) a).2]):=by
 generalize hR:D.tup [wy,.tup [.tup [.str [],.str [c]]],l,r]=R;generalize hS:bL (b,h)=S;show _=some (D.tup [.tup [.bl (fit l a),.str [a]],.str<|h++(if (b&&fit r a)=true then [c] else [])]);generalize hP:(h++(if (b&&fit r a)=true then [c] else []))=p;refine cL (env:=[Zf R,Zf S,Zs [a],Zf wy,Zf<|.tup [.tup [.str [],.str [c]]],Zf l,Zf r,Zb b,Zs h,Zs p]) ?_;unfold eN;refine(aB (e:=[Zf R,Zf S,Zs [a],Zf wy,Zf<|.tup [.tup [.str [],.str [c]]],Zf l,Zf r,Zn,Zn,Zn]) (by rw[<-hR];rfl)).trans ?_;refine(aB (e:=[Zf R,Zf S,Zs [a],Zf wy,Zf<|.tup [.tup [.str [],.str [c]]],Zf l,Zf r,Zb b,Zs h,Zn]) (by rw[<-hS];rfl)).trans ?_;refine(aB rfl).trans ?_;refine(aB (e:=[Zf R,Zf S,Zs [a],Zf wy,Zf<|.tup [.tup [.str [],.str [c]]],Zf l,Zf r,Zb b,Zs h,Zs p]) ?_).trans ?_;have t:di (cR<|aM 7) (cR<|au kW<|Zv 6<|Zv 2 aj) [Zf R,Zf S,Zs [a],Zf wy,Zf<|.tup [.tup [.str [],.str [c]]],Zf l,Zf r,Zb b,Zs h,Zs h]=.ok (b&&fit r a) [Zf R,Zf S,Zs [a],Zf wy,Zf<|.tup [.tup [.str [],.str [c]]],Zf l,Zf r,Zb b,Zs h,Zs h]:=
  gW rfl (cW<|aK rfl (eF x hx r hr a ha))
 cases hc:b&&fit r a with
 |true=>rw[hc] at t hP;rw[Qv4 rfl] at hP;rw[<-hP];exact(gq t).trans<|bB (aO rfl rfl rfl (iQ (by show h.length+1<=100000;omega))) rfl|false=>rw[hc] at t hP;rw[Qv5 Qw2,Qw8] at hP;rw[<-hP];exact(dw t).trans rfl
 refine bT<|cG (aD (cG (aD (aK (by rfl) (eF x hx l hl a ha))<|aD (by rfl) aY) Ev.xm)<|aD (by rfl) aY) Ev.xm
theorem Fe(al)(hk:ye x kvs)(ch)(hd:tu [ch]=some (.dct kvs))(b)(s)(hs:s∈35::x)(a)(ha:a∈35::x) :
  fO [.tup [iH al,ch,l,r],bL (b,[s]),.str [a]]=some (.tup [bL (stp (.chg al kvs l r) (b,[s]) a).1,.str (stp (.chg al kvs l r) (b,[s]) a).2]):=by
 generalize hR:D.tup [iH al,ch,l,r]=R;generalize hS:bL (b,[s])=S;have hp:=Nu hk s hs<|b&&fit r a;show _=some (D.tup [.tup [.bl (nrC al l s b<|Hm kvs s<|b&&fit r a),.str [a]],.str<|Hm kvs s<|b&&fit r a]);have hP:Hm kvs s (b&&fit r a)=if (b&&fit r a)=true then (look kvs s).getD [s] else [s]:=rfl;generalize Hm kvs s (b&&fit r a)=p at *;refine cL (env:=[Zf R,Zf S,Zs [a],Zf<|iH al,Zf ch,Zf l,Zf r,Zb b,Zs [s],Zs p]) ?_;unfold fP;refine(aB (e:=[Zf R,Zf S,Zs [a],Zf<|iH al,Zf ch,Zf l,Zf r,Zn,Zn,Zn]) (by rw[<-hR];rfl)).trans ?_;refine(aB (e:=[Zf R,Zf S,Zs [a],Zf<|iH al,Zf ch,Zf l,Zf r,Zb b,Zs [s],Zn]) (by rw[<-hS];rfl)).trans ?_;refine(aB<|(dw (by rfl)).trans rfl).trans ?_;refine(aB rfl).trans ?_;refine(aB (e:=[Zf R,Zf S,Zs [a],Zf<|iH al,Zf ch,Zf l,Zf r,Zb b,Zs [s],Zs p]) ?_).trans ?_;have t:di (cR<|aM 7) (cR<|au kW<|Zv 6<|Zv 2 aj) [Zf R,Zf S,Zs [a],Zf<|iH al,Zf ch,Zf l,Zf r,Zb b,Zs [s],Zs [s]]=.ok (b&&fit r a) [Zf R,Zf S,Zs [a],Zf<|iH al,Zf ch,Zf l,Zf r,Zb b,Zs [s],Zs [s]]:=
  gW rfl (cW<|aK rfl (eF x hx r hr a ha))
 cases hc:b&&fit r a with
 |true=>rw[hc] at t hP;rw[Qv4 rfl] at hP;rw[hP];exact(gq t).trans<|bB (Wm (aK rfl hd) rfl rfl (ak3 hk s)) rfl|false=>rw[hc] at t hP;rw[Qv5 Qw2] at hP;rw[hP];exact(dw t).trans rfl
 cases al with
 |false=>refine(km ?_).trans rfl;refine(gq rfl).trans ?_;refine bT<|cG (aD (cG (aD (aK rfl (eF x hx l hl s hs))<|aD rfl aY) Ev.xm)<|aD rfl aY) Ev.xm
 |true=>
  refine(aB<|(dw (by rfl)).trans rfl).trans ?_;match p,hp with
  |[],_=>rfl|[q],hp=>refine(aB<|(dw (by rfl)).trans rfl).trans ?_;exact bT<|cG (aD (cG (aD (aK rfl (eF x hx l hl q<|hp.2 q<|Qqj ..))<|aD rfl aY) Ev.xm)<|aD rfl aY) Ev.xm|_::_::_,hp=>exact absurd hp.1 (by simp)
end
def acN(h1:a env=.ok (.bl p) env)(h2:b env=.ok (.bl q) env):K4 a b env=.ok (.bl (p||q)) env:=by
 cases p with
 |true=>rw[agE h1];rfl|false=>rw[aar h1,h2];rfl
theorem yz:∀{y z},iZ y=iZ z->y=z
 |[],[],_=>rfl|[],_::_,h=>by cases h|_::_,[],h=>by cases h
 |a::y,b::z,h=>by
  injection h with h2 h3
  injection h2 with h4
  injection h4 with h5
  rw[h5,yz h3]
def yx(y)(a):iZ (y++[a])=iZ y++[.str [a]]:=by unfold iZ;rw[Qw7];rfl
def Dh{done rest:List D}(h:iZ z=done++d::rest):∃a,d=.str [a]/\a∈z/\done.length<z.length:=by
 have hm:d∈iZ z:=by rw[h];exact Qxw _<|Qqj ..
 obtain⟨a,ha,rfl⟩:=Qwq.mp hm;have:=Qx1 List.length h;unfold iZ at this;rw[Qqx,Qqv,Qqy] at this;exact⟨a,rfl,ha,by omega⟩
def agA{ps:List nZ.Pr}(hp:0<ps.length)(h:env[0]?=some (Zf (.tup [wy,.tup (ps.map encC),l,r]))):aN lV (aN bQ (aN bQ (aq bQ 0 (Zi 1)) (Zi 0)) (Zi 0)) (Zw []) env=.ok (.bl false) env:=by
 match ps,hp with
 |p::ps,_=>refine bj (x:=.str [p.1]) ?_ rfl rfl;refine bj (x:=encC p) ?_ rfl rfl;refine bj (x:=.tup<|(p::ps).map encC) ?_ rfl (je rfl);exact aO h rfl h rfl
section
variable{x:List Nat}{R:D}{ρ:Rl}(hx:x∈XS)(hR:Is x R ρ)
include hx hR
theorem one_sign(hs:m5 x s)(ha:a∈35::x) :
  (oK [R]=some (.bl true)/\fC [R,bL s,.str [a]]=some (.tup [bL (stp ρ s a).1,.str (stp ρ s a).2]))\/(oK [R]=some (.bl false)/\fO [R,bL s,.str [a]]=some (.tup [bL (stp ρ s a).1,.str (stp ρ s a).2])):=by
 cases hR with
 |put hc hl hr=>exact .inl ⟨rfl,Fd hx hl hr _ _ s.1 s.2 hs.1 a ha⟩
 |chg hp hd hk hl hr=>
  rename_i al ps kvs l r;refine .inr ⟨?_,?_⟩;exact cL<|bT<|agA hp rfl;obtain⟨b,h⟩:=s;match h,hs with
  |[],hs=>exact acY _ _ _ _ _ _|[s],hs=>exact Fe hx hl hr al hk _ hd b s (hs.2 s<|Qqj ..) a ha|_::_::_,hs=>exact absurd hs.1 (by simp)
def XM:cu:=lD.lR
theorem abv(hs:m5 x s)(ha:a∈35::x)(A2 a6 a7:OD)(ps)(hp:ps.length<=400)(t) :
  ∃u,XM [Zf R,Zf (bL s),A2,Zl ps,Zb t,Zs [a],a6,a7] = .nx [Zf R,(Zf (bL (stp ρ s a).1)),A2,(Zl (ps++[.str (stp ρ s a).2])),Zb (t||u),Zs [a],Zs s.2,(Zs ((stp ρ s a).2))]:=by
 obtain⟨u,hu⟩:∃u,yf (.str (stp ρ s a).2) (.str s.2)=some (.bl u):=⟨_,rfl⟩;refine⟨u,?_⟩;have h1:=one_sign hx hR hs ha;generalize hq:(stp ρ s a).2=q at *;generalize hs':(stp ρ s a).1=s' at *;unfold XM;refine(aB rfl).trans ?_;refine(aB (e:=[Zf R,Zf<|bL s',A2,Zl ps,Zb t,Zs [a],Zs s.2,Zs q]) ?_).trans ?_;rcases h1 with ⟨g1,g2⟩|⟨g1,g2⟩;refine(gq<|cW<|aK rfl g1).trans ?_;exact bB (aK rfl g2) rfl;refine(dw<|cW<|aK rfl g1).trans ?_;exact bB (aK rfl g2) rfl;let E0:Ev.Env:=[Zf R,Zf<|bL s',A2,Zl ps,Zb<|t||u,Zs [a],Zs s.2,Zs q];refine(aB (e:=E0) ?_).trans ?_;refine bB (acN rfl ?_) rfl;exact aO rfl rfl rfl hu;exact(cD (i:=3) (e:=E0) rfl rfl rfl (Qw3 hp (by decide))).trans rfl
theorem read_signs(hs:m5 x s)(hz:∀a∈z,a∈35::x)(hn:z.length<=150):∃t,iT [R,bL s,.str z]=some (.tup [bL (rd ρ s z).1,.str (rd ρ s z).2,.bl t]):=by
 obtain⟨e',f1,hd,dz,pl,t,a5,a6,a7,e1,hdz,e2,e3,e4,rfl⟩:=jV (g:=ak 5) (iZ z)
  (λdone env=>done.length<=z.length/\∃dz pl t a5 a6 a7,done=iZ dz/\(∀a∈dz,a∈35::x)/\pl.flatten=(rd ρ s dz).2/\pl.length=done.length/\(∀q∈pl,q.length<=2)/\env=[Zf R,(Zf<|bL (rd ρ s dz).1),Zs z,Zl<|pl.map .str,Zb t,a5,a6,a7])
  (λdone d rest hall env ⟨hd,dz,pl,t,a5,a6,a7,e1,hdz,e2,e3,e4,he⟩=>by
   subst he;obtain⟨a,rfl,ha,hl⟩:=Dh hall;have hok:=wL hR dz hs hdz;have hst:=Eg hR hok.1<|hz a ha;obtain⟨u,hb⟩:=abv hx hR hok.1 (hz a ha) (Zs z) a6 a7 (pl.map .str) (by rw[Qqx];omega) t;refine⟨_,_,rfl,hb,by rw[Qqv,Qwj];omega,dz++[a],pl++[(stp ρ (rd ρ s dz).1 a).2],(t||u),Zs [a],(Zs<|(rd ρ s dz).1.2),(Zs<|(stp ρ (rd ρ s dz).1 a).2),by rw[yx,e1],?_,?_,?_,?_,?_⟩
   intro b hb;rcases Qww.mp hb with hb|hb
   exact hdz b hb
   rw[Qqw.mp hb];exact hz a ha
   rw[yK,Qx4,e2];simp
   rw[Qqv,Qqv,e3]
   rfl
   intro q hq;rcases Qww.mp hq with hq|hq
   exact e4 q hq
   rw[Qqw.mp hq];exact hst.2.1
   rw[yK,Qw7]
   rfl)
  [Zf R,Zf<|bL s,Zs z,Zl [],Zb false,Zn,Zn,Zn] ⟨Qxz _,[],[],false,Zn,Zn,Zn,rfl,λa ha=>by simp at ha,rfl,rfl,λq hq=>by simp at hq,rfl⟩
 have hzz:=yz e1;subst hzz;refine⟨t,cL (env:=[Zf R,(Zf<|bL (rd ρ s z).1),Zs z,Zl<|pl.map .str,Zb t,a5,a6,a7]) ?_⟩;unfold jC;refine(aB rfl).trans ?_;refine(aB rfl).trans ?_;refine(aB<|(cZ rfl).trans f1).trans ?_;have hj:pB (.str []) (.lst<|pl.map .str)=some (.str (rd ρ s z).2):=by rw[nZ.aiX (by rw[e3];omega) e4,e2]
 exact bT<|cG (aD rfl (aD (bj rfl rfl hj)<|aD rfl aY)) Ev.zz3
end
def Ju(h1:g d env=some e1)(h2:b e1=.nx e2):jM g b (d::ds) env=jM g b ds e2:=by
 conv=>lhs;unfold jM
 rw[h1];simp;rw[h2]
def tn:D->D
 |.tup [wy,ch,l,r]=>.tup [wy,ch,r,l]|d=>d
def lf:D->D
 |.tup [_,_,l,_]=>l|d=>d
def rt:D->Bool
 |.str (114::_)=>true|_=>false
def lay(s:D)(Rs:List D):List D:=if rt s=true then Rs.map tn else Rs
def Mm{R:D}(h:cI x R):cI x (tn R)/\qz [R]=some (tn R)/\fX [R]=some (tn R):=by obtain⟨wy,ch,l,r,rfl,h1,h2,h3,h4⟩:=h;exact⟨⟨wy,ch,r,l,rfl,h1,h2,h4,h3⟩,rfl,rfl⟩
def lg(s)(Rs):(lay s Rs).length=Rs.length:=by
 unfold lay;split;rw[Qqx];rfl
def sr(h:∀R∈Rs,cI x R):∀R∈lay s Rs,cI x R:=by
 unfold lay;split;intro R hR;obtain⟨Q,hQ,rfl⟩:=Qwq.mp hR;exact(Mm<|h Q hQ).1;exact h
noncomputable def nY(x:List Nat)(R:D):Rl:=open Classical in if h:∃ρ,Is x R ρ then h.choose else .put 0 .non .non
def ni{R:D}(h:cI x R):Is x R (nY x R):=by unfold nY;rw[dif_pos (Z7 h)];exact(Z7 h).choose_spec
noncomputable def lZ(x:List Nat):List D->List St->List Nat->List St×List Nat
 |R::Rs,s::ss,z=>((rd (nY x R) s z).1::(lZ x Rs ss (rd (nY x R) s z).2).1,(lZ x Rs ss (rd (nY x R) s z).2).2)|_,_,z=>([],z)
noncomputable def xX(x:List Nat):List D->List St->List Nat->List Nat
 |R::Rs,s::ss,z=>xX x Rs ss (rd (nY x R) s (z++[35])).2|_,_,z=>z
def sI(Rs:List D):List St:=Rs.map λR=>(fit (lf R) 35,[])
section
variable{x:List Nat}{s:D}(hx:x∈XS)(hs:s∈sides){Rs:List D}(hR:∀R∈Rs,cI x R)(h4:Rs.length<=10)
include hx hs hR h4
theorem reading_rules:dR [.tup [s,.tup Rs]]=some (.tup (lay s Rs)):=by
 rcases Qq4.mp hs with rfl|hs;rfl;cases Qqw.mp hs;obtain⟨env',g1,v5,rfl⟩:=wk (g:=ak 3) (e:=au qz<|Zv 3 aj) (λenv=>∃v5,env=[Zf (.tup [.str [114,105,103,104,116],.tup Rs]),Zs [114,105,103,104,116],Zf<|.tup Rs,v5]) tn Rs
  [Zf (.tup [.str [114,105,103,104,116],.tup Rs]),Zs [114,105,103,104,116],Zf<|.tup Rs,Zn] ⟨none,rfl⟩
  (λd hd env ⟨v5,he⟩=>by
   subst he;exact⟨[Zf (.tup [.str [114,105,103,104,116],.tup Rs]),Zs [114,105,103,104,116],Zf<|.tup Rs,Zf d],_,rfl,aK rfl (Mm<|hR d hd).2.1,_,rfl⟩)
 let E0:Ev.Env:=[Zf (.tup [.str [114,105,103,104,116],.tup Rs]),Zs [114,105,103,104,116],Zf<|.tup Rs];refine cL (env:=E0) ?_;unfold gA;refine(aB rfl).trans ?_;refine(km ?_).trans rfl;refine(gq rfl).trans ?_;refine bT<|aK (ds:=[.lst (Rs.map tn)]) (aD ?_ aY) rfl;exact o7 (n:=4) (aR:=E0) rfl rfl g1 (by rw[Qqx];exact Qq1 h4 (by decide))
theorem first_standing:dW [.tup [s,.tup Rs]]=some (.tup ((sI (lay s Rs)).map bL)):=by
 have h1:=reading_rules hx hs hR h4;have h2:=sr (s:=s) hR;have h3:=lg s Rs;generalize lay s Rs=Ls at *;generalize D.tup [s,.tup Rs]=O at *;obtain⟨env',g1,v1,v2,v3,v4,rfl⟩:=wk (g:=bV 4<|aH (ak 1)<|aH (ak 2)<|aH (ak 3)<|aH (ak 4) bZ) (e:=bK<|aa (au kW<|Zv 3<|aa (Zw [35]) aj)<|aa (Zw []) aj) (λenv=>∃v1 v2 v3 v4,env=[Zf O,v1,v2,v3,v4]) (λR=>bL (fit (lf R) 35,[])) Ls
  [Zf O,Zn,Zn,Zn,Zn] ⟨none,Zn,Zn,Zn,rfl⟩
  (λd hd env ⟨v1,v2,v3,v4,he⟩=>by
   subst he;obtain⟨wy,ch,l,r,rfl,hro⟩:=h2 d hd;exact⟨[Zf O,Zf wy,Zf ch,Zf l,Zf r],[Zf O,Zf wy,Zf ch,Zf l,Zf r],rfl,cG (aD (aK rfl (eF x hx l hro.left 35<|Qqj ..)) rfl) Ev.xm,_,_,_,_,rfl⟩)
 refine cL (env:=[Zf O])<|bT<|aK (ds:=[.lst (Ls.map λR=>bL (fit (lf R) 35,[]))]) (aD ?_ aY) ?_;exact o7 (n:=5) (aR:=[Zf O]) (zz (aK rfl h1) rfl) rfl g1 (by rw[Qqx,h3];exact Qq1 h4 (by decide));unfold sI;rw[Qxk];rfl
end
def aal(x)(Rs):∀s∈sI Rs,m5 x s:=by intro s hs;obtain⟨R,_,rfl⟩:=Qwq.mp hs;exact⟨Qxz _,λc hc=>by simp at hc⟩
def Qs:cu:=lD.o4
def Qt:cu:=lD.nA
section
variable{x:List Nat}(hx:x∈XS)
theorem Dw(h:(n+2)*2^(k+1)<=150)(hm:m<=2*(n+1)):(m+2)*2^k<=150/\n<=73:=by
 have h1:(n+2)*2^(k+1)=(2*(n+1)+2)*2^k:=by
  rw[Qhx,<-Qh8,Qf1]
  congr 1
  omega
 have h2:(m+2)*2^k<=(2*(n+1)+2)*2^k:=Qjw _ (by omega);have h3:1<=2^k:=Qf0;have h4:2*(n+1)+2<=(2*(n+1)+2)*2^k:=Qb3 _ h3;omega
include hx
theorem adC(A0 A1 A2:OD):∀Rs ss z acc ts (v6 v7 v8 v9:OD),Rs.length=ss.length->(∀R∈Rs,cI x R)->(∀s∈ss,m5 x s)->(∀a∈z,a∈35::x)->(z.length+2)*2^Rs.length<=150->acc.length+Rs.length<=100->ts.length+Rs.length<=100->
  ∃us w6 w7 w8 w9,jM (bV 2 (aH (ak 6) (aH (ak 7) bZ))) Qs (tW Rs (ss.map bL)) [A0,A1,A2,Zs z,Zl acc,Zl ts,v6,v7,v8,v9] = .nx [A0,A1,A2,(Zs ((lZ x Rs ss z).2)),(Zl (acc++(lZ x Rs ss z).1.map bL)),Zl us,w6,w7,w8,w9]/\(∀s∈(lZ x Rs ss z).1,m5 x s)/\(lZ x Rs ss z).1.length=Rs.length/\us.length<=100
 |[],[],z,acc,ts,v6,v7,v8,v9,_,_,_,_,_,_,ht=>by
  refine⟨ts,v6,v7,v8,v9,?_,λs hs=>by simp[lZ] at hs,rfl,ht⟩;show Ev.Out.nx _=Ev.Out.nx [A0,A1,A2,Zs z,Zl<|acc++[],Zl ts,v6,v7,v8,v9];rw[Qw8]
 |[],_::_,_,_,_,_,_,_,_,h,_,_,_,_,_,_=>by simp at h|_::_,[],_,_,_,_,_,_,_,h,_,_,_,_,_,_=>by simp at h
 |R::Rs,s::ss,z,acc,ts,v6,v7,v8,v9,h,hR,hS,hz,hn,ha,ht=>by
  have hRi:=ni<|hR R<|Qqj ..;have hso:=hS s<|Qqj ..;obtain⟨o1,o2,o3⟩:=wL hRi z hso hz;obtain⟨n1,n2⟩:=Dw hn (m:=(rd (nY x R) s z).2.length) (by omega);obtain⟨t,hrs⟩:=read_signs hx hRi hso hz (by omega);rw[Qqy] at ha ht;obtain⟨us,w6,w7,w8,w9,g1,g2,g3,g4⟩:=adC A0 A1 A2 Rs ss (rd (nY x R) s z).2 (acc++[bL (rd (nY x R) s z).1]) (ts++[.bl t]) (Zf R) (Zf<|bL s) (Zf<|bL (rd (nY x R) s z).1) (Zb t) (by simpa using h) (λQ hQ=>hR Q<|Qqk _ hQ) (λq hq=>hS q<|Qqk _ hq) o3 n1 (by rw[Qqv,Qwj];omega) (by rw[Qqv,Qwj];omega);refine⟨us,w6,w7,w8,w9,?_,?_,?_,g4⟩;show jM _ Qs (.tup [R,bL s]::tW Rs (ss.map bL)) _=Ev.Out.nx [A0,A1,A2,(Zs<|(lZ x Rs ss (rd (nY x R) s z).2).2),(Zl<|acc++(bL (rd (nY x R) s z).1::(lZ x Rs ss (rd (nY x R) s z).2).1.map bL)),Zl us,w6,w7,w8,w9];rw[Ju rfl ?_,g1,Qxx];rfl;generalize(rd (nY x R) s z).2=q at *;generalize(rd (nY x R) s z).1=s' at *;unfold Qs;refine(aB<|bB (aK rfl hrs) rfl).trans ?_;let E0:Ev.Env:=[A0,A1,A2,Zs q,Zl<|acc++[bL s'],Zl ts,Zf R,Zf<|bL s,Zf<|bL s',Zb t];refine(aB (e:=E0) ?_).trans ?_;exact(cD (i:=4) (e:=[A0,A1,A2,Zs q,Zl acc,Zl ts,Zf R,Zf<|bL s,Zf<|bL s',Zb t]) rfl rfl rfl (Qw3 (show acc.length<=100 by omega) (by decide))).trans rfl;exact(cD (i:=5) (e:=E0) rfl rfl rfl (Qw3 (show ts.length<=100 by omega) (by decide))).trans rfl;intro q hq;rcases Qq4.mp (show q∈(rd (nY x R) s z).1::(lZ x Rs ss (rd (nY x R) s z).2).1 from hq) with rfl|hq;exact o1;exact g2 q hq;show(_::(lZ x Rs ss (rd (nY x R) s z).2).1).length=_;rw[Qqy,g3,Qqy]
theorem adD(A0 A1:OD):∀Rs ss z ts (v6 v7 v8 v9:OD),Rs.length=ss.length->(∀R∈Rs,cI x R)->(∀s∈ss,m5 x s)->(∀a∈z,a∈35::x)->(z.length+2)*2^Rs.length<=150->ts.length+Rs.length<=100->
  ∃us w6 w7 w8 w9,jM (bV 2 (aH (ak 4) (aH (ak 5) bZ))) Qt (tW Rs (ss.map bL)) [A0,A1,Zs z,Zl ts,v6,v7,v8,v9] = .nx [A0,A1,Zs (xX x Rs ss z),Zl us,w6,w7,w8,w9]/\us.length<=100
 |[],[],z,ts,v6,v7,v8,v9,_,_,_,_,_,ht=>⟨ts,v6,v7,v8,v9,rfl,ht⟩|[],_::_,_,_,_,_,_,_,h,_,_,_,_,_=>by simp at h|_::_,[],_,_,_,_,_,_,h,_,_,_,_,_=>by simp at h
 |R::Rs,s::ss,z,ts,v6,v7,v8,v9,h,hR,hS,hz,hn,ht=>by
  have hRi:=ni<|hR R<|Qqj ..;have hso:=hS s<|Qqj ..;have hz':∀a∈z++[35],a∈35::x:=λa ha=>by
   rcases Qww.mp ha with ha|ha;exact hz a ha;rw[Qqw.mp ha];exact Qqj ..
  have hzl:(z++[35]).length=z.length+1:=by rw[Qqv,Qwj]
  obtain⟨o1,o2,o3⟩:=wL hRi (z++[35]) hso hz';obtain⟨n1,n2⟩:=Dw hn (m:=(rd (nY x R) s<|z++[35]).2.length) (by omega);obtain⟨t,hrs⟩:=read_signs hx hRi hso hz' (by omega);rw[Qqy] at ht;obtain⟨us,w6,w7,w8,w9,g1,g4⟩:=adD A0 A1 Rs ss (rd (nY x R) s<|z++[35]).2 (ts++[.bl t]) (Zf R) (Zf<|bL s) (Zf<|bL (rd (nY x R) s<|z++[35]).1) (Zb t) (by simpa using h) (λQ hQ=>hR Q<|Qqk _ hQ) (λq hq=>hS q<|Qqk _ hq) o3 n1 (by rw[Qqv,Qwj];omega);refine⟨us,w6,w7,w8,w9,?_,g4⟩;show jM _ Qt (.tup [R,bL s]::tW Rs (ss.map bL)) _=Ev.Out.nx [A0,A1,(Zs<|xX x Rs ss (rd (nY x R) s<|z++[35]).2),Zl us,w6,w7,w8,w9];rw[Ju rfl ?_,g1];generalize(rd (nY x R) s<|z++[35]).2=q at *;generalize(rd (nY x R) s<|z++[35]).1=s' at *;unfold Qt;refine(aB<|bB (aK (aD rfl (aD rfl (aD (aO rfl rfl rfl (iQ (by show z.length+1<=100000;omega))) aY))) hrs) rfl).trans ?_;exact(cD (i:=3) (e:=[A0,A1,Zs q,Zl ts,Zf R,Zf<|bL s,Zf<|bL s',Zb t]) rfl rfl rfl (Qw3 (show ts.length<=100 by omega) (by decide))).trans rfl
end
open nZ (XS sides mG iQ Ik)
open fM (Bu jE Lw PV SG Wt prs one others Tp Lf Kz Yw j0 Lr mL Lg)
open nZ (Km)
def changes(n)(x)(hx:x∈XS):∃ch n',fM.jW [.lst [.int n],.str x]=some (ch,.lst [.int n'])/\Ik x ch:=by
 obtain⟨d,hd,e⟩:=dig n 5 (by decide);have hp:=Bu x hx;have hl4:=jE x hx;have t:cR (aN lV (dX fM.bh 0<|aa (Zi 5) aj)<|Zi 0) [Zl [.int n],Zs x,Zn,Zn,Zn,Zn]=.ok ((d:Int) == 0) [Zl [.int (n / 5)],Zs x,Zn,Zn,Zn,Zn]:=by
  rw[<-e]
  rfl
 by_cases h0:d=0
 .subst h0;obtain⟨j,hj,ej⟩:=dig (n / 5) x.length hp;refine⟨.tup [.tup [.str [],.str [x[j]]]],n / 5 / (x.length:Int),jg (env:=[Zl [.int (n / 5 / (x.length:Int))],Zs x,Zn,Zn,Zn,Zn]) ?_ rfl,.put<|Qzw hj⟩;unfold fM.gK;refine(km ?_).trans rfl;refine(gq t).trans ?_;refine bT<|cG (aD (cG (aD rfl (aD ?_ aY)) Ev.xm) aY) Ev.zz1;refine aO (y:=.int<|n / 5 % (x.length:Int)) rfl ?_ rfl ?_
  .exact fG (e1:=[Zl [.int (n / 5)],Zs x,Zn,Zn,Zn,Zn]) rfl rfl rfl (j0 _ x.length hp (by omega))
  .show(uN x<|n / 5 % (x.length:Int)).map _=_;rw[ej,Lk hj]
   rfl
 .have t0:((d:Int) == 0)=false:=by rw[Qzz];omega
  rw[t0] at t;obtain⟨j,hj,ej⟩:=dig (n / 5) 3 (by decide);obtain⟨ds,hds,hl1,hl2⟩:∃ds,vG [.int (1+(j:Int))]=some ds/\0<ds.length/\ds.length<=4:=by
   have hc:j=0\/j=1\/j=2:=by omega
   rcases hc with rfl|rfl|rfl
   .exact⟨_,rfl,by decide,by decide⟩
   .exact⟨_,rfl,by decide,by decide⟩
   .exact⟨_,rfl,by decide,by decide⟩
  obtain⟨e',f1,n',kvs,zs,v3,v4,v5,rfl,hk,hz1,hz2⟩:=jV (g:=ak 3) ds
   (λdone env=>∃n kvs zs v3 v4 v5,env=[Zl [.int n],Zs x,Zt<|.dct kvs,v3,v4,v5]/\Lw x kvs zs/\zs.length<=done.length/\(0<done.length->0<zs.length))
   (λdone s rest hall env ⟨n,kvs,zs,v3,v4,v5,he,hk,hz1,hz2⟩=>by
    subst he;have hdl:done.length<=4:=by have:=Qx1 List.length hall;rw[Qqv,Qqy] at this;omega
    have hkl:kvs.length=zs.length:=by
     have:=Qx1 List.length hk.keys
     rwa [Qqx,Qqx] at this
    obtain⟨p,n',w4,w5,hpv,hb⟩:=fM.round n x hx kvs (by omega) (Zf s) v4 v5;obtain⟨zs',hk',z1,z2⟩:=hk.put hpv<|Lr hpv;exact⟨_,_,rfl,hb,n',_,zs',_,_,_,rfl,hk',by rw[Qqv,Qwj];omega,λ_=>z1⟩)
   [Zl [.int (n / 5 / 3)],Zs x,Zt<|.dct [],Zn,Zn,Zn] ⟨_,[],[],_,_,_,rfl,⟨rfl,.nil,λc hc=>by simp at hc,λk v h=>by simp at h⟩,Qq0 _,λh=>h⟩
  have hz3:zs.length<=4:=Qq1 hz1 hl2;have hok:Ik x (.tup<|prs kvs<|(lM<|zs.map λc=>[c]).map D.str):=by
   obtain⟨ps,e1,e2,e3⟩:=Km hx _<|Kz hk;have hl:ps.length=zs.length:=by rw[e2,Qqx,(kE _).length_eq,Qqx]
   rw[e1];have:=hz2 hl1;exact .chg (by omega) (by omega) e3
  let E0:Ev.Env:=[Zl [.int n'],Zs x,Zt<|.dct kvs,v3,v4,v5]
  refine⟨_,n',jg (env:=E0) ?_ rfl,hok⟩;unfold fM.gK;refine(aB<|(dw t).trans rfl).trans ?_;refine(aB (e:=[Zl [.int (n / 5)],Zs x,Zt<|.dct [],Zn,Zn,Zn]) rfl).trans ?_;refine(aB (e:=E0) ?_).trans ?_
  .refine(cZ ?_).trans f1;have a1:aa (aN cU (Zi 1)<|dX fM.bh 0<|aa (Zi 3) aj) aj [Zl [.int (n / 5)],Zs x,Zt<|.dct [],Zn,Zn,Zn]=.ok [.int (1+n / 5 % 3)] [Zl [.int (n / 5 / 3)],Zs x,Zt<|.dct [],Zn,Zn,Zn]:=by rfl
   unfold gj;rw[a1];show jj (vG [.int (1+n / 5 % ((3:Nat):Int))]) _=_;rw[ej,hds]
   rfl
  .exact Lf (Lg hk hz3) _ _ _ _ _
def rule(n)(x)(hx:x∈XS):∃w ch l r n',fM.jB [.lst [.int n],.str x]=some (.tup [w,ch,l,r],.lst [.int n'])/\mG x w ch l r:=by
 obtain⟨d,hd,e⟩:=dig n 2 (by decide);obtain⟨w,hw,h1⟩:∃w,(w=.str [111,110,99,101]\/w=.str [97,108,111,110,103])/\bQ (.lst [.str [111,110,99,101],.str [97,108,111,110,103]]) (.int d)=some w:=by
  have hc:d=0\/d=1:=by omega
  rcases hc with rfl|rfl;exact⟨_,.inl rfl,rfl⟩;exact⟨_,.inr rfl,rfl⟩
 obtain⟨ch,n1,h2,h3⟩:=changes (n / 2) x hx;obtain⟨l,n2,h5,h6⟩:=fM.signs n1 x hx;obtain⟨r,n3,h7,h8⟩:=fM.signs n2 x hx;refine⟨w,ch,l,r,n3,jg (env:=[Zl [.int n3],Zs x,Zf w,Zf ch]) ?_ rfl,⟨hw,h3,h6,h8⟩⟩;unfold fM.mF;let E2:Ev.Env:=[Zl [.int (n / 2)],Zs x,Zf w,Zn];refine(aB (e:=E2) ?_).trans ?_;refine bB (e:=[Zl [.int (n / 2)],Zs x,Zn,Zn]) ?_ rfl;refine bj rfl rfl ?_;have e2:n % 2=d:=e;rw[e2];exact h1;let E1:Ev.Env:=[Zl [.int n1],Zs x,Zf w,Zf ch];refine(aB (e:=E1) ?_).trans ?_;exact bB (fG rfl rfl rfl h2) rfl;let E0:Ev.Env:=[Zl [.int n2],Zs x,Zf w,Zf ch];refine bT<|cG (aD rfl (aD rfl (aD (e1:=E0) ?_<|aD ?_ aY))) Ev.zz4;exact fG (e1:=E1) rfl rfl rfl h5;exact fG (e1:=E0) rfl rfl rfl h7
def order(n)(x)(hx:x∈XS)(m:Nat)(hm:m<=10):∃s Rs n',mW [.lst [.int n],.str x,.int m]=some (.tup [s,.tup Rs],.lst [.int n'])/\s∈sides/\(∀R∈Rs,cI x R)/\Rs.length<=m:=by
 obtain⟨d,hd,e⟩:=dig n 2 (by decide);obtain⟨s,hs,h1⟩:∃s,s∈sides/\bQ (.lst [.str [108,101,102,116],.str [114,105,103,104,116]]) (.int d)=some s:=by
  have hc:d=0\/d=1:=by omega
  rcases hc with rfl|rfl;exact⟨_,Qqj ..,rfl⟩;exact⟨_,Qqk _<|Qqj ..,rfl⟩
 obtain⟨j,hj,ej⟩:=dig (n / 2) (m+1) (by omega);obtain⟨Rs,env',g1,⟨n',v4,rfl⟩,g3,g4⟩:=dM.Kv (g:=ak 4) (e:=dX jB 0<|Zv 1 aj) (λenv=>∃n v4,env=[Zl [.int n],Zs x,Zf<|.int m,Zf s,v4]) (cI x) (fZ 0 1 j)
  [Zl [.int (n / 2 / (m+1))],Zs x,Zf<|.int m,Zf s,Zn] ⟨_,_,rfl⟩
  (λt _ env ⟨n,v4,he⟩=>by
   subst he;obtain⟨wy,ch,l,r,n',h2,h3⟩:=rule n x hx;refine⟨.tup [wy,ch,l,r],_,[Zl [.int n'],Zs x,Zf<|.int m,Zf s,Zf t],rfl,?_,⟨_,_,rfl⟩,_,_,_,_,rfl,h3⟩;exact fG (e1:=[Zl [.int n],Zs x,Zf<|.int m,Zf s,Zf t]) rfl rfl rfl h2)
 have hl:Rs.length=j:=by rw[jy] at g4;exact g4
 refine⟨s,Rs,n',jg (env:=[Zl [.int n'],Zs x,Zf<|.int m,Zf s]) ?_ rfl,hs,g3,by omega⟩;unfold rF;let E0:Ev.Env:=[Zl [.int (n / 2)],Zs x,Zf<|.int m,Zf s];refine(aB (e:=E0) ?_).trans ?_;refine bB (e:=[Zl [.int (n / 2)],Zs x,Zf<|.int m,Zn]) ?_ rfl;refine bj rfl rfl ?_;have e2:n % 2=d:=e;rw[e2];exact h1;refine bT<|cG (aD rfl (aD ?_ aY)) Ev.xm;refine aK (ds:=[.lst Rs]) (aD ?_ aY) rfl;refine o7 (n:=5) (aR:=[Zl [.int (n / 2 / (m+1))],Zs x,Zf<|.int m,Zf s]) ?_ rfl g1 (by rw[hl];exact Qq1 (show j<=10 by omega) (by decide));refine dM.tK (ds:=[.int (n / 2 % (m+1:Nat))]) ?_ ?_;refine aD ?_ aY;exact fG (e1:=E0) rfl rfl rfl (fM.j0 (n / 2) (m+1) (by omega) (by omega));have e2:=ej;rw[e2];exact dM.Vp (by omega)
open nZ (XS sides mG iQ fit eF)
def Pb(h:a env=.ok [.tup x,.tup y] e):Gr a env=.ok (tW x y) e:=by unfold Gr;rw[h];rfl
structure yd(x:List Nat)(s:D)(Rs:List D)(ss:List St):Prop where
 hx:x∈XS
 hs:s∈sides
 hR:∀R∈Rs,cI x R
 h4:Rs.length<=4
 hl:ss.length=Rs.length
 hS:∀t∈ss,m5 x t
def ahD(h:n<=4)(hm:m<=7):(m+2)*2^n<=150:=by have h1:2^n<=2^4:=Qx8 (by decide) h;have h2:(m+2)*2^n<=9*2^4:=Qb9 (by omega) h1;omega
section
variable{x:List Nat}{s:D}{Rs:List D}{ss:List St}(o:yd x s Rs ss){z:List Nat}(hz:∀a∈z,a∈35::x)(hn:z.length<=7)
include o hz hn
theorem watch_on:∃us,qy [.tup [s,.tup Rs],.tup (ss.map bL),.str z]=some (.tup [.tup ((lZ x (lay s Rs) ss z).1.map bL),.str (lZ x (lay s Rs) ss z).2,.tup us])/\yd x s Rs (lZ x (lay s Rs) ss z).1:=by
 have h1:=reading_rules o.hx o.hs o.hR<|Qq1 o.h4 (by decide);have h2:=sr (s:=s) o.hR;have h3:=lg s Rs;have h4:=o.h4;have hl:=o.hl;have hx:=o.hx;generalize lay s Rs=Ls at *;generalize D.tup [s,.tup Rs]=O at *;obtain⟨us,w6,w7,w8,w9,g1,g2,g3,g4⟩:=adC hx (Zf O) (Zf<|.tup<|ss.map bL) (Zs z) Ls ss z [] [] none none none none (by omega) h2 o.hS hz (ahD (by omega) hn) (by rw[Qx2];omega) (by rw[Qx2];omega);refine⟨us,cL (env:=[Zf O,(Zf<|.tup<|ss.map bL),Zs z,(Zs<|(lZ x Ls ss z).2),(Zl<|[]++(lZ x Ls ss z).1.map bL),Zl us,w6,w7,w8,w9]) ?_,hx,o.hs,o.hR,h4,by omega,g2⟩;unfold mD;refine(aB (by rfl)).trans ?_;refine(aB (by rfl)).trans ?_;refine(aB (by rfl)).trans ?_;refine(aB<|(cZ ?_).trans g1).trans ?_;exact Pb<|aD (aK (by rfl) h1) (by rfl);rw[Qbj];exact bT<|cG (by rfl) Ev.zz3
theorem read_on:oJ [.tup [s,.tup Rs],.tup (ss.map bL),.str z]=some (.tup [.tup ((lZ x (lay s Rs) ss z).1.map bL),.str (lZ x (lay s Rs) ss z).2])/\yd x s Rs (lZ x (lay s Rs) ss z).1:=by
 obtain⟨us,h1,h2⟩:=watch_on o hz hn;refine⟨?_,h2⟩;generalize(lZ x (lay s Rs) ss z).1.map bL=T at *;generalize(lZ x (lay s Rs) ss z).2=q at *;generalize D.tup [s,.tup Rs]=O at *;let E0:Ev.Env:=[Zf O,(Zf<|.tup<|ss.map bL),Zs z,Zf<|.tup T,Zs q,Zf<|.tup us];refine cL (env:=E0) ?_;unfold mY;refine(aB (e:=E0) ?_).trans ?_;exact bB (aK (by rfl) h1) (by rfl);exact bT<|cG (by rfl) Ev.xm
omit hz hn
theorem watch_end:∃us,pC [.tup [s,.tup Rs],.tup (ss.map bL)]=some (.tup [.str (xX x (lay s Rs) ss []),.tup us]):=by
 have h1:=reading_rules o.hx o.hs o.hR<|Qq1 o.h4 (by decide);have h2:=sr (s:=s) o.hR;have h3:=lg s Rs;have h4:=o.h4;have hl:=o.hl;generalize lay s Rs=Ls at *;generalize D.tup [s,.tup Rs]=O at *;obtain⟨us,w6,w7,w8,w9,g1,g4⟩:=adD o.hx (Zf O) (Zf<|.tup<|ss.map bL) Ls ss [] [] none none none none (by omega) h2 o.hS (λa ha=>by simp at ha) (ahD (by omega) (by decide)) (by rw[Qx2];omega);refine⟨us,cL (env:=[Zf O,(Zf<|.tup<|ss.map bL),Zs<|xX x Ls ss [],Zl us,w6,w7,w8,w9]) ?_⟩;unfold kZ;refine(aB (by rfl)).trans ?_;refine(aB (by rfl)).trans ?_;refine(aB<|(cZ ?_).trans g1).trans ?_;exact Pb<|aD (aK (by rfl) h1) (by rfl);exact bT<|cG (by rfl) Ev.xm
theorem end_of:nJ [.tup [s,.tup Rs],.tup (ss.map bL)]=some (.str (xX x (lay s Rs) ss [])):=by obtain⟨us,h1⟩:=watch_end o;generalize xX x (lay s Rs) ss []=q at *;generalize D.tup [s,.tup Rs]=O at *;exact cL<|bT<|bj (aK (by rfl) h1) (by rfl) (by rfl)
end
def aas(h1:c env=.ok x0 e1)(h2:a e1=.ok ds e2)(h3:f (x0::ds)=some (d,x')):Ur f c a env=.ok d e2:=by unfold Ur;rw[h1];simp[bindR];rw[h2];simp;rw[h3]
end jr
namespace Lz
open Ev PySem L2
open fM (SG cD)
open nZ (XS sides mG iQ fit eF ye look jK iH encC sg ed nw ik cg out inn pc pin)
open zV (cI jn nH cF fin Eb Bm)
open jr (Rl stp rd Ff yK Kg Is Z7 nY ni lZ xX sI lay tn lf Hm nrC bL m5 yd rt)
open K10 (J gP ad3)
section
variable{l r:D}{c:Nat}{kvs:List (D×D)}
theorem XR:∀w p h q,(rd (.put c l r) (fit l p,h) (w++[q])).2=h++J (gP l r c) p w q
 |[],p,h,q=>by
  show(rd (.put c l r) (fit l p,h) [q]).2=_;rw[Kg]
  rfl
 |a::t,p,h,q=>by
  show(stp (.put c l r) (fit l p,h) a).2++(rd (.put c l r) (fit l a,[a])<|t++[q]).2=h++(gP l r c p a++a::J (gP l r c) a t q);rw[XR t a [a] q];show(h++gP l r c p a)++([a]++_)=_;simp
theorem ain(w)(near n):Hm kvs (sg w (n+1)) (fit l near&&fit r (sg w (n+2)))=nw kvs l r w near n:=by
 unfold Hm nw;cases look kvs (sg w<|n+1) with
 |none=>simp|some t=>cases fit l near&&fit r (sg w<|n+2)<;>rfl
theorem Sy(w)(h:n<(w++[35]).length):(w++[35]).take (n+1)=(w++[35]).take n++[sg w (n+1)]:=by
 have e:sg w (n+1)=(w++[35])[n]:=by
  show(w++[35]).getD n 0=_;rw[Qq6,Qq7 h]
  rfl
 rw[e,Qv8 h]
theorem XX(al)(hk:ye x kvs)(hw:∀c∈w,c∈x):∀n,n<=w.length->rd (.chg al kvs l r) (fit l 35,[]) ((w++[35]).take (n+1))=((fit l (ik al w (cg al kvs l r w n) n),[sg w (n+1)]),(cg al kvs l r w n).flatten)
 |0,_=>by
  rw[Sy w (by rw[Qqv];exact Nat.succ_pos _),List.take_zero,Qbj,Kg];show((fit l 35,[sg w 1]),[])=((fit l<|ik al w [] 0,[sg w 1]),[].flatten);cases al<;>rfl
 |n+1,h=>by
  have hl:n+1<(w++[35]).length:=by rw[Qqv,Qwj];omega
  rw[Sy w hl,yK,XX al hk hw n (by omega)];have hno:=nZ.Zo (l:=l) (r:=r) hk hw (n:=n) (by omega)<|ik al w (cg al kvs l r w n) n;show((nrC al l (sg w<|n+1) (fit l<|ik al w (cg al kvs l r w n) n)<|Hm kvs (sg w<|n+1)<|fit l (ik al w (cg al kvs l r w n) n)&&fit r (sg w<|n+2),[sg w (n+2)]),(cg al kvs l r w n).flatten++Hm kvs (sg w<|n+1) (fit l (ik al w (cg al kvs l r w n) n)&&fit r (sg w<|n+2)))=((fit l<|ik al w (cg al kvs l r w n++[nw kvs l r w (ik al w (cg al kvs l r w n) n) n])<|n+1,[sg w (n+2)]),(cg al kvs l r w n++[nw kvs l r w (ik al w (cg al kvs l r w n) n) n]).flatten);rw[ain];generalize cg al kvs l r w n=made at *;generalize hN:ik al w made n=near at *;generalize nw kvs l r w near n=t at *;have h2:nrC al l (sg w<|n+1) (fit l near) t=fit l (ik al w (made++[t])<|n+1):=by
   cases al with
   |false=>rfl|true=>rw[nZ.Rw made t n hno.1,hN];unfold nrC;rw[Qv4 rfl];split<;>rfl
  rw[h2,Qx4];simp
end
section
variable{x:List Nat}{R:D}(hx:x∈XS)(hR:cI x R){w:List Nat}(hw:∀c∈w,c∈x)(hn:w.length<=30000)
noncomputable def trd(x:List Nat)(R:D)(w:List Nat):List Nat:=(rd (nY x R) (fit (lf R) 35,[]) (w++[35])).2
include hx hR hw hn
theorem Jt:nZ.dD [R,.str w]=some (.str (trd x R w)):=by
 have hi:=ni hR;unfold trd;generalize nY x R=ρ at *;cases hi with
 |put hc hl hr=>
  rename_i wy l r c;have e:(rd (.put c l r) (fit (lf<|.tup [wy,.tup [.tup [.str [],.str [c]]],l,r]) 35,[])<|w++[35]).2=inn l r c w:=by rw[ad3];exact XR w 35 [] 35
  rw[e];exact nZ.wQ hx hl hr hw hn _ c
 |chg hp hd hk hl hr=>
  rename_i al ps kvs l r;have e:(rd (.chg al kvs l r) (fit (lf<|.tup [iH al,.tup<|ps.map encC,l,r]) 35,[])<|w++[35]).2=out al kvs l r w:=by
   have h1:=XX (l:=l) (r:=r) al hk hw w.length<|Qq0 _;rw[Qz8 (by rw[Qqv];exact Qq0 _)] at h1;show(rd (.chg al kvs l r) (fit l 35,[])<|w++[35]).2=_;rw[h1]
   rfl
  rw[e];exact nZ.wR hx hl hr hw hn hk al ps hp hd
theorem acr:cF (.str [108,101,102,116]) R w=trd x R w:=by unfold cF;rw[nZ.Xu (Jt hx hR hw hn)]
theorem XQ:cF (.str [114,105,103,104,116]) R w=(trd x (tn R) w.reverse).reverse:=by obtain⟨t1,t2,t3⟩:=jr.Mm hR;unfold cF;rw[nZ.Xr t3 (Jt hx t1 (λc hc=>hw c<|Qvz.mp hc) (by rw[Qky];exact hn))]
end
noncomputable def Mp(x:List Nat)(Ls:List D)(w:List Nat):List Nat:=Ls.foldl (λv L=>trd x L v) w
theorem Ld:∀Ls w,xX x Ls (sI Ls) w=Mp x Ls w
 |[],w=>rfl
 |L::Ls,w=>by
  show xX x Ls (sI Ls) (trd x L w)=Mp x Ls (trd x L w);exact Ld Ls _
theorem Di:∀Ls ss z y,Ls.length=ss.length->(lZ x Ls ss z).2++xX x Ls (lZ x Ls ss z).1 y=xX x Ls ss (z++y)
 |[],[],z,y,_=>rfl|[],_::_,_,_,h=>by simp at h|_::_,[],_,_,h=>by simp at h
 |L::Ls,s::ss,z,y,h=>by
  show(lZ x Ls ss (rd (nY x L) s z).2).2++xX x Ls (lZ x Ls ss (rd (nY x L) s z).2).1 (rd (nY x L) (rd (nY x L) s z).1<|y++[35]).2=xX x Ls ss (rd (nY x L) s<|z++y++[35]).2;rw[Di Ls ss _ _ (by simpa using h),Qxx,Ff (nY x L) z s<|y++[35]]
theorem Dj:∀Ls ss z y,Ls.length=ss.length->lZ x Ls ss (z++y)=((lZ x Ls (lZ x Ls ss z).1 y).1,(lZ x Ls ss z).2++(lZ x Ls (lZ x Ls ss z).1 y).2)
 |[],[],z,y,_=>rfl|[],_::_,_,_,h=>by simp at h|_::_,[],_,_,h=>by simp at h
 |L::Ls,s::ss,z,y,h=>by
  show((rd (nY x L) s<|z++y).1::(lZ x Ls ss (rd (nY x L) s<|z++y).2).1,(lZ x Ls ss (rd (nY x L) s<|z++y).2).2)=_;rw[Ff];simp only;rw[Dj Ls ss _ _ (by simpa using h)]
  rfl
theorem yJ:∀Ls ss,Ls.length=ss.length->lZ x Ls ss []=(ss,[])
 |[],[],_=>rfl|[],_::_,h=>by simp at h|_::_,[],h=>by simp at h
 |L::Ls,s::ss,h=>by
  show(s::(lZ x Ls ss []).1,(lZ x Ls ss []).2)=_;rw[yJ Ls ss (by simpa using h)]
def uA(s:D)(w:List Nat):List Nat:=if rt s=true then w.reverse else w
def zF(s)(w):uA s (uA s w)=w:=by
 unfold uA;split;rw[Qh3];rfl
section
variable{x:List Nat}(hx:x∈XS)
include hx
theorem S5{s R:D}(hs:s∈sides)(hR:cI x R)(hw:∀c∈w,c∈x)(hn:(w.length+1)*2^(n+1)<=301):w.length<=30000/\(∀c∈cF s R w,c∈x)/\((cF s R w).length+1)*2^n<=301:=by
 have h2:(w.length+1)*2^(n+1)=(2*w.length+1+1)*2^n:=by
  rw[Qhx,<-Qh8,Qf1]
  congr 1
  omega
 have hp:1<=2^n:=Qf0;have hwl:w.length<=30000:=by have:2*w.length+1+1<=(2*w.length+1+1)*2^n:=Qb3 _ hp;omega
 obtain⟨_,h3,h4⟩:=zV.agW hx hs hR hw hwl;have h5:((cF s R w).length+1)*2^n<=(2*w.length+1+1)*2^n:=Qjw _ (by omega);exact⟨hwl,h3,by omega⟩
theorem Pa:∀Rs w,(∀R∈Rs,cI x R)->(∀c∈w,c∈x)->(w.length+1)*2^Rs.length<=301->fin (.str [108,101,102,116]) Rs w=Mp x Rs w
 |[],w,_,_,_=>rfl
 |R::Rs,w,hR,hw,hn=>by
  have hR0:=hR R<|Qqj ..;obtain⟨h1,h2,h3⟩:=S5 hx (Qqj ..) hR0 hw hn;show fin (.str [108,101,102,116]) Rs (cF (.str [108,101,102,116]) R w)=Mp x Rs (trd x R w);rw[Pa Rs _ (λQ hQ=>hR Q<|Qqk _ hQ) h2 h3,acr hx hR0 hw h1]
theorem Jv:∀Rs w,(∀R∈Rs,cI x R)->(∀c∈w,c∈x)->(w.length+1)*2^Rs.length<=301->fin (.str [114,105,103,104,116]) Rs w=(Mp x (Rs.map tn) w.reverse).reverse
 |[],w,_,_,_=>by
  show w=w.reverse.reverse;rw[Qh3]
 |R::Rs,w,hR,hw,hn=>by
  have hR0:=hR R<|Qqj ..;obtain⟨h1,h2,h3⟩:=S5 hx (Qqk _<|Qqj ..) hR0 hw hn;show fin (.str [114,105,103,104,116]) Rs (cF (.str [114,105,103,104,116]) R w)=(Mp x (Rs.map tn)<|trd x (tn R) w.reverse).reverse;rw[Jv Rs _ (λQ hQ=>hR Q<|Qqk _ hQ) h2 h3,XQ hx hR0 hw h1,Qh3]
theorem aap(hs:s∈sides)(hR:∀R∈Rs,cI x R)(hw:∀c∈w,c∈x)(hn:(w.length+1)*2^Rs.length<=301):fin s Rs w=uA s (Mp x (lay s Rs) (uA s w)):=by
 rcases Qq4.mp hs with rfl|hs;exact Pa hx Rs w hR hw hn;cases Qqw.mp hs;exact Jv hx Rs w hR hw hn
theorem aaP(hs:s∈sides)(hR:∀R∈Rs,cI x R)(hw:∀c∈w,c∈x)(hn:(w.length+1)*2^Rs.length<=301) :
  (lZ x (lay s Rs) (sI (lay s Rs)) (uA s w)).2++xX x (lay s Rs) (lZ x (lay s Rs) (sI (lay s Rs)) (uA s w)).1 []=uA s (fin s Rs w):=by
 rw[aap hx hs hR hw hn,zF,Di _ _ _ _ (by unfold sI;rw[Qqx]),Qw8,Ld]
end
open nZ (XS sides mG iQ fit eF)
open jr (lZ xX sI lay bL m5 yd rt rd nY ni wL yz yx Dh)
theorem Kf:∀Ls ss z,(∀R∈Ls,cI x R)->(∀s∈ss,m5 x s)->(∀a∈z,a∈35::x)->(lZ x Ls ss z).2.length<=2^Ls.length*z.length
 |[],[],z,_,_,_=>by show z.length<=1*z.length;omega|[],_::_,z,_,_,_=>by show z.length<=1*z.length;omega
 |L::Ls,[],z,_,_,_=>by
  show z.length<=2^(Ls.length+1)*z.length;exact Q0w _<|Qbz _
 |L::Ls,s::ss,z,hR,hS,hz=>by
  obtain⟨o1,o2,o3⟩:=wL (ni<|hR L<|Qqj ..) z (hS s<|Qqj ..) hz;have h1:=Kf Ls ss (rd (nY x L) s z).2 (λQ hQ=>hR Q<|Qqk _ hQ) (λq hq=>hS q<|Qqk _ hq) o3;show(lZ x Ls ss (rd (nY x L) s z).2).2.length<=2^(Ls.length+1)*z.length;have h2:2^Ls.length*(rd (nY x L) s z).2.length<=2^Ls.length*(2*z.length):=Qy4 _ o2;rw[Qhx,Qh8];omega
def DK(h:c∈uA s w):c∈w:=by
 unfold uA at h;split at h;exact Qvz.mp h;exact h
end Lz
namespace K17
open Ev PySem L2
open fM (SG)
open nZ (XS sides iQ fit)
open zV (cI jn fin Bm)
open jr (bL yd m5 lZ xX sI lay tn lf rt yz yx Dh)
open Lz (Mp uA zF DK Dj Di yJ Ld aap)
def qS(ss:List jr.St):NK:=.tup (ss.map λs=>.tup [.num (if s.1 then 1 else 0),.txt (strOf s.2)])
theorem aiI:∀ss:List jr.St,uV (ss.map bL)=some (ss.map λs=>.tup [.num (if s.1 then 1 else 0),.txt (strOf s.2)])
 |[]=>rfl
 |(b,z)::ss=>by
  have h1:uW (bL (b,z))=some (.tup [.num (if b then 1 else 0),.txt<|strOf z]):=by simp[bL,uW,uV]
  rw[Qq8,Qq8];unfold uV;rw[h1,(aiI ss)]
theorem aec:∀ss:List jr.St,NK.qW (ss.map λs=>.tup [.num (if s.1 then 1 else 0),.txt (strOf s.2)])<=1
 |[]=>by unfold NK.qW;simp
 |s::ss=>by
  have ih:=aec ss;rw[Qq8];unfold NK.qW;have:NK.dep (.tup [.num (if s.1 then 1 else 0),.txt<|strOf s.2])=1:=by simp[NK.dep,NK.qW]
  rw[this];omega
def aiJ(ss):uW (.tup (ss.map bL))=some (qS ss):=by
 unfold uW;rw[aiI]
 rfl
def adU(ss):Ji (.tup (ss.map bL))=some (qS ss):=by
 show(uW<|.tup<|ss.map bL).bind _=_;rw[aiJ];have h:(qS ss).dep<=8:=by unfold qS NK.dep;have:=aec ss;omega
 exact Qv4 h
theorem Yh:∀(ss tt:List jr.St),(ss.map λs=>NK.tup [.num (if s.1 then 1 else 0),.txt (strOf s.2)])=(tt.map λs=>NK.tup [.num (if s.1 then 1 else 0),.txt (strOf s.2)])->ss=tt
 |[],[],_=>rfl|[],_::_,h=>by cases h|_::_,[],h=>by cases h
 |(b,z)::ss,(c,y)::tt,h=>by
  rw[Qq8,Qq8] at h;obtain⟨h1,h2⟩:=Qjv h;obtain⟨h4,h5⟩:=Qjv (NK.tup.inj h1);obtain⟨h6,_⟩:=Qjv h5;have h7:z=y:=SX.pZ<|NK.txt.inj h6;have h8:=NK.num.inj h4;simp at h8;have h9:b=c:=by cases b<;>cases c<;>first|rfl|(simp at h8)
  rw[h9,h7,Yh ss tt h2]
def Yi(h:qS ss=qS tt):ss=tt:=Yh ss tt<|NK.tup.inj h
def tL{i:Nat}{env e1 e2:Ev.Env}(h1:a env = .ok d e1)(h0:e1[i]? = some (some (o,z)))(h2:k e1 = .ok kd e2)(h3:e2[i]? = some (Zt (.iY kvs)))(h4:Ji kd=some q)(h5:kvs.length<sizeLine):qY i k a env = .nx (e2.set i (Zt (.iY (wM kvs kd q d)))):=by unfold qY;simp[h1,kY,h0,h2,h3,h4,Qv4 h5]
end K17
namespace K19
open Ev PySem L2
open nZ (XS sides iQ fit)
open zV (cI jn)
open jr (bL yd m5 rd nY ni wL lZ xX sI lay tn lf rt yz yx Dh)
open Lz (Dj Di yJ Kf)
theorem aau:∀Ls ss z,(∀R∈Ls,cI x R)->(∀s∈ss,m5 x s)->(∀a∈z,a∈35::x)->(∀a∈xX x Ls ss z,a∈35::x)/\(xX x Ls ss z).length+2<=2^Ls.length*(z.length+2)
 |[],[],z,_,_,h=>⟨h,by show z.length+2<=1*_;omega⟩|[],_::_,z,_,_,h=>⟨h,by show z.length+2<=1*_;omega⟩|L::Ls,[],z,_,_,h=>⟨h,by show z.length+2<=2^(Ls.length+1)*_;exact Q0w _<|Qbz _⟩
 |L::Ls,s::ss,z,hR,hS,hz=>by
  obtain⟨o1,o2,o3⟩:=wL (ni<|hR L<|Qqj ..) (z++[35]) (hS s<|Qqj ..) (λa ha=>by
   rcases Qww.mp ha with h|h
   exact hz a h
   rw[Qqw.mp h];exact Qqj ..)
  obtain⟨i1,i2⟩:=aau Ls ss (rd (nY x L) s<|z++[35]).2 (λQ hQ=>hR Q<|Qqk _ hQ) (λq hq=>hS q<|Qqk _ hq) o3;refine⟨i1,Qq1 i2 ?_⟩;rw[Qqv,Qwj] at o2;show _<=2^(Ls.length+1)*_;rw[Qhx,Qh8];exact Qy4 _ (by omega)
end K19
namespace KB
section
variable{P:Type}(L:P->Nat->P)(S:P->Bool)(x:List Nat)(p0:P)
def pl(w:List Nat):P:=w.foldl L p0
variable{L S x p0}
theorem Uh{α:Type}{l:List α}{a b:α}{i:Nat}(h:l[i]?=some b):(l++[a])[i]?=some b:=by rw[Qxj (Qq5.mp h).1];exact h
theorem sX{α:Type}[DecidableEq α]:∀(U ps:List α),ps.Nodup->(∀p∈ps,p∈U)->ps.length<=U.length
 |U,[],_,_=>Qxz _
 |U,p::ps,hn,hs=>by
  have hp:=hs p<|Qqj ..;have h:=sX (U.erase p) ps (Qx3.mp hn).2 λq hq=>by
   have hne:q≠p:=λe=>(Qx3.mp hn).1<|e ▸ hq;exact(Qh6 hne).mpr<|hs q<|Qqk _ hq
  have h2:=Qy8 hp;have h3:=Qj1 hp;rw[Qqy];omega
end
open Ev PySem L2
open fM (cD)
open nZ (sides)
open jr (rt)
open Lz (uA)
open K17 (tL)
section
variable{P:Type}[DecidableEq P]{Φ:Stmt->List D->LD}{sl ss:Stmt}{cl cs:List D}{x:List Nat}{p6 side:D}{so:LD}{en:P->D}{key:P->NK}{L:P->Nat->P}{S:P->Bool}{Ok:P->Prop}{U:List P}{p0:P}
structure Gives(Φ:Stmt->List D->LD)(sl ss:Stmt)(cl cs:List D)(x:List Nat)(en:P->D)(key:P->NK)(L:P->Nat->P)(S:P->Bool)(Ok:P->Prop)(U:List P):Prop where
 lead:∀p a,Ok p->a∈x->Φ sl cl [en p,.str [a]]=some (en (L p a))/\Ok (L p a)
 shows:∀p,Ok p->Φ ss cs [en p]=some (.bl (S p))
 nk:∀p,Ji (en p)=some (key p)
 inj:∀p q,key p=key q->p=q
 all:∀p,Ok p->p∈U
 few:U.length<=6998
def kn(en:P->D)(ps:List P):List (D×D):=ps.map λp=>(en p,.bl true)
variable(G:Gives Φ sl ss cl cs x en key L S Ok U)
include G
omit G [DecidableEq P] in
end
section
variable{P:Type}[DecidableEq P]{Φ:Stmt->List D->LD}{sl ss:Stmt}{cl cs:List D}{x:List Nat}{p6 side:D}{so:LD}{en:P->D}{key:P->NK}{L:P->Nat->P}{S:P->Bool}{Ok:P->Prop}{U:List P}{p0:P}
variable(G:Gives Φ sl ss cl cs x en key L S Ok U)
theorem o6(h1:g d env=some e1)(h2:b e1=.nx e2):jM g b (d::ds) env=jM g b ds e2:=by
 conv=>lhs;unfold jM
 rw[h1];simp;rw[h2]
theorem DY(h:t env=.ok true e1)(h2:b e1=.nx e2):eV t b (m+1) env=eV t b m e2:=by
 conv=>lhs;unfold eV
 rw[h];simp[kY,Qhv];rw[h2]
theorem Ma(h:t env=.ok false e1):eV t b (m+1) env=.nx e1:=by
 conv=>lhs;unfold eV
 rw[h];rfl
include G
end
end KB
namespace iG
open Ev
section
def nu:Ev:=lD.nu
def mX:cu:=lD.mX
def eG:LD:=cQ 1 mX
def oV:cu:=lD.oV
def kW:LD:=cQ 2 oV
def qH:cu:=lD.qH
def qz:LD:=cQ 5 qH
def oO:cu:=lD.oO
def oK:LD:=cQ 1 oO
def mq:Ev:=lD.mq
def gA:cu:=lD.gA
def dR:LD:=cQ 3 gA
def lJ:Ev:=lD.lJ
def gY:cu:=lD.gY
def dW:LD:=cQ 1 gY
def eN:cu:=lD.eN
def fC:LD:=cQ 10 eN
def fP:cu:=lD.fP
def fO:LD:=cQ 10 fP
def lR:cu:=lD.lR
def jC:cu:=lD.jC
def iT:LD:=cQ 8 jC
def o4:cu:=lD.o4
def mD:cu:=lD.mD
def qy:LD:=cQ 10 mD
def nA:cu:=lD.nA
def kZ:cu:=lD.kZ
def pC:LD:=cQ 8 kZ
def mY:cu:=lD.mY
def oJ:LD:=cQ 6 mY
def qJ:cu:=lD.qJ
def nJ:LD:=cQ 2 qJ
def jT:cu:=aC (aQ (au oJ (Zv 1 (aa (aq bQ 2 (au cJ (aa (aU 4) aj))) (Zv 6 aj)))) (bV 2 (aH (ak 7) (aH (ak 8) bZ)))) (aC (dH (cR (aq lU 7 (aU 3))) (aC (qY 3 (aM 7) (au cJ (aa (aU 2) aj))) (dZ 2 (aM 7))) bU) (dZ 5 (bK (Zv 8 (aa (aq zq 3 (aU 7)) aj)))))
def jR:cu:=aC (cT 5 (cB aj)) (aC (dF (dO (au eG (Zv 0 aj))) (ak 6) (jT)) (aC (dH (cR (aN gGt (au cJ (aa (aU 2) aj)) (Zi 600))) (JZ) bU) (dZ 4 (au cO (aa (aU 5) aj)))))
def uC:cu:=aC (cT 2 (cB (aa (au dW (Zv 1 aj)) aj))) (aC (cT 3 (K8 (aq bQ 2 (Zi 0)) (Zi 0))) (aC (cT 4 (cB aj)) (aC (eV (cR (aN wV (au cJ (aa (aU 4) aj)) (au cJ (aa (aU 2) aj)))) (jR) 7000) (bw (bK (Zv 2 (Zv 4 aj)))))))
def qC:LD:=cQ 9 uC
def yX:cu:=lD.yX
def UJ:cu:=aC (aQ (aM 1) (bV 2 (aH (ak 4) (aH (ak 5) bZ)))) (aC (aQ (au eG (Zv 0 aj)) (ak 6)) (aC (cT 7 (cB (Zv 4 aj))) (aC (aQ (Zi 0) (ak 8)) (aC (aQ (RP (cR (aq lV 2 (Zw [114,105,103,104,116]))) (pD (aM 3)) (aM 3)) (ak 9)) (aC (dF (dO (aM 9)) (ak 10) (yX)) (aC (dZ 7 (aN bQ (aq bQ 5 (aU 8)) (Zi 0))) (aC (aQ (aN pB (Zw []) (aU 7)) (ak 12)) (bw (RP (cR (aq lV 2 (Zw [114,105,103,104,116]))) (pD (aM 12)) (aM 12))))))))))
def Gq:LD:=cQ 13 UJ
def iK:Ev:=d9 4 6 (zy (Zv 2 (Zv 3 aj))) (bV 2 (aH (ak 4) (aH (ak 5) bZ))) cA (bK (aa (au nJ (Zv 1 (Zv 4 aj))) (Zv 5 aj)))
def j9:cu:=aC (aQ (au qC (Zv 0 (Zv 1 aj))) (bV 2 (aH (ak 2) (aH (ak 3) bZ)))) (bw (iK))
def iR:LD:=cQ 4 j9
def iJ:cu:=S6 3 (Zi 1)
def gh:cu:=aC (aQ (Zi 0) (ak 3)) (aC (eV (di (cR (aq wV 3 (au cJ (aa (aU 1) aj)))) (di (cR (aq wV 3 (au cJ (aa (aU 2) aj)))) (cR (aN lV (aq bQ 1 (aU 3)) (aq bQ 2 (aU 3)))))) (iJ) 7000) (aQ (BW (aM 1) pU (Bo (aM 3))) (ak 1)))
def nU:cu:=aC (aQ (aq bQ 0 (Zi 0)) (ak 1)) (aC (dF (dO (aM 0)) (ak 2) (gh)) (bw (aM 1)))
def jo:LD:=cQ 4 nU
def jb:Ev:=d9 3 5 (dO (aM 0)) (bV 2 (aH (ak 3) (aH (ak 4) bZ))) cA (aM 3)
def fK:Ev:=d9 5 7 (dO (aM 4)) (bV 2 (aH (ak 5) (aH (ak 6) bZ))) cA (aq cU 5 (aq bQ 1 (aU 6)))
def gB:Ev:=d9 3 5 (dO (aM 0)) (bV 2 (aH (ak 3) (aH (ak 4) bZ))) cA (au jo (aa (aN cU (cB (Zv 3 aj)) (fK)) aj))
def fJ:cu:=aC (aQ (aM 2) (ak 1)) (cT 2 (gB))
def lC:cu:=aC (aQ (cB aj) (ak 1)) (aC (cT 2 (jb)) (aC (eV (cR (aq yf 2 (aU 1))) (fJ) 20000) (bw (aM 2))))
def jq:LD:=cQ 3 lC
def ir:Ev:=d9 7 9 (dO (aM 5)) (bV 2 (aH (ak 7) (aH (ak 8) bZ))) cA (bK (aa (BW (aq cU 7 (aq bQ 1 (aU 8))) (Bo (aM 6)) pU) (Zv 8 aj)))
def fW:cu:=aC (aQ (au cJ (aa (aU 3) aj)) (ak 6)) (dZ 2 (bK (aa (BW (aM 4) (Bo (aM 6)) pU) (aa (au cO (aa (ir) aj)) aj))))
def lX:cu:=aC (aQ (au jq (Zv 0 aj)) (ak 1)) (aC (cT 2 (cB aj)) (aC (dF (zy (Zv 1 (Zv 0 aj))) (bV 2 (aH (ak 3) (aH (bV 2 (aH (ak 4) (aH (ak 5) bZ))) bZ))) (fW)) (bw (bK (aa (aq bQ 1 (Zi 0)) (Zv 2 aj))))))
def jN:LD:=cQ 7 lX
def jU:cu:=dH (cR (aq lU 2 (aU 1))) (qY 1 (aM 2) (au Js (aa (aU 1) aj))) bU
def oZ:Ev:=d9 3 4 (dO (aM 0)) (ak 3) cA (aq zq 1 (aU 3))
def uD:cu:=aC (cT 1 (K9)) (aC (dF (dO (aM 0)) (ak 2) (jU)) (bw (oZ)))
def mz:LD:=cQ 3 uD
def jm:Ev:=d9 5 7 (dO (aM 4)) (bV 2 (aH (ak 5) (aH (ak 6) bZ))) cA (aM 5)
def jl:Ev:=d9 3 5 (dO (aM 0)) (bV 2 (aH (ak 3) (aH (ak 4) bZ))) cA (bK (Zv 3 (aa (au cO (aa (jm) aj)) aj)))
def gU:Ev:=d9 6 8 (dO (aM 5)) (bV 2 (aH (ak 6) (aH (ak 7) bZ))) cA (aq bQ 1 (aU 7))
def jk:Ev:=d9 3 6 (Dy (Zv 0 aj)) (bV 2 (aH (ak 3) (aH (bV 2 (aH (ak 4) (aH (ak 5) bZ))) bZ))) cA (bK (aa (aq bQ 1 (aU 3)) (aa (au cO (aa (gU) aj)) aj)))
def gQ:cu:=aC (aQ (kh nG (aM 1)) (ak 2)) (aQ (au mz (aa (jk) aj)) (ak 1))
def o8:cu:=aC (aQ (au mz (aa (jl) aj)) (ak 1)) (aC (aQ (Zi 0) (ak 2)) (aC (eV (cR (aq wV 2 (kh nG (aM 1)))) (gQ) 7000) (bw (aM 1))))
def lO:LD:=cQ 3 o8
def mU:cu:=aC (dH (cR (aN qb (aq bQ 1 (aU 9)) (aU 2))) (aC (qd 2 (aq bQ 1 (aU 9)) (au cJ (aa (aU 3) aj))) (dZ 3 (aM 9))) bU) (dZ 7 (bK (Zv 8 (aa (aq jL 2 (aq bQ 1 (aU 9))) aj))))
def mJ:cu:=aC (aQ (aq bQ 0 (aq bQ 3 (au cJ (aa (aU 4) aj)))) (bV 2 (aH (ak 5) (aH (ak 6) bZ)))) (aC (cT 7 (cB aj)) (aC (dF (dO (aM 6)) (bV 2 (aH (ak 8) (aH (ak 9) bZ))) (mU)) (dZ 4 (bK (Zv 5 (aa (au cO (aa (aU 7) aj)) aj))))))
def zL:cu:=aC (aQ (au lO (Zv 0 aj)) (ak 1)) (aC (cT 2 (Dz (aq bQ 1 (Zi 0)) (Zi 0))) (aC (cT 3 (cB (aa (Zi 0) aj))) (aC (cT 4 (cB aj)) (aC (eV (cR (aN wV (au cJ (aa (aU 4) aj)) (au cJ (aa (aU 3) aj)))) (mJ) 7000) (bw (au cO (aa (aU 4) aj)))))))
def tH:LD:=cQ 10 zL
def lY:cu:=aC (aQ (au jN (aa (au iR (Zv 0 (Zv 1 aj))) aj)) (bV 2 (aH (ak 2) (aH (ak 3) bZ)))) (bw (bK (Zv 2 (aa (au tH (Zv 3 aj)) aj))))
def cY:LD:=cQ 4 lY
def iu:Ev:=d9 7 8 (dO (aM 0)) (ak 7) cA (aq cU 6 (aU 7))
def iw:cu:=Iv 5 (iu)
end
end iG
namespace KM
abbrev gG:=List Nat×List (List Nat×Nat)
def jY(M:List gG):Nat->List Nat->Option (List Nat)
 |i,[]=>M[i]?.map (·.1)
 |i,a::w=>match M[i]? with
  |none=>none
  |some st=>match st.2[a]? with
   |none=>none|some pt=>(jY M pt.2 w).map (pt.1 ++ ·)
structure zX(M:List gG)(c:List (List Nat)):Prop where
 len:c.length=M.length
 fin:∀(i:Nat) (st:gG),M[i]?=some st->(c.getD i []) <+: st.1
 stp:∀(i:Nat) (st:gG) (pt:List Nat×Nat),M[i]?=some st->pt∈st.2->(c.getD i []) <+: pt.1++c.getD pt.2 []
def early(c:List (List Nat))(i:Nat)(st:gG):gG:=(st.1.drop (c.getD i []).length,st.2.map λpt=>((pt.1++c.getD pt.2 []).drop (c.getD i []).length,pt.2))
def aer(M M':List gG)(c:List (List Nat)):Prop:=∀i,M'[i]?=M[i]?.map (early c i)
def Nv{a b:List Nat}(h:a <+: b):b=a++b.drop a.length:=by obtain⟨t,rfl⟩:=h;rw[List.drop_left]
def Vn(C:zX M c)(E:aer M M' c):∀w i r,jY M i w=some r->∃r',jY M' i w=some r'/\r=c.getD i []++r':=by
 intro w;induction w with
 |nil=>intro i r h;unfold jY at h;obtain⟨st,h1,rfl⟩:=Qwz.mp h;refine⟨st.1.drop (c.getD i []).length,?_,Nv<|C.fin i st h1⟩;unfold jY;rw[E i,h1];rfl
 |cons a w ih=>
  intro i r h;unfold jY at h;cases h1:M[i]? with
  |none=>rw[h1] at h;cases h
  |some st=>
   rw[h1] at h;simp at h;cases h2:st.2[a]? with
   |none=>rw[h2] at h;cases h|some pt=>rw[h2] at h;obtain⟨r1,h3,rfl⟩:=Qwz.mp<|show(jY M pt.2 w).map (pt.1 ++ ·)=some r from h;obtain⟨r2,h4,rfl⟩:=ih pt.2 r1 h3;refine⟨(pt.1++c.getD pt.2 []).drop (c.getD i []).length++r2,?_,?_⟩;unfold jY;rw[E i,h1];show(match (st.2.map λpt=>((pt.1++c.getD pt.2 []).drop (c.getD i []).length,pt.2))[a]? with|none=>none|some pt=>(jY M' pt.2 w).map (pt.1 ++ ·))=_;rw[Qw1,h2];show(jY M' pt.2 w).map _=_;rw[h4];rfl;rw[<-Qxx,<-Qxx,<-(Nv<|C.stp i st pt h1<|Qwk h2)]
structure Alike(M:List gG)(g:Nat->Nat):Prop where
 fin:∀(i j:Nat) (s t:gG),M[i]?=some s->M[j]?=some t->g i=g j->s.1=t.1/\s.2.map (·.1)=t.2.map (·.1)/\s.2.map (λpt=>g pt.2)=t.2.map (λpt=>g pt.2)
 inn:∀(i:Nat) (st:gG) (pt:List Nat×Nat),M[i]?=some st->pt∈st.2->pt.2<M.length
def Vo(A:Alike M g):∀w i j,i<M.length->j<M.length->g i=g j->jY M i w=jY M j w:=by
 intro w;induction w with
 |nil=>intro i j hi hj hg;unfold jY;rw[Qq7 hi,Qq7 hj];show some M[i].1=some M[j].1;rw[(A.fin i j _ _ (Qq7 hi) (Qq7 hj) hg).1]
 |cons a w ih=>
  intro i j hi hj hg;have h1:=Qq7 hi;have h2:=Qq7 hj;obtain⟨e1,e2,e3⟩:=A.fin i j _ _ h1 h2 hg;unfold jY;rw[h1,h2];have k2:=Qx1 (λl=>l[a]?) e2;have k3:=Qx1 (λl=>l[a]?) e3;simp[Qw1] at k2 k3;show(match M[i].2[a]? with|none=>none|some pt=>(jY M pt.2 w).map (pt.1 ++ ·))=(match M[j].2[a]? with|none=>none|some pt=>(jY M pt.2 w).map (pt.1 ++ ·));cases p:M[i].2[a]? with
  |none=>
   rw[p] at k2;cases q:M[j].2[a]? with
   |none=>rfl|some t=>rw[q] at k2;cases k2
  |some s=>
   rw[p] at k2 k3;cases q:M[j].2[a]? with
   |none=>rw[q] at k2;cases k2|some t=>rw[q] at k2 k3;have u1:s.1=t.1:=Qw4 k2;show(jY M s.2 w).map _=(jY M t.2 w).map _;rw[ih s.2 t.2 (A.inn i _ s h1<|Qwk p) (A.inn j _ t h2<|Qwk q) (Qw4 k3),u1]
structure aa3(M N:List gG)(g:Nat->Nat)(kept:List Nat)(pl:Nat->Nat):Prop where
 len:N.length=kept.length
 inn:∀k∈kept,k<M.length
 row:∀(j k:Nat) (st:gG),kept[j]?=some k->M[k]?=some st->N[j]?=some (st.1,st.2.map λpt=>(pt.1,pl (g pt.2)))
 led:∀k∈kept,∀(st:gG),M[k]?=some st->∀pt∈st.2,∃(k':Nat),kept[pl (g pt.2)]?=some k'/\g k'=g pt.2
def Q6(A:Alike M g)(J:aa3 M N g kept pl):∀w j k,kept[j]?=some k->jY N j w=jY M k w:=by
 intro w;induction w with
 |nil=>intro j k h;have hk:=J.inn k<|Qwk h;unfold jY;rw[J.row j k _ h (Qq7 hk),Qq7 hk];rfl
 |cons a w ih=>
  intro j k h;have hm:=Qwk h;have hk:=J.inn k hm;have h1:=Qq7 hk;unfold jY;rw[J.row j k _ h h1,h1];show(match (M[k].2.map λpt=>(pt.1,pl<|g pt.2))[a]? with|none=>none|some pt=>(jY N pt.2 w).map (pt.1 ++ ·))=(match M[k].2[a]? with|none=>none|some pt=>(jY M pt.2 w).map (pt.1 ++ ·));rw[Qw1];cases p:M[k].2[a]? with
  |none=>rfl|some pt=>have hp:=Qwk p;obtain⟨k',e1,e2⟩:=J.led k hm _ h1 pt hp;show(jY N (pl<|g pt.2) w).map _=(jY M pt.2 w).map _;rw[ih _ k' e1,Vo A w k' pt.2 (J.inn k'<|Qwk e1) (A.inn k _ pt h1 hp) e2]
def cp:List Nat->List Nat->List Nat
 |a::as,b::bs=>if a=b then a::cp as bs else []|[],_=>[]|_::_,[]=>[]
theorem acW:∀a b,cp a b <+: a
 |[],b=>by cases b<;>exact Qk7|a::as,[]=>Qk7
 |a::as,b::bs=>by
  unfold cp;split;exact(Qh4 a).mpr<|acW as bs;exact Qk7
theorem ajm:∀a b,cp a b <+: b
 |[],b=>by cases b<;>exact Qk7|a::as,[]=>Qk7
 |a::as,b::bs=>by
  unfold cp;split;rename_i h;rw[h];exact(Qh4 b).mpr<|ajm as bs;exact Qk7
theorem aaE:∀{c a b},c <+: a->c <+: b->c <+: cp a b
 |[],_,_,_,_=>Qk7
 |c::cs,a,b,h1,h2=>by
  obtain⟨t,rfl⟩:=h1;obtain⟨u,rfl⟩:=h2;show c::cs <+: cp (c::(cs++t)) (c::(cs++u));unfold cp;rw[Qv4 rfl];exact(Qh4 c).mpr<|aaE (List.prefix_append ..)<|List.prefix_append ..
def agN(a b):(cp a b).length<=a.length:=(acW a b).length_le
def lcp(t:List Nat)(ts:List (List Nat)):List Nat:=(t::ts).foldl cp t
theorem Gp:∀(ts:List (List Nat)) t,ts.foldl cp t <+: t/\∀u∈ts,ts.foldl cp t <+: u
 |[],t=>⟨Qhy _,λu hu=>by simp at hu⟩
 |s::ts,t=>by
  obtain⟨h1,h2⟩:=Gp ts<|cp t s;refine⟨h1.trans<|acW t s,λu hu=>?_⟩;rcases Qq4.mp hu with rfl|hu;exact h1.trans<|ajm t u;exact h2 u hu
theorem fold_max:∀(ts:List (List Nat)) t c,c <+: t->(∀u∈ts,c <+: u)->c <+: ts.foldl cp t
 |[],t,c,h,_=>h|s::ts,t,c,h,h2=>fold_max ts (cp t s) c (aaE h<|h2 s<|Qqj ..) λu hu=>h2 u<|Qqk _ hu
def ZS(t)(ts):lcp t ts <+: t:=(Gp _ _).1
def adX(t)(ts)(h:u∈ts):lcp t ts <+: u:=(Gp _ _).2 u<|Qqk _ h
def acs(h:c <+: t)(h2:∀u∈ts,c <+: u):c <+: lcp t ts:=
 fold_max _ _ _ h λu hu=>by
  rcases Qq4.mp hu with rfl|hu;exact h;exact h2 u hu
def ends(M:List gG):List (List Nat):=M.map (·.1)
def jH(M:List gG)(c:List (List Nat)):List (List Nat):=M.map λst=>lcp st.1 (st.2.map λpt=>pt.1++c.getD pt.2 [])
def PW(c d:List (List Nat)):Prop:=c.length=d.length/\∀i,c.getD i [] <+: d.getD i []
def getD_map{α β:Type}(f)(l:List α)(i)(b:β):(l.map f).getD i b=(l[i]?.map f).getD b:=by rw[Qq6,Qw1]
def Ei(M)(c):PW (jH M c) (ends M):=by
 refine⟨by unfold jH ends;rw[Qqx,Qqx],λi=>?_⟩;unfold jH ends;rw[getD_map,getD_map];cases M[i]? with
 |none=>exact Qhy _|some st=>exact ZS ..
def Ve(h:PW c d):PW (jH M c) (jH M d):=by
 refine⟨by unfold jH;rw[Qqx,Qqx],λi=>?_⟩;unfold jH;rw[getD_map,getD_map];cases M[i]? with
 |none=>exact Qhy _|some st=>refine acs (ZS ..) λu hu=>?_;obtain⟨pt,hp,rfl⟩:=Qwq.mp hu;refine(adX st.1 (st.2.map λpt=>pt.1++c.getD pt.2 [])<|Qwq.mpr ⟨pt,hp,rfl⟩).trans ?_;exact(List.prefix_append_right_inj _).mpr<|h.2 pt.2
def wH(c:List (List Nat)):Nat:=(c.map List.length).sum
def PW.tail(h:PW (a::c) (b::d)):a <+: b/\PW c d:=
 ⟨h.2 0,Nat.succ.inj h.1,λi=>h.2<|i+1⟩
theorem PW.lt:∀{c d},PW c d->wH c<=wH d/\(c≠d->wH c<wH d)
 |[],[],_=>⟨Qq0 _,λh=>absurd rfl h⟩|[],_::_,h=>by cases h.1|_::_,[],h=>by cases h.1
 |a::c,b::d,h=>by
  obtain⟨h1,h2⟩:=h.tail;obtain⟨h3,h4⟩:=PW.lt h2;have h5:=h1.length_le;have e1:wH (a::c)=a.length+wH c:=by unfold wH;rw[Qq8,Qbq]
  have e2:wH (b::d)=b.length+wH d:=by unfold wH;rw[Qq8,Qbq]
  rw[e1,e2];refine⟨by omega,λhn=>?_⟩;by_cases hcd:c=d;subst hcd;have hab:a≠b:=λz=>hn (by rw[z]);have:a.length≠b.length:=λz=>hab<|h1.eq_of_length z;omega;have:=h4 hcd;omega
def RV(h:c=jH M c):zX M c:=by
 have row:∀i st,M[i]?=some st->c.getD i []=lcp st.1 (st.2.map λpt=>pt.1++c.getD pt.2 []):=λi st hs=>by
  have e:c.getD i []=(jH M c).getD i []:=by rw[<-h]
  rw[e];unfold jH;rw[getD_map,hs];rfl
 refine⟨by rw[h];unfold jH;rw[Qqx],λi st hs=>?_,λi st pt hs hp=>?_⟩;rw[row i st hs];exact ZS ..;rw[row i st hs];exact adX _ _<|Qwq.mpr ⟨pt,hp,rfl⟩
def getD_none{c:List (List Nat)}(h:c.length<=i):c.getD i []=[]:=by rw[Qq6,Qj8 h];rfl
section
variable{T:Type}[DecidableEq T]
def kj(ys:List T)(x:T):List T:=if x∈ys then ys else ys++[x]
def uniq(ts:List T):List T:=ts.foldl kj []
theorem pF(ys)(x y:T):y∈kj ys x↔y∈ys\/y=x:=by
 unfold kj;split;rename_i h;exact⟨.inl,λq=>q.elim id λe=>e ▸ h⟩;rw[Qww,Qqw]
theorem Lq(x:T)(h:ys.Nodup):(kj ys x).Nodup:=by
 unfold kj;split;exact h;rename_i hn;rw[List.nodup_append];exact⟨h,Qx3.mpr ⟨by simp,.nil⟩,λa ha b hb e=>hn (by rw[Qqw.mp hb] at e;exact e ▸ ha)⟩
theorem O7:∀(ts ys:List T) y,y∈ts.foldl kj ys↔y∈ys\/y∈ts
 |[],ys,y=>by simp
 |t::ts,ys,y=>by
  rw[Qj5,O7 ts,pF,Qq4,or_assoc]
theorem Um:∀(ts ys:List T),ys.Nodup->(ts.foldl kj ys).Nodup
 |[],_,h=>h|t::ts,ys,h=>Um ts _<|Lq t h
theorem lL{y:T}:y∈uniq ts↔y∈ts:=by unfold uniq;rw[O7];simp
theorem Sw(ts:List T):(uniq ts).Nodup:=Um ts [] .nil
theorem vf(ts:List T):(uniq ts).length<=ts.length:=KB.sX ts _ (Sw ts) λp hp=>lL.mp hp
def eY:List T->T->Nat
 |[],_=>0|u::us,t=>if u=t then 0 else eY us t+1
theorem nD:∀{l} {t:T},t∈l->l[eY l t]?=some t
 |u::us,t,h=>by
  unfold eY;split;rename_i e;rw[e];rfl;rename_i e;rw[Qyj];exact nD<|(Qq4.mp h).resolve_left λz=>e z.symm
theorem Du{t:T}(h:t∈l):eY l t<l.length:=(Qq5.mp<|nD h).1
theorem zc:∀{l} {t} (m:List T),t∈l->eY (l++m) t=eY l t
 |u::us,t,m,h=>by
  rw[Qh0];unfold eY;split;rfl;rename_i e;rw[zc m ((Qq4.mp h).resolve_left λz=>e z.symm)]
theorem T9:∀{l} {i} {t:T},l.Nodup->l[i]?=some t->eY l t=i
 |u::us,0,t,_,h=>by cases h;unfold eY;rw[Qv4 rfl]
 |u::us,i+1,t,hn,h=>by
  rw[Qyj] at h;obtain⟨h1,h2⟩:=Qx3.mp hn;unfold eY;have hne:¬u=t:=λe=>h1<|e ▸ Qwk h;rw[Qv5 hne,T9 h2 h]
theorem Wd{a b:T}(ha:a∈l)(hb:b∈l)(h:eY l a=eY l b):a=b:=by have h1:=nD ha;rw[h,(nD hb)] at h1;exact(Qw4 h1).symm
end
def nums{T:Type}[DecidableEq T](ts:List T):List Nat:=ts.map λt=>eY (uniq ts) t
def yS{T:Type}[DecidableEq T](ts:List T):(nums ts).length=ts.length:=by unfold nums;rw[Qqx]
def N6{T:Type}[DecidableEq T]{ts:List T}{t:T}(h:ts[i]?=some t):(nums ts).getD i 0=eY (uniq ts) t:=by
 unfold nums;rw[getD_map,h]
 rfl
def yU{T:Type}[DecidableEq T]{ts:List T}{t u:T}(h1:ts[i]?=some t)(h2:ts[j]?=some u)(h:(nums ts).getD i 0=(nums ts).getD j 0):t=u:=by rw[N6 h1,N6 h2] at h;exact Wd (lL.mpr<|Qwk h1) (lL.mpr<|Qwk h2) h
def TQ{T:Type}[DecidableEq T](ts:List T):∀k∈nums ts,k<ts.length:=λk hk=>by
 obtain⟨t,ht,rfl⟩:=Qwq.mp hk;exact Qwx (Du<|lL.mpr ht)<|vf ts
def oW(M:List gG):List (List Nat×List (List Nat)):=M.map λst=>(st.1,st.2.map (·.1))
def fc(M:List gG)(g:List Nat):List (Nat×List Nat):=M.zipIdx.map λp=>(g.getD p.2 0,p.1.2.map λpt=>g.getD pt.2 0)
def cnt(g:List Nat):Nat:=(uniq (g.map λ(k:Nat)=>(k:Int))).length
def Bx{i:Nat}(h:M[i]?=some st):(oW M)[i]?=some (st.1,st.2.map (·.1)):=by unfold oW;rw[Qw1,h];rfl
def mK(h:M[i]?=some st):(fc M g)[i]?=some (g.getD i 0,st.2.map λpt=>g.getD pt.2 0):=by unfold fc;rw[Qw1,Q1z,h];simp
def ph(M)(g):(fc M g).length=M.length:=by unfold fc;rw[Qqx,List.length_zipIdx]
def agO(g):cnt g<=g.length:=by unfold cnt;exact Qq1 (vf _) (by rw[Qqx];exact Qq0 _)
def acX(h:0<g.length):0<cnt g:=by unfold cnt;refine Qj1<|lL.mpr<|Qwq.mpr ⟨g[0],Qzw h,rfl⟩
def Nh(hl:g'.length=g.length)(hr:∀i j,i<g.length->j<g.length->g'.getD i 0=g'.getD j 0->g.getD i 0=g.getD j 0)(hc:cnt g'<=cnt g) :
  ∀i j,i<g.length->j<g.length->g.getD i 0=g.getD j 0->g'.getD i 0=g'.getD j 0:=by
 intro i j hi hj h;apply Classical.byContradiction;intro hne
 -- a way from the alQ groups to the others
 have gt:∀(l:List Nat) k,k<l.length->l.getD k 0∈l:=λl k hk=>by
  rw[Qq6,Qq7 hk];exact Qzw hk
 let F:Int->Int:=λv=>(g.getD (eY g' v.toNat) 0)
 have hF:∀k,k<g.length->F (g'.getD k 0)=(g.getD k 0):=λk hk=>by
  show((g.getD (eY g' (((g'.getD k 0):Int)).toNat) 0):Int)=_;rw[Qj4];have hm:=gt g' k (by omega);have h1:=Du hm;have e:g'.getD (eY g'<|g'.getD k 0) 0=g'.getD k 0:=by
   rw[Qq6,nD hm]
   rfl
  rw[hr _ k (by omega) hk e]
 have key:=KB.sX (((uniq<|g'.map λ(k:Nat)=>(k:Int)).erase<|g'.getD j 0).map F) (uniq<|g.map λ(k:Nat)=>k) (Sw _) λv hv=>by
  obtain⟨n,hn,rfl⟩:=Qwq.mp<|lL.mp hv;obtain⟨k,hk⟩:=List.mem_iff_getElem?.mp hn;have hkl:=(Qq5.mp hk).1;have ek:g.getD k 0=n:=by rw[Qq6,hk];rfl
  by_cases hkj:g'.getD k 0=g'.getD j 0
  .-- the place of j is taken by i
   refine Qwq.mpr ⟨(g'.getD i 0),?_,?_⟩
   .refine(Qh6 ?_).mpr<|lL.mpr<|Qwq.mpr ⟨_,gt g' i (by omega),rfl⟩;exact λz=>hne<|Qh9 z
   .rw[hF i hi,h,<-(hr k j hkl hj hkj),ek]
  .refine Qwq.mpr ⟨(g'.getD k 0),?_,?_⟩
   .refine(Qh6 ?_).mpr<|lL.mpr<|Qwq.mpr ⟨_,gt g' k (by omega),rfl⟩;exact λz=>hkj<|Qh9 z
   .rw[hF k hkl,ek]
 have hmem:((g'.getD j 0):Int)∈uniq (g'.map λ(k:Nat)=>(k:Int)):=lL.mpr<|Qwq.mpr ⟨_,gt g' j (by omega),rfl⟩;rw[Qqx,Qy8 hmem] at key;have:=Qj1 hmem;unfold cnt at hc;omega
structure qM(M:List gG)(g:List Nat):Prop where
 len:g.length=M.length
 fst:∀(i j:Nat) (s t:gG),M[i]?=some s->M[j]?=some t->g.getD i 0=g.getD j 0->s.1=t.1/\s.2.map (·.1)=t.2.map (·.1)
 lt:∀k∈g,k<M.length
def ab5(M):qM M (nums (oW M)):=by
 refine⟨by rw[yS];unfold oW;rw[Qqx],λi j s t hs ht h=>?_,λk hk=>?_⟩;have:=yU (Bx hs) (Bx ht) h;exact Prod.mk.inj this;have:=TQ _ k hk;unfold oW at this;rw[Qqx] at this;exact this
def Jq{M:List gG}(h:i<M.length):M[i]?=some M[i]:=Qq7 h
def qM.next(P:qM M g):qM M (nums (fc M g)):=by
 refine⟨by rw[yS,ph],λi j s t hs ht h=>?_,λk hk=>?_⟩;have:=yU (mK hs) (mK ht) h;exact P.fst i j s t hs ht<|Qx1 Prod.fst this;have:=TQ _ k hk;rw[ph] at this;exact this
theorem aaQ(P:qM M g)(hin:∀(i:Nat) st pt,M[i]?=some st->pt∈st.2->pt.2<M.length)(hc:cnt (nums (fc M g))<=cnt g) :
  Alike M λi=>(nums (fc M g)).getD i 0:=by
 have hl:(nums<|fc M g).length=g.length:=by rw[yS,ph,P.len]
 have hsame:=Nh hl (λi j hi hj h=>by
  rw[P.len] at hi hj;have:=yU (mK<|Jq hi) (mK<|Jq hj) h;exact Qx1 Prod.fst this) hc
 rw[P.len] at hsame;refine⟨λi j s t hs ht h=>?_,hin⟩;have:=yU (mK hs) (mK ht) h;have h2:=Qx1 Prod.snd this;obtain⟨e1,e2⟩:=P.fst i j s t hs ht (Qx1 Prod.fst this);refine⟨e1,e2,?_⟩
 -- led to the same groups
 have hlen:s.2.length=t.2.length:=by have:=Qx1 List.length h2;rwa [Qqx,Qqx] at this
 refine List.ext_getElem? λk=>?_;have h3:=Qx1 (λl:List Nat=>l[k]?) h2;simp[Qw1] at h3 ⊢;cases p:s.2[k]? with
 |none=>
  rw[p] at h3;cases q:t.2[k]? with
  |none=>rfl|some u=>rw[q] at h3;cases h3
 |some v=>
  rw[p] at h3;cases q:t.2[k]? with
  |none=>rw[q] at h3;cases h3|some u=>rw[q] at h3;show some ((nums<|fc M g).getD v.2 0)=some ((nums<|fc M g).getD u.2 0);rw[hsame v.2 u.2 (hin i s v hs<|Qwk p) (hin j t u ht<|Qwk q) (Qw4 h3)]
open Ev PySem L2
open nZ (XS sides fit look jK ye)
open zV (cI)
open jr (Rl Is stp rd lZ xX sI lay lf nY ni Hm yd m5)
def aim(hk:ye x kvs)(hs:s∈x)(b):∀c∈Hm kvs s b,c∈x:=by
 unfold Hm;split;cases e:look kvs s with
 |none=>exact λc hc=>by rw[Qqw.mp hc];exact hs|some t=>exact λc hc=>(jK hk e).2.2 c hc
 exact λc hc=>by rw[Qqw.mp hc];exact hs
def ahO{R:D}(hR:Is x R ρ)(hs:∀c∈s.2,c∈x)(ha:a∈x):(∃b,(stp ρ s a).1=(b,[a]))/\∀c∈(stp ρ s a).2,c∈x:=by
 cases hR with
 |put hc hl hr=>refine⟨⟨_,rfl⟩,λc hm=>?_⟩;rcases Qww.mp hm with hm|hm;exact hs c hm;split at hm;rw[Qqw.mp hm];exact hc;simp at hm
 |chg hp hd hk hl hr=>
  obtain⟨b,h⟩:=s;match h,hs with
  |[],hs=>exact⟨⟨_,rfl⟩,λc hc=>by simp[stp] at hc⟩|s::h,hs=>exact⟨⟨_,rfl⟩,aim hk (hs s<|Qqj ..) _⟩
theorem abx{R:D}(hR:Is x R ρ):∀z {s},(∀c∈s.2,c∈x)->(∀a∈z,a∈x)->((rd ρ s z).1=s/\z=[]\/∃b,∃c∈x,(rd ρ s z).1=(b,[c]))/\∀c∈(rd ρ s z).2,c∈x
 |[],s,hs,_=>⟨.inl ⟨rfl,rfl⟩,λc hc=>by simp[rd] at hc⟩
 |a::z,s,hs,hz=>by
  have ha:=hz a<|Qqj ..;obtain⟨⟨b,h1⟩,h2⟩:=ahO hR hs ha;have h1':∀c∈(stp ρ s a).1.2,c∈x:=λc hc=>by rw[h1] at hc;rw[Qqw.mp hc];exact ha
  obtain⟨h3,h4⟩:=abx hR z h1' λb hb=>hz b<|Qqk _ hb;refine⟨.inr ?_,λc hc=>?_⟩;rcases h3 with ⟨e,_⟩|⟨b',c,hc,e⟩;exact⟨b,a,ha,by show(rd ρ (stp ρ s a).1 z).1=_;rw[e,h1]⟩;exact⟨b',c,hc,e⟩;rcases Qww.mp (show c∈(stp ρ s a).2++(rd ρ (stp ρ s a).1 z).2 from hc) with hc|hc;exact h2 c hc;exact h4 c hc
def abq{R:D}(hR:Is x R ρ)(hs:∀c∈s.2,c∈x)(a):∀c∈(stp ρ s a).2,c∈x:=by
 cases hR with
 |put hc hl hr=>intro c hm;rcases Qww.mp hm with hm|hm;exact hs c hm;split at hm;rw[Qqw.mp hm];exact hc;simp at hm
 |chg hp hd hk hl hr=>
  obtain⟨b,h⟩:=s;match h,hs with
  |[],hs=>exact λc hc=>by simp[stp] at hc|s::h,hs=>exact aim hk (hs s<|Qqj ..) _
def aeW{R:D}(hR:Is x R ρ)(hs:∀c∈s.2,c∈x)(hz:∀a∈z,a∈x):∀c∈(rd ρ s (z++[35])).2,c∈x:=by
 obtain⟨h1,h2⟩:=abx hR z hs hz;have h3:∀c∈(rd ρ s z).1.2,c∈x:=by
  rcases h1 with ⟨e,_⟩|⟨b,c,hc,e⟩;rw[e];exact hs;rw[e];exact λd hd=>by rw[Qqw.mp hd];exact hc
 intro c hc;rw[jr.yK] at hc;rcases Qww.mp hc with hc|hc;exact h2 c hc;exact abq hR h3 35 c hc
def U(x:List Nat):List D->List (List jr.St)
 |[]=>[[]]|R::Ls=>sI (R::Ls)::([false,true].flatMap λb=>x.flatMap λc=>(U x Ls).map λu=>(b,[c])::u)
def DP(x)(Ls):sI Ls∈U x Ls:=by
 cases Ls with
 |nil=>exact Qqj ..|cons R Ls=>exact Qqj ..
def ahf{R:D}(b)(hc:c∈x)(h:u∈U x Ls):(b,[c])::u∈U x (R::Ls):=by refine Qqk _<|Qj0.mpr ⟨b,by cases b<;>simp,Qj0.mpr ⟨c,hc,Qwq.mpr ⟨u,h,rfl⟩⟩⟩
def DN{R:D}(h:p∈U x (R::Ls)):∃s u,p=s::u/\u∈U x Ls/\(∀c∈s.2,c∈x)/\(s::u=sI (R::Ls)\/∃b,∃c∈x,s=(b,[c])):=by
 rcases Qq4.mp h with rfl|h;exact⟨_,sI Ls,rfl,DP x Ls,λc hc=>by simp at hc,.inl rfl⟩;obtain⟨b,_,h⟩:=Qj0.mp h;obtain⟨c,hc,h⟩:=Qj0.mp h;obtain⟨u,hu,rfl⟩:=Qwq.mp h;exact⟨(b,[c]),u,rfl,hu,λd hd=>by rw[Qqw.mp hd];exact hc,.inr ⟨b,c,hc,rfl⟩⟩
theorem aaV:∀Ls p,p∈U x Ls->Ls.length=p.length
 |[],p,h=>by rw[Qqw.mp h];rfl
 |R::Ls,p,h=>by
  obtain⟨s,u,rfl,hu,_⟩:=DN h;rw[Qqy,Qqy,aaV Ls u hu]
theorem adJ:∀Ls p z,(∀R∈Ls,cI x R)->p∈U x Ls->(∀a∈z,a∈x)->(lZ x Ls p z).1∈U x Ls
 |[],p,z,_,_,_=>Qqw.mpr rfl
 |R::Ls,p,z,hR,hp,hz=>by
  obtain⟨s,u,rfl,hu,hs,h⟩:=DN hp;obtain⟨h1,h2⟩:=abx (ni<|hR R<|Qqj ..) z hs hz;show(rd (nY x R) s z).1::(lZ x Ls u (rd (nY x R) s z).2).1∈U x (R::Ls);rcases h1 with ⟨e,hzn⟩|⟨b,c,hc,e⟩;subst hzn;have e2:(lZ x Ls u (rd (nY x R) s []).2).1=u:=by
   show(lZ x Ls u []).1=u;rw[Lz.yJ Ls u (aaV Ls u hu)]
  rw[e2];exact hp;rw[e];exact ahf b hc (adJ Ls u (rd (nY x R) s z).2 (λQ hQ=>hR Q<|Qqk _ hQ) hu h2)
theorem uv{α β:Type}(f:α->List β)(k):∀l:List α,(∀a∈l,(f a).length=k)->(l.flatMap f).length=l.length*k
 |[],_=>by simp
 |a::l,h=>by
  rw[List.flatMap_cons,Qqv,h a<|Qqj ..,uv f k l λb hb=>h b<|Qqk _ hb,Qqy,Nat.succ_mul,Nat.add_comm]
def UL(x)(R)(Ls):(U x (R::Ls)).length=1+2*(x.length*(U x Ls).length):=by show(sI (R::Ls)::([false,true].flatMap λb=>x.flatMap λc=>(U x Ls).map λu=>(b,[c])::u)).length=_;rw[Qqy,uv _ (x.length*(U x Ls).length) _ λb _=>uv _ (U x Ls).length _ λc _=>by rw[Qqx]];rw[Qqy,Qqy,Qx2];omega
def ajx(h:x.length<=4)(h3:Ls.length<=3):(U x Ls).length<=585:=by
 have step:∀R L k,(U x L).length<=k->(U x (R::L)).length<=1+8*k:=λR L k hk=>by
  rw[UL];have:=Qb9 h hk;omega
 match Ls,h3 with
 |[],_=>exact Qq1 (Qq0 1) (by decide)|[a],_=>exact Qq1 (step a [] 1<|Qq0 _) (by decide)|[a,b],_=>exact Qq1 (step a _ 9<|step b [] 1<|Qq0 _) (by decide)|[a,b,c],_=>exact step a _ 73<|step b _ 9<|step c [] 1<|Qq0 _
def ahe(h:x.length<=2)(h3:Ls.length<=4):(U x Ls).length<=341:=by
 have step:∀R L k,(U x L).length<=k->(U x (R::L)).length<=1+4*k:=λR L k hk=>by
  rw[UL];have:=Qb9 h hk;omega
 match Ls,h3 with
 |[],_=>exact Qq1 (Qq0 1) (by decide)|[a],_=>exact Qq1 (step a [] 1<|Qq0 _) (by decide)|[a,b],_=>exact Qq1 (step a _ 5<|step b [] 1<|Qq0 _) (by decide)|[a,b,c],_=>exact Qq1 (step a _ 21<|step b _ 5<|step c [] 1<|Qq0 _) (by decide)|[a,b,c,d],_=>exact step a _ 85<|step b _ 21<|step c _ 5<|step d [] 1<|Qq0 _
theorem adI:∀Ls p z,(∀R∈Ls,cI x R)->p∈U x Ls->(∀a∈z,a∈x)->∀c∈(lZ x Ls p z).2,c∈x
 |[],p,z,_,hp,hz=>by rw[Qqw.mp hp];exact hz
 |R::Ls,p,z,hR,hp,hz=>by
  obtain⟨s,u,rfl,hu,hs,h⟩:=DN hp;exact adI Ls u _ (λQ hQ=>hR Q<|Qqk _ hQ) hu (abx (ni<|hR R<|Qqj ..) z hs hz).2
theorem ad9:∀Ls p z,(∀R∈Ls,cI x R)->p∈U x Ls->(∀a∈z,a∈x)->∀c∈xX x Ls p z,c∈x
 |[],p,z,_,hp,hz=>by rw[Qqw.mp hp];exact hz
 |R::Ls,p,z,hR,hp,hz=>by
  obtain⟨s,u,rfl,hu,hs,h⟩:=DN hp;exact ad9 Ls u _ (λQ hQ=>hR Q<|Qqk _ hQ) hu<|aeW (ni<|hR R<|Qqj ..) hs hz
open fM (cD)
open nZ (XS sides fit)
open jr (bL lZ xX sI lay yd m5)
open K17 (tL qS Yi adU)
def Wn:iG.nJ=jr.nJ:=rfl
def first_is:iG.dW=jr.dW:=rfl
def yu:iG.eG=fM.eG:=rfl
section
variable{T:Type}[DecidableEq T]{en:T->D}{key:T->NK}
def Bj(en:T->D):Nat->List T->List (D×D)
 |_,[]=>[]|n,u::us=>(en u,.int (n:Int))::Bj en (n+1) us
omit [DecidableEq T] in
theorem Oo:∀us n t,Bj en n (us++[t])=Bj en n us++[(en t,.int (n+us.length:Nat))]
 |[],n,t=>rfl
 |u::us,n,t=>by
  show(en u,D.int n)::Bj en (n+1) (us++[t])=(en u,D.int n)::(Bj en (n+1) us++_);rw[Oo us (n+1) t,Qqy];have:n+1+us.length=n+(us.length+1):=by omega
  rw[this]
omit [DecidableEq T] in
theorem Ds:∀us n,(Bj en n us).length=us.length
 |[],n=>rfl
 |u::us,n=>by
  show(Bj en (n+1) us).length+1=us.length+1;rw[Ds us]
structure aa1(en:T->D)(key:T->NK):Prop where
 nk:∀t,Ji (en t)=some (key t)
 inj:∀p q,key p=key q->p=q
variable(Y:aa1 en key)
include Y
theorem Dr:∀us n t,n6 (Bj en n us) (key t)=if t∈us then some (.int (n+eY us t:Nat)) else none
 |[],n,t=>by simp[Bj,n6]
 |u::us,n,t=>by
  have ih:=Dr us (n+1) t;unfold n6 at ih ⊢;unfold Bj;rw[Qz4];have hu:=(Ba<|Y.nk u).1;by_cases h:u=t;subst h;simp only[hu,decide_true];have ei:eY (u::us) u=0:=by unfold eY;rw[Qv4 rfl]
  rw[Qv4 (Qqj ..),ei];rfl;simp only[hu,Qwy (λe=>h<|Y.inj u t<|Qw4 e)];have ei:eY (u::us) t=eY us t+1:=by conv=>lhs;unfold eY;rw[Qv5 h]
  rw[ih,ei];by_cases hm:t∈us;rw[Qv4 hm,Qv4<|Qqk _ hm];have:n+1+eY us t=n+(eY us t+1):=by omega
  rw[this];rw[Qv5 hm,Qv5 λz=>(Qq4.mp z).elim (λe=>h e.symm) hm]
theorem T4(us)(t)(h:t ∉ us):wM (Bj en 0 us) (en t) (key t) (.int us.length)=Bj en 0 (us++[t]):=by
 unfold wM;rw[Dr Y,Qv5 h,Oo,Qfx]
 rfl
theorem Jl(us)(t)[dc:Decidable (t∈us)]:lU (en t) (.iY (Bj en 0 us))=some (.bl (!decide (t∈us))):=by
 show(Ji<|en t).map _=_;rw[Y.nk];show some (D.bl<|!(n6 (Bj en 0 us)<|key t).isSome)=_;rw[Dr Y];by_cases h:t∈us;rw[Qv4 h,Qw0 h];rfl;rw[Qv5 h,Qwy h];rfl
theorem T5(us)(t)(h:t∈us):zq (.iY (Bj en 0 us)) (en t)=some (.int (eY us t)):=by show(Ji<|en t).bind _=_;rw[Y.nk];show n6 (Bj en 0 us) (key t)=_;rw[Dr Y,Qv4 h,Qfx]
omit Y
theorem wF(us)(t:T):t∈kj us t:=(pF us t t).mpr<|.inr rfl
theorem aaS{t u:T}(h:u∈us):eY (kj us t) u=eY us u:=by
 unfold kj;split;rfl;exact zc _ h
theorem Qc(us)(t:T):(kj us t).length<=us.length+1:=by
 unfold kj;split;omega;rw[Qqv];exact Qq0 _
theorem zM{t u:T}{i:Nat}(h:us[i]?=some u):(kj us t)[i]?=some u:=by
 unfold kj;split;exact h;exact KB.Uh h
end
abbrev P:=List jr.St
def lW(p:P):D:=.tup (p.map bL)
def uL:aa1 lW qS:=⟨adU,λ_ _ h=>Yi h⟩
def bC(pt:List Nat×Nat):D:=.tup [.str pt.1,.int (pt.2:Int)]
def cC(st:gG):D:=.tup [.str st.1,.tup (st.2.map bC)]
noncomputable def wU(x:List Nat)(Ls:List D)(p:P)(a:Nat):P:=(lZ x Ls p [a]).1
noncomputable def Rn(x:List Nat)(Ls:List D)(p:P)(a:Nat):List Nat:=(lZ x Ls p [a]).2
noncomputable def pq(x:List Nat)(Ls:List D)(ps:List P)(p:P)(a:Nat):List Nat×Nat:=(Rn x Ls p a,eY ps (wU x Ls p a))
structure OkP(x:List Nat)(s:D)(Rs:List D)(p:P):Prop where
 o:yd x s Rs p
 u:p∈U x (lay s Rs)
abbrev JM(p6 ord:D)(ps:List P)(rows:List D)(a5 a6 a7 a8:OD):Ev.Env:=
 [Zf p6,Zf ord,Zl (ps.map lW),Zt (.iY (Bj lW 0 ps)),Zl rows,a5,a6,a7,a8]
structure Lx(x:List Nat)(s:D)(Rs:List D)(ps:List P):Prop where
 nd:ps.Nodup
 z0:ps[0]?=some (sI (lay s Rs))
 ok:∀p∈ps,OkP x s Rs p
 reach:∀p∈ps,∃w:List Nat,(∀a∈w,a∈x)/\w.foldl (wU x (lay s Rs)) (sI (lay s Rs))=p
section
variable{x:List Nat}{s:D}{Rs:List D}{p6:D}
theorem OkP.next(h:OkP x s Rs p)(ha:a∈x):iG.oJ [.tup [s,.tup Rs],lW p,.str [a]]=some (.tup [lW (wU x (lay s Rs) p a),.str (Rn x (lay s Rs) p a)])/\OkP x s Rs (wU x (lay s Rs) p a):=by
 have hz:∀b ∈ [a],b∈35::x:=λb hb=>by rw[Qqw.mp hb];exact Qqk _ ha
 obtain⟨h1,h2⟩:=jr.read_on h.o hz (by show 1<=7;decide);exact⟨h1,h2,adJ _ _ _ (jr.sr h.o.hR) h.u λb hb=>by rw[Qqw.mp hb];exact ha⟩
theorem Lx.add(F:Lx x s Rs ps)(hp:p∈ps)(ha:a∈x):Lx x s Rs (kj ps (wU x (lay s Rs) p a)):=by
 refine⟨Lq _ F.nd,zM F.z0,λq hq=>?_,λq hq=>?_⟩;rcases(pF _ _ _).mp hq with hq|rfl;exact F.ok q hq;exact((F.ok p hp).next ha).2;rcases(pF _ _ _).mp hq with hq|rfl;exact F.reach q hq;obtain⟨w,h1,h2⟩:=F.reach p hp;refine⟨w++[a],λb hb=>?_,by rw[Qgx,h2];rfl⟩;rcases Qww.mp hb with hb|hb;exact h1 b hb;rw[Qqw.mp hb];exact ha
def WW(x:List Nat)(s:D)(Rs:List D):Prop:=∀ps:List P,Lx x s Rs ps->ps.length<=600
theorem Lx.few(F:Lx x s Rs ps)(hu:WW x s Rs):ps.length<=600:=hu ps F
theorem ajj(hu:(U x (lay s Rs)).length<=600):WW x s Rs:=λps F=>Qq1 (KB.sX _ ps F.nd λq hq=>(F.ok q hq).u) hu
theorem ahY(F:Lx x s Rs ps)(hu:WW x s Rs)(hp:ps[rows.length]?=some p)(hs:steps.length<=100)(ha:a∈x)(a7 a8) :
  iG.jT (JM p6 (.tup [s,.tup Rs]) ps rows (Zl steps) (Zs [a]) a7 a8) =
   .nx (JM p6 (.tup [s,.tup Rs]) (kj ps (wU x (lay s Rs) p a)) rows (Zl (steps++[bC (pq x (lay s Rs) (kj ps (wU x (lay s Rs) p a)) p a)])) (Zs [a]) (Zf (lW (wU x (lay s Rs) p a))) (Zs (Rn x (lay s Rs) p a))):=by
 obtain⟨h1,_⟩:=(F.ok p<|Qwk hp).next ha;have hlen:=F.few hu;unfold pq bC;generalize wU x (lay s Rs) p a=q at *;generalize Rn x (lay s Rs) p a=o at *;generalize D.tup [s,.tup Rs]=O at *;have hix:bQ (.lst<|ps.map lW) (.int rows.length)=some (lW p):=by show uN (ps.map lW) rows.length=_;exact je (by rw[Qw1,hp];rfl)
 unfold iG.jT;let E0:Ev.Env:=JM p6 O ps rows (Zl steps) (Zs [a]) (Zf<|lW q)<|Zs o;refine(aB (e:=E0) ?_).trans ?_;let E1:Ev.Env:=JM p6 O ps rows (Zl steps) (Zs [a]) a7 a8;refine bB (d:=.tup [lW q,.str o]) (e:=E1) ?_ rfl;refine aK (aD rfl (aD (e1:=E1) ?_ rfl)) h1;exact aO rfl rfl rfl hix;have fin:∀qs,q∈qs->dZ 5 (bK<|Zv 8<|aa (aq zq 3<|aU 7) aj) (JM p6 O qs rows (Zl steps) (Zs [a]) (Zf<|lW q)<|Zs o) =
   .nx (JM p6 O qs rows (Zl<|steps++[.tup [.str o,.int<|eY qs q]]) (Zs [a]) (Zf<|lW q)<|Zs o):=λqs hq=>by
  refine(cD (e:=JM p6 O qs rows (Zl steps) (Zs [a]) (Zf<|lW q)<|Zs o) rfl ?_ rfl (Qw3 hs (by decide))).trans rfl;refine cG (aD rfl (aD ?_ aY)) Ev.xm;exact aO rfl rfl rfl (T5 uL qs q hq)
 have ht:cR (aq lU 7<|aU 3) (JM p6 O ps rows (Zl steps) (Zs [a]) (Zf<|lW q)<|Zs o)=.ok (!decide (q∈ps)) (JM p6 O ps rows (Zl steps) (Zs [a]) (Zf<|lW q)<|Zs o):=
  cW (aO rfl rfl rfl (Jl uL ps q))
 by_cases hq:q∈ps;rw[Qw0 hq] at ht;refine(aB<|dw ht).trans ?_;have e:kj ps q=ps:=Qv4 hq;rw[e];exact fin ps hq;rw[Qwy hq] at ht;have e:kj ps q=ps++[q]:=Qv5 hq;rw[e];refine(aB ?_).trans<|fin (ps++[q]) (by simp);refine(gq ht).trans ?_;have s4:=tL (i:=3) (k:=aM 7) (a:=au cJ<|aa (aU 2) aj) (env:=E0) rfl rfl rfl rfl (uL.nk q)
  (by rw[Ds];exact Qw3 hlen (by decide))
 rw[Qqx,T4 uL ps q hq] at s4;rw[aB s4];refine(cD (i:=2) (e:=[Zf p6,Zf O,Zl<|ps.map lW,Zt<|.iY<|Bj lW 0<|ps++[q],Zl rows,Zl steps,Zs [a],Zf<|lW q,Zs o]) rfl rfl rfl (by rw[Qqx];exact Qw3 hlen (by decide))).trans ?_;have e5:ps.map lW++[lW q]=(ps++[q]).map lW:=by rw[Qw7];rfl
 rw[e5];rfl
theorem ahZ(hu:WW x s Rs)(Ud:x.length<=50):∀rest done ps a6 a7 a8,x=done++rest->Lx x s Rs ps->ps[rows.length]?=some p->(∀a∈done,wU x (lay s Rs) p a∈ps)->
  ∃ps' b6 b7 b8,jM (ak 6) iG.jT (iZ rest) (JM p6 (.tup [s,.tup Rs]) ps rows (Zl (done.map λa=>bC (pq x (lay s Rs) ps p a))) a6 a7 a8) =
   .nx (JM p6 (.tup [s,.tup Rs]) ps' rows (Zl (x.map λa=>bC (pq x (lay s Rs) ps' p a))) b6 b7 b8)/\Lx x s Rs ps'/\(∀a∈x,wU x (lay s Rs) p a∈ps')/\∃more,ps'=ps++more:=by
 intro rest;induction rest with
 |nil=>intro done ps a6 a7 a8 hx F hp hd;rw[Qw8] at hx;subst hx;exact⟨ps,a6,a7,a8,rfl,F,hd,[],by rw[Qw8]⟩
 |cons a rest ih=>
  intro done ps a6 a7 a8 hx F hp hd;have ha:a∈x:=by rw[hx];simp
  have hx':x=(done++[a])++rest:=by rw[hx];simp
  have hdl:done.length<=50:=by have:=Qx1 List.length hx;rw[Qqv] at this;omega
  have h1:=ahY (p6:=p6) F hu (steps:=done.map λa=>bC<|pq x (lay s Rs) ps p a) hp (by rw[Qqx];omega) ha a7 a8;have hs:(done.map λb=>bC<|pq x (lay s Rs) ps p b)++[bC (pq x (lay s Rs) (kj ps<|wU x (lay s Rs) p a) p a)]=(done++[a]).map λb=>bC (pq x (lay s Rs) (kj ps<|wU x (lay s Rs) p a) p b):=by
   rw[Qw7];congr 1;refine Qx7 λb hb=>?_;unfold pq;rw[aaS (hd b hb)]
  rw[hs] at h1;obtain⟨ps',b6,b7,b8,g1,g2,g3,more,g4⟩:=ih (done++[a]) (kj ps<|wU x (lay s Rs) p a) _ _ _ hx' (F.add (Qwk hp) ha) (zM hp) (λb hb=>by
   rcases Qww.mp hb with hb|hb
   exact(pF _ _ _).mpr<|.inl<|hd b hb
   rw[Qqw.mp hb];exact wF _ _)
  refine⟨ps',b6,b7,b8,?_,g2,g3,?_⟩;rw[<-g1];exact KB.o6 rfl h1;rw[g4];unfold kj;split;exact⟨more,rfl⟩;exact⟨_,Qxx ..⟩
noncomputable def qR(x:List Nat)(Ls:List D)(ps:List P)(p:P):D:=.tup (x.map λa=>bC (pq x Ls ps p a))
structure All(x:List Nat)(s:D)(Rs:List D)(ps:List P):Prop extends Lx x s Rs ps where
 clo:∀p∈ps,∀a∈x,wU x (lay s Rs) p a∈ps
theorem aab{q:P}(h:q∈ps):eY (ps++more) q=eY ps q:=zc _ h
theorem abA(hu:WW x s Rs)(Ud:x.length<=50)(hso:iG.eG [p6]=some (.tup (iZ x))):∀m n ps a5 a6 a7 a8,n+m=7000->n<=ps.length->Lx x s Rs ps->(∀p∈ps.take n,∀a∈x,wU x (lay s Rs) p a∈ps)->
  ∃ps' b5 b6 b7 b8,eV (cR (aN wV (au cJ (aa (aU 4) aj)) (au cJ (aa (aU 2) aj)))) iG.jR m (JM p6 (.tup [s,.tup Rs]) ps ((ps.take n).map (qR x (lay s Rs) ps)) a5 a6 a7 a8) =
   .nx (JM p6 (.tup [s,.tup Rs]) ps' (ps'.map (qR x (lay s Rs) ps')) b5 b6 b7 b8)/\All x s Rs ps':=by
 intro m;induction m with
 |zero=>intro n ps a5 a6 a7 a8 hm hn F hc;have:=F.few hu;omega
 |succ m ih=>
  intro n ps a5 a6 a7 a8 hm hn F hc;have hrl:((ps.take n).map<|qR x (lay s Rs) ps).length=n:=by rw[Qqx,Qzv];omega
  have ht:cR (aN wV (au cJ<|aa (aU 4) aj)<|au cJ<|aa (aU 2) aj) (JM p6 (.tup [s,.tup Rs]) ps ((ps.take n).map<|qR x (lay s Rs) ps) a5 a6 a7 a8)=.ok (decide (n<ps.length)) (JM p6 (.tup [s,.tup Rs]) ps ((ps.take n).map<|qR x (lay s Rs) ps) a5 a6 a7 a8):=by
   refine cW<|bj rfl rfl ?_;rw[hrl,Qqx];show some (D.bl<|decide (n<(ps.length:Int)))=_;congr 2;simp
  by_cases hlt:n<ps.length;rw[Qw0 hlt] at ht;obtain⟨ps',b6,b7,b8,g1,g2,g3,more,g4⟩:=ahZ (p6:=p6) hu Ud x [] ps a6 a7 a8 rfl F (by rw[hrl];exact (Qq7 hlt)) (λa ha=>by simp at ha);have hn':n+1<=ps'.length:=by rw[g4,Qqv];omega
  have hf:=g2.few hu;have e1:(ps.take n).map (qR x (lay s Rs) ps)++[qR x (lay s Rs) ps' ps[n]]=(ps'.take<|n+1).map (qR x (lay s Rs) ps'):=by
   have e2:ps'.take (n+1)=ps.take n++[ps[n]]:=by rw[g4,Qyq (by omega),Qv8 hlt]
   rw[e2,Qw7];congr 1;refine Qx7 λp hpm=>?_;unfold qR;congr 1;refine Qx7 λa ha=>?_;unfold pq;rw[g4,aab<|hc p hpm a ha]
  have hb:iG.jR (JM p6 (.tup [s,.tup Rs]) ps ((ps.take n).map<|qR x (lay s Rs) ps) a5 a6 a7 a8)=.nx (JM p6 (.tup [s,.tup Rs]) ps' ((ps'.take<|n+1).map<|qR x (lay s Rs) ps') (Zl<|x.map λa=>bC<|pq x (lay s Rs) ps' ps[n] a) b6 b7 b8):=by
   rw[<-e1];generalize(ps.take n).map (qR x (lay s Rs) ps)=rows at *;unfold iG.jR;refine(aB rfl).trans ?_;refine(aB<|(cZ<|zz (aK rfl hso) rfl).trans g1).trans ?_;have t6:cR (aN gGt (au cJ<|aa (aU 2) aj)<|Zi 600) (JM p6 (.tup [s,.tup Rs]) ps' rows (Zl<|x.map λa=>bC<|pq x (lay s Rs) ps' ps[n] a) b6 b7 b8)=.ok false (JM p6 (.tup [s,.tup Rs]) ps' rows (Zl<|x.map λa=>bC<|pq x (lay s Rs) ps' ps[n] a) b6 b7 b8):=by refine cW<|bj rfl rfl ?_;rw[Qqx];show some (D.bl<|decide (600<(ps'.length:Int)))=_;rw[Qwy (by omega)]
   refine(aB<|dw t6).trans ?_;exact(cD (i:=4) (e:=JM p6 (.tup [s,.tup Rs]) ps' rows (Zl<|x.map λa=>bC<|pq x (lay s Rs) ps' ps[n] a) b6 b7 b8) rfl rfl rfl (by rw[hrl];exact Qwx hlt<|Qq1 (F.few hu) (by decide))).trans rfl
  rw[KB.DY ht hb];refine ih (n+1) ps' _ _ _ _ (by omega) hn' g2 λp hpm a ha=>?_;have e2:ps'.take (n+1)=ps.take n++[ps[n]]:=by rw[g4,Qyq (by omega),Qv8 hlt]
  rw[e2] at hpm;rcases Qww.mp hpm with hpm|hpm;rw[g4];exact Qzy _<|hc p hpm a ha;rw[Qqw.mp hpm];exact g3 a ha;rw[Qwy hlt] at ht;have e:n=ps.length:=by omega
  have e2:ps.take n=ps:=by rw[e,Qg8]
  rw[e2] at hc;refine⟨ps,a5,a6,a7,a8,?_,F,hc⟩;rw[KB.Ma ht,e2]
theorem Nm(hx:x∈XS)(hs:s∈sides)(hR:∀R∈Rs,cI x R)(h4:Rs.length<=4)(hu:WW x s Rs)(hso:iG.eG [p6]=some (.tup (iZ x))) :
  ∃ps,iG.qC [p6,.tup [s,.tup Rs]]=some (.tup [.lst (ps.map lW),.lst (ps.map (qR x (lay s Rs) ps))])/\All x s Rs ps:=by
 have Ud:x.length<=50:=Qq1 (fM.jE x hx) (by decide);have hf:iG.dW [.tup [s,.tup Rs]]=some (lW<|sI<|lay s Rs):=by rw[first_is];exact jr.first_standing hx hs hR (by omega)
 have o0:yd x s Rs (sI<|lay s Rs):=⟨hx,hs,hR,h4,by unfold sI;rw[Qqx,jr.lg],jr.aal x _⟩;have F0:Lx x s Rs [sI (lay s Rs)]:=⟨Qx3.mpr ⟨by simp,.nil⟩,rfl,λp hp=>by rw[Qqw.mp hp];exact⟨o0,DP _ _⟩,λp hp=>by rw[Qqw.mp hp];exact⟨[],λa ha=>by simp at ha,rfl⟩⟩;obtain⟨ps,b5,b6,b7,b8,g1,g2⟩:=abA hu Ud hso 7000 0 [sI (lay s Rs)] none none none none rfl (Qxz _) F0 (λp hp=>by simp at hp);refine⟨ps,?_,g2⟩;generalize sI (lay s Rs)=f at *;generalize D.tup [s,.tup Rs]=O at *;refine cL (env:=[Zf p6,Zf O,Zf<|.lst<|ps.map lW,Zt<|.iY<|Bj lW 0 ps,Zf<|.lst<|ps.map<|qR x (lay s Rs) ps,b5,b6,b7,b8]) ?_;unfold iG.uC;let E0:Ev.Env:=[Zf p6,Zf O,Zl [lW f],Zn,Zn,Zn,Zn,Zn,Zn];refine(aB (e:=E0) ?_).trans ?_;exact(jf<|Gv (aD (aK rfl hf) aY) Ev.zz1).trans rfl;refine(aB (e:=[Zf p6,Zf O,Zl [lW f],Zt<|.iY [(lW f,.int 0)],Zn,Zn,Zn,Zn,Zn]) ?_).trans ?_;refine(jf (e:=E0) ?_).trans rfl;unfold K8;show(match Ji (lW f) with|some _=>_|none=>_)=_;rw[uL.nk];refine(aB rfl).trans ?_;refine(aB g1).trans ?_;exact bT<|cG rfl Ev.xm
end
def aaN(h:a env=.ok false e):di a b env=.ok false e:=by unfold di;rw[h];rfl
def R6(h:a env=.ok true e):di a b env=b e:=by unfold di;rw[h];rfl
def FQ(a b:Nat):wV (.int a) (.int b)=some (.bl (decide (a<b))):=by
 show some (D.bl<|decide (a<(b:Int)))=_
 congr 2
 simp
def add_str(h:a.length+b.length<=5000):cU (.str a) (.str b)=some (.str (a++b)):=by unfold cU;exact Qv4<|Qq1 h (by decide)
def xU{α:Type}(f)(l:List α){q:Nat}{a:α}(h:l[q]?=some a):bQ (.lst (l.map f)) (.int q)=some (f a):=by show uN (l.map f) q=_;exact je (by rw[Qw1,h];rfl)
def tS:iC:=di (cR (aq wV 3 (au cJ (aa (aU 1) aj)))) (di (cR (aq wV 3 (au cJ (aa (aU 2) aj)))) (cR (aN lV (aq bQ 1 (aU 3)) (aq bQ 2 (aU 3)))))
abbrev wG(A0:OD)(u t:List Nat)(k:Nat):Ev.Env:=[A0,Zs u,Zs t,Zf (.int (k:Int))]
def aeF(A0)(u t)(k):cR (aq wV 3 (au cJ (aa (aU 1) aj))) (wG A0 u t k)=.ok (decide (k<u.length)) (wG A0 u t k):=
 cW (aO rfl rfl rfl (FQ k u.length))
def ahG(A0)(u t)(k):cR (aq wV 3 (au cJ (aa (aU 2) aj))) (wG A0 u t k)=.ok (decide (k<t.length)) (wG A0 u t k):=
 cW (aO rfl rfl rfl (FQ k t.length))
def akd(A0)(u t)(k a b)(h1:u[k]?=some a)(h2:t[k]?=some b):cR (aN lV (aq bQ 1 (aU 3)) (aq bQ 2 (aU 3))) (wG A0 u t k)=.ok (decide (a=b)) (wG A0 u t k):=by
 have gx:∀z c,z[k]?=some c->bQ (.str z) (.int k)=some (.str [c]):=λz c h=>by
  show(uN z k).map _=_;rw[je h];rfl
 have e:lV (.str [a]) (.str [b])=some (.bl<|decide (a=b)):=by
  show some (D.bl<|[a] == [b])=_;congr 2;by_cases h:a=b;rw[h];simp;rw[Qwy h];exact Qzz.mpr λz=>h (Qjv z).1
 exact cW (bj (aO rfl rfl rfl (gx u a h1))
  (aO rfl rfl rfl (gx t b h2)) e)
theorem MJ(A0):∀u t pre m,u.length<m->
  eV tS iG.iJ m (wG A0 (pre++u) (pre++t) pre.length)=.nx (wG A0 (pre++u) (pre++t) (pre++cp u t).length)
 |[],t,pre,0,hm=>absurd hm<|Qk6 _|_::_,t,pre,0,hm=>absurd hm<|Qk6 _
 |[],t,pre,m+1,hm=>by
  have h1:=aeF A0 (pre++[]) (pre++t) pre.length;rw[Qwy (by rw[Qw8];exact Qz0 _)] at h1;have:cp [] t=[]:=by cases t<;>rfl
  have ht:tS (wG A0 (pre++[]) (pre++t) pre.length)=.ok false (wG A0 (pre++[]) (pre++t) pre.length):=aaN h1;rw[KB.Ma ht,this,Qw8]
 |a::u,[],pre,m+1,hm=>by
  have h1:=aeF A0 (pre++a::u) (pre++[]) pre.length;have h2:=ahG A0 (pre++a::u) (pre++[]) pre.length;rw[Qw0 (by rw[Qqv,Qqy];omega)] at h1;rw[Qwy (by rw[Qw8];exact Qz0 _)] at h2;have:cp (a::u) []=[]:=rfl;have ht:tS (wG A0 (pre++a::u) (pre++[]) pre.length)=.ok false (wG A0 (pre++a::u) (pre++[]) pre.length):=(R6 h1).trans<|aaN h2;rw[KB.Ma ht,this,Qw8]
 |a::u,b::t,pre,m+1,hm=>by
  have h1:=aeF A0 (pre++a::u) (pre++b::t) pre.length;have h2:=ahG A0 (pre++a::u) (pre++b::t) pre.length;rw[Qw0 (by rw[Qqv,Qqy];omega)] at h1 h2;have ht:tS (wG A0 (pre++a::u) (pre++b::t) pre.length)=.ok (decide (a=b)) (wG A0 (pre++a::u) (pre++b::t) pre.length):=(R6 h1).trans<|(R6 h2).trans (akd A0 (pre++a::u) (pre++b::t) pre.length a b (by simp) (by simp));by_cases hab:a=b;subst hab;rw[Qw0 rfl] at ht;have e1:∀v,pre++a::v=(pre++[a])++v:=λv=>by simp
  have e2:((pre++[a]).length)=(pre.length:Int)+1:=by rw[Qqv,Qwj];rfl
  have hb:iG.iJ (wG A0 (pre++a::u) (pre++a::t) pre.length)=.nx (wG A0 ((pre++[a])++u) ((pre++[a])++t) (pre++[a]).length):=by
   unfold wG;rw[<-e1 u,<-e1 t,e2];rfl
  rw[Qqy] at hm;rw[KB.DY ht hb,MJ A0 u t (pre++[a]) m (by omega),<-e1 u,<-e1 t];have e3:cp (a::u) (a::t)=a::cp u t:=by conv=>lhs;unfold cp;rw[Qv4 rfl]
  rw[e3,e1<|cp u t];rw[Qwy hab] at ht;have e3:cp (a::u) (b::t)=[]:=by conv=>lhs;unfold cp;rw[Qv5 hab]
  rw[KB.Ma ht,e3,Qw8]
def aeN(A0 a3:OD)(u t)(hu:u.length<=5000):iG.gh [A0,Zs u,Zs t,a3] = .nx [A0,Zs (cp u t),Zs t,Zf (.int ((cp u t).length))]:=by
 unfold iG.gh;refine(aB rfl).trans ?_;refine(aB<|MJ A0 u t [] 7000 (by omega)).trans ?_;have e:cutD u none (some<|(cp u t).length)=cp u t:=by rw[acV];exact(List.prefix_iff_eq_take.mp<|acW u t).symm
 refine bB (e:=[A0,Zs u,Zs t,Zf<|.int<|(cp u t).length]) ?_ rfl;show Ev.R.ok (D.str<|cutD u none<|some<|(cp u t).length) _=_;rw[e]
 rfl
theorem Xn(A0:OD):∀(ts:List (List Nat)) u (a2 a3:OD),u.length<=5000->∃b2 b3,jM (ak 2) iG.gh (ts.map .str) [A0,Zs u,a2,a3] = .nx [A0,Zs (ts.foldl cp u),b2,b3]
 |[],u,a2,a3,_=>⟨a2,a3,rfl⟩
 |t::ts,u,a2,a3,hu=>by
  obtain⟨b2,b3,h⟩:=Xn A0 ts (cp u t) (Zs t) (Zf<|.int<|(cp u t).length)<|Qq1 (agN u t) hu;exact⟨b2,b3,by rw[Qj5,<-h,Qq8];exact KB.o6 rfl (aeN A0 a3 u t hu)⟩
def shared_start(t)(ts)(h:t.length<=5000):iG.jo [.lst ((t::ts).map .str)]=some (.str (lcp t ts)):=by
 obtain⟨b2,b3,g⟩:=Xn (Zf<|.lst<|(t::ts).map .str) (t::ts) t none none h;refine cL (env:=[Zf (.lst<|(t::ts).map .str),Zs<|lcp t ts,b2,b3]) ?_;unfold iG.nU;refine(aB<|bB (aO rfl rfl rfl (xU D.str (t::ts) rfl)) rfl).trans ?_;refine(aB<|(cZ rfl).trans g).trans ?_
 rfl
structure MB(M:List gG):Prop where
 pos:0<M.length
 few:M.length<=600
 fin:∀st∈M,st.1.length<=30
 stp:∀st∈M,st.2.length<=50
 put:∀st∈M,∀pt∈st.2,pt.1.length<=200
 inn:∀st∈M,∀pt∈st.2,pt.2<M.length
def MB.akM(B:MB M):∀(i:Nat) st pt,M[i]?=some st->pt∈st.2->pt.2<M.length:=λi st pt h hp=>B.inn st (Qwk h) pt hp
theorem Bd{env:Ev.Env}(M:List gG)(out)(hit:it env = .ok (M.map cC) env)(hlo:env.length=lo)(hn:n=lo+2)(hg:∀st (u v:OD),g (cC st) (env++[u,v])=some (env++[Zs st.1,Zf (.tup (st.2.map bC))]))
  (h:∀st∈M,e (env++[Zs st.1,Zf (.tup (st.2.map bC))]) = .ok (out st) (env++[Zs st.1,Zf (.tup (st.2.map bC))])) (hz:M.length<=600):d9 lo n it g cA e env = .ok (.lst (M.map out)) env:=by
 subst hn hlo;have:=Bp (n:=env.length+2) (g:=g) (c:=cA) M cC (λst=>[Zs st.1,Zf<|.tup<|st.2.map bC]) (λ_=>true) out hit rfl (λst hst=>⟨by simp,λvs hv=>?_,rfl,λ_=>h st hst⟩) (Qq1 hz (by decide));rw[this,Qvq.mpr<|λ_ _=>rfl];have hv:vs.length=2:=by omega
 match vs,hv with
 |[u,v],_=>exact hg st u v
theorem yW{env:Ev.Env}(S:List (List Nat×Nat))(out)(hit:it env = .ok (S.map bC) env)(hlo:env.length=lo)(hn:n=lo+2)(hg:∀pt (u v:OD),g (bC pt) (env++[u,v])=some (env++[Zs pt.1,Zf (.int pt.2)]))
  (h:∀pt∈S,e (env++[Zs pt.1,Zf (.int pt.2)]) = .ok (out pt) (env++[Zs pt.1,Zf (.int pt.2)])) (hz:S.length<=50):d9 lo n it g cA e env = .ok (.lst (S.map out)) env:=by
 subst hn hlo;have:=Bp (n:=env.length+2) (g:=g) (c:=cA) S bC (λpt=>[Zs pt.1,Zf<|.int pt.2]) (λ_=>true) out hit rfl (λst hst=>⟨by simp,λvs hv=>?_,rfl,λ_=>h st hst⟩) (Qq1 hz (by decide));rw[this,Qvq.mpr<|λ_ _=>rfl];have hv:vs.length=2:=by omega
 match vs,hv with
 |[u,v],_=>exact hg st u v
def encM(M:List gG):D:=.lst (M.map cC)
def CB(M:List gG)(c:List (List Nat)):Prop:=c.length=M.length/\∀i,(c.getD i []).length<=30
def getD_some{c:List (List Nat)}(h:i<c.length):c[i]?=some (c.getD i []):=by rw[Qq6,Qq7 h];rfl
def CB.of(B:MB M)(h:PW c (ends M)):CB M c:=by
 refine⟨by rw[h.1];unfold ends;rw[Qqx],λi=>Qq1 (h.2 i).length_le ?_⟩;unfold ends;rw[getD_map];cases e:M[i]? with
 |none=>exact Qxz _|some st=>exact B.fin st<|Qwk e
theorem vh:∀c,(∀z∈c,z.length<=k)->wH c<=c.length*k
 |[],_=>Qxz _
 |a::c,h=>by
  have ih:=vh c λz hz=>h z<|Qqk _ hz;have h1:=h a<|Qqj ..;have e1:wH (a::c)=a.length+wH c:=by unfold wH;rw[Qq8,Qbq]
  rw[e1,Qqy,Nat.succ_mul];omega
abbrev EnC(M:List gG)(k c:List (List Nat))(o:Bool):Ev.Env:=[Zf (encM M),Zf (.lst (k.map .str)),some (o,.lst (c.map .str))]
def aaD(B:MB M)(hk:CB M k)(d)(o):iG.gB [Zf (encM M),Zf (.lst (k.map .str)),some (o,d)]=.ok (.lst ((jH M k).map .str)) [Zf (encM M),Zf (.lst (k.map .str)),some (o,d)]:=by
 unfold iG.gB;have:=Bd (lo:=3) (it:=dO<|aM 0) (g:=bV 2<|aH (ak 3)<|aH (ak 4) bZ) (e:=au iG.jo<|aa (aN cU (cB<|Zv 3 aj)<|iG.fK) aj) (env:=[Zf (encM M),Zf<|.lst<|k.map .str,some (o,d)]) M
  (λst=>.str<|lcp st.1<|st.2.map λpt=>pt.1++k.getD pt.2 []) rfl rfl rfl (λst u v=>rfl) (λst hst=>?_) B.few
 rw[this];unfold jH;rw[Qxk];rfl;have h2:iG.fK [Zf (encM M),Zf<|.lst<|k.map .str,some (o,d),Zs st.1,Zf<|.tup<|st.2.map bC]=.ok (.lst<|st.2.map λpt=>.str<|pt.1++k.getD pt.2 []) [Zf (encM M),Zf<|.lst<|k.map .str,some (o,d),Zs st.1,Zf<|.tup<|st.2.map bC]:=by
  unfold iG.fK;refine yW st.2 (λpt=>.str<|pt.1++k.getD pt.2 []) rfl rfl rfl (λpt u v=>rfl) (λpt qU=>?_) (B.stp st hst);have hlt:pt.2<k.length:=by rw[hk.1];exact B.inn st hst pt qU
  refine aO rfl ?_ rfl (add_str ?_);exact aO rfl rfl rfl (xU D.str k<|getD_some hlt);have h1:=B.put st hst pt qU;have h2:=hk.2 pt.2;omega
 refine aK (aD (bj rfl h2 ?_) aY)<|shared_start _ _<|Qq1 (B.fin st hst) (by decide);unfold cU;refine(Qv4 ?_).trans ?_;rw[Qqx];have:=B.stp st hst;exact Qq1 (show 1+st.2.length<=51 by omega) (by decide);rw[Qq8,Qxk];rfl
def acf(a b:List (List Nat)):yf (.lst (a.map .str)) (.lst (b.map .str))=some (.bl (!(a == b))):=by
 have h:=aak a b;unfold lV at h;unfold yf;cases e:bO 60 (.lst<|a.map .str) (.lst<|b.map .str) with
 |none=>rw[e] at h;cases h
 |some r=>
  rw[e] at h;have:r=(a == b):=by injection h with h;injection h
  rw[this]
  rfl
def Uu(M)(k c):cR (aq yf 2 (aU 1)) (EnC M k c true)=.ok (!(c == k)) (EnC M k c true):=
 cW (aO rfl rfl rfl (acf c k))
def Ut(B:MB M)(k c)(hc:CB M c):iG.fJ (EnC M k c true)=.nx (EnC M c (jH M c) true):=by unfold iG.fJ;refine(aB rfl).trans ?_;exact(jf<|aaD B hc (.lst<|c.map .str) false).trans rfl
def aaC(B:MB M):∀m k,CB M k->PW (jH M k) k->wH k<m->∃c,eV (cR (aq yf 2 (aU 1))) iG.fJ m (EnC M k (jH M k) true)=.nx (EnC M c c true)/\c=jH M c/\CB M c:=by
 intro m;induction m with
 |zero=>intro k _ _ h;omega|succ m ih=>intro k hk hp hs;have ht:=Uu M k<|jH M k;by_cases e:jH M k=k;rw[e,Qy2] at ht;refine⟨k,?_,e.symm,hk⟩;rw[e];exact KB.Ma ht;rw[(Qzz.mpr e)] at ht;have hc:=CB.of B<|Ei M k;obtain⟨c,h1,h2,h3⟩:=ih (jH M k) hc (Ve hp) (by have:=(PW.lt hp).2 e;omega);exact⟨c,by rw[KB.DY ht (Ut B k (jH M k) hc)];exact h1,h2,h3⟩
def certain_starts(B:MB M):∃c,iG.jq [encM M]=some (.lst (c.map .str))/\c=jH M c/\CB M c:=by
 have he:=CB.of B ⟨rfl,λi=>Qhy _⟩;have hsum:wH (ends M)<=18000:=by
  have h1:=vh (ends M) λz hz=>by
   obtain⟨st,hst,rfl⟩:=Qwq.mp hz;exact B.fin st hst
  have h2:(ends M).length<=600:=by rw[he.1];exact B.few
  have h3:=Qjw 30 h2;omega
 obtain⟨c,h1,h2,h3⟩:=aaC B 19999 (ends M) he (Ei M<|ends M) (by omega);refine⟨c,?_,h2,h3⟩;refine cL (env:=EnC M c c false) ?_;unfold iG.lC;refine(aB rfl).trans ?_;refine(aB (e:=EnC M [] (ends M) true) ?_).trans ?_;refine(jf (e:=[Zf (encM M),Zf<|.lst [],Zn]) ?_).trans rfl;unfold iG.jb;refine(Bd M (λst=>.str st.1) rfl rfl rfl (λst u v=>rfl) (λst hst=>rfl) B.few).trans ?_;unfold ends;rw[Qxk];rfl;refine(aB<|(KB.DY ?_<|Ut B [] (ends M) he).trans h1).trans ?_;rw[Uu];have:(ends M == [])=false:=Qzz.mpr λz=>by
  have h1:=he.1;have h2:=B.pos;rw[z,Qx2] at h1;omega
 rw[this];rfl;rfl
def qG(c:List (List Nat))(q:List Nat×gG):gG:=(q.2.1.drop q.1.length,q.2.2.map λpt=>((pt.1++c.getD pt.2 []).drop q.1.length,pt.2))
def jZ(c:List (List Nat))(M:List gG):List gG:=(c.zip M).map (qG c)
def abd(c:List (List Nat))(M):tW (c.map .str) (M.map cC)=(c.zip M).map λq=>.tup [.str q.1,cC q.2]:=by
 unfold tW;rw[List.zip_map,Qxk]
 rfl
abbrev W5(M:List gG)(c:List (List Nat))(acc:List D)(a3 a4 a5 a6:OD):Ev.Env:=[Zf (encM M),Zf (.lst (c.map .str)),Zl acc,a3,a4,a5,a6]
def Rm(B:MB M)(hc:CB M c)(ha:acc.length<=600)(u)(hst:st∈M)(a6) :
  iG.fW (W5 M c acc (Zs u) (Zs st.1) (Zf (.tup (st.2.map bC))) a6)=.nx (W5 M c (acc++[cC (qG c (u,st))]) (Zs u) (Zs st.1) (Zf (.tup (st.2.map bC))) (Zf (.int u.length))):=by
 unfold iG.fW;let E0:Ev.Env:=W5 M c acc (Zs u) (Zs st.1) (Zf<|.tup<|st.2.map bC)<|Zf<|.int u.length;refine(aB (e:=E0) rfl).trans ?_;have h2:iG.ir (W5 M c acc (Zs u) (Zs st.1) (Zf<|.tup<|st.2.map bC)<|Zf<|.int u.length)=.ok (.lst<|st.2.map λpt=>bC ((pt.1++c.getD pt.2 []).drop u.length,pt.2)) (W5 M c acc (Zs u) (Zs st.1) (Zf<|.tup<|st.2.map bC)<|Zf<|.int u.length):=by
  unfold iG.ir;refine yW st.2 (λpt=>bC ((pt.1++c.getD pt.2 []).drop u.length,pt.2)) rfl rfl rfl (λpt a b=>rfl) (λpt qU=>?_) (B.stp st hst);have hlt:pt.2<c.length:=by rw[hc.1];exact B.inn st hst pt qU
  refine cG (aD (e1:=W5 M c acc (Zs u) (Zs st.1) (Zf<|.tup<|st.2.map bC) (Zf<|.int u.length)++[Zs pt.1,Zf<|.int pt.2]) ?_ rfl) Ev.xm;have h3:aq cU 7 (aq bQ 1<|aU 8) (W5 M c acc (Zs u) (Zs st.1) (Zf<|.tup<|st.2.map bC) (Zf<|.int u.length)++[Zs pt.1,Zf<|.int pt.2])=.ok (.str<|pt.1++c.getD pt.2 []) (W5 M c acc (Zs u) (Zs st.1) (Zf<|.tup<|st.2.map bC) (Zf<|.int u.length)++[Zs pt.1,Zf<|.int pt.2]):=by
   refine aO rfl ?_ rfl (add_str ?_);exact aO rfl rfl rfl (xU D.str c<|getD_some hlt);have h1:=B.put st hst pt qU;have h2:=hc.2 pt.2;omega
  unfold BW;rw[h3];show Ev.R.ok (D.str<|cutD (pt.1++c.getD pt.2 []) (some u.length) none) _=_;rw[Jx]
 refine(cD (e:=E0) rfl ?_ rfl (Qw3 ha (by decide))).trans rfl;refine cG (ds:=[.str (st.1.drop u.length),.tup<|st.2.map λpt=>bC ((pt.1++c.getD pt.2 []).drop u.length,pt.2)]) (aD ?_<|aD (aK (aD h2 aY) rfl) aY) Ev.xm |>.trans ?_;show Ev.R.ok (D.str<|cutD st.1 (some u.length) none) _=_;rw[Jx];unfold cC qG;rw[Qxk];rfl
theorem YX(B:MB M)(hc:CB M c):∀(l:List (List Nat×gG)) acc a3 a4 a5 a6,acc.length+l.length<=600->(∀q∈l,q.2∈M)->
  ∃b3 b4 b5 b6,jM (bV 2 (aH (ak 3) (aH (bV 2 (aH (ak 4) (aH (ak 5) bZ))) bZ))) iG.fW (l.map λq=>.tup [.str q.1,cC q.2]) (W5 M c acc a3 a4 a5 a6)=.nx (W5 M c (acc++l.map λq=>cC (qG c q)) b3 b4 b5 b6)
 |[],acc,a3,a4,a5,a6,_,_=>⟨a3,a4,a5,a6,by rw[Qv3,Qv3,Qw8];rfl⟩
 |q::l,acc,a3,a4,a5,a6,hl,hm=>by
  rw[Qqy] at hl;obtain⟨b3,b4,b5,b6,h⟩:=YX B hc l (acc++[cC (qG c q)]) (Zs q.1) (Zs q.2.1) (Zf<|.tup<|q.2.2.map bC) (Zf<|.int q.1.length) (by rw[Qqv,Qwj];omega) λr hr=>hm r<|Qqk _ hr;refine⟨b3,b4,b5,b6,?_⟩;rw[Qq8,Qq8];have e:acc++cC (qG c q)::(l.map λq=>cC<|qG c q)=(acc++[cC (qG c q)])++l.map λq=>cC (qG c q):=by simp
  rw[e,<-h];exact KB.o6 rfl (Rm B hc (by omega) q.1 (hm q<|Qqj ..) a6)
def put_out_early(B:MB M):∃c,iG.jN [encM M]=some (.tup [.str (c.getD 0 []),encM (jZ c M)])/\c=jH M c/\CB M c:=by
 obtain⟨c,h1,h2,h3⟩:=certain_starts B;refine⟨c,?_,h2,h3⟩;obtain⟨b3,b4,b5,b6,g⟩:=YX B h3 (c.zip M) [] none none none none (by rw[Qx2,Qbk,h3.1];have:=B.few;omega) λq hq=>(Qvw hq).2;refine cL (env:=[Zf (encM M),Zf<|.lst<|c.map .str,Zf<|encM<|jZ c M,b3,b4,b5,b6]) ?_;unfold iG.lX;refine(aB<|bB (aK rfl h1) rfl).trans ?_;refine(aB (e:=W5 M c [] none none none none) rfl).trans ?_;refine(aB<|(cZ ?_).trans g).trans ?_;show Ev.R.ok (tW (c.map .str)<|M.map cC) _=_;rw[abd];have e:[]++(c.zip M).map (λq=>cC<|qG c q)=(jZ c M).map cC:=by
  unfold jZ;rw[Qbj,Qxk];rfl
 rw[e];refine bT<|cG (aD (e1:=W5 M c ((jZ c M).map cC) b3 b4 b5 b6) ?_ rfl) Ev.xm;exact aO rfl rfl rfl (xU D.str c (getD_some (by rw[h3.1];exact B.pos)))
def aav(h:c.length=M.length):aer M (jZ c M) c:=by
 intro i;unfold jZ;rw[Qw1];cases e:M[i]? with
 |none=>
  have:(c.zip M)[i]?=none:=Qj8 (by
   have:=Qf6.mp e;rw[Qbk];omega)
  rw[this]
  rfl
 |some st=>
  have hi:i<c.length:=by rw[h];exact(Qq5.mp e).1
  have:(c.zip M)[i]?=some (c.getD i [],st):=by rw[Qy0];exact⟨getD_some hi,e⟩
  rw[this]
  rfl
def Wo(h:c.length=M.length):(jZ c M).length=M.length:=by unfold jZ;rw[Qqx,Qbk,h,Qfz]
open K17 (tL)
def xQ(l:List Nat):List D:=l.map λ(k:Nat)=>.int (k:Int)
section
variable{T:Type}[DecidableEq T]{en:T->D}{key:T->NK}(Y:aa1 en key)
include Y
theorem af2(A0:OD)(us)(t)(h:us.length<=700):iG.jU [A0,Zt (.iY (Bj en 0 us)),Zf (en t)] = .nx [A0,Zt (.iY (Bj en 0 (kj us t))),Zf (en t)]:=by
 have ht:cR (aq lU 2<|aU 1) [A0,Zt<|.iY<|Bj en 0 us,Zf<|en t]=.ok (!decide (t∈us)) [A0,Zt<|.iY<|Bj en 0 us,Zf<|en t]:=
  cW (aO rfl rfl rfl (Jl Y us t))
 unfold iG.jU;by_cases hm:t∈us;rw[Qw0 hm] at ht;rw[dw ht];have e:kj us t=us:=Qv4 hm;rw[e];rfl;rw[Qwy hm] at ht;rw[gq ht];have e:kj us t=us++[t]:=Qv5 hm;have s4:=tL (i:=1) (k:=aM 2) (a:=au Js<|aa (aU 1) aj) (env:=[A0,Zt<|.iY<|Bj en 0 us,Zf<|en t]) rfl rfl rfl rfl (Y.nk t)
  (by rw[Ds];exact Qw3 h (by decide))
 rw[Ds,T4 Y us t hm] at s4;rw[s4,e];rfl
theorem ZD(A0:OD):∀(ts us:List T) (a2:OD),us.length+ts.length<=700->∃b2,jM (ak 2) iG.jU (ts.map en) [A0,Zt (.iY (Bj en 0 us)),a2] = .nx [A0,Zt (.iY (Bj en 0 (ts.foldl kj us))),b2]
 |[],us,a2,_=>⟨a2,rfl⟩
 |t::ts,us,a2,h=>by
  rw[Qqy] at h;have hl:=Qc us t;obtain⟨b2,g⟩:=ZD A0 ts (kj us t) (Zf<|en t) (by omega);exact⟨b2,by rw[Qq8,Qj5,<-g];exact KB.o6 rfl (af2 Y A0 us t (by omega))⟩
theorem numbered(ts)(h:ts.length<=600):iG.mz [.lst (ts.map en)]=some (.lst (xQ (nums ts))):=by
 obtain⟨b2,g⟩:=ZD Y (Zf<|.lst<|ts.map en) ts [] none (by rw[Qx2];omega);refine cL (env:=[Zf (.lst<|ts.map en),Zt<|.iY<|Bj en 0<|uniq ts,b2]) ?_;unfold iG.uD;refine(aB rfl).trans ?_;refine(aB<|(cZ rfl).trans g).trans ?_;refine bT ?_;unfold iG.oZ;refine(K5 ts en (λt=>.int<|eY (uniq ts) t) rfl rfl rfl (λt ht=>?_) (Qq1 h (by decide))).trans ?_;exact aO rfl rfl rfl (T5 Y (uniq ts) t<|lL.mpr ht);unfold xQ nums;rw[Qxk];rfl
end
theorem Fz{α:Type}{f:α->D}{k:α->NK}(h:∀a,uW (f a)=some (k a)):∀l:List α,uV (l.map f)=some (l.map k)
 |[]=>rfl
 |a::l=>by
  rw[Qq8];unfold uV;rw[h a,Fz h l]
  rfl
theorem GJ{α:Type}{k:α->NK}(h:∀a,(k a).dep=0):∀l:List α,NK.qW (l.map k)=0
 |[]=>by unfold NK.qW;rfl
 |a::l=>by
  rw[Qq8];unfold NK.qW;rw[h a,GJ h l]
  rfl
def Zu(h:uW (.tup xs)=some q)(hd:q.dep<=8):Ji (.tup xs)=some q:=by unfold Ji;simp only[h,Option.bind_some];exact Qv4 hd
def en1(t:List Nat×List (List Nat)):D:=.tup [.str t.1,.tup (t.2.map .str)]
def aiV(t:List Nat×List (List Nat)):NK:=.tup [.txt (strOf t.1),.tup (t.2.map λz=>.txt (strOf z))]
def en2(t:Nat×List Nat):D:=.tup [.int (t.1:Int),.tup (xQ t.2)]
def aiU(t:Nat×List Nat):NK:=.tup [.num (t.1:Int),.tup (t.2.map λ(z:Nat)=>.num (z:Int))]
theorem map_inj{α β:Type}{f:α->β}(h:∀a b,f a=f b->a=b):∀{l m:List α},l.map f=m.map f->l=m
 |[],[],_=>rfl|[],_::_,e=>by cases e|_::_,[],e=>by cases e
 |a::l,b::m,e=>by
  obtain⟨e1,e2⟩:=Qjv e;rw[h a b e1,map_inj h e2]
def aiT:aa1 en1 aiV:=by
 refine⟨λt=>Zu ?_ ?_,λp q h=>?_⟩;have h1:uV (t.2.map D.str)=some (t.2.map λz=>NK.txt<|strOf z):=Fz (λz=>by unfold uW;rfl) t.2;unfold uW uV uV uV;unfold uW;rw[h1];rfl;unfold aiV;have:NK.qW (t.2.map λz=>NK.txt<|strOf z)=0:=GJ (λz=>by unfold NK.dep;rfl) t.2;simp[NK.dep,NK.qW,this];obtain⟨h1,h2⟩:=Qjv<|NK.tup.inj h;obtain⟨h3,_⟩:=Qjv h2;exact Prod.ext (SX.pZ<|NK.txt.inj h1) (map_inj (λa b e=>SX.pZ<|NK.txt.inj e)<|NK.tup.inj h3)
def aiS:aa1 en2 aiU:=by
 refine⟨λt=>Zu ?_ ?_,λp q h=>?_⟩;have h1:uV (xQ t.2)=some (t.2.map λ(z:Nat)=>NK.num z):=Fz (λz=>by unfold uW;rfl) t.2;unfold uW uV uV uV;unfold uW;rw[h1];rfl;unfold aiU;have:NK.qW (t.2.map λ(z:Nat)=>NK.num z)=0:=GJ (λz=>by unfold NK.dep;rfl) t.2;simp[NK.dep,NK.qW,this];obtain⟨h1,h2⟩:=Qjv<|NK.tup.inj h;obtain⟨h3,_⟩:=Qjv h2;exact Prod.ext (Qh9<|NK.num.inj h1) (map_inj (λa b e=>Qh9<|NK.num.inj e)<|NK.tup.inj h3)
def KD{q:Nat}(h:q<l.length):bQ (.lst (xQ l)) (.int q)=some (.int (l.getD q 0)):=
 xU (λ(k:Nat)=>D.int k) l (by rw[Qq6,Qq7 h];rfl)
def ZM(B:MB M):iG.jl [Zf (encM M),Zn,Zn]=.ok (.lst ((oW M).map en1)) [Zf (encM M),Zn,Zn]:=by
 unfold iG.jl;refine(Bd M (λst=>en1 (st.1,st.2.map (·.1))) rfl rfl rfl (λst u v=>rfl) (λst hst=>?_) B.few).trans ?_;have h2:iG.jm [Zf (encM M),Zn,Zn,Zs st.1,Zf<|.tup<|st.2.map bC]=.ok (.lst<|st.2.map λpt=>.str pt.1) [Zf (encM M),Zn,Zn,Zs st.1,Zf<|.tup<|st.2.map bC]:=by
  unfold iG.jm;exact yW st.2 (λpt=>.str pt.1) rfl rfl rfl (λpt u v=>rfl) (λpt qU=>rfl) (B.stp st hst)
 refine(cG (aD rfl (aD (aK (aD h2 aY) rfl) aY)) Ev.xm).trans ?_;unfold en1;rw[Qxk];rfl;unfold oW;rw[Qxk];rfl
abbrev zY(M:List gG)(g:List Nat)(m:Nat):Ev.Env:=[Zf (encM M),Zf (.lst (xQ g)),Zf (.int (m:Int))]
def aat(M:List gG):Jw (M.map cC)=M.zipIdx.map λp=>.tup [.int p.2,cC p.1]:=by
 unfold Jw;rw[List.zipIdx_map,Qxk]
 rfl
def aco(B:MB M)(hg:g.length=M.length)(m):iG.jk (zY M g m)=.ok (.lst ((fc M g).map en2)) (zY M g m):=by
 unfold iG.jk;have:=Bp (lo:=3) (n:=6) (it:=Dy<|Zv 0 aj) (g:=bV 2<|aH (ak 3)<|aH (bV 2<|aH (ak 4)<|aH (ak 5) bZ) bZ) (c:=cA) (e:=bK<|aa (aq bQ 1<|aU 3)<|aa (au cO<|aa (iG.gU) aj) aj) (env:=zY M g m) M.zipIdx (λp=>.tup [.int p.2,cC p.1])
  (λp=>[Zf (.int p.2),Zs p.1.1,Zf<|.tup<|p.1.2.map bC]) (λ_=>true) (λp=>en2 (g.getD p.2 0,p.1.2.map λpt=>g.getD pt.2 0)) (by
   show Ev.R.ok (Jw<|M.map cC) _=_;rw[aat]) rfl (λp hp=>⟨rfl,λvs hv=>?_,rfl,λ_=>?_⟩) (by rw[List.length_zipIdx];exact Qq1 B.few (by decide))
 rw[this,Qvq.mpr<|λ_ _=>rfl];unfold fc;rw[Qxk];rfl;match vs,hv with
 |[u,v,w],_=>rfl
 obtain⟨st,i⟩:=p;have hi:M[i]?=some st:=by
  have:=List.mem_zipIdx_iff_getElem?.mp hp;exact this
 have hst:=Qwk hi;have hil:i<g.length:=by rw[hg];exact(Qq5.mp hi).1
 have h2:iG.gU (zY M g m++[Zf (.int i),Zs st.1,Zf<|.tup<|st.2.map bC])=.ok (.lst<|st.2.map λpt=>.int<|g.getD pt.2 0) (zY M g m++[Zf (.int i),Zs st.1,Zf<|.tup<|st.2.map bC]):=by unfold iG.gU;refine yW st.2 (λpt=>.int<|g.getD pt.2 0) rfl rfl rfl (λpt u v=>rfl) (λpt qU=>?_) (B.stp st hst);exact aO rfl rfl rfl (KD (by rw[hg];exact B.inn st hst pt qU))
 refine(cG (ds:=[.int (g.getD i 0),.tup<|st.2.map λpt=>.int<|g.getD pt.2 0]) (aD ?_<|aD (aK (aD h2 aY) rfl) aY) Ev.xm).trans ?_;exact aO rfl rfl rfl (KD hil);unfold en2 xQ;rw[Qxk];rfl
def ZR(g)(h:g.length<=600):nG (.lst (xQ g))=some (.int (cnt g)):=by
 have e:xQ g=(g.map λ(k:Nat)=>(k:Int)).map D.int:=by unfold xQ;rw[Qxk];rfl
 rw[e];show(Gh<|(g.map λ(k:Nat)=>(k:Int)).map D.int).bind _=_;rw[Ow];show(if (g.map λ(k:Nat)=>(k:Int)).length<4000 then _ else _)=_;rw[Qv4 (by rw[Qqx];omega)]
 rfl
theorem ZL(B:MB M):∀m n g,7000<=n+m->n<=600->qM M g->(n=0\/∃g0,qM M g0/\g=nums (fc M g0)/\n=cnt g0)->
  ∃g' g0 n',eV (cR (aq wV 2 (kh nG (aM 1)))) iG.gQ m (zY M g n)=.nx (zY M g' n')/\qM M g0/\g'=nums (fc M g0)/\cnt g'<=cnt g0:=by
 intro m;induction m with
 |zero=>intro n g h1 h2;omega
 |succ m ih=>
  intro n g hm hn P hw;have hg6:g.length<=600:=by rw[P.len];exact B.few
  have ht:cR (aq wV 2<|kh nG<|aM 1) (zY M g n)=.ok (decide (n<cnt g)) (zY M g n):=by
   refine cW<|aO rfl ?_ rfl (FQ n<|cnt g);show jj (nG<|.lst<|xQ g) _=_;rw[ZR g hg6];rfl
  by_cases hlt:n<cnt g;rw[Qw0 hlt] at ht;have hb:iG.gQ (zY M g n)=.nx (zY M (nums<|fc M g)<|cnt g):=by
   unfold iG.gQ;refine(aB (e:=zY M g<|cnt g)<|bB (e:=zY M g n) ?_ rfl).trans ?_;show jj (nG<|.lst<|xQ g) _=_;rw[ZR g hg6];rfl;exact bB (aK (aD (aco B P.len<|cnt g) aY)<|numbered aiS (fc M g) (by rw[ph];exact B.few)) rfl
  rw[KB.DY ht hb];have hc:=agO g;exact ih (cnt g) (nums<|fc M g) (by omega) (by omega) P.next<|.inr ⟨g,P,rfl,rfl⟩
  rw[Qwy hlt] at ht;rcases hw with h0|⟨g0,P0,e1,e2⟩;have:=acX (by rw[P.len];exact B.pos);omega;exact⟨g,g0,n,KB.Ma ht,P0,e1,by omega⟩
def like_states(B:MB M):∃g g0,iG.lO [encM M]=some (.lst (xQ g))/\qM M g0/\g=nums (fc M g0)/\cnt g<=cnt g0:=by obtain⟨g,g0,n,h1,h2,h3,h4⟩:=ZL B 7000 0 (nums<|oW M) (by omega) (by omega) (ab5 M)<|.inl rfl;refine⟨g,g0,cL (env:=zY M g n) ?_,h2,h3,h4⟩;unfold iG.o8;refine(aB<|bB (aK (aD (ZM B) aY)<|numbered aiT (oW M) (by unfold oW;rw[Qqx];exact B.few)) rfl).trans ?_;refine(aB rfl).trans ?_;exact(aB h1).trans rfl
def Ot:Nat->List Nat->List (D×D)
 |_,[]=>[]|n,v::vs=>(.int (v:Int),.int (n:Int))::Ot (n+1) vs
theorem Oq:∀us n t,Ot n (us++[t])=Ot n us++[(.int t,.int (n+us.length:Nat))]
 |[],n,t=>rfl
 |u::us,n,t=>by
  show(D.int u,D.int n)::Ot (n+1) (us++[t])=(D.int u,D.int n)::(Ot (n+1) us++_);rw[Oq us (n+1) t,Qqy];have:n+1+us.length=n+(us.length+1):=by omega
  rw[this]
theorem T6:∀us n,(Ot n us).length=us.length
 |[],n=>rfl
 |u::us,n=>by
  show(Ot (n+1) us).length+1=us.length+1;rw[T6 us]
theorem Dt:∀us (n t:Nat),mZ (Ot n us) (.inl t)=if t∈us then some (.int (n+eY us t:Nat)) else none
 |[],n,t=>by simp[Ot,mZ]
 |u::us,n,t=>by
  show(if pP (.int u)=some (.inl t) then _ else _)=_;by_cases h:u=t;subst h;have ei:eY (u::us) u=0:=by unfold eY;rw[Qv4 rfl]
  rw[Qv4 (show pP (.int u)=some (.inl u) from rfl),Qv4<|Qqj ..,ei];rfl
  have hne:¬(pP (.int u)=some (.inl t)):=λe=>h (by
   have e1:=Qw4<|show some (Sum.inl (u:Int))=some (.inl t) from e;exact Qh9<|Sum.inl.inj e1)
  have ei:eY (u::us) t=eY us t+1:=by conv=>lhs;unfold eY;rw[Qv5 h]
  rw[Qv5 hne,(Dt us (n+1) t),ei];by_cases hm:t∈us;rw[Qv4 hm,Qv4<|Qqk _ hm];have:n+1+eY us t=n+(eY us t+1):=by omega
  rw[this];rw[Qv5 hm,Qv5 λz=>(Qq4.mp z).elim (λe=>h e.symm) hm]
def V4(us)(t:Nat):qb (.int t) (.dct (Ot 0 us))=some (.bl (!decide (t∈us))):=by
 show some (D.bl<|!(mZ (Ot 0 us)<|.inl t).isSome)=_;rw[Dt];by_cases h:t∈us;rw[Qv4 h,Qw0 h];rfl;rw[Qv5 h,Qwy h];rfl
def acx{t:Nat}(h:t∈us):jL (.dct (Ot 0 us)) (.int t)=some (.int (eY us t)):=by show mZ (Ot 0 us) (.inl t)=_;rw[Dt,Qv4 h,Qfx]
def acw{t:Nat}(h:t ∉ us):putD (Ot 0 us) (.int t) (.inl t) (.int us.length)=Ot 0 (us++[t]):=by
 unfold putD;rw[Dt,Qv5 h,Oq,Qfx]
 rfl
def acQ{i:Nat}{env e1 e2:Ev.Env}(h1:a env = .ok d e1)(h0:e1[i]? = some (some (o,z)))(h2:k e1 = .ok kd e2)(h3:e2[i]? = some (Zt (.dct kvs)))(h4:pP kd=some q)(h5:kvs.length<sizeLine):qd i k a env = .nx (e2.set i (Zt (.dct (putD kvs kd q d)))):=by unfold qd;simp[h1,kY,h0,h2,h3,h4,Qv4 h5]
def grp(g:List Nat)(i:Nat):Nat:=g.getD i 0
def gs(g kept:List Nat):List Nat:=kept.map (grp g)
def uY(g kept:List Nat)(to:Nat):List Nat:=if grp g to∈gs g kept then kept else kept++[to]
def aaf(g kept)(to):gs g (uY g kept to)=kj (gs g kept) (grp g to):=by
 unfold uY kj;split;rfl;unfold gs;rw[Qw7];rfl
def m6(g kept:List Nat)(pt:List Nat×Nat):List Nat×Nat:=(pt.1,eY (gs g kept) (grp g pt.2))
abbrev Hl(M:List gG)(g kept:List Nat)(told:List D)(a5 a6 a7 a8 a9:OD):Ev.Env:=
 [Zf (encM M),Zf (.lst (xQ g)),Zt (.dct (Ot 0 (gs g kept))),Zl (xQ kept),Zl told,a5,a6,a7,a8,a9]
structure Kpt(M:List gG)(g kept:List Nat):Prop where
 nd:(gs g kept).Nodup
 z0:kept[0]?=some 0
 inn:∀k∈kept,k<M.length
theorem Kpt.few(B:MB M)(K:Kpt M g kept):kept.length<=600:=by
 have hn:kept.Nodup:=by have:=K.nd;unfold gs at this;exact(List.pairwise_map.mp this).imp λh e=>h<|Qx1 _ e
 have:=KB.sX (List.range M.length) kept hn λk hk=>Qkj.mpr<|K.inn k hk;rw[Qb8] at this;exact Qq1 this B.few
def Kpt.add(K:Kpt M g kept)(h:to<M.length):Kpt M g (uY g kept to):=by
 refine⟨by rw[aaf];exact Lq _ K.nd,?_,λk hk=>?_⟩;unfold uY;split;exact K.z0;exact KB.Uh K.z0;unfold uY at hk;split at hk;exact K.inn k hk;rcases Qww.mp hk with hk|hk;exact K.inn k hk;rw[Qqw.mp hk];exact h
def aiY(B:MB M)(hg:g.length=M.length)(K:Kpt M g kept)(hs:steps.length<=100)(hp:pt.2<M.length)(a5 a6) :
  iG.mU (Hl M g kept told a5 a6 (Zl steps) (Zs pt.1) (Zf (.int pt.2))) =
   .nx (Hl M g (uY g kept pt.2) told a5 a6 (Zl (steps++[bC (m6 g (uY g kept pt.2) pt)])) (Zs pt.1) (Zf (.int pt.2))):=by
 obtain⟨put,to⟩:=pt;have hfew:=K.few B;have ix:∀kp st,aq bQ 1 (aU 9) (Hl M g kp told a5 a6 (Zl st) (Zs put)<|Zf<|.int to)=.ok (.int<|grp g to) (Hl M g kp told a5 a6 (Zl st) (Zs put)<|Zf<|.int to):=λkp st=>
  aO rfl rfl rfl (KD (by rw[hg];exact hp))
 have fin:∀kp,grp g to∈gs g kp->dZ 7 (bK<|Zv 8<|aa (aq jL 2<|aq bQ 1<|aU 9) aj) (Hl M g kp told a5 a6 (Zl steps) (Zs put)<|Zf<|.int to) =
   .nx (Hl M g kp told a5 a6 (Zl<|steps++[bC (m6 g kp (put,to))]) (Zs put)<|Zf<|.int to):=λkp hm=>by
  refine(cD (e:=Hl M g kp told a5 a6 (Zl steps) (Zs put)<|Zf<|.int to) rfl ?_ rfl (Qw3 hs (by decide))).trans rfl;refine cG (aD rfl (aD ?_ aY)) Ev.xm;exact aO rfl (ix kp steps) rfl (acx hm)
 have ht:cR (aN qb (aq bQ 1<|aU 9)<|aU 2) (Hl M g kept told a5 a6 (Zl steps) (Zs put)<|Zf<|.int to)=.ok (!decide (grp g to∈gs g kept)) (Hl M g kept told a5 a6 (Zl steps) (Zs put)<|Zf<|.int to):=
  cW (bj (ix kept steps) rfl (V4 (gs g kept)<|grp g to))
 unfold iG.mU;by_cases hm:grp g to∈gs g kept;rw[Qw0 hm] at ht;have e:uY g kept to=kept:=Qv4 hm;show _=Out.nx (Hl M g (uY g kept to) told a5 a6 (Zl<|steps++[bC (m6 g (uY g kept to) (put,to))]) (Zs put)<|Zf<|.int to);rw[e];exact(aB<|dw ht).trans<|fin kept hm;rw[Qwy hm] at ht;have e:uY g kept to=kept++[to]:=Qv5 hm;show _=Out.nx (Hl M g (uY g kept to) told a5 a6 (Zl<|steps++[bC (m6 g (uY g kept to) (put,to))]) (Zs put)<|Zf<|.int to);rw[e];have e2:gs g (kept++[to])=gs g kept++[grp g to]:=by unfold gs;rw[Qw7];rfl
 refine(aB ?_).trans<|fin (kept++[to]) (by rw[e2];simp);refine(gq ht).trans ?_;have s4:=acQ (i:=2) (a:=au cJ<|aa (aU 3) aj) (env:=Hl M g kept told a5 a6 (Zl steps) (Zs put)<|Zf<|.int to) rfl rfl (ix kept steps) rfl rfl
  (by rw[T6];unfold gs;rw[Qqx];exact Qw3 hfew (by decide))
 have e3:(xQ kept).length=(gs g kept).length:=by unfold xQ gs;rw[Qqx,Qqx]
 rw[e3,acw hm,<-e2] at s4;rw[aB s4];refine(cD (i:=3) (e:=[Zf (encM M),Zf<|.lst<|xQ g,Zt<|.dct<|Ot 0<|gs g<|kept++[to],Zl<|xQ kept,Zl told,a5,a6,Zl steps,Zs put,Zf<|.int to]) rfl rfl rfl (by unfold xQ;rw[Qqx];exact Qw3 hfew (by decide))).trans ?_;have e5:xQ kept++[.int to]=xQ (kept++[to]):=by unfold xQ;rw[Qw7];rfl
 rw[e5];rfl
def Ej(h:grp g pt.2∈gs g kept):m6 g (kept++more) pt=m6 g kept pt:=by
 unfold m6;have e:gs g (kept++more)=gs g kept++gs g more:=by unfold gs;rw[Qw7]
 rw[e,zc _ h]
def WQ(g kept)(to):∃more,uY g kept to=kept++more:=by
 unfold uY;split;exact⟨[],(Qw8 _).symm⟩;exact⟨_,rfl⟩
theorem aiZ(B:MB M)(hg:g.length=M.length)(a5 a6)(S:List (List Nat×Nat))(hS:S.length<=50)(hin:∀pt∈S,pt.2<M.length):∀rest done kept a8 a9,S=done++rest->Kpt M g kept->(∀pt∈done,grp g pt.2∈gs g kept)->
  ∃kept' b8 b9,jM (bV 2 (aH (ak 8) (aH (ak 9) bZ))) iG.mU (rest.map bC) (Hl M g kept told a5 a6 (Zl (done.map λpt=>bC (m6 g kept pt))) a8 a9) =
   .nx (Hl M g kept' told a5 a6 (Zl (S.map λpt=>bC (m6 g kept' pt))) b8 b9)/\Kpt M g kept'/\(∀pt∈S,grp g pt.2∈gs g kept')/\∃more,kept'=kept++more:=by
 intro rest;induction rest with
 |nil=>intro done kept a8 a9 hx K hd;rw[Qw8] at hx;subst hx;exact⟨kept,a8,a9,rfl,K,hd,[],by rw[Qw8]⟩
 |cons pt rest ih=>
  intro done kept a8 a9 hx K hd;have qU:pt∈S:=by rw[hx];simp
  have hx':S=(done++[pt])++rest:=by rw[hx];simp
  have hdl:done.length<=50:=by have:=Qx1 List.length hx;rw[Qqv] at this;omega
  have h1:=aiY B hg K (told:=told) (steps:=done.map λpt=>bC<|m6 g kept pt) (by rw[Qqx];omega) (hin pt qU) a5 a6;obtain⟨m1,em⟩:=WQ g kept pt.2;have hs:(done.map λq=>bC<|m6 g kept q)++[bC (m6 g (uY g kept pt.2) pt)]=(done++[pt]).map λq=>bC (m6 g (uY g kept pt.2) q):=by
   rw[Qw7];congr 1;refine Qx7 λq hq=>?_;rw[em,Ej<|hd q hq]
  rw[hs] at h1;obtain⟨kept',b8,b9,g1,g2,g3,more,g4⟩:=ih (done++[pt]) (uY g kept pt.2) (Zs pt.1) (Zf<|.int pt.2) hx' (K.add<|hin pt qU) (λq hq=>by
   rw[aaf];rcases Qww.mp hq with hq|hq
   exact(pF _ _ _).mpr<|.inl<|hd q hq
   rw[Qqw.mp hq];exact wF _ _)
  refine⟨kept',b8,b9,?_,g2,g3,m1++more,by rw[g4,em,Qxx]⟩;rw[<-g1,Qq8];exact KB.o6 rfl h1
def qi(M:List gG)(g kept:List Nat)(k:Nat):gG:=((M.getD k ([],[])).1,(M.getD k ([],[])).2.map (m6 g kept))
structure Led(M:List gG)(g kept:List Nat):Prop extends Kpt M g kept where
 led:∀k∈kept,∀pt∈(M.getD k ([],[])).2,grp g pt.2∈gs g kept
def getM{M:List gG}(h:k<M.length):M[k]?=some (M.getD k ([],[])):=by rw[Qq6,Qq7 h];rfl
theorem acy(B:MB M)(hg:g.length=M.length):∀m n kept a5 a6 a7 a8 a9,n+m=7000->n<=kept.length->Kpt M g kept->(∀k∈kept.take n,∀pt∈(M.getD k ([],[])).2,grp g pt.2∈gs g kept)->
  ∃kept' b5 b6 b7 b8 b9,eV (cR (aN wV (au cJ (aa (aU 4) aj)) (au cJ (aa (aU 3) aj)))) iG.mJ m (Hl M g kept ((kept.take n).map λk=>cC (qi M g kept k)) a5 a6 a7 a8 a9) =
   .nx (Hl M g kept' (kept'.map λk=>cC (qi M g kept' k)) b5 b6 b7 b8 b9)/\Led M g kept':=by
 intro m;induction m with
 |zero=>intro n kept a5 a6 a7 a8 a9 hm hn K hc;have:=K.few B;omega
 |succ m ih=>
  intro n kept a5 a6 a7 a8 a9 hm hn K hc;have hrl:((kept.take n).map λk=>cC<|qi M g kept k).length=n:=by rw[Qqx,Qzv];omega
  have ht:cR (aN wV (au cJ<|aa (aU 4) aj)<|au cJ<|aa (aU 3) aj) (Hl M g kept ((kept.take n).map λk=>cC<|qi M g kept k) a5 a6 a7 a8 a9)=.ok (decide (n<kept.length)) (Hl M g kept ((kept.take n).map λk=>cC<|qi M g kept k) a5 a6 a7 a8 a9):=by
   refine cW<|bj rfl rfl ?_;have:(xQ kept).length=kept.length:=by unfold xQ;rw[Qqx]
   rw[hrl,this];exact FQ n kept.length
  by_cases hlt:n<kept.length;rw[Qw0 hlt] at ht;have hk:=Qq7 hlt;have hkl:=K.inn kept[n]<|Qzw hlt;generalize kept[n]=k at *;have hM:=getM hkl;have hst:=Qwk hM;have row:∀kp,qi M g kp k=((M.getD k ([],[])).1,(M.getD k ([],[])).2.map<|m6 g kp):=λkp=>rfl;generalize M.getD k ([],[])=st at hM hst row;obtain⟨kept',b8,b9,g1,g2,g3,more,g4⟩:=aiZ B hg (told:=(kept.take n).map λk=>cC<|qi M g kept k) (Zs st.1) (Zf<|.tup<|st.2.map bC) st.2 (B.stp st hst) (B.inn st hst) st.2 [] kept a8 a9 rfl K (λa ha=>by simp at ha);have hn':n+1<=kept'.length:=by rw[g4,Qqv];omega
  have hf:=g2.few B;have e2:kept'.take (n+1)=kept.take n++[k]:=by
   rw[g4,Qyq (by omega),List.take_add_one,hk];rfl
  have e1:(kept.take n).map (λk=>cC<|qi M g kept k)++[cC (qi M g kept' k)]=(kept'.take<|n+1).map λk=>cC (qi M g kept' k):=by
   rw[e2,Qw7];congr 1;refine Qx7 λj hj=>?_;unfold qi;congr 2;refine Qx7 λpt qU=>?_;rw[g4,Ej<|hc j hj pt qU]
  have hb:iG.mJ (Hl M g kept ((kept.take n).map λk=>cC<|qi M g kept k) a5 a6 a7 a8 a9)=.nx (Hl M g kept' ((kept'.take<|n+1).map λk=>cC<|qi M g kept' k) (Zs st.1) (Zf<|.tup<|st.2.map bC) (Zl<|st.2.map λpt=>bC<|m6 g kept' pt) b8 b9):=by
   rw[<-e1,row];generalize(kept.take n).map (λk=>cC<|qi M g kept k)=told at *;unfold iG.mJ;refine(aB<|bB (d:=cC st) (e:=Hl M g kept told a5 a6 a7 a8 a9) ?_ rfl).trans ?_;refine aO rfl ?_ rfl (xU cC M hM);refine aO rfl rfl rfl ?_;rw[hrl];exact xU (λ(k:Nat)=>D.int k) kept hk;refine(aB rfl).trans ?_;refine(aB<|(cZ rfl).trans g1).trans ?_;refine(cD (i:=4) (e:=Hl M g kept' told (Zs st.1) (Zf<|.tup<|st.2.map bC) (Zl<|st.2.map λpt=>bC<|m6 g kept' pt) b8 b9) rfl rfl rfl (by rw[hrl];exact Qwx hlt<|Qq1 (K.few B) (by decide))).trans ?_;have e6:cC (st.1,st.2.map<|m6 g kept')=.tup [.str st.1,.tup<|st.2.map λpt=>bC<|m6 g kept' pt]:=by
    unfold cC;rw[Qxk];rfl
   rw[e6];rfl
  rw[KB.DY ht hb];refine ih (n+1) kept' _ _ _ _ _ (by omega) hn' g2 λj hj pt qU=>?_;rw[e2] at hj;rcases Qww.mp hj with hj|hj;rw[g4];have e:gs g (kept++more)=gs g kept++gs g more:=by unfold gs;rw[Qw7]
  rw[e];exact Qzy _<|hc j hj pt qU;rw[Qqw.mp hj] at qU;have hst2:M.getD k ([],[])=st:=by
   rw[Qq6,hM];rfl
  rw[hst2] at qU;exact g3 pt qU;rw[Qwy hlt] at ht;have e:n=kept.length:=by omega
  have e2:kept.take n=kept:=by rw[e,Qg8]
  rw[e2] at hc;refine⟨kept,a5,a6,a7,a8,a9,?_,K,hc⟩;rw[KB.Ma ht,e2]
def joined(B:MB M):∃g g0 kept,iG.tH [encM M]=some (.tup (kept.map λk=>cC (qi M g kept k)))/\qM M g0/\g=nums (fc M g0)/\cnt g<=cnt g0/\Led M g kept:=by
 obtain⟨g,g0,h1,h2,h3,h4⟩:=like_states B;have hg:g.length=M.length:=by rw[h3,yS,ph]
 have K0:Kpt M g [0]:=⟨Qx3.mpr ⟨by simp,.nil⟩,rfl,λk hk=>by rw[Qqw.mp hk];exact B.pos⟩;obtain⟨kept,b5,b6,b7,b8,b9,g1,g2⟩:=acy B hg 7000 0 [0] none none none none none rfl (Qxz _) K0 (λk hk=>by simp at hk);refine⟨g,g0,kept,cL (env:=Hl M g kept (kept.map λk=>cC<|qi M g kept k) b5 b6 b7 b8 b9) ?_,h2,h3,h4,g2⟩;unfold iG.zL;let E0:Ev.Env:=[Zf (encM M),Zf<|.lst<|xQ g,Zn,Zn,Zn,Zn,Zn,Zn,Zn,Zn];refine(aB (e:=E0)<|bB (aK rfl h1) rfl).trans ?_;refine(aB (e:=[Zf (encM M),Zf<|.lst<|xQ g,Zt<|.dct [(.int<|grp g 0,.int 0)],Zn,Zn,Zn,Zn,Zn,Zn,Zn]) ?_).trans ?_;refine(jf (e:=E0) ?_).trans rfl;have:aq bQ 1 (Zi 0) [Zf (encM M),Zf<|.lst<|xQ g,Zn,Zn,Zn,Zn,Zn,Zn,Zn,Zn]=.ok (.int<|grp g 0) [Zf (encM M),Zf<|.lst<|xQ g,Zn,Zn,Zn,Zn,Zn,Zn,Zn,Zn]:=
  aO rfl rfl rfl (KD (by rw[hg];exact B.pos))
 unfold Dz;rw[this];rfl;refine(aB rfl).trans ?_;refine(aB rfl).trans ?_;exact(aB g1).trans rfl
def V9(B:MB M)(P:qM M g0)(hg:g=nums (fc M g0))(hc:cnt g<=cnt g0)(L:Led M g kept):∀w,jY (kept.map (qi M g kept)) 0 w=jY M 0 w:=by
 subst hg;have J:aa3 M (kept.map<|qi M (nums<|fc M g0) kept) (λi=>(nums<|fc M g0).getD i 0) kept (λv=>eY (gs (nums<|fc M g0) kept) v):=by
  refine⟨by rw[Qqx],L.inn,λj k st hj hs=>?_,λk hk st hs pt qU=>?_⟩;rw[Qw1,hj];show some (qi M _ kept k)=_;unfold qi;rw[Qq6,hs];rfl;have h1:=nD (L.led k hk pt (by rw[Qq6,hs];exact qU));unfold gs at h1;rw[Qw1] at h1;obtain⟨k',e1,e2⟩:=Qwz.mp h1;exact⟨k',e1,e2⟩
 exact λw=>Q6 (aaQ P B.akM hc) J w 0 0 L.z0
open dM (State Step ig qx vN Bq rB res vW isR vm aeX idx aaa mL wu)
structure SO(x:List Nat)(m:Nat)(s:State):Prop where
 fin:s.1.length<=300
 len:s.2.length=x.length
 stp:∀p∈s.2,p.1.length<=300/\p.2<m
structure MO(x:List Nat)(m:Nat)(first:List Nat)(ss:List State):Prop where
 fst:first.length<=300
 pos:0<m
 len:ss.length=m
 sts:∀s∈ss,SO x m s
def Z3{zs:List (List Nat)}(h1:zs.length<=2000)(h2:∀z∈zs,z.length<=300):pB (.str []) (.lst (zs.map .str))=some (.str zs.flatten):=by have h3:=dM.vh h2;have h4:zs.length*300<=2000*300:=Qjw _ h1;have hf:joinFits [] zs=true:=Qw0 (by rw[Qx2,Nat.mul_zero];omega);show(match j6 (zs.map D.str) with|some xs=>if joinFits [] xs=true then some (D.str<|zb [] xs) else none|none=>none)=_;rw[mL];show(if joinFits [] zs=true then _ else _)=_;rw[Qv4 hf,wu]
section
variable{x:List Nat}{ss:List State}{m:Nat}{first:List Nat}
theorem Af(hx:x∈dM.XS)(ok:MO x m first ss)(hq:q<m)(hc:c∈x):∃(s:State) (j:Nat),ss[q]?=some s/\s.2[j]?=some (ig x ss q c)/\wA (.tup (iZ x)) (.str [c])=some (.int j)/\jd (.str x) (.str [c])=some (.int j)/\(ig x ss q c).1.length<=300/\(ig x ss q c).2<m:=by
 obtain⟨j,h1,h2,h3,h4⟩:=aaa x hx c hc;have hql:q<ss.length:=by rw[ok.len];exact hq
 have hs:=Qq7 hql;have st:=ok.sts ss[q]<|Qzw hql;have hjl:j<ss[q].2.length:=by rw[st.len];exact h2
 have e:ig x ss q c=ss[q].2[j]:=by
  have e1:ss.getD q ([],[])=ss[q]:=by rw[Qq6,hs];rfl
  unfold ig;rw[e1,h1];show(ss[q].2).getD j ([],0)=_;rw[Qq6,Qq7 hjl]
  rfl
 refine⟨ss[q],j,hs,by rw[e];exact Qq7 hjl,h3,h4,?_⟩;rw[e];exact st.stp _<|Qzw hjl
theorem Pk(ok:MO x m first ss)(hq:q<m):∃s,ss[q]?=some s/\Bq ss q=s.1/\s.1.length<=300:=by
 have hql:q<ss.length:=by rw[ok.len];exact hq
 have hs:=Qq7 hql;exact⟨ss[q],hs,by unfold Bq;rw[Qq6,hs];rfl,(ok.sts ss[q]<|Qzw hql).fin⟩
theorem Gi(hx:x∈dM.XS)(ok:MO x m first ss)(v)(hv:∀c∈v,c∈x):(qx x ss v).2<m/\(∀z∈(qx x ss v).1,z.length<=300)/\(qx x ss v).1.length=v.length:=by
 have key:∀n v,v.length=n->(∀c∈v,c∈x)->(qx x ss v).2<m/\(∀z∈(qx x ss v).1,z.length<=300)/\(qx x ss v).1.length=v.length:=by
  intro n;induction n with
  |zero=>
   intro v hl _;cases v with
   |nil=>exact⟨ok.pos,λz hz=>by simp[qx] at hz,rfl⟩|cons _ _=>cases hl
  |succ n ih=>
   intro v hl hv;obtain⟨u,c,rfl⟩:∃u c,v=u++[c]:=⟨v.dropLast,v.getLast (by intro z;rw[z] at hl;cases hl),(Qdq _).symm⟩;have hl':u.length=n:=by simpa using hl
   obtain⟨h1,h2,h3⟩:=ih u hl' λc hc=>hv c<|Qzy _ hc;obtain⟨s,j,_,_,_,_,h4,h5⟩:=Af hx ok h1<|hv c (by simp);rw[vN];refine⟨h5,λz hz=>?_,by simp[h3]⟩;rcases Qww.mp hz with hz|hz;exact h2 z hz;rw[Qqw.mp hz];exact h4
 exact key v.length v rfl hv
theorem XJ(hx:x∈dM.XS)(ok:MO x m first ss)(hq:q<m)(hc:c∈x)(acc)(ha:acc.length<=2000)(a0 a1 a2 a3 a4 a9 a11 a12:OD) :
  dM.Tf [a0,a1,a2,a3,a4,Zf (.tup (ss.map dM.bL)),Zf (.tup (iZ x)),Zl acc,Zf (.int q),a9,Zs [c],a11,a12] =
   .nx [a0,a1,a2,a3,a4,Zf (.tup (ss.map dM.bL)),Zf (.tup (iZ x)),Zl (acc++[.str (ig x ss q c).1]),Zf (.int ((ig x ss q c).2)),a9,Zs [c],Zs ((ig x ss q c).1),a12]:=by
 obtain⟨s,j,h1,h2,h3,_,_,_⟩:=Af hx ok hq hc;generalize hE:[a0,a1,a2,a3,a4,Zf<|.tup<|ss.map dM.bL,Zf<|.tup<|iZ x,Zl acc,Zf<|.int q,a9,Zs [c],a11,a12]=env;unfold dM.Tf;let E0:Ev.Env:=[a0,a1,a2,a3,a4,Zf<|.tup<|ss.map dM.bL,Zf<|.tup<|iZ x,Zl acc,Zf<|.int<|(ig x ss q c).2,a9,Zs [c],Zs<|(ig x ss q c).1,a12];refine(aB (e:=E0) ?_).trans ?_;refine bB (d:=dM.encP<|ig x ss q c) (e:=env) ?_ (by rw[<-hE];rfl);refine bj (e1:=env) ?_ ?_<|rB dM.encP s.2 j _ h2;refine bj (x:=dM.bL s) ?_ (by rfl) rfl;exact aO (by rw[<-hE];rfl) (by rw[<-hE];rfl) (by rw[<-hE];rfl)<|rB dM.bL ss q s h1;exact bj (by rw[<-hE];rfl) (by rw[<-hE];rfl) h3;exact(dM.cD (i:=7) (e:=E0) rfl rfl rfl (Qw3 ha (by decide))).trans rfl
theorem run_eq(hx:x∈dM.XS)(hr:fM.Rows (iZ x) rs)(ok:MO x m first ss)(side w)(hw:∀c∈w,c∈x)(hl:w.length<=1000) :
  iG.Gq [.tup rs,dM.encM first ss,.str side,.str w]=some (.str (dM.rd side (res x first ss (dM.rd side w)))):=by
 have hr1:∀c∈dM.rd side w,c∈x:=λc hc=>by
  unfold dM.rd at hc;split at hc;exact hw c<|Qvz.mp hc;exact hw c hc
 have hr2:(dM.rd side w).length<=1000:=by
  unfold dM.rd;split;rw[Qky];exact hl;exact hl
 generalize hv:dM.rd side w=v at hr1 hr2;obtain⟨e',f1,u,a10,a11,hdone,rfl⟩:=jV (g:=ak 10) (iZ v) (λdone env=>∃u a10 a11,done=iZ u/\env=[Zf (.tup rs),Zf<|dM.encM first ss,Zs side,Zs w,Zs first,Zf<|.tup<|ss.map dM.bL,Zf<|.tup<|iZ x,Zl<|(first::(qx x ss u).1).map .str,Zf<|.int<|(qx x ss u).2,Zs v,a10,a11,Zn])
  (λdone s rest hall env ⟨u,a10,a11,hd,he⟩=>by
   subst he;obtain⟨u',c,h1,h2,h3,h4,h5⟩:=vW hall;have hu:u=u':=by have:=hd.symm.trans h1;unfold iZ at this;exact Qb0 (λa b h=>by cases h;rfl) |>.mp this
   subst hu;have hux:=λe he=>hr1 e<|h4 e he;obtain⟨g1,g2,g3⟩:=Gi hx ok u hux;subst h2;refine⟨_,_,rfl,XJ hx ok g1 (hr1 c h3) ((first::(qx x ss u).1).map .str) (by rw[Qqx,Qqy,g3];omega) _ _ _ _ _ _ _ _,u++[c],Zs [c],Zs<|(ig x ss (qx x ss u).2 c).1,?_,?_⟩
   rw[hd];unfold iZ;rw[Qw7];rfl
   rw[vN];simp[Qq8,Qw7,Qv3,Qh0])
  [Zf (.tup rs),Zf<|dM.encM first ss,Zs side,Zs w,Zs first,Zf<|.tup<|ss.map dM.bL,Zf<|.tup<|iZ x,Zl [.str first],Zf<|.int 0,Zs v,Zn,Zn,Zn] ⟨[],Zn,Zn,rfl,rfl⟩
 have huv:u=v:=by have:=hdone.symm;unfold iZ at this;exact Qb0 (λa b h=>by cases h;rfl) |>.mp this
 subst huv;obtain⟨g1,g2,g3⟩:=Gi hx ok u hr1;obtain⟨s,q1,q2,q3⟩:=Pk ok g1;have hall:∀z∈(first::(qx x ss u).1)++[Bq ss (qx x ss u).2],z.length<=300:=λz hz=>by
  rcases Qww.mp hz with hz|hz;rcases Qq4.mp hz with rfl|hz;exact ok.fst;exact g2 z hz;rw[Qqw.mp hz,q2];exact q3
 have aja:((first::(qx x ss u).1)++[Bq ss (qx x ss u).2]).flatten=res x first ss u:=by unfold res;simp
 have ai8:pB (.str []) (.lst<|(first::(qx x ss u).1).map D.str++[.str (Bq ss (qx x ss u).2)])=some (.str<|res x first ss u):=by have:=Z3 (by rw[Qqv,Qqy,g3,Qwj];omega) hall;rw[aja,Qw7] at this;exact this
 let E0:Ev.Env:=[Zf (.tup rs),Zf<|dM.encM first ss,Zs side,Zs w,Zs first,Zf<|.tup<|ss.map dM.bL,Zf<|.tup<|iZ x,Zl<|(first::(qx x ss u).1).map D.str++[.str (Bq ss (qx x ss u).2)],Zf<|.int<|(qx x ss u).2,Zs u,a10,a11,Zs<|res x first ss u];refine cL (env:=E0) ?_;unfold iG.UJ;refine(aB (by rfl)).trans ?_;refine(aB (e:=[Zf (.tup rs),Zf<|dM.encM first ss,Zs side,Zs w,Zs first,Zf<|.tup<|ss.map dM.bL,Zf<|.tup<|iZ x,Zn,Zn,Zn,Zn,Zn,Zn]) ?_).trans ?_;exact bB (aK (by rfl) (by rw[yu];exact fM.sounds_of hx hr)) (by rfl);refine(aB (by rfl)).trans ?_;refine(aB (by rfl)).trans ?_;refine(aB (e:=[Zf (.tup rs),Zf<|dM.encM first ss,Zs side,Zs w,Zs first,Zf<|.tup<|ss.map dM.bL,Zf<|.tup<|iZ x,Zl [.str first],Zf<|.int 0,Zs u,Zn,Zn,Zn]) ?_).trans ?_;refine bB (e:=[Zf (.tup rs),Zf<|dM.encM first ss,Zs side,Zs w,Zs first,Zf<|.tup<|ss.map dM.bL,Zf<|.tup<|iZ x,Zl [.str first],Zf<|.int 0,Zn,Zn,Zn,Zn]) ?_ (by rfl);rw[<-hv];exact aeX 3 side w _ rfl rfl;refine(aB<|(cZ (by rfl)).trans f1).trans ?_;refine(aB (e:=[Zf (.tup rs),Zf<|dM.encM first ss,Zs side,Zs w,Zs first,Zf<|.tup<|ss.map dM.bL,Zf<|.tup<|iZ x,Zl<|(first::(qx x ss u).1).map D.str++[.str (Bq ss (qx x ss u).2)],Zf<|.int<|(qx x ss u).2,Zs u,a10,a11,Zn]) ?_).trans ?_;generalize hE:[Zf (.tup rs),Zf<|dM.encM first ss,Zs side,Zs w,Zs first,Zf<|.tup<|ss.map dM.bL,Zf<|.tup<|iZ x,Zl<|(first::(qx x ss u).1).map D.str,Zf<|.int<|(qx x ss u).2,Zs u,a10,a11,Zn]=env;refine(dM.cD (e:=env) (by rw[<-hE];rfl) ?_ (by rw[<-hE];rfl) (by rw[Qqx,Qqy,g3];exact Qw3 (show u.length+1<=1001 by omega) (by decide))).trans (by rw[<-hE];rfl);refine bj (x:=dM.bL s) ?_ (by rfl) (by rw[q2];rfl);exact aO (by rw[<-hE];rfl) (by rw[<-hE];rfl) (by rw[<-hE];rfl)<|rB dM.bL ss _ s q1;refine(aB (e:=E0) ?_).trans ?_;exact bB (bj (by rfl) (by rfl) ai8) (by rfl);exact bT<|aeX 12 side (res x first ss u) _ rfl rfl
end
open nZ (sides)
open jr (lZ xX sI lay yd)
section
variable{x:List Nat}{s:D}{Rs:List D}{p6:D}{ps:List P}
noncomputable def Q8(x:List Nat)(Ls:List D)(p:P)(w:List Nat):List Nat:=(lZ x Ls p w).2++xX x Ls (lZ x Ls p w).1 []
noncomputable def wI(x:List Nat)(Ls:List D)(ps:List P)(p:P):gG:=(xX x Ls p [],x.map (pq x Ls ps p))
theorem standing_states(hx:x∈dM.XS)(hs:s∈sides)(hR:∀R∈Rs,cI x R)(h4:Rs.length<=4)(hu:WW x s Rs)(hso:iG.eG [p6]=some (.tup (iZ x))) :
  ∃ps,iG.iR [p6,.tup [s,.tup Rs]]=some (KM.encM (ps.map (wI x (lay s Rs) ps)))/\All x s Rs ps:=by
 obtain⟨ps,h1,A⟩:=Nm hx hs hR h4 hu hso;refine⟨ps,?_,A⟩;have he:∀p∈ps,iG.nJ [.tup [s,.tup Rs],lW p]=some (.str<|xX x (lay s Rs) p []):=λp hp=>by
  rw[Wn];exact jr.end_of (A.ok p hp).o
 generalize D.tup [s,.tup Rs]=O at *;refine cL (env:=[Zf p6,Zf O,Zf<|.lst<|ps.map lW,Zf<|.lst<|ps.map<|qR x (lay s Rs) ps]) ?_;unfold iG.j9;refine(aB<|bB (aK rfl h1) rfl).trans ?_;refine bT ?_;unfold iG.iK;have ez:tW (ps.map lW) (ps.map<|qR x (lay s Rs) ps)=ps.map λp=>.tup [lW p,qR x (lay s Rs) ps p]:=by
  unfold tW;rw[List.zip_map',Qxk];rfl
 refine(Bp (lo:=4) ps (λp=>.tup [lW p,qR x (lay s Rs) ps p])
  (λp=>[Zf (lW p),Zf<|qR x (lay s Rs) ps p]) (λ_=>true) (λp=>cC<|wI x (lay s Rs) ps p) (by
   show Ev.R.ok (tW (ps.map lW)<|ps.map<|qR x (lay s Rs) ps) _=_;rw[ez]) rfl (λp hp=>⟨rfl,λvs hv=>?_,rfl,λ_=>?_⟩) (Qq1 (A.few hu) (by decide))).trans ?_
 match vs,hv with
 |[u,v],_=>rfl
 have er:cC (wI x (lay s Rs) ps p)=.tup [.str (xX x (lay s Rs) p []),qR x (lay s Rs) ps p]:=by
  unfold cC wI qR;rw[Qxk];rfl
 rw[er];exact cG (aD (aK rfl (he p hp)) rfl) Ev.xm;rw[Qvq.mpr (λ_ _=>rfl)];unfold KM.encM;rw[Qxk];rfl
theorem aip(h:n<=4):2^n<=16:=Qx8 (by decide) h
theorem MF(hR:∀R∈Rs,cI x R)(h4:Rs.length<=4)(hp:OkP x s Rs p):(xX x (lay s Rs) p []).length<=30/\∀a∈x,(Rn x (lay s Rs) p a).length<=16:=by
 have hl:=jr.lg s Rs;have h16:=aip (n:=(lay s Rs).length) (by omega);refine⟨?_,λa ha=>?_⟩;have:=(K19.aau (lay s Rs) p [] (jr.sr hR) hp.o.hS<|λa ha=>by simp at ha).2;rw[Qx2] at this;omega;have:=Lz.Kf (lay s Rs) p [a] (jr.sr hR) hp.o.hS (λb hb=>by rw[Qqw.mp hb];exact Qqk _ ha);rw[Qwj] at this;unfold Rn;omega
theorem ajB(hx:x∈dM.XS)(hR:∀R∈Rs,cI x R)(h4:Rs.length<=4)(hu:WW x s Rs)(A:All x s Rs ps):MB (ps.map (wI x (lay s Rs) ps))/\∀st∈ps.map (wI x (lay s Rs) ps),st.2.length=x.length/\∀pt∈st.2,pt.1.length<=16:=by
 have Ud:=fM.jE x hx;have hp:∀st∈ps.map (wI x (lay s Rs) ps),st.2.length=x.length/\∀pt∈st.2,pt.1.length<=16:=λst hst=>by
  obtain⟨p,hp,rfl⟩:=Qwq.mp hst;refine⟨by unfold wI;rw[Qqx],λpt qU=>?_⟩;obtain⟨a,ha,rfl⟩:=Qwq.mp qU;exact(MF hR h4<|A.ok p hp).2 a ha
 refine⟨⟨?_,by rw[Qqx];exact A.few hu,λst hst=>?_,λst hst=>by have:=(hp st hst).1;omega,λst hst pt qU=>Qq1 ((hp st hst).2 pt qU) (by decide),λst hst pt qU=>?_⟩,hp⟩;rw[Qqx];exact Qj1<|Qwk A.z0;obtain⟨p,hp,rfl⟩:=Qwq.mp hst;exact(MF hR h4<|A.ok p hp).1;obtain⟨p,hp,rfl⟩:=Qwq.mp hst;obtain⟨a,ha,rfl⟩:=Qwq.mp qU;rw[Qqx];exact Du<|A.clo p hp a ha
theorem Te(A:All x s Rs ps):∀w p,p∈ps->(∀a∈w,a∈x)->jY (ps.map (wI x (lay s Rs) ps)) (eY ps p) (w.map (eY x))=some (Q8 x (lay s Rs) p w)
 |[],p,hp,_=>by
  have hl:(lay s Rs).length=p.length:=by rw[jr.lg];exact(A.ok p hp).o.hl.symm
  show(ps.map<|wI x (lay s Rs) ps)[eY ps p]?.map (·.1)=_;rw[Qw1,nD hp];unfold Q8;rw[Lz.yJ _ _ hl];rfl
 |a::w,p,hp,hw=>by
  have hl:(lay s Rs).length=p.length:=by rw[jr.lg];exact(A.ok p hp).o.hl.symm
  have ha:=hw a<|Qqj ..;have e1:(ps.map<|wI x (lay s Rs) ps)[eY ps p]?=some (wI x (lay s Rs) ps p):=by rw[Qw1,nD hp];rfl
  have e2:(wI x (lay s Rs) ps p).2[eY x a]?=some (pq x (lay s Rs) ps p a):=by
   unfold wI;rw[Qw1,nD ha];rfl
  rw[Qq8];unfold jY;rw[e1];simp;rw[e2];show(jY _ (eY ps<|wU x (lay s Rs) p a)<|w.map<|eY x).map _=_;rw[(Te A w (wU x (lay s Rs) p a) (A.clo p hp a ha) λb hb=>hw b<|Qqk _ hb)];unfold Q8;have:=Lz.Dj (x:=x) (lay s Rs) p [a] w hl;rw[List.singleton_append] at this;rw[this];show some (Rn x (lay s Rs) p a++((lZ x (lay s Rs) (wU x (lay s Rs) p a) w).2++xX x (lay s Rs) (lZ x (lay s Rs) (wU x (lay s Rs) p a) w).1 []))=_;rw[<-Qxx];rfl
theorem aaw(B:MB M)(hp:∀st∈M,st.2.length=x.length/\∀pt∈st.2,pt.1.length<=16)(hc:CB M c):MB (jZ c M)/\∀st∈jZ c M,st.2.length=x.length:=by
 have hl:=Wo hc.1;have key:∀st'∈jZ c M,∃st∈M,∃u,st'=qG c (u,st):=λst' h=>by
  obtain⟨q,hq,rfl⟩:=Qwq.mp h;exact⟨q.2,(Qvw hq).2,q.1,rfl⟩
 refine⟨⟨by rw[hl];exact B.pos,by rw[hl];exact B.few,λst' h=>?_,λst' h=>?_,λst' h pt qU=>?_,λst' h pt qU=>?_⟩,λst' h=>?_⟩;all_goals obtain⟨st,hst,u,rfl⟩:=key st' h
 show(st.1.drop u.length).length<=30;rw[Qz5];have:=B.fin st hst;omega;show(st.2.map _).length<=50;rw[Qqx];exact B.stp st hst;obtain⟨q,hq,rfl⟩:=Qwq.mp qU;show((q.1++c.getD q.2 []).drop u.length).length<=200;rw[Qz5,Qqv];have h1:=(hp st hst).2 q hq;have h2:=hc.2 q.2;omega;obtain⟨q,hq,rfl⟩:=Qwq.mp qU;rw[hl];exact B.inn st hst q hq;show(st.2.map _).length=_;rw[Qqx];exact(hp st hst).1
def MX(x:List Nat)(M:List gG):Prop:=∀st∈M,(∀c∈st.1,c∈x)/\∀pt∈st.2,∀c∈pt.1,c∈x
theorem aeM(hR:∀R∈Rs,cI x R)(A:All x s Rs ps):MX x (ps.map (wI x (lay s Rs) ps)):=λst hst=>by
 obtain⟨p,hp,rfl⟩:=Qwq.mp hst;refine⟨ad9 _ p [] (jr.sr hR) (A.ok p hp).u<|λa ha=>by simp at ha,λpt qU=>?_⟩;obtain⟨a,ha,rfl⟩:=Qwq.mp qU;exact adI _ p [a] (jr.sr hR) (A.ok p hp).u λb hb=>by rw[Qqw.mp hb];exact ha
theorem Mz(hx:MX x M)(hc:zX M c)(i):∀a∈c.getD i [],a∈x:=by
 cases e:M[i]? with
 |none=>rw[getD_none (by rw[hc.len];exact Qf6.mp e)];exact λa ha=>by simp at ha|some st=>exact λa ha=>(hx st<|Qwk e).1 a<|(hc.fin i st e).subset ha
theorem acP(hx:MX x M)(hc:zX M c):MX x (jZ c M):=λst' h=>by
 obtain⟨q,hq,rfl⟩:=Qwq.mp h;have hst:=(Qvw hq).2;refine⟨λa ha=>(hx q.2 hst).1 a<|Qh5 ha,λpt qU=>?_⟩;obtain⟨r,hr,rfl⟩:=Qwq.mp qU;intro a ha;rcases Qww.mp (Qh5 ha) with ha|ha;exact(hx q.2 hst).2 r hr a ha;exact Mz hx hc r.2 a ha
theorem least_machine(hx:x∈dM.XS)(hs:s∈sides)(hR:∀R∈Rs,cI x R)(h4:Rs.length<=4)(hu:WW x s Rs)(hso:iG.eG [p6]=some (.tup (iZ x))) :
  ∃first N,iG.cY [p6,.tup [s,.tup Rs]]=some (dM.encM first N)/\MO x N.length first N/\(∀w,(∀a∈w,a∈x)->∃r,jY N 0 (w.map (eY x))=some r/\Q8 x (lay s Rs) (sI (lay s Rs)) w=first++r)/\N.length<=600/\(∀c∈first,c∈x)/\MX x N:=by
 obtain⟨ps,h1,A⟩:=standing_states hx hs hR h4 hu hso;obtain⟨B,hp⟩:=ajB hx hR h4 hu A;have hra:=λw hw=>Te A w (sI<|lay s Rs) (Qwk A.z0) hw;rw[T9 A.nd A.z0] at hra;have hMX:=aeM hR A;generalize ps.map (wI x (lay s Rs) ps)=M at *;obtain⟨c,h2,h3,h5⟩:=put_out_early B;obtain⟨B',hp'⟩:=aaw B hp h5;obtain⟨g,g0,kept,j1,j2,j3,j4,j5⟩:=joined B';have hC:=RV h3;refine⟨c.getD 0 [],kept.map<|qi (jZ c M) g kept,?_,⟨Qq1 (h5.2 0) (by decide),?_,rfl,λst hst=>?_⟩,λw hw=>?_,by rw[Qqx];exact j5.few B',Mz hMX hC 0,λst hst=>?_⟩;generalize D.tup [s,.tup Rs]=O at *;have j1':iG.tH [KM.encM (jZ c M)]=some (.tup<|(kept.map<|qi (jZ c M) g kept).map cC):=by rw[j1,Qxk];rfl
 refine cL (env:=[Zf p6,Zf O,Zs<|c.getD 0 [],Zf<|KM.encM<|jZ c M]) ?_;unfold iG.lY;refine(aB<|bB (aK (aD (aK rfl h1) aY) h2) rfl).trans ?_;exact bT<|cG (aD rfl (aD (aK rfl j1') aY)) Ev.xm;rw[Qqx];exact Qj1<|Qwk j5.z0;obtain⟨k,hk,rfl⟩:=Qwq.mp hst;have hM:=getM<|j5.inn k hk;have hmem:=Qwk hM;have akV:=j5.led k hk;unfold qi;generalize(jZ c M).getD k ([],[])=st at *;refine⟨Qq1 (B'.fin st hmem) (by decide),by show(st.2.map _).length=_;rw[Qqx];exact hp' st hmem,λpt qU=>?_⟩;obtain⟨q,hq,rfl⟩:=Qwq.mp qU;refine⟨Qq1 (B'.put st hmem q hq) (by decide),?_⟩;have:=Du<|akV q hq;unfold gs at this;rw[Qqx] at this;rw[Qqx];exact this;obtain⟨r,e1,e2⟩:=Vn hC (aav h5.1) (w.map<|eY x) 0 _<|hra w hw;exact⟨r,by rw[(V9 B' j2 j3 j4 j5)];exact e1,e2⟩;obtain⟨k,hk,rfl⟩:=Qwq.mp hst;have hM:=getM<|j5.inn k hk;obtain⟨q1,q2⟩:=(acP hMX hC) _<|Qwk hM;refine⟨q1,λpt qU=>?_⟩;obtain⟨r,hr,rfl⟩:=Qwq.mp qU;exact q2 r hr
end
theorem Z6:∀{x:List Nat},eY x c=x.idxOf c
 |[]=>rfl
 |a::x=>by
  unfold eY;rw[Qv7,Z6];by_cases e:a=c;subst e;simp;rw[Qv5 e,Qdk e];rfl
def ago:∀x∈dM.XS,∀c∈x,idx x c=some (eY x c):=λx _ c hc=>by rw[Z6];exact dM.KJ hc
theorem aag(hx:x∈dM.XS){N:List State}:∀(w:List Nat) q acc r,(∀a∈w,a∈x)->jY N q (w.map (eY x))=some r->
  (w.foldl (λs c=>(s.1++[(ig x N s.2 c).1],(ig x N s.2 c).2)) (acc,q)).1.flatten++Bq N (w.foldl (λs c=>(s.1++[(ig x N s.2 c).1],(ig x N s.2 c).2)) (acc,q)).2=acc.flatten++r
 |[],q,acc,r,_,h=>by
  obtain⟨st,h1,rfl⟩:=Qwz.mp<|show N[q]?.map (·.1)=some r from h;show acc.flatten++Bq N q=_;unfold Bq;rw[Qq6,h1];rfl
 |a::w,q,acc,r,hw,h=>by
  rw[Qq8] at h;unfold jY at h;cases h1:N[q]? with
  |none=>rw[h1] at h;cases h
  |some st=>
   rw[h1] at h;simp at h;cases h2:st.2[eY x a]? with
   |none=>rw[h2] at h;cases h
   |some pt=>
    rw[h2] at h;obtain⟨r1,h3,rfl⟩:=Qwz.mp<|show(jY N pt.2<|w.map<|eY x).map (pt.1 ++ ·)=some r from h;have e:ig x N q a=pt:=by
     unfold ig;have e1:N.getD q ([],[])=st:=by rw[Qq6,h1];rfl
     rw[ago x hx a (hw a<|Qqj ..),e1];show st.2.getD (eY x a) ([],0)=pt;rw[Qq6,h2];rfl
    rw[Qj5,e,aag hx w pt.2 (acc++[pt.1]) r1 (λb hb=>hw b<|Qqk _ hb) h3];rw[Qx4];simp
def Th(hx:x∈dM.XS){N:List State}(hw:∀a∈w,a∈x)(h:jY N 0 (w.map (eY x))=some r):res x first N w=first++r:=by
 unfold res;have:=aag hx w 0 [] r hw h;unfold qx;rw[this]
 rfl
open zV (cI fin Eb Bm cF)
open jr (lZ xX sI lay yd rt)
open Lz (uA zF DK)
def qQ(x:List Nat):Nat->List (List Nat)
 |0=>[[]]|n+1=>(qQ x n).flatMap λw=>x.map λa=>w++[a]
def qL(x:List Nat):Nat->List (List Nat)
 |0=>[[]]|n+1=>qL x n++qQ x (n+1)
theorem sS:∀{n} {w},w∈qQ x n↔w.length=n/\∀a∈w,a∈x
 |0,w=>by
  constructor;intro h;rw[Qqw.mp h];exact⟨rfl,λa ha=>by simp at ha⟩;intro h;rw[Qg5.mp h.1];exact Qqw.mpr rfl
 |n+1,w=>by
  constructor;intro h;obtain⟨v,hv,h⟩:=Qj0.mp h;obtain⟨a,ha,rfl⟩:=Qwq.mp h;obtain⟨h1,h2⟩:=sS.mp hv;refine⟨by rw[Qqv,h1];rfl,λb hb=>?_⟩;rcases Qww.mp hb with hb|hb;exact h2 b hb;rw[Qqw.mp hb];exact ha;rintro⟨h1,h2⟩;rcases List.eq_nil_or_concat w with rfl|⟨v,a,rfl⟩;cases h1;rw[List.concat_eq_append] at *;rw[Qqv,Qwj] at h1;exact Qj0.mpr ⟨v,sS.mpr ⟨by omega,λb hb=>h2 b<|Qzy _ hb⟩,Qwq.mpr ⟨a,h2 a (by simp),rfl⟩⟩
theorem qK:∀{n} {w},w∈qL x n↔w.length<=n/\∀a∈w,a∈x
 |0,w=>by
  constructor;intro h;rw[Qqw.mp h];exact⟨Qq0 _,λa ha=>by simp at ha⟩;intro h;rw[Qg5.mp (Nat.le_zero.mp h.1)];exact Qqw.mpr rfl
 |n+1,w=>by
  show w∈qL x n++qQ x (n+1)↔_;rw[Qww,qK,sS];constructor;rintro(h|h);exact⟨by omega,h.2⟩;exact⟨by omega,h.2⟩;intro h;by_cases e:w.length<=n;exact .inl ⟨e,h.2⟩;exact .inr ⟨by omega,h.2⟩
theorem sU:∀n,(qQ x n).length=x.length^n
 |0=>rfl
 |n+1=>by
  show((qQ x n).flatMap λw=>x.map λa=>w++[a]).length=_;rw[uv _ x.length _ λw _=>by rw[Qqx],sU n,Qhx]
def agD{i:Nat}{env e:Ev.Env}(h0:env[i]? = some (Zl x0))(h1:a env = .ok (.lst zs) e)(h2:e[i]? = some (Zl xs))(hz:xs.length+zs.length<=sizeLine):Iv i a env = .nx (e.set i (Zl (xs++zs))):=by unfold Iv;simp[h0,h1,kY,h2,Qv4 hz]
def agY(x w)(hx:x.length<=4)(hw:w.length<=20)(acc)(ha:acc.length<=10000)(A1 A2 A3 A4:OD) :
  iG.iw [Zs x,A1,A2,A3,A4,Zl acc,Zs w] = .nx [Zs x,A1,A2,A3,A4,Zl (acc++(x.map λa=>w++[a]).map .str),Zs w]:=by
 unfold iG.iw;have h1:iG.iu [Zs x,A1,A2,A3,A4,Zl acc,Zs w]=.ok (.lst<|(x.map λa=>w++[a]).map .str) [Zs x,A1,A2,A3,A4,Zl acc,Zs w]:=by
  unfold iG.iu;refine(K5 x (λa=>.str [a]) (λa=>.str<|w++[a]) rfl rfl rfl (λa ha=>?_) (Qq1 hx (by decide))).trans ?_;exact aO rfl rfl rfl (add_str (by rw[Qwj];omega));rw[Qxk];rfl
 refine(agD rfl h1 rfl ?_).trans rfl;rw[Qqx,Qqx];exact Qq1 (show acc.length+x.length<=10004 by omega) (by decide)
theorem aaM(x)(hx:x.length<=4)(A1 A2 A3 A4:OD):∀(ws acc:List (List Nat)) (a6:OD),(∀w∈ws,w.length<=20)->acc.length+4*ws.length<=10000->∃b6,jM (ak 6) iG.iw (ws.map .str) [Zs x,A1,A2,A3,A4,Zl (acc.map .str),a6] = .nx [Zs x,A1,A2,A3,A4,Zl ((acc++ws.flatMap λw=>x.map λa=>w++[a]).map .str),b6]
 |[],acc,a6,_,_=>⟨a6,by rw[List.flatMap_nil,Qw8];rfl⟩
 |w::ws,acc,a6,hw,hl=>by
  rw[Qqy] at hl;obtain⟨b6,h⟩:=aaM x hx A1 A2 A3 A4 ws (acc++x.map λa=>w++[a]) (Zs w) (λv hv=>hw v<|Qqk _ hv) (by rw[Qqv,Qqx];omega);refine⟨b6,?_⟩;rw[List.flatMap_cons,<-Qxx,<-h,Qq8];have h1:=agY x w hx (hw w<|Qqj ..) (acc.map .str) (by rw[Qqx];omega) A1 A2 A3 A4;rw[<-Qw7] at h1;exact KB.o6 rfl h1
structure Ii(x:List Nat)(s:D)(Rs:List D)(first:List Nat)(N:List gG):Prop where
 mo:MO x N.length first N
 run:∀w,(∀a∈w,a∈x)->∃r,jY N 0 (w.map (eY x))=some r/\Q8 x (lay s Rs) (sI (lay s Rs)) w=first++r
 few:N.length<=600
 fx:∀c∈first,c∈x
 mx:MX x N
section
variable{x:List Nat}{s:D}{Rs rs:List D}{first:List Nat}{N:List gG}{w:List Nat}
theorem S8(hs:s∈sides):∃side,s=.str side/\∀v,dM.rd side v=uA s v:=by
 simp[sides,Qq4,Qw6,Qz9] at hs;rcases hs with rfl|rfl;exact⟨_,rfl,λv=>rfl⟩;exact⟨_,rfl,λv=>rfl⟩
theorem XH(hx:x∈fM.XS)(hs:s∈sides)(hR:∀R∈Rs,cI x R)(hr:fM.Rows (iZ x) rs)(K:Ii x s Rs first N)(hw:∀c∈w,c∈x)(hn:(w.length+1)*2^Rs.length<=301):iG.Gq [.tup rs,dM.encM first N,s,.str w]=some (.str (fin s Rs w)):=by
 obtain⟨side,rfl,hd⟩:=S8 hs;have hp:0<2^Rs.length:=Nat.pow_pos (by decide);have hwl:w.length<=300:=by have:=Qy4 (w.length+1) hp;rw[Nat.mul_one] at this;omega
 have h1:=run_eq hx hr K.mo side w hw (by omega);have hdw:∀c∈uA (.str side) w,c∈x:=λc hc=>hw c<|DK hc;obtain⟨r,e1,e2⟩:=K.run (uA (.str side) w) hdw;rw[hd,hd,Th hx hdw e1,<-e2] at h1;rw[h1];unfold Q8;rw[Lz.aaP hx hs hR hw hn,zF]
end
def wj(hx:x∈fM.XS)(hs:s∈sides)(hR:∀R∈Rs,cI x R)(h4:Rs.length<=4)(hu:WW x s Rs)(hr:fM.Rows (iZ x) rs):∃first N,iG.cY [.tup rs,.tup [s,.tup Rs]]=some (dM.encM first N)/\Ii x s Rs first N:=by obtain⟨first,N,h1,h2,h3,h5,h6,h7⟩:=least_machine hx hs hR h4 hu (by rw[yu];exact fM.sounds_of hx hr);exact⟨first,N,h1,h2,h3,h5,h6,h7⟩
def V2(hx:x∈fM.XS)(hs:s∈sides)(hR:∀R∈Rs,cI x R)(h4:Rs.length<=4)(h3:Rs.length<=3\/x.length<=2)(hr:fM.Rows (iZ x) rs):∃first N,iG.cY [.tup rs,.tup [s,.tup Rs]]=some (dM.encM first N)/\Ii x s Rs first N:=by
 refine wj hx hs hR h4 (ajj ?_) hr;rcases h3 with h3|h3;exact Qq1 (ajx (fM.jE x hx) (by rw[jr.lg];exact h3)) (by decide);exact Qq1 (ahe h3 (by rw[jr.lg];exact h4)) (by decide)
def BP(hx:x∈fM.XS)(hs:s∈sides)(hR:∀R∈Rs,cI x R)(h3:Rs.length<=3)(hr:fM.Rows (iZ x) rs):∃first N,iG.cY [.tup rs,.tup [s,.tup Rs]]=some (dM.encM first N)/\Ii x s Rs first N:=V2 hx hs hR (by omega) (.inl h3) hr
end KM
namespace K22
open Ev
section
def gV:Ev:=lD.gV
def o9:cu:=bw (Pg (kh (ur "str") (aM 0)) (au Wj (aa (gV) aj)))
def dU:LD:=cQ 2 o9
def gD:cu:=aC (dH (j8 (gb (cR (kh (ur "tuple") (aM 3)))) (j8 (cR (aN yf (au cJ (aa (aU 3) aj)) (Zi 2))) (gb (cR (au dU (aa (aq bQ 3 (Zi 0)) (Zv 1 aj))))))) (bw (tU (.bl false))) bU) (dH (j8 (cR (kh (ur "bool") (aq bQ 3 (Zi 1)))) (j8 (gb (cR (kh (ur "int") (aq bQ 3 (Zi 1))))) (gb (cR (zA gLe wV (Zi 0) (aq bQ 3 (Zi 1)) (au cJ (aa (aq bQ 0 (Zi 1)) aj))))))) (bw (tU (.bl false))) bU)
def gC:cu:=aC (dH (j8 (gb (cR (kh (ur "tuple") (aM 2)))) (j8 (cR (aN yf (au cJ (aa (aU 2) aj)) (Zi 2))) (gb (cR (au dU (aa (aq bQ 2 (Zi 0)) (Zv 1 aj))))))) (bw (tU (.bl false))) bU) (aC (dH (j8 (gb (cR (kh (ur "tuple") (aq bQ 2 (Zi 1))))) (cR (aN yf (au cJ (aa (aq bQ 2 (Zi 1)) aj)) (au cJ (aa (aU 1) aj))))) (bw (tU (.bl false))) bU) (dF (dO (aq bQ 2 (Zi 1))) (ak 3) (gD)))
def lB:cu:=aC (dH (j8 (gb (cR (kh (ur "tuple") (aM 0)))) (j8 (cR (aN yf (au cJ (aa (aU 0) aj)) (Zi 2))) (gb (cR (au dU (aa (aq bQ 0 (Zi 0)) (Zv 1 aj))))))) (bw (tU (.bl false))) bU) (aC (dH (j8 (gb (cR (kh (ur "tuple") (aq bQ 0 (Zi 1))))) (cR (aN lV (aq bQ 0 (Zi 1)) (bK aj)))) (bw (tU (.bl false))) bU) (aC (dF (dO (aq bQ 0 (Zi 1))) (ak 2) (gC)) (bw (tU (.bl true)))))
def dC:LD:=cQ 4 lB
end
open Ev PySem L2
open KM (gG bC cC xQ zX MX)
def KH(h:∀c∈t,c∈x)(hl:t.length<=300):dU [.str t,.str x]=some (.bl true):=by
 have h1:gV [Zs t,Zs x]=.ok (.lst<|t.map λc=>.bl<|decide (c∈x)) [Zs t,Zs x]:=by unfold gV;exact K5 t (λc=>.str [c]) (λc=>.bl<|decide (c∈x)) rfl rfl rfl (λc _=>rfl) (Qq1 hl (by decide))
 refine cL (env:=[Zs t,Zs x]) ?_;unfold o9;refine bT<|(acO rfl).trans<|aK (aD h1 aY) ?_;rw[ajg];have:=Qx9.mpr λc hc=>Qw0<|h c hc;rw[this]
abbrev Dd(first x:List Nat)(N:List gG)(a2 a3:OD):Ev.Env:=[Zf (dM.encM first N),Zs x,a2,a3]
def af0(a b:Nat)(h:a=b):yf (.int a) (.int b)=some (.bl false):=by
 show some (D.bl<|!((a:Int) == (b:Int)))=_;rw[h,Qy2]
 rfl
section
variable{first x:List Nat}{N:List gG}(hmx:MX x N)(hmo:KM.MO x N.length first N)(hfx:∀c∈first,c∈x)
include hmx hmo
theorem af9(hst:st∈N)(qU:pt∈st.2)(a2):gD (Dd first x N a2 (Zf (bC pt)))=.nx (Dd first x N a2 (Zf (bC pt))):=by
 obtain⟨b1,b2⟩:=(hmo.sts st hst).stp pt qU;have t1:cR (au dU<|aa (aq bQ 3<|Zi 0)<|Zv 1 aj) (Dd first x N a2 (Zf<|bC pt))=.ok true (Dd first x N a2 (Zf<|bC pt)):=cW<|aK rfl (KH ((hmx st hst).2 pt qU) b1);have hlen:au cJ (aa (aq bQ 0<|Zi 1) aj) (Dd first x N a2 (Zf<|bC pt))=.ok (.int N.length) (Dd first x N a2 (Zf<|bC pt)):=by refine aK rfl ?_;show some (D.int<|(N.map dM.bL).length)=_;rw[Qqx]
 have t2:cR (zA gLe wV (Zi 0) (aq bQ 3<|Zi 1)<|au cJ<|aa (aq bQ 0<|Zi 1) aj) (Dd first x N a2 (Zf<|bC pt))=.ok true (Dd first x N a2 (Zf<|bC pt)):=by
  refine cW ?_;unfold zA;show(match gLe (.int 0) (.int pt.2) with|some (.bl k)=>if k=true then bindR (au cJ (aa (aq bQ 0<|Zi 1) aj)<|Dd first x N a2 (Zf<|bC pt)) λt e3=>jj (wV (.int pt.2) t) e3 else .ok (.bl false) (Dd first x N a2 (Zf<|bC pt))|_=>.stuck)=_;have g1:gLe (.int 0) (.int pt.2)=some (.bl true):=by show some (D.bl<|decide (0<=(pt.2:Int)))=_;rw[Qw0 (Qb1 _)]
  rw[g1];simp[Qhv];rw[hlen];show jj (wV (.int pt.2)<|.int N.length) _=_;rw[KM.FQ,Qw0 b2]
  rfl
 unfold gD;refine(aB<|dw<|(nM rfl).trans<|(nM rfl).trans<|oN t1).trans ?_;exact(dw<|(nM rfl).trans<|(nM rfl).trans<|oN t2).trans rfl
theorem acn(hst:st∈N)(a3):∃b3,gC (Dd first x N (Zf (cC st)) a3)=.nx (Dd first x N (Zf (cC st)) b3):=by
 obtain⟨q1,q2,q3⟩:=hmo.sts st hst;have t1:cR (au dU<|aa (aq bQ 2<|Zi 0)<|Zv 1 aj) (Dd first x N (Zf<|cC st) a3)=.ok true (Dd first x N (Zf<|cC st) a3):=cW<|aK rfl (KH (hmx st hst).1 q1);have t2:cR (aN yf (au cJ<|aa (aq bQ 2<|Zi 1) aj)<|au cJ<|aa (aU 1) aj) (Dd first x N (Zf<|cC st) a3)=.ok false (Dd first x N (Zf<|cC st) a3):=
  cW (bj rfl rfl (af0 _ _ (by rw[Qqx];exact q2)))
 obtain⟨e',f1,b3,rfl⟩:=vO (g:=ak 3) (λenv=>∃b3,env=Dd first x N (Zf<|cC st) b3) (st.2.map bC)
  (λd hd env ⟨b3,he⟩=>by
   subst he;obtain⟨pt,qU,rfl⟩:=Qwq.mp hd;exact⟨_,_,rfl,af9 hmx hmo hst qU _,_,rfl⟩)
  (Dd first x N (Zf<|cC st) a3) ⟨_,rfl⟩
 refine⟨b3,?_⟩;unfold gC;refine(aB<|dw<|(nM rfl).trans<|(nM rfl).trans<|oN t1).trans ?_;refine(aB<|dw<|(nM rfl).trans t2).trans ?_;exact(cZ rfl).trans f1
include hfx
theorem Gg:dC [dM.encM first N,.str x]=some (.bl true):=by
 have t1:cR (au dU<|aa (aq bQ 0<|Zi 0)<|Zv 1 aj) (Dd first x N none none)=.ok true (Dd first x N none none):=cW<|aK rfl (KH hfx hmo.fst);have t2:cR (aN lV (aq bQ 0<|Zi 1)<|bK aj) (Dd first x N none none)=.ok false (Dd first x N none none):=by
  refine cW<|bj rfl rfl ?_
  match N,hmo.pos with
  |st::N,_=>rfl
 obtain⟨e',f1,b2,b3,rfl⟩:=vO (g:=ak 2) (λenv=>∃b2 b3,env=Dd first x N b2 b3) (N.map cC)
  (λd hd env ⟨b2,b3,he⟩=>by
   subst he;obtain⟨st,hst,rfl⟩:=Qwq.mp hd;obtain⟨c3,h⟩:=acn hmx hmo hst b3;exact⟨_,_,rfl,h,_,_,rfl⟩)
  (Dd first x N none none) ⟨_,_,rfl⟩
 refine cL (env:=Dd first x N b2 b3) ?_;unfold lB;refine(aB<|dw<|(nM rfl).trans<|(nM rfl).trans<|oN t1).trans ?_;refine(aB<|dw<|(nM rfl).trans t2).trans ?_;exact(aB<|(cZ rfl).trans f1).trans rfl
end
end K22
namespace lD
open Ev PySem L2
open fM (SG)
open nZ (iQ fit eF ye look jK wg iH encC gW)
open jr (bL Rl Hm nrC stp rd Is m5 Nu Eg)
abbrev zY(R S g wy ch l r b h:D)(p q:OD):Ev.Env:=[Zf R,Zf S,Zf g,Zf wy,Zf ch,Zf l,Zf r,Zf b,Zf h,p,q]
def Np:cu:=aC (dH (cR (aq lV 8 (Zw []))) (bw (bK (aa (bK (Zv 7 (Zv 2 aj))) (aa (Zw []) aj)))) bU) (aC (aQ (aM 8) (ak 9)) (aC (aQ (au tu (aa (aU 4) aj)) (ak 10)) (aC (dH (di (cR (aq su 8 (aU 10))) (di (cR (aM 7)) (cR (au bW (Zv 6 (Zv 2 aj)))))) (aQ (aq jL 10 (aU 8)) (ak 9)) bU) (aC (dH (cR (aq lV 3 (Zw [111,110,99,101]))) (bw (bK (aa (bK (aa (au bW (Zv 5 (Zv 8 aj))) (Zv 2 aj))) (Zv 9 aj)))) bU) (aC (dH (cR (aq lV 9 (Zw []))) (bw (bK (aa (bK (Zv 7 (Zv 2 aj))) (Zv 9 aj)))) bU) (bw (bK (aa (bK (aa (au bW (Zv 5 (Zv 9 aj))) (Zv 2 aj))) (Zv 9 aj)))))))))
section
variable{x:List Nat}{l r:D}(hx:x∈fM.XS)(hl:l∈SG x)(hr:r∈SG x)
include hx hl hr
theorem Fd(wy)(c)(b)(h)(hh:h.length<=1)(a)(ha:a∈35::x) :
  qF [.tup [wy,.tup [.tup [.str [],.str [c]]],l,r],bL (b,h),.str [a]]=some (.tup [bL (stp (.put c l r) (b,h) a).1,.str (stp (.put c l r) (b,h) a).2]):=by
 generalize hR:D.tup [wy,.tup [.tup [.str [],.str [c]]],l,r]=R;generalize hS:bL (b,h)=S;show _=some (D.tup [.tup [.bl (fit l a),.str [a]],.str<|h++(if (b&&fit r a)=true then [c] else [])]);generalize hP:(h++(if (b&&fit r a)=true then [c] else []))=p;refine cL (env:=zY R S (.str [a]) wy (.tup [.tup [.str [],.str [c]]]) l r (.bl b) (.str h) (Zs p) none) ?_;unfold uH;refine(aB (e:=[Zf R,Zf S,Zs [a],Zf wy,Zf<|.tup [.tup [.str [],.str [c]]],Zf l,Zf r,Zn,Zn,Zn,Zn]) (by rw[<-hR];rfl)).trans ?_;refine(aB (e:=zY R S (.str [a]) wy (.tup [.tup [.str [],.str [c]]]) l r (.bl b) (.str h) none none) (by rw[<-hS];rfl)).trans ?_;refine(km ?_).trans rfl;refine(gq (by rfl)).trans ?_;refine(aB rfl).trans ?_;refine(aB (e:=zY R S (.str [a]) wy (.tup [.tup [.str [],.str [c]]]) l r (.bl b) (.str h) (Zs p) none) ?_).trans ?_;have t:di (cR<|aM 7) (cR<|au bW<|Zv 6<|Zv 2 aj) (zY R S (.str [a]) wy (.tup [.tup [.str [],.str [c]]]) l r (.bl b) (.str h) (Zs h) none)=.ok (b&&fit r a) (zY R S (.str [a]) wy (.tup [.tup [.str [],.str [c]]]) l r (.bl b) (.str h) (Zs h) none):=
  gW rfl (cW<|aK rfl (eF x hx r hr a ha))
 cases hc:b&&fit r a with
 |true=>rw[hc] at t hP;rw[Qv4 rfl] at hP;rw[<-hP];exact(gq t).trans<|bB (aO rfl rfl rfl (iQ (by show h.length+1<=100000;omega))) rfl|false=>rw[hc] at t hP;rw[Qv5 Qw2,Qw8] at hP;rw[<-hP];exact(dw t).trans rfl
 exact bT<|cG (aD (cG (aD (aK (by rfl) (eF x hx l hl a ha))<|aD (by rfl) aY) Ev.xm)<|aD (by rfl) aY) Ev.xm
theorem Fe(al)(hk:ye x kvs)(ps:List nZ.Pr)(h0:0<ps.length)(hd:tu [.tup (ps.map encC)]=some (.dct kvs))(b)(h)(hh:m5 x (b,h))(a)(ha:a∈35::x) :
  qF [.tup [iH al,.tup (ps.map encC),l,r],bL (b,h),.str [a]]=some (.tup [bL (stp (.chg al kvs l r) (b,h) a).1,.str (stp (.chg al kvs l r) (b,h) a).2]):=by
 generalize hR:D.tup [iH al,.tup<|ps.map encC,l,r]=R;generalize hS:bL (b,h)=S;obtain⟨p0,ps0,rfl⟩:∃p0 ps0,ps=p0::ps0:=by cases ps with|nil=>cases h0|cons p q=>exact⟨p,q,rfl⟩
 generalize hC:D.tup ((p0::ps0).map encC)=ch at *;have go:∀{o} {d} {e},Np (zY R S (.str [a]) (iH al) ch l r (.bl b) (.str h) none none)=.rt o d e->uH [Zf R,Zf S,Zs [a],Zn,Zn,Zn,Zn,Zn,Zn,Zn,Zn]=.rt o d e:=λ{o d e} k=>by
  unfold uH;refine(aB (e:=[Zf R,Zf S,Zs [a],Zf<|iH al,Zf ch,Zf l,Zf r,Zn,Zn,Zn,Zn]) (by rw[<-hR];rfl)).trans ?_;refine(aB (e:=zY R S (.str [a]) (iH al) ch l r (.bl b) (.str h) none none) (by rw[<-hS];rfl)).trans ?_;refine(aB ((dw (e:=zY R S (.str [a]) (iH al) ch l r (.bl b) (.str h) none none) (by
   rw[<-hC];refine cW<|bj (x:=.str [p0.1]) ?_ rfl rfl;refine bj (x:=encC p0) ?_ rfl rfl;exact aO rfl rfl rfl (je rfl))).trans rfl)).trans ?_
  exact k
 match h,hh,hS with
 |[],_,hS=>refine cL (env:=zY R S (.str [a]) (iH al) ch l r (.bl b) (.str []) none none)<|go<|km ?_;exact(gq (by rfl)).trans rfl|_::_::_,hh,_=>exact absurd hh.1 (by simp)
 |[s],hh,hS=>
  have hs:=hh.2 s<|Qqj ..;have hp:=Nu hk s hs<|b&&fit r a;show _=some (D.tup [.tup [.bl (nrC al l s b<|Hm kvs s<|b&&fit r a),.str [a]],.str<|Hm kvs s<|b&&fit r a]);have hP:Hm kvs s (b&&fit r a)=if (b&&fit r a)=true then (look kvs s).getD [s] else [s]:=rfl;generalize Hm kvs s (b&&fit r a)=p at *;refine cL (env:=zY R S (.str [a]) (iH al) ch l r (.bl b) (.str [s]) (Zs p)<|Zf<|.dct kvs)<|go ?_;unfold Np;refine(aB<|(dw (by rfl)).trans rfl).trans ?_;refine(aB rfl).trans ?_;refine(aB<|bB (aK rfl hd) rfl).trans ?_;refine(aB (e:=zY R S (.str [a]) (iH al) ch l r (.bl b) (.str [s]) (Zs p)<|Zf<|.dct kvs) ?_).trans ?_;have t:di (cR<|aq su 8<|aU 10) (di (cR<|aM 7)<|cR<|au bW<|Zv 6<|Zv 2 aj) (zY R S (.str [a]) (iH al) ch l r (.bl b) (.str [s]) (Zs [s])<|Zf<|.dct kvs)=.ok ((look kvs s).isSome&&(b&&fit r a)) (zY R S (.str [a]) (iH al) ch l r (.bl b) (.str [s]) (Zs [s])<|Zf<|.dct kvs):=
   gW (cW<|aO rfl rfl rfl (wg hk _)) (gW rfl (cW<|aK rfl (eF x hx r hr a ha)))
  cases hc:b&&fit r a with
  |true=>
   rw[hc] at t hP;rw[Qv4 rfl] at hP;cases hu:look kvs s with
   |none=>rw[hu] at t hP;rw[hP];exact(dw t).trans rfl|some u=>rw[hu] at t hP;rw[hP];exact(gq t).trans<|bB (aO rfl rfl rfl (jK hk hu).1) rfl
  |false=>rw[hc,Bool.and_false] at t;rw[hc,Qv5 Qw2] at hP;rw[hP];exact(dw t).trans rfl
  cases al with
  |false=>refine(km ?_).trans rfl;refine(gq rfl).trans ?_;exact bT<|cG (aD (cG (aD (aK rfl (eF x hx l hl s hs))<|aD rfl aY) Ev.xm)<|aD rfl aY) Ev.xm
  |true=>
   refine(aB<|(dw (by rfl)).trans rfl).trans ?_;match p,hp with
   |[],_=>rfl|[q],hp=>refine(aB<|(dw (by rfl)).trans rfl).trans ?_;exact bT<|cG (aD (cG (aD (aK rfl (eF x hx l hl q<|hp.2 q<|Qqj ..))<|aD rfl aY) Ev.xm)<|aD rfl aY) Ev.xm|_::_::_,hp=>exact absurd hp.1 (by simp)
end
def ZX{R:D}(hx:x∈fM.XS)(hR:Is x R ρ)(hs:m5 x s)(ha:a∈35::x):qF [R,bL s,.str [a]]=some (.tup [bL (stp ρ s a).1,.str (stp ρ s a).2]):=by
 cases hR with
 |put hc hl hr=>exact Fd hx hl hr _ _ s.1 s.2 hs.1 a ha|chg hp hd hk hl hr=>exact Fe hx hl hr _ hk _ hp hd s.1 s.2 hs a ha
open nZ (iQ)
open jr (bL Rl stp rd nY ni lZ Is m5 Eg wL Dw sI lay lf tn)
open zV (cI)
abbrev WX(Q S g:D)(acc:List D)(row:D)(v5 v6 v7 v8 v9:OD):Ev.Env:=[Zf Q,Zf S,Zf g,Zl acc,Zf row,v5,v6,v7,v8,v9]
section
variable{x:List Nat}(hx:x∈fM.XS)
include hx
theorem Oi{Q S g R:D}(hR:Is x R ρ){k:Nat}(hQ:bQ Q (.int k)=some R)(acc)(row):∀z {s} t v8 v9,m5 x s->(∀a∈z,a∈35::x)->t.length+2*z.length<=1000->
  ∃w8 w9,jM (ak 8) oF (iZ z) (WX Q S g acc row (Zf (.int k)) (Zf (bL s)) (Zs t) v8 v9) = .nx (WX Q S g acc row (Zf (.int k)) (Zf (bL (rd ρ s z).1)) (Zs (t++(rd ρ s z).2)) w8 w9)
 |[],s,t,v8,v9,_,_,_=>⟨v8,v9,by show Out.nx _=Out.nx (WX Q S g acc row _ _ (Zs<|t++[]) v8 v9);rw[Qw8];rfl⟩
 |a::z,s,t,v8,v9,hs,hz,hn=>by
  rw[Qqy] at hn;have ha:=hz a<|Qqj ..;obtain⟨o1,o2,_⟩:=Eg hR hs ha;have h1:=ZX hx hR hs ha;obtain⟨w8,w9,h⟩:=Oi hR hQ acc row z (t++(stp ρ s a).2) (Zs [a]) (Zs<|(stp ρ s a).2) o1 (λb hb=>hz b<|Qqk _ hb) (by rw[Qqv];omega);refine⟨w8,w9,?_⟩;show _=Out.nx (WX Q S g acc row _ (Zf<|bL (rd ρ (stp ρ s a).1 z).1) (Zs<|t++((stp ρ s a).2++(rd ρ (stp ρ s a).1 z).2)) w8 w9);rw[<-Qxx,<-h];refine KB.o6 rfl ?_;generalize(stp ρ s a).2=q at *;generalize(stp ρ s a).1=s' at *;unfold oF;refine(aB (e:=WX Q S g acc row (Zf<|.int k) (Zf<|bL s') (Zs t) (Zs [a])<|Zs q) ?_).trans ?_;exact bB (aK (aD (aO rfl rfl rfl hQ) rfl) h1) rfl;exact bB (aO rfl rfl rfl (iQ<|Qq1 (show t.length+q.length<=1000 by omega) (by decide))) rfl
theorem adW{Ls:List D}{ss:List jr.St}(hQ:∀(k:Nat) R,Ls[k]?=some R->bQ Q (.int k)=some R)(hS:∀(k:Nat) s,ss[k]?=some s->bQ S (.int k)=some (bL s)) :
  ∀L2 s2 k z acc v5 v6 v7 v8 v9,Ls.drop k=L2->ss.drop k=s2->L2.length=s2.length->(∀R∈L2,cI x R)->(∀s∈s2,m5 x s)->(∀a∈z,a∈35::x)->(z.length+2)*2^L2.length<=150->acc.length+L2.length<=100->
  ∃row w5 w6 w7 w8 w9,jM (ak 5) oE ((List.range' k L2.length).map λ(i:Nat)=>D.int i) (WX Q S g acc (.str z) v5 v6 v7 v8 v9)=.nx (WX Q S g (acc++(lZ x L2 s2 z).1.map bL) row w5 w6 w7 w8 w9)
 |[],[],k,z,acc,v5,v6,v7,v8,v9,_,_,_,_,_,_,_,_=>⟨.str z,v5,v6,v7,v8,v9,by show Out.nx _=Out.nx (WX Q S g (acc++[]) _ v5 v6 v7 v8 v9);rw[Qw8]⟩|[],_::_,_,_,_,_,_,_,_,_,_,_,h,_,_,_,_,_=>by simp at h|_::_,[],_,_,_,_,_,_,_,_,_,_,h,_,_,_,_,_=>by simp at h
 |R::L2,s::s2,k,z,acc,v5,v6,v7,v8,v9,e1,e2,h,hR,hs,hz,hn,ha=>by
  have hRi:=ni<|hR R<|Qqj ..;have hso:=hs s<|Qqj ..;obtain⟨o1,o2,o3⟩:=wL hRi z hso hz;obtain⟨n1,n2⟩:=Dw hn (m:=(rd (nY x R) s z).2.length) (by omega);rw[Qqy] at ha;have g1:Ls[k]?=some R:=by have:=Qx1 (λl=>l[0]?) e1;simpa using this
  have g2:ss[k]?=some s:=by have:=Qx1 (λl=>l[0]?) e2;simpa using this
  have e1':Ls.drop (k+1)=L2:=by rw[<-Q1j,e1];rfl
  have e2':ss.drop (k+1)=s2:=by rw[<-Q1j,e2];rfl
  obtain⟨w8,w9,h1⟩:=Oi hx (S:=S) (g:=g) hRi (hQ k R g1) acc (.str z) z [] v8 v9 hso hz (by rw[Qx2];omega);rw[Qbj] at h1;obtain⟨row,u5,u6,u7,u8,u9,h2⟩:=adW hQ hS L2 s2 (k+1) (rd (nY x R) s z).2 (acc++[bL (rd (nY x R) s z).1]) (Zf<|.int k) (Zf<|bL (rd (nY x R) s z).1) (Zs<|(rd (nY x R) s z).2) w8 w9 e1' e2' (by simpa using h) (λQ hQ=>hR Q<|Qqk _ hQ) (λq hq=>hs q<|Qqk _ hq) o3 n1 (by rw[Qqv,Qwj];omega);refine⟨row,u5,u6,u7,u8,u9,?_⟩;show _=Out.nx (WX Q S g (acc++(bL (rd (nY x R) s z).1::(lZ x L2 s2 (rd (nY x R) s z).2).1.map bL)) row u5 u6 u7 u8 u9);rw[Qxx] at h2;rw[Qqy,Qv6,Qq8];refine Eq.trans ?_ h2;refine KB.o6 rfl ?_;generalize(rd (nY x R) s z).2=q at *;generalize(rd (nY x R) s z).1=s' at *;unfold oE;refine(aB (e:=WX Q S g acc (.str z) (Zf<|.int k) (Zf<|bL s) v7 v8 v9) ?_).trans ?_;exact bB (aO rfl rfl rfl (hS k s g2)) rfl;refine(aB rfl).trans ?_;refine(aB<|(cZ rfl).trans h1).trans ?_;refine(aB (e:=WX Q S g (acc++[bL s']) (.str z) (Zf<|.int k) (Zf<|bL s') (Zs q) w8 w9) ?_).trans rfl;exact(fM.cD (i:=3) (e:=WX Q S g acc (.str z) (Zf<|.int k) (Zf<|bL s') (Zs q) w8 w9) rfl rfl rfl (Qw3 (show acc.length<=100 by omega) (by decide))).trans rfl
theorem Ol(hQ:∀(k:Nat) R,Ls[k]?=some R->bQ Q (.int k)=some R)(hQl:cJ [Q]=some (.int Ls.length))(h4:Ls.length<=4)(hl:Ls.length=p.length)(hR:∀R∈Ls,cI x R)(hs:∀s∈p,m5 x s)(ha:a∈x):sE [Q,KM.lW p,.str [a]]=some (KM.lW (KM.wU x Ls p a)):=by
 have hS:∀(k:Nat) s,p[k]?=some s->bQ (KM.lW p) (.int k)=some (bL s):=λk s e=>je (by rw[Qw1,e];rfl);obtain⟨row,w5,w6,w7,w8,w9,h⟩:=adW hx hQ hS Ls p 0 [a] [] none none none none none rfl rfl hl hR hs (λb hb=>by rw[Qqw.mp hb];exact Qqk _ ha) (by
  have:2^Ls.length<=2^4:=Qx8 (by decide) h4;show(1+2)*_<=_;omega) (by show 0+_<=_;omega)
 refine cL (env:=WX Q (KM.lW p) (.str [a]) ([]++(lZ x Ls p [a]).1.map bL) row w5 w6 w7 w8 w9) ?_;unfold wW;refine(aB rfl).trans ?_;refine(aB rfl).trans ?_;refine(aB<|(cZ ?_).trans h).trans ?_;refine fM.Up (aD (aK rfl hQl) aY) ?_;rw[dM.Vp (by omega),<-List.range_eq_range'];unfold fZ;congr 1;refine Qx7 λi _=>?_;congr 1;omega;exact bT<|aK rfl rfl
end
open nZ (fit eF sides)
open jr (bL m5 sI lay lf tn)
open KM (P lW wU Lx All OkP WW kj pF zM wF uL)
def WY(us:List P):List (D×D):=us.map λu=>(lW u,.bl true)
theorem Kw(t:P):∀us,n6 (WY us) (K17.qS t)=if t∈us then some (.bl true) else none
 |[]=>by simp[WY,n6]
 |u::us=>by
  have ih:=Kw t us;unfold n6 at ih ⊢;unfold WY at ih ⊢;rw[Qq8,Qz4];have hu:=(Ba<|uL.nk u).1;by_cases h:u=t;subst h;simp only[hu,decide_true];rw[Qv4 (Qqj ..)];rfl;simp only[hu,Qwy (λe=>h<|uL.inj u t<|Qw4 e)];rw[ih];by_cases hm:t∈us;rw[Qv4 hm,Qv4<|Qqk _ hm];rw[Qv5 hm,Qv5 λz=>(Qq4.mp z).elim (λe=>h e.symm) hm]
def acv(us)(t)(h:t ∉ us):wM (WY us) (lW t) (K17.qS t) (.bl true)=WY (us++[t]):=by
 unfold wM;rw[Kw,Qv5 h];unfold WY;rw[Qw7]
 rfl
def V3(us)(t)[dc:Decidable (t∈us)]:lU (lW t) (.iY (WY us))=some (.bl (!decide (t∈us))):=by
 show(Ji<|lW t).map _=_;rw[uL.nk];show some (D.bl<|!(n6 (WY us)<|K17.qS t).isSome)=_;rw[Kw];by_cases h:t∈us;rw[Qv4 h,Qw0 h];rfl;rw[Qv5 h,Qwy h];rfl
abbrev wG(x:List Nat)(O Q:D)(ps:List P)(n:Nat)(v7 v8:OD):Ev.Env:=[Zs x,Zf O,Zf (.int 600),Zf Q,Zl (ps.map lW),Zt (.iY (WY ps)),Zf (.int (n:Int)),v7,v8]
section
variable{x:List Nat}{s:D}{Rs:List D}{O Q:D}(hx:x∈fM.XS)(hR:∀R∈Rs,cI x R)(h4:Rs.length<=4)(hQ:∀(k:Nat) R,(lay s Rs)[k]?=some R->bQ Q (.int (k:Int))=some R)(hQl:cJ [Q]=some (.int ((lay s Rs).length:Int)))
include hx hR h4 hQ hQl
theorem ahQ(F:Lx x s Rs ps)(hps:ps.length<=700)(hp:ps[n]?=some p)(ha:a∈x)(v8) :
  jA (wG x O Q ps n (Zs [a]) v8)=.nx (wG x O Q (kj ps (wU x (lay s Rs) p a)) n (Zs [a]) (Zf (lW (wU x (lay s Rs) p a)))):=by
 have hpo:=(F.ok p<|Qwk hp).o;have h1:=Ol hx hQ hQl (by rw[jr.lg];exact h4) (by rw[jr.lg,hpo.hl]) (jr.sr hR) hpo.hS ha;generalize wU x (lay s Rs) p a=q at *;have hix:bQ (.lst<|ps.map lW) (.int n)=some (lW p):=je (by rw[Qw1,hp];rfl);unfold jA;let E0:Ev.Env:=wG x O Q ps n (Zs [a])<|Zf<|lW q;refine(aB (e:=E0) ?_).trans ?_;refine bB (e:=wG x O Q ps n (Zs [a]) v8) ?_ rfl;refine aK (aD rfl (aD (e1:=wG x O Q ps n (Zs [a]) v8) ?_ rfl)) h1;exact aO rfl rfl rfl hix;have ht:cR (aq lU 8<|aU 5) (wG x O Q ps n (Zs [a])<|Zf<|lW q)=.ok (!decide (q∈ps)) (wG x O Q ps n (Zs [a])<|Zf<|lW q):=
  cW (aO rfl rfl rfl (V3 ps q))
 by_cases hq:q∈ps;rw[Qw0 hq] at ht;have e:kj ps q=ps:=Qv4 hq;rw[e];exact dw ht;rw[Qwy hq] at ht;have e:kj ps q=ps++[q]:=Qv5 hq;rw[e];refine(gq ht).trans ?_;have s4:=K17.tL (i:=5) (k:=aM 8) (a:=tU<|.bl true) (e1:=E0) rfl rfl rfl rfl (uL.nk q)
  (by unfold WY;rw[Qqx];exact Qw3 hps (by decide))
 rw[acv ps q hq] at s4;rw[aB s4];refine(fM.cD (i:=4) (e:=[Zs x,Zf O,Zf<|.int 600,Zf Q,Zl<|ps.map lW,Zt<|.iY<|WY<|ps++[q],Zf<|.int n,Zs [a],Zf<|lW q]) rfl rfl rfl (by rw[Qqx];exact Qw3 hps (by decide))).trans ?_;have e5:ps.map lW++[lW q]=(ps++[q]).map lW:=by rw[Qw7];rfl
 rw[e5];rfl
theorem ahR:∀rest done ps v7 v8,x=done++rest->Lx x s Rs ps->ps[n]?=some p->(∀a∈done,wU x (lay s Rs) p a∈ps)->ps.length<=600+done.length->
  ∃ps' w7 w8,jM (ak 7) jA (iZ rest) (wG x O Q ps n v7 v8)=.nx (wG x O Q ps' n w7 w8)/\Lx x s Rs ps'/\(∀a∈x,wU x (lay s Rs) p a∈ps')/\(∃more,ps'=ps++more)/\ps'.length<=600+x.length:=by
 intro rest;induction rest with
 |nil=>intro done ps v7 v8 e F hp hd hl;rw[Qw8] at e;subst e;exact⟨ps,v7,v8,rfl,F,hd,⟨[],by rw[Qw8]⟩,hl⟩
 |cons a rest ih=>
  intro done ps v7 v8 e F hp hd hl;have ha:a∈x:=by rw[e];simp
  have Ud:=fM.jE x hx;have e':x=(done++[a])++rest:=by rw[e];simp
  have hdl:done.length<=4:=by have:=Qx1 List.length e;rw[Qqv] at this;omega
  obtain⟨ps',w7,w8,g1,g2,g3,⟨more,g4⟩,g5⟩:=ih (done++[a]) (kj ps<|wU x (lay s Rs) p a) _ _ e' (F.add (Qwk hp) ha) (zM hp) (λb hb=>by
   rcases Qww.mp hb with hb|hb
   exact(pF _ _ _).mpr<|.inl<|hd b hb
   rw[Qqw.mp hb];exact wF _ _) (by
   have:=KM.Qc ps<|wU x (lay s Rs) p a;rw[Qqv,Qwj];omega)
  refine⟨ps',w7,w8,?_,g2,g3,?_,g5⟩;rw[<-g1];exact KB.o6 rfl (ahQ (O:=O) hx hR h4 hQ hQl F (by omega) hp ha v8);rw[g4];unfold kj;split;exact⟨more,rfl⟩;exact⟨_,Qxx ..⟩
theorem Kd:∀m n ps v7 v8,n+m=7000->n<=ps.length->ps.length<=604->Lx x s Rs ps->(∀p∈ps.take n,∀a∈x,wU x (lay s Rs) p a∈ps)->
  ∃ps' n' w7 w8,eV (di (cR (aq wV 6 (au cJ (aa (aU 4) aj)))) (cR (aN gLe (au cJ (aa (aU 4) aj)) (aU 2)))) gZ m (wG x O Q ps n v7 v8)=.nx (wG x O Q ps' n' w7 w8)/\(ps'.length<=600->All x s Rs ps'):=by
 intro m;induction m with
 |zero=>intro n ps v7 v8 hm hn hp;omega
 |succ m ih=>
  intro n ps v7 v8 hm hn hp F hc;have Ud:=fM.jE x hx;have ht:di (cR<|aq wV 6<|au cJ<|aa (aU 4) aj) (cR<|aN gLe (au cJ<|aa (aU 4) aj)<|aU 2) (wG x O Q ps n v7 v8)=.ok (decide (n<ps.length)&&decide (ps.length<=600)) (wG x O Q ps n v7 v8):=by
   refine nZ.gW (cW<|aO rfl rfl rfl ?_)<|cW<|bj rfl rfl ?_;rw[Qqx];show some (D.bl<|decide (n<(ps.length:Int)))=_;congr 2;simp;rw[Qqx];show some (D.bl<|decide ((ps.length:Int)<=600))=_;congr 2;simp;omega
  by_cases hlt:n<ps.length/\ps.length<=600;rw[Qw0 hlt.1,Qw0 hlt.2] at ht;obtain⟨ps',w7,w8,g1,g2,g3,⟨more,g4⟩,g5⟩:=ahR hx hR h4 hQ hQl x [] ps v7 v8 rfl F (Qq7 hlt.1) (λa ha=>by simp at ha) (by simpa using hlt.2);have hb:gZ (wG x O Q ps n v7 v8)=.nx (wG x O Q ps' (n+1) w7 w8):=by
   unfold gZ;refine(aB<|(cZ rfl).trans g1).trans ?_;exact bB (aO rfl rfl rfl rfl) rfl
  rw[KB.DY ht hb];have hn':n+1<=ps'.length:=by rw[g4,Qqv];omega
  refine ih (n+1) ps' _ _ (by omega) hn' (by omega) g2 λp hpm a ha=>?_;have e2:ps'.take (n+1)=ps.take n++[ps[n]]:=by rw[g4,Qyq (by omega),Qv8 hlt.1]
  rw[e2] at hpm;rcases Qww.mp hpm with hpm|hpm;rw[g4];exact Qzy _<|hc p hpm a ha;rw[Qqw.mp hpm];exact g3 a ha;have e:(decide (n<ps.length)&&decide (ps.length<=600))=false:=by
   rw[Bool.and_eq_false_iff];by_cases h:n<ps.length;exact .inr<|Qwy λz=>hlt ⟨h,z⟩;exact .inl<|Qwy h
  rw[e] at ht;refine⟨ps,n,v7,v8,KB.Ma ht,λh6=>⟨F,?_⟩⟩;have e:n=ps.length:=by
   by_cases h:n<ps.length;exact absurd ⟨h,h6⟩ hlt;omega
  rw[e,Qg8] at hc;exact hc
end
def agC(A:All x s Rs ps)(h:ps.length<=600):WW x s Rs:=λqs F=>by
 refine Qq1 (KB.sX ps qs F.nd λq hq=>?_) h;obtain⟨w,h1,rfl⟩:=F.reach q hq;have go:∀(w:List Nat) p,p∈ps->(∀a∈w,a∈x)->w.foldl (wU x<|lay s Rs) p∈ps:=by
  intro w
  induction w with
  |nil=>exact λp hp _=>hp|cons a w ih=>exact λp hp hw=>ih _ (A.clo p hp a<|hw a<|Qqj ..) λb hb=>hw b<|Qqk _ hb
 exact go w _ (Qwk A.z0) h1
open dM (State ig qx vN Bq rB res vW isR vm O9)
section
variable{x:List Nat}{ss:List State}{m:Nat}{first:List Nat}
theorem acp(hx:x∈fM.XS)(ok:KM.MO x m first ss)(hq:q<m)(hc:c∈x)(f)(hf:f.length<=6300)(a1 a2 a3 a8:OD) :
  uq [Zs x,a1,a2,a3,Zs f,Zf (.tup (ss.map dM.bL)),Zf (.int q),Zs [c],a8] =
   .nx [Zs x,a1,a2,a3,Zs (f++(ig x ss q c).1),Zf (.tup (ss.map dM.bL)),Zf (.int ((ig x ss q c).2)),Zs [c],Zs ((ig x ss q c).1)]:=by
 obtain⟨s,j,h1,h2,_,h3,h4,_⟩:=KM.Af hx ok hq hc;generalize hE:[Zs x,a1,a2,a3,Zs f,Zf<|.tup<|ss.map dM.bL,Zf<|.int q,Zs [c],a8]=env;unfold uq;let E0:Ev.Env:=[Zs x,a1,a2,a3,Zs f,Zf<|.tup<|ss.map dM.bL,Zf<|.int<|(ig x ss q c).2,Zs [c],Zs<|(ig x ss q c).1];refine(aB (e:=E0) ?_).trans ?_;refine bB (d:=dM.encP<|ig x ss q c) (e:=env) ?_ (by rw[<-hE];rfl);refine bj (e1:=env) ?_ ?_<|rB dM.encP s.2 j _ h2;refine bj (x:=dM.bL s) ?_ (by rfl) rfl;exact aO (by rw[<-hE];rfl) (by rw[<-hE];rfl) (by rw[<-hE];rfl)<|rB dM.bL ss q s h1;exact bj (by rw[<-hE];rfl) (by rw[<-hE];rfl) h3;refine bB (e:=E0) ?_ (by rfl);exact aO (by rfl) (by rfl) (by rfl)<|iQ (by omega)
theorem Rz(hx:x∈fM.XS)(ok:KM.MO x m first ss)(side w)(hw:∀c∈w,c∈x)(hl:w.length<=20) :
  tD [.str x,dM.encM first ss,.str side,.str w]=some (.str (dM.rd side (res x first ss (dM.rd side w)))):=by
 have hr1:∀c∈dM.rd side w,c∈x:=λc hc=>by
  unfold dM.rd at hc;split at hc;exact hw c<|Qvz.mp hc;exact hw c hc
 have hr2:(dM.rd side w).length<=20:=by
  unfold dM.rd;split;rw[Qky];exact hl;exact hl
 generalize hv:dM.rd side w=v at hr1 hr2;have aji:∀u,(∀c∈u,c∈x)->u.length<=20->(first++(qx x ss u).1.flatten).length<=6300:=λu hu hul=>by
  obtain⟨g1,g2,g3⟩:=KM.Gi hx ok u hu;have:=O9 g2;rw[Qqv];have h1:=ok.fst;rw[g3] at this;omega
 obtain⟨e',f1,u,a7,a8,hdone,hux,rfl⟩:=jV (g:=ak 7) (iZ v) (λdone env=>∃u a7 a8,done=iZ u/\(∀c∈u,c∈x)/\env=[Zs x,Zf<|dM.encM first ss,Zs side,Zs v,Zs<|first++(qx x ss u).1.flatten,Zf<|.tup<|ss.map dM.bL,Zf<|.int<|(qx x ss u).2,a7,a8])
  (λdone s rest hall env ⟨u,a7,a8,hd,hux,he⟩=>by
   subst he;obtain⟨u',c,h1,h2,h3,h4,h5⟩:=vW hall;have hu:u=u':=by have:=hd.symm.trans h1;unfold iZ at this;exact Qb0 (λa b h=>by cases h;rfl) |>.mp this
   subst hu;obtain⟨g1,g2,g3⟩:=KM.Gi hx ok u hux;subst h2;refine⟨_,_,rfl,acp hx ok g1 (hr1 c h3) (first++(qx x ss u).1.flatten) (aji u hux (by omega)) _ _ _ _,u++[c],Zs [c],Zs<|(ig x ss (qx x ss u).2 c).1,?_,?_,?_⟩
   rw[hd];unfold iZ;rw[Qw7];rfl
   intro d hdm;rcases Qww.mp hdm with hdm|hdm
   exact hux d hdm
   rw[Qqw.mp hdm];exact hr1 c h3
   rw[vN];simp[Qx4,Qgz,List.flatten_nil,Qw8,Qxx])
  [Zs x,Zf<|dM.encM first ss,Zs side,Zs v,Zs first,Zf<|.tup<|ss.map dM.bL,Zf<|.int 0,Zn,Zn] ⟨[],Zn,Zn,rfl,λc hc=>by simp at hc,by simp[qx]⟩
 have huv:u=v:=by have:=hdone.symm;unfold iZ at this;exact Qb0 (λa b h=>by cases h;rfl) |>.mp this
 subst huv;obtain⟨g1,g2,g3⟩:=KM.Gi hx ok u hr1;obtain⟨s,q1,q2,q3⟩:=KM.Pk ok g1;have hres:(first++(qx x ss u).1.flatten)++s.1=res x first ss u:=by unfold res;rw[q2,Qxx]
 have e1:Bs [Zs x,Zf<|dM.encM first ss,Zs side,Zs w,Zn,Zn,Zn,Zn,Zn]=(aC (dH (cR<|aq lV 2<|Zw [114,105,103,104,116]) (bw<|pD<|aM 4) bU)<|bw<|aM 4) [Zs x,Zf<|dM.encM first ss,Zs side,Zs u,Zs<|res x first ss u,Zf<|.tup<|ss.map dM.bL,Zf<|.int<|(qx x ss u).2,a7,a8]:=by
  unfold Bs;refine(aB (by rfl)).trans ?_;refine(aB (by rfl)).trans ?_;refine(aB (e:=[Zs x,Zf<|dM.encM first ss,Zs side,Zs u,Zs first,Zf<|.tup<|ss.map dM.bL,Zf<|.int 0,Zn,Zn]) ?_).trans ?_;have t:=vm side [Zs x,Zf<|dM.encM first ss,Zs side,Zs w,Zs first,Zf<|.tup<|ss.map dM.bL,Zf<|.int 0,Zn,Zn] rfl;rw[<-hv];unfold dM.rd;cases hs:isR side with
  |true=>rw[hs] at t;exact(gq t).trans rfl|false=>rw[hs] at t;exact(dw t).trans rfl
  refine(aB<|(cZ (by rfl)).trans f1).trans ?_;refine(aB ?_).trans rfl;generalize hE:[Zs x,Zf<|dM.encM first ss,Zs side,Zs u,Zs<|first++(qx x ss u).1.flatten,Zf<|.tup<|ss.map dM.bL,Zf<|.int<|(qx x ss u).2,a7,a8]=env;refine bB (e:=env) ?_ (by rw[<-hE];rfl);refine aO (y:=.str s.1) (by rw[<-hE];rfl) ?_ (by rw[<-hE];rfl) ?_;refine bj (x:=dM.bL s) ?_ (by rfl) rfl;exact aO (by rw[<-hE];rfl) (by rw[<-hE];rfl) (by rw[<-hE];rfl)<|rB dM.bL ss _ s q1;rw[<-hres];exact iQ (by have:=aji u hr1 hr2;omega)
 have t:=vm side [Zs x,Zf<|dM.encM first ss,Zs side,Zs u,Zs<|res x first ss u,Zf<|.tup<|ss.map dM.bL,Zf<|.int<|(qx x ss u).2,a7,a8] rfl;refine cL (env:=[Zs x,Zf<|dM.encM first ss,Zs side,Zs u,Zs<|res x first ss u,Zf<|.tup<|ss.map dM.bL,Zf<|.int<|(qx x ss u).2,a7,a8])<|e1.trans ?_;unfold dM.rd;cases hs:isR side with
 |true=>rw[hs] at t;exact km<|(gq t).trans rfl|false=>rw[hs] at t;exact(aB<|(dw t).trans rfl).trans rfl
end
open jr (bL m5 sI lay lf tn Mm yd)
open zV (cI fin)
open KM (P lW wU Lx All OkP WW DP uL Ii qL qQ sU sS)
noncomputable def Iu:cu:=aC (cT 4 (cB (aa (au cO (aa (jz) aj)) aj))) (aC (cT 5 (au KZ (aa (cB (aa (bK (aa (aq bQ 4 (Zi 0)) (aa (tU (.bl true)) aj))) aj)) aj))) (aC (aQ (Zi 0) (ak 6)) (aC (eV (di (cR (aq wV 6 (au cJ (aa (aU 4) aj)))) (cR (aN gLe (au cJ (aa (aU 4) aj)) (aU 2)))) (gZ) 7000) (bw (au cJ (aa (aU 4) aj))))))
section
variable{x:List Nat}{s:D}{Rs:List D}(hx:x∈fM.XS)(hs:s∈sides)(hR:∀R∈Rs,cI x R)(h4:Rs.length<=4)
include hx hs hR h4
theorem Ek(hv:dO (aM 3) [Zs x,Zf O,Zf (.int 600),some (o,Q),Zn,Zn,Zn,Zn,Zn]=.ok (lay s Rs) [Zs x,Zf O,Zf (.int 600),Zf Q,Zn,Zn,Zn,Zn,Zn])(hQ:∀(k:Nat) R,(lay s Rs)[k]?=some R->bQ Q (.int k)=some R)(hQl:cJ [Q]=some (.int ((lay s Rs).length))) :
  ∃ps e,Iu [Zs x,Zf O,Zf (.int 600),some (o,Q),Zn,Zn,Zn,Zn,Zn]=.rt false (.int ps.length) e/\(ps.length<=600->All x s Rs ps):=by
 have o0:yd x s Rs (sI<|lay s Rs):=⟨hx,hs,hR,h4,by unfold sI;rw[Qqx,jr.lg],jr.aal x _⟩;have F0:Lx x s Rs [sI (lay s Rs)]:=⟨Qx3.mpr ⟨by simp,.nil⟩,rfl,λp hp=>by rw[Qqw.mp hp];exact⟨o0,DP _ _⟩,λp hp=>by rw[Qqw.mp hp];exact⟨[],λa ha=>by simp at ha,rfl⟩⟩;obtain⟨ps,n',w7,w8,g1,g2⟩:=Kd (O:=O) hx hR h4 hQ hQl 7000 0 [sI (lay s Rs)] none none rfl (Qxz _) (by show 1<=604;decide) F0 (λp hp=>by simp at hp);refine⟨ps,wG x O Q ps n' w7 w8,?_,g2⟩;unfold Iu;have hb:jz [Zs x,Zf O,Zf<|.int 600,some (o,Q),Zn,Zn,Zn,Zn,Zn]=.ok (.lst<|(sI<|lay s Rs).map bL) [Zs x,Zf O,Zf<|.int 600,Zf Q,Zn,Zn,Zn,Zn,Zn]:=by
  unfold jz;obtain⟨env',f1,v1,rfl⟩:=wk (g:=ak 9) (e:=bK<|aa (au bW<|aa (aq bQ 9<|Zi 2)<|aa (Zw [35]) aj)<|aa (Zw []) aj) (λenv=>∃v1,env=[Zs x,Zf O,Zf<|.int 600,Zf Q,Zn,Zn,Zn,Zn,Zn,v1]) (λR=>bL (fit (lf R) 35,[])) (lay s Rs)
   [Zs x,Zf O,Zf<|.int 600,Zf Q,Zn,Zn,Zn,Zn,Zn,Zn] ⟨none,rfl⟩
   (λd hd env ⟨v1,he⟩=>by
    subst he;obtain⟨wy,ch,l,r,rfl,hro⟩:=(jr.sr (s:=s) hR) d hd;exact⟨[Zs x,Zf O,Zf<|.int 600,Zf Q,Zn,Zn,Zn,Zn,Zn,Zf<|.tup [wy,ch,l,r]],[Zs x,Zf O,Zf<|.int 600,Zf Q,Zn,Zn,Zn,Zn,Zn,Zf<|.tup [wy,ch,l,r]],rfl,cG (aD (aK rfl (eF x hx l hro.left 35<|Qqj ..)) rfl) Ev.xm,_,rfl⟩)
  refine(o7 hv rfl f1 (by rw[Qqx,(jr.lg s Rs)];exact Qq1 h4 (by decide))).trans ?_;unfold sI;rw[Qxk];rfl
 generalize sI (lay s Rs)=f at *;refine(aB (e:=[Zs x,Zf O,Zf<|.int 600,Zf Q,Zl [lW f],Zn,Zn,Zn,Zn]) ?_).trans ?_;exact(jf<|Gv (aD (aK (aD hb aY) rfl) aY) Ev.zz1).trans rfl;refine(aB (e:=[Zs x,Zf O,Zf<|.int 600,Zf Q,Zl [lW f],Zt<|.iY<|WY [f],Zn,Zn,Zn]) ?_).trans ?_;refine(jf<|aK rfl ?_).trans rfl;show(Ji<|lW f).map _=_;rw[uL.nk];rfl;refine(aB rfl).trans ?_;refine(aB g1).trans ?_;refine bT<|aK rfl ?_;show some (D.int<|(ps.map lW).length)=_;rw[Qqx]
theorem HS:∃ps,jO [.str x,.tup [s,.tup Rs],.int 600]=some (.int ps.length)/\(ps.length<=600->All x s Rs ps):=by
 have hs0:=hs;simp[sides,Qq4,Qw6,Qz9] at hs0;rcases hs0 with rfl|rfl;obtain⟨ps,e,g1,g2⟩:=Ek (o:=false) (Q:=.tup Rs) hx hs hR h4 rfl (λk R h=>je h) rfl;refine⟨ps,cL (env:=e) ?_,g2⟩;unfold pR;refine(aB rfl).trans ?_;refine(aB rfl).trans ?_;exact g1;have hl:lay (.str [114,105,103,104,116]) Rs=Rs.map tn:=rfl;obtain⟨ps,e,g1,g2⟩:=Ek (o:=true) (Q:=.lst<|Rs.map tn) hx hs hR h4 rfl (λk R h=>je h) rfl;refine⟨ps,cL (env:=e) ?_,g2⟩;unfold pR;refine(aB rfl).trans ?_;refine(aB ?_).trans g1;refine(gq rfl).trans ?_;let E0:Ev.Env:=[Zs x,Zf<|.tup [.str [114,105,103,104,116],.tup Rs],Zf<|.int 600,Zf<|.tup Rs,Zn,Zn,Zn,Zn,Zn];refine(jf (e:=E0) ?_).trans rfl;obtain⟨env',f1,v5,rfl⟩:=wk (g:=ak 9) (e:=au fX<|Zv 9 aj) (λenv=>∃v5,env=[Zs x,Zf<|.tup [.str [114,105,103,104,116],.tup Rs],Zf<|.int 600,Zf<|.tup Rs,Zn,Zn,Zn,Zn,Zn,v5]) tn Rs
  [Zs x,Zf<|.tup [.str [114,105,103,104,116],.tup Rs],Zf<|.int 600,Zf<|.tup Rs,Zn,Zn,Zn,Zn,Zn,Zn] ⟨none,rfl⟩
  (λd hd env ⟨v5,he⟩=>by
   subst he;exact⟨[Zs x,Zf<|.tup [.str [114,105,103,104,116],.tup Rs],Zf<|.int 600,Zf<|.tup Rs,Zn,Zn,Zn,Zn,Zn,Zf d],_,rfl,aK rfl (Mm<|hR d hd).2.2,_,rfl⟩)
 unfold qu;exact o7 (n:=10) (aR:=E0) rfl rfl f1 (by rw[Qqx];exact Qq1 h4 (by decide))
end
def Ge(hx:x∈fM.XS)(hs:s∈sides)(hR:∀R∈Rs,cI x R)(K:Ii x s Rs first N)(hw:∀c∈w,c∈x)(hl:w.length<=20)(hn:(w.length+1)*2^Rs.length<=301):tD [.str x,dM.encM first N,s,.str w]=some (.str (fin s Rs w)):=by obtain⟨side,rfl,hd⟩:=KM.S8 hs;have h1:=Rz hx K.mo side w hw hl;have hdw:∀c∈Lz.uA (.str side) w,c∈x:=λc hc=>hw c<|Lz.DK hc;obtain⟨r,e1,e2⟩:=K.run (Lz.uA (.str side) w) hdw;rw[hd,hd,KM.Th hx hdw e1,<-e2] at h1;rw[h1];unfold KM.Q8;rw[Lz.aaP hx hs hR hw hn,Lz.zF]
open nZ (sides)
open zV (cI fin Eb jn)
open KM (Ii qL qQ sU sS qK)
def made(hx:x∈fM.XS)(hs:s∈sides)(hR:∀R∈Rs,cI x R)(h4:Rs.length<=4)(hw:∀c∈w,c∈x)(hn:(w.length+1)*2^Rs.length<=300):uw [.tup [s,.tup Rs],.str w]=some (.str (fin s Rs w)):=by refine cL (env:=[Zf (.tup [s,.tup Rs]),Zs w])<|bT ?_;exact bj (aK (by rfl) (zV.ZW hx hs hR (by omega) hw (by omega))) (by rfl)<|zV.Z0 Rs w
theorem Bt(h:∀j,j<=m->x.length^j<=1024):∀n,n<=m->(qL x n).length<=(n+1)*1024
 |0,_=>by show 1<=_;omega
 |n+1,hn=>by
  show(qL x n++qQ x (n+1)).length<=_;rw[Qqv,sU];have h1:=Bt h n (by omega);have h2:=h (n+1) hn;omega
theorem PQ(hx:x.length<=4)(hm:m<=7)(hB:∀j,j<=m->x.length^j<=1024)(A1:OD):∀ds j (a4 a5 a6:OD),j+ds.length<=m->∃b4 b5 b6,jM (ak 4) my ds [Zs x,A1,Zl ((qL x j).map .str),Zf (.lst ((qQ x j).map .str)),a4,a5,a6] = .nx [Zs x,A1,Zl ((qL x (j+ds.length)).map .str),Zf (.lst ((qQ x (j+ds.length)).map .str)),b4,b5,b6]
 |[],j,a4,a5,a6,_=>⟨a4,a5,a6,rfl⟩
 |d::ds,j,a4,a5,a6,hl=>by
  rw[Qqy] at hl;have hr4:(qQ x j).length<=1024:=by rw[sU];exact hB j (by omega)
  have hr5:(qQ x<|j+1).length<=1024:=by rw[sU];exact hB _ (by omega)
  have ha4:(qL x j).length<=8*1024:=Qq1 (Bt hB j (by omega))<|Qjw _ (by omega);obtain⟨c6,g⟩:=KM.aaM x hx A1 (Zl<|(qL x j).map .str) (Zf<|.lst<|(qQ x j).map .str) (Zf d) (qQ x j) [] a6 (λw hw=>by have:=(sS.mp hw).1;omega) (by rw[Qx2];omega);obtain⟨b4,b5,b6,h⟩:=PQ hx hm hB A1 ds (j+1) (Zf d) (Zf<|.lst<|(qQ x<|j+1).map .str) c6 (by omega);have e:j+(d::ds).length=j+1+ds.length:=by rw[Qqy];omega
  refine⟨b4,b5,b6,?_⟩;rw[e,<-h];refine KB.o6 rfl ?_;unfold my;refine(aB rfl).trans ?_;refine(aB<|(cZ rfl).trans g).trans ?_;rw[Qbj];have er:((qQ x j).flatMap λw=>x.map λa=>w++[a])=qQ x (j+1):=rfl;rw[er];generalize hrw:qQ x (j+1)=rw1 at *;generalize amD:qQ x j=rw0 at *;refine(aB rfl).trans ?_;refine(jf (e:=[Zs x,A1,Zf<|.lst<|(qL x j).map .str,Zf<|.lst<|rw1.map .str,Zf d,Zf<|.lst<|rw1.map .str,c6]) ?_).trans rfl;refine bj rfl rfl ?_;unfold acK;refine(Qv4 ?_).trans ?_;rw[Qqx,Qqx];exact Qq1 (Nat.add_le_add ha4 hr5) (by decide);rw[<-Qw7,<-hrw];rfl
def JF(hx:x.length<=4){m:Nat}(hm:m<=7)(hB:∀j,j<=m->x.length^j<=1024):jP [.str x,.int m]=some (.lst ((qL x m).map .str)):=by
 obtain⟨b4,b5,b6,h⟩:=PQ hx hm hB (Zf<|.int m) ((List.range m).map λ(i:Nat)=>.int i) 0 none none none (by rw[Qqx,Qb8];omega);rw[Qqx,Qb8,Qfx] at h;refine abu (env:=[Zs x,Zf<|.int m,Zn,Zf<|.lst<|(qQ x m).map .str,b4,b5,b6]) ?_;unfold uM;refine(aB rfl).trans ?_;refine(aB rfl).trans ?_;refine(aB<|(cZ ?_).trans h).trans ?_;exact dM.tK rfl (Vp<|Qw3 hm (by decide));rfl
def pows(h:n=1/\m<=7\/n=2/\m<=5\/n=3/\m<=4\/n=4/\m<=3):∀j,j<=m->n^j<=1024:=by
 intro j hj;rcases h with ⟨rfl,h⟩|⟨rfl,h⟩|⟨rfl,h⟩|⟨rfl,h⟩;rw[Nat.one_pow];decide;exact Qq1 (Qx8 (by decide)<|show j<=5 by omega) (by decide);exact Qq1 (Qx8 (by decide)<|show j<=4 by omega) (by decide);exact Qq1 (Qx8 (by decide)<|show j<=3 by omega) (by decide)
def okM(first)(N:List KM.gG):okN 60 (dM.encM first N)=true:=by
 show(okN 59 (.str first)&&(okN 59 (.tup<|N.map dM.bL)&&true))=true;have:okN 59 (.tup<|N.map dM.bL)=true:=Qx9.mpr λd hd=>by
  obtain⟨st,_,rfl⟩:=Qwq.mp hd;show(okN 57 (.str st.1)&&(okN 57 (.tup<|st.2.map dM.encP)&&true))=true;have:okN 57 (.tup<|st.2.map dM.encP)=true:=Qx9.mpr λd hd=>by
   obtain⟨p,_,rfl⟩:=Qwq.mp hd
   rfl
  rw[this]
  rfl
 rw[this]
 rfl
open zV (cI fin Eb jn nH)
open KM (Ii qL qQ qK wj BP XH)
def Oj:cY=iG.cY:=rfl
def XF:Gq=iG.Gq:=rfl
def FP:dC=K22.dC:=rfl
def TF:kJ=fM.kJ:=rfl
def Xm:mV=fM.mV:=rfl
def Iw:fD=fM.fD:=rfl
def Y8:mW=jr.mW:=rfl
def JR:bh=fM.bh:=rfl
def abj:oM=dM.oM:=rfl
abbrev Sg(n:Int)(rs:List D)(O:D)(a3 a4 a5 a6 a7 a8:OD):Ev.Env:=[Zl [.int n],Zf (.tup rs),Zf O,a3,a4,a5,a6,a7,a8]
def ne_str(w):yf (.str w) (.str w)=some (.bl false):=jn rfl
section
variable{x:List Nat}{s:D}{Rs rs:List D}(hx:x∈fM.XS)(hs:s∈sides)(hR:∀R∈Rs,cI x R)(h3:Rs.length<=3)(hr:fM.Rows (iZ x) rs)
include hx hs hR h3 hr
theorem QW(n)(A4)(W:List (List Nat))(hW:W.length<=9000):∃ws n' a6,jM (ak 6) nC (fZ 0 1 4) (Sg n rs (.tup [s,.tup Rs]) (Zs x) A4 (Zl (W.map .str)) none none none)=.nx (Sg n' rs (.tup [s,.tup Rs]) (Zs x) A4 (Zl ((W++ws).map .str)) a6 none none)/\∀w∈ws,(∀c∈w,c∈x)/\w.length<=10:=by
 generalize D.tup [s,.tup Rs]=O;obtain⟨e',f1,n',ws,a6,rfl,hd,hw⟩:=jV (g:=ak 6) (b:=nC) (fZ 0 1 4) (λdone env=>∃n ws a6,env=Sg n rs O (Zs x) A4 (Zl<|(W++ws).map .str) a6 none none/\ws.length=done.length/\∀w∈ws,(∀c∈w,c∈x)/\w.length<=10)
  (λdone d rest hall env ⟨n,ws,a6,he,hd,hw⟩=>by
   subst he;obtain⟨w,n',e1,e2,e3⟩:=dM.word n x hx 10 (by decide);rw[<-abj] at e1;have hdl:done.length<=4:=by have:=Qx1 List.length hall;rw[jy,Qqv] at this;omega
   refine⟨_,Sg n' rs O (Zs x) A4 (Zl<|(W++(ws++[w])).map .str) (Zf d) none none,rfl,?_,n',ws++[w],Zf d,rfl,by rw[Qqv,Qqv,hd];rfl,λv hv=>?_⟩
   unfold nC;refine(fM.cD (d:=.str w) (e:=Sg n' rs O (Zs x) A4 (Zl<|(W++ws).map .str) (Zf d) none none) rfl ?_ rfl (by rw[Qqx,Qqv];exact Qw3 (show W.length+ws.length<=9004 by omega) (by decide))).trans ?_
   exact fG (e1:=Sg n rs O (Zs x) A4 (Zl<|(W++ws).map .str) (Zf d) none none) rfl rfl rfl e1
   have e:(W++ws).map D.str++[.str w]=(W++(ws++[w])).map D.str:=by rw[<-Qxx,Qw7 (l₂:=[w])];rfl
   rw[e]
   rfl
   rcases Qww.mp hv with hv|hv
   exact hw v hv
   rw[Qqw.mp hv];exact⟨e2,e3⟩)
  (Sg n rs O (Zs x) A4 (Zl<|W.map .str) none none none) ⟨n,[],Zn,by rw[Qw8],rfl,λw hw=>by simp at hw⟩
 exact⟨ws,n',a6,f1,hw⟩
theorem Qq(K:Ii x s Rs first N)(hw:∀c∈w,c∈x)(hl:w.length<=10)(n)(A5 A6 a8) :
  qw (Sg n rs (.tup [s,.tup Rs]) (Zs x) (Zf (dM.encM first N)) A5 A6 (Zs w) a8)=.nx (Sg n rs (.tup [s,.tup Rs]) (Zs x) (Zf (dM.encM first N)) A5 A6 (Zs w) (Zs (fin s Rs w))):=by
 have hp:2^Rs.length<=8:=Qx8 (by decide) h3;have hn:=Qb9 (show w.length+1<=11 by omega) hp;have h1:=made hx hs hR (by omega) hw (by omega);have h2:=Ge hx hs hR K hw (by omega) (by omega);generalize fin s Rs w=r at *;unfold qw;refine(aB (e:=Sg n rs (.tup [s,.tup Rs]) (Zs x) (Zf<|dM.encM first N) A5 A6 (Zs w)<|Zs r) ?_).trans ?_;exact bB (aK rfl h1) rfl;refine(dw ?_).trans rfl;exact cW<|bj (aK rfl h2) rfl (ne_str r)
theorem right(n):∃n',rC [.lst [.int n],.tup rs,.tup [s,.tup Rs]]=some (.bl true,.lst [.int n']):=by
 obtain⟨first,N,e1,K⟩:=BP hx hs hR h3 hr;rw[<-Oj] at e1;have Ud:=fM.jE x hx;have hx0:=(fM.Cr hx).pos;have hl:fD [.tup rs]=some (.str x):=by rw[Iw];exact fM.Gd hx hr
 have hm:dC [dM.encM first N,.str x]=some (.bl true):=by rw[FP];exact K22.Gg K.mx K.mo K.fx
 obtain⟨m,hm7,hmi,hmb⟩:∃m:Nat,m<=7/\bQ (.lst [.int 0,.int 7,.int 5,.int 3,.int 3]) (.int x.length)=some (.int m)/\∀j,j<=m->x.length^j<=1024:=by
  have hc:x.length=1\/x.length=2\/x.length=3\/x.length=4:=by omega
  rcases hc with h|h|h|h<;>rw[h];exact⟨7,by decide,rfl,pows<|.inl ⟨rfl,by decide⟩⟩;exact⟨5,by decide,rfl,pows<|.inr<|.inl ⟨rfl,by decide⟩⟩;exact⟨3,by decide,rfl,pows<|.inr<|.inr<|.inl ⟨rfl,by decide⟩⟩;exact⟨3,by decide,rfl,pows<|.inr<|.inr<|.inr ⟨rfl,by decide⟩⟩
 have hal:(qL x m).length<=8192:=Qq1 (Bt hmb m<|Qq0 _)<|Qq1 (Qjw _<|show m+1<=8 by omega) (by decide);obtain⟨ws,n',a6,f1,hws⟩:=QW hx hs hR h3 hr n (Zf<|dM.encM first N) (qL x m) (by omega);have hV:∀w∈qL x m++ws,(∀c∈w,c∈x)/\w.length<=10:=λw hw=>by
  rcases Qww.mp hw with hw|hw;obtain⟨q1,q2⟩:=qK.mp hw;exact⟨q2,by omega⟩;exact hws w hw
 have hVn:qL x m++ws≠[]:=λe=>by
  have:[]∈qL x m++ws:=Qzy _<|qK.mpr ⟨Qxz _,λa ha=>by simp at ha⟩;rw[e] at this;simp at this
 generalize hVe:qL x m++ws=V at *;obtain⟨V0,z,rfl⟩:∃V0 z,V=V0++[z]:=⟨V.dropLast,V.getLast hVn,(Qdq hVn).symm⟩;have hz:=hV z (by simp);obtain⟨e',f2,a7,a8,rfl,h8⟩:=jV (g:=ak 7) ((V0++[z]).map D.str) (λdone env=>∃a7 a8,env=Sg n' rs (.tup [s,.tup Rs]) (Zs x) (Zf<|dM.encM first N) (Zf<|.lst<|(V0++[z]).map .str) a6 a7 a8/\∀u v,done=u++[.str v]->a8=Zs (fin s Rs v))
  (λdone d rest hall env ⟨a7,a8,he,_⟩=>by
   subst he;have hd:d∈(V0++[z]).map D.str:=by rw[hall];simp
   obtain⟨w,hw,rfl⟩:=Qwq.mp hd;refine⟨_,_,rfl,Qq hx hs hR h3 hr K (hV w hw).1 (hV w hw).2 n' _ a6 a8,_,_,rfl,λu v e=>?_⟩;have:=(List.append_inj' e rfl).2;cases this
   rfl)
  (Sg n' rs (.tup [s,.tup Rs]) (Zs x) (Zf<|dM.encM first N) (Zf<|.lst<|(V0++[z]).map .str) a6 none none) ⟨none,Zn,rfl,λu v e=>by simp at e⟩
 have h8':=h8 (V0.map .str) z (by rw[Qw7];rfl);subst h8';have hp:2^Rs.length<=8:=Qx8 (by decide) h3;have hn:=Qb9 (show z.length+1<=11 by omega) hp;have hrun:=XH hx hs hR hr K hz.1 (by omega);rw[<-XF] at hrun;let E0:Ev.Env:=Sg n' rs (.tup [s,.tup Rs]) (Zs x) (Zf<|dM.encM first N) (Zf<|.lst<|(V0++[z]).map .str) a6 a7<|Zs<|fin s Rs z;refine⟨n',jg (env:=E0) ?_ rfl⟩;unfold Ca;refine(aB<|bB (aK rfl hl) rfl).trans ?_;refine(aB<|bB (aK rfl e1) rfl).trans ?_;let E1:Ev.Env:=Sg n rs (.tup [s,.tup Rs]) (Zs x) (Zf<|dM.encM first N) none none none none;refine(aB (e:=E1) ?_).trans ?_;refine(dw ?_).trans rfl;refine(nM<|oN<|cW<|aK rfl hm).trans ?_;exact cW<|bj (aK rfl e1) rfl (jn<|okM first N);refine(aB (e:=Sg n rs (.tup [s,.tup Rs]) (Zs x) (Zf<|dM.encM first N) (Zl<|(qL x m).map .str) none none none) ?_).trans ?_;refine(jf (e:=E1) ?_).trans rfl;exact aK (aD rfl (aD (bj rfl rfl hmi) aY)) (JF Ud hm7 hmb);refine(aB<|(cZ rfl).trans f1).trans ?_;refine(aB<|(cZ (by rfl)).trans f2).trans ?_;refine bT<|bj (e1:=E0) (aK ?_ hrun) rfl (nH rfl);refine aD rfl (aD rfl (aD rfl (aD ?_ aY)));refine aO rfl rfl rfl ?_;rw[Qw7];exact zV.G3
end
open KM (Ii qL qK wj)
def mrk(a c:Nat):D:=if ([c] == [a])=true then .tup [.str [115]] else .tup []
theorem Tg(a):∀l,fM.Rows (iZ l) (l.map λc=>.tup [.str [c],mrk a c])
 |[]=>.nil|_::l=>.cons<|Tg a l
def aeK{x:List Nat}{a:Nat}{xr:List Nat}(hxe:x=a::xr)(Ud:x.length<=4)(A0 A2 A3 A4 A5:OD):lH [A0,Zs x,A2,A3,A4,A5] = .ok (.lst (x.map λc=>.tup [.str [c],mrk a c])) [A0,Zs x,A2,A3,A4,A5]:=by
 unfold lH;refine K5 x (λc=>.str [c]) (λc=>.tup [.str [c],mrk a c]) rfl rfl rfl (λc _=>?_) (Qq1 Ud (by decide));have hq:lV (.str [c]) (.str [a])=some (.bl<|[c] == [a]):=rfl;have h1:aq lV 6 (aq bQ 1<|Zi 0) ([A0,Zs x,A2,A3,A4,A5]++[Zs [c]])=.ok (.bl<|[c] == [a]) ([A0,Zs x,A2,A3,A4,A5]++[Zs [c]]):=by
  refine aO rfl (aO rfl rfl rfl ?_) rfl hq;rw[hxe];show(uN (a::xr) 0).map _=_;rw[fM.Qa]
  rfl
 refine cG (aD rfl (aD ?_ aY)) Ev.xm;refine bj rfl (aK (aD h1 aY) rfl) ?_;unfold mrk;cases([c] == [a])<;>rfl
def afu(n:Int){x:List Nat}(hx:x∈fM.XS)(A2 A3 A4 A5:OD):∃s Rs n',bK (aa (aN bQ (cB (aa (Zw [108,101,102,116]) (aa (Zw [114,105,103,104,116]) aj))) (dX bh 0 (aa (Zi 2) aj))) (aa (au cO (aa (lG) aj)) aj)) [Zl [.int n],Zs x,A2,A3,A4,A5] = .ok (.tup [s,.tup Rs]) [Zl [.int n'],Zs x,A2,A3,A4,A5]/\s∈sides/\(∀R∈Rs,cI x R)/\Rs.length=4:=by
 obtain⟨d,hd,e⟩:=dig n 2 (by decide);obtain⟨s,hs,h1⟩:∃s,s∈sides/\bQ (.lst [.str [108,101,102,116],.str [114,105,103,104,116]]) (.int d)=some s:=by
  have hc:d=0\/d=1:=by omega
  rcases hc with rfl|rfl;exact⟨_,Qqj ..,rfl⟩;exact⟨_,Qqk _<|Qqj ..,rfl⟩
 obtain⟨Rs,env',g1,⟨n',v6,rfl⟩,g3,g4⟩:=dM.Kv (g:=ak 6) (e:=dX jB 0<|Zv 1 aj) (λenv=>∃n v6,env=[Zl [.int n],Zs x,A2,A3,A4,A5,v6]) (cI x) (fZ 0 1 4)
  [Zl [.int (n / 2)],Zs x,A2,A3,A4,A5,Zn] ⟨_,_,rfl⟩
  (λt _ env ⟨n,v6,he⟩=>by
   subst he;obtain⟨wy,ch,l,r,n',h2,h3⟩:=jr.rule n x hx;refine⟨.tup [wy,ch,l,r],_,[Zl [.int n'],Zs x,A2,A3,A4,A5,Zf t],rfl,?_,⟨_,_,rfl⟩,_,_,_,_,rfl,h3⟩;exact fG (e1:=[Zl [.int n],Zs x,A2,A3,A4,A5,Zf t]) rfl rfl rfl h2)
 rw[jy] at g4;refine⟨s,Rs,n',?_,hs,g3,g4⟩;refine cG (aD (e1:=[Zl [.int (n / 2)],Zs x,A2,A3,A4,A5]) ?_<|aD (aK (ds:=[.lst Rs]) (aD ?_ aY) rfl) aY) Ev.xm;refine bj rfl rfl ?_;have e2:n % 2=d:=e;rw[e2];exact h1;unfold lG;exact o7 (eQ:=[Zl [.int n'],Zs x,A2,A3,A4,A5,v6]) rfl rfl g1 (by rw[g4];decide)
def Gn(n)(hx:x∈fM.XS)(hx2:2<=x.length):∃n',lA [.lst [.int n],.str x]=some (.bl true,.lst [.int n']):=by
 have Ud:=fM.jE x hx;obtain⟨a,xr,hxe⟩:∃a xr,x=a::xr:=by cases x with|nil=>simp at hx2|cons a r=>exact⟨a,r,rfl⟩
 have hst:=aeK hxe Ud (Zl [.int n]) none none none none;have ad4:=Tg a x;generalize(x.map λc=>D.tup [.str [c],mrk a c])=rs at hst ad4;obtain⟨s,Rs,n',ho,hs,hR,hl4⟩:=afu n hx (Zf<|.tup rs) none none none;obtain⟨ps,h6,hA⟩:=HS hx hs hR (by omega);have start:∀{o} {d} {e},aC (dH (cR<|aN gGt (au jO<|Zv 1<|Zv 3<|aa (Zi 600) aj)<|Zi 600) (bw<|tU<|.bl true) bU) (aC (aQ (au cY<|Zv 2<|Zv 3 aj)<|ak 4)<|aC (dF (dO<|au jP<|Zv 1<|aa (aN bQ (cB<|aa (Zi 0)<|aa (Zi 0)<|aa (Zi 4)<|aa (Zi 4)<|aa (Zi 3) aj)<|au cJ<|aa (aU 1) aj) aj) (ak 5)<|jc)<|bw<|au dC<|Zv 4<|Zv 1 aj) [Zl [.int n'],Zs x,Zf<|.tup rs,Zf<|.tup [s,.tup Rs],Zn,Zn]=.rt o d e->oU [Zl [.int n],Zs x,Zn,Zn,Zn,Zn]=.rt o d e:=λ{o d e} k=>by
  unfold oU;refine(aB<|bB (aK (aD hst aY) rfl) rfl).trans ?_;refine(aB<|bB ho rfl).trans ?_;exact k
 have ht:cR (aN gGt (au jO<|Zv 1<|Zv 3<|aa (Zi 600) aj)<|Zi 600) [Zl [.int n'],Zs x,Zf<|.tup rs,Zf<|.tup [s,.tup Rs],Zn,Zn]=.ok (decide (600<(ps.length:Int))) [Zl [.int n'],Zs x,Zf<|.tup rs,Zf<|.tup [s,.tup Rs],Zn,Zn]:=
  cW (bj (aK rfl h6) rfl rfl)
 by_cases hm:ps.length<=600;rw[Qwy (by omega)] at ht;obtain⟨first,N,e1,K⟩:=wj hx hs hR (by omega) (agC (hA hm) hm) ad4;rw[<-Oj] at e1;have hmi:dC [dM.encM first N,.str x]=some (.bl true):=by rw[FP];exact K22.Gg K.mx K.mo K.fx
 obtain⟨m,hm7,hix,hmb⟩:∃m:Nat,m<=4/\bQ (.lst [.int 0,.int 0,.int 4,.int 4,.int 3]) (.int x.length)=some (.int m)/\∀j,j<=m->x.length^j<=1024:=by
  have hc:x.length=2\/x.length=3\/x.length=4:=by omega
  rcases hc with h|h|h<;>rw[h];exact⟨4,by decide,rfl,pows<|.inr<|.inl ⟨rfl,by decide⟩⟩;exact⟨4,by decide,rfl,pows<|.inr<|.inr<|.inl ⟨rfl,by decide⟩⟩;exact⟨3,by decide,rfl,pows<|.inr<|.inr<|.inr ⟨rfl,by decide⟩⟩
 have haw:=JF Ud (by omega) hmb;obtain⟨e',f1,a5,rfl⟩:=vO (g:=ak 5) (b:=jc) (λenv=>∃a5,env=[Zl [.int n'],Zs x,Zf<|.tup rs,Zf<|.tup [s,.tup Rs],Zf<|dM.encM first N,a5]) ((qL x m).map .str)
  (λd hd env ⟨a5,he⟩=>by
   subst he;obtain⟨w,hw,rfl⟩:=Qwq.mp hd;obtain⟨q1,q2⟩:=qK.mp hw;have hn:(w.length+1)*2^Rs.length<=80:=by rw[hl4];omega
   have h1:=made hx hs hR (by omega) q2 (by omega);have h2:=Ge hx hs hR K q2 (by omega) (by omega);generalize fin s Rs w=r at *;refine⟨_,[Zl [.int n'],Zs x,Zf<|.tup rs,Zf<|.tup [s,.tup Rs],Zf<|dM.encM first N,Zs w],rfl,?_,_,rfl⟩;unfold jc;refine(dw ?_).trans rfl;exact cW<|bj (aK rfl h2) (aK rfl h1)<|ne_str r)
  [Zl [.int n'],Zs x,Zf<|.tup rs,Zf<|.tup [s,.tup Rs],Zf<|dM.encM first N,Zn] ⟨_,rfl⟩
 refine⟨n',jg (env:=[Zl [.int n'],Zs x,Zf<|.tup rs,Zf<|.tup [s,.tup Rs],Zf<|dM.encM first N,a5]) (start ?_) rfl⟩;refine(aB<|(dw ht).trans rfl).trans ?_;refine(aB<|bB (aK rfl e1) rfl).trans ?_;refine(aB<|(cZ ?_).trans f1).trans ?_;exact zz (aK (aD rfl (aD (bj rfl rfl hix) aY)) haw) rfl;exact bT<|aK rfl hmi;rw[Qw0 (by omega)] at ht;exact⟨n',jg (start<|km<|(gq ht).trans rfl) rfl⟩
def MN(n)(x)(hx:x∈fM.XS):∃s Rs n',iU [.lst [.int n],.str x]=some (.tup [s,.tup Rs],.lst [.int n'])/\s∈sides/\(∀R∈Rs,cI x R)/\Rs.length<=3:=by
 obtain⟨d,hd,e⟩:=dig n 4 (by decide);have ht:=fM.j0 n 4 (by decide) (by decide);rw[<-JR] at ht;obtain⟨m0,hm0,hix⟩:∃m0:Nat,m0<=3/\bQ (.lst [.int 1,.int 2,.int 2,.int 3]) (.int d)=some (.int m0):=by
  have hc:d=0\/d=1\/d=2\/d=3:=by omega
  rcases hc with rfl|rfl|rfl|rfl;exact⟨1,by decide,rfl⟩;exact⟨2,by decide,rfl⟩;exact⟨2,by decide,rfl⟩;exact⟨3,by decide,rfl⟩
 obtain⟨s,Rs,n',h1,h2,h3,h4⟩:=jr.order (n / 4) x hx m0 (by omega);rw[<-Y8] at h1;refine⟨s,Rs,n',jg (env:=[Zl [.int n'],Zs x]) ?_ rfl,h2,h3,by omega⟩;unfold rE;have hio:dX bh 0 (aa (Zi 4) aj) [Zl [.int n],Zs x]=.ok (.int<|n % (4:Nat)) [Zl [.int (n / 4)],Zs x]:=fG rfl rfl rfl ht;have hg:aN bQ (cB<|aa (Zi 1)<|aa (Zi 2)<|aa (Zi 2)<|aa (Zi 3) aj) (dX bh 0<|aa (Zi 4) aj) [Zl [.int n],Zs x]=.ok (.int m0) [Zl [.int (n / 4)],Zs x]:=by refine bj rfl hio ?_;rw[e];exact hix
 refine bT<|fG (e1:=[Zl [.int (n / 4)],Zs x]) rfl ?_ rfl h1;exact aD rfl (aD hg aY)
def aiR(ns:List Int)(hl:ns.length<=63)(hb:Sq ns)(k:Int)(h0:0<=k)(h1:k<=400)(a2 a3:OD):∃b2 b3,yZ [Zf (.arr (ns.map .int)),Zf (.int k),a2,a3,Zn,Zn,Zn] = .nx [Zf (.arr (ns.map .int)),Zf (.int k),b2,b3,Zn,Zn,Zn]:=by
 obtain⟨p,hp⟩:=fM.pack ns hl hb k h0 (by omega);obtain⟨x,rs,n1,hx,e1,hr⟩:=fM.stock p;obtain⟨s,Rs,n2,e2,hs,hR,h3⟩:=MN n1 x hx;have hsn:fD [.tup rs]=some (.str x):=by rw[Iw];exact fM.Gd hx hr
 obtain⟨n3,e4⟩:=right hx hs hR h3 hr n2;rw[<-TF] at hp;rw[<-Xm] at e1;refine⟨Zl [.int n3],Zf<|.tup rs,?_⟩;generalize D.arr (ns.map .int)=AR at *;unfold yZ;refine(aB<|(jf<|aK rfl hp).trans rfl).trans ?_;refine(aB<|bB (fG rfl rfl rfl e1) rfl).trans ?_;have hio:dX iU 2 (aa (au fD<|Zv 3 aj) aj) [Zf AR,Zf<|.int k,Zl [.int n1],Zf<|.tup rs,Zn,Zn,Zn]=.ok (.tup [s,.tup Rs]) [Zf AR,Zf<|.int k,Zl [.int n2],Zf<|.tup rs,Zn,Zn,Zn]:=
  fG (e1:=[Zf AR,Zf<|.int k,Zl [.int n1],Zf<|.tup rs,Zn,Zn,Zn]) rfl (aD (aK rfl hsn) aY) rfl e2
 have hr0:dX rC 2 (Zv 3<|aa (dX iU 2<|aa (au fD<|Zv 3 aj) aj) aj) [Zf AR,Zf<|.int k,Zl [.int n1],Zf<|.tup rs,Zn,Zn,Zn]=.ok (.bl true) [Zf AR,Zf<|.int k,Zl [.int n3],Zf<|.tup rs,Zn,Zn,Zn]:=
  fG (e1:=[Zf AR,Zf<|.int k,Zl [.int n2],Zf<|.tup rs,Zn,Zn,Zn]) rfl (aD rfl (aD hio aY)) rfl e4
 exact(dw<|oN<|cW hr0).trans rfl
def letters:List Nat:=[97,98,99,100,101,102,103,104,105,106,107,108,109,110,111,112,113,114,115,116,117,118,119,120,121,122]
def letter{i:Nat}(h:i<26):bQ (.str letters) (.int i)=some (.str [97+i]):=by
 have h1:∀i,i<26->letters[i]?=some (97+i):=by decide
 show(uN letters i).map _=_;rw[je (h1 i h)]
 rfl
abbrev EnW(AR:D)(b1 b3:OD)(n:Int)(a4 a5 a6:OD):Ev.Env:=[Zf AR,b1,Zl [.int n],b3,a4,a5,a6]
def Xf(ns)(hl:ns.length<=63)(hb:Sq ns):Uo [.arr (ns.map .int)]=some (.bl true):=by
 have hlen:au cJ (aa (aU 0) aj) [Zf (D.arr<|ns.map .int),Zn,Zn,Zn,Zn,Zn,Zn]=.ok (.int (ns.length:Int)) [Zf (D.arr<|ns.map .int),Zn,Zn,Zn,Zn,Zn,Zn]:=by show R.ok (D.int ((ns.map D.int).length:Int)) _=_;rw[Qqx]
 obtain⟨ds,hds,hk⟩:∃ds,gj (aa (Zi 0)<|aa (au Wi<|aa (Zi 1)<|aa (au Wh<|aa (au cJ<|aa (aU 0) aj)<|aa (Zi 8) aj) aj)<|aa (Zi 2) aj) [Zf (D.arr<|ns.map .int),Zn,Zn,Zn,Zn,Zn,Zn]=.ok ds [Zf (D.arr<|ns.map .int),Zn,Zn,Zn,Zn,Zn,Zn]/\∀d∈ds,∃k,d=.int k/\0<=k/\k<=400:=by
  generalize hE:([Zf (D.arr<|ns.map .int),Zn,Zn,Zn,Zn,Zn,Zn]:Ev.Env)=env at hlen ⊢;have a1:aa (Zi 0) (aa (au Wi<|aa (Zi 1)<|aa (au Wh<|aa (au cJ<|aa (aU 0) aj)<|aa (Zi 8) aj) aj)<|aa (Zi 2) aj) env=.ok [.int 0,.int<|if (if (8:Int)<ns.length then 8 else (ns.length:Int)) > 1 then (if (8:Int)<ns.length then 8 else (ns.length:Int)) else 1,.int 2] env:=
   aD (d:=.int 0) rfl (aD (aK (aD (d:=.int 1) rfl (aD (aK (aD hlen rfl) rfl) aY)) rfl) rfl)
  generalize hm:(if (if (8:Int)<ns.length then 8 else (ns.length:Int)) > 1 then (if (8:Int)<ns.length then 8 else (ns.length:Int)) else 1)=m at a1;have hm1:1<=m/\m<=12:=by rw[<-hm];split<;>split<;>omega
  obtain⟨j,rfl⟩:∃j:Nat,m=(j:Int):=⟨m.toNat,by omega⟩;have hsm:(2:Int)≠0/\(2:Int).natAbs<1073741824/\Builtin.Range.small 0 (j:Int) 2=true:=by
   refine⟨by decide,by decide,?_⟩;have hall:((List.range 21).all λj=>Builtin.Range.small 0 (j:Int) 2)=true:=by decide +kernel
   exact Qx9.mp hall j<|Qkj.mpr (by omega)
  have hsz:(Builtin.Range.rangeSize 0 (j:Int) 2).toNat<=20:=by
   have hall:((List.range 21).all λj=>decide ((Builtin.Range.rangeSize 0 (j:Int) 2).toNat<=20))=true:=by decide +kernel
   exact Qxy<|Qx9.mp hall j<|Qkj.mpr (by omega)
  refine⟨fZ 0 2 (Builtin.Range.rangeSize 0 (j:Int) 2).toNat,dM.tK a1<|dM.ahU hsm,λd hd=>?_⟩;unfold fZ at hd;obtain⟨i,hi,rfl⟩:=Qwq.mp hd;have:=Qkj.mp hi;exact⟨0+(i:Int)*2,rfl,by omega,by omega⟩
 obtain⟨e',f1,b1,b2,b3,rfl⟩:=vO (g:=ak 1) (b:=yZ) (λenv=>∃b1 b2 b3,env=[Zf (.arr<|ns.map .int),b1,b2,b3,Zn,Zn,Zn]) ds
  (λd hd env ⟨b1,b2,b3,he⟩=>by
   subst he;obtain⟨k,rfl,h0,h1⟩:=hk d hd;obtain⟨c2,c3,hb⟩:=aiR ns hl hb k h0 h1 b2 b3;exact⟨_,_,rfl,hb,_,_,_,rfl⟩)
  [Zf (.arr<|ns.map .int),Zn,Zn,Zn,Zn,Zn,Zn] ⟨_,_,_,rfl⟩
 obtain⟨p,hp⟩:=fM.pack ns hl hb 8 (by decide) (by decide);obtain⟨p',hp'⟩:=fM.pack ns hl hb 10 (by decide) (by decide);rw[<-TF] at hp hp';obtain⟨i,hi,ei⟩:=dig p 25 (by decide);have t1:=fM.j0 p 25 (by decide) (by decide);obtain⟨j,hj,ej⟩:=dig (p / ((25:Nat):Int)) (25 - i) (by omega);have t2:=fM.j0 (p / ((25:Nat):Int)) (25 - i) (by omega) (by omega);rw[ei] at t1;rw[ej] at t2;rw[<-JR] at t1 t2;generalize p / ((25:Nat):Int)=p1 at *;generalize p1 / ((25 - i:Nat):Int)=p2 at *;have hX:[97+i,97+(i+1+j)]∈fM.XS:=fM.vV ⟨by show 2<=4;decide,by show 0<2;decide,by
  refine Qx3.mpr ⟨λh=>?_,Qx3.mpr ⟨Qw6,.nil⟩⟩;have:=Qqw.mp h;omega⟩
 obtain⟨p3,r1⟩:=Gn p2 hX (by show 2<=2;decide);obtain⟨d4,hd4,e4⟩:=dig p3 4 (by decide);have t3:=fM.j0 p3 4 (by decide) (by decide);rw[e4,<-JR] at t3;generalize p3 / ((4:Nat):Int)=p4 at *;obtain⟨y,hy,hy2,hyi⟩:∃y,y∈fM.XS/\2<=y.length/\bQ (.lst [.str [97,98,99],.str [97,101,112],.str [109,110,122],.str [97,101,112,116]]) (.int (d4:Int))=some (.str y):=by
  have hc:d4=0\/d4=1\/d4=2\/d4=3:=by omega
  rcases hc with rfl|rfl|rfl|rfl;exact⟨_,fM.vV ⟨by decide,by decide,by decide⟩,by decide,rfl⟩;exact⟨_,fM.vV ⟨by decide,by decide,by decide⟩,by decide,rfl⟩;exact⟨_,fM.vV ⟨by decide,by decide,by decide⟩,by decide,rfl⟩;exact⟨_,fM.vV ⟨by decide,by decide,by decide⟩,by decide,rfl⟩
 obtain⟨p5,r2⟩:=Gn p' hy hy2;generalize hAR:D.arr (ns.map .int)=AR at *;refine cL (env:=EnW AR b1 b3 p4 (Zs letters) (Zf<|.int (i:Int))<|Zs [97+i,97+(i+1+j)]) ?_;unfold aeg;refine(aB<|(cZ hds).trans f1).trans ?_;refine(aB<|(jf<|aK rfl hp).trans rfl).trans ?_;refine(aB rfl).trans ?_;let E1:Ev.Env:=EnW AR b1 b3 p1 (Zs letters) (Zf<|.int (i:Int)) none;refine(aB (e:=E1) ?_).trans ?_;exact bB (fG (i:=2) rfl rfl rfl t1) rfl;let E0:Ev.Env:=EnW AR b1 b3 p2 (Zs letters) (Zf<|.int (i:Int))<|Zs [97+i,97+(i+1+j)];refine(aB (e:=E0) ?_).trans ?_;refine bB (e:=EnW AR b1 b3 p2 (Zs letters) (Zf (.int (i:Int))) none) ?_ rfl;refine bj (y:=.str [97+(i+1+j)]) (aO (o:=false) (o':=false) rfl rfl rfl (letter (by omega))) ?_ rfl;refine aO (o:=false) (o':=false) rfl ?_ rfl (letter (by omega));refine bj (y:=.int (j:Int)) (aO (o:=false) (o':=false) (y:=.int 1) rfl rfl rfl rfl) ?_ ?_;refine fG (i:=2) rfl (aD (bj (x:=.int 25) (e1:=E1) rfl rfl ?_) aY) rfl t2;show some (D.int (25 - (i:Int)))=_;congr 2;omega;show some (D.int ((i:Int)+1+(j:Int)))=_;congr 2;refine(aB (e:=EnW AR b1 b3 p3 (Zs letters) (Zf (.int (i:Int))) (Zs [97+i,97+(i+1+j)])) ?_).trans ?_;refine(dw (oN (b:=true) (cW ?_))).trans rfl;exact fG (i:=2) (e1:=E0) rfl rfl rfl r1;refine bT (jr.aas (ds:=[.str y]) (aK rfl hp') (aD (bj rfl ?_ hyi) aY) r2);exact fG (i:=2) rfl rfl rfl t3
open PySem PySem.Spec PyProof.Rows L2 Ev
def all_mk{P:Program}{w:World}{K:Fg}{h:Heap}{mg:Str->Option Value}{fa:Addr}(X:K.In h)(G:h.Ns mainGlobals mg)(hfa:mg "law"=some (.ref fa))
  {aeD:Tok} {Ad:Tok}
  (adA:PySem.W.nsIn K mainGlobals "all"=some none) (W9:PySem.W.nsIn K mainGlobals "bool"=some none) (W8:PySem.W.nsIn K mainGlobals "dict"=some none) (LK:PySem.W.nsIn K mainGlobals "divmod"=some none) (Bv:PySem.W.nsIn K mainGlobals "enumerate"=some none) (adz:PySem.W.nsIn K mainGlobals "int"=some none) (yg:PySem.W.nsIn K mainGlobals "isinstance"=some none) (ady:PySem.W.nsIn K mainGlobals "len"=some none) (W7:PySem.W.nsIn K mainGlobals "list"=some none) (adx:PySem.W.nsIn K mainGlobals "max"=some none) (adw:PySem.W.nsIn K mainGlobals "min"=some none) (Su:PySem.W.nsIn K mainGlobals "range"=some none) (adv:PySem.W.nsIn K mainGlobals "set"=some none) (LC:PySem.W.nsIn K mainGlobals "sorted"=some none) (adu:PySem.W.nsIn K mainGlobals "str"=some none) (Ss:PySem.W.nsIn K mainGlobals "tuple"=some none) (adt:PySem.W.nsIn K mainGlobals "zip"=some none) (vM:∀d:D,PySem.W.kitOne K (.type (U6 d)) (.type "bool")=some (sZ d "bool")) (zj:∀d:D,PySem.W.kitOne K (.type (U6 d)) (.type "int")=some (sZ d "int")) (zg:∀d:D,PySem.W.kitOne K (.type (U6 d)) (.type "str")=some (sZ d "str")) (lq:∀d:D,PySem.W.kitOne K (.type (U6 d)) (.type "tuple")=some (sZ d "tuple")) (RK:PySem.W.nsIn K mainGlobals "EDGE"=some (some (.str "#" aeD))) (oH:PySem.W.nsIn K mainGlobals "MOST_STANDINGS"=some (some (.int 600 Ad))) (Cg:FA K "sounds_of" vp) (aaT:FA K "fits" Q4) (Qd:FA K "turned" Eu) (JH:FA K "puts_in" Ao) (uO:FA K "reading_rules" pH) (tQ:FA K "first_standing" ou) (rJ:FA K "read_putting_in" m8) (uP:FA K "read_changing" pI) (zN:FA K "read_signs" tZ) (G5:FA K "watch_on" xA) (Ce:FA K "watch_end" vo) (JG:FA K "read_on" An) (Qf:FA K "end_of" Ex) (G6:FA K "readings" xB) (aei:FA K "run" Xz) (rH:FA K "standing_states" m7) (vU:FA K "shared_start" qg) (tR:FA K "certain_starts" oA) (uQ:FA K "put_out_early" pJ) (G7:FA K "numbered" xC) (wX:FA K "like_states" rM) (Qe:FA K "joined" Ew) (uR:FA K "least_machine" pK) (Cq:FA K "_law_mixed" vD) (Hg:FA K "_law_pack" xJ) (Hc:FA K "_law_take" xF) (Ci:FA K "_law_stock" vq) (zP:FA K "_law_sounds" ue) (Cj:FA K "_law_signs" vA) (xf:FA K "_law_changes" rP) (Hd:FA K "_law_rule" xG) (Cp:FA K "_law_order" vC) (G8:FA K "_law_word" xD) (Hi:FA K "_law_fits" xM) (zQ:FA K "_law_put_in" uf) (xg:FA K "_law_changed" rQ) (zO:FA K "_law_turned" t7) (xj:FA K "_law_by_side" rR) (G9:FA K "_law_walk" xE) (Hh:FA K "_law_made" xK) (uU:FA K "_law_all_words" pM) (JK:FA K "_law_run" Aq) (wZ:FA K "_law_is_text" rO) (tM:FA K "_law_is_machine" n8) (Hf:FA K "_law_read" xH) (wY:FA K "_law_read_on" rN) (uT:FA K "_law_standings" pL) (tO:FA K "_law_four_right" oh) (rK:FA K "_law_small_order" m9) (Ck:FA K "_law_right" vB) (aej:FA K "law" XC) :
  ∃fd:FuncData,(∀(s:Shared) (v:Value),BindsTo s fd ⟨[v],[]⟩ [("_law_script",v)])/\∀base:Heap,K.In base->base.Ns mainGlobals mg->sH P w K mg base JN 10 fa fd ["_law_script"] (pW K 1 Uo):=
 aej.law X G hfa (λs v=>.of_eq rfl) λbase F=>agB ⟨vJ X G adA,
  vJ X G W9,
  vJ X G W8,
  vJ X G LK,
  vJ X G Bv,
  vJ X G adz,
  vJ X G yg,
  vJ X G ady,
  vJ X G W7,
  vJ X G adx,
  vJ X G adw,
  vJ X G Su,
  vJ X G adv,
  vJ X G LC,
  vJ X G adu,
  vJ X G Ss,
  vJ X G adt,
  vM,
  zj,
  zg,
  lq,
  acH X G RK (by decide +kernel) (by decide),
  acI X G oH,
  Cg.at X G (fun|[_],_=>rfl),
  aaT.at X G (fun|[_,_],_=>rfl),
  Qd.at X G (fun|[_],_=>rfl),
  JH.at X G (fun|[_],_=>rfl),
  uO.at X G (fun|[_],_=>rfl),
  tQ.at X G (fun|[_],_=>rfl),
  rJ.at X G (fun|[_,_,_],_=>rfl),
  uP.at X G (fun|[_,_,_],_=>rfl),
  zN.at X G (fun|[_,_,_],_=>rfl),
  G5.at X G (fun|[_,_,_],_=>rfl),
  Ce.at X G (fun|[_,_],_=>rfl),
  JG.at X G (fun|[_,_,_],_=>rfl),
  Qf.at X G (fun|[_,_],_=>rfl),
  G6.at X G (fun|[_,_],_=>rfl),
  aei.at X G (fun|[_,_,_,_],_=>rfl),
  rH.at X G (fun|[_,_],_=>rfl),
  vU.at X G (fun|[_],_=>rfl),
  tR.at X G (fun|[_],_=>rfl),
  uQ.at X G (fun|[_],_=>rfl),
  G7.at X G (fun|[_],_=>rfl),
  wX.at X G (fun|[_],_=>rfl),
  Qe.at X G (fun|[_],_=>rfl),
  uR.at X G (fun|[_,_],_=>rfl),
  Cq.at X G (fun|[_],_=>rfl),
  Hg.at X G (fun|[_,_],_=>rfl),
  Hc.at X G (fun|[_,_],_=>rfl),
  Ci.at X G (fun|[_],_=>rfl),
  zP.at X G (fun|[_],_=>rfl),
  Cj.at X G (fun|[_,_],_=>rfl),
  xf.at X G (fun|[_,_],_=>rfl),
  Hd.at X G (fun|[_,_],_=>rfl),
  Cp.at X G (fun|[_,_,_],_=>rfl),
  G8.at X G (fun|[_,_,_],_=>rfl),
  Hi.at X G (fun|[_,_],_=>rfl),
  zQ.at X G (fun|[_,_],_=>rfl),
  xg.at X G (fun|[_,_],_=>rfl),
  zO.at X G (fun|[_],_=>rfl),
  xj.at X G (fun|[_,_,_],_=>rfl),
  G9.at X G (fun|[_,_],_=>rfl),
  Hh.at X G (fun|[_,_],_=>rfl),
  uU.at X G (fun|[_,_],_=>rfl),
  JK.at X G (fun|[_,_,_,_],_=>rfl),
  wZ.at X G (fun|[_,_],_=>rfl),
  tM.at X G (fun|[_,_],_=>rfl),
  Hf.at X G (fun|[_,_,_],_=>rfl),
  wY.at X G (fun|[_,_,_],_=>rfl),
  uT.at X G (fun|[_,_,_],_=>rfl),
  tO.at X G (fun|[_,_],_=>rfl),
  rK.at X G (fun|[_,_],_=>rfl),
  Ck.at X G (fun|[_,_,_],_=>rfl)⟩ F
end lD
theorem PySem.W.Fast.tw712191439793983200:True:=trivial
theorem PySem.W.Fast.tw14376117489320929110:True:=trivial
theorem PySem.W.Fast.tw12946294332460799013:True:=trivial
theorem PySem.W.Fast.tw5405323391832943604:True:=trivial
theorem PySem.W.Fast.tw7584822223078479045:True:=trivial
theorem PySem.W.Fast.tw6497070616469614532:True:=trivial
theorem PySem.W.Fast.tw2998723188167813181:True:=trivial
theorem PySem.W.Fast.tw8907441852896515109:True:=trivial
theorem PySem.W.Fast.tw4300592771352524825:True:=trivial
theorem PySem.W.Fast.tw16110960593530192401:True:=trivial
theorem PySem.W.Fast.tw12976880191754966356:True:=trivial
theorem PySem.W.Fast.tw11501760776361433725:True:=trivial
theorem PySem.W.Fast.tw4450741727036334903:True:=trivial
theorem PySem.W.Fast.tw2203624626114064466:True:=trivial
theorem PySem.W.Fast.tw1594092924202413218:True:=trivial
theorem PySem.W.Fast.tw988960862799146681:True:=trivial
theorem PySem.W.Fast.tw3258574692395538680:True:=trivial
theorem PySem.W.Fast.tw10607458072354509407:True:=trivial
theorem PySem.W.Fast.tw12829526954369071872:True:=trivial
theorem PySem.W.Fast.tw7996434197103562668:True:=trivial
theorem PySem.W.Fast.tw4323812685782889395:True:=trivial
theorem PySem.W.Fast.tw15320816973340553120:True:=trivial
theorem PySem.W.Fast.tw15916057411341952926:True:=trivial
theorem PySem.W.Fast.tw4884501011625364486:True:=trivial
theorem PySem.W.Fast.tw1736624574875708941:True:=trivial
theorem PySem.W.Fast.tw3330460767664212189:True:=trivial
theorem PySem.W.Fast.tw1635791019899081841:True:=trivial
theorem PySem.W.Fast.tw509381489096494860:True:=trivial
theorem PySem.W.Fast.tw5262790781575018338:True:=trivial
theorem PySem.W.Fast.tw17800020235658198277:True:=trivial
theorem PySem.W.Fast.tw5773197089890750296:True:=trivial
theorem PySem.W.Fast.tw15026834125805361940:True:=trivial
theorem PySem.W.Fast.tw12039092286528357031:True:=trivial
theorem PySem.W.Fast.tw11015537637818423979:True:=trivial
theorem PySem.W.Fast.tw5157935399353883610:True:=trivial
theorem PySem.W.Fast.tw13570691470198448192:True:=trivial
theorem PySem.W.Fast.tw14173021037323318786:True:=trivial
theorem PySem.W.Fast.tw14054401121678013123:True:=trivial
theorem PySem.W.Fast.tw9604405436174291844:True:=trivial
theorem PySem.W.Fast.tw10075311888610235177:True:=trivial
theorem PySem.W.Fast.tw15799607726499303888:True:=trivial
theorem PySem.W.Fast.tw7899469504034048855:True:=trivial
theorem PySem.W.Fast.tw3043633751491721919:True:=trivial
theorem PySem.W.Fast.tw3944218967492933397:True:=trivial
theorem PySem.W.Fast.tw17008231532383661584:True:=trivial
theorem PySem.W.Fast.tw17491031967849462381:True:=trivial
theorem PySem.W.Fast.tw2854899637737207250:True:=trivial
theorem PySem.W.Fast.tw10406472104651621:True:=trivial
theorem PySem.W.Fast.tw17250377998573013289:True:=trivial
theorem PySem.W.Fast.tw3432409988186011575:True:=trivial
theorem PySem.W.Fast.tw1137581624679162804:True:=trivial
theorem PySem.W.Fast.tw376879562446135070:True:=trivial
theorem PySem.W.Fast.tw4279862261113352229:True:=trivial
theorem PySem.W.Fast.tw2396820724906635408:True:=trivial
theorem PySem.W.Fast.tw12055769661208337544:True:=trivial
theorem PySem.W.Fast.tw11861263277666090380:True:=trivial
theorem PySem.W.Fast.tw9634395314084688137:True:=trivial
theorem PySem.W.Fast.tw1650035950461758197:True:=trivial
theorem PySem.W.Fast.tw9187153047288681220:True:=trivial
theorem PySem.W.Fast.tw15214210730819007768:True:=trivial
theorem PySem.W.Fast.tw1394905396289426411:True:=trivial
theorem PySem.W.Fast.tw2688732795722448106:True:=trivial
theorem PySem.W.Fast.tw10208689476150976860:True:=trivial
theorem PySem.W.Fast.tw2587666501449543008:True:=trivial
theorem PySem.W.Fast.tw3878552391244405007:True:=trivial
theorem PySem.W.Fast.tw17229818667400976983:True:=trivial
theorem PySem.W.Fast.tw6749796674060046675:True:=trivial
theorem PySem.W.Fast.tw17076707834190493459:True:=trivial
theorem PySem.W.Fast.tw16965805415395704265:True:=trivial
theorem PySem.W.Fast.tw14127213396810363191:True:=trivial
theorem PySem.W.Fast.tw2008786121850625124:True:=trivial
theorem PySem.W.Fast.tw584693325202182730:True:=trivial
open PySem PySem.W PyProof.Rows
set_option maxRecDepth 100000 in
set_option maxHeartbeats 0 in
theorem PySem.Challenge.cw_soundrules_k21_least_machines_make_the_s_holds : PySem.Challenge.rw_soundrules_k21_least_machines_make_the_s.Holds := by
 w_on;o_law;k_head;(case hw=>w_witness2)
 k_fill
 refine Ev.ahC (l:=PySem.Challenge.rw_soundrules_k21_least_machines_make_the_s) (k:=10) (x:="_law_script") (f:=lD.Uo) rfl (by decide) rfl ⟨rfl,by decide,by decide⟩ (λw h Y=>PySem.W.kIn_of Y) lD.Xf ?F
 case F=>
  intro w mg fa h KX G hmg
  refine' lD.all_mk KX G hmg ?adA ?W9 ?W8 ?LK ?Bv ?adz ?yg ?ady ?W7 ?adx ?adw ?Su ?adv ?LC ?adu ?Ss ?adt ?vM ?zj ?zg ?lq ?RK ?oH ?Cg ?aaT ?Qd ?JH ?uO ?tQ ?rJ ?uP ?zN ?G5 ?Ce ?JG ?Qf ?G6 ?aei ?rH ?vU ?tR ?uQ ?G7 ?wX ?Qe ?uR ?Cq ?Hg ?Hc ?Ci ?zP ?Cj ?xf ?Hd ?Cp ?G8 ?Hi ?zQ ?xg ?zO ?xj ?G9 ?Hh ?uU ?JK ?wZ ?tM ?Hf ?wY ?uT ?tO ?rK ?Ck ?aej
  (case vM=>(intro d;cases d with|clo=>(show PySem.W.kitOne _ (.type "NoneType") (.type "bool")=some false;kit_is)|non=>(show PySem.W.kitOne _ (.type "NoneType") (.type "bool")=some false;kit_is)|bl=>(show PySem.W.kitOne _ (.type "bool") (.type "bool")=some true;kit_is)|int=>(show PySem.W.kitOne _ (.type "int") (.type "bool")=some false;kit_is)|str=>(show PySem.W.kitOne _ (.type "str") (.type "bool")=some false;kit_is)|tup=>(show PySem.W.kitOne _ (.type "tuple") (.type "bool")=some false;kit_is)|lst=>(show PySem.W.kitOne _ (.type "list") (.type "bool")=some false;kit_is)|arr=>(show PySem.W.kitOne _ (.type "list") (.type "bool")=some false;kit_is)|dct=>(show PySem.W.kitOne _ (.type "dict") (.type "bool")=some false;kit_is)|iY=>(show PySem.W.kitOne _ (.type "dict") (.type "bool")=some false;kit_is)))
  (case zj=>(intro d;cases d with|clo=>(show PySem.W.kitOne _ (.type "NoneType") (.type "int")=some false;kit_is)|non=>(show PySem.W.kitOne _ (.type "NoneType") (.type "int")=some false;kit_is)|bl=>(show PySem.W.kitOne _ (.type "bool") (.type "int")=some true;kit_is)|int=>(show PySem.W.kitOne _ (.type "int") (.type "int")=some true;kit_is)|str=>(show PySem.W.kitOne _ (.type "str") (.type "int")=some false;kit_is)|tup=>(show PySem.W.kitOne _ (.type "tuple") (.type "int")=some false;kit_is)|lst=>(show PySem.W.kitOne _ (.type "list") (.type "int")=some false;kit_is)|arr=>(show PySem.W.kitOne _ (.type "list") (.type "int")=some false;kit_is)|dct=>(show PySem.W.kitOne _ (.type "dict") (.type "int")=some false;kit_is)|iY=>(show PySem.W.kitOne _ (.type "dict") (.type "int")=some false;kit_is)))
  (case zg=>(intro d;cases d with|clo=>(show PySem.W.kitOne _ (.type "NoneType") (.type "str")=some false;kit_is)|non=>(show PySem.W.kitOne _ (.type "NoneType") (.type "str")=some false;kit_is)|bl=>(show PySem.W.kitOne _ (.type "bool") (.type "str")=some false;kit_is)|int=>(show PySem.W.kitOne _ (.type "int") (.type "str")=some false;kit_is)|str=>(show PySem.W.kitOne _ (.type "str") (.type "str")=some true;kit_is)|tup=>(show PySem.W.kitOne _ (.type "tuple") (.type "str")=some false;kit_is)|lst=>(show PySem.W.kitOne _ (.type "list") (.type "str")=some false;kit_is)|arr=>(show PySem.W.kitOne _ (.type "list") (.type "str")=some false;kit_is)|dct=>(show PySem.W.kitOne _ (.type "dict") (.type "str")=some false;kit_is)|iY=>(show PySem.W.kitOne _ (.type "dict") (.type "str")=some false;kit_is)))
  (case lq=>(intro d;cases d with|clo=>(show PySem.W.kitOne _ (.type "NoneType") (.type "tuple")=some false;kit_is)|non=>(show PySem.W.kitOne _ (.type "NoneType") (.type "tuple")=some false;kit_is)|bl=>(show PySem.W.kitOne _ (.type "bool") (.type "tuple")=some false;kit_is)|int=>(show PySem.W.kitOne _ (.type "int") (.type "tuple")=some false;kit_is)|str=>(show PySem.W.kitOne _ (.type "str") (.type "tuple")=some false;kit_is)|tup=>(show PySem.W.kitOne _ (.type "tuple") (.type "tuple")=some true;kit_is)|lst=>(show PySem.W.kitOne _ (.type "list") (.type "tuple")=some false;kit_is)|arr=>(show PySem.W.kitOne _ (.type "list") (.type "tuple")=some false;kit_is)|dct=>(show PySem.W.kitOne _ (.type "dict") (.type "tuple")=some false;kit_is)|iY=>(show PySem.W.kitOne _ (.type "dict") (.type "tuple")=some false;kit_is)))
  (case RK=>k_is)
  (case oH=>k_is)
  all_goals first|k_is|(refine' Ev.FA.mk ?a ?l ?c ?k;(case a=>k_is);(case l=>k_is);(case c=>k_is);(case k=>k_is))|(refine' Ev.FC.mk ?a ?l ?c ?k ?lc ?v;(case a=>k_is);(case l=>k_is);(case c=>k_is);(case k=>k_is);(case lc=>k_is);(case v=>exact rfl))

